import PyProof.Rows.All
import Wide.All
import OpenK.AllK
import Wide.FinOn
import Lean
import PyProof.EqAt
import PyProof.EqKinds
import PyProof.TupleCall
import PySem.Challenge.RW_duehall_k38_whole_shown_moments
set_option Elab.async false
set_option linter.all false
set_option maxRecDepth 100000
set_option compiler.extract_closed false
local macro_rules | `(tactic|lia)=>`(tactic|first|lia(splits:=9)|omega)
theorem aa:type_of% @PySem.wpAny_bind:=@PySem.wpAny_bind
theorem ai:type_of% @PySem.wpAny_pure:=@PySem.wpAny_pure
theorem aF:type_of% @PySem.Heap.get?_push_of_some:=@PySem.Heap.get?_push_of_some
theorem aR:type_of% @PySem.Heap.lt_size:=@PySem.Heap.lt_size
theorem aE:type_of% @Nat.le_refl:=@Nat.le_refl
theorem ay:type_of% @PyProof.Rows.wpS_bind:=@PyProof.Rows.wpS_bind
theorem aG:type_of% @PyProof.Rows.wpS_pure:=@PyProof.Rows.wpS_pure
theorem bg:type_of% @bind_congr:=@bind_congr
theorem be:type_of% @List.mem_append_right:=@List.mem_append_right
theorem bu:type_of% @List.mem_append_left:=@List.mem_append_left
theorem bh:type_of% @List.mem_cons_of_mem:=@List.mem_cons_of_mem
open PySem.W (Frag findIn kitOne kia_one fnOf codeIn nsIn excIn mg_of mg_none_of)
theorem Zq(_:0=0:=by rfl):0=0:=rfl
theorem Zr(_:0=0:=by decide):0=0:=rfl
theorem Zs(_:Nat->0=0:=by intro _;rfl):0=0:=rfl
namespace L2
open PySem PySem.Spec PyProof.Rows
noncomputable abbrev aA:=Sum Int Str
noncomputable def iA:aA->Value->Bool
 | .inl k,v=>Value.isInt k v
 | .inr x,v=>Value.isStrOf x v
noncomputable def zy(w:World):aA->Int
 | .inl k=>hashInt k
 | .inr x=>hashStr w x
theorem fu:∀{k:aA}{v:Value},iA k v=true->(∃i t,k=Sum.inl i/\v=Value.int i t)\/(∃x t,k=Sum.inr x/\v=Value.str x t)
 | .inl i,v,h=>by obtain⟨t,e⟩:=Value.isInt_shape (k:=i) (v:=v) h;exact .inl ⟨i,t,rfl,e⟩
 | .inr x,v,h=>by obtain⟨t,e⟩:=Value.isStrOf_shape (x:=x) (v:=v) h;exact .inr ⟨x,t,rfl,e⟩
theorem zz(i:Int)(t:Tok):iA (.inl i) (.int i t)=true:=by simp[iA,Value.isInt]
theorem zG(x:Str)(t:Tok):iA (.inr x) (.str x t)=true:=by simp[iA,Value.isStrOf]
theorem zH(a b:Int):decide ((Sum.inl a:aA)=Sum.inl b)=(a==b):=by
 by_cases e:a=b
 .subst e;simp
 .have h:¬ (Sum.inl a:aA)=Sum.inl b:=fun q=>e (Sum.inl.inj q);rw[decide_eq_false h];exact(beq_eq_false_iff_ne.mpr e).symm
theorem zI(a b:Str):decide ((Sum.inr a:aA)=Sum.inr b)=decide (a=b):=by
 by_cases e:a=b
 .subst e;simp
 .have h:¬ (Sum.inr a:aA)=Sum.inr b:=fun q=>e (Sum.inr.inj q);rw[decide_eq_false h,decide_eq_false e]
theorem zJ(a:Int)(b:Str):decide ((Sum.inl a:aA)=Sum.inr b)=false:=decide_eq_false (fun q=>nomatch q)
theorem zK(a:Str)(b:Int):decide ((Sum.inr a:aA)=Sum.inl b)=false:=decide_eq_false (fun q=>nomatch q)
noncomputable def dA(prog:Program)(w:World):PySem.KeyKind prog w aA where
 is:=iA
 hash:=zy w
 inj:=fun v a b ha hb=>by
  rcases fu ha with⟨i,t,rfl,rfl⟩ | ⟨x,t,rfl,rfl⟩
  .rcases fu hb with⟨j,u,rfl,e⟩ | ⟨y,u,rfl,e⟩
   .injection e with e1 _;rw[e1]
   .exact nomatch e
  .rcases fu hb with⟨j,u,rfl,e⟩ | ⟨y,u,rfl,e⟩
   .exact nomatch e
   .injection e with e1 _;rw[e1]
 byValue:=fun k v h=>by rcases fu h with⟨i,t,rfl,rfl⟩ | ⟨x,t,rfl,rfl⟩<;>rfl
 pyHash:=fun hv h=>by
  rcases fu hv with⟨i,t,rfl,rfl⟩ | ⟨x,t,rfl,rfl⟩
  .exact wpAny_pyHash_int h
  .exact wpAny_pyHash_str h
 eqBool:=fun hu hv h=>by
  rcases fu hu with⟨i,t,rfl,rfl⟩ | ⟨x,t,rfl,rfl⟩
  .rcases fu hv with⟨j,u,rfl,rfl⟩ | ⟨y,u,rfl,rfl⟩
   .rw[zH] at h;exact wpAny_eqBool_int h
   .rw[zJ] at h;exact SeqAt.EqAt.int_str i t y u _ _ _ _ h
  .rcases fu hv with⟨j,u,rfl,rfl⟩ | ⟨y,u,rfl,rfl⟩
   .rw[zK] at h;exact SeqAt.EqAt.str_int x t j u _ _ _ _ h
   .rw[zI] at h;exact wpAny_eqBool_str h
 «strs»:=fun k x t v h=>by
  rcases fu h with⟨i,u,rfl,e⟩ | ⟨y,u,rfl,e⟩
  .exact nomatch e
  .injection e with e1 _
   subst e1;cases v<;>rfl
theorem zL(a:Program)(w:World)(i:Int)(t:Tok):(dA a w).is (.inl i) (.int i t)=true:=zz i t
theorem zM(a:Program)(w:World)(x:Str)(t:Tok):(dA a w).is (.inr x) (.str x t)=true:=zG x t
inductive V where
 | non | bl (b:Bool) | int (i:Int) | str (x:Str) | byt (b:Array UInt8) | flt (b:UInt64) | ref (a:Addr) | ty (n:String)
 deriving DecidableEq
noncomputable def aP:V->Value->Prop
 | .non,u=>u=Value.none
 | .bl b,u=>u=Value.bool b
 | .int i,u=>∃t,u=Value.int i t
 | .str x,u=>∃t,u=Value.str x t
 | .byt b,u=>∃t,u=Value.bytes b t
 | .flt b,u=>∃t,u=Value.float b t
 | .ref a,u=>u=Value.ref a
 | .ty n,u=>u=Value.type n
noncomputable abbrev aM:List V->List Value->Prop:=Paired aP
theorem aM.length{a:List V}{b:List Value}(r:aM a b):a.length=b.length:=Paired.length r
theorem aM.get:∀{a:List V}{b:List Value}{i:Nat}{x:V},aM a b->a[i]? = some x->∃u,b[i]? = some u/\aP x u
 | _,_,_,_,.nil,e=>by simp at e
 | _,_,0,_,.cons r _,e=>by simp at e;subst e;exact⟨_,rfl,r⟩
 | _,_,i+1,x,.cons _ t,e=>by obtain⟨u,h1,h2⟩:=aM.get (i:=i) (x:=x) t (by simpa using e);exact⟨u,by simpa using h1,h2⟩
theorem aM.append:∀{a b:List V}{c d:List Value},aM a c->aM b d->aM (a++b) (c++d)
 | _,_,_,_,.nil,s=>s
 | _,_,_,_,.cons r t,s=>.cons r (aM.append t s)
theorem aM.take:∀{a:List V}{b:List Value}(n:Nat),aM a b->aM (a.take n) (b.take n)
 | _,_,0,_=>.nil
 | _,_,_+1,.nil=>.nil
 | _,_,n+1,.cons r t=>.cons r (aM.take n t)
theorem aM.drop:∀{a:List V}{b:List Value}(n:Nat),aM a b->aM (a.drop n) (b.drop n)
 | _,_,0,r=>r
 | _,_,_+1,.nil=>.nil
 | _,_,n+1,.cons _ t=>aM.drop n t
noncomputable def eJ:Option V->Option Value->Prop
 | some v,some u=>aP v u
 | none,none=>True
 | _,_=>False
noncomputable def KV{κ:Type}:List (κ×V)->List (κ×Value)->Prop:=Paired fun(p:κ×V) (q:κ×Value)=>p.1=q.1/\aP p.2 q.2
noncomputable def kV:aA->V
 | .inl i=>.int i
 | .inr x=>.str x
inductive HO where
 | lst (xs:List V)
 | tup (xs:List V)
 | dK (kvs:List (aA×V)) | dT (kvs:List (List aA×V))
 | set (S:Int->Bool) (n:Nat)
 | ins (C dx:Addr) (fs:List (Str×V))
 | own (x:Addr)
 | xd (fs:List (Str×V))
 | met (f x:Addr)
 | rng (lo hi:Int)
 | frz (o:Obj) (u:HO)
 | tbl (ps:Array Value)
 | ext (φ:Heap->Prop)
noncomputable abbrev Hp:=Addr->Option HO
noncomputable def aS(H:Hp)(a:Addr)(o:HO):Hp:=fun b=>if b=a then some o else H b
theorem cU{H:Hp}{a:Addr}{o:HO}:aS H a o a=some o:=by unfold aS;rw[if_pos rfl]
theorem bQ{H:Hp}{a b:Addr}{o:HO}(h:b≠a):aS H a o b=H b:=by unfold aS;rw[if_neg h]
theorem zN{H:Hp}{a b:Addr}{o u:HO}(h:H a=some o)(c:H b=some u)(d:o≠u):a≠b:=by intro e;subst e;rw[h] at c;exact d (Option.some.inj c)
theorem fw{H:Hp}{a b:Addr}{o:HO}(h:H a=some o)(c:H b=none):a≠b:=by intro e;subst e;rw[h] at c;cases c
section
variable(P:Program)(w:World)
noncomputable def bK(H:Hp)(h:Heap)(a:Addr):HO->Prop
 | .lst d=>d.length<=sizeLine/\∃(b:List Value) (n:Nat),aM d b/\h.get? a=some { cls:=.type "list",data:=.seq b.toArray n }
 | .tup d=>d.length<=sizeLine/\∃b:List Value,aM d b/\IsTup h a b.toArray
 | .dK c=>c.length<=sizeLine/\(a==sysModules)=false/\∃i,KV c i/\h.DictOf (dA P w) a i
 | .dT c=>c.length<=sizeLine/\(a==sysModules)=false/\∃d:List (List aA×Addr×Value),
   Paired (fun(p:List aA×V) (q:List aA×Addr×Value)=>p.1=q.1/\H q.2.1=some (.tup (p.1.map kV))/\aP p.2 q.2.2) c d/\
   ∃o j m,h.get? a=some o/\o.ExactDict/\o.data=.dict j m/\j.toList=d.map (entryOfKey (tupleKind (dA P w)))/\(d.map (·.1)).Nodup
 | .set S n=>h.SetOf (intKind P w) a S n
 | .ins C g fs=>H g=some (.own a)/\fs.length<=1000/\g≠a/\h.get? a=some (PySem.W.instObj C g)/\
   ∃e,h.Ns1 g e/\(∀f,eJ (fs.lookup f) (e f))/\PySem.Within e (fs.map (·.1))
 | .own _=>∃o,h.get? a=some o
 | .xd fs=>∃e,h.Ns1 a e/\∀f,eJ (fs.lookup f) (e f)
 | .rng lo r=>∃t u v,h.get? a=some { cls:=.type "range",data:=.fields #[.int lo t,.int r u,.int 1 v] }
 | .frz o u=>h.get? a=some o/\bK H h a u
 | .tbl s=>h.get? a=some { cls:=.none,data:=.fields s }
 | .met f x=>h.get? a=some (PySem.W.methodObj (.ref f) (.ref x))
 | .ext φ=>φ h/\(∃o,h.get? a=some o)/\∀k l:Heap,φ k->(∀o,k.get? a=some o->l.get? a=some o)->φ l
def bG(H:Hp)(h:Heap):Prop:=∀a o,H a=some o->bK P w H h a o
end
section
variable{P:Program}{w:World}{H Y:Hp}{h Z:Heap}{a:Addr}{o:HO}
theorem bK.lt(x:bK P w H h a o):a<h.objs.size:=by
 cases o with
 | lst c=>obtain⟨_,_,_,_,e⟩:=x;exact aR e
 | tup c=>obtain⟨_,_,_,p⟩:=x;exact p.lt
 | dK b=>obtain⟨_,_,_,_,o,_,_,e,_⟩:=x;exact aR e
 | dT b=>obtain⟨_,_,_,_,o,_,_,e,_⟩:=x;exact aR e
 | set S n=>obtain⟨o,_,_,_,e,_⟩:=x;exact aR e
 | ins C d fs=>obtain⟨_,_,_,e,_⟩:=x;exact aR e
 | own y=>obtain⟨_,e⟩:=x;exact aR e
 | xd fs=>obtain⟨_,⟨_,_,_,e,_⟩,_⟩:=x;exact aR e
 | rng lo g=>obtain⟨_,_,_,e⟩:=x;exact aR e
 | frz ob u=>obtain⟨e,_⟩:=x;exact aR e
 | tbl i=>exact aR (show h.get? a=some _ from x)
 | met f y=>exact aR (show h.get? a=some _ from x)
 | ext φ=>obtain⟨_,⟨_,e⟩,_⟩:=x;exact aR e
theorem Paired.mapP{α β:Type}{F G:α->β->Prop}:∀{c:List α}{d:List β},Paired F c d->(∀a b,F a b->G a b)->Paired G c d
 | _,_,.nil,_=>.nil
 | _,_,.cons r t,f=>.cons (f _ _ r) (Paired.mapP t f)
theorem bK.stay(x:bK P w H h a o)(k:∀b u,(b=a\/H b=some (.own a))->h.get? b=some u->Z.get? b=some u)
  (D:∀b,H b=some (.own a)->Y b=some (.own a)) (E:∀b l,H b=some (.tup l)->Y b=some (.tup l)):bK P w Y Z a o:=by
 induction o with
 | lst l=>obtain⟨z,j,n,r,e⟩:=x;exact⟨z,j,n,r,k _ _ (.inl rfl) e⟩
 | tup l=>obtain⟨z,j,r,g,e,c⟩:=x;exact⟨z,j,r,g,k _ _ (.inl rfl) e,c⟩
 | dK m=>obtain⟨z,y,G,r,g,es,i,e,c⟩:=x;exact⟨z,y,G,r,g,es,i,k _ _ (.inl rfl) e,c⟩
 | dT m=>obtain⟨z,y,l,r,g,es,i,e,c⟩:=x;exact⟨z,y,l,Paired.mapP r fun p q z=>⟨z.1,E _ _ z.2.1,z.2.2⟩,g,es,i,k _ _ (.inl rfl) e,c⟩
 | set S n=>obtain⟨g,es,i,t,e,c⟩:=x;exact⟨g,es,i,t,k _ _ (.inl rfl) e,c⟩
 | ins C L fs=>obtain⟨d,z,ne,e,s,⟨A,es,i,I,c⟩,r⟩:=x;exact⟨D _ d,z,ne,k _ _ (.inl rfl) e,s,⟨A,es,i,k _ _ (.inr d) I,c⟩,r⟩
 | own y=>obtain⟨g,e⟩:=x;exact⟨g,k _ _ (.inl rfl) e⟩
 | xd fs=>obtain⟨s,⟨A,es,i,e,c⟩,r⟩:=x;exact⟨s,⟨A,es,i,k _ _ (.inl rfl) e,c⟩,r⟩
 | rng lo M=>obtain⟨t,u,v,e⟩:=x;exact⟨t,u,v,k _ _ (.inl rfl) e⟩
 | frz g u J=>obtain⟨e,q⟩:=x;exact⟨k _ _ (.inl rfl) e,J q⟩
 | tbl B=>have e:h.get? a=some { cls:=.none,data:=.fields B }:=x;show Z.get? a=some { cls:=.none,data:=.fields B };exact k a _ (.inl rfl) e
 | met f y=>have e:h.get? a=some (PySem.W.methodObj (.ref f) (.ref y)):=x;show Z.get? a=some (PySem.W.methodObj (.ref f) (.ref y));exact k a _ (.inl rfl) e
 | ext φ=>obtain⟨p,⟨o,e⟩,st⟩:=x;exact⟨st _ _ p fun o q=>k _ _ (.inl rfl) q,⟨o,k _ _ (.inl rfl) e⟩,st⟩
theorem bG.lt(x:bG P w H h)(e:H a=some o):a<h.objs.size:=(x a o e).lt
theorem bG.fresh(x:bG P w H h)(e:h.objs.size<=a):H a=none:=by
 cases q:H a with
 | none=>rfl
 | some u=>exact absurd (Nat.lt_of_lt_of_le (x.lt q) e) (Nat.lt_irrefl _)
theorem bG.kept(x:bG P w H h)(k:∀b u,h.get? b=some u->Z.get? b=some u):bG P w H Z:=fun a o e=>(x a o e).stay (fun b u _ q=>k b u q) (fun _ q=>q) fun _ _ q=>q
theorem bG.laid(x:bG P w H h)(k:∀b u,h.get? b=some u->Z.get? b=some u)(g:h.objs.size<=a)(new:bK P w (aS H a o) Z a o):bG P w (aS H a o) Z:=fun b u e=>by
 have d:=x.fresh g
 by_cases f:b=a
 .subst f;rw[cU] at e;cases e;exact new
 .rw[bQ f] at e;exact(x b u e).stay (fun c v _ q=>k c v q) (fun c q=>by rw[bQ (fw q d)];exact q) fun c i q=>by rw[bQ (fw q d)];exact q
end
def Rd(H:Hp)(a:Addr)(u:HO):Prop:=H a=some u\/∃o,H a=some (.frz o u)
theorem Rd.of{H:Hp}{a:Addr}{u:HO}(h:H a=some u):Rd H a u:=.inl h
theorem Rd.ok{P:Program}{w:World}{H:Hp}{h:Heap}{a:Addr}{u:HO}(r:Rd H a u)(x:bG P w H h):bK P w H h a u:=by
 rcases r with r | ⟨o,r⟩
 .exact x a u r
 .obtain⟨_,q⟩:=x a _ r;exact q
noncomputable def kh:Option HO->Prop
 | some (.lst _)=>True
 | some (.dK _)=>True
 | some (.dT _)=>True
 | some (.set _ _)=>True
 | some (.ins _ _ _)=>True
 | some (.ext _)=>True
 | _=>False
section
variable{P:Program}{w:World}{H:Hp}{h X:Heap}{x e:Addr}{U:HO}
theorem bG.write(ok:bG P w H h)(g:kh (H x))(n:e=x\/H e=some (.own x))(k:∀b u,b≠e->h.get? b=some u->X.get? b=some u)(m:∃u,X.get? e=some u)
  (new:bK P w (aS H x U) X x U):bG P w (aS H x U) X:=fun b u q=>by
 have d:∀c y,H c=some (.own y)->c≠x:=fun c y r z=>by subst z;rw[r] at g;exact g
 have f:∀c i,H c=some (.tup i)->c≠x:=fun c i r z=>by subst z;rw[r] at g;exact g
 by_cases j:b=x
 .subst j;rw[cU] at q;cases q;exact new
 .rw[bQ j] at q
  by_cases a:b=e
  .have o:H b=some (.own x):=by
    rcases n with z | z
    .exact absurd (a.trans z) j
    .rw[a];exact z
   rw[q] at o;cases o;obtain⟨v,p⟩:=m;exact⟨v,by rw[a];exact p⟩
  .refine(ok b u q).stay (fun c v l r=>k c v ?_ r) (fun c r=>by rw[bQ (d c b r)];exact r) fun c i r=>by rw[bQ (f c i r)];exact r
   rcases l with rfl | l
   .exact a
   .rintro rfl;rcases n with z | z
    .exact d c b l z
    .rw[l] at z;cases z;exact j rfl
end
structure Un (fs ex:List Addr) (H H':Hp) (h h':Heap):Prop where
 keep:∀b o,h.get? b=some o->H b=none->b∉fs->b∉ex->h'.get? b=some o
 slot:∀b o,h.get? b=some o->H b=none->b∈fs->b∉ex->∃sl,h'.get? b=some { o with slots:=sl }
 free:∀b o,h.get? b=some o->H b=none->b∉ex->H' b=none
 there:∀b o,h.get? b=some o->b∉ex->∃o',h'.get? b=some o'
 tups:∀b xs,H b=some (.tup xs)->H' b=some (.tup xs)
 frzs:∀b o u,H b=some (.frz o u)->H' b=some (.frz o u)
 tbls:∀b ps,H b=some (.tbl ps)->∃more,H' b=some (.tbl (ps++more))
section
variable{fs S ex R:List Addr}{H Q O:Hp}{h h1 h2 T:Heap}{a x e:Addr}{o:HO}
theorem Un.any(u:Un fs ex H Q h h1){b:Addr}{c:Obj}(q:h.get? b=some c)(n:H b=none)(d:b∉ex):∃g,h1.get? b=some { c with slots:=g }:=by
 by_cases f:b∈fs
 .exact u.slot b c q n f d
 .exact⟨c.slots,u.keep b c q n f d⟩
theorem Un.kept(k:∀b u,h.get? b=some u->T.get? b=some u):Un fs ex H H h T:=
 ⟨fun b c q _ _ _=>k b c q,fun b c q _ _ _=>⟨c.slots,k b c q⟩,fun _ _ _ n _=>n,fun b c q _=>⟨c,k b c q⟩,fun _ _ q=>q,fun _ _ _ q=>q,fun _ d q=>⟨#[],by rw[q];simp⟩⟩
theorem Un.refl:Un fs ex H H h h:=Un.kept fun _ _ q=>q
theorem Un.laid(k:∀b u,h.get? b=some u->T.get? b=some u)(hp:h.objs.size<=a)(hn:H a=none):Un fs ex H (aS H a o) h T where
 keep:=fun b u q _ _ _=>k b u q
 slot:=fun b u q _ _ _=>⟨u.slots,k b u q⟩
 free:=fun b u q n _=>by rw[bQ (Nat.ne_of_lt (Nat.lt_of_lt_of_le (aR q) hp))];exact n
 there:=fun b u q _=>⟨u,k b u q⟩
 tups:=fun b xs q=>by rw[bQ (fw q hn)];exact q
 frzs:=fun b u xs q=>by rw[bQ (fw q hn)];exact q
 tbls:=fun b ps q=>⟨#[],by rw[bQ (fw q hn),q];simp⟩
theorem Un.write(d:kh (H x))(l:e=x\/H e=some (.own x))(k:∀b u,b≠e->h.get? b=some u->T.get? b=some u)(f:∃u,T.get? e=some u):Un fs ex H (aS H x o) h T:=by
 have i:∀b,H b=none->b≠x:=fun b n z=>by subst z;rw[n] at d;exact d
 have j:∀b,H b=none->b≠e:=fun b n z=>by
  subst z;rcases l with r | r
  .exact i b n r
  .rw[n] at r;cases r
 have g:∀b u,H b=some u->¬ kh (some u)->b≠x:=fun b u q m z=>by subst z;rw[q] at d;exact m d
 refine⟨fun b u q n _ _=>k b u (j b n) q,fun b u q n _ _=>⟨u.slots,k b u (j b n) q⟩,fun b u q n _=>by rw[bQ (i b n)];exact n,fun b u q _=>?_,
  fun b p q=>by rw[bQ (g b _ q fun z=>z)];exact q,fun b u p q=>by rw[bQ (g b _ q fun z=>z)];exact q,fun b s q=>⟨#[],by rw[bQ (g b _ q fun z=>z),q];simp⟩⟩
 by_cases c:b=e
 .subst c;exact f
 .exact⟨u,k b u c q⟩
end
noncomputable def mj(h:Heap)(H:Hp):List Addr:=(List.range h.objs.size).filter fun a=>(H a).isSome
noncomputable def gm(h:Heap)(H:Hp):Heap:=PySem.W.hideAll h (mj h H)
theorem zO(h:Heap)(H:Hp):(gm h H).objs.size=h.objs.size:=PySem.W.hideAll_size _ _
theorem zP{h:Heap}{H:Hp}{b:Addr}{o:Obj}(e:h.get? b=some o)(n:H b=none):(gm h H).get? b=some o:=
 PySem.W.hideAll_get _ e fun a=>by have q:(H b).isSome=true:=(List.mem_filter.mp a).2;rw[n] at q;simp at q
theorem zQ{h:Heap}{H:Hp}{b:Addr}{o:Obj}(e:(gm h H).get? b=some o):h.get? b=some o/\H b=none:=by
 have a:h.get? b=some o:=PySem.W.of_hideAll (mj h H) e;refine⟨a,?_⟩;cases q:H b with
 | none=>rfl
 | some x=>have c:b∈mj h H:=List.mem_filter.mpr ⟨List.mem_range.mpr (aR a),by simp[q]⟩;have z:(gm h H).get? b=none:=PySem.W.hideAll_none (mj h H) c;rw[z] at e;cases e
structure Mod (K:Frag) (mg:Str->Option Value) (base:Heap):Prop where
 kin:K.In base
 glob:base.Ns mainGlobals mg
 blt:∃mb,base.Ns builtinsNs mb/\∀x:Str,x≠"__name__"->mb x=bootBuiltins x
 nolimit:base.NoLimit
structure Cx where
 prog:Program
 w:World
 K:Frag
 mg:Str->Option Value
 base:Heap
 A:Around
 N:List Str
 s₀:Shared
 H₀:Hp
 env:Env
 outer:List Env
 stack:List Env
 ex:List Addr
 fn:Str->Bool
 calm:Bool
 pn:List (Addr×Obj)
 xe:Value->Shared->Prop
noncomputable def bp(l:List Env):List Addr:=l.filterMap (·.frame)
noncomputable abbrev Cx.fs(X:Cx):List Addr:=bp X.outer
def ml(a:Scope)(x:Str):Prop:=a.names.lookup x=some .local\/a.names.lookup x=some .cell\/a.names.lookup x=some .free
def Loc(a:Scope)(x:Str):Prop:=a.names.lookup x=some .local\/a.names.lookup x=some .cell
def zR(a:Env)(h:Heap)(m:Str->Option Value)(x:Str)(u:Value):Prop:=
 (a.kindOf x=some .local/\m x=some u)\/((a.kindOf x=some .cell\/a.kindOf x=some .free)/\∃c,a.cells.lookup x=some c/\h.IsCell c (some u))
structure Cx.Ok (X:Cx):Prop where
 mod:Mod X.K X.mg X.base
 kind:X.env.scope.kind=.function
 glob:X.env.globals=mainGlobals
 blt:X.env.builtins=builtinsNs
 above:X.s₀.heap.objs.size<=X.env.locals
 inj:∀x y c,X.env.cells.lookup x=some c->X.env.cells.lookup y=some c->x=y
 has:∀x,(X.env.kindOf x=some .cell\/X.env.kindOf x=some .free)->∃c,X.env.cells.lookup x=some c
 cab:∀x c,X.fn x=true->X.env.cells.lookup x=some c->X.s₀.heap.objs.size<=c
 hd:X.calm=true->X.A.handled=none
 frames:X.A.frames=some X.stack
 stk:X.stack=X.outer\/(X.stack=X.env::X.outer/\X.env.frame=some X.env.locals)
 exf:∀b∈X.ex,b≠X.env.locals/\∀x c,X.env.cells.lookup x=some c->c≠b
 bs:∀b o,X.base.get? b=some o->X.s₀.heap.get? b=some o/\X.H₀ b=none
 bsz:X.base.objs.size<=X.s₀.heap.objs.size
 noex:∀b o,X.base.get? b=some o->b∉X.ex
 exfs:∀b∈X.ex,b∉X.fs
 funs:X.s₀.heap.FunFrames X.base X.outer
 frf:∀b∈X.fs,X.H₀ b=none
structure Inv (X:Cx) (pins:List (Addr×Obj)) (Y:List (Option V)) (H:Hp) (s:Shared):Prop where
 ok:X.Ok
 os:s.os=X.s₀.os
 bare:AllBare s.gens
 base:Un X.fs X.ex X.H₀ H X.s₀.heap s.heap
 loc:∃m,s.heap.Ns X.env.locals m/\∀(i:Nat) (x:Str) (v:V),X.N[i]? = some x->Y[i]? = some (some v)->ml X.env.scope x->∃u,aP v u/\zR X.env s.heap m x u
 cell:∀x c,X.env.cells.lookup x=some c->∃v,s.heap.IsCell c v
 free:H X.env.locals=none
 freeC:∀x c,X.env.cells.lookup x=some c->H c=none
 pin:∀p∈X.pn++pins,s.heap.get? p.1=some p.2/\H p.1=none/\p.1≠X.env.locals/\p.1∉X.fs/\∀v,p.2.data≠.cell v
 hok:bG X.prog X.w H s.heap
 len:Y.length=X.N.length
section
variable{X:Cx}{J:List (Addr×Obj)}{Y:List (Option V)}{H G:Hp}{s:Shared}{h':Heap}
theorem Cx.Ok.nofr(ok:X.Ok){b:Addr}{o:Obj}(e:X.base.get? b=some o):b∉X.fs:=fun a=>by have:=(ok.funs.mem a).1;rw[e] at this;cases this
theorem Inv.bs(I:Inv X J Y H s):∀b o,X.base.get? b=some o->s.heap.get? b=some o/\H b=none:=fun b o e=>⟨I.base.keep b o (I.ok.bs b o e).1 (I.ok.bs b o e).2 (I.ok.nofr e) (I.ok.noex b o e),I.base.free b o (I.ok.bs b o e).1 (I.ok.bs b o e).2 (I.ok.noex b o e)⟩
theorem Inv.bk(I:Inv X J Y H s):∀b o,X.base.get? b=some o->s.heap.get? b=some o:=fun b o e=>(I.bs b o e).1
theorem Inv.mod(I:Inv X J Y H s):Mod X.K X.mg X.base:=I.ok.mod
theorem Inv.kIn(I:Inv X J Y H s):X.K.In s.heap:=I.ok.mod.kin.keeps I.bk
theorem Inv.lt(I:Inv X J Y H s):X.env.locals<s.heap.objs.size:=let⟨_,a,_⟩:=I.loc;a.lt
theorem Inv.sz(I:Inv X J Y H s):X.s₀.heap.objs.size<=s.heap.objs.size:=Nat.le_trans I.ok.above (Nat.le_of_lt I.lt)
theorem Inv.nofs(I:Inv X J Y H s){a:Addr}(h:s.heap.objs.size<=a):a∉X.fs:=fun b=>by obtain⟨_,o,c,_⟩:=I.ok.funs.mem b;exact absurd (Nat.lt_of_lt_of_le (aR c) (Nat.le_trans I.sz h)) (Nat.lt_irrefl _)
theorem Inv.cne(I:Inv X J Y H s):∀x c,X.env.cells.lookup x=some c->c≠X.env.locals:=fun x c e z=>by obtain⟨v,o,d,hd⟩:=I.cell x c e;obtain⟨m,⟨f,es,g,a,b,_⟩,_⟩:=I.loc;rw[z,a] at d;cases d;rw[b] at hd;cases hd
theorem Inv.funs(I:Inv X J Y H s):s.heap.FunFrames X.base X.outer:=by
 have all:∀(l:List Env),(∀b∈bp l,b∈X.fs)->X.s₀.heap.FunFrames X.base l->s.heap.FunFrames X.base l:=by
  intro l
  induction l with
  | nil=>intro _ _;trivial
  | cons env r g=>intro f h;obtain⟨i,⟨L,o,a,j,k,hd⟩,m⟩:=h;have c:L∈X.fs:=f L (by unfold bp;rw[List.filterMap_cons,a];exact List.mem_cons_self);obtain⟨n,e⟩:=I.base.slot L o k (I.ok.frf L c) c fun z=>I.ok.exfs L z c;exact⟨i,⟨L,_,a,j,e,hd⟩,g (fun b d=>f b (by unfold bp;rw[List.filterMap_cons,a];exact bh _ d)) m⟩
 exact all X.outer (fun _ d=>d) I.ok.funs
theorem Inv.stack(I:Inv X J Y H s):s.heap.FunFrames X.base X.stack:=by
 rcases I.ok.stk with e | ⟨e,a⟩
 .rw[e];exact I.funs
 .rw[e];obtain⟨m,b,_⟩:=I.loc;refine .cons (by rw[I.ok.kind];decide) a b ?_ I.funs;exact Heap.get?_none_of_le (Nat.le_trans I.ok.bsz I.ok.above)
theorem Inv.stkSub(I:Inv X J Y H s):∀b∈bp X.stack,b∈X.env.locals::X.fs:=fun b a=>by
 rcases I.ok.stk with e | ⟨e,c⟩
 .rw[e] at a;exact bh _ a
 .rw[e] at a;unfold bp at a;rw[List.filterMap_cons,c] at a;exact a
theorem Inv.stkFree(I:Inv X J Y H s):∀b∈bp X.stack,H b=none:=fun b a=>by
 rcases List.mem_cons.mp (I.stkSub b a) with e | a
 .rw[e];exact I.free
 .obtain⟨_,o,c,_⟩:=I.ok.funs.mem a;exact I.base.free b o c (I.ok.frf b a) fun z=>I.ok.exfs b z a
theorem Inv.step{g':Array GenState}{t':Nat}{d':Drawn}{ch:List Addr}(I:Inv X J Y H s)
  (f:∀b∈ch,(b∈X.ex\/X.s₀.heap.objs.size<=b)/\b≠X.env.locals/\(∀x c,X.env.cells.lookup x=some c->c≠b)/\∀p∈X.pn++J,p.1≠b)
  (keep:∀b o,b≠X.env.locals->b∉X.fs->b∉ch->s.heap.get? b=some o->H b=none->h'.get? b=some o)
  (slot:∀b o,b≠X.env.locals->b∈X.fs->b∉ch->s.heap.get? b=some o->H b=none->∃Q,h'.get? b=some { o with slots:=Q }) (free:∀b o,b∉ch->s.heap.get? b=some o->H b=none->G b=none)
  (there:∀b o,b∉ch->s.heap.get? b=some o->∃C,h'.get? b=some C)
  (L:∀b y,H b=some (.tup y)->G b=some (.tup y)) (M:∀b o u,H b=some (.frz o u)->G b=some (.frz o u)) (N:∀b O,H b=some (.tbl O)->∃more,G b=some (.tbl (O++more)))
  (ns:∀m,s.heap.Ns X.env.locals m->h'.Ns X.env.locals m) (S:bG X.prog X.w G h') (hg:AllBare g') :
  Inv X J Y G { s with heap:=h',gens:=g',drawn:=d',toks:=t' }:=by
 have D:∀b o,X.s₀.heap.get? b=some o->b≠X.env.locals:=fun b o e=>Nat.ne_of_lt (Nat.lt_of_lt_of_le (aR e) I.ok.above);have j:∀b o,X.s₀.heap.get? b=some o->b∉X.ex->b∉ch:=fun b o e a A=>by
  rcases(f b A).1 with z | z
  .exact a z
  .exact absurd (Nat.lt_of_lt_of_le (aR e) z) (Nat.lt_irrefl _)
 have g:∀x c,X.env.cells.lookup x=some c->∀v,s.heap.IsCell c v->h'.IsCell c v:=fun x c e v ⟨o,B,hd⟩=>by
  have h:c∉ch:=fun z=>(f c z).2.2.1 x c e rfl
  by_cases T:c∈X.fs
  .obtain⟨Q,q⟩:=slot c o (I.cne x c e) T h B (I.freeC x c e);exact⟨_,q,hd⟩
  .exact⟨o,keep c o (I.cne x c e) T h B (I.freeC x c e),hd⟩
 refine⟨I.ok,I.os,hg,⟨fun b o e n A a=>?_,fun b o e n A a=>?_,fun b o e n a=>?_,fun b o e a=>?_,fun b y e=>L b y (I.base.tups b y e),fun b o y e=>M b o y (I.base.frzs b o y e),fun b O e=>?_⟩,?_,fun x c e=>?_,?_,fun x c e=>?_,fun p U=>?_,S,I.len⟩
 .exact keep b o (D b o e) A (j b o e a) (I.base.keep b o e n A a) (I.base.free b o e n a)
 .obtain⟨Q,t⟩:=I.base.slot b o e n A a;obtain⟨R,E⟩:=slot b _ (D b o e) A (j b o e a) t (I.base.free b o e n a);exact⟨R,E⟩
 .obtain⟨C,t⟩:=I.base.there b o e a;exact free b C (j b o e a) t (I.base.free b o e n a)
 .obtain⟨C,t⟩:=I.base.there b o e a;exact there b C (j b o e a) t
 .obtain⟨m1,t⟩:=I.base.tbls b O e;obtain⟨m2,E⟩:=N b _ t;exact⟨m1++m2,by rw[E,Array.append_assoc]⟩
 .obtain⟨m,hn,hl⟩:=I.loc;refine⟨m,ns m hn,fun i x v t E e3=>?_⟩;obtain⟨u,r,l⟩:=hl i x v t E e3;refine⟨u,r,?_⟩;rcases l with l | ⟨k,c,e,z⟩
  .exact .inl l
  .exact .inr ⟨k,c,e,g x c e _ z⟩
 .obtain⟨v,z⟩:=I.cell x c e;exact⟨v,g x c e v z⟩
 .obtain⟨m,⟨o,_,_,B,_⟩,_⟩:=I.loc;exact free _ o (fun z=>(f _ z).2.1 rfl) B I.free
 .obtain⟨v,o,B,hd⟩:=I.cell x c e;exact free c o (fun z=>(f c z).2.2.1 x c e rfl) B (I.freeC x c e)
 .obtain⟨e,n,ne,Z,d⟩:=I.pin p U;have h:p.1∉ch:=fun z=>(f p.1 z).2.2.2 p U rfl;exact⟨keep p.1 p.2 ne Z h e n,free p.1 p.2 h e n,ne,Z,d⟩
theorem Inv.un{t':Nat}(I:Inv X J Y H s)(u:Un X.fs [] H G s.heap h')(g:bG X.prog X.w G h'):Inv X J Y G { s with heap:=h',toks:=t' }:=by
 obtain⟨m,⟨o,es,l,h,r⟩,_⟩:=id I.loc;obtain⟨p,i⟩:=u.any h I.free (by simp);exact I.step (g':=s.gens) (d':=s.drawn) (ch:=[]) (fun _ z=>nomatch z) (fun b o _ c _ e n=>u.keep b o e n c (by simp)) (fun b o _ c _ e n=>u.slot b o e n c (by simp)) (fun b o _ e n=>u.free b o e n (by simp)) (fun b o _ e=>u.there b o e (by simp)) u.tups u.frzs u.tbls (fun q j=>by
  obtain⟨t,d,f,a,k⟩:=j;rw[h] at a;cases a;exact⟨_,d,f,i,k⟩) g I.bare
theorem Inv.call{g':Array GenState}{t':Nat}{d':Drawn}{ch:List Addr}(I:Inv X J Y H s)(u:Un (bp X.stack) ch H G s.heap h')(j:bG X.prog X.w G h')(l:AllBare g')
  (d:∀b∈ch,(b∈X.ex\/X.s₀.heap.objs.size<=b)/\b≠X.env.locals/\(∀x c,X.env.cells.lookup x=some c->c≠b)/\∀p∈X.pn++J,p.1≠b) :
  Inv X J Y G { s with heap:=h',gens:=g',drawn:=d',toks:=t' }:=by
 obtain⟨m,⟨o,es,y,k,r⟩,_⟩:=id I.loc;obtain⟨A,g⟩:=u.any k I.free fun z=>(d _ z).2.1 rfl;exact I.step (ch:=ch) d (fun b o g q a e n=>u.keep b o e n (fun z=>(List.mem_cons.mp (I.stkSub b z)).elim g q) a) (fun b o _ _ a e n=>u.any e n a) (fun b o a e n=>u.free b o e n a) (fun b o a e=>u.there b o e a) u.tups u.frzs u.tbls (fun B t=>by
  obtain⟨C,h,i,f,v⟩:=t;rw[k] at f;cases f;exact⟨_,h,i,g,v⟩) j l
theorem Inv.turned{t':Nat}{it:Addr}(I:Inv X J Y H s)(k:∀b o,b≠it->s.heap.get? b=some o->h'.get? b=some o)(g:H it=none)(f:it≠X.env.locals)
  (t:it∈X.ex\/X.s₀.heap.objs.size<=it) (w:∀x c,X.env.cells.lookup x=some c->c≠it) (y:∀p∈X.pn++J,p.1≠it):Inv X J Y H { s with heap:=h',toks:=t' }:=by
 have d:∀b u,H b=some u->b≠it:=fun b u e z=>by rw[z,g] at e;cases e
 refine I.step (g':=s.gens) (d':=s.drawn) (ch:=[it]) (fun b h=>?_) (fun b o _ _ a e _=>k b o (fun z=>a (by simp[z])) e) (fun b o _ _ a e _=>⟨o.slots,k b o (fun z=>a (by simp[z])) e⟩) (fun _ _ _ _ n=>n)
  (fun b o a e=>⟨o,k b o (fun z=>a (by simp[z])) e⟩) (fun _ _ e=>e) (fun _ _ _ e=>e) (fun b A e=>⟨#[],by rw[e];simp⟩) (fun m i=>?_) (fun b u e=>?_) I.bare
 .have e:b=it:=by simpa using h
  subst e;exact⟨t,f,w,y⟩
 .obtain⟨o,es,j,l,r⟩:=i;exact⟨o,es,j,k _ o (Ne.symm f) l,r⟩
 .refine(I.hok b u e).stay (fun c v a q=>k c v ?_ q) (fun _ q=>q) fun _ _ q=>q;rcases a with z | z
  .rw[z];exact d b u e
  .exact d c _ z
theorem Inv.tok(I:Inv X J Y H s)(t:Nat):Inv X J Y H { s with toks:=t }:=I.un (h':=s.heap) (t':=t) Un.refl I.hok
theorem Inv.kept{t':Nat}(I:Inv X J Y H s)(k:∀b u,s.heap.get? b=some u->h'.get? b=some u):Inv X J Y H { s with heap:=h',toks:=t' }:=I.un (Un.kept k) (I.hok.kept k)
theorem Inv.laid{a:Addr}{o:HO}{t':Nat}(I:Inv X J Y H s)(k:∀b u,s.heap.get? b=some u->h'.get? b=some u)(c:s.heap.objs.size<=a)(new:bK X.prog X.w (aS H a o) h' a o) :
  Inv X J Y (aS H a o) { s with heap:=h',toks:=t' }:=I.un (Un.laid k c (I.hok.fresh c)) (I.hok.laid k c new)
theorem Inv.write{x e:Addr}{o:HO}{t':Nat}(I:Inv X J Y H s)(c:kh (H x))(d:e=x\/H e=some (.own x))(k:∀b u,b≠e->s.heap.get? b=some u->h'.get? b=some u)(a:∃u,h'.get? e=some u)
  (new:bK X.prog X.w (aS H x o) h' x o):Inv X J Y (aS H x o) { s with heap:=h',toks:=t' }:=I.un (Un.write c d k a) (I.hok.write c d k a new)
theorem Inv.pins_of{pins':List (Addr×Obj)}(I:Inv X J Y H s)(h:∀p∈pins',s.heap.get? p.1=some p.2/\H p.1=none/\p.1≠X.env.locals/\p.1∉X.fs/\∀v,p.2.data≠.cell v):Inv X pins' Y H s:=
 ⟨I.ok,I.os,I.bare,I.base,I.loc,I.cell,I.free,I.freeC,fun p a=>(List.mem_append.mp a).elim (fun z=>I.pin p (bu _ z)) (h p),I.hok,I.len⟩
theorem tj{N:List Str}(c:N.Nodup){i j:Nat}{x:Str}(a:N[i]? = some x)(b:N[j]? = some x):i=j:=by obtain⟨f,d⟩:=List.getElem?_eq_some_iff.mp a;obtain⟨g,e⟩:=List.getElem?_eq_some_iff.mp b;exact(List.getElem_inj c).mp (d.trans e.symm)
theorem tm{M:Model}{A:Around}{E:Value->Shared->Prop}{i:Nat}{x:Str}{v:V}{u:Value}{Q:Unit->Shared->Prop}(I:Inv X J Y H s)(hN:X.N.Nodup)(T:X.N[i]? = some x)(B:Loc X.env.scope x)(r:aP v u)
  (h:∀s',Inv X J (Y.set i (some v)) H s'->(∃a,Heap.SameBut a s.heap s'.heap/\(a=X.env.locals\/X.env.cells.lookup x=some a))->Q () s') (hf:X.fn x=true\/X.env.scope.names.lookup x=some .local:=by first | exact .inl rfl | exact .inr rfl | assumption):wpAny M A (storeName X.env x u) Q E s:=by
 obtain⟨m,hn,hl⟩:=id I.loc;have U:(X.env.scope.kind==.class||(X.env.scope.kind==.module&&X.env.locals != X.env.globals))=false:=by rw[I.ok.kind];rfl
 have Z:i<Y.length:=by rw[I.len];exact(List.getElem?_eq_some_iff.mp T).1
 have cne:=I.cne;have g:∀{a:Addr}{h':Heap},(∃o,s.heap.get? a=some o/\H a=none)->Heap.SameBut a s.heap h'->bG X.prog X.w H h':=fun {a h'} ha f b ob e=>by
  obtain⟨_,_,C⟩:=ha;refine(I.hok b ob e).stay (fun c w' t q=>(f.2 c ?_).trans q) (fun _ q=>q) fun _ _ q=>q;rintro rfl;rcases t with rfl | t
  .rw[C] at e;cases e
  .rw[C] at t;cases t
 rcases B with L | L
 .refine wpAny_storeName_local L hn (fun h' a4 f=>?_) U;obtain⟨oL,_,_,a5,_⟩:=id hn;refine h _ ⟨I.ok,I.os,I.bare,⟨fun b o e n O B=>?_,fun b o e n O B=>?_,I.base.free,fun b o e B=>?_,I.base.tups,I.base.frzs,I.base.tbls⟩,⟨_,a4,fun j y v' l D e3=>?_⟩,fun y c e=>?_,I.free,I.freeC,fun p hp=>?_,g ⟨oL,a5,I.free⟩ f,by simpa using I.len⟩ ⟨_,f,.inl rfl⟩
  .exact(f.2 b (Nat.ne_of_lt (Nat.lt_of_lt_of_le (aR e) I.ok.above))).trans (I.base.keep b o e n O B)
  .obtain⟨sl,l⟩:=I.base.slot b o e n O B;exact⟨sl,(f.2 b (Nat.ne_of_lt (Nat.lt_of_lt_of_le (aR e) I.ok.above))).trans l⟩
  .obtain⟨o',l⟩:=I.base.there b o e B;exact⟨o',(f.2 b (Nat.ne_of_lt (Nat.lt_of_lt_of_le (aR e) I.ok.above))).trans l⟩
  .by_cases R:j=i
   .subst R;rw[T] at l;cases l;rw[List.getElem?_set_self Z] at D;cases D;exact⟨u,r,.inl ⟨L,by simp⟩⟩
   .rw[List.getElem?_set_ne (Ne.symm R)] at D;obtain⟨u',r',q⟩:=hl j y v' l D e3;refine⟨u',r',?_⟩;rcases q with⟨k,e⟩ | ⟨k,c,e,z⟩
    .refine .inl ⟨k,?_⟩;have:y≠x:=fun e=>R (tj hN l (e▸T));simp[this,e]
    .exact .inr ⟨k,c,e,z.sameBut f (cne y c e)⟩
  .obtain⟨w',z⟩:=I.cell y c e;exact⟨w',z.sameBut f (cne y c e)⟩
  .obtain⟨e,n,ne,nf,d⟩:=I.pin p hp;exact⟨(f.2 p.1 ne).trans e,n,ne,nf,d⟩
 .have S:X.fn x=true:=by
   rcases hf with z | z
   .exact z
   .rw[z] at L;cases L
  obtain⟨c,t⟩:=I.ok.has x (.inl L);obtain⟨w',z⟩:=I.cell x c t;refine wpAny_storeName_cell I.ok.kind L t z (fun h' a0 f=>?_);obtain⟨oc,a1,a2⟩:=id z;refine h { s with heap:=h' } ⟨I.ok,I.os,I.bare,⟨fun b o e n O B=>?_,fun b o e n O B=>?_,I.base.free,fun b o e B=>?_,I.base.tups,I.base.frzs,I.base.tbls⟩,⟨m,hn.sameBut f (Ne.symm (cne x c t)),fun j y v' l D e3=>?_⟩,fun y c' e=>?_,I.free,I.freeC,fun p hp=>?_,g ⟨oc,a1,I.freeC x c t⟩ f,by simpa using I.len⟩ ⟨c,f,.inr t⟩
  .exact(f.2 b (Nat.ne_of_lt (Nat.lt_of_lt_of_le (aR e) (I.ok.cab x c S t)))).trans (I.base.keep b o e n O B)
  .obtain⟨sl,l⟩:=I.base.slot b o e n O B;exact⟨sl,(f.2 b (Nat.ne_of_lt (Nat.lt_of_lt_of_le (aR e) (I.ok.cab x c S t)))).trans l⟩
  .obtain⟨o',l⟩:=I.base.there b o e B;exact⟨o',(f.2 b (Nat.ne_of_lt (Nat.lt_of_lt_of_le (aR e) (I.ok.cab x c S t)))).trans l⟩
  .by_cases R:j=i
   .subst R;rw[T] at l;cases l;rw[List.getElem?_set_self Z] at D;cases D;exact⟨u,r,.inr ⟨.inl L,c,t,a0⟩⟩
   .rw[List.getElem?_set_ne (Ne.symm R)] at D;obtain⟨u',r',q⟩:=hl j y v' l D e3;refine⟨u',r',?_⟩;rcases q with q | ⟨k,c',e,z'⟩
    .exact .inl q
    .refine .inr ⟨k,c',e,z'.sameBut f ?_⟩;rintro rfl;exact R (tj hN l (I.ok.inj _ _ _ e t▸T))
  .by_cases a3:c' = c
   .subst a3;exact⟨_,a0⟩
   .obtain⟨w2,z2⟩:=I.cell y c' e;exact⟨w2,z2.sameBut f a3⟩
  .obtain⟨e,n,ne,nf,d⟩:=I.pin p hp;refine⟨(f.2 p.1 ?_).trans e,n,ne,nf,d⟩;intro q;rw[q,a1] at e;have q':oc=p.2:=Option.some.inj e;exact d w' (by rw[<-q'];exact a2)
theorem tp{M:Model}{A:Around}{E:Value->Shared->Prop}{i:Nat}{x:Str}{v:V}{u:Value}{Q:Unit->Shared->Prop}(I:Inv X J Y H s)(b:X.N.Nodup)(c:X.N[i]? = some x)(d:Loc X.env.scope x)(r:aP v u)
  (h:∀a,Inv X J (Y.set i (some v)) H a->Q () a) (e:X.fn x=true\/X.env.scope.names.lookup x=some .local:=by first | exact .inl rfl | exact .inr rfl | assumption):wpAny M A (storeName X.env x u) Q E s:=
 tm I b c d r (fun a f _=>h a f) e
theorem Inv.call'{a:Shared}{ch:List Addr}(I:Inv X J Y H s)(g:a.os=s.os)(u:Un (bp X.stack) ch H G s.heap a.heap)(f:bG X.prog X.w G a.heap)(h:AllBare a.gens)
  (d:∀b∈ch,(b∈X.ex\/X.s₀.heap.objs.size<=b)/\b≠X.env.locals/\(∀x c,X.env.cells.lookup x=some c->c≠b)/\∀p∈X.pn++J,p.1≠b):Inv X J Y G a:=by
 obtain⟨h',i,j,t',k⟩:=a;have e:k = s.os:=g;subst e;exact I.call (g':=i) (t':=t') (d':=j) u f h d
end
abbrev XK:=Value->Option Addr->Hp->Prop
noncomputable abbrev St:=List (Option V)
abbrev VK:=V->Hp->Prop
abbrev TE:=St->Hp->VK->Prop
abbrev TT:=St->Hp->(Bool->Hp->Prop)->Prop
abbrev TA:=St->Hp->(List V->Hp->Prop)->Prop
structure eK where
 nx:St->Hp->Prop
 rt:VK
 bk:St->Hp->Prop:=fun _ _=>False
 ct:St->Hp->Prop:=fun _ _=>False
abbrev TS:=eK->St->Hp->Prop
def EP(X:Cx)(a:List (Addr×Obj))(Y:St)(Q:VK)(u:Value)(c:Shared):Prop:=∃v b,Inv X a Y b c/\aP v u/\Q v b
def TP(X:Cx)(a:List (Addr×Obj))(Y:St)(Q:Bool->Hp->Prop)(b:Bool)(d:Shared):Prop:=∃c,Inv X a Y c d/\Q b c
def AP(X:Cx)(a:List (Addr×Obj))(Y:St)(Q:List V->Hp->Prop)(d:List Value)(e:Shared):Prop:=∃b c,Inv X a Y c e/\aM b d/\Q b c
def SP(X:Cx)(a:List (Addr×Obj))(D:eK)(f:Flow)(d:Shared):Prop:=
 match f with
 | .next=>∃c b,Inv X a c b d/\D.nx c b
 | .brk=>∃c b,Inv X a c b d/\D.bk c b
 | .cont=>∃c b,Inv X a c b d/\D.ct c b
 | .ret u=>∃v c b,Inv X a c b d/\aP v u/\D.rt v b
def PE(X:Cx)(e:Expr)(t:TE):Prop:=
 ∀(a:List (Addr×Obj)) (s:Shared) (Y:St) (H:Hp) (Q:VK),Inv X a Y H s->t Y H Q->wpAny (model X.prog X.w) X.A (eval e X.env) (EP X a Y Q) X.xe s
def PT(X:Cx)(e:Expr)(t:TT):Prop:=
 ∀(a:List (Addr×Obj)) (s:Shared) (Y:St) (H:Hp) (Q:Bool->Hp->Prop),Inv X a Y H s->t Y H Q->wpAny (model X.prog X.w) X.A (isTrue e X.env (eval e X.env)) (TP X a Y Q) X.xe s
def PW(X:Cx)(e:Expr)(t:TT):Prop:=
 ∀(whole:Sem Value) (a:List (Addr×Obj)) (s:Shared) (Y:St) (H:Hp) (Q:Bool->Hp->Prop),Inv X a Y H s->t Y H Q->wpAny (model X.prog X.w) X.A (isTrue e X.env whole) (TP X a Y Q) X.xe s
theorem PW.pt{X:Cx}{e:Expr}{t:TT}(h:PW X e t):PT X e t:=h _
def PA(X:Cx)(b:List Expr)(t:TA):Prop:=
 ∀(pos:Pos) (a:List (Addr×Obj)) (s:Shared) (Y:St) (H:Hp) (Q:List V->Hp->Prop),Inv X a Y H s->t Y H Q->wpAny (model X.prog X.w) X.A (spliced (backTo pos (starEach b X.env))) (AP X a Y Q) X.xe s
def PS(X:Cx)(st:Stmt)(t:TS):Prop:=
 ∀(a:List (Addr×Obj)) (s:Shared) (Y:St) (H:Hp) (D:eK),Inv X a Y H s->t D Y H->wpAny (model X.prog X.w) X.A (exec st X.env) (SP X a D) X.xe s
def PSs(X:Cx)(st:List Stmt)(t:TS):Prop:=
 ∀(a:List (Addr×Obj)) (s:Shared) (Y:St) (H:Hp) (D:eK),Inv X a Y H s->t D Y H->wpAny (model X.prog X.w) X.A (execs st X.env) (SP X a D) X.xe s
theorem aH{α:Type}{t:Sem α}{Q b:α->Shared->Prop}{M:Model}{A:Around}{E:Value->Shared->Prop}{s:Shared}(h:wpAny M A t Q E s)(c:∀a s,Q a s->b a s):wpAny M A t b E s:=wpAny_mono h c fun _ _ x=>x
section
variable{X:Cx}
noncomputable def cV(i:Nat):TE:=fun Y H Q=>∃v,Y[i]? = some (some v)/\Q v H
noncomputable def tC(v:V):TE:=fun _ H Q=>Q v H
theorem zS{i:Nat}{x:Str}{pos:Pos}(j:X.N[i]? = some x)(k:ml X.env.scope x)(hd:autoParam ((x==("__debug__":Str))=false) Zr._auto_1)(f:autoParam ((x==("__classdict__":Str))=false) Zr._auto_1):PE X (.Name x pos) (cV i):=by
 intro d s Y H Q I h;obtain⟨v,e,h⟩:=h;obtain⟨m,n,o⟩:=I.loc;obtain⟨u,r,l⟩:=o i x v j e k;have fin:EP X d Y Q u s:=⟨v,H,I,r,h⟩
 rcases l with⟨b,p⟩ | ⟨b,c,g,a⟩
 .exact wpAny_Name (wpAny_loadName_local I.ok.kind b n p fin) hd
 .rcases b with b | b
  .exact wpAny_Name (wpAny_loadName_cell I.ok.kind b g a fin) hd
  .exact wpAny_Name (wpAny_loadName_free I.ok.kind b g a fin f) hd
theorem tq{i j pos}:PE X (.Constant (.int i) j pos) (tC (.int i)):=fun _ _ _ H _ I h=>wpAny_Constant_int ⟨.int i,H,I.tok _,⟨_,rfl⟩,h⟩
theorem zT{b j pos}:PE X (.Constant (.bool b) j pos) (tC (.bl b)):=fun _ _ _ H _ I h=>Constant_bool ⟨.bl b,H,I,rfl,h⟩
theorem zU{j pos}:PE X (.Constant .none j pos) (tC .non):=fun _ _ _ H _ I h=>Constant_none ⟨.non,H,I,rfl,h⟩
theorem zV{x j pos}:PE X (.Constant (.str x) j pos) (tC (.str x)):=fun _ _ _ H _ I h=>Calls.Constant_str ⟨.str x,H,I.tok _,⟨_,rfl⟩,h⟩
def Gl(X:Cx)(x:Str):Prop:=X.env.kindOf x=some .globalImplicit
theorem pY{E:Value->Shared->Prop}{a:List (Addr×Obj)}{s:Shared}{Y:St}{H:Hp}{x:Str}{u:Value}{pos:Pos}{Q:Value->Shared->Prop}(I:Inv X a Y H s)(b:Gl X x)(c:X.mg x=some u)(h:Q u s)
  (hd:autoParam ((x==("__debug__":Str))=false) Zr._auto_1):wpAny (model X.prog X.w) X.A (eval (.Name x pos) X.env) Q E s:=
 Calls.Name_function_global I.ok.kind b (Calls.loadGlobal_global (by rw[I.ok.glob];exact I.mod.glob.keeps I.bk) c h) hd
theorem iB{E:Value->Shared->Prop}{a:List (Addr×Obj)}{s:Shared}{Y:St}{H:Hp}{x:Str}{u:Value}{pos:Pos}{Q:Value->Shared->Prop}(I:Inv X a Y H s)(b:Gl X x)(c:X.mg x=none)(d:bootBuiltins x=some u)(h:Q u s)
  (e:autoParam (x≠"__name__") Zr._auto_1) (hd:autoParam ((x==("__debug__":Str))=false) Zr._auto_1):wpAny (model X.prog X.w) X.A (eval (.Name x pos) X.env) Q E s:=by
 obtain⟨f,h1,h2⟩:=I.mod.blt;exact Calls.Name_function_global I.ok.kind b (Calls.loadGlobal_builtin (by rw[I.ok.glob];exact I.mod.glob.keeps I.bk) c (by rw[I.ok.blt];exact h1.keeps I.bk) ((h2 x e).trans d) h) hd
theorem zW{x:Str}{v:V}{u:Value}{pos:Pos}(a:Gl X x)(b:X.mg x=some u)(r:aP v u)(hd:autoParam ((x==("__debug__":Str))=false) Zr._auto_1):PE X (.Name x pos) (tC v):=
 fun _ _ _ H _ I h=>pY I a b ⟨v,H,I,r,h⟩ hd
theorem mq{x:Str}{v:V}{u:Value}{pos:Pos}(a:Gl X x)(b:X.mg x=none)(c:bootBuiltins x=some u)(r:aP v u)(d:autoParam (x≠"__name__") Zr._auto_1)(hd:autoParam ((x==("__debug__":Str))=false) Zr._auto_1):PE X (.Name x pos) (tC v):=
 fun _ _ _ H _ I h=>iB I a b c ⟨v,H,I,r,h⟩ d hd
variable{a b:Expr}{M tb:TE}{pos:Pos}
def PC(X:Cx)(op:CmpOp)(a b:Expr)(t:TE):Prop:=
 ∀(c:List (Addr×Obj)) (s:Shared) (Y:St) (H:Hp) (Q:VK),Inv X c Y H s->t Y H Q->
  wpAny (model X.prog X.w) X.A (eval a X.env) (fun v d=>wpAny (model X.prog X.w) X.A (eval b X.env) (fun u e=>wpAny (model X.prog X.w) X.A (compareOp op v u) (EP X c Y Q) X.xe e) X.xe d) X.xe s
noncomputable def tB(t:TE):TT:=fun Y H Q=>t Y H fun x d=>∃c,x=.bl c/\Q c d
theorem zX{op:CmpOp}{t:TE}(h:PC X op a b t)(i:behindInMarks op b=false:=by first | exact e _ (by decide) (by decide) | rfl):PT X (.Compare a [op] [b] pos) (tB t):=by intro f s Y H Q I j;refine wpAny_isTrue_Compare1 (aH (h f s Y H _ I j) fun v p i=>aH i fun u r o=>aH o fun c w g=>?_) i;obtain⟨x,k,l,m,n⟩:=g;obtain⟨d,rfl,q⟩:=n;cases m;exact wpAny_truthy_bool ⟨k,l,q⟩
theorem zY{e:Expr}{t:TE}(h:PE X e t)(f:autoParam (∀whole,isTrue e X.env whole=(do let v <-whole;standAt e.pos;holding [v] (truthy v))) Zs._auto_1):PT X e (tB t):=by intro c s Y H Q I g;refine isTrue_plain (aH (h c s Y H _ I g) fun v m ⟨x,i,j,k,l⟩=>?_) (f _);obtain⟨d,rfl,q⟩:=l;cases k;exact wpAny_truthy_bool ⟨i,j,q⟩
variable{L D:TT}{rest:List Expr}
noncomputable def zZ(t u:TT):TT:=fun Y H Q=>t Y H fun c d=>if c=true then u Y d Q else Q false d
noncomputable def Aa(t u:TT):TT:=fun Y H Q=>t Y H fun c d=>if c=true then Q true d else u Y d Q
noncomputable def Ab(t:TT):TT:=fun Y H Q=>t Y H fun c d=>Q (!c) d
theorem Ac(f:PT X a L):PW X (.BoolOp .And [a] pos) L:=by
 intro g d s Y H Q I h;refine isTrue_and (aH (f d s Y H Q I h) fun c i e=>?_);cases c with
 | true=>exact isTrue_and_nil e
 | false=>exact e
theorem Ad(f:PT X a L):PW X (.BoolOp .Or [a] pos) L:=by
 intro g d s Y H Q I h;refine isTrue_or (aH (f d s Y H Q I h) fun c i e=>?_);cases c with
 | false=>exact isTrue_or_nil e
 | true=>exact e
theorem Ae(i:PT X a L)(j:PW X (.BoolOp .And (b::rest) pos) D):PW X (.BoolOp .And (a::b::rest) pos) (zZ L D):=by
 intro k d s Y H Q I h;refine isTrue_and (aH (i d s Y H _ I h) fun c l ⟨e,f,g⟩=>?_);cases c with
 | true=>exact j k d l Y e Q f g
 | false=>exact⟨e,f,g⟩
theorem Af(i:PT X a L)(j:PW X (.BoolOp .Or (b::rest) pos) D):PW X (.BoolOp .Or (a::b::rest) pos) (Aa L D):=by
 intro k d s Y H Q I h;refine isTrue_or (aH (i d s Y H _ I h) fun c l ⟨e,f,g⟩=>?_);cases c with
 | true=>exact⟨e,f,g⟩
 | false=>exact j k d l Y e Q f g
theorem Ag(e:PT X a L):PT X (.UnaryOp .Not a pos) (Ab L):=by intro d s Y H Q I h;exact isTrue_not (e d s Y H (fun c f=>Q (!c) f) I h)
noncomputable def Ah(M tb:TE):TE:=fun Y H Q=>M Y H fun x d=>∃c,x=.bl c/\if c=true then tb Y d Q else Q (.bl false) d
noncomputable def Ai(M tb:TE):TE:=fun Y H Q=>M Y H fun x d=>∃c,x=.bl c/\if c=true then Q (.bl true) d else tb Y d Q
noncomputable def Aj(M:TE):TE:=fun Y H Q=>M Y H fun x d=>∃c,x=.bl c/\Q (.bl (!c)) d
theorem Ak{op}{t:TE}(h:PE X a t):PE X (.BoolOp op [a] pos) t:=fun c s Y H Q I d=>BoolOp_one (h c s Y H Q I d)
theorem Al(j:PE X a M)(k:PE X (.BoolOp .And (b::rest) pos) tb):PE X (.BoolOp .And (a::b::rest) pos) (Ah M tb):=by
 intro d s Y H Q I h;refine BoolOp_and (aH (j d s Y H _ I h) fun v l e=>?_);obtain⟨x,g,i,m,f⟩:=e;obtain⟨c,rfl,f⟩:=f;cases m;refine wpAny_truthy_bool ?_;cases c with
 | true=>exact k d l Y g Q i f
 | false=>exact⟨.bl false,g,i,rfl,f⟩
theorem Am(j:PE X a M)(k:PE X (.BoolOp .Or (b::rest) pos) tb):PE X (.BoolOp .Or (a::b::rest) pos) (Ai M tb):=by
 intro d s Y H Q I h;refine BoolOp_or (aH (j d s Y H _ I h) fun v l e=>?_);obtain⟨x,g,i,m,f⟩:=e;obtain⟨c,rfl,f⟩:=f;cases m;refine wpAny_truthy_bool ?_;cases c with
 | false=>exact k d l Y g Q i f
 | true=>exact⟨.bl true,g,i,rfl,f⟩
theorem An(g:PE X a M):PE X (.UnaryOp .Not a pos) (Aj M):=by intro d s Y H Q I h;refine UnaryOp_ (aH (g d s Y H _ I h) fun v l e=>?_);obtain⟨x,i,j,k,f⟩:=e;obtain⟨c,rfl,f⟩:=f;cases k;exact not_of (wpAny_truthy_bool ⟨.bl (!c),i,j,rfl,f⟩)
end
def cA(K:Frag)(H:Hp)(a:Addr)(c:List V):Prop:=
 Rd H a (.lst c)\/
  ∃(o:Obj) (b:Array Value) (n:Nat),K.lookup a=some o/\o.cls=.type "list"/\o.dict=none/\o.data=.seq b n/\b.size<=sizeLine/\aM c b.toList
def dP(K:Frag)(H:Hp)(a:Addr)(c:List V):Prop:=
 Rd H a (.tup c)\/
  ∃(o:Obj) (b:Array Value) (n:Nat),K.lookup a=some o/\o.cls=.type "tuple"/\o.data=.seq b n/\b.size<=sizeLine/\aM c b.toList
noncomputable def Ao:Value->Option V
 | .none=>some .non
 | .bool b=>some (.bl b)
 | .int i _=>some (.int i)
 | .str x _=>some (.str x)
 | .bytes b _=>some (.byt b)
 | .float b _=>some (.flt b)
 | .ref a=>some (.ref a)
 | .type n=>some (.ty n)
 | _=>none
theorem aP.abs{x:V}{u:Value}(r:aP x u):Ao u=some x:=by
 cases x with
 | non=>cases r;rfl
 | bl _=>cases r;rfl
 | int _=>obtain⟨t,rfl⟩:=r;rfl
 | str _=>obtain⟨t,rfl⟩:=r;rfl
 | byt _=>obtain⟨t,rfl⟩:=r;rfl
 | flt _=>obtain⟨t,rfl⟩:=r;rfl
 | ref _=>cases r;rfl
 | ty _=>cases r;rfl
theorem aP.inj{x y:V}{u:Value}(r:aP x u)(q:aP y u):x=y:=Option.some.inj (r.abs.symm.trans q.abs)
theorem aM.inj:∀{a b:List V}{c:List Value},aM a c->aM b c->a=b
 | _,_,_,.nil,.nil=>rfl
 | _,_,_,.cons r t,.cons d t'=>by rw[r.inj d,aM.inj t t']
section
variable{X:Cx}{N:List (Addr×Obj)}{Y:St}{H:Hp}{s:Shared}{a:Addr}{E C:List V}
theorem cA.of{K:Frag}(h:H a=some (.lst E)):cA K H a E:=.inl (.inl h)
theorem Inv.list(I:Inv X N Y H s)(h:cA X.K H a E):∃b:List Value,aM E b/\PlainL s.heap a b.toArray/\E.length<=sizeLine:=by
 rcases h with h | ⟨o,b,n,c,d,hd,f,g,r⟩
 .obtain⟨z,b,n,r,e⟩:=h.ok I.hok;exact⟨b,r,⟨_,n,e,rfl,rfl,rfl⟩,z⟩
 .refine⟨b.toList,r,⟨o,n,I.kIn a o c,d,hd,by simpa using f⟩,?_⟩;have e:=r.length;simp only[Array.length_toList] at e;lia
theorem Inv.tuple(I:Inv X N Y H s)(h:dP X.K H a E):∃b:List Value,aM E b/\IsTup s.heap a b.toArray/\E.length<=sizeLine:=by
 rcases h with h | ⟨o,b,n,c,d,f,g,r⟩
 .obtain⟨z,b,r,p⟩:=h.ok I.hok;exact⟨b,r,p,z⟩
 .refine⟨b.toList,r,⟨o,I.kIn a o c,d,n,by simpa using f⟩,?_⟩;have e:=r.length;simp only[Array.length_toList] at e;lia
theorem Inv.list_inj(I:Inv X N Y H s)(h:cA X.K H a E)(i:cA X.K H a C):E=C:=by
 obtain⟨c,r,⟨o,n,e,_,_,d⟩,_⟩:=I.list h;obtain⟨b,j,⟨l,m,f,_,_,g⟩,_⟩:=I.list i;rw[e] at f;cases f;rw[d] at g;injection g with k _
 have:c=b:=by simpa using congrArg Array.toList k
 subst this;exact r.inj j
theorem Inv.tuple_inj(I:Inv X N Y H s)(h:dP X.K H a E)(i:dP X.K H a C):E=C:=by
 obtain⟨c,r,⟨o,e,_,n,d⟩,_⟩:=I.tuple h;obtain⟨b,j,⟨l,f,_,m,g⟩,_⟩:=I.tuple i;rw[e] at f;cases f;rw[d] at g;injection g with k _
 have:c=b:=by simpa using congrArg Array.toList k
 subst this;exact r.inj j
end
section
variable{X:Cx}{st:Stmt}{rest:List Stmt}{t u:TS}{e:Expr}{B:TE}{pos:Pos}
noncomputable def Ap:TS:=fun D Y H=>D.nx Y H
noncomputable def Aq(t u:TS):TS:=fun D Y H=>t { D with nx:=u D } Y H
theorem Ar:PSs X [] Ap:=fun _ _ Y H _ I h=>wpAny_execs_nil ⟨Y,H,I,h⟩
theorem As(i:PS X st t)(j:PSs X rest u):PSs X (st::rest) (Aq t u):=by
 intro a s Y H D I h;refine wpAny_execs_cons (aH (i a s Y H { D with nx:=u D } I h) fun f b q=>?_);cases f with
 | next=>obtain⟨c,d,g,q⟩:=q;exact j a b c d D g q
 | ret v=>exact q
 | brk=>exact q
 | cont=>exact q
theorem At(b:PS X st t):PSs X [st] t:=by
 intro a s Y H D I h;refine wpAny_execs_cons (aH (b a s Y H D I h) fun f c q=>?_);cases f with
 | next=>exact wpAny_execs_nil q
 | ret v=>exact q
 | brk=>exact q
 | cont=>exact q
theorem Inv.quiet{a:List (Addr×Obj)}{Y:St}{H:Hp}{s:Shared}(I:Inv X a Y H s):interactive X.env=false:=by simp[interactive,I.ok.kind]
noncomputable def Au(B:TE):TS:=fun D Y H=>B Y H fun _ a=>D.nx Y a
theorem tu(c:PE X e B)(d:autoParam (swapsWith e none pos.line X.env=pure false) Zq._auto_1):PS X (.Expr e pos) (Au B):=by intro a s Y H D I h;exact wpAny_Expr_any (aH (c a s Y H _ I h) fun v j b=>by obtain⟨x,f,g,k,i⟩:=b;exact⟨Y,f,g,i⟩) I.quiet d
noncomputable def Av(B:TE):TS:=fun D Y H=>B Y H D.rt
theorem pZ(b:PE X e B):PS X (.Return (some e) pos) (Av B):=by intro a s Y H D I h;exact wpAny_Return_some (aH (b a s Y H _ I h) fun v i ⟨x,c,d,f,g⟩=>⟨x,Y,c,d,f,g⟩)
noncomputable def Aw(c:TT)(t u:TS):TS:=fun D Y H=>c Y H fun b a=>if b=true then t D Y a else u D Y a
theorem Ax{c:Expr}{a b:List Stmt}{g:TT}(m:PT X c g)(n:PSs X a t)(o:PSs X b u):PS X (.If c a b pos) (Aw g t u):=by
 intro f s Y H D I h;refine wpAny_If (aH (m f s Y H _ I h) fun d i ⟨j,k,l⟩=>?_);cases d with
 | true=>exact n f i Y j D k l
 | false=>exact o f i Y j D k l
end
abbrev TG:=V->St->Hp->(St->Hp->Prop)->Prop
abbrev gn:=List V->St->Hp->(St->Hp->Prop)->Prop
def PG(X:Cx)(target:Expr)(t:TG):Prop:=
 ∀(a:List (Addr×Obj)) (s:Shared) (Y:St) (H:Hp) (v:V) (u:Value) (Q:St->Hp->Prop),Inv X a Y H s->aP v u->t v Y H Q->
  wpAny (model X.prog X.w) X.A (assign target X.env u) (fun _ d=>∃b c,Inv X a b c d/\Q b c) X.xe s
def PGs(X:Cx)(f:List Expr)(t:gn):Prop:=
 ∀(a:List (Addr×Obj)) (s:Shared) (Y:St) (H:Hp) (b:List V) (c:List Value) (Q:St->Hp->Prop),Inv X a Y H s->aM b c->t b Y H Q->
  wpAny (model X.prog X.w) X.A (assignInOrder ((assignEach f X.env).map (·.2)) c) (fun _ g=>∃d e,Inv X a d e g/\Q d e) X.xe s
section
variable{X:Cx}{pos:Pos}
noncomputable def ms(i:Nat):TG:=fun v Y H Q=>Q (Y.set i (some v)) H
theorem Ay{i:Nat}{x:Str}(b:X.N.Nodup)(c:X.N[i]? = some x)(d:Loc X.env.scope x)(e:X.fn x=true\/X.env.scope.names.lookup x=some .local:=by first | exact .inl rfl | exact .inr rfl | assumption):PG X (.Name x pos) (ms i):=by intro a s Y H v u Q I r h;exact wpAny_assign_Name (tp I b c d r (fun g f=>⟨_,H,f,h⟩) e)
noncomputable def Az:gn:=fun a Y H Q=>a=[]/\Q Y H
noncomputable def AA(t:TG)(u:gn):gn:=fun a Y H Q=>∃v r,a=v::r/\t v Y H fun b c=>u r b c Q
theorem AB:PGs X [] Az:=by intro a s Y H b c Q I r h;obtain⟨e,h⟩:=h;subst e;cases r;exact assignInOrder_nil ⟨Y,H,I,h⟩
theorem AC{e:Expr}{b:List Expr}{t:TG}{u:gn}(m:PG X e t)(n:PGs X b u)
  (c:autoParam ((assignEach (e::b) X.env).map (·.2)=assign e X.env::(assignEach b X.env).map (·.2)) Zq._auto_1):PGs X (e::b) (AA t u):=by
 intro a s Y H o p Q I r h;obtain⟨v,q,d,h⟩:=h;subst d;cases r with
 | cons r f=>rw[c];refine assignInOrder_cons (aH (m a s Y H _ _ _ I r h) fun _ g ⟨i,j,k,l⟩=>?_);exact n a g i j _ _ Q k f l
noncomputable def AD(K:Frag)(n:Nat)(t:gn):TG:=fun v Y H Q=>∃a b,v=.ref a/\dP K H a b/\b.length=n/\t b Y H Q
theorem AE{d:List Expr}{k:Nat}{t:gn}{n:Nat}(j:X.calm=true)(h:PGs X d t)
  (l:autoParam ((assignEach d X.env).length=n) Zq._auto_1) (f:autoParam ((assignEach d X.env).findIdx? (·.1)=none) Zq._auto_1):PG X (.Tuple d k pos) (AD X.K n t):=by
 intro c s Y H v u Q I r g;obtain⟨a,m,p,q,w,g⟩:=g;subst p;cases r;obtain⟨x,i,y,C⟩:=I.tuple q;refine assign_Tuple_tuple (I.ok.hd j) y (by simp[l,<-w,i.length]) f fun z A=>?_;have B:Inv X c Y H { s with heap:=z }:=I.kept (t':=s.toks) fun b o e=>A b o (Nat.ne_of_lt (aR e)) e;exact h c _ Y H m _ Q B (by simpa using i) g
noncomputable def qa(a:TE)(g:TG):TS:=fun D Y H=>a Y H fun x b=>g x Y b D.nx
theorem AF{b e:Expr}{d:TE}{g:TG}(f:PE X e d)(i:PG X b g)(j:autoParam (swapsWithSole [b] e pos.line X.env=pure false) Zq._auto_1)(k:autoParam (swappedStores [b] e X.env=pure none) Zq._auto_1)
  (r:autoParam ((assignEach [b] X.env).map (·.2)=[assign b X.env]) Zq._auto_1):PS X (.Assign [b] e pos) (qa d g):=by
 intro a s Y H D I h;refine wpAny_Assign_stores (aH (f a s Y H _ I h) fun v l c=>?_) j k;obtain⟨x,m,n,o,p⟩:=c;rw[r];exact aH (i a l Y m x v _ n o p) fun _ t q=>q
theorem tw{i:Nat}{x:Str}{e:Expr}{d:TE}{a:Pos}(f:X.N.Nodup)(g:X.N[i]? = some x)(j:Loc X.env.scope x)(k:PE X e d)(l:autoParam (swapsWith e (some (.Name x a)) pos.line X.env=pure false) Zq._auto_1)(m:X.fn x=true\/X.env.scope.names.lookup x=some .local:=by first | exact .inl rfl | exact .inr rfl | assumption) :
  PS X (.Assign [.Name x a] e pos) (qa d (ms i)):=by
 intro b s Y H D I h;refine wpAny_Assign_Name (aH (k b s Y H _ I h) fun v t c=>?_) l;obtain⟨y,n,o,p,q⟩:=c;exact tp o f g j p (fun u r=>⟨_,n,r,q⟩) m
end
structure It where
 go:Nat->Hp->Prop
 yld:Nat->Hp->V->Hp->Prop
 stop:Nat->Hp->Prop
def fx(X:Cx)(a:List (Addr×Obj))(H:Hp)(b:Addr):Prop:=
 H b=none/\b≠X.env.locals/\b∉X.fs/\(b∈X.ex\/X.s₀.heap.objs.size<=b)/\(∀x c,X.env.cells.lookup x=some c->c≠b)/\∀p∈X.pn++a,p.1≠b
theorem Inv.fpOk{X:Cx}{a:List (Addr×Obj)}{Y:St}{H f:Hp}{s:Shared}{b:Addr}(I:Inv X a Y H s)(d:s.heap.objs.size<=b)(g:f b=none):fx X a f b:=by
 refine⟨g,Nat.ne_of_gt (Nat.lt_of_lt_of_le I.lt d),I.nofs d,.inr (Nat.le_trans I.sz d),fun x c e z=>?_,fun p h z=>?_⟩
 .obtain⟨v,q⟩:=I.cell x c e;exact absurd (Nat.lt_of_lt_of_le q.lt (by rw[z];exact d)) (Nat.lt_irrefl _)
 .exact absurd (Nat.lt_of_lt_of_le (aR (I.pin p h).1) (by rw[z];exact d)) (Nat.lt_irrefl _)
structure gp (P:Program) (w:World) (K:Frag) (tg:Expr) (J:It) (fp:List Addr) (it:Addr) (tn:Nat->Heap->Prop):Prop where
 mem:it∈fp
 obj:∀i h,tn i h->∀b∈fp,∃o,h.get? b=some o/\∀v,o.data≠.cell v
 keep:∀i h h',tn i h->(∀b∈fp,∀o,h.get? b=some o->h'.get? b=some o)->tn i h'
 item:∀(X:Cx),X.prog=P->X.w=w->X.K=K->X.calm=true->∀(i:Nat) (pins:List (Addr×Obj)) (s:Shared) (Y:St) (H:Hp) (E:Value->Shared->Prop),Inv X pins Y H s->(∀b∈fp,fx X pins H b)->tn i s.heap->J.go i H->
  wpAny (model P w) X.A (pyNext (.ref it)) (fun r s1=>∃u,r=some u/\
   wpAny (model P w) X.A (letOwnedTupleGo tg (.ref it) u) (fun _ s2=>∃x H',Inv X pins Y H' s2/\aP x u/\J.yld i H x H'/\tn (i+1) s2.heap/\∀b∈fp,H' b=none) E s1) E s
 done:∀(X:Cx),X.prog=P->X.w=w->X.K=K->X.calm=true->∀(i:Nat) (pins:List (Addr×Obj)) (s:Shared) (Y:St) (H:Hp) (E:Value->Shared->Prop),Inv X pins Y H s->(∀b∈fp,fx X pins H b)->tn i s.heap->J.stop i H->
  wpAny (model P w) X.A (pyNext (.ref it)) (fun r s1=>r=none/\Inv X pins Y H s1) E s
 self:∀(A:Around) (i:Nat) (s:Shared) (Q:Value->Shared->Prop) (E:Value->Shared->Prop),tn i s.heap->Q (.ref it) s->wpAny (model P w) A (pyIter (.ref it)) Q E s
abbrev TI:=St->Hp->(It->Hp->Prop)->Prop
def tz(X:Cx)(a:List (Addr×Obj))(Y:St)(h:Expr)(R:It->Hp->Prop)(c:Value)(e:Shared):Prop:=
 ∃(it:Addr) (f:List Addr) (g:Nat->Heap->Prop) (J:It) (d:Hp),c=.ref it/\Inv X a Y d e/\gp X.prog X.w X.K h J f it g/\g 0 e.heap/\(∀b∈f,fx X a d b)/\R J d
def PI(X:Cx)(b iter:Expr)(c:TI):Prop:=
 ∀(a:List (Addr×Obj)) (s:Shared) (Y:St) (H:Hp) (R:It->Hp->Prop),Inv X a Y H s->c Y H R->
  wpAny (model X.prog X.w) X.A (eval iter X.env) (fun v d=>wpAny (model X.prog X.w) X.A (pyIter v) (tz X a Y b R) X.xe d) X.xe s
theorem qb{M:Model}{A:Around}{E:Value->Shared->Prop}{s:Shared}{b:Expr}{it:Addr}{u:Value}{o:Obj}{n:String}{c:Array Value}{Q:Unit->Shared->Prop}(d:s.heap.get? it=some o)(e:o.cls=.type n)(hd:o.data=.fields c)
    (f:["enumerate","zip","dict_itemiterator","dict_reverseitemiterator","odict_iterator","itertools.zip_longest","itertools.pairwise"].contains n=false) (a:Q () s):wpAny M A (letOwnedTupleGo b (.ref it) u) Q E s:=by
  unfold letOwnedTupleGo;cases b<;>first
    | exact ai a
    | (cases u<;>first
        | exact ai a
        | (refine aa (wpAny_load d ?_)
           rw[e,hd];show wpAny M A (if (["enumerate","zip","dict_itemiterator","dict_reverseitemiterator","odict_iterator","itertools.zip_longest","itertools.pairwise"].contains n&&c[0]?==some (rawInt _))=true then _ else _) Q E s;rw[if_neg (by intro h;rw[f,Bool.false_and] at h;cases h)];exact ai a))
noncomputable def qc(K:Frag)(a:Addr):It:=
 ⟨fun i H=>∃b x,cA K H a b/\b[i]? = some x,fun i H x c=>c = H/\∀b,cA K H a b->b[i]? = some x,fun i H=>∃b,cA K H a b/\b.length<=i⟩
noncomputable def qd(K:Frag)(a:Addr):It:=
 ⟨fun i H=>∃b x,dP K H a b/\b[i]? = some x,fun i H x c=>c = H/\∀b,dP K H a b->b[i]? = some x,fun i H=>∃b,dP K H a b/\b.length<=i⟩
noncomputable def ki(lo:Int)(n:Nat):It:=⟨fun i _=>i<n,fun i H x a=>a = H/\x=.int (lo+i),fun i _=>n<=i⟩
theorem AG{P:Program}{w:World}{K:Frag}{tg:Expr}(a it:Addr):gp P w K tg (qc K a) [it] it (fun i h=>h.IsListIter it a i) where
 mem:=by simp
 obj:=fun i h st b hb=>by
  have e:b=it:=by simpa using hb
  subst e;obtain⟨o,e,c,d⟩:=st;exact⟨o,e,fun v z=>by rw[d] at z;cases z⟩
 keep:=fun i h h' st k=>st.at fun o e=>k it (by simp) o e
 item:=by intro X hP hw hK hc i pins s Y H E I hf st hg;subst hP hw hK;obtain⟨xs,x,hq,hx⟩:=hg;obtain⟨its,rv,p,hz⟩:=I.list hq;obtain⟨u,hu,ru⟩:=rv.get hx;obtain⟨f0,f1,f2,f3,f4,f5⟩:=hf it (by simp);refine wpAny_pyNext_list_item st p.isList (x:=u) (by simpa using hu) fun h' st' sb=>?_;have I1:Inv X pins Y H { s with heap:=h' }:=I.turned (t':=s.toks) (fun b o hb e=>(sb.2 b hb).trans e) f0 f1 f3 f4 f5;obtain⟨o,e,c,d⟩:=id st';exact⟨u,rfl,qb (s:={ s with heap:=h' }) e c d (by decide) ⟨x,H,I1,ru,⟨rfl,fun ys hy=>by rw[I.list_inj hy hq];exact hx⟩,st',fun b hb=>(hf b hb).1⟩⟩
 done:=by intro X hP hw hK hc i pins s Y H E I hf st hg;subst hP hw hK;obtain⟨xs,hq,hx⟩:=hg;obtain⟨its,rv,p,hz⟩:=I.list hq;obtain⟨f0,f1,f2,f3,f4,f5⟩:=hf it (by simp);have hl:=rv.length;exact wpAny_pyNext_list_end (I.ok.hd hc) st p.isList (by simp;lia) fun h' eb=>⟨rfl,I.turned (t':=s.toks) (fun b o hb e=>eb b o hb e) f0 f1 f3 f4 f5⟩
 self:=fun _ _ _ _ _ st h=>wpAny_pyIter_listiter st h
theorem AH{P:Program}{w:World}{K:Frag}{tg:Expr}(a it:Addr):gp P w K tg (qd K a) [it] it (fun i h=>h.IsTupleIter it a i) where
 mem:=by simp
 obj:=fun i h st b hb=>by
  have e:b=it:=by simpa using hb
  subst e;obtain⟨o,e,c,d⟩:=st;exact⟨o,e,fun v z=>by rw[d] at z;cases z⟩
 keep:=fun i h h' st k=>st.at fun o e=>k it (by simp) o e
 item:=by intro X hP hw hK hc i pins s Y H E I hf st hg;subst hP hw hK;obtain⟨xs,x,hq,hx⟩:=hg;obtain⟨its,rv,p,hz⟩:=I.tuple hq;obtain⟨u,hu,ru⟩:=rv.get hx;obtain⟨f0,f1,f2,f3,f4,f5⟩:=hf it (by simp);refine wpAny_pyNext_tuple_item st (show s.heap.IsTuple a its.toArray from p) (x:=u) (by simpa using hu) fun h' st' sb=>?_;have I1:Inv X pins Y H { s with heap:=h' }:=I.turned (t':=s.toks) (fun b o hb e=>(sb.2 b hb).trans e) f0 f1 f3 f4 f5;obtain⟨o,e,c,d⟩:=id st';exact⟨u,rfl,qb (s:={ s with heap:=h' }) e c d (by decide) ⟨x,H,I1,ru,⟨rfl,fun ys hy=>by rw[I.tuple_inj hy hq];exact hx⟩,st',fun b hb=>(hf b hb).1⟩⟩
 done:=by intro X hP hw hK hc i pins s Y H E I hf st hg;subst hP hw hK;obtain⟨xs,hq,hx⟩:=hg;obtain⟨its,rv,p,hz⟩:=I.tuple hq;obtain⟨f0,f1,f2,f3,f4,f5⟩:=hf it (by simp);have hl:=rv.length;exact wpAny_pyNext_tuple_end (I.ok.hd hc) st (show s.heap.IsTuple a its.toArray from p) (by simp;lia) fun h' eb=>⟨rfl,I.turned (t':=s.toks) (fun b o hb e=>eb b o hb e) f0 f1 f3 f4 f5⟩
 self:=fun _ _ _ _ _ st h=>wpAny_pyIter_tupleiter st h
theorem AI{P:Program}{w:World}{K:Frag}{tg:Expr}(it:Addr)(lo:Int)(n:Nat):gp P w K tg (ki lo n) [it] it (fun i h=>IsRangeIter h it (lo+(i:Nat) * 1) ((n:Int) - (i:Nat)) 1) where
 mem:=by simp
 obj:=fun i h st b hb=>by
  have e:b=it:=by simpa using hb
  subst e;exact⟨_,st,fun v z=>by
   have z':Data.fields _=Data.cell v:=z;cases z'⟩
 keep:=fun i h h' st k=>k it (by simp) _ st
 item:=by intro X hP hw hK hc i pins s Y H E I hf st hg;subst hP hw hK;obtain⟨f0,f1,f2,f3,f4,f5⟩:=hf it (by simp);have W:=Walks.range (prog:=X.prog) (w:=X.w) (I.ok.hd hc) it lo 1 n;refine W.item i s _ _ hg st fun v h' tk hv st' kk=>?_;obtain⟨t,rfl⟩:=hv;have I1:Inv X pins Y H { s with heap:=h',toks:=tk }:=I.turned (fun b o hb e=>kk b o (by simpa using hb) e) f0 f1 f3 f4 f5;refine⟨_,rfl,qb (s:={ s with heap:=h',toks:=tk }) (n:="range_iterator") st' rfl rfl (by decide) ⟨.int (lo+i),H,I1,⟨t,?_⟩,⟨rfl,rfl⟩,st',fun b hb=>(hf b hb).1⟩⟩;rw[Int.mul_one]
 done:=by intro X hP hw hK hc i pins s Y H E I hf st hg;subst hP hw hK;obtain⟨f0,f1,f2,f3,f4,f5⟩:=hf it (by simp);exact wpAny_pyNext_range_end (I.ok.hd hc) st (by have:n<=i:=hg;lia) fun h' eb=>⟨rfl,I.turned (t':=s.toks) (fun b o hb e=>eb b o hb e) f0 f1 f3 f4 f5⟩
 self:=fun _ _ _ _ _ st h=>wpAny_pyIter_rangeiter st h
section
variable{X:Cx}{y:Expr}
noncomputable def AJ(K:Frag)(c:TE):TI:=fun Y H R=>c Y H fun x b=>∃a,x=.ref a/\(∃d,cA K b a d)/\R (qc K a) b
noncomputable def AK(K:Frag)(c:TE):TI:=fun Y H R=>c Y H fun x b=>∃a,x=.ref a/\(∃d,dP K b a d)/\R (qd K a) b
theorem AL{l:Expr}{i:TE}(j:PE X l i):PI X y l (AJ X.K i):=by
 intro c s Y H R I h;refine aH (j c s Y H _ I h) fun v f d=>?_;obtain⟨x,k,g,m,n⟩:=d;obtain⟨a,e,⟨w,r⟩,q⟩:=n;subst e;cases m;obtain⟨t,z,p,A⟩:=g.list r;refine wpAny_pyIter_list p.isList ?_;refine⟨f.heap.objs.size,[f.heap.objs.size],_,_,k,rfl,g.kept (t':=f.toks) fun b o e=>aF _ e,AG a _,⟨_,Heap.get?_push_size _ rfl,rfl,rfl⟩,fun b u=>?_,q⟩;have e:b=f.heap.objs.size:=by simpa using u
 subst e;exact g.fpOk (aE _) (g.hok.fresh (aE _))
theorem AM{l:Expr}{j:TE}(k:PE X l j):PI X y l (AK X.K j):=by
 intro c s Y H R I h;refine aH (k c s Y H _ I h) fun v d f=>?_;obtain⟨x,m,g,n,r⟩:=f;obtain⟨a,e,⟨w,t⟩,q⟩:=r;subst e;cases n;obtain⟨i,z,p,A⟩:=g.tuple t;refine wpAny_pyIter_tuple (show d.heap.IsTuple a i.toArray from p) ?_;refine⟨d.heap.objs.size,[d.heap.objs.size],_,_,m,rfl,g.kept (t':=d.toks) fun b o e=>aF _ e,AH a _,⟨_,Heap.get?_push_size _ rfl,rfl,rfl⟩,fun b u=>?_,q⟩;have e:b=d.heap.objs.size:=by simpa using u
 subst e;exact g.fpOk (aE _) (g.hok.fresh (aE _))
theorem tD{c:List (Addr×Obj)}{Y:St}{H:Hp}{s:Shared}{R:It->Hp->Prop}{E:Value->Shared->Prop}{lo a:Int}{t u v:Tok}{d:Nat}(I:Inv X c Y H s)(k:-(2 ^ 62)<=lo)(l:lo<2 ^ 62)(m:-(2 ^ 62)<=a)(g:a<2 ^ 62)
  (q:R (ki lo (a - lo).toNat) H):wpAny (model X.prog X.w) X.A (pyIter (.ref s.heap.objs.size)) (tz X c Y y R) E { s with heap:=s.heap.push { cls:=.type "range",data:=.fields #[.int lo t,.int a u,.int 1 v] },toks:=d }:=by
 refine wpAny_pyIter_range (IsRange.new ..) (small_one k l m g) ?_;have f:Inv X c Y H { s with heap:=s.heap.push { cls:=.type "range",data:=.fields #[.int lo t,.int a u,.int 1 v] },toks:=d }:=I.kept fun b o e=>aF _ e;refine⟨(s.heap.push { cls:=.type "range",data:=.fields #[.int lo t,.int a u,.int 1 v] }).objs.size,[(s.heap.push { cls:=.type "range",data:=.fields #[.int lo t,.int a u,.int 1 v] }).objs.size],_,_,H,rfl,
  f.kept (t':=d) fun b o e=>aF _ e,AI _ lo (a - lo).toNat,?_,fun b h=>?_,q⟩
 .have i:lo+((0:Nat):Int) * 1=lo:=by simp
  have j:(((a - lo).toNat:Nat):Int) - ((0:Nat):Int)=Builtin.Range.rangeSize lo a 1:=by rw[rangeSize_one];split<;>lia
  show IsRangeIter _ _ (lo+((0:Nat):Int) * 1) ((((a - lo).toNat:Nat):Int) - ((0:Nat):Int)) 1;rw[i,j];exact Heap.get?_push_size _ rfl
 .have e:b=(s.heap.push { cls:=.type "range",data:=.fields #[.int lo t,.int a u,.int 1 v] }).objs.size:=by simpa using h
  subst e;exact f.fpOk (aE _) (f.hok.fresh (aE _))
noncomputable def AN(a:TA):TI:=fun Y H R=>a Y H fun b c=>∃j:Int,b=[.int j]/\-(2 ^ 62)<=j/\j<2 ^ 62/\R (ki 0 j.toNat) c
noncomputable def AO(a:TA):TI:=fun Y H R=>a Y H fun b c=>∃i j:Int,b=[.int i,.int j]/\(-(2 ^ 62)<=i/\i<2 ^ 62/\-(2 ^ 62)<=j/\j<2 ^ 62)/\R (ki i (j - i).toNat) c
theorem AQ{a:Expr}{f:TA}{p pos:Pos}(g:Gl X "range")(i:X.mg "range" = none)(k:PA X [a] f)(l:autoParam (starEach [a] X.env=[(false,eval a X.env)]) Zq._auto_1):PI X y (.Call (.Name "range" p) [a] [] pos) (AN f):=by
 intro b s Y H R I h;refine Call_ (iB I g i boot_range (PyProof.Rows.callWith_type1 (aH (k pos b s Y H _ I h) fun v w c=>?_) l rfl));obtain⟨x,z,m,n,d⟩:=c;obtain⟨j,e,d,o,q⟩:=d;subst e;cases n with
 | cons r u=>cases u;obtain⟨t,rfl⟩:=r;exact call_range_1 (tD m (by lia) (by lia) d o (by simpa using q))
theorem AR{a b:Expr}{k:TA}{p pos:Pos}(l:Gl X "range")(m:X.mg "range" = none)(n:PA X [a,b] k)(o:autoParam (starEach [a,b] X.env=[(false,eval a X.env),(false,eval b X.env)]) Zq._auto_1)(c:autoParam (starEach [b] X.env=[(false,eval b X.env)]) Zq._auto_1) :
  PI X y (.Call (.Name "range" p) [a,b] [] pos) (AO k):=by
 intro d s Y H R I h;refine Call_ (iB I l m boot_range (PyProof.Rows.callWith_type1 (aH (n pos d s Y H _ I h) fun B C ⟨D,E,u,v,f⟩=>?_) (by rw[o,c]) (by rw[c];rfl)));obtain⟨i,j,e,⟨f,w,x,z⟩,q⟩:=f;subst e;cases v with
 | cons r g=>
  cases g with
  | cons A g=>cases g;obtain⟨t,rfl⟩:=r;obtain⟨t',rfl⟩:=A;exact call_range_2 (tD u f w x z q)
noncomputable def AS(d:TI)(g:TG)(j:TS):TS:=fun D Y H=>d Y H fun J e=>∃W:Nat->Nat->St->Hp->Prop,(∃m,W 0 m Y e)/\∀i m Y H,W i m Y H->
 (J.stop i H/\D.nx Y H)\/(J.go i H/\∃N:St->Hp->Prop,(∀b a,N b a->∃c,c<m/\W (i+1) c b a)/\∀x a,J.yld i H x a->g x Y a fun f h=>j { D with nx:=N,ct:=N,bk:=D.nx } f h)
noncomputable def kj(a:List Addr)(h:Heap):List (Addr×Obj):=a.filterMap fun b=>(h.get? b).map fun o=>(b,o)
theorem mu{a:List Addr}{h:Heap}{b:Addr}{o:Obj}(c:b∈a)(e:h.get? b=some o):(b,o)∈kj a h:=List.mem_filterMap.mpr ⟨b,c,by rw[e];rfl⟩
theorem AU{a:List Addr}{h:Heap}{p:Addr×Obj}(c:p∈kj a h):p.1∈a/\h.get? p.1=some p.2:=by
 obtain⟨b,d,e⟩:=List.mem_filterMap.mp c;cases q:h.get? b with
 | none=>rw[q] at e;cases e
 | some o=>rw[q] at e;have f:(b,o)=p:=Option.some.inj e;subst f;exact⟨d,q⟩
theorem Inv.pinned{a:List (Addr×Obj)}{Y:St}{H:Hp}{s:Shared}{c:List Addr}(I:Inv X a Y H s)(h:∀b∈c,fx X a H b)(i:∀b∈c,∃o,s.heap.get? b=some o/\∀v,o.data≠.cell v):Inv X (a++kj c s.heap) Y H s:=
 I.pins_of fun p j=>(List.mem_append.mp j).elim (fun z=>I.pin p (be _ z)) fun z=>by obtain⟨f,e⟩:=AU z;obtain⟨k,f1,f2,_⟩:=h p.1 f;obtain⟨o,g,d⟩:=i p.1 f;rw[e] at g;cases g;exact⟨e,k,f1,f2,d⟩
theorem Inv.unpinned{a b:List (Addr×Obj)}{Y:St}{H:Hp}{s:Shared}(I:Inv X (a++b) Y H s):Inv X a Y H s:=I.pins_of fun p c=>I.pin p (be _ (bu _ c))
theorem AV{iter:Expr}{body:List Stmt}{wi:TI}{g:TG}{tb:TS}{pos:Pos}(B:PassesOwn (model X.prog X.w) X.A X.env X.xe)(hc:X.calm=true)(hi:PI X y iter wi)(hg:PG X y g)(c:PSs X body tb)
  (hs:autoParam (∀x,foldedSetIterable iter X.env x=pure x) Zs._auto_1):PS X (.For y iter body [] pos) (AS wi g tb):=by
 intro a s Y H D I h;refine wpAny_For (aH (hi a s Y H _ I h) fun v s1 h1=>aH h1 fun a3 s2 h2=>?_) hs;obtain⟨it,C,tn,J,H2,e,I2,T,a0,f2,W,⟨m0,w0⟩,E⟩:=h2;subst e;have j:∀{q:Hp},(∀b∈C,q b=none)->∀b∈C,fx X a q b:=fun hn b c=>⟨hn b c,(f2 b c).2⟩
 refine codeAny_forLoop_any (fun n s'=>∃i G q,Inv X a G q s'/\tn i s'.heap/\(∀b∈C,q b=none)/\W i n G q) ?_ m0 ⟨0,Y,H2,I2,a0,fun b c=>(f2 b c).1,w0⟩;rintro n s3 ⟨i,L,H3,I3,M,O,w3⟩;rcases E i n L H3 w3 with⟨stop,qn⟩ | ⟨go,N,hN,step⟩
 .refine wpAny_passesOwn B (aH (T.done X rfl rfl rfl hc i a s3 L H3 X.xe I3 (j O) M stop) fun r s4 Q=>?_);obtain⟨hr,I4⟩:=Q;subst hr;exact wpAny_execs_nil ⟨L,H3,I4,qn⟩
 .refine wpAny_passesOwn B (aH (T.item X rfl rfl rfl hc i a s3 L H3 X.xe I3 (j O) M go) fun r s4 R=>?_);obtain⟨u,hr,h4⟩:=R;subst hr;refine wpAny_passesOwn B (aH h4 fun _ s5 S=>?_);obtain⟨x,H5,I5,r5,y5,z,a1⟩:=S;have a2:=I5.pinned (j a1) (T.obj _ _ z);refine wpAny_passesOwn B (aH (hg _ s5 L H5 x u _ a2 r5 (step x H5 y5)) fun _ s6 U=>?_);obtain⟨Y6,H6,I6,q6⟩:=U;refine wpAny_passesOwn B (aH (c _ s6 Y6 H6 _ I6 q6) fun f s7 t=>?_);have again:∀{k:St}{l:Hp},Inv X (a++kj C s5.heap) k l s7->N k l->∃m,m<n/\∃i G q,Inv X a G q s7/\tn i s7.heap/\(∀b∈C,q b=none)/\W i m G q:=fun {k l} p Z=>by obtain⟨m',hm,w7⟩:=hN k l Z;refine⟨m',hm,i+1,k,l,p.unpinned,T.keep _ _ _ z fun b c o e=>(p.pin (b,o) (be _ (be _ (mu c e)))).1,fun b c=>?_,w7⟩;obtain⟨o,e,d⟩:=T.obj _ _ z b c;exact(p.pin (b,o) (be _ (be _ (mu c e)))).2.1
  cases f with
  | next=>obtain⟨k,l,p,Z⟩:=t;exact again p Z
  | cont=>obtain⟨k,l,p,Z⟩:=t;exact again p Z
  | brk=>obtain⟨k,l,p,t⟩:=t;exact⟨k,l,p.unpinned,t⟩
  | ret v=>obtain⟨x7,k,l,p,r7,t⟩:=t;exact⟨x7,k,l,p.unpinned,r7,t⟩
end
abbrev R2:=V->V->Hp->VK->Prop
def bT(X:Cx)(f:Value->Value->Sem Value)(r:R2):Prop:=
 ∀(a:List (Addr×Obj)) (s:Shared) (Y:St) (H:Hp) (x y:V) (v u:Value) (Q:VK),Inv X a Y H s->aP x v->aP y u->r x y H Q->
  wpAny (model X.prog X.w) X.A (f v u) (EP X a Y Q) X.xe s
def qe(X:Cx)(f:Value->Sem Value)(r:V->Hp->VK->Prop):Prop:=
 ∀(a:List (Addr×Obj)) (s:Shared) (Y:St) (H:Hp) (x:V) (v:Value) (Q:VK),Inv X a Y H s->aP x v->r x H Q->
  wpAny (model X.prog X.w) X.A (f v) (EP X a Y Q) X.xe s
def dQ(X:Cx)(f:Value)(r:List V->Hp->VK->Prop):Prop:=
 ∀(a:List (Addr×Obj)) (s:Shared) (Y:St) (H:Hp) (b:List V) (c:List Value) (Q:VK),Inv X a Y H s->aM b c->r b H Q->
  wpAny (model X.prog X.w) X.A (call f c) (EP X a Y Q) X.xe s
noncomputable def kl(r:R2)(a d:TE):TE:=fun Y H Q=>a Y H fun x b=>d Y b fun y c=>r x y c Q
noncomputable def AW(r:V->Hp->VK->Prop)(a:TE):TE:=fun Y H Q=>a Y H fun x b=>r x b Q
noncomputable def rI(C:Int->Int->Prop)(g:Int->Int->V):R2:=fun x y H Q=>∃i j,x=.int i/\y=.int j/\C i j/\Q (g i j) H
noncomputable def fy(g:Int->Int->V):R2:=fun x y H Q=>∃i j,x=.int i/\y=.int j/\Q (g i j) H
noncomputable def rU(g:Int->V):V->Hp->VK->Prop:=fun x H Q=>∃i,x=.int i/\Q (g i) H
section
variable{X:Cx}{a b c:Expr}{z tb p:TE}{pos:Pos}
theorem qf(j:PE X a z)(k:PE X b tb){d:List (Addr×Obj)}{s:Shared}{Y:St}{H:Hp}{R:V->V->Hp->Prop}(I:Inv X d Y H s)
  (h:z Y H fun x i=>tb Y i fun y e=>R x y e) {Q:Value->Shared->Prop}{f:Value->Value->Sem Value}
  (l:∀v u g x y e,Inv X d Y e g->aP x v->aP y u->R x y e->wpAny (model X.prog X.w) X.A (f v u) Q X.xe g) :
  wpAny (model X.prog X.w) X.A (eval a X.env) (fun v m=>wpAny (model X.prog X.w) X.A (eval b X.env) (fun u n=>wpAny (model X.prog X.w) X.A (f v u) Q X.xe n) X.xe m) X.xe s:=by
 refine aH (j d s Y H _ I h) fun v o ⟨x,i,q,r,t⟩=>?_;refine aH (k d o Y i _ q t) fun u g ⟨y,e,B,C,D⟩=>?_;exact l v u g x y e B r C D
theorem AY{op:Operator}{r:R2}(e:bT X (binaryOp op) r)(f:PE X a z)(g:PE X b tb):PE X (.BinOp a op b pos) (kl r z tb):=by intro d s Y H Q I h;exact wpAny_BinOp (qf f g I h fun v u i x y j k l m q=>e d i Y j x y v u Q k l m q)
theorem AZ{op:UnaryOp}{r:V->Hp->VK->Prop}(f:qe X (unaryOp op) r)(g:PE X a z):PE X (.UnaryOp op a pos) (AW r z):=by intro d s Y H Q I h;exact UnaryOp_ (aH (g d s Y H _ I h) fun v i e=>by obtain⟨x,j,k,l,m⟩:=e;exact f d i Y j x v Q k l m)
theorem qg{f:Value->Value->Sem Value}{C:Int->Int->Prop}{g:Int->Int->Int}
  (rule:∀(i j:Int) (t u:Tok) (s:Shared) (Q:Value->Shared->Prop) (E:Value->Shared->Prop),C i j->Q (.int (g i j) s.toks) { s with toks:=s.toks+1 }->wpAny (model X.prog X.w) X.A (f (.int i t) (.int j u)) Q E s) :
  bT X f (rI C fun i j=>.int (g i j)):=by
 intro d s Y H x y v u Q I e k h;obtain⟨i,j,rfl,rfl,l,q⟩:=h;obtain⟨t,rfl⟩:=e;obtain⟨t',rfl⟩:=k;exact rule i j t t' s _ _ l ⟨.int (g i j),H,I.tok _,⟨_,rfl⟩,q⟩
theorem tE{f:Value->Value->Sem Value}{g:Int->Int->Int}
  (rule:∀(i j:Int) (t u:Tok) (s:Shared) (Q:Value->Shared->Prop) (E:Value->Shared->Prop),Q (.int (g i j) s.toks) { s with toks:=s.toks+1 }->wpAny (model X.prog X.w) X.A (f (.int i t) (.int j u)) Q E s) :
  bT X f (fy fun i j=>.int (g i j)):=by
 intro d s Y H x y v u Q I e k h;obtain⟨i,j,rfl,rfl,q⟩:=h;obtain⟨t,rfl⟩:=e;obtain⟨t',rfl⟩:=k;exact rule i j t t' s _ _ ⟨.int (g i j),H,I.tok _,⟨_,rfl⟩,q⟩
theorem mw{f:Value->Value->Sem Value}{g:Int->Int->Bool}
  (rule:∀(i j:Int) (t u:Tok) (s:Shared) (Q:Value->Shared->Prop) (E:Value->Shared->Prop),Q (.bool (g i j)) s->wpAny (model X.prog X.w) X.A (f (.int i t) (.int j u)) Q E s) :
  bT X f (fy fun i j=>.bl (g i j)):=by
 intro d s Y H x y v u Q I e k h;obtain⟨i,j,rfl,rfl,q⟩:=h;obtain⟨t,rfl⟩:=e;obtain⟨t',rfl⟩:=k;exact rule i j t t' s _ _ ⟨.bl (g i j),H,I,rfl,q⟩
def mx(i j:Int):Prop:=0<j/\j<1073741824
def qh(i j:Int):Prop:=0<=j/\j<=1000000/\i.natAbs<2 ^ 64
def km(i j:Int):Prop:=(-(2 ^ 64)<i/\i<2 ^ 64)\/(-(2 ^ 64)<j/\j<2 ^ 64)
theorem km.ok{i j:Int}(h:km i j):IntMulOk i j:=by
 rcases h with⟨h1,h2⟩ | ⟨h1,h2⟩
 .exact .of_left (intBits_le_64 h1 h2)
 .exact .of_right (intBits_le_64 h1 h2)
theorem Ba:bT X (binaryOp .Add) (fy fun i j=>.int (i+j)):=tE fun _ _ _ _ _ _ _ q=>add_int q
theorem Bb:bT X (binaryOp .Sub) (fy fun i j=>.int (i - j)):=tE fun _ _ _ _ _ _ _ q=>sub_int q
theorem Bc:bT X (binaryOp .Mult) (rI km fun i j=>.int (i * j)):=qg fun _ _ _ _ _ _ _ d q=>mul_int q d.ok
theorem Bd:bT X (binaryOp .Mod) (rI (fun _ j=>0<j) fun i j=>.int (i % j)):=qg fun i j _ _ _ _ _ d q=>by have h1:(0:Int)<j:=d;exact mod_int' (by lia) (by rw[Int.fmod_eq_emod_of_nonneg i (by lia)];exact q)
theorem Be:bT X (binaryOp .Pow) (rI qh fun i j=>.int (i ^ j.toNat)):=qg fun _ _ _ _ _ _ _ d q=>pow_int_small d.1 d.2.1 d.2.2 q
theorem Bf{f:Value->Sem Value}{g:Int->Int}
  (rule:∀(i:Int) (t:Tok) (s:Shared) (Q:Value->Shared->Prop) (E:Value->Shared->Prop),Q (.int (g i) s.toks) { s with toks:=s.toks+1 }->wpAny (model X.prog X.w) X.A (f (.int i t)) Q E s) :
  qe X f (rU fun i=>.int (g i)):=by
 intro d s Y H x v Q I e h;obtain⟨i,rfl,q⟩:=h;obtain⟨t,rfl⟩:=e;exact rule i t s _ _ ⟨.int (g i),H,I.tok _,⟨_,rfl⟩,q⟩
theorem Bg:qe X (unaryOp .USub) (rU fun i=>.int (-i)):=Bf fun _ _ _ _ _ q=>neg_int q
end
section
variable{X:Cx}{a b c:Expr}{A tb n:TE}{pos:Pos}
theorem Bh{d:List (Addr×Obj)}{Y:St}{H:Hp}{s:Shared}{Q:VK}{k f:Bool}(I:Inv X d Y H s)(q:Q (.bl k) H)(e:k=f):EP X d Y Q (.bool f) s:=by subst e;exact⟨.bl k,H,I,rfl,q⟩
theorem tF:bT X (compareOp .Lt) (fy fun i j=>.bl (decide (i<j))):=mw fun _ _ _ _ _ _ _ q=>lt_int q
theorem qi:bT X (compareOp .LtE) (fy fun i j=>.bl (decide (i<=j))):=mw fun _ _ _ _ _ _ _ q=>le_int q
theorem Bi:bT X (compareOp .Gt) (fy fun i j=>.bl (decide (j<i))):=mw fun _ _ _ _ _ _ _ q=>gt_int q
theorem tG:bT X (compareOp .GtE) (fy fun i j=>.bl (decide (j<=i))):=mw fun _ _ _ _ _ _ _ q=>ge_int q
theorem Bj:bT X (compareOp .Is) (fun x y H Q=>y=.non/\Q (.bl (decide (x=.non))) H):=by
 intro d s Y H x y v u Q I e f h;obtain⟨rfl,q⟩:=h;cases f;refine is_none_gen (Bh I q ?_);cases x<;>first
  | (cases e;rfl)
  | (obtain⟨t,rfl⟩:=e;rfl)
theorem bi(b:Expr){op:CmpOp}(h:autoParam (op≠.In) Zr._auto_1)(f:autoParam (op≠.NotIn) Zr._auto_1):behindInMarks op b=false:=by
 have d:(op==CmpOp.In)=false:=by cases op<;>first | rfl | exact absurd rfl h
 have e:(op==CmpOp.NotIn)=false:=by cases op<;>first | rfl | exact absurd rfl f
 cases b<;>simp[behindInMarks,d,e]
theorem Bk{op:CmpOp}{r:R2}(e:bT X (compareOp op) r)(f:PE X a A)(g:PE X b tb)(i:behindInMarks op b=false):PE X (.Compare a [op] [b] pos) (kl r A tb):=by intro d s Y H Q I h;exact wpAny_Compare1 (qf f g I h fun v u j x y k l m o q=>e d j Y k x y v u Q l m o q) i
noncomputable def Bl(t:TE):TT:=fun Y H Q=>t Y H fun x d=>∃k,x=.bl k/\Q k d
theorem tH{op:CmpOp}{r:R2}(f:bT X (compareOp op) r)(g:PE X a A)(i:PE X b tb)(j:behindInMarks op b=false):PT X (.Compare a [op] [b] pos) (Bl (kl r A tb)):=by
 intro d s Y H Q I h;refine wpAny_isTrue_Compare1 (aH (g d s Y H _ I h) fun v l ⟨x,m,o,p,q⟩=>aH (i d l Y m _ o q) fun u t ⟨y,w,B,C,D⟩=>
  aH (f d t Y w x y v u _ B p C D) fun c M ⟨z,E,G,J,k,e,L⟩=>?_) j
 subst e;cases J;exact wpAny_truthy_bool ⟨E,G,L⟩
noncomputable def Bm(r e:R2)(A tb n:TE):TE:=fun Y H Q=>A Y H fun x f=>tb Y f fun y g=>r x y g fun z d=>∃k,z=.bl k/\
 (if k=true then n Y d fun h i=>e y h i Q else Q (.bl false) d)
theorem Bn{op g:CmpOp}{r j:R2}(q:bT X (compareOp op) r)(i:bT X (compareOp g) j)(t:PE X a A)(w:PE X b tb)(B:PE X c n)
  (C:lastMarks [op,g] [b,c]=false:=by with_unfolding_all rfl):PE X (.Compare a [op,g] [b,c] pos) (Bm r j A tb n):=by
 intro f s Y H Q I h;refine Compare_chain (aH (t f s Y H _ I h) fun v D ⟨x,E,G,J,L⟩=>chain_link (aH (w f D Y E _ G L) fun u M ⟨y,N,O,l,R⟩=>
  aH (q f M Y N x y v u _ O J l R) fun d S ⟨z,m,o,T,k,e,p⟩=>?_)) C
 subst e;cases T;refine wpAny_truthy_bool ?_;cases k with
 | false=>exact ite_ff ⟨.bl false,m,o,rfl,p⟩
 | true=>exact ite_tt (chain_last (aH (B f S Y m _ o p) fun U Z ⟨z',H4,I4,r4,q4⟩=>i f Z Y H4 y z' u U Q I4 l r4 q4))
theorem dR:(sizeLine:Nat)<2 ^ 63:=by rw[sizeLine_eq];decide
theorem vals1{x:V}{d:List Value}(r:aM [x] d):∃u,d=[u]/\aP x u:=by
 cases r with
 | cons e f=>cases f;exact⟨_,rfl,e⟩
theorem vals2{x y:V}{d:List Value}(r:aM [x,y] d):∃u e,d=[u,e]/\aP x u/\aP y e:=by
 cases r with
 | cons f g=>
  cases g with
  | cons h i=>cases i;exact⟨_,_,rfl,f,h⟩
theorem qj:dQ X (.builtin "divmod") (fun d H Q=>∃i j,d=[.int i,.int j]/\mx i j/\∀p,H p=none->Q (.ref p) (aS H p (.tup [.int (i / j),.int (i % j)]))):=by intro f s Y H d k Q I r h;obtain⟨i,j,rfl,⟨h1,h2⟩,q⟩:=h;obtain⟨u,l,rfl,⟨t,rfl⟩,⟨t',rfl⟩⟩:=vals2 r;refine divmod_int (by lia) ?_ (.inl (PyProof.noPylong_small (by lia)));rw[Int.fdiv_eq_ediv_of_nonneg i (by lia),Int.fmod_eq_emod_of_nonneg i (by lia)];have g:H s.heap.objs.size=none:=I.hok.fresh (aE _);refine⟨.ref s.heap.objs.size,_,?_,rfl,q _ g⟩;refine I.laid (fun b o e=>aF _ e) (aE _) ⟨by simp only[List.length_cons,List.length_nil];rw[sizeLine_eq];decide,[.int (i / j) s.toks,.int (i % j) (s.toks+1)],.cons ⟨_,rfl⟩ (.cons ⟨_,rfl⟩ .nil),?_⟩;exact⟨_,Heap.get?_push_size s.heap rfl,rfl,0,rfl⟩
end
structure iC (h:Heap) (x dx C:Addr) (mA:Str->Option Value):Prop where
 obj:h.get? x=some (PySem.W.instObj C dx)
 ns:h.Ns1 dx mA
 ne:dx≠x
theorem Bo{h:Heap}{c:Addr}{d:Str->Option Value}(n:h.Ns1 c d):∃f,h.get? c=some f/\∀name,PySem.W.lookIn name f=some (d name):=by
 obtain⟨o,es,m,g,hd,i,_,j⟩:=n;refine⟨o,g,fun name=>?_⟩;have e:=j name;unfold nsFind findBy at e;rw[<-Array.find?_toList] at e;unfold PySem.W.lookIn;rw[hd];dsimp only;split
 .rename_i y q;rw[q] at e;exact congrArg some e
 .rename_i q;rw[q] at e;have a:es.toList.any (·.refKey)=false:=by rw[List.any_eq_false];intro y k;obtain⟨z,t,b⟩:=i y (Array.mem_toList_iff.mp k);simp[DictEntry.refKey,b]
  have l:¬ es.toList.any (·.refKey)=true:=by rw[a];exact Bool.false_ne_true
  rw[if_neg l];exact congrArg some e
theorem iC.look{h:Heap}{x b C:Addr}{c:Str->Option Value}(I:iC h x b C c):∃a,PySem.W.InstAt h x (PySem.W.instObj C b) C (some a)/\∀name,PySem.W.lookIn name a=some (c name):=
 let⟨a,d,e⟩:=Bo I.ns
 ⟨a,⟨I.obj,rfl,rfl,d⟩,e⟩
theorem eJ.some_of{v:V}{o:Option Value}(r:eJ (some v) o):∃u,o=some u/\aP v u:=by
 cases o with
 | none=>exact(show False from r).elim
 | some u=>exact⟨u,rfl,r⟩
section
variable{P:Program}{w:World}{H m:Hp}{h l:Heap}{a C I:Addr}{fs v:List (Str×V)}
theorem Bp(c:bG P w H h)(e:H a=some (.ins C I fs)):∃b,iC h a I C b/\(∀f,eJ (fs.lookup f) (b f))/\PySem.Within b (fs.map (·.1))/\fs.length<=1000/\H I=some (.own a):=by
 obtain⟨d,z,ne,ob,b,n,r,q⟩:=(show bK P w H h a (.ins C I fs) from c a _ e)
 exact⟨b,⟨ob,n,ne⟩,r,q,z,d⟩
end
structure qk (K:Frag) (C:Addr):Prop where
 pg:PySem.W.plainGet K C Str.empty=true
 hd:PySem.W.hasDictIn K C=true
 po:PySem.W.plainOver K C=true
 sa:findIn K (.ref C) "__setattr__" = some (some (.builtin "object.__setattr__"))
theorem qk.get{K:Frag}{C:Addr}(c:qk K C)(f:Str):PySem.W.plainGet K C f=true:=c.pg
section
variable{X:Cx}{r:List (Addr×Obj)}{Y:St}{H:Hp}{s:Shared}{A:Around}{E:Value->Shared->Prop}{Q:Value->Shared->Prop}{c:Value}{b:Bool}
inductive cB (K:Frag) (H:Hp):V->Value->Prop where
 | non:cB K H .non (.type "NoneType")
 | bl (x:Bool):cB K H (.bl x) (.type "bool")
 | int (i:Int):cB K H (.int i) (.type "int")
 | str (x:Str):cB K H (.str x) (.type "str")
 | flt (x:UInt64):cB K H (.flt x) (.type "float")
 | lst {a:Addr}{xs:List V}(e:H a=some (.lst xs)):cB K H (.ref a) (.type "list")
 | frz {a:Addr}{o:Obj}{xs:List V}(e:H a=some (.frz o (.lst xs))):cB K H (.ref a) (.type "list")
 | tup {a:Addr}{xs:List V}(e:H a=some (.tup xs)):cB K H (.ref a) (.type "tuple")
 | dK {a:Addr}{kvs:List (aA×V)}(e:H a=some (.dK kvs)):cB K H (.ref a) (.type "dict")
 | dT {a:Addr}{kvs:List (List aA×V)}(e:H a=some (.dT kvs)):cB K H (.ref a) (.type "dict")
 | ins {a C dx:Addr}{fs:List (Str×V)}(e:H a=some (.ins C dx fs)) (cl:qk K C) (ha:findIn K (.ref C) "__class__" = some (some (.builtin "object.__class__")))
   (hn:PySem.W.specialIn K (.builtin "object.__class__") "__get__" = some (some (.builtin "getset_descriptor.__get__"))) (htk:PySem.W.takesIn K (.builtin "object.__class__")=some true)
   (hm:PySem.W.mroIn K C (.type "object")=some true):cB K H (.ref a) (.ref C)
theorem kn{x:V}{u t:Value}(I:Inv X r Y H s)(d:aP x u)(G:cB X.K H x t)(e:kitOne X.K t c=some b)(h:∀l,Q (.bool b) { s with toks:=l }) :
  wpAny (model X.prog X.w) A (call (.builtin "isinstance") [u,c]) Q E s:=by
 cases G with
 | non=>cases(show u=Value.none from d);exact kia_one PySem.W.kitx_none I.kIn True.intro e (fun z=>nomatch z) h
 | bl y=>cases(show u=Value.bool y from d);exact kia_one PySem.W.kitx_bool I.kIn True.intro e (fun z=>nomatch z) h
 | int i=>obtain⟨t,q⟩:=(show ∃t,u=Value.int i t from d);cases q;exact kia_one PySem.W.kitx_int I.kIn True.intro e (fun z=>nomatch z) h
 | str y=>obtain⟨t,q⟩:=(show ∃t,u=Value.str y t from d);cases q;exact kia_one PySem.W.kitx_str I.kIn True.intro e (fun z=>nomatch z) h
 | flt y=>obtain⟨t,q⟩:=(show ∃t,u=Value.float y t from d);cases q;exact kia_one PySem.W.kitx_float I.kIn True.intro e (fun z=>nomatch z) h
 | @lst a j f=>
  cases(show u=Value.ref a from d);obtain⟨_,_,n,_,h1⟩:=(show bK X.prog X.w H s.heap a (.lst j) from I.hok a _ f)
  exact kia_one PySem.W.kitx_list I.kIn ⟨_,h1,rfl⟩ e (fun z=>nomatch z) h
 | @frz a ob j f=>
  cases(show u=Value.ref a from d);obtain⟨_,_,_,n,_,h1⟩:=(show bK X.prog X.w H s.heap a (.frz ob (.lst j)) from I.hok a _ f)
  exact kia_one PySem.W.kitx_list I.kIn ⟨_,h1,rfl⟩ e (fun z=>nomatch z) h
 | @tup a j f=>
  cases(show u=Value.ref a from d);obtain⟨_,_,_,p⟩:=(show bK X.prog X.w H s.heap a (.tup j) from I.hok a _ f)
  obtain⟨o,h1,h2,_⟩:=p;exact kia_one PySem.W.kitx_tuple I.kIn ⟨o,h1,h2⟩ e (fun z=>nomatch z) h
 | @dK a g f=>
  cases(show u=Value.ref a from d);obtain⟨_,_,L,_,p⟩:=(show bK X.prog X.w H s.heap a (.dK g) from I.hok a _ f)
  obtain⟨o,es,m,h1,h2,_⟩:=p;exact kia_one PySem.W.kitx_dict I.kIn ⟨o,h1,h2.1⟩ e (fun z=>nomatch z) h
 | @dT a g f=>
  cases(show u=Value.ref a from d);obtain⟨_,_,j,_,o,es,m,h1,h2,_⟩:=(show bK X.prog X.w H s.heap a (.dT g) from I.hok a _ f)
  exact kia_one PySem.W.kitx_dict I.kIn ⟨o,h1,h2.1⟩ e (fun z=>nomatch z) h
 | @ins a C M fs f cl v B k D=>cases(show u=Value.ref a from d);obtain⟨N,O,_⟩:=Bp I.hok f;obtain⟨R,J,_⟩:=O.look;exact kia_one (PySem.W.kitx_own (cl.get _) cl.hd v B k D) I.kIn J e (fun z=>nomatch z) h
end
structure bq (k:Nat) (A:Around):Prop where
 hd:A.handled=none
 dp:A.depth+3 * k+5<recursionLimit
 un:A.units+16 * k+200<cLine
theorem bq.mono{j k:Nat}{A:Around}(r:bq k A)(h:j<=k):bq j A:=⟨r.hd,by have:=r.dp;lia,by have:=r.un;lia⟩
theorem bq.deeper{k:Nat}{A:Around}(r:bq (k+1) A)(a:Env):bq k (A.deeper a):=
 ⟨r.hd,by have:=r.dp;show A.depth+1+3 * k+5<_;lia,by have:=r.un;show A.units+3+16 * k+200<_;lia⟩
theorem bq.depth{k:Nat}{A:Around}(r:bq k A):A.depth<recursionLimit:=by have:=r.dp;lia
theorem bq.units{k:Nat}{A:Around}(r:bq k A):A.units+64<cLine:=by have:=r.un;lia
noncomputable def Bq:TA:=fun _ H Q=>Q [] H
noncomputable def Br(a:TE)(e:TA):TA:=fun Y H Q=>a Y H fun x b=>e Y b fun c d=>Q (x::c) d
section
variable{X:Cx}{e:Expr}{es:List Expr}{k:TE}{t:TA}{pos:Pos}
theorem eX:PA X [] Bq:=fun _ _ _ _ H Q I h=>Calls.spliced_nil ⟨[],H,I,.nil,h⟩
theorem eL(d:PE X e k)(f:PA X es t)(g:autoParam (starEach (e::es) X.env=(false,eval e X.env)::starEach es X.env) Zq._auto_1):PA X (e::es) (Br k t):=by intro pos a s Y H Q I h;rw[g];show wpAny _ _ (spliced ((false,eval e X.env)::backTo pos (starEach es X.env))) _ _ s;refine Calls.spliced_cons (aH (d a s Y H _ I h) fun u i b=>?_);obtain⟨x,j,l,m,n⟩:=b;exact aH (f pos a i Y j _ l n) fun w y c=>by obtain⟨o,p,q,r,v⟩:=c;exact⟨x::o,p,q,.cons m r,v⟩
noncomputable def Bt(t:TA):TE:=fun Y H Q=>t Y H fun a b=>a.length<=sizeLine/\∀p,b p=none->Q (.ref p) (aS b p (.tup a))
noncomputable def Bu(t:TA):TE:=fun Y H Q=>t Y H fun a b=>a.length<=sizeLine/\∀p,b p=none->Q (.ref p) (aS b p (.lst a))
theorem Bv{g}(h:PA X es t):PE X (.Tuple es g pos) (Bt t):=by intro a s Y H Q I i;refine wpAny_Tuple_spliced (aH (h pos a s Y H _ I i) fun j c ⟨l,d,f,r,z,q⟩=>⟨by rw[<-r.length];exact z,?_⟩);have m:d c.heap.objs.size=none:=f.hok.fresh (aE _);refine⟨.ref c.heap.objs.size,aS d c.heap.objs.size (.tup l),f.laid (t':=c.toks) (fun b u e=>aF _ e) (aE _) ?_,rfl,q _ m⟩;exact⟨z,j,r,⟨_,Heap.get?_push_size _ rfl,rfl,_,rfl⟩⟩
theorem ql(h:PA X es t):PE X (.List es pos) (Bu t):=by intro a s Y H Q I g;refine wpAny_List_spliced (aH (h pos a s Y H _ I g) fun i c ⟨j,d,f,r,z,q⟩=>⟨by rw[<-r.length];exact z,?_⟩);have l:d c.heap.objs.size=none:=f.hok.fresh (aE _);refine⟨.ref c.heap.objs.size,aS d c.heap.objs.size (.lst j),f.laid (t':=c.toks) (fun b u e=>aF _ e) (aE _) ?_,rfl,q _ l⟩;exact⟨z,i,0,r,Heap.get?_push_size _ rfl⟩
end
abbrev Sp:=List V->Hp->VK->XK->Prop
abbrev gq:=List Env->Hp->Shared->XK->Value->Shared->Prop
structure gr (P:Program) (w:World) (K:Frag) (mg:Str->Option Value) (base:Heap) (A:Around) (outer:List Env) (s:Shared) (H:Hp):Prop where
 frames:A.frames=some outer
 mod:Mod K mg base
 bs:∀b o,base.get? b=some o->s.heap.get? b=some o/\H b=none
 bsz:base.objs.size<=s.heap.objs.size
 funs:s.heap.FunFrames base outer
 frf:∀b∈bp outer,H b=none
 hok:bG P w H s.heap
 bare:AllBare s.gens
def CE(a:List Env)(P:Program)(w:World)(H:Hp)(s:Shared)(Q:VK)(u:Value)(b:Shared):Prop:=
 ∃v c,b.os=s.os/\AllBare b.gens/\Un (bp a) [] H c s.heap b.heap/\bG P w c b.heap/\aP v u/\Q v c
def CR(c:gq)(a:List Env)(P:Program)(w:World)(H:Hp)(s:Shared)(Q:VK)(E:XK)(r:Result)(b:Shared):Prop:=
 match r with
 | .ok (.ret u)=>CE a P w H s Q u b
 | .ok _=>False
 | .error e=>c a H s E e b
structure bV (P:Program) (w:World) (K:Frag) (mg:Str->Option Value) (base:Heap) (CX:gq) (k:Nat) (f:Addr) (fd:FuncData) (ps:List Str) (sp:Sp):Prop where
 len:∀vs H Q E,sp vs H Q E->vs.length=ps.length
 run:∀(A:Around) (outer:List Env) (s:Shared) (H:Hp) (args:Args) (us:List Value) (vs:List V) (Q:VK) (E:XK),bq k A->gr P w K mg base A outer s H->BindsTo s fd args (ps.zip us)->aM vs us->sp vs H Q E->
  codeAny (model P w) A (.call (.ref f) args) (CR CX outer P w H s Q E) s
theorem bV.imp{P:Program}{w:World}{K:Frag}{mg:Str->Option Value}{base:Heap}{d:gq}{k:Nat}{f:Addr}{fd:FuncData}{e:List Str}{g c:Sp}(F:bV P w K mg base d k f fd e g)
  (h:∀b H Q E,c b H Q E->g b H Q E):bV P w K mg base d k f fd e c:=
 ⟨fun b H Q E q=>F.len b H Q E (h _ _ _ _ q),fun A a s H args i b Q E j l m n o=>F.run A a s H args i b Q E j l m n (h _ _ _ _ o)⟩
section
variable{X:Cx}{j:List (Addr×Obj)}{Y:St}{H:Hp}{s i:Shared}
theorem Inv.env0(I:Inv X j Y H s):gr X.prog X.w X.K X.mg X.base X.A X.stack s H:=
 ⟨I.ok.frames,I.ok.mod,I.bs,Nat.le_trans I.ok.bsz I.sz,I.stack,I.stkFree,I.hok,I.bare⟩
theorem Inv.after{Q:VK}{u:Value}(I:Inv X j Y H s)(h:CE X.stack X.prog X.w H s Q u i):EP X j Y Q u i:=by obtain⟨v,c,os,bare,un,hok,r,q⟩:=h;obtain⟨e,g,d,t,a⟩:=i;obtain rfl:a = s.os:=os;exact⟨v,c,I.call (h':=e) (g':=g) (d':=d) (t':=t) (ch:=[]) un hok bare (fun b z=>absurd z (by simp)),r,q⟩
end
def jl(K:Frag)(fd:FuncData)(b:List Str)(c:List Value):Prop:=
 ∀(s:Shared) (a:List Value),K.In s.heap->(a++c).length=b.length->BindsTo s fd ⟨a,[]⟩ (b.zip (a++c))
theorem jl.all{K:Frag}{fd:FuncData}{b:List Str}(h:∀a:List Value,a.length=b.length->bindArgs fd ⟨a,[]⟩=pure (b.zip a)):jl K fd b []:=fun s a _ c=>by rw[List.append_nil] at c ⊢;exact .of_eq (h a c)
structure bI (N P:List Str) (sc:Scope):Prop where
 kind:sc.kind=.function
 co:sc.isCoroutine=false
 gen:sc.isGenerator=false
 nd:N.Nodup
 pre:N.take P.length=P
 par:∀x∈P,sc.names.lookup x=some .local\/sc.names.lookup x=some .cell
 nofree:∀y∈sc.names,y.2≠.free
theorem tI{kindOf:Str->Option NameKind}{x:Str}:∀{binds:List (Str×Value)}{m:Str->Option Value},(∀v,(x,v)∉binds)->bindL kindOf binds m x=m x
 | [],_,_=>rfl
 | (n,v)::r,m,h=>by
  unfold bindL;rw[tI fun w a=>h w (bh _ a)];split
  .have:x≠n:=by rintro rfl;exact h v List.mem_cons_self
   simp[this]
  .rfl
theorem tJ{kindOf:Str->Option NameKind}{x:Str}:∀{binds:List (Str×Value)}{m:Str->Option Value},(∀v,(x,v)∉binds)->bindC kindOf binds m x=m x
 | [],_,_=>rfl
 | (n,v)::r,m,h=>by
  unfold bindC;rw[tJ fun w a=>h w (bh _ a)];split
  .rfl
  .have:x≠n:=by rintro rfl;exact h v List.mem_cons_self
   simp[this]
theorem tK{kindOf:Str->Option NameKind}{x:Str}{v:Value}:∀{P:List Str}{a:List Value}{i:Nat}{m:Str->Option Value},P.Nodup->P[i]? = some x->a[i]? = some v->kindOf x=some .local->
  bindL kindOf (P.zip a) m x=some v
 | [],_,_,_,_,h,_,_=>by simp at h
 | _::_,[],_,_,_,_,h,_=>by simp at h
 | p::P,w::a,0,m,nd,h1,h2,b=>by simp at h1 h2;subst h1;subst h2;show bindL kindOf ((p,w)::P.zip a) m p=_;unfold bindL;rw[tI fun v c=>(List.nodup_cons.mp nd).1 (List.of_mem_zip c).1,if_pos b];simp
 | p::P,w::a,i+1,m,nd,h1,h2,b=>by show bindL kindOf ((p,w)::P.zip a) m x=_;unfold bindL;exact tK (i:=i) (List.nodup_cons.mp nd).2 (by simpa using h1) (by simpa using h2) b
theorem tL{kindOf:Str->Option NameKind}{x:Str}{v:Value}:∀{P:List Str}{a:List Value}{i:Nat}{m:Str->Option Value},P.Nodup->P[i]? = some x->a[i]? = some v->kindOf x≠some .local->
  bindC kindOf (P.zip a) m x=some v
 | [],_,_,_,_,h,_,_=>by simp at h
 | _::_,[],_,_,_,_,h,_=>by simp at h
 | p::P,w::a,0,m,nd,h1,h2,b=>by simp at h1 h2;subst h1;subst h2;show bindC kindOf ((p,w)::P.zip a) m p=_;unfold bindC;rw[tJ fun v c=>(List.nodup_cons.mp nd).1 (List.of_mem_zip c).1,if_neg b];simp
 | p::P,w::a,i+1,m,nd,h1,h2,b=>by show bindC kindOf ((p,w)::P.zip a) m x=_;unfold bindC;exact tL (i:=i) (List.nodup_cons.mp nd).2 (by simpa using h1) (by simpa using h2) b
noncomputable def start(N:List Str)(a:List V):St:=a.map some++List.replicate (N.length - a.length) none
noncomputable def fT(CX:gq)(P:Program)(w:World)(K:Frag)(mg:Str->Option Value)(base:Heap)(N:List Str)(qual:Str)(scope:Scope)(f:Addr)(cd:Value)(A:Around)(outer:List Env)(s:Shared)(H:Hp)(E:XK):Cx where
 prog:=P
 w:=w
 K:=K
 mg:=mg
 base:=base
 A:=A.deeper (envOfC qual scope s.heap.objs.size f cd)
 N:=N
 s₀:=s
 H₀:=H
 env:=envOfC qual scope s.heap.objs.size f cd
 outer:=outer
 stack:=envOfC qual scope s.heap.objs.size f cd::outer
 ex:=[]
 calm:=true
 fn:=fun _=>true
 pn:=[]
 xe:=fun e s'=>wpAny (model P w) (A.deeper (envOfC qual scope s.heap.objs.size f cd)) (leaving (envOfC qual scope s.heap.objs.size f cd) e) (fun _ s''=>CX outer H s E e s'') (fun e' s''=>CX outer H s E e' s'') s'
theorem tM{a:Scope}{n:Nat}{x:Str}(h:a.names.lookup x=some .cell):∃c,(cellsFrom n a.names []).lookup x=some c:=by have q:=PySem.W.cellsFrom_some a.names n [] (.inl h);exact Option.isSome_iff_exists.mp q
theorem Bw{O:gq}{P:Program}{w:World}{K:Frag}{mg:Str->Option Value}{base:Heap}{N o:List Str}{j:Str}{d:Scope}{f:Addr}{I:Value}{A:Around}{g:List Env}{s Q:Shared}{H:Hp}{E:XK}{M:List Value}{t:List V}
  (S:bI N o d) (hd:A.handled=none) (m:gr P w K mg base A g s H) (Z:t.length=o.length) (r:aM t M)
  (x:InCallC s s.heap.objs.size (bindL (envOfC j d s.heap.objs.size f I).kindOf (o.zip M) fun _=>none) (cellsFrom (s.heap.objs.size+1) d.names []) (bindC (envOfC j d s.heap.objs.size f I).kindOf (o.zip M) fun _=>none) Q) :
  Inv (fT O P w K mg base N j d f I A g s H E) [] (start N t) H Q:=by
 have U:o.length<=N.length:=by have:=congrArg List.length S.pre;rw[List.length_take] at this;lia
 obtain⟨L,tk,rfl,R⟩:=x.done;have B:∀b:Addr,b∉(fT O P w K mg base N j d f I A g s H E).ex:=fun b z=>absurd (show b∈([]:List Addr) from z) (by simp);refine⟨⟨m.mod,S.kind,rfl,rfl,aE _,fun y z c L l=>?_,fun y C=>?_,fun y c _ h=>?_,fun _=>hd,Around.frames_deeper m.frames,.inr ⟨rfl,rfl⟩,fun b z=>absurd z (B b),m.bs,m.bsz,fun b _ _=>B b,fun b z=>absurd z (B b),m.funs,m.frf⟩,
  rfl,m.bare,Un.kept R,⟨_,x.toInCall.ns,fun i y v L l h3=>?_⟩,fun y c h=>⟨_,x.cell y c h⟩,m.hok.fresh (aE _),fun y c h=>?_,fun p D=>absurd (show p∈([]:List (Addr×Obj)) from D) (by simp),m.hok.kept R,?_⟩
 .exact name_of_addr x.apart (PySem.mem_of_lookup L) (PySem.mem_of_lookup l)
 .have C:d.names.lookup y=some .cell\/d.names.lookup y=some .free:=C;rcases C with C | C
  .exact tM C
  .exact absurd rfl (S.nofree _ (PySem.mem_of_lookup C))
 .exact Nat.le_of_lt (x.above y c (PySem.mem_of_lookup h))
 .have J:i<t.length:=by
   unfold start at l
   by_cases J:i<t.length
   .exact J
   .rw[List.getElem?_append_right (by simpa using J)] at l;rw[List.getElem?_replicate] at l;split at l<;>cases l
  have X:t[i]? = some v:=by
   unfold start at l;rw[List.getElem?_append_left (by simpa using J),List.getElem?_map] at l;cases e:t[i]? with
   | none=>rw[e] at l;cases l
   | some a=>rw[e] at l;cases l;rfl
  obtain⟨u,T,Y⟩:=r.get X;have D:o[i]? = some y:=by rw[<-S.pre,List.getElem?_take_of_lt (by lia)];exact L
  have G:o.Nodup:=by rw[<-S.pre];exact S.nd.sublist (List.take_sublist _ _)
  refine⟨u,Y,?_⟩;rcases S.par y (List.mem_of_getElem? D) with k | k
  .exact .inl ⟨k,tK G D T k⟩
  .obtain⟨c,e⟩:=tM (n:=s.heap.objs.size+1) k;refine .inr ⟨.inl k,c,e,?_⟩;have q:=x.cell y c e;rw[tL G D T (by show d.names.lookup y≠_;rw[k];decide)] at q;exact q
 .exact m.hok.fresh (Nat.le_of_lt (x.above y c (PySem.mem_of_lookup h)))
 .unfold start;show _=N.length;rw[List.length_append,List.length_map,List.length_replicate];lia
theorem By{D:gq}{P:Program}{w:World}{K:Frag}{mg:Str->Option Value}{base:Heap}{k:Nat}{f:Addr}{name d:Str}{h:Arguments}{body:List Stmt}{a:Scope}{dV kV z pm g ct oc:Value}{Z od:Option Addr}
  {M:Array (Option Value)}{N G:List Str}{O:Sp}(lk:K.lookup f=some ⟨oc,od,.func (fnOf name d h body a dV kV z pm Z g ct),M⟩) (R:codeIn K g d=true) (S:bI N G a)
  (len:∀i H Q E,O i H Q E->i.length=G.length)
  (l:∀(A:Around) (c:List Env) (s:Shared) (H:Hp) (i:List V) (Q:VK) (E:XK),bq k (A.deeper (envOfC d a s.heap.objs.size f g))->O i H Q E->
   ∃t,PSs (fT D P w K mg base N d a f g A c s H E) body t/\t { nx:=fun _ j=>Q .non j,rt:=Q } (start N i) H) :
  bV P w K mg base D (k+1) f (fnOf name d h body a dV kV z pm Z g ct) G O:=by
 refine⟨len,fun A c s H args us i Q E T B hb r C=>?_⟩;have hl:=len _ _ _ _ C;have KX:K.In s.heap:=B.mod.kin.keeps fun b o e=>(B.bs b o e).1;have U:s.heap.NoLimit:=B.mod.nolimit.keeps fun b o e=>(B.bs b o e).1;have m:∀y∈G.zip us,a.names.lookup y.1=some .local\/(a.names.lookup y.1=some .cell/\((cellsFrom (s.heap.objs.size+1) a.names []).lookup y.1).isSome=true):=fun⟨n,v⟩ hy=>by
  rcases S.par n (List.of_mem_zip hy).1 with q | q
  .exact .inl q
  .exact .inr ⟨q,PySem.W.cellsFrom_some _ _ _ (.inl q)⟩
 refine codeAny_call_function T.depth (KX _ _ lk) rfl S.co S.gen rfl (PySem.W.codeRec_of KX R) (hb _ _ _ _ ?_);refine wpAny_newFunctionEnv_cells S.kind m fun a0 he s1 x=>?_;subst he;refine⟨U.keeps x.toInCall.keep,codeAny_func ?_⟩;obtain⟨t,ht,hq⟩:=l A c s H i Q E (T.deeper _) C;have I:Inv (fT D P w K mg base N d a f g A c s H E) [] (start N i) H s1:=Bw S T.hd B hl r x;refine wpAny_mono (ht [] s1 (start N i) H _ I hq) (fun fl X p=>?_) fun e X p=>p;have fin:∀{L:St}{j:Hp}{v:V}{u:Value},Inv (fT D P w K mg base N d a f g A c s H E) [] L j X->aP v u->Q v j->CE c P w H s Q u X:=
  fun {L j v u} J Y q=>⟨v,j,J.os,J.bare,J.base,J.hok,Y,q⟩
 cases fl with
 | ret u=>obtain⟨v,L,j,J,Y,q⟩:=p;exact fin J Y q
 | next=>obtain⟨L,j,J,q⟩:=p;exact fin (v:=V.non) (u:=Value.none) J rfl q
 | brk=>obtain⟨_,_,_,q⟩:=p;exact False.elim q
 | cont=>obtain⟨_,_,_,q⟩:=p;exact False.elim q
section
variable{X:Cx}{x:Str}{p pos:Pos}{e:Expr}{es:List Expr}{t:TA}{id T:String}{r:List V->Hp->VK->Prop}
noncomputable def qm(r:List V->Hp->VK->Prop)(t:TA):TE:=fun Y H Q=>t Y H fun a b=>r a b Q
theorem iD(f:dQ X (.builtin id) r)(g:Gl X x)(i:X.mg x=none)(j:bootBuiltins x=some (.builtin id))(k:PA X (e::es) t)(l:autoParam (x≠"__name__") Zr._auto_1)(c:autoParam ((x==("__debug__":Str))=false) Zr._auto_1)
  (m:autoParam (starEach (e::es) X.env=(false,eval e X.env)::starEach es X.env) Zq._auto_1) (d:autoParam ((backTo pos (starEach es X.env)).any (·.1)=false) Zq._auto_1):PE X (.Call (.Name x p) (e::es) [] pos) (qm r t):=by
 intro a s Y H Q I h;refine wpAny_Call_Name_kw (iB I g i j ?_ l c);exact PyProof.Rows.callWith_builtin1 (aH (k pos a s Y H _ I h) fun n o b=>by obtain⟨q,u,v,w,y⟩:=b;exact f a o Y u q n Q v w y) m d
theorem qo(d:dQ X (.type T) r)(f:Gl X x)(g:X.mg x=none)(i:bootBuiltins x=some (.type T))(j:PA X (e::es) t)(k:autoParam (x≠"__name__") Zr._auto_1)(b:autoParam ((x==("__debug__":Str))=false) Zr._auto_1)
  (l:autoParam (starEach (e::es) X.env=(false,eval e X.env)::starEach es X.env) Zq._auto_1) (c:autoParam ((backTo pos (starEach es X.env)).any (·.1)=false) Zq._auto_1):PE X (.Call (.Name x p) (e::es) [] pos) (qm r t):=by
 intro a s Y H Q I h;refine wpAny_Call_Name_kw (iB I f g i ?_ k b);exact PyProof.Rows.callWith_type1 (aH (j pos a s Y H _ I h) fun m n ⟨o,q,u,v,w⟩=>d a n Y q o m Q u v w) l c
end
end L2
namespace HT
open PySem PyProof.Rows
noncomputable def lexLt:List Int->List Int->Bool
 | [],[]=>false
 | [],_::_=>true
 | _::_,[]=>false
 | x::a,y::b=>if x=y then lexLt a b else decide (x<y)
theorem lexLt_cons(x y:Int)(a b:List Int):lexLt (x::a) (y::b)=if x=y then lexLt a b else decide (x<y):=rfl
theorem lexLt_nil_nil:lexLt [] []=false:=rfl
section
variable{prog:Program}{w:World}{A:Around}{E:Value->Shared->Prop}{s:Shared}
theorem cat_tup{t b:Addr}{d a:List Value}{Q:Value->Shared->Prop}(v:IsTup s.heap t d.toArray)(x:IsTup s.heap b a.toArray)(m:d≠[])
  (y:a=[]->Q (.ref t) s) (z:a≠[]->Q (.ref s.heap.objs.size) { s with heap:=s.heap.push { cls:=.type "tuple",data:=.seq (d++a).toArray } })
  (l:d.length+a.length<=sizeLine):wpAny (model prog w) A (binaryOp .Add (.ref t) (.ref b)) Q E s:=by
 obtain⟨⟨cls,o,data,p⟩,j,q,n,hd⟩:=id v;obtain⟨⟨r,f,data2,g⟩,c,h,u,i⟩:=id x;simp only at q hd h i;subst q hd h i;have e:d.toArray++a.toArray=(d++a).toArray:=by simp
 by_cases k:a=[]
 .exact concat_meets ⟨_,j,rfl⟩ ⟨_,c,rfl⟩ noFill_tuple_add seq_tuple_add PySem.F.slot_tuple_add PySem.F.entry_tuple_add (PySem.F.args_tuple_add_2 _ _)
   (tuple_addW1 t b d.toArray a.toArray n u o f p g (by simpa using m) (by simp[k])) ⟨j,c,y k⟩
 .refine concat_meets ⟨_,j,rfl⟩ ⟨_,c,rfl⟩ noFill_tuple_add seq_tuple_add PySem.F.slot_tuple_add PySem.F.entry_tuple_add (PySem.F.args_tuple_add_2 _ _)
   (tuple_addW2 t b d.toArray a.toArray n u o f p g (by simpa using m) (by simpa using k) (by rw[List.size_toArray,List.size_toArray];exact l)) ⟨j,c,?_⟩
  rw[e];exact z k
noncomputable def sIx(n d:Nat):Option Int->Nat
 | none=>d
 | some v=>if v<0 then(v+(n:Int)).toNat else min v.toNat n
theorem sIx_none(n d:Nat):sIx n d none=d:=rfl
theorem sIx_nat(n d k:Nat):sIx n d (some (k:Int))=min k n:=by show(if (k:Int)<0 then((k:Int)+(n:Int)).toNat else min (k:Int).toNat n)=min k n;rw[if_neg (by lia),Int.toNat_natCast]
end
end HT
namespace L2
open PySem PySem.Spec PyProof.Rows
abbrev TO:=St->Hp->(Option Int->Hp->Prop)->Prop
def PO(X:Cx)(e:Option Expr)(t:TO):Prop:=
 ∀(a:List (Addr×Obj)) (s:Shared) (Y:St) (H:Hp) (Q:Option Int->Hp->Prop),Inv X a Y H s->t Y H Q->
  wpAny (model X.prog X.w) X.A (evalPart e X.env) (fun u c=>∃o b,Inv X a Y b c/\IsPart u o/\Q o b) X.xe s
noncomputable def Bz:TO:=fun _ H Q=>Q none H
noncomputable def BA(t:TE):TO:=fun Y H Q=>t Y H fun x a=>∃i,x=.int i/\Q (some i) a
section
variable{X:Cx}{e:Expr}{f:TE}{lo g:Option Expr}{d th:TO}{pos p2:Pos}
theorem BB:PO X none Bz:=by intro a s Y H Q I h;rw[evalPart_none];exact ai ⟨none,H,I,.none,h⟩
theorem BC(h:PE X e f):PO X (some e) (BA f):=by intro a s Y H Q I c;rw[evalPart_some];refine aH (h a s Y H _ I c) fun u n b=>?_;obtain⟨x,j,k,l,m⟩:=b;obtain⟨i,rfl,q⟩:=m;obtain⟨t,rfl⟩:=l;exact⟨some i,j,k,.int i t,q⟩
def tN(X:Cx)(r:V->Option Int->Option Int->Hp->VK->Prop):Prop:=
 ∀(a:List (Addr×Obj)) (s:Shared) (Y:St) (H:Hp) (x:V) (v b c:Value) (lo g:Option Int) (h:Addr) (Q:VK),Inv X a Y H s->aP x v->s.heap.IsSliceOf h b c .none->IsPart b lo->IsPart c g->r x lo g H Q->
  ∃T id,typeLookup (.type T) "__getitem__" = pure (some (.builtin id))/\s.TypeIs v T/\wpAny (model X.prog X.w) X.A (getItem v (.ref h)) (EP X a Y Q) X.xe s
noncomputable def BD(r:V->Option Int->Option Int->Hp->VK->Prop)(f:TE)(d th:TO):TE:=fun Y H Q=>f Y H fun x a=>d Y a fun l b=>th Y b fun u c=>r x l u c Q
theorem BE{r:V->Option Int->Option Int->Hp->VK->Prop}(o:tN X r)(p:PE X e f)(t:PO X lo d)(y:PO X g th):PE X (.Subscript e (.Slice lo g none p2) pos) (BD r f d th):=by intro a s Y H Q I h;refine Subscript_ (aH (p a s Y H _ I h) fun v z i=>?_);obtain⟨x,B,C,D,E⟩:=i;refine wpAny_Slice (aH (t a z Y B _ C E) fun k G ⟨l,J,L,M,N⟩=>aH (y a G Y J _ L N) fun m c j=>?_);obtain⟨u,n,O,R,S⟩:=j;rw[evalPart_none];refine ai ?_;have U:Inv X a Y n { c with heap:=c.heap.push { cls:=.type "slice",data:=.fields #[k,m,.none] } }:=O.kept (t':=c.toks) fun b ob q=>aF _ q;obtain⟨T,id,hT,Z,hg⟩:=o a { c with heap:=c.heap.push { cls:=.type "slice",data:=.fields #[k,m,.none] } } Y n x v k m l u c.heap.objs.size Q U D (Heap.IsSliceOf.new ..) M R S;show wpAny (model X.prog X.w) X.A (subscriptTail e (.Slice lo g none p2) v (.ref c.heap.objs.size)) (EP X a Y Q) X.xe { c with heap:=c.heap.push { cls:=.type "slice",data:=.fields #[k,m,.none] } };exact tail_any (ops:=[.ref c.heap.objs.size,v]) Z hT hg (by with_unfolding_all rfl)
noncomputable def jm(a:List V)(lo g:Option Int):List V:=(a.drop (HT.sIx a.length 0 lo)).take (HT.sIx a.length a.length g - HT.sIx a.length 0 lo)
theorem BF(a:List V)(lo g:Option Int):(jm a lo g).length<=a.length:=by unfold jm;rw[List.length_take,List.length_drop];lia
noncomputable def BG(K:Frag):R2:=fun x y H Q=>∃a b h c,x=.ref a/\y=.ref b/\dP K H a h/\dP K H b c/\h≠[]/\h.length+c.length<=sizeLine/\
 (c=[]->Q (.ref a) H)/\(c≠[]->∀p,H p=none->Q (.ref p) (aS H p (.tup (h++c))))
theorem aM.nil_iff{a:List V}{b:List Value}(r:aM a b):b=[]↔a=[]:=by
 cases r with
 | nil=>simp
 | cons _ _=>simp
theorem BH:bT X (binaryOp .Add) (BG X.K):=by intro j s Y H x y v u Q I m n h;obtain⟨a,b,p,r,rfl,rfl,t,A,B,k,C,D⟩:=h;cases m;cases n;obtain⟨E,i,G,_⟩:=I.tuple t;obtain⟨l,c,p2,_⟩:=I.tuple A;refine HT.cat_tup G p2 (fun z=>B (i.nil_iff.mp z)) (fun z=>⟨.ref a,H,I,rfl,C (c.nil_iff.mp z)⟩) (fun z=>?_) (by rw[<-i.length,<-c.length];exact k);refine⟨.ref s.heap.objs.size,_,I.laid (t':=s.toks) (o:=.tup (p++r)) (fun b J q=>aF _ q) (aE _) ?_,rfl,D (fun w=>z (c.nil_iff.mpr w)) _ (I.hok.fresh (aE _))⟩;exact⟨by rw[List.length_append];exact k,_,i.append c,IsTup.new _ _⟩
end
noncomputable def eM(n:Nat)(i:Int):Option Nat:=if 0<=i then(if i<n then some i.toNat else none) else if -(n:Int)<=i then some (i+n).toNat else none
noncomputable def bR{α:Type}(a:List α)(i:Int):Option α:=(eM a.length i).bind fun j=>a[j]?
theorem BI{n:Nat}{i:Int}{j:Nat}(h:eM n i=some j):seqIndex? i n=some j/\j<n/\-(n:Int)<=i/\i<n:=by
 unfold eM at h
 by_cases a:0<=i
 .rw[if_pos a] at h
  by_cases h1:i<n
  .rw[if_pos h1] at h;have e:i.toNat=j:=Option.some.inj h;exact⟨by rw[seqIndex_of a h1,e],by lia,by lia,h1⟩
  .rw[if_neg h1] at h;cases h
 .rw[if_neg a] at h
  by_cases h1:-(n:Int)<=i
  .rw[if_pos h1] at h;have e:(i+n).toNat=j:=Option.some.inj h;exact⟨by rw[seqIndex_neg (by lia) h1,e],by lia,h1,by lia⟩
  .rw[if_neg h1] at h;cases h
theorem tO{α:Type}{a:List α}{i:Int}{v:α}(h:bR a i=some v):∃j,seqIndex? i a.length=some j/\a[j]? = some v/\j<a.length/\-(a.length:Int)<=i/\i<a.length:=by
 unfold bR at h;cases e:eM a.length i with
 | none=>rw[e] at h;cases h
 | some j=>rw[e] at h;obtain⟨c,h2,h3,b⟩:=BI e;exact⟨j,c,h,h2,h3,b⟩
def my(b:Expr):Prop:=∀o i,subscripted b false o i=operate [o,i] (getItem o i)
def gu(X:Cx)(r:R2):Prop:=
 ∀(value slice:Expr) (a:List (Addr×Obj)) (s:Shared) (Y:St) (H:Hp) (x y:V) (v u:Value) (Q:VK),Inv X a Y H s->aP x v->aP y u->r x y H Q->
  subscripted slice false v u=operate [v,u] (getItem v u)->wpAny (model X.prog X.w) X.A (subscriptTail value slice v u) (EP X a Y Q) X.xe s
def BJ(X:Cx)(id:String)(r:V->List V->Hp->VK->Prop):Prop:=
 ∀(a:List (Addr×Obj)) (s:Shared) (Y:St) (H:Hp) (x:V) (b:List V) (v:Value) (c:List Value) (Q:VK),Inv X a Y H s->aP x v->aM b c->r x b H Q->
  wpAny (model X.prog X.w) X.A (call (.builtin id) (v::c)) (EP X a Y Q) X.xe s
section
variable{X:Cx}{a b:Expr}{ta tb:TE}{pos:Pos}
theorem gu.or{r d:R2}(h:gu X r)(i:gu X d):gu X (fun x y H Q=>r x y H Q\/d x y H Q):=by
 intro value slice c s Y H x y v u Q I e f q g;rcases q with q | q
 .exact h value slice c s Y H x y v u Q I e f q g
 .exact i value slice c s Y H x y v u Q I e f q g
theorem tP{r:R2}(d:gu X r)(e:PE X a ta)(f:PE X b tb)(g:my b):PE X (.Subscript a b pos) (kl r ta tb):=by intro c s Y H Q I h;exact Subscript_ (qf e f I h fun v u i x y j k l m q=>d a b c i Y j x y v u Q k l m q (g _ _))
noncomputable def qp(K:Frag):R2:=fun x y H Q=>∃p c i v,x=.ref p/\y=.int i/\cA K H p c/\bR c i=some v/\Q v H
noncomputable def qr(K:Frag):R2:=fun x y H Q=>∃p c i v,x=.ref p/\y=.int i/\dP K H p c/\bR c i=some v/\Q v H
theorem tQ:gu X (qp X.K):=by
 intro value slice c s Y H x y v u Q I n o h k;obtain⟨p,J,i,z,rfl,rfl,A,B,q⟩:=h;cases n;obtain⟨t,rfl⟩:=o;obtain⟨d,r,e,L⟩:=I.list A;obtain⟨j,h1,h2,h3,C,D⟩:=tO B;obtain⟨w,l,f⟩:=r.get h2;have E:=r.length;have M:=dR;have fin:EP X c Y Q w s:=⟨z,H,I,f,q⟩
 by_cases m:0<=i
 .have g:i.toNat=j:=by rw[seqIndex_of m D] at h1;exact Option.some.inj h1
  exact item_listR e.isList m (by lia) (by rw[g];simpa using l) fin k
 .have g:(i+(d.toArray.size:Int)).toNat=j:=by rw[seqIndex_neg (by lia) C] at h1;rw[List.size_toArray,<-E];exact Option.some.inj h1
  exact subscriptTail_builtinR (x:=w) e.isList.typeIs slot_list_getitem.lookup
   (wpAny_getItem_list_neg (Q:=fun r G=>r=w/\EP X c Y Q r G) e.isList (by lia) (by rw[List.size_toArray]<;>lia) (by lia) (by rw[g];simpa using l) ⟨rfl,fin⟩) k
theorem BK:gu X (qr X.K):=by
 intro value slice c s Y H x y v u Q I f g h k;obtain⟨p,C,i,z,rfl,rfl,l,m,q⟩:=h;cases f;obtain⟨t,rfl⟩:=g;obtain⟨n,r,e,D⟩:=I.tuple l;obtain⟨j,h1,h2,h3,E,G⟩:=tO m;obtain⟨w,o,d⟩:=r.get h2;have A:=r.length;have J:=dR;have fin:EP X c Y Q w s:=⟨z,H,I,d,q⟩
 exact subscriptTail_builtinR (x:=w) e.typeIs slot_tuple_getitem.lookup
  (getItem_tuple (j:=j) (Q:=fun r B=>r=w/\EP X c Y Q r B) e (by lia) (by lia) (by rw[List.size_toArray,<-A];exact h1) (by simpa using o) ⟨rfl,fin⟩) k
theorem BL(lo c:Option Int)(n:Nat):(sliceBounds lo c none n).1=((HT.sIx n 0 lo:Nat):Int)/\(sliceBounds lo c none n).2.1=((HT.sIx n n c:Nat):Int)/\(sliceBounds lo c none n).2.2=1:=by
 refine⟨?_,?_,rfl⟩
 .cases lo with
  | none=>simp[sliceBounds,HT.sIx]
  | some i=>
   simp only[sliceBounds,HT.sIx,Option.getD_none,show(1:Int)>0 by decide,if_true]
   by_cases h:i<0
   .simp only[h,if_true]<;>lia
   .simp only[h,if_false]<;>lia
 .cases c with
  | none=>simp[sliceBounds,HT.sIx]
  | some i=>
   simp only[sliceBounds,HT.sIx,Option.getD_none,show(1:Int)>0 by decide,if_true]
   by_cases h:i<0
   .simp only[h,if_true]<;>lia
   .simp only[h,if_false]<;>lia
theorem BM(c:List Value)(lo d:Option Int):slicePick c.toArray lo d none=((c.drop (HT.sIx c.length 0 lo)).take (HT.sIx c.length c.length d - HT.sIx c.length 0 lo)).toArray:=by obtain⟨e,h2,h3⟩:=BL lo d c.toArray.size;unfold slicePick;rw[e,h2,h3];simp only[sliceRange_one,pick_run,List.size_toArray]<;>rfl
noncomputable def BN(K:Frag):V->Option Int->Option Int->Hp->VK->Prop:=fun x lo d H Q=>∃a c,x=.ref a/\cA K H a c/\∀p,H p=none->Q (.ref p) (aS H p (.lst (jm c lo d)))
theorem BO:tN X (BN X.K):=by intro f s Y H x v t u lo e w Q I i j k l h;obtain⟨a,c,rfl,m,q⟩:=h;cases i;obtain⟨n,r,g,p⟩:=I.list m;have d:=r.length;refine⟨"list",_,slot_list_getitem.lookup,g.isList.typeIs,?_⟩;refine wpAny_getItem_list_slice g.isList j k l .none (by simp) ?_ (by rw[List.size_toArray]<;>lia);rw[BM,<-d];refine⟨.ref s.heap.objs.size,_,I.laid (t':=s.toks) (o:=.lst (jm c lo e)) (fun b y q=>aF _ q) (aE _) ?_,rfl,q _ (I.hok.fresh (aE _))⟩;exact⟨Nat.le_trans (BF c lo e) p,_,0,(r.drop (HT.sIx c.length 0 lo)).take (HT.sIx c.length c.length e - HT.sIx c.length 0 lo),Heap.get?_push_size _ rfl⟩
theorem gW:dQ X (.builtin "len") (fun j H Q=>∃p d,j=[.ref p]/\(cA X.K H p d\/dP X.K H p d)/\Q (.int d.length) H):=by
 intro k s Y H j n Q I r h;obtain⟨p,d,rfl,e,q⟩:=h;obtain⟨u,rfl,l⟩:=vals1 r;cases l;have o:=dR;rcases e with e | e
 .obtain⟨f,g,i,m⟩:=I.list e;have c:=g.length;exact Calls.call_len_list i.isList (by simp only[List.size_toArray]<;>lia) ⟨.int d.length,H,I.tok _,⟨s.toks+1,by rw[List.size_toArray,c]⟩,q⟩
 .obtain⟨f,g,i,m⟩:=I.tuple e;have c:=g.length;exact len_tuple i (by simp only[List.size_toArray]<;>lia) ⟨.int d.length,H,I.tok _,⟨s.toks+1,by rw[List.size_toArray,c]⟩,q⟩
def tR(K:Frag)(T:String)(x:V)(H:Hp):Prop:=match x with
 | .str _=>T="str"
 | .int _=>T="int"
 | .ref p=>(T="list"/\∃d,cA K H p d)\/(T="tuple"/\∃o,K.lookup p=some o/\o.cls=.type "tuple"/\o.dict=none)\/
   (T="dict"/\((∃c,H p=some (.dK c))\/∃c,H p=some (.dT c)))\/(T="set"/\∃S n,H p=some (.set S n))
 | _=>False
theorem BP{f:List (Addr×Obj)}{Y:St}{H:Hp}{s:Shared}{T:String}{x:V}{v:Value}(I:Inv X f Y H s)(r:aP x v)(g:tR X.K T x H) :
  s.TypeIs v T/\∀a,v=.ref a->∃l,s.heap.get? a=some l/\l.dict=none:=by
 cases x with
 | str z=>obtain⟨t,rfl⟩:=r;cases(show T="str" from g);exact⟨typeIs_str s z t,fun _ e=>nomatch e⟩
 | int i=>obtain⟨t,rfl⟩:=r;cases(show T="int" from g);exact⟨typeIs_int s i t,fun _ e=>nomatch e⟩
 | ref p=>
  cases r;rcases g with⟨rfl,w,m⟩ | ⟨rfl,o,d,q,hd⟩ | ⟨rfl,d⟩ | ⟨rfl,S,n,d⟩
  .obtain⟨u,_,k,_⟩:=I.list m;refine⟨k.isList.typeIs,fun a e=>?_⟩;cases e;obtain⟨o,n,e,c,hd,_⟩:=k;exact⟨o,e,hd⟩
  .refine⟨⟨o,I.kIn p o d,q⟩,fun a e=>?_⟩;cases e;exact⟨o,I.kIn _ o d,hd⟩
  .have z:∃o,s.heap.get? p=some o/\o.ExactDict:=by
    rcases d with⟨h,d⟩ | ⟨h,d⟩
    .obtain⟨_,_,_,_,o,_,_,e,ex,_⟩:=I.hok p _ d;exact⟨o,e,ex⟩
    .obtain⟨_,_,_,_,o,_,_,e,ex,_⟩:=I.hok p _ d;exact⟨o,e,ex⟩
   obtain⟨o,e,ex⟩:=z;refine⟨⟨o,e,ex.1⟩,fun a j=>?_⟩;cases j;exact⟨o,e,ex.2.1⟩
  .obtain⟨o,_,_,_,e,ex,_⟩:=I.hok p _ d;refine⟨⟨o,e,ex.1⟩,fun a j=>?_⟩;cases j;exact⟨o,e,ex.2.1⟩
 | _=>exact False.elim g
noncomputable def BQ(K:Frag)(T:String)(r:V->List V->Hp->VK->Prop)(f:TE)(t:TA):TE:=fun Y H Q=>f Y H fun x c=>tR K T x c/\t Y c fun d e=>r x d e Q
variable{o e:Expr}{es:List Expr}{to:TE}{t:TA}{name:Str}{apos cpos:Pos}{T id:String}{r:V->List V->Hp->VK->Prop}
theorem BR(pa:PlainAttrs T)(slot:Slot T name id)(l:typeOf (.builtin id)=pure (.type "method_descriptor"))(q:BJ X id r)(u:PE X o to)(w:PA X (e::es) t)
  (f:autoParam (attributeBase o name X.env (eval o X.env)=eval o X.env) Zq._auto_1)
  (i:autoParam (((backTo cpos (starEach (e::es) X.env)).all (fun x=>!x.1)&&(backToKw cpos (keywordEach [] X.env)).all (fun x=>x.1.isSome)
   && decide ((e::es).length+([]:List Keyword).length+(if ([]:List Keyword).isEmpty then 0 else 1)<30))=true) Zq._auto_1)
  (g:autoParam ((apos.endLine==cpos.line)=true) Zq._auto_1) (y:autoParam (starEach (e::es) X.env=(false,eval e X.env)::starEach es X.env) Zq._auto_1) (d:autoParam ((backTo cpos (starEach es X.env)).any (·.1)=false) Zq._auto_1) :
  PE X (.Call (.Attribute o name apos) (e::es) [] cpos) (BQ X.K T r to t):=by
 intro c s Y H Q I h;refine wpAny_Call_method_late f i g rfl (aH (u c s Y H _ I h) fun v z j=>?_);obtain⟨x,A,m,n,ty,B⟩:=j;obtain⟨N,h2⟩:=BP m n ty;refine⟨T,id,pa,slot,l,N,h2,?_⟩;have p:=w cpos c z Y A _ m B;rw[y] at p ⊢;refine Calls.callWith_builtin (by show(false||(backTo cpos (starEach es X.env)).any (·.1))=false;rw[d]<;>rfl) (Calls.evalArgs_plain ?_);exact aH p fun C D k=>by obtain⟨E,G,J,L,M⟩:=k;exact q c D Y G x E v C Q J n L M
end
def BS(X:Cx)(id:String)(r:V->List V->Hp->VK->Prop):Prop:=
 ∀(a:List (Addr×Obj)) (s:Shared) (Y:St) (H:Hp) (x:V) (b:List V) (v:Value) (c:List Value) (Q:VK),Inv X a Y H s->aP x v->aM b c->r x b H Q->
  wpAny (model X.prog X.w) X.A (call (.builtin id) (v::c)) (EP X a Y Q) X.xe s
theorem aM.one:∀{x:V}{a:List Value},aM [x] a->∃u,a=[u]/\aP x u
 | _,_,.cons r .nil=>⟨_,rfl,r⟩
theorem aM.rep{a:List V}{b:List Value}(h:aM a b):∀k:Nat,aM (List.replicate k a).flatten (List.replicate k b).flatten
 | 0=>.nil
 | k+1=>by rw[List.replicate_succ,List.replicate_succ,List.flatten_cons,List.flatten_cons];exact aM.append h (aM.rep h k)
theorem tS(a:List Value):∀(k:Nat) (b:List Value),
  List.foldl (fun c d=>c++d) b.toArray (List.replicate k a.toArray)=(b++(List.replicate k a).flatten).toArray
 | 0,b=>by simp
 | k+1,b=>by
  have e:b.toArray++a.toArray=(b++a).toArray:=by simp
  have f:(b++a)++(List.replicate k a).flatten=b++(List.replicate (k+1) a).flatten:=by rw[List.replicate_succ,List.flatten_cons,List.append_assoc]
  rw[<-f,<-tS a k (b++a),<-e,List.replicate_succ,List.foldl_cons]
section
variable{X:Cx}{pins:List (Addr×Obj)}{Y:St}{H:Hp}{s:Shared}{l b:Addr}{xs ys zs:List V}
theorem Inv.lset{a its':List Value}{n:Nat}{f:Array Value->Array Value}{t':Nat}(I:Inv X pins Y H s)(c:H l=some (.lst xs))
  (e:s.heap.get? l=some { cls:=.type "list",data:=.seq a.toArray n }) (d:f a.toArray=its'.toArray) (g:aM ys its') (h:ys.length<=sizeLine) :
  Inv X pins Y (aS H l (.lst ys)) { s with heap:=s.heap.update l (Obj.mapSeq f),toks:=t' }:=by
 have q:=PySem.IsL.update e f;rw[d] at q;refine I.write (x:=l) (e:=l) (by rw[c];exact trivial) (.inl rfl) (fun k u i j=>(Heap.get?_update_other s.heap (Obj.mapSeq f) (Ne.symm i)).trans j) ⟨_,q⟩ ?_;exact⟨h,its',_,g,q⟩
theorem Inv.lnew{a:List Value}{t':Nat}(I:Inv X pins Y H s)(c:aM ys a)(d:ys.length<=sizeLine) :
  Inv X pins Y (aS H s.heap.objs.size (.lst ys)) { s with heap:=s.heap.push { cls:=.type "list",data:=.seq a.toArray },toks:=t' }:=
 I.laid (fun _ _ q=>aF _ q) (aE _) ⟨d,a,0,c,Heap.get?_push_size _ rfl⟩
theorem Inv.fresh(I:Inv X pins Y H s):H s.heap.objs.size=none:=I.hok.fresh (aE _)
theorem Inv.lstM(I:Inv X pins Y H s)(c:H l=some (.lst xs)):xs.length<=sizeLine/\∃(a:List Value) (n:Nat),aM xs a/\xs.length=a.length/\s.heap.get? l=some { cls:=.type "list",data:=.seq a.toArray n }:=by obtain⟨z,a,n,r,e⟩:=I.hok l _ c;exact⟨z,a,n,r,r.length,e⟩
theorem BT{n:Nat}(h:n<=sizeLine):Builtin.List.listTooLong n=false:=by unfold Builtin.List.listTooLong;exact decide_eq_false (by lia)
end
section
variable{X:Cx}
noncomputable def BU:V->List V->Hp->VK->Prop:=fun x b H Q=>∃l a y,x=.ref l/\b=[y]/\H l=some (.lst a)/\a.length<sizeLine/\Q .non (aS H l (.lst (a++[y])))
theorem BV:BS X "list.append" BU:=by intro b s Y H x i v j Q I d f h;obtain⟨l,k,y,rfl,rfl,c,m,q⟩:=h;cases d;obtain⟨u,rfl,g⟩:=f.one;obtain⟨z,a,n,r,o,e⟩:=I.lstM c;refine call_meets F.slot_list_append ⟨_,e,rfl⟩ F.entry_list_append (F.args_list_append_2 _ _) (PySem.list_append l a.toArray n u (by rw[List.size_toArray];lia)) ⟨e,?_⟩;refine⟨.non,_,I.lset (its':=a++[u]) c e (by simp) (r.append (.cons g .nil)) ?_,rfl,q⟩;rw[List.length_append,List.length_singleton];lia
noncomputable def tT:R2:=fun x y H Q=>∃l b a c,x=.ref l/\y=.ref b/\H l=some (.lst a)/\H b=some (.lst c)/\a.length+c.length<=sizeLine/\∀p,H p=none->Q (.ref p) (aS H p (.lst (a++c)))
theorem BW:bT X (binaryOp .Add) tT:=by
 intro d s Y H x y v u Q I f g h;obtain⟨l,b,t,w,rfl,rfl,i,j,A,q⟩:=h;cases f;cases g;obtain⟨z,c,n,r,B,e⟩:=I.lstM i;obtain⟨C,a,D,k,m,o⟩:=I.lstM j;refine PySem.P.add_list e o ?_ (by rw[List.size_toArray,List.size_toArray];lia);have p:c.toArray++a.toArray=(c++a).toArray:=by simp
 rw[p];exact⟨.ref _,_,I.lnew (t':=s.toks) (r.append k) (by rw[List.length_append];lia),rfl,q _ I.fresh⟩
noncomputable def tU:R2:=fun x y H Q=>∃l k a,x=.ref l/\y=.int k/\H l=some (.lst a)/\-(2 ^ 63)<=k/\k<2 ^ 63/\a.length * k.toNat<=sizeLine/\
 ∀p,H p=none->Q (.ref p) (aS H p (.lst (List.replicate k.toNat a).flatten))
theorem BX{α:Type}(a:List α)(k:Nat):(List.replicate k a).flatten.length=k * a.length:=by
 induction k with
 | zero=>simp
 | succ k b=>rw[List.replicate_succ,List.flatten_cons,List.length_append,b,Nat.succ_mul,Nat.add_comm]
theorem BY:bT X (binaryOp .Mult) tU:=by
 intro p s Y H x y v u Q I A B h;obtain⟨l,k,J,rfl,rfl,C,h1,h2,w,q⟩:=h;cases A;obtain⟨t,rfl⟩:=B;obtain⟨z,b,n,r,D,e⟩:=I.lstM C;have d:b.toArray.size * k.toNat<=sizeLine:=by rw[List.size_toArray,<-D];exact w
 have f:¬ b.toArray.size * k.toNat>(2 ^ 63 - 1) / 8:=by
  have:(sizeLine:Nat)<=(2 ^ 63 - 1) / 8:=by decide
  lia
 have g:¬ (!Builtin.List.listFitsIndex k)=true:=by rw[fitsIndex_both h1 h2];exact Bool.false_ne_true
 have c:¬ Builtin.List.listTooLong (b.toArray.size * k.toNat)=true:=by rw[BT d];exact Bool.false_ne_true
 have i:List.foldl (fun j o=>j++o) #[] (List.replicate (if b.toArray.isEmpty=true then 0 else k.toNat) b.toArray)=(List.replicate k.toNat b).flatten.toArray:=by
  have E:∀m:Nat,List.foldl (fun j o=>j++o) #[] (List.replicate m b.toArray)=(List.replicate m b).flatten.toArray:=fun m=>by have:=tS b m [];rw[List.nil_append] at this;exact this
  rw[E];cases b with
  | nil=>simp
  | cons a L=>rw[if_neg (by simp)]
 refine wpAny_binaryOp_repeat_ref (T:="list") (U:="int") (by decide) ⟨_,e,rfl⟩ (fun G=>typeIs_int G k t) noFill_list_mul F.fills_int_mul F.slot_int_rmul repeat_list F.slot_int_index.lookup
  (call_meets F.slot_int_rmul (typeIs_int s k t) F.entry_int_rmul (F.args_int_rmul_2 _ _) (int___rmul___int_list k t l b.toArray n)
   ⟨e,rfl,⟨_,e,rfl⟩,call_meets F.slot_list_mul ⟨_,e,rfl⟩ F.entry_list_mul (F.args_list_mul_2 _ _) (AutoListH.list___mul___list_int_3 l b.toArray n k t g f c) ⟨e,?_⟩⟩)
 rw[i];exact⟨.ref _,_,I.lnew (t':=s.toks) (r.rep k.toNat) (by rw[BX,Nat.mul_comm];exact w),rfl,q _ I.fresh⟩
end
end L2
namespace Att
open PySem PySem.W PySem.Calls PyProof.Rows
theorem BZ{P:Params}{h:Heap}:∀(c:List Int) (d:List Value),WellAll P h d (c.map WData.int)->IntsAre d c:=by
 intro c
 induction c with
 | nil=>intro d w;rw[List.map_nil] at w;cases w;exact .nil
 | cons n c e=>
  intro d w;rw[List.map_cons] at w;cases w with
  | cons a b=>cases a;exact .cons _ _ (e _ b)
theorem Ca{l:OpenLaw}{n:Nat}(s:l.most=some n){P:Params}{h:Heap}{args:List WData}{c:List Value}
  (e:l.row.toRowW.claim.pre args=true) (k:WellAll P h c args) :
  ∃a o b,c=[Value.ref a]/\args=[WData.list (b.map WData.int)]/\h.get? a=some { cls:=.type "list",data:=.seq o.toArray }/\IntsAre o b/\b.length<=n:=by
 have m:WShape.hasAll [] args [.list .int]=true:=(pre_splitW e).1;have p:l.pre.holds [] { args:=args }=true:=(pre_splitW e).2;obtain⟨d,r,rfl,h1,h2⟩:=hasAllW_cons m;obtain rfl:=hasAllW_nil h2;obtain⟨x,rfl,h3⟩:=hasW_list h1;obtain⟨b,rfl⟩:=items_int h3;have f:b.length<=n:=by
  unfold OpenLaw.pre at p;have i:(WTm.not (.lt (.lit (.int (n:Int))) (.len (.arg 0)))).holds [] { args:=[.list (b.map .int)] }=true:=by have i:=(holds_andW p).1;rw[s] at i;exact i
  have j:=condW_of i (w_not (w_lt w_lit (w_len_list (w_arg rfl))));rw[List.length_map] at j;refine Nat.le_of_not_lt fun q=>?_;have t:(n:Int)<((b.length:Nat):Int):=by lia
  first
   | (rw[decide_eq_true t] at j;exact absurd j (by decide))
   | (simp at j;lia)
 cases k with
 | cons u v=>
  cases v;cases u with
  | list w g=>exact⟨_,_,b,rfl,rfl,w,BZ b _ g,f⟩
theorem Cb(l:OpenLaw)(args:List WData):l.row.toRowW.claim.post args (.bool true) args=true:=
 postW_of (r:=l.row.toRowW) (X:=(true==true))
  (show WShape.has [] (.bool true) .bool=true by first | rfl | decide | simp[WShape.has,WShape.arms,WShape.armsAll])
  (show(WTm.eq .res (.lit (.bool true))).value [] { args:=args,res:=some (.bool true),after:=args }=some (.bool (true==true)) from w_eq_bool (w_res rfl) w_lit) rfl
theorem attach_call{l:OpenLaw}{n:Nat}{q:Program}{b:List Str}{B:(Str->Option Value)->Heap->Prop}{C:World->Heap->Prop}{d:DefRec}
  (I:l.most=some n) (u:d.params.defaults=[])
  (call:∀(w:World) (A c:Shared) (mg v:Str->Option Value) (i:Addr) (o:Obj) (pm p e:Value) (a:Addr) (h:List Value) (t:List Int),
   Ground q b [] B w A mg v c.heap->C w c.heap->
   c.heap.get? i=some o->o.data=.func (docDef d.name d.params d.body d.scope pm p e)->c.heap.CodeRec p d.name->mg d.name=some (.ref i)->
   c.heap.get? a=some { cls:=.type "list",data:=.seq h.toArray }->IntsAre h t->t.length<=n->c.gens = #[]->
   codeAny (model l.prog w) callerA (.call (.ref i) ⟨[.ref a],[]⟩) (fun r s=>r=.ok (.ret (.bool true))/\OldK c.heap s.heap/\s.os=c.os/\AllBare s.gens) c) :
  WalkO q b B C l.row.toRowW d [] (fun f h=>PySem.call f h):=by
 intro w A c mg v G J i o pm p e dV kV L hd x D y M args E as j H N z O;obtain rfl:dV=.none:=Dflts.none D u;obtain rfl:kV=.none:=Dflts.noKw D;obtain⟨a,h,t,rfl,rfl,k,g,m⟩:=Ca I j z;refine enter_call (codeAny_mono (call w A c mg v i o pm p e a h t G J L (fd_plain hd) x y k g m M) fun r s Q=>?_);obtain⟨rfl,h2,h3,T⟩:=Q;exact⟨.inl ⟨.bool true,.bool true,[],rfl,fun _=>rfl,.bool true,Cb l _,fun _=>⟨List.Pairwise.nil,fun _ U=>(nomatch U)⟩⟩,h2,h3,T⟩
end Att
namespace L2
open PySem PySem.Spec PyProof.Rows
theorem tV:∀{a:List Value}{b:List Int},IntsAre a b->aM (b.map V.int) a
 | _,_,.nil=>.nil
 | _,_,.cons n t h=>.cons ⟨t,rfl⟩ (tV h)
def qt(H:Hp):Prop:=∀b,H b=none\/∃o a,H b=some (.frz o (.lst a))
theorem Cc{P:Program}{w:World}{K:Frag}{mg M:Str->Option Value}{U:gq}{k:Nat}{N a:Addr}{fd:FuncData}{x:Str}{X:Sp}{c:Shared}{l:List Value}{G:List Int}
  (Y:K.In c.heap) (t:c.heap.Ns mainGlobals mg) (g:c.heap.Ns builtinsNs M) (O:∀x:Str,x≠"__name__"->M x=bootBuiltins x) (y:c.heap.NoLimit) (hg:c.gens = #[])
  (L:c.heap.get? a=some { cls:=.type "list",data:=.seq l.toArray }) (Z:IntsAre l G) (hl:G.length<=sizeLine) (hr:bq k callerA)
  (F:∀base:Heap,K.In base->base.Ns mainGlobals mg->bV P w K mg base U k N fd [x] X) (p:∀(s:Shared) (u:Value),BindsTo s fd ⟨[u],[]⟩ [(x,u)])
  (hsp:∀H:Hp,qt H->cA K H a (G.map V.int)->X [.ref a] H (fun v _=>v=.bl true) fun _ _ _=>False)
  (Q:∀H e i,U [] H c (fun _ _ _=>False) e i->False) :
  codeAny (model P w) callerA (.call (.ref N) ⟨[.ref a],[]⟩) (fun r i=>r=.ok (.ret (.bool true))/\OldK c.heap i.heap/\i.os=c.os/\AllBare i.gens) c:=by
 have rv:=tV Z;have A:=Z.length;have core:∀H:Hp,qt H->cA K H a (G.map V.int)->bG P w H c.heap->(∀b,H b≠none->b=a)->(H a≠none->K.lookup a=none)->
   codeAny (model P w) callerA (.call (.ref N) ⟨[.ref a],[]⟩) (fun r i=>r=.ok (.ret (.bool true))/\OldK c.heap i.heap/\i.os=c.os/\AllBare i.gens) c:=by
  intro H hO hS I hA hK;have f:∀{b:Addr}{o:Obj},c.heap.get? b=some o->H b=none->(gm c.heap H).get? b=some o:=fun e n=>zP e n;have R:∀{b:Addr}{o:Obj}{J:Array DictEntry}{B:Nat},c.heap.get? b=some o->o.data=.dict J B->H b=none:=fun {b o J B} e d=>by
   cases q:H b with
   | none=>rfl
   | some u=>have S:b=a:=hA b (by rw[q];simp);subst S;rw[L] at e;cases e;have d':Data.seq l.toArray _=Data.dict J B:=d;cases d'
  have j:∀{b:Addr}{m:Str->Option Value},c.heap.Ns b m->(gm c.heap H).Ns b m:=fun {b m} C=>by obtain⟨o,J,B,e,d,r⟩:=C;exact⟨o,J,B,f e (R e d),d,r⟩
  have D:K.In (gm c.heap H):=fun b o e=>f (Y b o e) (by
   cases q:H b with
   | none=>rfl
   | some u=>
    have S:b=a:=hA b (by rw[q];simp);subst S;rw[hK (by rw[q];simp)] at e;cases e)
  have hM:Mod K mg (gm c.heap H):=⟨D,j t,⟨M,j g,O⟩,let⟨mc,h1,h2⟩:=y;⟨mc,j h1,h2⟩⟩
  have e0:gr P w K mg (gm c.heap H) callerA [] c H:=⟨rfl,hM,fun b o e=>zQ e,Nat.le_of_eq (zO _ _),trivial,fun b g=>absurd (show b∈([]:List Addr) from g) (by simp),I,.of_eq hg⟩
  refine codeAny_mono ((F _ D (j t)).run callerA [] c H ⟨[.ref a],[]⟩ [.ref a] [.ref a] _ _ hr e0 (p c (.ref a)) (.cons rfl .nil) (hsp H hO hS)) fun r i h=>?_;cases r with
  | error e=>exact(Q H e i h).elim
  | ok fl=>
   cases fl with
   | next=>exact False.elim h
   | brk=>exact False.elim h
   | cont=>exact False.elim h
   | ret u=>
    obtain⟨v,H',os,bare,un,E,r',q⟩:=h;have q':v=.bl true:=q;subst q';obtain rfl:u=Value.bool true:=r';refine⟨rfl,OldK.of_keep fun b o e=>?_,os,bare⟩;cases q:H b with
    | none=>exact un.keep b o e q (by intro z;exact absurd (show b∈([]:List Addr) from z) (by simp)) (by simp)
    | some u=>
     rcases hO b with z | ⟨ob,xs,z⟩
     .rw[q] at z;cases z
     .have z2:=un.frzs b ob _ z;obtain⟨e1,_⟩:=I b _ z;obtain⟨e2,_⟩:=E b _ z2;rw[e] at e1;cases e1;exact e2
 cases T:K.lookup a with
 | some o=>have e:=Y a o T;rw[L] at e;cases e;refine core (fun _=>none) (fun _=>.inl rfl) (.inr ⟨_,l.toArray,_,T,rfl,rfl,rfl,by rw[List.size_toArray,A];exact hl,by simpa using rv⟩) (fun b u z=>by have z':(none:Option HO)=some u:=z;cases z') (fun b z=>absurd rfl z) fun z=>absurd rfl z
 | none=>
  refine core (fun b=>if b=a then some (.frz { cls:=.type "list",data:=.seq l.toArray } (.lst (G.map V.int))) else none) (fun b=>?_) (.inl (.inr ⟨{ cls:=.type "list",data:=.seq l.toArray },if_pos rfl⟩)) (fun b u z=>?_) (fun b z=>?_) fun _=>T
  .by_cases g:b=a
   .exact .inr ⟨_,_,if_pos g⟩
   .exact .inl (if_neg g)
  .by_cases g:b=a
   .have z':=(if_pos g).symm.trans z;cases z';subst g;exact⟨L,by rw[List.length_map];exact hl,l,_,rv,L⟩
   .have z':=(if_neg g).symm.trans z;cases z'
  .by_cases g:b=a
   .exact g
   .exact absurd (if_neg g) z
theorem walk_of{l:PySem.W.OpenLaw}{n k:Nat}{q:Program}{i:List Str}{I:(Str->Option Value)->Heap->Prop}{C:World->Heap->Prop}{d:DefRec}{K:Params->Frag}{CX:World->gq}{sp:World->Sp}{x:Str}
  (J:l.most=some n) (t:n<=sizeLine) (y:d.params.defaults=[]) (L:bq k callerA)
  (M:∀(w:World) (h:Heap),C w h->(K w.params).In h)
  (F:∀(w:World) (mg:Str->Option Value) (p:Addr) (h:Heap),(K w.params).In h->h.Ns mainGlobals mg->mg d.name=some (.ref p)->
   ∃fd:FuncData,(∀(s:Shared) (u:Value),BindsTo s fd ⟨[u],[]⟩ [(x,u)])/\
    ∀base:Heap,(K w.params).In base->base.Ns mainGlobals mg->bV l.prog w (K w.params) mg base (CX w) k p fd [x] (sp w))
  (hsp:∀(w:World) (H:Hp) (a:Addr) (r:List Int),r.length<=n->qt H->cA (K w.params) H a (r.map V.int)->sp w [.ref a] H (fun v _=>v=.bl true) fun _ _ _=>False)
  (z:∀(w:World) (H:Hp) (s:Shared) (e:Value) (A:Shared),CX w [] H s (fun _ _ _=>False) e A->False) :
  PySem.W.WalkO q i I C l.row.toRowW d [] (fun f D=>PySem.call f D):=by
 refine Att.attach_call J y fun w s₀ N mg mb p o pm cd O a D r G Q ho hd R B m j c S=>?_;have E:=M w _ Q;obtain⟨fd,U,X⟩:=F w mg p _ E G.T.g B;exact Cc E G.T.g G.T.b G.T.builtins G.T.nolimit S m j (Nat.le_trans c t) L X U (fun H Y Z=>hsp w H a r c Y Z) fun H e A=>z w H N e A
noncomputable def jn(s:Stmt):Arguments:=match s with
 | .FunctionDef _ a _ _ _ _ _ _ _ _=>a
 | _=>{ posonlyargs:=[],args:=[],vararg:=none,kwonlyargs:=[],kw_defaults:=[],kwarg:=none,defaults:=[] }
noncomputable def gX(s:Stmt):List Stmt:=match s with
 | .FunctionDef _ _ b _ _ _ _ _ _ _=>b
 | _=>[]
noncomputable def dS(s:Stmt):Scope:=match s with
 | .FunctionDef _ _ _ _ _ _ a _ _ _=>a
 | _=>{ kind:=.function,names:=[],isGenerator:=false,isCoroutine:=false }
structure ko (K:Frag) (x qual:Str) (st:Stmt) (f:Addr) (fd:FuncData):Prop where
 ex:∃(oc:Value) (od:Option Addr) (kV doc pm:Value) (an:Option Addr) (cdv ct:Value) (osl:Array (Option Value)),
  fd=fnOf x qual (jn st) (gX st) (dS st) .none kV doc pm an cdv ct/\K.lookup f=some ⟨oc,od,.func fd,osl⟩/\codeIn K cdv qual=true
 kp:PySem.W.keepIn K (.ref f)=true
section
variable{P:Program}{w:World}{K:Frag}{mg:Str->Option Value}{base:Heap}
theorem ko.binds{x a:Str}{st:Stmt}{f:Addr}{fd:FuncData}{d:List Str}(F:ko K x a st f fd)
  (h:∀(kV b pm:Value) (e:Option Addr) (c i:Value) (g:List Value),g.length=d.length->bindArgs (fnOf x a (jn st) (gX st) (dS st) .none kV b pm e c i) ⟨g,[]⟩=pure (d.zip g)):jl K fd d []:=by
 obtain⟨l,m,kV,b,pm,e,c,i,j,rfl,lk,k⟩:=F.ex;exact .all (h kV b pm e c i)
theorem cC{x a:Str}{st:Stmt}{f:Addr}{i:Value}{j g:Option Addr}{e:Array (Option Value)}{kV d pm b h:Value}(l:K.lookup f=some ⟨i,j,.func (fnOf x a (jn st) (gX st) (dS st) .none kV d pm g b h),e⟩)
  (c:codeIn K b a=true) (k:PySem.W.keepIn K (.ref f)=true):ko K x a st f (fnOf x a (jn st) (gX st) (dS st) .none kV d pm g b h):=⟨⟨i,j,kV,d,pm,g,b,h,e,rfl,l,c⟩,k⟩
end
theorem kq{A:Around}{k:Nat}(a:bq k A):A.units+1<cLine:=Nat.lt_of_le_of_lt (Nat.add_le_add_left (by decide:1<=64) _) a.units
section
variable{X:Cx}
theorem pv(i:Nat){x:Str}{pos:Pos}(b:autoParam (X.N[i]? = some x) Zq._auto_1)(c:ml X.env.scope x:=by first | exact Or.inl rfl | exact Or.inr (Or.inl rfl) | exact Or.inr (Or.inr rfl))(hd:autoParam ((x==("__debug__":Str))=false) Zr._auto_1)
  (a:autoParam ((x==("__classdict__":Str))=false) Zr._auto_1):PE X (.Name x pos) (cV i):=zS b c hd a
end
theorem ei{A B:Prop}(h:B):if false=true then A else B:=by rw[if_neg Bool.false_ne_true];exact h
theorem ej{A B:Prop}(h:A):if true=true then A else B:=by rw[if_pos rfl];exact h
def bz(H a:Hp):Prop:=∀b o,H b=some o->a b=some o
theorem bz.trans{H d e:Hp}(a:bz H d)(b:bz d e):bz H e:=fun c o h=>b c o (a c o h)
theorem bz.free{H a:Hp}(e:bz H a){l:Addr}(h:a l=Option.none):H l=Option.none:=by
 cases q:H l with
 | none=>rfl
 | some o=>rw[e l o q] at h;cases h
theorem bz.seq{K:Frag}{H b:Hp}{a:Addr}{c:List V}(e:bz H b)(h:cA K H a c):cA K b a c:=by
 rcases h with(h | ⟨o,h⟩) | h
 .exact .inl (.inl (e _ _ h))
 .exact .inl (.inr ⟨o,e _ _ h⟩)
 .exact .inr h
end L2
set_option maxHeartbeats 4000000
namespace L2
open PySem PySem.Spec PyProof.Rows
section
variable{κ:Type}[DecidableEq κ]
noncomputable def dU(a:List (κ×V))(k:κ):Option V:=(a.find? fun b=>decide (b.1=k)).map (·.2)
noncomputable def dH(a:List (κ×V))(k:κ)(v:V):List (κ×V):=
 if (a.any fun b=>decide (b.1=k))=true then a.map (fun b=>if b.1=k then(b.1,v) else b) else a++[(k,v)]
theorem mz{p:κ×V}{r:List (κ×V)}{k:κ}(e:p.1=k):dU (p::r) k=some p.2:=by simp[dU,List.find?_cons,e]
theorem mB{p:κ×V}{r:List (κ×V)}{k:κ}(e:¬ p.1=k):dU (p::r) k=dU r k:=by simp[dU,List.find?_cons,e]
theorem mC(k:κ):∀a:List (κ×V),(a.any fun b=>decide (b.1=k))=(dU a k).isSome
 | []=>rfl
 | p::r=>by
  rw[List.any_cons]
  by_cases e:p.1=k
  .simp only[mz e,decide_eq_true e,Bool.true_or,Option.isSome_some]
  .rw[mB e,decide_eq_false e,Bool.false_or];exact mC k r
theorem tW(a:List (κ×V))(k:κ)(v:V):(dH a k v).length<=a.length+1:=by
 unfold dH;split
 .rw[List.length_map];lia
 .rw[List.length_append,List.length_cons,List.length_nil];lia
theorem Cd{a:List (κ×V)}{k:κ}(v:V)(h:dU a k=none):dH a k v=a++[(k,v)]:=by unfold dH;rw[mC,h];exact if_neg (by decide)
theorem eJ.isSome_eq{o:Option V}{u:Option Value}(r:eJ o u):o.isSome=u.isSome:=by
 cases o with
 | none=>cases u with
  | none=>rfl
  | some _=>exact(show False from r).elim
 | some _=>cases u with
  | none=>exact(show False from r).elim
  | some _=>rfl
theorem eJ.getD{o:Option V}{u:Option Value}{d:V}{a:Value}(r:eJ o u)(rd:aP d a):aP (o.getD d) (u.getD a):=by
 cases o with
 | none=>cases u with
  | none=>exact rd
  | some _=>exact(show False from r).elim
 | some _=>cases u with
  | none=>exact(show False from r).elim
  | some _=>exact r
theorem KV.val{a:List (κ×V)}{f:List (κ×Value)}(r:KV a f)(k:κ):eJ (dU a k) (valueAt f k):=by
 unfold KV at r
 induction r with
 | nil=>exact True.intro
 | @cons p q j c h t i=>
  obtain⟨g,h2⟩:=h
  by_cases e:p.1=k
  .have d:q.1=k:=g.symm.trans e;have b:valueAt (q::c) k=some q.2:=by simp[valueAt,List.find?_cons,d]
   rw[mz e,b];exact h2
  .have d:¬ q.1=k:=fun z=>e (g.trans z);have b:valueAt (q::c) k=valueAt c k:=by simp[valueAt,List.find?_cons,d]
   rw[mB e,b];exact i
theorem KV.any{a:List (κ×V)}{c:List (κ×Value)}(r:KV a c)(k:κ):(a.any fun b=>decide (b.1=k))=c.any fun b=>decide (b.1=k):=by
 unfold KV at r
 induction r with
 | nil=>rfl
 | cons h t d=>rw[List.any_cons,List.any_cons,d,h.1]
theorem KV.repl{b:List (κ×V)}{d:List (κ×Value)}(r:KV b d)(k:κ){y:V}{u:Value}(f:aP y u) :
  KV (b.map fun a=>if a.1=k then(a.1,y) else a) (d.map fun a=>if a.1=k then(a.1,u) else a):=by
 unfold KV at r ⊢
 induction r with
 | nil=>exact .nil
 | @cons p q i j h t g=>
  rw[List.map_cons,List.map_cons];refine .cons ?_ g;obtain⟨c,h2⟩:=h
  by_cases e:p.1=k
  .rw[if_pos e,if_pos (c.symm.trans e)];exact⟨c,f⟩
  .rw[if_neg e,if_neg (fun z=>e (c.trans z))];exact⟨c,h2⟩
theorem KV.put{a:List (κ×V)}{b:List (κ×Value)}(r:KV a b)(k:κ){y:V}{u:Value}(c:aP y u):KV (dH a k y) (stored b k u):=by
 unfold dH stored;rw[r.any k]
 by_cases e:(b.any fun d=>decide (d.1=k))=true
 .rw[if_pos e,if_pos e];exact r.repl k c
 .rw[if_neg e,if_neg e];exact Paired.snoc r ⟨rfl,c⟩
theorem KV.length{a:List (κ×V)}{b:List (κ×Value)}(r:KV a b):a.length=b.length:=Paired.length r
end
theorem kr{P:Program}{w:World}{k:aA}{u:Value}(r:aP (kV k) u):(dA P w).is k u=true:=by
 cases k with
 | inl i=>obtain⟨t,e⟩:=(show ∃t,u=Value.int i t from r);subst e;exact zL P w i t
 | inr x=>obtain⟨t,e⟩:=(show ∃t,u=Value.str x t from r);subst e;exact zM P w x t
theorem tZ{P:Program}{w:World}:∀{a:List aA}{b:List Value},aM (a.map kV) b->ItemsAre (dA P w) a b
 | [],_,r=>by rw[List.map_nil] at r;cases r;exact .nil
 | k::a,_,r=>by
  rw[List.map_cons] at r;cases r with
  | cons h t=>exact .cons (kr h) (tZ t)
noncomputable abbrev KT(H:Hp):List (List aA×V)->List (List aA×Addr×Value)->Prop:=Paired fun p q=>p.1=q.1/\H q.2.1=some (.tup (p.1.map kV))/\aP p.2 q.2.2
theorem KT.val{H:Hp}{a:List (List aA×V)}{f:List (List aA×Addr×Value)}(r:KT H a f)(k:List aA):eJ (dU a k) ((atKey f k).map (·.2)):=by
 induction r with
 | nil=>exact True.intro
 | @cons p q j c h t i=>
  obtain⟨g,_,h2⟩:=h
  by_cases e:p.1=k
  .have d:q.1=k:=g.symm.trans e;have b:atKey (q::c) k=some q.2:=by simp[atKey,List.find?_cons,d]
   rw[mz e,b];exact h2
  .have d:¬ q.1=k:=fun z=>e (g.trans z);have b:atKey (q::c) k=atKey c k:=by simp[atKey,List.find?_cons,d]
   rw[mB e,b];exact i
theorem KT.repl{H:Hp}{a:List (List aA×V)}{d:List (List aA×Addr×Value)}(r:KT H a d)(k:List aA){y:V}{u:Value}(f:aP y u) :
  KT H (a.map fun c=>if c.1=k then(c.1,y) else c) (d.map (putAt k u)):=by
 induction r with
 | nil=>exact .nil
 | @cons p q i j h t g=>
  rw[List.map_cons,List.map_cons];refine .cons ?_ g;obtain⟨b,h2,h3⟩:=h;unfold putAt
  by_cases e:p.1=k
  .rw[if_pos e,if_pos (b.symm.trans e)];exact⟨b,h2,f⟩
  .rw[if_neg e,if_neg (fun z=>e (b.trans z))];exact⟨b,h2,h3⟩
theorem KT.put{H:Hp}{a:List (List aA×V)}{c:List (List aA×Addr×Value)}(r:KT H a c)(k:List aA){b:Addr}{y:V}{u:Value}(f:H b=some (.tup (k.map kV)))(d:aP y u) :
  KT H (dH a k y) (storedH c k b u):=by
 have e:(a.any fun g=>decide (g.1=k))=(atKey c k).isSome:=by rw[mC,(r.val k).isSome_eq,Option.isSome_map]
 unfold dH storedH;rw[e]
 by_cases q:(atKey c k).isSome=true
 .rw[if_pos q,if_pos q];exact r.repl k d
 .rw[if_neg q,if_neg q];exact Paired.snoc r ⟨rfl,f,d⟩
theorem KT.keeps{H c:Hp}{a:List (List aA×V)}{d:List (List aA×Addr×Value)}(r:KT H a d)(f:∀b e,H b=some (.tup e)->c b=some (.tup e)):KT c a d:=
 Paired.mapP r fun _ _ z=>⟨z.1,f _ _ z.2.1,z.2.2⟩
section
variable{P:Program}{w:World}{H:Hp}{h:Heap}{a:Addr}
theorem ua{u:HO}(ok:bG P w H h)(e:Rd H a u):bK P w H h a u:=e.ok ok
theorem jo{b:List (aA×V)}(ok:bG P w H h)(e:Rd H a (.dK b)):b.length<=sizeLine/\(a==sysModules)=false/\∃c,KV b c/\h.DictOf (dA P w) a c:=
 show bK P w H h a (.dK b) from ua ok e
theorem qu{b:List (aA×V)}(ok:bG P w H h)(e:H a=some (.dK b)):b.length<=sizeLine/\(a==sysModules)=false/\∃c,KV b c/\h.DictOf (dA P w) a c:=jo ok (.inl e)
theorem kt{b:List aA}(ok:bG P w H h)(e:H a=some (.tup (b.map kV))):(tupleKind (dA P w)).is h b a:=by
 obtain⟨_,c,r,o,h1,h2,n,h3⟩:=(show bK P w H h a (.tup (b.map kV)) from ok a _ e)
 exact⟨o,c.toArray,n,h1,h2,h3,by simpa using tZ r⟩
theorem jq{b:List (List aA×V)}(ok:bG P w H h)(e:Rd H a (.dT b)):b.length<=sizeLine/\(a==sysModules)=false/\
  ∃d,KT H b d/\h.DictOfH (tupleKind (dA P w)) a d:=by
 obtain⟨z,y,d,r,o,es,g,h1,h2,h3,i,j⟩:=(show bK P w H h a (.dT b) from ua ok e)
 refine⟨z,y,d,r,o,es,g,h1,h2,h3,i,fun x c=>?_,j⟩;have all:∀{l:List (List aA×V)}{m:List (List aA×Addr×Value)},KT H l m->∀x∈m,(tupleKind (dA P w)).is h x.1 x.2.1:=by
  intro l m q
  induction q with
  | nil=>intro x c;exact nomatch c
  | @cons p q n s f t k=>
   intro x c;rcases List.mem_cons.mp c with e | c
   .subst e;exact kt ok (by rw[<-f.1];exact f.2.1)
   .exact k x c
 exact all r x c
theorem Ce{b:List (List aA×V)}(ok:bG P w H h)(e:H a=some (.dT b)):b.length<=sizeLine/\(a==sysModules)=false/\
  ∃c,KT H b c/\h.DictOfH (tupleKind (dA P w)) a c:=jq ok (.inl e)
end
def eN(H:Hp)(a:Addr)(y:V)(r:Option V):Prop:=
 (∃c k,Rd H a (.dK c)/\y=kV k/\r=dU c k)\/∃c k b,Rd H a (.dT c)/\y=.ref b/\H b=some (.tup (k.map kV))/\r=dU c k
def iE(H:Hp)(a:Addr)(y v:V)(d:Hp):Prop:=
 (∃c k,H a=some (.dK c)/\y=kV k/\c.length<sizeLine/\d = aS H a (.dK (dH c k v)))\/
 ∃c k b,H a=some (.dT c)/\y=.ref b/\H b=some (.tup (k.map kV))/\c.length<sizeLine/\d = aS H a (.dT (dH c k v))
theorem eN.k{H:Hp}{a:Addr}{b:List (aA×V)}{k:aA}(e:H a=some (.dK b)):eN H a (kV k) (dU b k):=.inl ⟨b,k,.inl e,rfl,rfl⟩
theorem eN.t{H:Hp}{a b:Addr}{c:List (List aA×V)}{k:List aA}(e:H a=some (.dT c))(d:H b=some (.tup (k.map kV))):eN H a (.ref b) (dU c k):=.inr ⟨c,k,b,.inl e,rfl,d,rfl⟩
theorem iE.k{H:Hp}{a:Addr}{b:List (aA×V)}{k:aA}{v:V}(e:H a=some (.dK b))(c:b.length<sizeLine):iE H a (kV k) v (aS H a (.dK (dH b k v))):=.inl ⟨b,k,e,rfl,c,rfl⟩
theorem iE.t{H:Hp}{a b:Addr}{c:List (List aA×V)}{k:List aA}{v:V}(e:H a=some (.dT c))(d:H b=some (.tup (k.map kV)))(f:c.length<sizeLine) :
  iE H a (.ref b) v (aS H a (.dT (dH c k v))):=.inr ⟨c,k,b,e,rfl,d,f,rfl⟩
section
variable{X:Cx}{pins:List (Addr×Obj)}{Y:St}{H:Hp}{s:Shared}{a:Addr}{y v:V}{u r:Value}{o:Option V}{A:Around}{E:Value->Shared->Prop}
theorem Inv.big(I:Inv X pins Y H s):sysModules<s.heap.objs.size:=by have h:mainGlobals<s.heap.objs.size:=(I.mod.glob.keeps I.bk).lt;exact Nat.lt_trans (by decide) h
theorem Cf{Q:Value->Shared->Prop}(x:A.units+1<cLine)(I:Inv X pins Y H s)(g:eN H a y (some v))(q:aP y u)(h:∀d t,Inv X pins Y H t->aP v d->Q d t) :
  wpAny (model X.prog X.w) A (getItem (.ref a) u) Q E s:=by
 rcases g with⟨f,k,e,i,l⟩ | ⟨f,k,b,e,i,B,l⟩
 .subst i;obtain⟨z,hd,C,rel,j⟩:=jo I.hok e;obtain⟨d,m,c⟩:=eJ.some_of (v:=v) (o:=valueAt C k) (by rw[l];exact rel.val k);exact wpAny_getItem_of (kr q) j.mapOf m (h d _ (I.tok _) c)
 .subst i;cases(show u=Value.ref b from q);obtain⟨z,hd,D,rel,j⟩:=jq I.hok e;obtain⟨d,m,c⟩:=eJ.some_of (v:=v) (o:=(atKey D k).map (·.2)) (by rw[l];exact rel.val k);obtain⟨p,G,n⟩:=Option.map_eq_some_iff.mp m;refine wpAny_getItem_heap (tupleKind_room_in1 x) (kt I.hok B) j G ?_;rw[n];exact h d _ (I.tok _) c
theorem Cg{Q:Value->Shared->Prop}(m:A.units+1<cLine)(I:Inv X pins Y H s)(g:eN H a y o)(i:aP y u)(h:∀j,Inv X pins Y H j->Q (.bool (!o.isSome)) j) :
  wpAny (model X.prog X.w) A (compareOp .NotIn u (.ref a)) Q E s:=by
 rcases g with⟨c,k,e,d,l⟩ | ⟨c,k,b,e,d,n,l⟩
 .subst d;obtain⟨z,hd,p,rel,f⟩:=jo I.hok e;refine wpAny_notIn_of (kr i) hd f.mapOf ?_;rw[<-(rel.val k).isSome_eq,<-l];exact h _ (I.tok _)
 .subst d;cases(show u=Value.ref b from i);obtain⟨z,hd,t,rel,f⟩:=jq I.hok e;refine wpAny_notIn_heap (tupleKind_room_in1 m) (kt I.hok n) hd f ?_;have q:=(rel.val k).isSome_eq;rw[Option.isSome_map] at q;rw[<-q,<-l];exact h _ (I.tok _)
theorem ub{c:Heap}{t':Nat}{d:HO}(I:Inv X pins Y H s)(f:kh (H a))(g:Heap.SameBut a s.heap c)(h:∃q,c.get? a=some q)(new:bK X.prog X.w (aS H a d) c a d) :
  Inv X pins Y (aS H a d) { s with heap:=c,toks:=t' }:=
 I.write (x:=a) (e:=a) f (.inl rfl) (fun b q i z=>(g.2 b i).trans z) h new
theorem Ci{P:Program}{w:World}{e:Hp}{d:Heap}{b:List (aA×V)}{c:List (aA×Value)}(z:b.length<=sizeLine)(hd:(a==sysModules)=false)(rel:KV b c)(f:d.DictOf (dA P w) a c) :
  bK P w e d a (.dK b):=⟨z,hd,c,rel,f⟩
theorem Cj{B:Hp}{Q:Unit->Shared->Prop}(N:A.units+1<cLine)(I:Inv X pins Y H s)(g:iE H a y v B)(C:aP y u)(D:aP v r)(h:∀G,Inv X pins Y B G->Q () G) :
  wpAny (model X.prog X.w) A (setItem (.ref a) u r) Q E s:=by
 rcases g with⟨d,k,e,j,l,m⟩ | ⟨d,k,b,e,j,J,l,m⟩
 .subst j m;obtain⟨z,hd,O,rel,n⟩:=qu I.hok e;have p:O.length<=sizeLine:=by rw[<-rel.length];exact z
  have t:(dH d k v).length<=sizeLine:=by have:=tW d k v;lia
  refine wpAny_setItem_pairs (hsz:=p) (kr C) n fun L f x=>h _ ?_;have R:∃q,L.get? a=some q:=let⟨q,_,_,i,_⟩:=f;⟨q,i⟩;exact ub I (by rw[e];exact True.intro) x R (Ci t hd (rel.put k D) f)
 .subst j m;cases(show u=Value.ref b from C);obtain⟨z,hd,S,rel,n⟩:=Ce I.hok e;have p:S.length<=sizeLine:=by rw[<-Paired.length rel];exact z
  have t:(dH d k v).length<=sizeLine:=by have:=tW d k v;lia
  refine wpAny_setItem_heap (hsz:=p) (tupleKind_room_in1 N) (kt I.hok J) n fun L f x=>h _ ?_;obtain⟨q,es,T,i,h2,h3,U,_,Z⟩:=f;refine ub I (by rw[e];exact True.intro) x ⟨q,i⟩ ⟨t,hd,_,(rel.put k J D).keeps fun c ys M=>?_,q,es,T,i,h2,h3,U,Z⟩;rw[bQ (zN M e (fun z=>nomatch z))];exact M
end
def qv(i:Expr):Prop:=∀a b,subscripted i false a b=operate [a,b] (getItem a b)
theorem Ck{a:Program}{w:World}{A:Around}{E:Value->Shared->Prop}{s:Shared}{b:Env}{value slice:Expr}{pos:Pos}{T id:String}{Q:Value->Shared->Prop}
  (g:typeLookup (.type T) "__getitem__" = pure (some (.builtin id))) (j:qv slice)
  (h:wpAny (model a w) A (eval value b) (fun o e=>wpAny (model a w) A (eval slice b) (fun i c=>c.TypeIs o T/\wpAny (model a w) A (getItem o i) Q E c) E e) E s) :
  wpAny (model a w) A (eval (.Subscript value slice pos) b) Q E s:=by
 refine Subscript_ (wpAny_mono h (fun o e k=>wpAny_mono k (fun i c d=>?_) fun _ _ x=>x) fun _ _ x=>x);obtain⟨hT,d⟩:=d;unfold subscriptTail;refine aa ?_;rw[getitemInPython_of_ne hT.not_modules];refine aa (wpAny_specialOf hT g ?_);have fin:wpAny (model a w) A (subscripted slice false o i) (fun r f=>wpAny (model a w) A (letTemporaryGo value o r >>= fun _=>pure r) Q E f) E c:=by rw[j o i];exact wpAny_operating (wpAny_mono d (fun r f l=>aa (wpAny_letTemporaryGo (ai l))) fun _ _ x=>x)
 first
  | exact ai (aa fin)
  | exact aa (ai (aa fin))
  | exact aa fin
theorem Cm{X:Cx}{c:List (Addr×Obj)}{Y:St}{H:Hp}{s:Shared}{a:Addr}{y:V}{o:Option V}(I:Inv X c Y H s)(g:eN H a y o):s.TypeIs (.ref a) "dict":=by
 rcases g with⟨d,k,e,_,_⟩ | ⟨d,k,b,e,_,_,_⟩
 .obtain⟨_,_,h,_,f⟩:=jo I.hok e;exact f.typeIs
 .obtain⟨_,_,i,_,f⟩:=jq I.hok e;exact f.typeIs
noncomputable def Cn(c e:TE):TE:=fun Y H Q=>c Y H fun x d=>e Y d fun y b=>∃a v,x=.ref a/\eN b a y (some v)/\Q v b
noncomputable def Co(e c:TE):TE:=fun Y H Q=>e Y H fun y d=>c Y d fun x b=>∃a o,x=.ref a/\eN b a y o/\Q (.bl (!o.isSome)) b
noncomputable def Cp(c h d:TE):TS:=fun D Y H=>d Y H fun v e=>c Y e fun x f=>h Y f fun y g=>∃a b,x=.ref a/\iE g a y v b/\D.nx Y b
section
variable{X:Cx}{o i e value:Expr}{pos q tpos:Pos}{td ty tv:TE}
theorem Cq(j:X.A.units+1<cLine)(k:PE X o td)(l:PE X i ty)(m:qv i):PE X (.Subscript o i pos) (Cn td ty):=by intro b s Y H Q I h;refine Ck PySem.F.slot_dict_getitem.lookup m (aH (k b s Y H _ I h) fun u n ⟨x,p,r,t,w⟩=>aH (l b n Y p _ r w) fun E G c=>?_);obtain⟨y,z,f,B,a,v,ex,g,C⟩:=c;subst ex;obtain rfl:u=Value.ref a:=t;exact⟨Cm f g,Cf j f g B fun J L D d=>⟨v,z,D,d,C⟩⟩
theorem Cr(d:X.A.units+1<cLine)(f:PE X i ty)(j:PE X o td):PC X .NotIn i o (Co ty td):=by intro b s Y H Q I h;refine aH (f b s Y H _ I h) fun C k ⟨y,l,m,n,p⟩=>aH (j b k Y l _ m p) fun u D c=>?_;obtain⟨x,r,t,v,a,w,ex,g,z⟩:=c;subst ex;obtain rfl:u=Value.ref a:=v;exact Cg d t g n fun E B=>⟨.bl (!w.isSome),r,B,rfl,z⟩
theorem Cs(d:X.A.units+1<cLine)(f:PE X o td)(j:PE X i ty)(k:PE X value tv)(l:swapsWith value (some (.Subscript o i q)) pos.line X.env=pure false) :
  PS X (.Assign [.Subscript o i q] value pos) (Cp td ty tv):=by
 intro b s Y H D I h;refine wpAny_Assign_Subscript (aH (k b s Y H _ I h) fun r m ⟨v,n,p,t,w⟩=>aH (f b m Y n _ p w) fun u z ⟨x,B,C,E,G⟩=>aH (j b z Y B _ C G) fun Q R c=>?_) l;obtain⟨y,S,J,L,a,M,ex,g,N⟩:=c;subst ex;obtain rfl:u=Value.ref a:=E;exact Cj d J g L t fun T O=>⟨Y,M,O,N⟩
end
theorem Ct{P:Program}{w:World}{H:Hp}(h:Heap)(a:sysModules<h.objs.size):bK P w H (h.push { cls:=.type "dict",data:=.dict #[] }) h.objs.size (.dK []):=
 ⟨Nat.zero_le _,beq_eq_false_iff_ne.mpr (Ne.symm (Nat.ne_of_lt a)),[],.nil,Heap.DictOf.new h⟩
theorem Cu{P:Program}{w:World}{H:Hp}(h:Heap)(a:sysModules<h.objs.size):bK P w H (h.push { cls:=.type "dict",data:=.dict #[] }) h.objs.size (.dT []):=
 ⟨Nat.zero_le _,beq_eq_false_iff_ne.mpr (Ne.symm (Nat.ne_of_lt a)),[],.nil,_,#[],0,Heap.get?_push_size _ rfl,⟨rfl,rfl,rfl⟩,rfl,rfl,List.nodup_nil⟩
noncomputable def Cv:TE:=fun _ H Q=>∀p,H p=none->Q (.ref p) (aS H p (.dK []))
noncomputable def Cw:TE:=fun _ H Q=>∀p,H p=none->Q (.ref p) (aS H p (.dT []))
section
variable{X:Cx}{pos:Pos}
theorem Cy:PE X (.Dict [] [] pos) Cv:=fun b s Y H Q I h=>wpAny_Dict_empty ⟨.ref s.heap.objs.size,_,I.laid (a:=s.heap.objs.size) (o:=.dK []) (t':=s.toks) (fun _ _ q=>aF _ q) (aE _) (Ct s.heap I.big),rfl,h _ (I.hok.fresh (aE _))⟩
theorem Cz:PE X (.Dict [] [] pos) Cw:=fun b s Y H Q I h=>wpAny_Dict_empty ⟨.ref s.heap.objs.size,_,I.laid (a:=s.heap.objs.size) (o:=.dT []) (t':=s.toks) (fun _ _ q=>aF _ q) (aE _) (Cu s.heap I.big),rfl,h _ (I.hok.fresh (aE _))⟩
end
structure M2 (X:Cx) (o:Expr) (m:Str) (apos:Pos) (e f:Expr) (cpos:Pos):Prop where
 base:attributeBase o m X.env (eval o X.env)=eval o X.env
 few:((backTo cpos (starEach [e,f] X.env)).all (fun x=>!x.1)&&(backToKw cpos (keywordEach [] X.env)).all (fun x=>x.1.isSome)
  && decide (([e,f]:List Expr).length+([]:List Keyword).length+(if ([]:List Keyword).isEmpty then 0 else 1)<30))=true
 line:(apos.endLine==cpos.line)=true
 trees:backTo cpos (starEach [e,f] X.env)=[(false,eval e X.env),(false,eval f X.env)]
def qw(H:Hp)(a:Addr):Prop:=(∃b,Rd H a (.dK b))\/∃b,Rd H a (.dT b)
theorem CB{X:Cx}{f:List (Addr×Obj)}{Y:St}{H:Hp}{s:Shared}{a:Addr}(I:Inv X f Y H s)(d:qw H a) :
  s.TypeIs (.ref a) "dict"/\(∀b,Value.ref a=.ref b->∃c,s.heap.get? b=some c/\c.dict=none)/\(a==sysModules)=false:=by
 rcases d with⟨h,e⟩ | ⟨h,e⟩
 .obtain⟨_,hd,i,_,g⟩:=jo I.hok e;refine⟨g.typeIs,fun b q=>?_,hd⟩;cases q;obtain⟨c,_,_,h1,h2,_⟩:=g;exact⟨c,h1,h2.2.1⟩
 .obtain⟨_,hd,j,_,g⟩:=jq I.hok e;refine⟨g.typeIs,fun b q=>?_,hd⟩;cases q;obtain⟨c,_,_,h1,h2,_⟩:=g;exact⟨c,h1,h2.2.1⟩
section
variable{X:Cx}{pins:List (Addr×Obj)}{Y:St}{H:Hp}{s:Shared}{a:Addr}{y d:V}{u r:Value}{o:Option V}{A:Around}{E:Value->Shared->Prop}
theorem CC{Q:Value->Shared->Prop}(p:A.units+1<cLine)(I:Inv X pins Y H s)(g:eN H a y o)(j:aP y u)(rd:aP d r)(h:∀m n,Inv X pins Y H n->aP (o.getD d) m->Q m n) :
  wpAny (model X.prog X.w) A (call (.builtin "dict.get") [.ref a,u,r]) Q E s:=by
 rcases g with⟨f,k,e,i,l⟩ | ⟨f,k,b,e,i,q,l⟩
 .subst i;obtain⟨z,hd,v,rel,c⟩:=jo I.hok e;refine call_meetsIn PySem.F.slot_dict_get c.typeIs PySem.F.entry_dict_get (PySem.F.args_dict_get_3 _ _ _) (meets_dict_get_default (dA X.prog X.w) a (kr j) hd r) ⟨_,c.mapOf,h _ _ (I.tok _) ?_⟩;rw[l];exact(rel.val k).getD rd
 .subst i;cases(show u=Value.ref b from j);obtain⟨z,hd,t,rel,c⟩:=jq I.hok e;refine call_meetsIn PySem.F.slot_dict_get c.typeIs PySem.F.entry_dict_get (PySem.F.args_dict_get_3 _ _ _) (meetsH_dict_get_default (tupleKind (dA X.prog X.w)) a b hd r) ⟨tupleKind_room_in1 p,k,t,kt I.hok q,c,h _ _ (I.tok _) ?_⟩;rw[l];exact(rel.val k).getD rd
end
noncomputable def CF(d g e:TE):TE:=fun Y H Q=>d Y H fun x b=>∃a,x=.ref a/\qw b a/\g Y b fun y f=>e Y f fun z c=>∃o,eN c a y o/\Q (o.getD z) c
section
variable{X:Cx}{o e f:Expr}{apos cpos:Pos}{td ty tx:TE}
theorem CG(j:X.A.units+1<cLine)(k:PE X o td)(l:PE X e ty)(n:PE X f tx)(m:M2 X o "get" apos e f cpos):PE X (.Call (.Attribute o "get" apos) [e,f] [] cpos) (CF td ty tx):=by
 intro b s Y H Q I h;refine wpAny_Call_method m.base m.few m.line PySem.F.plainAttrs_dict PySem.F.slot_dict_get PySem.F.type_dict_get (aH (k b s Y H _ I h) fun u p ⟨x,q,i,r,a,ex,d,t⟩=>?_);subst ex;obtain rfl:u=Value.ref a:=r;obtain⟨v,w,_⟩:=CB i d;refine⟨v,w,?_⟩;rw[m.trees];refine Calls.callWith_builtin rfl (Calls.evalArgs_plain (Calls.spliced_cons (aH (l b p Y q _ i t) fun R B ⟨y,C,D,E,G⟩=>
  Calls.spliced_cons (aH (n b B Y C _ D G) fun fv S ⟨z,J,L,M,T,g,N⟩=>Calls.spliced_nil ?_))))
 exact CC j L g E M fun U Z O c=>⟨_,J,O,c,N⟩
end
noncomputable def cH(b:Env):List (Str×NameKind)->List (Str×Addr)->List (Str×Addr)
 | [],a=>a
 | (n,k)::r,a=>if k==.free then cH b r ((n,(b.cells.lookup n).getD 0)::a) else cH b r a
theorem uc(d:Env):∀(b:List (Str×NameKind)) (e:List (Str×Addr)),(∀y∈b,y.2=.free->(d.cells.lookup y.1).isSome=true)->
  (forIn b e fun(x:Str×NameKind) (cs:List (Str×Addr))=>if (x.2==NameKind.free)=true then(do let c <-cellOf d x.1;pure (ForInStep.yield ((x.1,c)::cs))) else(pure (ForInStep.yield cs):Sem (ForInStep (List (Str×Addr)))))=pure (cH d b e)
 | [],e,_=>rfl
 | (n,k)::r,e,h=>by
  have g:=fun a=>uc d r a fun y j=>h y (bh _ j);rw[List.forIn_cons];unfold cH
  by_cases f:(k==NameKind.free)=true
  .obtain⟨c,i⟩:=Option.isSome_iff_exists.mp (h (n,k) List.mem_cons_self (by simpa using f));simp only[f,if_true];have:cellOf d n=pure c:=by unfold cellOf;rw[i]
   rw[this,i];exact g _
  .simp only[f];exact g _
theorem ud{a:Scope}{b:Env}(h:∀y∈a.names,y.2=.free->(b.cells.lookup y.1).isSome=true):closureFor a b=pure (cH b a.names []):=by have e:=uc b a.names [] h;unfold closureFor;exact congrArg (fun m=>m >>= pure) e
theorem qx{b:Env}{x:Str}:∀{a:List (Str×NameKind)}{f:List (Str×Addr)}{c:Addr},(∀y∈a,y.2=.free->(b.cells.lookup y.1).isSome=true)->
  (∀c,f.lookup x=some c->b.cells.lookup x=some c)->(cH b a f).lookup x=some c->b.cells.lookup x=some c
 | [],_,_,_,g,h=>g _ h
 | (n,k)::r,f,c,i,g,h=>by
  unfold cH at h
  by_cases j:(k==NameKind.free)=true
  .rw[if_pos j] at h;refine qx (fun y l=>i y (bh _ l)) (fun o e=>?_) h;rw[List.lookup_cons] at e;cases m:x==n with
   | true=>
    rw[m] at e;have:x=n:=by simpa using m
    subst this;obtain⟨d,hd⟩:=Option.isSome_iff_exists.mp (i (x,k) List.mem_cons_self (by simpa using j));rw[hd] at e ⊢;exact e
   | false=>rw[m] at e;exact g _ e
  .rw[if_neg j] at h;exact qx (fun y l=>i y (bh _ l)) g h
theorem mD{env:Env}{x:Str}:∀{a:List (Str×NameKind)}{acc:List (Str×Addr)},((x,NameKind.free)∈a\/(acc.lookup x).isSome=true)->((cH env a acc).lookup x).isSome=true
 | [],_,h=>by rcases h with h | h;cases h;exact h
 | (n,k)::r,acc,h=>by
  unfold cH
  by_cases b:(k==NameKind.free)=true
  .rw[if_pos b];refine mD ?_;rw[List.lookup_cons];cases c:x==n with
   | true=>exact .inr rfl
   | false=>
    rcases h with h | h
    .rcases List.mem_cons.mp h with e | h
     .cases e;simp at c
     .exact .inl h
    .exact .inr h
  .rw[if_neg b];refine mD ?_;rcases h with h | h
   .rcases List.mem_cons.mp h with e | h
    .cases e;simp at b
    .exact .inl h
   .exact .inr h
noncomputable abbrev dW(a:Env):Str×NameKind->Str×NameKind:=fun(n,k)=>if (k==NameKind.free&&a.scope.kind==.function&&a.kindOf n==some .cell) then(n,NameKind.cell) else(n,k)
theorem qy{env:Env}:∀{a:List (Str×NameKind)}{x:Str}{k:NameKind},a.lookup x=some k->
  (a.map (dW env)).lookup x=some k\/(k=.free/\(a.map (dW env)).lookup x=some .cell)
 | [],_,_,h=>by simp at h
 | (n,k)::r,x,f,h=>by
  have g:=@qy env r x f;rw[List.map_cons];have e:dW env (n,k)=(n,k)\/(k=.free/\dW env (n,k)=(n,.cell)):=by
   by_cases c:(k==NameKind.free&&env.scope.kind==.function&&env.kindOf n==some .cell)=true
   .refine .inr ⟨?_,if_pos c⟩;cases k<;>first | rfl | (simp at c)
   .exact .inl (if_neg c)
  cases b:x==n with
  | true=>
   simp only[List.lookup_cons,b] at h;cases h;rcases e with e | ⟨d,e⟩
   .rw[e];exact .inl (by simp only[List.lookup_cons,b])
   .rw[e];exact .inr ⟨d,by simp only[List.lookup_cons,b]⟩
  | false=>simp only[List.lookup_cons,b] at h;rcases e with e | ⟨d,e⟩<;>(rw[e];simp only[List.lookup_cons,b];exact g h)
theorem ue{env:Env}:∀{a:List (Str×NameKind)}{x:Str},a.lookup x=none->(a.map (dW env)).lookup x=none
 | [],_,_=>rfl
 | (n,k)::r,x,h=>by
  have d:=@ue env r x;rw[List.map_cons];have e:dW env (n,k)=(n,k)\/dW env (n,k)=(n,.cell):=by
   by_cases c:(k==NameKind.free&&env.scope.kind==.function&&env.kindOf n==some .cell)=true
   .exact .inr (if_pos c)
   .exact .inl (if_neg c)
  cases b:x==n with
  | true=>simp only[List.lookup_cons,b] at h;cases h
  | false=>simp only[List.lookup_cons,b] at h;rcases e with e | e<;>(rw[e];simp only[List.lookup_cons,b];exact d h)
section
variable{prog:Program}{w:World}{A:Around}{E:Value->Shared->Prop}{R:Result->Shared->Prop}{s:Shared}
theorem CH{e target iter:Expr}{f:List Expr}{d:Scope}{pos:Pos}{it g:Value}{a:Env}(I:Nat->Shared->Prop)
  (i:∀n s,I n s->wpAny (model prog w) A (pyNext it) (fun r k=>match r with
   | none=>R (.ok .next) k
   | some v=>wpAny (model prog w) A (letOwnedTupleGo target it v) (fun _ j=>wpAny (model prog w) A (assign target a v) (fun _ p=>
     wpAny (model prog w) A (forIn f true fun c r=>if r=true then do let ok <-isTrue c a (eval c a);pure (ForInStep.yield ok) else pure (ForInStep.yield r)) (fun ok l=>
      if ok=true then wpAny (model prog w) A (eval e a) (fun x q=>
       wpAny (model prog w) A (call (.builtin "list.append") [g,x]) (fun _ t=>∃m,m<n/\I m t) (fun _ _=>False) q) (fun _ _=>False) l
      else ∃m,m<n/\I m l) (fun _ _=>False) p) (fun _ _=>False) j) (fun _ _=>False) k) (fun _ _=>False) s)
  (n:Nat) (h:I n s) :
  codeAny (model prog w) A (.compLoop (.ListComp e [⟨target,iter,f,0⟩] d pos) 0 it g a) R s:=by
 refine codeAny_loop rfl I (fun n s D=>?_) n h;show wpAny _ A ((compTurn (.ListComp e [⟨target,iter,f,0⟩] d pos) 0 it g a).onRaise (fun x=>do noteFrame x a;theTreesLotGoes x)) _ _ s;refine wpAny_noted (wpAny_noRaise ?_);rw[compTurn_list];refine aa (wpAny_standAt (aa (wpAny_mono (i n s D) (fun r k u=>?_) fun _ _ b=>b)));cases r with
 | none=>exact ai u
 | some v=>
  refine aa (wpAny_mono u (fun _ j o=>?_) fun _ _ b=>b);refine aa (wpAny_mono o (fun _ p z=>aa (wpAny_mono z (fun ok l y=>?_) fun _ _ b=>b)) fun _ _ b=>b);cases ok with
  | false=>exact ai ⟨rfl,y⟩
  | true=>exact aa (aa (wpAny_mono y (fun x q B=>aa (wpAny_mono B (fun _ t C=>ai (ai ⟨rfl,C⟩)) fun _ _ b=>b)) fun _ _ b=>b))
end
theorem mE{x:Str}:∀(a:List (Str×NameKind)) (n:Nat) (b:List (Str×Addr)),((x,NameKind.cell)∉a)->(cellsFrom n a b).lookup x=b.lookup x
 | [],_,_,_=>rfl
 | (y,k)::r,n,b,h=>by
  unfold cellsFrom;have c:(x,NameKind.cell)∉r:=fun z=>h (bh _ z);split
  .rename_i d;rw[mE r _ _ c,List.lookup_cons];have:(x==y)=false:=by
    cases e:x==y with
    | false=>rfl
    | true=>exact absurd (by rw[eq_of_beq e,<-eq_of_beq d];exact List.mem_cons_self) h
   rw[this]
  .exact mE r _ _ c
theorem qz{x:Str}{c:Addr}:∀(a:List (Str×NameKind)) (h:Heap) (b:List (Str×Addr)),(cellsFrom h.objs.size a b).lookup x=some c->b.lookup x=some c\/(h.objs.size<=c/\(x,NameKind.cell)∈a/\(pushCells h a).IsCell c none)
 | [],_,_,e=>.inl e
 | (y,k)::r,h,b,e=>by
  unfold cellsFrom at e;unfold pushCells;split at e
  .rename_i d;rw[if_pos d];have sz:(h.push { cls:=.type "cell",data:=.cell none }).objs.size=h.objs.size+1:=Heap.size_push ..;rw[<-sz] at e;rcases qz r _ _ e with z | ⟨f,g,i⟩
   .rw[List.lookup_cons] at z;split at z
    .rename_i j;cases z;refine .inr ⟨aE _,?_,⟨_,pushCells_keeps r _ _ _ (Heap.get?_push_size _ rfl),rfl⟩⟩;rw[eq_of_beq j,<-eq_of_beq d];exact List.mem_cons_self
    .exact .inl z
   .exact .inr ⟨by rw[sz] at f;lia,bh _ g,i⟩
  .rename_i d;rw[if_neg d];rcases qz r _ _ e with z | ⟨f,g,i⟩
   .exact .inl z
   .exact .inr ⟨f,bh _ g,i⟩
theorem qA{x:Str}{c:Addr}:∀(a:List (Str×NameKind)) (n:Nat) (b:List (Str×Addr)),(x,NameKind.cell)∈a->(cellsFrom n a b).lookup x=some c->n<=c
 | (y,k)::r,n,b,f,e=>by
  unfold cellsFrom at e
  by_cases d:(x,NameKind.cell)∈r
  .split at e
   .have:=qA r _ _ d e;lia
   .exact qA r _ _ d e
  .rcases List.mem_cons.mp f with z | z
   .cases z;rw[if_pos (by rfl),mE r _ _ d,List.lookup_cons,beq_self_eq_true] at e;cases e;exact aE _
   .exact absurd z d
theorem qC{x:Str}:∀(a:List (Str×NameKind)) (n:Nat) (b:List (Str×Addr)),((x,NameKind.cell)∈a\/(b.lookup x).isSome=true)->((cellsFrom n a b).lookup x).isSome=true
 | [],_,_,h=>by rcases h with h | h;cases h;exact h
 | (y,k)::r,n,b,h=>by
  unfold cellsFrom;split
  .rename_i c;refine qC r _ _ ?_;rcases h with h | h
   .rcases List.mem_cons.mp h with z | z
    .cases z;right;rw[List.lookup_cons,beq_self_eq_true];rfl
    .exact .inl z
   .right;rw[List.lookup_cons];split
    .rfl
    .exact h
  .rename_i c;refine qC r _ _ ?_;rcases h with h | h
   .rcases List.mem_cons.mp h with z | z
    .cases z;exact absurd rfl c
    .exact .inl z
   .exact .inr h
theorem qD{x y:Str}{c:Addr}{lo:Nat}:∀(i:List (Str×NameKind)) (n:Nat) (d:List (Str×Addr)),(∀x y c,lo<=c->d.lookup x=some c->d.lookup y=some c->x=y)->(∀x c,d.lookup x=some c->c<n)->lo<=c->(cellsFrom n i d).lookup x=some c->(cellsFrom n i d).lookup y=some c->x=y
 | [],_,_,h,_,l,g,f=>h _ _ _ l g f
 | (z,k)::r,n,d,h,j,l,g,f=>by
  unfold cellsFrom at g f;split at g
  .rename_i m;rw[if_pos m] at f;refine qD r (n+1) ((z,n)::d) (fun x y c l g f=>?_) (fun x c e=>?_) l g f
   .rw[List.lookup_cons] at g f;split at g<;>split at f
    .rename_i a _ b;rw[eq_of_beq a,eq_of_beq b]
    .cases g;exact absurd (j _ _ f) (Nat.lt_irrefl _)
    .cases f;exact absurd (j _ _ g) (Nat.lt_irrefl _)
    .exact h _ _ _ l g f
   .rw[List.lookup_cons] at e;split at e
    .cases e;exact Nat.lt_succ_self _
    .exact Nat.lt_succ_of_lt (j _ _ e)
  .rename_i m;rw[if_neg m] at f;exact qD r n d h j l g f
theorem CI{M:Model}{A:Around}{E:Value->Shared->Prop}{s:Shared}{scope:Scope}{globals:Addr}{cl:List (Str×Addr)}{qual:Str}{a:Env}{Q:Env->Shared->Prop}
  (h:Q { scope,locals:=s.heap.objs.size,globals,cells:=cellsFrom (s.heap.objs.size+1) scope.names cl,qual,func:=none,code:=a.code,frame:=a.frame,builtins:=a.builtins } { s with heap:=pushCells (s.heap.push { cls:=.type "dict",data:=.dict #[] }) scope.names }) :
  wpAny M A (newFunctionEnv scope globals cl [] qual none .none (some a)) Q E s:=by
 simp only[newFunctionEnv,Option.isSome_some,if_true];refine aa (wpAny_alloc ?_);refine aa (wpAny_layCells _ (fun name kind cells=>by cases b:kind==NameKind.cell<;>simp[b]) _ _ _ _ ?_);rw[show({ s with heap:=s.heap.push { cls:=.type "dict",data:=.dict #[] } }:Shared).heap.objs.size=s.heap.objs.size+1 from Heap.size_push ..];exact aa (ai (ai h))
noncomputable abbrev bA(X:Cx)(scope:Scope)(N':List Str)(C:Addr)(fp:List Addr)(s₂:Shared)(H₂:Hp)(pl:List (Addr×Obj)):Cx where
 prog:=X.prog
 w:=X.w
 K:=X.K
 mg:=X.mg
 base:=X.base
 A:=X.A
 N:=N'
 s₀:=s₂
 H₀:=H₂
 env:=compEnvC scope (cellsFrom (C+1) scope.names (cH X.env scope.names [])) C X.env
 outer:=X.stack
 stack:=X.stack
 ex:=fp
 fn:=fun y=>scope.names.lookup y==some .cell
 calm:=X.calm
 pn:=X.pn++pl
 xe:=fun _ _=>False
structure ae (X:Cx) (scope:Scope) (own capN:List Str) (caps:List Nat):Prop where
 kind:scope.kind=.function
 one:∀y∈scope.names,scope.names.lookup y.1=some y.2
 free:∀y∈scope.names,y.2=.free->X.env.kindOf y.1=some .cell\/X.env.kindOf y.1=some .free
 loc:∀y∈scope.names,y.2=.local->scope.names.lookup y.1=some .local
 caps:caps.map (fun j=>X.N[j]?)=capN.map some
 capf:∀x∈capN,scope.names.lookup x=some .free
noncomputable def ek(own:List Str)(a:List Nat)(Y:St):St:=own.map (fun _=>none)++a.map (fun j=>(Y[j]?).getD none)
section
variable{X:Cx}{scope:Scope}{own capN:List Str}{caps:List Nat}
theorem ae.cells(S:ae X scope own capN caps)(ok:X.Ok):∀y∈scope.names,y.2=.free->(X.env.cells.lookup y.1).isSome=true:=fun y a b=>by obtain⟨c,d⟩:=ok.has y.1 (S.free y a b);rw[d];rfl
theorem ae.cl(S:ae X scope own capN caps)(ok:X.Ok){x:Str}{c:Addr}(h:(cH X.env scope.names []).lookup x=some c):X.env.cells.lookup x=some c:=
 qx (S.cells ok) (fun _ e=>by simp at e) h
theorem CJ{f:List (Addr×Obj)}{Y:St}{H₂:Hp}{B:Shared}{L:Heap}{C:Addr}{fp:List Addr}{tk:Nat}{m:Str->Option Value}(S:ae X scope own capN caps)(I:Inv X f Y H₂ B)
  (hf:∀b∈fp,fx X f H₂ b) (M:∀b∈fp,b<B.heap.objs.size) (t:B.heap.objs.size<=C) (O:∀b o,B.heap.get? b=some o->L.get? b=some o) (hn:L.Ns C m) (Q:∀x c,(cellsFrom (C+1) scope.names (cH X.env scope.names [])).lookup x=some c->(cH X.env scope.names []).lookup x=some c\/(C+1<=c/\L.IsCell c none)) :
  Inv (bA X scope (own++capN) C fp B H₂ f) [] (ek own caps Y) H₂ { B with heap:=L,toks:=tk }:=by
 have cl:=fun {x:Str}{c:Addr}=>S.cl (x:=x) (c:=c) I.ok;have lt:∀{x:Str}{c:Addr},X.env.cells.lookup x=some c->c<B.heap.objs.size:=fun e=>by obtain⟨v,q⟩:=I.cell _ _ e;exact q.lt
 have D:∀{x:Str}{c:Addr},X.env.cells.lookup x=some c->C+1<=c->False:=fun e z=>absurd (Nat.lt_of_lt_of_le (lt e) (Nat.le_trans t (Nat.le_of_succ_le z))) (Nat.lt_irrefl _);have a:∀{x:Str}{c:Addr},(cellsFrom (C+1) scope.names (cH X.env scope.names [])).lookup x=some c->X.env.cells.lookup x=some c\/(C+1<=c/\L.IsCell c none):=fun {x c} e=>(Q x c e).imp (fun z=>cl z) fun z=>z;have r:∀x,((relabel scope X.env).names.lookup x=some .cell\/(relabel scope X.env).names.lookup x=some .free)->scope.names.lookup x=some .free\/scope.names.lookup x=some .cell:=fun x H=>by
  cases e:scope.names.lookup x with
  | none=>have z:(relabel scope X.env).names.lookup x=none:=ue (env:=X.env) e;rw[z] at H;rcases H with q | q<;>cases q
  | some k=>
   rcases qy (env:=X.env) e with z | ⟨z,_⟩
   .have z':(relabel scope X.env).names.lookup x=some k:=z;rw[z'] at H;rcases H with q | q
    .cases q;exact .inr rfl
    .cases q;exact .inl rfl
   .rw[z];exact .inl rfl
 have stk:∀b,b≠X.env.locals->b∉X.fs->b∉bp X.stack:=fun b J g z=>(List.mem_cons.mp (I.stkSub b z)).elim J g;refine⟨⟨I.ok.mod,S.kind,I.ok.glob,I.ok.blt,t,fun x y c J g=>?inj,fun x H=>?_,fun x c h e=>?cab,I.ok.hd,I.ok.frames,.inl rfl,fun b w=>⟨?_,fun x c h=>?exf⟩,
   I.bs,Nat.le_trans I.ok.bsz I.sz,fun b o e w=>?_,fun b w=>stk b (hf b w).2.1 (hf b w).2.2.1,I.stack,I.stkFree⟩,
  rfl,I.bare,Un.kept O,⟨m,hn,fun i x v J g h3=>?_⟩,fun x c h=>?_,I.hok.fresh t,fun x c h=>?frc,fun p hp=>?_,I.hok.kept O,?_⟩
 case inj=>
  rcases a J with R | ⟨R,_⟩<;>rcases a g with z2 | ⟨z2,_⟩
  .exact I.ok.inj x y c R z2
  .exact(D R z2).elim
  .exact(D z2 R).elim
  .exact qD (lo:=C+1) scope.names (C+1) (cH X.env scope.names []) (fun x y c l e _=>(D (cl e) l).elim) (fun x c e=>Nat.lt_succ_of_le (Nat.le_trans (Nat.le_of_lt (lt (cl e))) t)) R J g
 case cab=>have e1:=eq_of_beq (show(scope.names.lookup x==some NameKind.cell)=true from h);have:=qA scope.names (C+1) (cH X.env scope.names []) (PySem.mem_of_lookup e1) e;exact Nat.le_trans t (Nat.le_of_succ_le this)
 case exf=>
  rcases a h with z | ⟨z,_⟩
  .exact(hf b w).2.2.2.2.1 x c z
  .exact Ne.symm (Nat.ne_of_lt (Nat.lt_of_lt_of_le (M b w) (Nat.le_trans t (Nat.le_of_succ_le z))))
 case frc=>
  rcases a h with z | ⟨z,_⟩
  .exact I.freeC x c z
  .exact I.hok.fresh (Nat.le_trans t (Nat.le_of_succ_le z))
 .refine Option.isSome_iff_exists.mp (qC scope.names (C+1) (cH X.env scope.names []) ?_);rcases r x H with q | q
  .exact .inr (mD (env:=X.env) (.inl (PySem.mem_of_lookup q)))
  .exact .inl (PySem.mem_of_lookup q)
 .exact Nat.ne_of_lt (Nat.lt_of_lt_of_le (M b w) t)
 .rcases(hf b w).2.2.2.1 with z | z
  .exact I.ok.noex b o e z
  .exact absurd (Nat.lt_of_lt_of_le (aR (I.ok.bs b o e).1) z) (Nat.lt_irrefl _)
 .
  have hi:own.length<=i:=by
   refine Nat.le_of_not_lt fun a1=>?_;unfold ek at g;rw[List.getElem?_append_left (by simpa using a1),List.getElem?_map] at g;cases q:own[i]? with
   | none=>rw[q] at g;cases g
   | some y=>rw[q] at g;cases g
  have T:capN[i - own.length]? = some x:=by
   have:(own++capN)[i]? = some x:=J
   rwa [List.getElem?_append_right hi] at this
  have U:(caps.map (fun j=>(Y[j]?).getD none))[i - own.length]? = some (some v):=by
   unfold ek at g
   rwa [List.getElem?_append_right (by simpa using hi),List.length_map] at g
  rw[List.getElem?_map] at U;obtain⟨j,hj,s⟩:=Option.map_eq_some_iff.mp U;have hX:X.N[j]? = some x:=by have q:=congrArg (fun l=>l[i - own.length]?) S.caps;simp only[List.getElem?_map,hj,T,Option.map_some] at q;exact Option.some.inj q
  have hY:Y[j]? = some (some v):=by
   cases q:Y[j]? with
   | none=>rw[q] at s;cases s
   | some z=>rw[q] at s;simp at s;rw[s]
  have E:=S.capf x (List.mem_of_getElem? T);have A:(x,NameKind.free)∈scope.names:=PySem.mem_of_lookup E;have Z:=S.free _ A rfl;obtain⟨m',a3,hl⟩:=I.loc;obtain⟨u,ru,l⟩:=hl j x v hX hY (Z.elim (fun q=>.inr (.inl q)) fun q=>.inr (.inr q));refine⟨u,ru,.inr ⟨?_,?_⟩⟩
  .rcases qy (env:=X.env) E with z | ⟨_,z⟩
   .exact .inr z
   .exact .inl z
  .rcases l with⟨l,_⟩ | ⟨_,c,hc,G⟩
   .have l':X.env.kindOf x=some .local:=l;rcases Z with q | q<;>(rw[l'] at q;cases q)
   .obtain⟨c',a0⟩:=Option.isSome_iff_exists.mp (mD (env:=X.env) (acc:=[]) (.inl A));have:=cl a0;rw[hc] at this;cases this;obtain⟨o,ho,hd⟩:=G;have nc:(x,NameKind.cell)∉scope.names:=fun z=>by have:=S.one _ z;rw[E] at this;cases this
    exact⟨c,(mE scope.names (C+1) (cH X.env scope.names []) nc).trans a0,o,O c o ho,hd⟩
 .rcases a h with z | ⟨_,z⟩
  .obtain⟨v,o,ho,hd⟩:=I.cell x c z;exact⟨v,o,O c o ho,hd⟩
  .exact⟨_,z⟩
 .have a2:p∈X.pn++f:=by simpa using hp
  obtain⟨e,n,ne,nf,d⟩:=I.pin p a2;exact⟨O _ _ e,n,Nat.ne_of_lt (Nat.lt_of_lt_of_le (aR e) t),stk p.1 ne nf,d⟩
 .unfold ek;have hl:=congrArg List.length S.caps;simp only[List.length_map] at hl;show(own.map (fun _=>(none:Option V))++caps.map (fun j=>(Y[j]?).getD none)).length=(own++capN).length;rw[List.length_append,List.length_append,List.length_map,List.length_map,hl]
end
def jr(X:Cx)(b:List Expr)(t:TT):Prop:=
 ∀(a:List (Addr×Obj)) (s:Shared) (Y:St) (H:Hp) (Q:Bool->Hp->Prop),Inv X a Y H s->t Y H Q->
  wpAny (model X.prog X.w) X.A (forIn b true fun c r=>if r=true then do let ok <-isTrue c X.env (eval c X.env);pure (ForInStep.yield ok) else pure (ForInStep.yield r)) (TP X a Y Q) X.xe s
noncomputable def CL:TT:=fun _ H Q=>Q true H
theorem CM{X:Cx}:jr X [] CL:=fun _ _ _ H _ I h=>wpAny_tests_nil ⟨H,I,h⟩
theorem CO{X:Cx}{c:Expr}{t:TT}(h:PT X c t):jr X [c] t:=fun a s Y H Q I q=>wpAny_tests_one (h a s Y H Q I q)
noncomputable def jt(own:List Str)(d:List Nat)(k:TI)(g:TG)(l:TT)(n:TE):TE:=fun Y H Q=>k Y H fun J o=>∃W:Nat->Nat->List V->St->Hp->Prop,(∃m,W 0 m [] (ek own d Y) o)/\∀i m a f H,W i m a f H->
 (J.stop i H/\a.length<=sizeLine/\∀p,H p=none->Q (.ref p) (aS H p (.lst a)))\/
 (J.go i H/\∀x h,J.yld i H x h->g x f h fun e q=>l e q fun b j=>if b=true then n e j fun y r=>a.length<sizeLine/\∃c,c<m/\W (i+1) c (a++[y]) e r else ∃c,c<m/\W (i+1) c a e j)
section
variable{X:Cx}{scope:Scope}{own capN:List Str}{caps:List Nat}{tg iter elt:Expr}{ifs:List Expr}{wi:TI}{g:TG}{tc:TT}{te:TE}{pos:Pos}
theorem uf{f:List (Addr×Obj)}{Y:St}{H:Hp}{s:Shared}{Q:VK}{RR:Value->Addr->Result->Shared->Prop}(S:ae X scope own capN caps)(hc:X.calm=true)(hi:PI X tg iter wi)
  (c6:∀C E s₂ H₂ pl,PG (bA X scope (own++capN) C E s₂ H₂ pl) tg g/\jr (bA X scope (own++capN) C E s₂ H₂ pl) ifs tc/\PE (bA X scope (own++capN) C E s₂ H₂ pl) elt te)
  (I:Inv X f Y H s) (h:jt own caps wi g tc te Y H Q)
  (c7:∀(D C:Addr) (s':Shared) (L:Hp) (m:Str->Option Value),Inv X f Y L s'->fx X f L C->s'.heap.Ns C m->Q (.ref D) L->RR (.ref D) C (.ok .next) s') :
  wpAny (model X.prog X.w) X.A (eval iter X.env) (fun x s₁=>wpAny (model X.prog X.w) X.A (pyIter x) (fun it s₂=>wpAny (model X.prog X.w) X.A (newList []) (fun b4 s₃=>
   wpAny (model X.prog X.w) X.A (newFunctionEnv scope X.env.globals (cH X.env scope.names []) [] X.env.qual none .none (some X.env)) (fun a8 s₄=>
    codeAny (model X.prog X.w) X.A (.compStart (.ListComp elt [⟨tg,iter,ifs,0⟩] scope pos) 0 it b4 { a8 with scope:=relabel scope X.env }) (RR b4 a8.locals) s₄) X.xe s₃) X.xe s₂) X.xe s₁) X.xe s:=by
 refine aH (hi f s Y H _ I h) fun v s1 h1=>aH h1 fun d4 B h2=>?_;obtain⟨it,E,tn,J,U,e,Z,T,b1,f2,W,⟨m0,w0⟩,b5⟩:=h2;subst e;have a0:∀b∈E,b<B.heap.objs.size:=fun b t=>by obtain⟨o,e,_⟩:=T.obj _ _ b1 b t;exact aR e
 refine wpAny_newObj_type (CI ?_);dsimp only;generalize a4:B.heap.push { cls:=.type "list",dict:=none,data:=.seq ([]:List Value).toArray }=HH;have hC:HH.objs.size=B.heap.objs.size+1:=by rw[<-a4,Heap.size_push]
 have l:B.heap.objs.size<=HH.objs.size:=by rw[hC];exact Nat.le_succ _
 have a5:B.heap.objs.size≠HH.objs.size:=by rw[hC];exact Nat.ne_of_lt (Nat.lt_succ_self _)
 have below:∀b,b<B.heap.objs.size->b≠HH.objs.size:=fun b t=>by rw[hC];exact Nat.ne_of_lt (Nat.lt_succ_of_lt t)
 have b6:(HH.push { cls:=.type "dict",data:=.dict #[] }).objs.size=HH.objs.size+1:=Heap.size_push ..;have G:∀x c,(cellsFrom (HH.objs.size+1) scope.names (cH X.env scope.names [])).lookup x=some c->(cH X.env scope.names []).lookup x=some c\/(HH.objs.size+1<=c/\(pushCells (HH.push { cls:=.type "dict",data:=.dict #[] }) scope.names).IsCell c none):=fun x c e=>by rw[<-b6] at e ⊢;exact(qz scope.names _ _ e).imp (fun z=>z) fun b7=>by obtain⟨z1,_,z2⟩:=b7;exact⟨z1,z2⟩
 have a1:(pushCells (HH.push { cls:=.type "dict",data:=.dict #[] }) scope.names).Ns HH.objs.size (fun _=>none):=(Heap.Ns.new HH (.type "dict")).keeps (pushCells_keeps _ _);have old:∀b o,B.heap.get? b=some o->(pushCells (HH.push { cls:=.type "dict",data:=.dict #[] }) scope.names).get? b=some o:=fun b o e=>pushCells_keeps _ _ b o (aF _ (a4▸aF _ e));have a2:(pushCells (HH.push { cls:=.type "dict",data:=.dict #[] }) scope.names).get? B.heap.objs.size=some { cls:=.type "list",dict:=none,data:=.seq ([]:List Value).toArray }:=pushCells_keeps _ _ _ _ (aF _ (a4▸Heap.get?_push_size _ rfl));generalize pushCells (HH.push { cls:=.type "dict",data:=.dict #[] }) scope.names=h₁ at G a1 old a2 ⊢;generalize c8:HH.objs.size=C at a1 a5 l below G ⊢;generalize j:B.heap.objs.size=D at a2 a5 ⊢;clear a4 hC c8 b6 HH;obtain⟨hg,ht,he⟩:=c6 C E B U f;have Ic:Inv (bA X scope (own++capN) C E B U f) [] (ek own caps Y) U { B with heap:=h₁,toks:=B.toks }:=CJ S Z f2 a0 (by rw[j];rw[j] at l;exact l) old a1 G;have a6:∀x c,(cellsFrom (C+1) scope.names (cH X.env scope.names [])).lookup x=some c->c≠D:=fun x c e z=>by
  rcases G x c e with e | ⟨e,_⟩
  .obtain⟨v,q⟩:=Z.cell x c (S.cl Z.ok e);exact absurd q.lt (by rw[z,j];exact Nat.lt_irrefl _)
  .rw[j] at l;exact absurd (Nat.lt_of_le_of_lt l (Nat.lt_of_lt_of_le (Nat.lt_succ_self C) e)) (by rw[z];exact Nat.lt_irrefl _)
 have a7:D∉bp X.stack:=fun z=>by
  rcases List.mem_cons.mp (Z.stkSub D z) with q | q
  .exact absurd Z.lt (by rw[<-q,j];exact Nat.lt_irrefl _)
  .exact Z.nofs (by rw[j];exact aE _) q
 have a3:∀p∈X.pn++f,p.1≠D:=fun p M z=>absurd (aR (Z.pin p M).1) (by rw[z,j];exact Nat.lt_irrefl _);have a9:∀{Y':St}{L:Hp}{s':Shared}{N:List Value}{k:Nat},Inv (bA X scope (own++capN) C E B U f) [] Y' L s'->s'.heap.get? D=some { cls:=.type "list",data:=.seq N.toArray k }->L D=none->
   Inv (bA X scope (own++capN) C E B U f) [(D,{ cls:=.type "list",data:=.seq N.toArray k })] Y' L s':=fun J e n=>J.pins_of fun p M=>by
  obtain rfl:=List.mem_singleton.mp M;exact⟨e,n,a5,a7,fun v z=>by cases z⟩
 have b2:∀{L:Hp}{o:Obj},(∀b∈E,L b=none)->∀b∈E,fx (bA X scope (own++capN) C E B U f) [(D,o)] L b:=fun hn b t=>by
  obtain⟨f0,f1,c9,f3,f4,f5⟩:=f2 b t;refine⟨hn b t,Nat.ne_of_lt (Nat.lt_of_lt_of_le (a0 b t) (by rw[j];rw[j] at l;exact l)),fun z=>(List.mem_cons.mp (Z.stkSub b z)).elim f1 c9,.inl t,fun x c e=>?cl,fun p M=>?_⟩
  case cl=>
   rcases G x c e with e | ⟨e,_⟩
   .exact f4 x c (S.cl Z.ok e)
   .exact Ne.symm (Nat.ne_of_lt (Nat.lt_of_lt_of_le (a0 b t) (Nat.le_trans (by rw[j];rw[j] at l;exact l) (Nat.le_of_succ_le e))))
  rcases List.mem_append.mp M with M | M
  .exact f5 p M
  .obtain rfl:=List.mem_singleton.mp M;intro z;have z':D=b:=z;exact absurd (a0 b t) (by rw[<-z',j];exact Nat.lt_irrefl _)
 have b0:codeAny (model X.prog X.w) X.A (.compLoop (.ListComp elt [⟨tg,iter,ifs,0⟩] scope pos) 0 (.ref it) (.ref D) (compEnvC scope (cellsFrom (C+1) scope.names (cH X.env scope.names [])) C X.env)) (RR (.ref D) C) { B with heap:=h₁,toks:=B.toks }:=by
  refine CH (fun n s'=>∃i ys N k Y' L,Inv (bA X scope (own++capN) C E B U f) [(D,{ cls:=.type "list",data:=.seq N.toArray k })] Y' L s'/\tn i s'.heap/\(∀b∈E,L b=none)/\aM ys N/\W i n ys Y' L) ?_ m0
   ⟨0,[],[],0,_,U,a9 Ic a2 (Z.hok.fresh (by rw[j];exact aE _)),T.keep _ _ _ b1 fun b _ o e=>old b o e,fun b t=>(f2 b t).1,.nil,w0⟩
  rintro n s3 ⟨i,ys,N,k,Y3,H3,I3,b8,b9,r3,w3⟩;rcases b5 i n ys Y3 H3 w3 with⟨stop,hz,qn⟩ | ⟨go,step⟩
  .refine aH (T.done (bA X scope (own++capN) C E B U f) rfl rfl rfl hc i _ s3 Y3 H3 _ I3 (b2 b9) b8 stop) fun r s4 c0=>?_;obtain⟨hr,O⟩:=c0;subst hr;obtain⟨eD,nD,_⟩:=O.pin (D,_) (be _ (List.mem_singleton.mpr rfl));have R:H3 D=none:=nD;have I5:Inv X f Y (aS H3 D (.lst ys)) s4:=by
    refine Z.call' (ch:=E) O.os ⟨O.base.keep,O.base.slot,fun b o e n hx=>?_,O.base.there,fun b xs e=>?_,fun b o u e=>?_,fun b ps e=>?_⟩ (fun b u e=>?_) O.bare fun b t=>⟨(f2 b t).2.2.2.1,(f2 b t).2.1,(f2 b t).2.2.2.2.1,(f2 b t).2.2.2.2.2⟩
    .rw[bQ (by intro z;exact absurd (aR e) (by rw[z,j];exact Nat.lt_irrefl _))];exact O.base.free b o e n hx
    .have q:=O.base.tups b xs e;rw[bQ (fw q R)];exact q
    .have q:=O.base.frzs b o u e;rw[bQ (fw q R)];exact q
    .obtain⟨more,q⟩:=O.base.tbls b ps e;exact⟨more,by rw[bQ (fw q R)];exact q⟩
    .by_cases t:b=D
     .subst t;rw[cU] at e;cases e;exact⟨hz,N,k,r3,eD⟩
     .rw[bQ t] at e;exact(O.hok b u e).stay (fun _ _ _ q=>q) (fun c q=>by rw[bQ (fw q R)];exact q) fun c xs q=>by rw[bQ (fw q R)];exact q
   obtain⟨m,hm,_⟩:=O.loc;exact c7 D C s4 _ m I5 (Z.fpOk (by rw[j];rw[j] at l;exact l) (by rw[bQ (Ne.symm a5)];exact O.free)) hm (qn D R)
  .refine aH (T.item (bA X scope (own++capN) C E B U f) rfl rfl rfl hc i _ s3 Y3 H3 _ I3 (b2 b9) b8 go) fun r s4 c1=>?_;obtain⟨u,hr,h4⟩:=c1;subst hr;refine aH h4 fun _ s5 c2=>?_;obtain⟨x,H5,I5,r5,y5,b3,d0⟩:=c2;have d1:=I5.pinned (b2 d0) (T.obj _ _ b3);refine aH (hg _ s5 Y3 H5 x u _ d1 r5 (step x H5 y5)) fun _ s6 c3=>?_;obtain⟨Y6,H6,I6,q6⟩:=c3;refine aH (ht _ s6 Y6 H6 _ I6 q6) fun ok s7 c4=>?_;obtain⟨H7,I7,q7⟩:=c4;have bX:∀{Y8:St}{H8:Hp}{s8:Shared},Inv (bA X scope (own++capN) C E B U f) ([(D,{ cls:=.type "list",data:=.seq N.toArray k })]++kj E s5.heap) Y8 H8 s8->tn (i+1) s8.heap/\(∀b∈E,H8 b=none):=fun {Y8 H8 s8} I8=>by refine⟨T.keep _ _ _ b3 fun b t o e=>(I8.pin (b,o) (be _ (be _ (mu t e)))).1,fun b t=>?_⟩;obtain⟨o,e,d⟩:=T.obj _ _ b3 b t;exact(I8.pin (b,o) (be _ (be _ (mu t e)))).2.1
   cases ok with
   | false=>obtain⟨m',hm,w7⟩:=q7;obtain⟨t7,n7⟩:=bX I7;exact⟨m',hm,i+1,ys,N,k,Y6,H7,I7.unpinned,t7,n7,r3,w7⟩
   | true=>
    refine aH (he _ s7 Y6 H7 _ I7 q7) fun u8 s8 c5=>?_;obtain⟨y,H8,I8,r8,hz,m',hm,w8⟩:=c5;obtain⟨t8,n8⟩:=bX I8;have I9:=I8.unpinned;obtain⟨eD,nD,d2,d5,_⟩:=I9.pin (D,_) (be _ (List.mem_singleton.mpr rfl));have hl:=r3.length;refine call_meets F.slot_list_append ⟨_,eD,rfl⟩ F.entry_list_append (F.args_list_append_2 _ _) (PySem.list_append D N.toArray k u8 (by rw[List.size_toArray];lia)) ⟨eD,?_⟩;have q:=PySem.IsL.update eD (fun a=>a.push u8);have e2:N.toArray.push u8=(N++[u8]).toArray:=by simp
    rw[e2] at q;have keep:∀b o,b≠D->s8.heap.get? b=some o->(s8.heap.update D (Obj.mapSeq fun a=>a.push u8)).get? b=some o:=fun b o t e=>(Heap.get?_update_other s8.heap _ (Ne.symm t)).trans e;have d3:Inv (bA X scope (own++capN) C E B U f) [] Y6 H8 { s8 with heap:=s8.heap.update D (Obj.mapSeq fun a=>a.push u8) }:=by refine(I9.pins_of (pins':=[]) fun p M=>absurd M (by simp)).turned (t':=s8.toks) (it:=D) keep nD d2 (.inr (by rw[j];exact aE _)) a6 fun p M=>?_;exact a3 p (by simpa using M)
    exact⟨m',hm,i+1,ys++[y],N++[u8],_,Y6,H8,a9 d3 q nD,T.keep _ _ _ t8 fun b t o e=>keep b o (by intro z;exact absurd (a0 b t) (by rw[z,j];exact Nat.lt_irrefl _)) e,n8,r3.append (.cons r8 .nil),w8⟩
 exact codeAny_compStart_list b0 (wpAny_noRaise (T.self _ 0 _ _ _ (T.keep _ _ _ b1 fun b _ o e=>old b o e) b0))
theorem ug(S:ae X scope own capN caps)(n:X.calm=true)(p:PI X tg iter wi)
  (a:∀C c d i j,PG (bA X scope (own++capN) C c d i j) tg g/\jr (bA X scope (own++capN) C c d i j) ifs tc/\PE (bA X scope (own++capN) C c d i j) elt te)
  (r:autoParam (∀x,foldedSetIterable iter X.env x=pure x) Zs._auto_1):PE X (.ListComp elt [⟨tg,iter,ifs,0⟩] scope pos) (jt own caps wi g tc te):=by
 intro l s Y H Q I h;rw[eval_ListComp];refine wpAny_comprehension_free (use:=none) rfl r (ud (S.cells I.ok)) S.kind S.loc ?_;refine uf S n p a I h fun D C t u m v f w q=>⟨m,w,fun z k=>?_⟩
 exact⟨.ref D,u,v.turned (t':=t.toks) (it:=C) (fun b o y e=>(k.2 b y).trans e) f.1 f.2.1 f.2.2.2.1 f.2.2.2.2.1 f.2.2.2.2.2,rfl,q⟩
theorem CP{i:Nat}{y:Str}{py c:Pos}(B:X.N.Nodup)(j:X.N[i]? = some y)(E:Loc X.env.scope y)(S:ae X scope own capN caps)(G:X.calm=true)(J:PI X tg iter wi)
  (k:∀C l n p r,PG (bA X scope (own++capN) C l n p r) tg g/\jr (bA X scope (own++capN) C l n p r) ifs tc/\PE (bA X scope (own++capN) C l n p r) elt te)
  (t:autoParam (swapsWith (.ListComp elt [⟨tg,iter,ifs,0⟩] scope pos) (some (.Name y py)) c.line X.env=pure true) Zq._auto_1)
  (L:autoParam (∀x,foldedSetIterable iter X.env x=pure x) Zs._auto_1) (M:X.fn y=true\/X.env.scope.names.lookup y=some .local:=by first | exact .inl rfl | exact .inr rfl | assumption) :
  PS X (.Assign [.Name y py] (.ListComp elt [⟨tg,iter,ifs,0⟩] scope pos) c) (qa (jt own caps wi g tc te) (ms i)):=by
 intro d s Y H D I h;rw[exec_Assign_Name_used _ _ _ _ t];refine aa (wpAny_standAt (aa ?_));show wpAny _ X.A (do let _ <-comprehension (.ListComp elt [⟨tg,iter,ifs,0⟩] scope pos) scope X.env _ (newList []) false (eval iter X.env) (some (assign (.Name y py) X.env))) _ _ s;refine aa (wpAny_mono (wpAny_comprehension_free (use:=some (assign (.Name y py) X.env)) (Q:=fun _ u=>SP X d D .next u) rfl L (ud (S.cells I.ok)) S.kind S.loc ?_) (fun _ u O=>ai (ai O)) fun _ _ e=>e);refine uf S G J k I h fun Da C u R m T f U q=>?_;show wpAny _ X.A (assign (.Name y py) X.env (.ref Da)) _ _ _;refine wpAny_assign_Name (tm T B j E (v:=.ref Da) rfl (fun Z I2 ⟨a,sb,ha⟩=>⟨m,?_,fun h' w=>?_⟩) M)
 .refine U.sameBut sb ?_;rcases ha with z | z
  .rw[z];exact f.2.1
  .exact Ne.symm (f.2.2.2.2.1 y a z)
 .exact⟨_,R,I2.turned (t':=Z.toks) (it:=C) (fun b o hb e=>(w.2 b hb).trans e) f.1 f.2.1 f.2.2.2.1 f.2.2.2.2.1 f.2.2.2.2.2,q⟩
end
end L2
namespace L2
open PySem
theorem CQ{M:Model}{A:Around}{E:Value->Shared->Prop}{s:Shared}{a:Addr}{Q:Option Obj->Shared->Prop}(h:Q (s.heap.get? a) s):wpAny M A (loadIfAlive a) Q E s:=by intro Γ p b;unfold loadIfAlive;rw[Sem.wp_loadIfAlive];exact ai h Γ p b
abbrev dI(h:Heap)(z TI TO:Addr)(a f1:Value):Prop:=
 h.get? z=some { cls:=.type "zip",dict:=none,data:=.fields #[a,f1,.bool false,.ref TI,.ref TO],slots:=#[] }
abbrev cI(h:Heap)(T:Addr)(a b c:Value):Prop:=h.get? T=some { cls:=.type "tuple",data:=.seq #[a,b,c] }
section
variable{prog:Program}{w:World}{A:Around}{E:Value->Shared->Prop}{s:Shared}
theorem qE{T:Addr}{a b c x:Value}{k:Nat}{Q:Unit->Shared->Prop}(hT:cI s.heap T a b c)
  (h:∀d,d.get? T=some { cls:=.type "tuple",data:=.seq ((#[a,b,c]:Array Value).setIfInBounds k x) }->Heap.SameBut T s.heap d->Q () { s with heap:=d }) :
  wpAny (model prog w) A (updateSeq T (·.setIfInBounds k x)) Q E s:=by
 refine wpAny_updateSeq hT rfl (h _ ?_ (Heap.SameBut.update ..));rw[Heap.get?_update_self _ hT rfl];simp[Obj.mapSeq]
theorem CS{z TI TO n r B l1 l2 l3:Addr}{k:Nat}{xs ys zs:Array Value}{x y v a b c:Value}{Q:Value->Shared->Prop}
  (nd:[z,TI,TO,n,r,B].Nodup) (hl:∀l∈[l1,l2,l3],∀j∈[z,TI,TO,n,r,B],l≠j)
  (hz:dI s.heap z TI TO .none (.bool false)) (a6:cI s.heap TI (.ref n) (.ref r) (.ref B)) (a7:cI s.heap TO a b c)
  (h1:s.heap.IsListIter n l1 k) (h2:s.heap.IsListIter r l2 k) (h3:s.heap.IsListIter B l3 k) (a8:s.heap.IsList l1 xs) (a9:s.heap.IsList l2 ys) (b0:s.heap.IsList l3 zs)
  (hx:xs[k]? = some x) (hy:ys[k]? = some y) (hv:zs[k]? = some v)
  (hQ:∀H,dI H z TI TO (rawInt s.heap.objs.size) (.bool false)->cI H TO x y v->H.IsListIter n l1 (k+1)->H.IsListIter r l2 (k+1)->H.IsListIter B l3 (k+1)->cI H s.heap.objs.size x y v->H.objs.size=s.heap.objs.size+1->
   (∀c o,c∉[z,TO,n,r,B]->s.heap.get? c=some o->H.get? c=some o)->Q (.ref s.heap.objs.size) { s with heap:=H }) :
  wpAny (model prog w) A (Builtin.«zip.__next__» ⟨[.ref z],[]⟩) (fun fin s'=>∃v,fin=.done (.ret v)/\Q v s') E s:=by
 simp only[List.nodup_cons,List.mem_cons,List.not_mem_nil,or_false,not_or,not_false_eq_true,and_true,List.nodup_nil] at nd;obtain⟨⟨c0,C,z1,z2,z3⟩,⟨b9,c6,c7,c8⟩,⟨I,J,L⟩,⟨a0,a1⟩,a2⟩:=nd;have n1:∀j∈[z,TI,TO,n,r,B],l1≠j:=hl l1 (by simp);have n2:∀j∈[z,TI,TO,n,r,B],l2≠j:=hl l2 (by simp);have n3:∀j∈[z,TI,TO,n,r,B],l3≠j:=hl l3 (by simp);show wpAny _ _ (field (.ref z) 2 >>= _) _ _ _;refine aa (wpAny_field hz rfl (x:=.bool false) rfl ?_);show wpAny _ _ (field (.ref z) 3 >>= _) _ _ _;refine aa (wpAny_field hz rfl (x:=.ref TI) rfl ?_);refine aa (wpAny_seqItems a6 rfl ?_);show wpAny _ _ (Builtin.SmallTypes.ownedTupleIsFree (.ref z) >>= _) _ _ _;refine aa ?_;unfold Builtin.SmallTypes.ownedTupleIsFree;refine aa (wpAny_field hz rfl (x:=.none) rfl (ai ?_));simp only[if_true];refine aa (wpAny_rule ?_);refine aa (wpAny_field hz rfl (x:=.ref TO) rfl ?_);refine aa (wpAny_setField_rec hz (by simp) fun h₁ U d=>?_)
 replace U:dI h₁ z TI TO .ellipsis (.bool false):=U
 refine aa ?_;simp only[List.zipIdx_cons,List.zipIdx_nil,List.forIn_cons,List.forIn_nil];refine aa (aa (wpAny_onRaise ?_));show wpAny _ _ (Builtin.SmallTypes.nextOf (.ref n) >>= _) _ _ _;refine aa (wpAny_nextOf_list_item (h1.extBut d.extBut (Ne.symm z1)) (a8.extBut d.extBut (n1 z (by simp))) hx fun h₂ b1 f=>ai ?_);have N:cI h₂ TO a b c:=f.extBut _ _ I (d.extBut _ _ (Ne.symm C) a7);refine aa (wpAny_seqItems N rfl ?_);refine aa (qE N fun h₃ D g=>?_)
 replace D:cI h₃ TO x b c:=D
 refine aa (wpAny_letGo (ai ?_));refine aa (aa (wpAny_onRaise ?_));show wpAny _ _ (Builtin.SmallTypes.nextOf (.ref r) >>= _) _ _ _;refine aa (wpAny_nextOf_list_item (((h2.extBut d.extBut (Ne.symm z2)).extBut f.extBut (Ne.symm a0)).extBut g.extBut (Ne.symm J))
  (((a9.extBut d.extBut (n2 z (by simp))).extBut f.extBut (n2 n (by simp))).extBut g.extBut (n2 TO (by simp))) hy fun h₄ b2 i=>ai ?_)
 have O:cI h₄ TO x b c:=i.extBut _ _ J D;refine aa (wpAny_seqItems O rfl ?_);refine aa (qE O fun h₅ G m=>?_)
 replace G:cI h₅ TO x y c:=G
 refine aa (wpAny_letGo (ai ?_));refine aa (aa (wpAny_onRaise ?_));show wpAny _ _ (Builtin.SmallTypes.nextOf (.ref B) >>= _) _ _ _;refine aa (wpAny_nextOf_list_item (((((h3.extBut d.extBut (Ne.symm z3)).extBut f.extBut (Ne.symm a1)).extBut g.extBut (Ne.symm L)).extBut i.extBut (Ne.symm a2)).extBut m.extBut (Ne.symm L))
  (((((b0.extBut d.extBut (n3 z (by simp))).extBut f.extBut (n3 n (by simp))).extBut g.extBut (n3 TO (by simp))).extBut i.extBut (n3 r (by simp))).extBut m.extBut (n3 TO (by simp))) hv fun h₆ b3 t=>ai ?_)
 have R:cI h₆ TO x y c:=t.extBut _ _ L G;refine aa (wpAny_seqItems R rfl ?_);refine aa (qE R fun h p u=>?_)
 replace p:cI h TO x y v:=p
 refine aa (wpAny_letGo (ai (ai ?_)));refine aa (wpAny_seqItems p rfl ?_);refine aa (wpAny_newTuple ?_);have b4:∀c o,c∉[z,TO,n,r,B]->s.heap.get? c=some o->h.get? c=some o:=fun c o hc e=>by simp only[List.mem_cons,List.not_mem_nil,or_false,not_or] at hc;obtain⟨c1,c2,c3,c4,c5⟩:=hc;exact u.extBut _ _ c2 (t.extBut _ _ c5 (m.extBut _ _ c2 (i.extBut _ _ c4 (g.extBut _ _ c2 (f.extBut _ _ c3 (d.extBut _ _ c1 e))))))
 have a3:h.objs.size=s.heap.objs.size:=by rw[u.1,t.1,m.1,i.1,g.1,f.1,d.1]
 have a4:dI h z TI TO .ellipsis (.bool false):=u.extBut _ _ C (t.extBut _ _ z3 (m.extBut _ _ C (i.extBut _ _ z2 (g.extBut _ _ C (f.extBut _ _ z1 U)))));have b5:h.IsListIter n l1 (k+1):=((((b1.extBut g.extBut (Ne.symm I)).extBut i.extBut a0).extBut m.extBut (Ne.symm I)).extBut t.extBut a1).extBut u.extBut (Ne.symm I);have b6:h.IsListIter r l2 (k+1):=((b2.extBut m.extBut (Ne.symm J)).extBut t.extBut a2).extBut u.extBut (Ne.symm J);have b7:h.IsListIter B l3 (k+1):=b3.extBut u.extBut (Ne.symm L);have S:z<h.objs.size:=aR a4;show wpAny _ _ (Builtin.SmallTypes.ownedTupleHandOut (.ref z) (.ref h.objs.size) >>= _) _ _ _;refine aa ?_;unfold Builtin.SmallTypes.ownedTupleHandOut;have b8:dI (h.push { cls:=.type "tuple",data:=.seq #[x,y,v] }) z TI TO .ellipsis (.bool false):=aF _ a4;refine aa (wpAny_setField_rec b8 (by simp) fun h₉ X Y=>?_)
 replace X:dI h₉ z TI TO (rawInt h.objs.size) (.bool false):=X
 refine wpAny_setField_rec X (by simp) fun hA M Z=>?_
 replace M:dI hA z TI TO (rawInt h.objs.size) (.bool false):=M
 have up:∀c o,c≠z->h.get? c=some o->hA.get? c=some o:=fun c o c1 e=>Z.extBut _ _ c1 (Y.extBut _ _ c1 (aF _ e));have a5:cI hA h.objs.size x y v:=Z.extBut _ _ (Nat.ne_of_gt S) (Y.extBut _ _ (Nat.ne_of_gt S) (Heap.get?_push_size _ rfl));have T:hA.objs.size=h.objs.size+1:=by rw[Z.1,Y.1,Heap.size_push]
 rw[a3] at M a5 T;refine ai ⟨_,rfl,?_⟩;show Q (.ref h.objs.size) _;rw[a3];exact hQ hA M (up _ _ (Ne.symm C) p) (b5.at fun o e=>up _ o (Ne.symm z1) e) (b6.at fun o e=>up _ o (Ne.symm z2) e) (b7.at fun o e=>up _ o (Ne.symm z3) e) a5 T fun c o hc e=>up c o (fun q=>hc (by simp[q])) (b4 c o hc e)
theorem uh{z TI TO T:Addr}{f1:Value}{oT:Obj}{Q:Bool->Shared->Prop}(b:f1=.bool false\/f1=.bool true)(a:dI s.heap z TI TO (rawInt T) f1)(hT:s.heap.get? T=some oT)
  (f:∀c,dI c z TI TO (rawInt T) (.bool true)->Heap.SameBut z s.heap c->Q false { s with heap:=c }):wpAny (model prog w) A (Builtin.SmallTypes.ownedTupleIsFree (.ref z)) Q E s:=by
 unfold Builtin.SmallTypes.ownedTupleIsFree;refine aa (wpAny_field a rfl (x:=rawInt T) rfl ?_);show wpAny _ _ (loadIfAlive (Int.toNat T) >>= _) _ _ _;refine aa (CQ ?_);rw[Int.toNat_natCast,hT];show wpAny _ _ (field (.ref z) 1 >>= _) _ _ _;refine aa (wpAny_field a rfl (x:=f1) rfl ?_);rcases b with rfl | rfl
 .show wpAny _ _ (setField (.ref z) 1 (.bool true) >>= _) _ _ _;exact aa (wpAny_setField_rec a (by simp) fun g d e=>ai (f g d e))
 .exact ai (f s.heap a (Heap.SameBut.refl ..))
theorem CT{z TI TO d g h p q r T:Addr}{k:Nat}{f1:Value}{oT:Obj}{Y Z zs:Array Value}{x y v:Value}{Q:Value->Shared->Prop}
  (nd:[z,TI,TO,d,g,h].Nodup) (G:∀l∈[p,q,r],∀j∈[z,TI,TO,d,g,h],l≠j) (H:f1=.bool false\/f1=.bool true)
  (I:dI s.heap z TI TO (rawInt T) f1) (hT:s.heap.get? T=some oT) (J:cI s.heap TI (.ref d) (.ref g) (.ref h))
  (h1:s.heap.IsListIter d p k) (h2:s.heap.IsListIter g q k) (h3:s.heap.IsListIter h r k) (L:s.heap.IsList p Y) (M:s.heap.IsList q Z) (N:s.heap.IsList r zs)
  (hx:Y[k]? = some x) (hy:Z[k]? = some y) (hv:zs[k]? = some v)
  (hQ:∀m,dI m z TI TO (rawInt T) (.bool true)->m.IsListIter d p (k+1)->m.IsListIter g q (k+1)->m.IsListIter h r (k+1)->cI m s.heap.objs.size x y v->m.objs.size=s.heap.objs.size+1->
   (∀c o,c∉[z,d,g,h]->s.heap.get? c=some o->m.get? c=some o)->Q (.ref s.heap.objs.size) { s with heap:=m }) :
  wpAny (model prog w) A (Builtin.«zip.__next__» ⟨[.ref z],[]⟩) (fun fin s'=>∃v,fin=.done (.ret v)/\Q v s') E s:=by
 simp only[List.nodup_cons,List.mem_cons,List.not_mem_nil,or_false,not_or,not_false_eq_true,and_true,List.nodup_nil] at nd;obtain⟨⟨a1,a2,z1,z2,z3⟩,⟨a0,a3,a4,a5⟩,⟨a6,a7,a8⟩,⟨t,u⟩,B⟩:=nd;have n1:∀j∈[z,TI,TO,d,g,h],p≠j:=G p (by simp);have n2:∀j∈[z,TI,TO,d,g,h],q≠j:=G q (by simp);have O:∀j∈[z,TI,TO,d,g,h],r≠j:=G r (by simp);show wpAny _ _ (field (.ref z) 2 >>= _) _ _ _;refine aa (wpAny_field I rfl (x:=.bool false) rfl ?_);show wpAny _ _ (field (.ref z) 3 >>= _) _ _ _;refine aa (wpAny_field I rfl (x:=.ref TI) rfl ?_);refine aa (wpAny_seqItems J rfl ?_);show wpAny _ _ (Builtin.SmallTypes.ownedTupleIsFree (.ref z) >>= _) _ _ _;refine aa (uh H I hT fun h₁ R a=>?_);simp only[Bool.false_eq_true,if_false];refine aa ?_;simp only[List.forIn_toArray,List.forIn_cons,List.forIn_nil];refine aa (aa (wpAny_holding ?_));show wpAny _ _ (Builtin.SmallTypes.nextOf (.ref d) >>= _) _ _ _;refine aa (wpAny_nextOf_list_item (h1.extBut a.extBut (Ne.symm z1)) (L.extBut a.extBut (n1 z (by simp))) hx fun h₂ S b=>ai (ai ?_));refine aa (aa (wpAny_holding ?_));show wpAny _ _ (Builtin.SmallTypes.nextOf (.ref g) >>= _) _ _ _;refine aa (wpAny_nextOf_list_item ((h2.extBut a.extBut (Ne.symm z2)).extBut b.extBut (Ne.symm t)) ((M.extBut a.extBut (n2 z (by simp))).extBut b.extBut (n2 d (by simp))) hy fun h₃ U f=>ai (ai ?_));refine aa (aa (wpAny_holding ?_));show wpAny _ _ (Builtin.SmallTypes.nextOf (.ref h) >>= _) _ _ _;refine aa (wpAny_nextOf_list_item (((h3.extBut a.extBut (Ne.symm z3)).extBut b.extBut (Ne.symm u)).extBut f.extBut (Ne.symm B)) (((N.extBut a.extBut (O z (by simp))).extBut b.extBut (O d (by simp))).extBut f.extBut (O g (by simp))) hv fun C X i=>ai (ai (ai ?_)));show wpAny _ _ (newTuple [x,y,v] >>= _) _ _ _;refine aa (wpAny_newTuple ?_);refine ai ⟨_,rfl,?_⟩;have n:C.objs.size=s.heap.objs.size:=by rw[i.1,f.1,b.1,a.1]
 show Q (.ref C.objs.size) { s with heap:=C.push { cls:=.type "tuple",data:=.seq #[x,y,v] } };have up:∀c o,c∉[z,d,g,h]->s.heap.get? c=some o->C.get? c=some o:=fun c o D e=>by simp only[List.mem_cons,List.not_mem_nil,or_false,not_or] at D;obtain⟨c1,c2,c3,c4⟩:=D;exact i.extBut _ _ c4 (f.extBut _ _ c3 (b.extBut _ _ c2 (a.extBut _ _ c1 e)))
 rw[n];refine hQ _ (aF _ (i.extBut _ _ z3 (f.extBut _ _ z2 (b.extBut _ _ z1 R)))) (((S.extBut f.extBut t).extBut i.extBut u).at fun o e=>aF _ e) ((U.extBut i.extBut B).at fun o e=>aF _ e)
  (X.at fun o e=>aF _ e) ?_ (by rw[Heap.size_push,n]) fun c o D e=>aF _ (up c o D e)
 rw[<-n];exact Heap.get?_push_size _ rfl
theorem CU{z TI TO a f g d l2 l3 T:Addr}{k:Nat}{f1:Value}{oT:Obj}{t:Array Value}{Q:Fin->Shared->Prop}(y:A.handled=none)
  (v:[z,TI,TO,a,f,g].Nodup) (B:∀l∈[d,l2,l3],∀j∈[z,TI,TO,a,f,g],l≠j) (h:f1=.bool false\/f1=.bool true)
  (i:dI s.heap z TI TO (rawInt T) f1) (hT:s.heap.get? T=some oT) (m:cI s.heap TI (.ref a) (.ref f) (.ref g))
  (h1:s.heap.IsListIter a d k) (n:s.heap.IsList d t) (C:t[k]? = none)
  (D:∀p e,(∀c o,c∉[z,a]->s.heap.get? c=some o->p.get? c=some o)->(∃o,p.get? e=some o/\o.cls=.type "StopIteration")->E (.ref e) { s with heap:=p }) :
  wpAny (model prog w) A (Builtin.«zip.__next__» ⟨[.ref z],[]⟩) Q E s:=by
 simp only[List.nodup_cons,List.mem_cons,List.not_mem_nil,or_false,not_or,not_false_eq_true,and_true,List.nodup_nil] at v;obtain⟨⟨G,H,I,z2,z3⟩,⟨u,J,L,M⟩,⟨N,O,R⟩,⟨S,U⟩,X⟩:=v;have Y:∀j∈[z,TI,TO,a,f,g],d≠j:=B d (by simp);show wpAny _ _ (field (.ref z) 2 >>= _) _ _ _;refine aa (wpAny_field i rfl (x:=.bool false) rfl ?_);show wpAny _ _ (field (.ref z) 3 >>= _) _ _ _;refine aa (wpAny_field i rfl (x:=.ref TI) rfl ?_);refine aa (wpAny_seqItems m rfl ?_);show wpAny _ _ (Builtin.SmallTypes.ownedTupleIsFree (.ref z) >>= _) _ _ _;refine aa (uh h i hT fun h₁ Z b=>?_);simp only[Bool.false_eq_true,if_false];refine aa ?_;simp only[List.forIn_toArray,List.forIn_cons,List.forIn_nil];refine aa (aa (wpAny_holding ?_));show wpAny _ _ (Builtin.SmallTypes.nextOf (.ref a) >>= _) _ _ _;refine aa (wpAny_nextOf_list_end y (h1.extBut b.extBut (Ne.symm I)) (n.extBut b.extBut (Y z (by simp))) C fun h₂ e q he=>?_);refine D h₂ e (fun c o r x=>?_) he;simp only[List.mem_cons,List.not_mem_nil,or_false,not_or] at r;exact q _ _ r.2 (b.extBut _ _ r.1 x)
end
structure Z3 (h:Heap) (z TI TO i1 i2 i3 l1 l2 l3:Addr) (xs ys zs:Array Value) (S:Addr) (i:Nat):Prop where
 zrec:∃(f0 f1:Value),dI h z TI TO f0 f1/\(f1=.bool false\/f1=.bool true)/\((i=0/\f0=.none/\f1=.bool false)\/(0<i/\∃(T:Addr) (oT:Obj),f0=rawInt T/\h.get? T=some oT/\T∉[S,z,TO,i1,i2,i3]))
 ti:cI h TI (.ref i1) (.ref i2) (.ref i3)
 to:∃a b c,cI h TO a b c
 h1:h.IsListIter i1 l1 i
 h2:h.IsListIter i2 l2 i
 h3:h.IsListIter i3 l3 i
 l1:h.IsList l1 xs
 l2:h.IsList l2 ys
 l3:h.IsList l3 zs
def mF(h:Heap)(n:Addr)(b c d:Array Value)(a:List Value):Prop:=
 ∀(j:Nat) (v:Value),a[j]? = some v->∃(T:Addr) (x y u:Value),v=Value.ref T/\n<=T/\cI h T x y u/\b[j]? = some x/\c[j]? = some y/\d[j]? = some u
section
variable{prog:Program}{w:World}{A:Around}{E:Value->Shared->Prop}{s:Shared}
theorem CV{z TI TO f g h u B C S:Addr}{i:Nat}{R U X:Array Value}{x y v:Value}{Q:Option Value->Shared->Prop}
  (D:[z,TI,TO,f,g,h].Nodup) (Y:∀l∈[u,B,C],∀j∈[z,TI,TO,f,g,h],l≠j) (st:Z3 s.heap z TI TO f g h u B C R U X S i) (hS:S<s.heap.objs.size)
  (hx:R[i]? = some x) (hy:U[i]? = some y) (hv:X[i]? = some v)
  (hQ:∀k,Z3 k z TI TO f g h u B C R U X S (i+1)->cI k s.heap.objs.size x y v->k.objs.size=s.heap.objs.size+1->(∀c o,c∉[z,TO,f,g,h]->s.heap.get? c=some o->k.get? c=some o)->Q (some (.ref s.heap.objs.size)) { s with heap:=k }) :
  wpAny (model prog w) A (pyNext (.ref z)) Q E s:=by
 obtain⟨⟨f0,f1,N,Z,hf⟩,ti,⟨a,b,c,to⟩,h1,h2,h3,m,n,p⟩:=st;have hT:s.TypeIs (.ref z) "zip":=⟨_,N,rfl⟩
 have lt:∀{c o},s.heap.get? c=some o->s.heap.objs.size≠c:=fun e=>Nat.ne_of_gt (aR e);have new:s.heap.objs.size∉[S,z,TO,f,g,h]:=by simp only[List.mem_cons,List.not_mem_nil,or_false,not_or];exact⟨Nat.ne_of_gt hS,lt N,lt to,(by obtain⟨_,e,_⟩:=h1;exact lt e),(by obtain⟨_,e,_⟩:=h2;exact lt e),(by obtain⟨_,e,_⟩:=h3;exact lt e)⟩
 have sub:∀l∈[u,B,C],l∉[z,TO,f,g,h]:=fun l hm z'=>by simp only[List.mem_cons,List.not_mem_nil,or_false] at z';rcases z' with q | q | q | q | q<;>exact Y l hm _ (by simp) q
 have G:TI∉[z,TO,f,g,h]:=by simp only[List.nodup_cons,List.mem_cons,List.not_mem_nil,or_false,not_or,not_false_eq_true,and_true,List.nodup_nil] at D;obtain⟨⟨H,I,z1,z2,z3⟩,⟨r,J,L,M⟩,_⟩:=D;simp only[List.mem_cons,List.not_mem_nil,or_false,not_or];exact⟨Ne.symm H,r,J,L,M⟩
 unfold pyNext;refine aa (wpAny_attempt (wpAny_callSpecial?_slot (name:=Str.ofString "__next__") hT F.slot_zip_next (wpAny_call_entry F.slot_zip_next hT F.entry_zip_next ?_ (F.args_zip_next_1 _))));rcases hf with⟨hi,rfl,rfl⟩ | ⟨hi,T,oT,rfl,eT,nT⟩
 .refine CS D Y N ti to h1 h2 h3 m n p hx hy hv fun k a1 a2 a3 a4 a5 O a7 t=>ai ?_;exact hQ k ⟨⟨_,_,a1,.inl rfl,.inr ⟨Nat.succ_pos _,_,_,rfl,O,new⟩⟩,t _ _ G ti,⟨_,_,_,a2⟩,a3,a4,a5,m.at fun o e=>t _ o (sub u (by simp)) e,n.at fun o e=>t _ o (sub B (by simp)) e,p.at fun o e=>t _ o (sub C (by simp)) e⟩ O a7 t
 .refine CT D Y Z N eT ti h1 h2 h3 m n p hx hy hv fun k a1 a3 a4 a5 O a7 t=>ai ?_;have d:∀c o,c∉[z,TO,f,g,h]->s.heap.get? c=some o->k.get? c=some o:=fun c o hc e=>t c o (fun q=>hc (by simp only[List.mem_cons,List.not_mem_nil,or_false] at q ⊢;rcases q with q | q | q | q<;>simp[q])) e;have a0:TO∉[z,f,g,h]:=by simp only[List.nodup_cons,List.mem_cons,List.not_mem_nil,or_false,not_or,not_false_eq_true,and_true,List.nodup_nil] at D;obtain⟨⟨H,I,z1,z2,z3⟩,⟨r,J,L,M⟩,⟨a9,b0,b1⟩,_⟩:=D;simp only[List.mem_cons,List.not_mem_nil,or_false,not_or];exact⟨Ne.symm I,a9,b0,b1⟩
  refine hQ k ⟨⟨_,_,a1,.inr rfl,.inr ⟨Nat.succ_pos _,_,_,rfl,d T oT (fun q=>nT (bh _ q)) eT,nT⟩⟩,d _ _ G ti,⟨a,b,c,t _ _ a0 to⟩,a3,a4,a5,m.at fun o e=>d _ o (sub u (by simp)) e,n.at fun o e=>d _ o (sub B (by simp)) e,p.at fun o e=>d _ o (sub C (by simp)) e⟩ O a7 d
theorem CW{z TI TO d f g q r t S:Addr}{i:Nat}{n u v:Array Value}{Q:Option Value->Shared->Prop}(x:A.handled=none)
  (R:[z,TI,TO,d,f,g].Nodup) (y:∀l∈[q,r,t],∀j∈[z,TI,TO,d,f,g],l≠j) (st:Z3 s.heap z TI TO d f g q r t n u v S i) (U:0<i) (B:n[i]? = none)
  (C:∀h,(∀c o,c∉[z,d]->s.heap.get? c=some o->h.get? c=some o)->Q none { s with heap:=h }) :
  wpAny (model prog w) A (pyNext (.ref z)) Q E s:=by
 obtain⟨⟨X,f1,p,k,D⟩,ti,⟨a,b,c,to⟩,h1,h2,h3,m,G,H⟩:=st;have hT:s.TypeIs (.ref z) "zip":=⟨_,p,rfl⟩
 rcases D with⟨I,_⟩ | ⟨_,T,oT,rfl,J,Y⟩
 .omega
 .unfold pyNext;refine aa (wpAny_attempt (wpAny_callSpecial?_slot (name:=Str.ofString "__next__") hT F.slot_zip_next
   (wpAny_call_entry F.slot_zip_next hT F.entry_zip_next (CU x R y k p J ti h1 m B fun h e L M=>?_) (F.args_zip_next_1 _))))
  obtain⟨o,N,O⟩:=M;refine aa (wpAny_isInstance (T:="StopIteration") (b:=true) ⟨o,N,O⟩ isSubtype_stop ?_);exact ai (C _ L)
end
section
variable{prog:Program}{w:World}{A:Around}{R:Result->Shared->Prop}
theorem Z3.keep{h u:Heap}{z TI TO d f g r s t S:Addr}{v x y:Array Value}{i:Nat}(st:Z3 h z TI TO d f g r s t v x y S i)(B:S∉[z,TI,TO,d,f,g,r,s,t])(k:∀b o,b≠S->h.get? b=some o->u.get? b=some o) :
  Z3 u z TI TO d f g r s t v x y S i:=by
 simp only[List.mem_cons,List.not_mem_nil,or_false,not_or] at B;obtain⟨D,E,G,H,I,J,L,M,N⟩:=B;obtain⟨⟨O,f1,Q,j,l⟩,ti,⟨a,b,c,to⟩,h1,h2,h3,m,n,p⟩:=st;refine⟨⟨O,f1,k _ _ (Ne.symm D) Q,j,?_⟩,k _ _ (Ne.symm E) ti,⟨a,b,c,k _ _ (Ne.symm G) to⟩,h1.at fun o e=>k _ o (Ne.symm H) e,h2.at fun o e=>k _ o (Ne.symm I) e,h3.at fun o e=>k _ o (Ne.symm J) e,m.at fun o e=>k _ o (Ne.symm L) e,n.at fun o e=>k _ o (Ne.symm M) e,p.at fun o e=>k _ o (Ne.symm N) e⟩;rcases l with l | ⟨U,T,oT,e,X,C⟩
 .exact .inl l
 .exact .inr ⟨U,T,oT,e,k _ _ (fun q=>C (by simp[q])) X,C⟩
noncomputable abbrev ui(a:Array Value)(v:Value)(c:Nat):Nat:=if (a.push v).size==a.size then c else c+1
theorem CY{z TI TO p D E l1 l2 l3 S n₀:Addr}{h J L:Array Value}(hh:A.handled=none)
  (nd:[z,TI,TO,p,D,E].Nodup) (hl:∀l∈[l1,l2,l3],∀j∈[z,TI,TO,p,D,E],l≠j) (hS:S∉[z,TI,TO,p,D,E,l1,l2,l3]) (G:∀j∈[S,z,TI,TO,p,D,E],j<n₀)
  (e2:J.size=h.size) (e3:L.size=h.size) (a6:0<h.size) (hn:h.size<=sizeLine) (res:Value) :
  ∀(k i:Nat) (s:Shared) (a:List Value) (c:Nat),h.size - i=k->i<=h.size->Z3 s.heap z TI TO p D E l1 l2 l3 h J L S i->n₀<=s.heap.objs.size->s.heap.get? S=some { cls:=.type "list",dict:=none,data:=.seq a.toArray c,slots:=#[] }->a.length=i->mF s.heap n₀ h J L a->
  (∀n d c',(∀b o,b∉[S,z,TO,p,D,E]->s.heap.get? b=some o->n.get? b=some o)->n.get? S=some { cls:=.type "list",dict:=none,data:=.seq d.toArray c',slots:=#[] }->d.length=h.size->mF n n₀ h J L d->R (.ok (.ret res)) { s with heap:=n })->
  codeAny (model prog w) A (.builtin "list.extend.loop" ⟨[.ref S,.ref z,res],[]⟩) R s:=by
 intro k
 induction k with
 | zero=>
  intro i s a c hk hi st r B f tr hR;have M:i=h.size:=by lia
  refine codeAny_builtin F.entry_extend_loop ?_;rw[Around.under_plainId F.plain_extend_loop _];show wpAny _ A.in1 (pyNext (.ref z) >>= _) _ _ s;have nS:S∉[z,p]:=fun q=>hS (by simp only[List.mem_cons,List.not_mem_nil,or_false] at q ⊢;rcases q with q | q<;>simp[q]);refine aa (CW hh nd hl st (by lia) (by rw[M];exact Array.getElem?_eq_none (aE _)) fun n g=>?_);refine ai (hR n a c (fun b o G e=>g b o (fun q=>G (by simp only[List.mem_cons,List.not_mem_nil,or_false] at q ⊢;rcases q with q | q<;>simp[q])) e) (g S _ nS B) (f.trans M) fun j v H=>?_);obtain⟨T,x,y,u,e,hT,t,q⟩:=tr j v H;refine⟨T,x,y,u,e,hT,g T _ (fun m=>?_) t,q⟩;simp only[List.mem_cons,List.not_mem_nil,or_false] at m;rcases m with m | m
  .exact absurd (G z (by simp)) (by rw[<-m];exact Nat.not_lt.mpr hT)
  .exact absurd (G p (by simp)) (by rw[<-m];exact Nat.not_lt.mpr hT)
 | succ k ih=>
  intro i s a c hk hi st r B f tr hR;have N:i<h.size:=by lia
  refine codeAny_builtin F.entry_extend_loop ?_;rw[Around.under_plainId F.plain_extend_loop _];show wpAny _ A.in1 (pyNext (.ref z) >>= _) _ _ s;refine aa (CV nd hl st (aR B) (x:=h[i]) (y:=J[i]) (v:=L[i]) (Array.getElem?_eq_getElem N) (Array.getElem?_eq_getElem (by lia)) (Array.getElem?_eq_getElem (by lia)) fun n a0 a1 O g=>?_);have nS:S∉[z,TO,p,D,E]:=fun q=>hS (by simp only[List.mem_cons,List.not_mem_nil,or_false] at q ⊢;rcases q with q | q | q | q | q<;>simp[q]);have Q:=g S _ nS B;have ha:a.toArray.size=i:=by rw[List.size_toArray];exact f
  show wpAny _ A.in1 (updateSeq S (·.push (.ref s.heap.objs.size)) >>= _) _ _ _;refine aa ?_;have old:∀b o,b≠S->n.get? b=some o->(n.update S (Obj.mapSeq (·.push (.ref s.heap.objs.size)))).get? b=some o:=fun b o G e=>(Heap.get?_update_other _ _ (Ne.symm G)).trans e;have big:∀T,n₀<=T->T∉[S,z,TO,p,D,E]:=fun T hT m=>by simp only[List.mem_cons,List.not_mem_nil,or_false] at m;rcases m with m | m | m | m | m | m<;>exact absurd (G T (by rw[m];simp)) (Nat.not_lt.mpr hT)
  refine wpAny_updateSeq Q rfl (ai ⟨plainId_quiet F.plain_extend_loop _,ih (i+1) _ (a++[.ref s.heap.objs.size]) (ui a.toArray (.ref s.heap.objs.size) c) (by lia) N (a0.keep hS old) ?_ ?_ (by rw[List.length_append,f];rfl) ?_ fun a2 d c' U X a3 Y=>?_⟩)
   (by rw[ha];lia) (by show(a.toArray.push _).size<=sizeLine+1;rw[Array.size_push,ha];lia)
  .show n₀<=(n.update S (Obj.mapSeq (·.push (.ref s.heap.objs.size)))).objs.size;rw[show(n.update S (Obj.mapSeq (·.push (Value.ref s.heap.objs.size)))).objs.size=n.objs.size from(Heap.SameBut.update ..).1,O];exact Nat.le_succ_of_le r
  .have q:=Heap.get?_update_self (Obj.mapSeq (·.push (Value.ref s.heap.objs.size))) Q rfl;have e:a.toArray.push (Value.ref s.heap.objs.size)=(a++[Value.ref s.heap.objs.size]).toArray:=by simp
   have q':(n.update S (Obj.mapSeq (·.push (Value.ref s.heap.objs.size)))).get? S=some { cls:=.type "list",dict:=none,data:=.seq (a.toArray.push (Value.ref s.heap.objs.size)) (ui a.toArray (Value.ref s.heap.objs.size) c),slots:=#[] }:=q;rw[e] at q';exact q'
  .intro j v H
   by_cases a4:j<a.length
   .rw[List.getElem?_append_left a4] at H;obtain⟨T,x,y,u,e,hT,t,q⟩:=tr j v H;have Z:=big T hT;exact⟨T,x,y,u,e,hT,old T _ (fun C=>Z (by simp[C])) (g T _ (fun C=>Z (bh _ C)) t),q⟩
   .have a5:j=a.length:=by have:=(List.getElem?_eq_some_iff.mp H).1;rw[List.length_append,List.length_singleton] at this;lia
    subst a5;rw[List.getElem?_append_right (aE _),Nat.sub_self] at H;cases H;have Z:=big s.heap.objs.size r;refine⟨s.heap.objs.size,h[i],J[i],L[i],rfl,r,old _ _ (fun C=>Z (by simp[C])) a1,?_,?_,?_⟩<;>(rw[f];exact Array.getElem?_eq_getElem (by lia))
  .refine hR a2 d c' (fun b o I e=>U b o I (old b o (fun C=>I (by simp[C])) (g b o (fun C=>I (bh _ C)) e))) X a3 Y
end
namespace F3
theorem zip_no_len:typeLookup (.type "zip") "__len__" = pure none:=by rw[typeLookup_type,builtinLookup_eq_fast];kernel_rfl
theorem zip_no_hint:typeLookup (.type "zip") "__length_hint__" = pure none:=by rw[typeLookup_type,builtinLookup_eq_fast];kernel_rfl
theorem typeCall_zip_3(a b c:Value):checkTypeCall "zip" ⟨[a,b,c],[]⟩=pure ():=by kernel_rfl
theorem newCall_zip_3(a b c:Value):checkBuiltinCall "zip.__new__" ⟨[.type "zip",a,b,c],[]⟩=pure ():=by kernel_rfl
theorem args_object_init_4(a b c d:Value):argsOk "object.__init__" ⟨[a,b,c,d],[]⟩:=by unfold argsOk;rw[signature?_of (id:="object.__init__") (n:=['_','_','t','i','n','i','_','_']) (o:=['t','c','e','j','b','o']) (by kernel_rfl) F.owner_object];kernel_rfl
end F3
noncomputable abbrev zA(h:Heap)(a:Addr):Heap:=h.push { cls:=.type "list_iterator",data:=.fields #[.ref a,.int 0 0] }
noncomputable abbrev zB(h:Heap)(a b:Addr):Heap:=(zA h a).push { cls:=.type "list_iterator",data:=.fields #[.ref b,.int 0 0] }
noncomputable abbrev zC(h:Heap)(a b c:Addr):Heap:=(zB h a b).push { cls:=.type "list_iterator",data:=.fields #[.ref c,.int 0 0] }
noncomputable abbrev zD(h:Heap)(a b c:Addr):Heap:=(zC h a b c).push { cls:=.type "tuple",data:=.seq #[.ref h.objs.size,.ref (zA h a).objs.size,.ref (zB h a b).objs.size] }
noncomputable abbrev zE(h:Heap)(a b c:Addr):Heap:=(zD h a b c).push { cls:=.type "tuple",data:=.seq #[.none,.none,.none] }
noncomputable abbrev zF(h:Heap)(a b c:Addr):Heap:=(zE h a b c).push { cls:=.type "zip",data:=.fields #[.none,.bool false,.bool false,.ref (zC h a b c).objs.size,.ref (zD h a b c).objs.size] }
theorem CZ(a b c:Addr)(o p q:Array Value) :
  Meets (Builtin.«zip.__new__» ⟨[.type "zip",.ref a,.ref b,.ref c],[]⟩) (fun _ R s=>s.heap.IsList a o/\s.heap.IsList b p/\s.heap.IsList c q/\
   R (.ok (.ret (.ref (zE s.heap a b c).objs.size))) { s with heap:=zF s.heap a b c }):=
 .of_wp fun t w A R s h=>by
  obtain⟨e,g,d,f,os⟩:=s;obtain⟨i,j,k,h⟩:=h;have r:=sub_zip;have l:Heap.IsList (Shared.heap ⟨e,g,d,f,os⟩) a o:=i;have m:Heap.IsList (Shared.heap ⟨e.push { cls:=.type "list_iterator",data:=.fields #[.ref a,.int 0 0] },g,d,f,os⟩) b p:=Heap.IsList.push j _;have n:Heap.IsList (Shared.heap ⟨(e.push { cls:=.type "list_iterator",data:=.fields #[.ref a,.int 0 0] }).push { cls:=.type "list_iterator",data:=.fields #[.ref b,.int 0 0] },g,d,f,os⟩) c q:=Heap.IsList.push (Heap.IsList.push k _) _
  wp_walk using wpAny_pyIter_list l,wpAny_pyIter_list m,wpAny_pyIter_list n
  exact⟨_,rfl,h⟩
section
variable{prog:Program}{w:World}{A:Around}{E:Value->Shared->Prop}{s:Shared}
theorem Db{a b d:Addr}{q r t:Array Value}{Q:Value->Shared->Prop}(f:s.heap.IsList a q)(g:s.heap.IsList b r)(i:s.heap.IsList d t)
  (h:∀e,dI e (s.heap.objs.size+5) (s.heap.objs.size+3) (s.heap.objs.size+4) .none (.bool false)->cI e (s.heap.objs.size+3) (.ref s.heap.objs.size) (.ref (s.heap.objs.size+1)) (.ref (s.heap.objs.size+2))->
   cI e (s.heap.objs.size+4) .none .none .none->e.IsListIter s.heap.objs.size a 0->e.IsListIter (s.heap.objs.size+1) b 0->e.IsListIter (s.heap.objs.size+2) d 0->e.objs.size=s.heap.objs.size+6->
   (∀c o,s.heap.get? c=some o->e.get? c=some o)->Q (.ref (s.heap.objs.size+5)) { s with heap:=e }) :
  wpAny (model prog w) A (call (.type "zip") [.ref a,.ref b,.ref d]) Q E s:=by
 refine callType_new F.called_zip (by decide) (F3.typeCall_zip_3 _ _ _) (F3.newCall_zip_3 _ _ _) (fun obj=>F3.args_object_init_4 obj _ _ _) F.entry_zip_new
  (CZ a b d q r t) ⟨f,g,i,?_⟩
 have j:(zA s.heap a).objs.size=s.heap.objs.size+1:=Heap.size_push ..;have k:(zB s.heap a b).objs.size=s.heap.objs.size+2:=by rw[Heap.size_push,j]
 have l:(zC s.heap a b d).objs.size=s.heap.objs.size+3:=by rw[Heap.size_push,k]
 have m:(zD s.heap a b d).objs.size=s.heap.objs.size+4:=by rw[Heap.size_push,l]
 have n:(zE s.heap a b d).objs.size=s.heap.objs.size+5:=by rw[Heap.size_push,m]
 have y:(zF s.heap a b d).objs.size=s.heap.objs.size+6:=by rw[Heap.size_push,n]
 have p:(zF s.heap a b d).get? (zE s.heap a b d).objs.size=some _:=Heap.get?_push_size _ rfl;have u:(zF s.heap a b d).get? (zD s.heap a b d).objs.size=some _:=aF _ (Heap.get?_push_size _ rfl);have v:(zF s.heap a b d).get? (zC s.heap a b d).objs.size=some _:=aF _ (aF _ (Heap.get?_push_size _ rfl));have g3:(zF s.heap a b d).get? (zB s.heap a b).objs.size=some _:=aF _ (aF _ (aF _ (Heap.get?_push_size _ rfl)));have g2:(zF s.heap a b d).get? (zA s.heap a).objs.size=some _:=aF _ (aF _ (aF _ (aF _ (Heap.get?_push_size _ rfl))));have g1:(zF s.heap a b d).get? s.heap.objs.size=some _:=aF _ (aF _ (aF _ (aF _ (aF _ (Heap.get?_push_size _ rfl)))));show _/\_;rw[l,m,n] at p;rw[j,k,l] at v;rw[m] at u;rw[k] at g3;rw[j] at g2;rw[n];exact⟨⟨_,p,rfl⟩,h _ p v u ⟨_,g1,rfl,rfl⟩ ⟨_,g2,rfl,rfl⟩ ⟨_,g3,rfl,rfl⟩ y fun c o x=>
  aF _ (aF _ (aF _ (aF _ (aF _ (aF _ x)))))⟩
theorem Dc{z TI TO k n p L M N:Addr}{g S T:Array Value}{Q:Value->Shared->Prop}(hh:A.handled=none)
  (nd:[z,TI,TO,k,n,p].Nodup) (hl:∀l∈[L,M,N],∀j∈[z,TI,TO,k,n,p],l≠j) (x:∀j∈[z,TI,TO,k,n,p,L,M,N],j<s.heap.objs.size)
  (y:dI s.heap z TI TO .none (.bool false)) (ti:cI s.heap TI (.ref k) (.ref n) (.ref p)) (to:cI s.heap TO .none .none .none)
  (h1:s.heap.IsListIter k L 0) (h2:s.heap.IsListIter n M 0) (h3:s.heap.IsListIter p N 0) (U:s.heap.IsList L g) (X:s.heap.IsList M S) (Y:s.heap.IsList N T)
  (e2:S.size=g.size) (e3:T.size=g.size) (B:0<g.size) (hn:g.size<=sizeLine)
  (hQ:∀f r c,(∀b o,b∉[z,TO,k,n,p]->s.heap.get? b=some o->f.get? b=some o)->f.get? s.heap.objs.size=some { cls:=.type "list",dict:=none,data:=.seq r.toArray c,slots:=#[] }->r.length=g.size->mF f (s.heap.objs.size+1) g S T r->
   Q (.ref s.heap.objs.size) { s with heap:=f }):wpAny (model prog w) A (call (.type "list") [.ref z]) Q E s:=by
 have C:s.heap.objs.size∉[z,TI,TO,k,n,p,L,M,N]:=fun hm=>Nat.lt_irrefl _ (x _ hm);have Z:s.heap.objs.size≠z:=fun e=>C (by simp[e]);refine callType_codes (Q₁:=fun obj s₁=>obj=.ref s.heap.objs.size/\s₁ = { s with heap:=s.heap.push { cls:=.type "list",data:=.seq #[] } }) F.called_list (F.typeCall_list_1 _) F.entry_list_init
  (code_list_new _ ⟨rfl,rfl⟩) fun obj s₁ h₁=>?_
 obtain⟨rfl,rfl⟩:=h₁;have O:(s.heap.push { cls:=.type "list",data:=.seq #[] }).get? s.heap.objs.size=some { cls:=.type "list",data:=.seq #[] }:=Heap.get?_push_size _ rfl;have t:∀f,dI f z TI TO .none (.bool false)->Shared.TypeIs { s with heap:=f } (.ref z) "zip":=fun f q=>⟨_,q,rfl⟩
 refine⟨⟨_,O,rfl⟩,F.args_list_init_2 _ _,?_⟩;have pu:∀b o,s.heap.get? b=some o->(s.heap.push { cls:=.type "list",data:=.seq #[] }).get? b=some o:=fun b o e=>aF _ e;show wpAny _ A.in1.in1 (do let old <-Builtin.List.listItems (.ref s.heap.objs.size);Builtin.List.listUpdate (.ref s.heap.objs.size) (fun _=>#[]);letGo old.toList.reverse;Builtin.List.listExtendWith (.ref s.heap.objs.size) (.ref z) .none) _ _ _;refine aa ?_;unfold Builtin.List.listItems;refine aa (wpAny_seqItems O rfl (ai ?_));show wpAny _ _ (updateSeq s.heap.objs.size (fun _=>#[]) >>= fun _=>letGo (#[]:Array Value).toList.reverse >>= fun _=>Builtin.List.listExtendWith (.ref s.heap.objs.size) (.ref z) .none) _ _ _;refine aa (wpAny_updateSeq O rfl ?_);have u:=Heap.get?_update_self (Obj.mapSeq (fun _=>(#[]:Array Value))) O rfl;refine aa (wpAny_letGo ?_);generalize D:(s.heap.push { cls:=.type "list",data:=.seq #[] }).update s.heap.objs.size (Obj.mapSeq (fun _=>(#[]:Array Value)))=i at u ⊢;have d:∀b o,s.heap.get? b=some o->i.get? b=some o:=fun b o e=>by rw[<-D];exact(Heap.get?_update_other _ _ (Nat.ne_of_gt (aR e))).trans (pu b o e)
 have yE:i.objs.size=s.heap.objs.size+1:=by rw[<-D,show((s.heap.push { cls:=.type "list",data:=.seq #[] }).update s.heap.objs.size (Obj.mapSeq (fun _=>(#[]:Array Value)))).objs.size=(s.heap.push { cls:=.type "list",data:=.seq #[] }).objs.size from(Heap.SameBut.update ..).1,Heap.size_push]
 unfold Builtin.List.listExtendWith;refine aa (wpAny_typeOf (t _ (d _ _ y)) ?_);have g1:Builtin.List.listSameRef (.ref s.heap.objs.size) (.ref z)=false:=by simp[Builtin.List.listSameRef,Z]
 have g2:(Value.type "zip"==Value.type "list")=false:=by decide
 have g3:(Value.type "zip"==Value.type "tuple")=false:=by decide
 simp only[g1,g2,g3,Bool.or_false,Bool.false_eq_true,if_false];refine aa (wpAny_pyIter_zip (s:={ s with heap:=i }) (d _ _ y) ?_);refine aa (wpAny_holding ?_);unfold Builtin.List.listLengthHint;refine aa (wpAny_specialOf (t _ (d _ _ y)) F3.zip_no_len ?_);show wpAny _ _ (specialOf (Value.ref z) (Str.ofString "__length_hint__") >>= _) _ _ _;refine aa (wpAny_specialOf (t _ (d _ _ y)) F3.zip_no_hint ?_);refine ai ?_;show wpAny _ _ (rule "list.extend.makes-room" >>= fun _=>Builtin.List.listTouch (.ref s.heap.objs.size) >>= fun _=>
  again (.builtin "list.extend.loop" ⟨[.ref s.heap.objs.size,.ref z,.none],[]⟩)) _ _ _
 refine aa (wpAny_rule ?_);refine aa ?_;show wpAny _ _ (updateSeq s.heap.objs.size (·.push .none) >>= fun _=>updateSeq s.heap.objs.size (·.pop)) _ _ _;refine aa (wpAny_updateSeq u rfl ?_);have G:=Heap.get?_update_self (Obj.mapSeq (·.push Value.none)) u rfl;refine wpAny_updateSeq (hz:=by seq_fits) G rfl ?_;have H:=Heap.get?_update_self (Obj.mapSeq (·.pop)) G rfl;generalize I:(i.update s.heap.objs.size (Obj.mapSeq (·.push Value.none))).update s.heap.objs.size (Obj.mapSeq (·.pop))=H2 at H ⊢;have a:∀b o,s.heap.get? b=some o->H2.get? b=some o:=fun b o e=>by rw[<-I];exact(Heap.get?_update_other _ _ (Nat.ne_of_gt (aR e))).trans ((Heap.get?_update_other _ _ (Nat.ne_of_gt (aR e))).trans (d b o e))
 have yF:H2.objs.size=s.heap.objs.size+1:=by
  rw[<-I,show((i.update s.heap.objs.size (Obj.mapSeq (·.push Value.none))).update s.heap.objs.size (Obj.mapSeq (·.pop))).objs.size=(i.update s.heap.objs.size (Obj.mapSeq (·.push Value.none))).objs.size from(Heap.SameBut.update ..).1,
   show(i.update s.heap.objs.size (Obj.mapSeq (·.push Value.none))).objs.size=i.objs.size from(Heap.SameBut.update ..).1,yE]
 refine ai ⟨plainId_quiet F.plain_extend_loop _,CY (A:=A.in1) (n₀:=s.heap.objs.size+1) (show A.in1.handled=none from hh) nd hl C (fun j R=>?_) e2 e3 B hn _ g.size 0 _ [] _ rfl (Nat.zero_le _)
  ⟨⟨_,_,a _ _ y,.inl rfl,.inl ⟨rfl,rfl,rfl⟩⟩,a _ _ ti,⟨_,_,_,a _ _ to⟩,h1.at fun o e=>a _ o e,h2.at fun o e=>a _ o e,h3.at fun o e=>a _ o e,U.at fun o e=>a _ o e,X.at fun o e=>a _ o e,Y.at fun o e=>a _ o e⟩
  (Nat.le_of_eq yF.symm) H rfl (fun j v h=>by simp at h) fun f J c' a0 a1 a2 a3=>?_⟩
 .rcases List.mem_cons.mp R with rfl | R
  .exact Nat.lt_succ_self _
  .refine Nat.lt_succ_of_lt (x j ?_);simp only[List.mem_cons,List.not_mem_nil,or_false] at R ⊢;rcases R with q | q | q | q | q | q<;>simp[q]
 .refine⟨rfl,hQ f J c' (fun b o hb e=>a0 b o (fun m=>?_) (a b o e)) a1 a2 a3⟩;rcases List.mem_cons.mp m with q | q
  .exact absurd (aR e) (by rw[q];exact Nat.lt_irrefl _)
  .exact hb q
end
end L2
namespace L2
open PySem PySem.Spec PyProof.Rows
noncomputable def bW:List PyData->Bool
 | []=>true
 | .tuple _::_=>true
 | _::a=>!a.isEmpty&&bW a
def ju(H:Hp)(a:Addr)(b:List V)(c:List PyData):Prop:=H a=some (.tup b)\/(∃o,H a=some (.frz o (.tup b)))/\bW c=true
theorem ju.mono{H c:Hp}{a:Addr}{d:List V}{f:List PyData}(s:bz H c)(h:ju H a d f):ju c a d f:=h.imp (fun e=>s _ _ e) fun b=>by obtain⟨⟨o,e⟩,k⟩:=b;exact⟨⟨o,s _ _ e⟩,k⟩
theorem ju.rd{H:Hp}{a:Addr}{b:List V}{c:List PyData}(h:ju H a b c):Rd H a (.tup b):=h.imp id fun z=>z.1
mutual
inductive DV (H:Hp):V->PyData->Prop where
 | non:DV H .non .none
 | bl (b:Bool):DV H (.bl b) (.bool b)
 | int (i:Int):DV H (.int i) (.int i)
 | str (x:Str):DV H (.str x) (.str x)
 | lst {a:Addr}{xs:List V}{ds:List PyData}:H a=some (.lst xs)->aC H xs ds->DV H (.ref a) (.list ds)
 | tup {a:Addr}{xs:List V}{ds:List PyData}:ju H a xs ds->aC H xs ds->DV H (.ref a) (.tuple ds)
inductive aC (H:Hp):List V->List PyData->Prop where
 | nil:aC H [] []
 | cons {x:V}{xs:List V}{d:PyData}{ds:List PyData}:DV H x d->aC H xs ds->aC H (x::xs) (d::ds)
end
section
variable{H H':Hp}
mutual
theorem DV.mono(s:bz H H'):∀{v:V}{d:PyData},DV H v d->DV H' v d
 | _,_,.non=>.non
 | _,_,.bl b=>.bl b
 | _,_,.int i=>.int i
 | _,_,.str x=>.str x
 | _,_,.lst h r=>.lst (s _ _ h) (aC.mono s r)
 | _,_,.tup h r=>.tup (h.mono s) (aC.mono s r)
theorem aC.mono(s:bz H H'):∀{vs:List V}{ds:List PyData},aC H vs ds->aC H' vs ds
 | _,_,.nil=>.nil
 | _,_,.cons h r=>.cons (DV.mono s h) (aC.mono s r)
end
theorem aC.length:∀{a:List V}{b:List PyData},aC H a b->a.length=b.length
 | _,_,.nil=>rfl
 | _,_,.cons _ r=>congrArg (·+1) r.length
theorem aC.append:∀{a b:List V}{c d:List PyData},aC H a c->aC H b d->aC H (a++b) (c++d)
 | _,_,_,_,.nil,s=>s
 | _,_,_,_,.cons h r,s=>.cons h (r.append s)
theorem aC.get:∀{a:List V}{b:List PyData}{i:Nat}{d:PyData},aC H a b->b[i]? = some d->∃v,a[i]? = some v/\DV H v d
 | _,_,_,_,.nil,e=>by simp at e
 | _,_,0,_,.cons h _,e=>by simp at e;subst e;exact⟨_,rfl,h⟩
 | _,_,i+1,d,.cons _ r,e=>by obtain⟨v,h1,h2⟩:=r.get (i:=i) (d:=d) (by simpa using e);exact⟨v,by simpa using h1,h2⟩
theorem aC.get':∀{a:List V}{b:List PyData}{i:Nat}{v:V},aC H a b->a[i]? = some v->∃d,b[i]? = some d/\DV H v d
 | _,_,_,_,.nil,e=>by simp at e
 | _,_,0,_,.cons h _,e=>by simp at e;subst e;exact⟨_,rfl,h⟩
 | _,_,i+1,d,.cons _ r,e=>by obtain⟨v,h1,h2⟩:=r.get' (i:=i) (v:=d) (by simpa using e);exact⟨v,by simpa using h1,h2⟩
theorem aC.drop:∀{a:List V}{b:List PyData}(n:Nat),aC H a b->aC H (a.drop n) (b.drop n)
 | _,_,0,r=>r
 | _,_,_+1,.nil=>.nil
 | _,_,n+1,.cons _ r=>r.drop n
theorem bC{a:Addr}{o:HO}(h:H a=none):bz H (aS H a o):=fun b u e=>by rw[bQ (fw e h)];exact e
theorem DV.tup_inv{v:V}{b:List PyData}(h:DV H v (.tuple b)):∃a c,v=.ref a/\Rd H a (.tup c)/\aC H c b:=by cases h with | tup h r=>exact⟨_,_,rfl,h.rd,r⟩
theorem DV.tup_invK{v:V}{b:List PyData}(h:DV H v (.tuple b))(d:bW b=false):∃a c,v=.ref a/\H a=some (.tup c)/\aC H c b:=by cases h with | tup h r=>exact⟨_,_,rfl,h.elim id (fun z=>by rw[d] at z;cases z.2),r⟩
theorem DV.lst_inv{v:V}{b:List PyData}(h:DV H v (.list b)):∃a c,v=.ref a/\H a=some (.lst c)/\aC H c b:=by cases h with | lst h r=>exact⟨_,_,rfl,h,r⟩
theorem DV.int_inv{v:V}{i:Int}(h:DV H v (.int i)):v=.int i:=by cases h;rfl
theorem DV.str_inv{v:V}{x:Str}(h:DV H v (.str x)):v=.str x:=by cases h;rfl
theorem DV.bl_inv{v:V}{b:Bool}(h:DV H v (.bool b)):v=.bl b:=by cases h;rfl
theorem DV.non_inv{v:V}(h:DV H v .none):v=.non:=by cases h;rfl
end
section
variable{X:Cx}{pins:List (Addr×Obj)}{Y:St}{H:Hp}{s:Shared}
mutual
theorem Inv.reads(I:Inv X pins Y H s):∀{v:V}{d:PyData}{u:Value},DV H v d->aP v u->∃as,Reads s.heap u d as
 | _,_,_,.non,r=>by cases r;exact⟨_,.none⟩
 | _,_,_,.bl b,r=>by cases r;exact⟨_,.bool b⟩
 | _,_,_,.int i,r=>by obtain⟨t,rfl⟩:=r;exact⟨_,.int i t⟩
 | _,_,_,.str x,r=>by obtain⟨t,rfl⟩:=r;exact⟨_,.str x t⟩
 | _,_,_,.lst h q,r=>by cases r;obtain⟨_,its,n,rv,e⟩:=I.hok _ _ h;obtain⟨as,z⟩:=I.readsAll q rv;exact⟨_,reads_list_at e rfl rfl (by simpa using z)⟩
 | _,_,_,.tup h q,r=>by cases r;obtain⟨_,its,rv,o,e,c,n,d⟩:=h.rd.ok I.hok;obtain⟨as,z⟩:=I.readsAll q rv;exact⟨_,reads_tuple_at e c d (by simpa using z)⟩
theorem Inv.readsAll(I:Inv X pins Y H s):∀{vs:List V}{ds:List PyData}{us:List Value},aC H vs ds->aM vs us->∃as,ReadsAll s.heap us ds as
 | _,_,_,.nil,.nil=>⟨_,.nil⟩
 | _,_,_,.cons h q,.cons r rr=>by obtain⟨as,z⟩:=I.reads h r;obtain⟨bs,z'⟩:=I.readsAll q rr;exact⟨_,.cons z z'⟩
end
end
section
variable{X:Cx}
noncomputable def qF(neg:Bool):R2:=fun x y H Q=>∃d e,DV H x d/\DV H y e/\SeqAt.shaped d=true/\SeqAt.shaped e=true/\Q (.bl (PyData.eqv d e != neg)) H
theorem uj(b:X.A.units+64<cLine):bT X (compareOp .Eq) (qF false):=by intro a s Y H x y v u Q I c f h;obtain⟨d,e,h1,h2,h3,g,q⟩:=h;obtain⟨as,i⟩:=I.reads h1 c;obtain⟨bs,j⟩:=I.reads h2 f;exact eq_dataH i j h3 g b ⟨_,H,I,by show Value.bool (PyData.eqv d e)=Value.bool (PyData.eqv d e != false);rw[Bool.bne_false],q⟩
theorem Dd(b:X.A.units+64<cLine):bT X (compareOp .NotEq) (qF true):=by intro a s Y H x y v u Q I c f h;obtain⟨d,e,h1,h2,h3,g,q⟩:=h;obtain⟨as,i⟩:=I.reads h1 c;obtain⟨bs,j⟩:=I.reads h2 f;exact ne_dataH i j h3 g b ⟨_,H,I,by show Value.bool (!PyData.eqv d e)=Value.bool (PyData.eqv d e != true);rw[Bool.bne_true],q⟩
@[simp] noncomputable def qG:PyData->String
 | .none=>"NoneType"
 | .bool _=>"bool"
 | .int _=>"int"
 | .str _=>"str"
 | .list _=>"list"
 | .tuple _=>"tuple"
 | .dict _=>"dict"
noncomputable def De:List V->Hp->VK->Prop:=fun a H Q=>∃x d n b,a=[x,.ty n]/\DV H x d/\(∀K:Frag,kitOne K (.type (qG d)) (.type n)=some b)/\Q (.bl b) H
theorem Df:dQ X (.builtin "isinstance") De:=by
 intro g s Y H k m Q I r h;obtain⟨x,d,n,b,rfl,hd,e,q⟩:=h;obtain⟨u,w,rfl,f,l⟩:=vals2 r;cases l;have fin:∀j,EP X g Y Q (.bool b) { s with toks:=j }:=fun j=>⟨.bl b,H,I.tok j,rfl,q⟩
 cases hd with
 | non=>exact kn I f .non (e _) fin
 | bl c=>exact kn I f (.bl c) (e _) fin
 | int i=>exact kn I f (.int i) (e _) fin
 | str z=>exact kn I f (.str z) (e _) fin
 | lst h r=>exact kn I f (.lst h) (e _) fin
 | @tup a k t h r=>cases(show u=Value.ref a from f);obtain⟨_,_,_,p⟩:=h.rd.ok I.hok;obtain⟨o,h1,h2,_⟩:=p;exact kia_one PySem.W.kitx_tuple I.kIn ⟨o,h1,h2⟩ (e _) (fun z=>nomatch z) fin
end
end L2
namespace L2.L3
open PySem PySem.Spec PyProof.Rows
noncomputable def aj(O:List Addr)(H:Hp):Hp:=fun b=>if b∈O then none else H b
section
variable{O O':List Addr}{H H' H1 H2:Hp}
theorem fU{b:Addr}{o:HO}(h:H b=some o)(n:b∉O):aj O H b=some o:=by unfold aj;rw[if_neg n];exact h
theorem cE{b:Addr}{o:HO}(h:aj O H b=some o):H b=some o/\b∉O:=by
 unfold aj at h
 by_cases e:b∈O
 .rw[if_pos e] at h;cases h
 .rw[if_neg e] at h;exact⟨h,e⟩
theorem gx{a:Addr}{u:HO}(h:Rd (aj O H) a u):Rd H a u/\a∉O:=by
 rcases h with h | ⟨o,h⟩
 .obtain⟨e,n⟩:=cE h;exact⟨.inl e,n⟩
 .obtain⟨e,n⟩:=cE h;exact⟨.inr ⟨o,e⟩,n⟩
theorem iF:bz (aj O H) H:=fun b o h=>(cE h).1
structure aJ (O:List Addr) (H:Hp) (O':List Addr) (H':Hp):Prop where
 keep:∀b o,b∉O->H b=some o->H' b=some o
 new:∀a∈O',a∈O\/H a=none
theorem aJ.refl:aJ O H O H:=⟨fun _ _ _ h=>h,fun _ h=>.inl h⟩
theorem aJ.trans{f g i:List Addr}{j:Hp}(a:aJ f H1 g H2)(b:aJ g H2 i j):aJ f H1 i j:=by
 have k:∀c o,c∉f->H1 c=some o->c∉g:=fun c o d e z=>(a.new c z).elim d fun n=>by rw[n] at e;cases e
 refine⟨fun c o d e=>b.keep c o (k c o d e) (a.keep c o d e),fun c h=>?_⟩
 by_cases d:c∈f
 .exact .inl d
 .refine .inr ?_;cases e:H1 c with
  | none=>rfl
  | some o=>
   rcases b.new c h with z | z
   .exact absurd z (k c o d e)
   .rw[a.keep c o d e] at z;cases z
theorem aJ.same(s:bz H H'):aJ O H O H':=⟨fun b o _ e=>s b o e,fun _ h=>.inl h⟩
theorem aJ.hid(s:aJ O H O' H'):bz (aj O H) (aj O' H'):=fun b o e=>by
 obtain⟨a,n⟩:=cE e;refine fU (s.keep b o n a) fun z=>?_;rcases s.new b z with q | q
 .exact n q
 .rw[q] at a;cases a
theorem ku(s:bz H H'):bz (aj O H) (aj O H'):=(aJ.same s).hid
theorem Dg(s:∀a∈O',a∈O):bz (aj O H) (aj O' H):=fun b o e=>by obtain⟨c,n⟩:=cE e;exact fU c fun z=>n (s b z)
end
inductive Fl where
 | d (x:PyData) | l (ds:List PyData) | m (tk:Bool) (kvs:List (PyData×PyData))
inductive Bx where
 | l (ds:List PyData) | m (tk:Bool) (kvs:List (PyData×PyData)) | o (C:Addr) (fs:List (Str×Fl)) | sd (fs:List (Str×Fl)) | ll (xs:List (List PyData)) | pr (C:Addr) (fs:List (Str×Fl)) (d:PyData)
inductive af where
 | dat (d:PyData)
 | own (io:Bool) (b:Bx)
 | scr (ns:List Int)
 | exc (c:Str)
 | vw (b:Bx)
noncomputable abbrev ag:=List (Option af)
structure Fx where
 H₀:Hp
 A₀:List Addr
 O₀:List Addr
 I₀:Nat->Addr
def fV(K:Frag)(H:Hp)(a:Addr)(c:List Int):Prop:=c.length<=63/\((∃o,H a=some (.frz o (.lst (c.map V.int))))\/
 ∃(o:Obj) (b:Array Value) (n:Nat),K.lookup a=some o/\o.cls=.type "list"/\o.dict=none/\o.data=.seq b n/\b.size<=sizeLine/\aM (c.map V.int) b.toList)
theorem fV.sq{K:Frag}{H:Hp}{a:Addr}{b:List Int}(h:fV K H a b):cA K H a (b.map V.int):=h.2.elim (fun⟨o,e⟩=>.inl (.inr ⟨o,e⟩)) .inr
theorem fV.mono{K:Frag}{H c:Hp}{a:Addr}{d:List Int}(h:fV K H a d)(k:∀o u,H a=some (.frz o u)->c a=some (.frz o u)):fV K c a d:=⟨h.1,h.2.imp (fun b=>by obtain⟨o,e⟩:=b;exact⟨o,k _ _ e⟩) id⟩
def Dh(K:Frag)(a:Addr)(c:Str)(h:Heap):Prop:=∃C o,nsIn K mainGlobals c=some (some (.ref C))/\h.get? a=some o/\o.cls=.ref C
noncomputable def el:aA->PyData
 | .inl i=>.int i
 | .inr x=>.str x
noncomputable def mG(a:List aA):PyData:=.tuple (a.map el)
noncomputable def eY(G H:Hp)(a:Addr):Bool->List (PyData×PyData)->Prop
 | false,b=>∃c:List (aA×V),H a=some (.dK c)/\Paired (fun(p:aA×V) (q:PyData×PyData)=>el p.1=q.1/\DV G p.2 q.2) c b
 | true,b=>∃c:List (List aA×V),H a=some (.dT c)/\Paired (fun(p:List aA×V) (q:PyData×PyData)=>mG p.1=q.1/\DV G p.2 q.2) c b
noncomputable def jv(G H:Hp)(v:V):Fl->List Addr->Prop
 | .d x,b=>b=[]/\DV G v x
 | .l f,b=>∃a e,v=.ref a/\b=[a]/\H a=some (.lst e)/\aC G e f
 | .m g c,b=>∃a,v=.ref a/\b=[a]/\eY G H a g c
inductive bH (G H:Hp):List (Str×V)->List (Str×Fl)->List (List Addr)->Prop where
 | nil:bH G H [] [] []
 | cons {n:Str}{v:V}{f:Fl}{fp:List Addr}{gs:List (Str×V)}{fs:List (Str×Fl)}{fps:List (List Addr)}:jv G H v f fp->bH G H gs fs fps->bH G H ((n,v)::gs) ((n,f)::fs) (fp::fps)
def mH(G H:Hp)(b:Addr)(c:List PyData):Prop:=∃a,H b=some (.lst a)/\aC G a c
noncomputable def eO(G H:Hp)(a:Addr):Bx->List Addr->Prop
 | .l j,c=>c=[a]/\∃g,H a=some (.lst g)/\aC G g j
 | .m k i,c=>c=[a]/\eY G H a k i
 | .o C fs,c=>∃f e b,c=a::f::b.flatten/\H a=some (.ins C f e)/\H f=some (.own a)/\bH G H e fs b
 | .sd fs,c=>∃e b,c=a::b.flatten/\H a=some (.dK (e.map fun p=>(Sum.inr p.1,p.2)))/\bH G H e fs b
 | .ll g,c=>∃bs:List Addr,c=a::bs/\H a=some (.lst (bs.map V.ref))/\Paired (mH G H) bs g
 | .pr C fs d,c=>∃h v f e b,G a=some (.tup [.ref h,v])/\c=h::f::b.flatten/\H h=some (.ins C f e)/\H f=some (.own h)/\bH G H e fs b/\DV G v d
noncomputable def Mv:HO->Prop
 | .lst _=>True
 | .dK _=>True
 | .dT _=>True
 | .ins _ _ _=>True
 | .own _=>True
 | _=>False
noncomputable def cM(K:Frag)(H:Hp)(O:List Addr)(v:V):af->List Addr->Prop
 | .dat d,_=>DV (aj O H) v d
 | .own _ b,e=>∃a,v=.ref a/\eO (aj O H) H a b e
 | .scr ns,_=>∃a,v=.ref a/\fV K H a ns
 | .exc c,_=>∃a φ,v=.ref a/\aj O H a=some (.ext φ)/\∀h,φ h->Dh K a c h
 | .vw b,_=>∃a e,v=.ref a/\eO (aj O H) (aj O H) a b e
section
variable{G G' H H':Hp}{a:Addr}{v:V}{fp:List Addr}
theorem eY.keep{c:Bool}{b:List (PyData×PyData)}(h:eY G H a c b)(k:H' a=H a)(g:bz G G'):eY G' H' a c b:=by
 cases c with
 | false=>obtain⟨d,e,p⟩:=h;exact⟨d,k.trans e,Paired.mapP p fun _ _ z=>⟨z.1,DV.mono g z.2⟩⟩
 | true=>obtain⟨d,e,p⟩:=h;exact⟨d,k.trans e,Paired.mapP p fun _ _ z=>⟨z.1,DV.mono g z.2⟩⟩
theorem eY.live{c:Bool}{b:List (PyData×PyData)}(h:eY G H a c b):∃o,H a=some o/\Mv o:=by
 cases c with
 | false=>obtain⟨d,e,p⟩:=h;exact⟨_,e,trivial⟩
 | true=>obtain⟨d,e,p⟩:=h;exact⟨_,e,trivial⟩
theorem jv.keep{f:Fl}(h:jv G H v f fp)(k:∀c∈fp,H' c=H c)(g:bz G G'):jv G' H' v f fp:=by
 cases f with
 | d x=>exact⟨h.1,DV.mono g h.2⟩
 | l p=>obtain⟨a,j,e,b,i,n⟩:=h;exact⟨a,j,e,b,(k a (by simp[b])).trans i,aC.mono g n⟩
 | m q o=>obtain⟨a,e,b,i⟩:=h;exact⟨a,e,b,i.keep (k a (by simp[b])) g⟩
theorem jv.live{f:Fl}(h:jv G H v f fp):∀c∈fp,∃o,H c=some o/\Mv o:=by
 cases f with
 | d x=>obtain⟨rfl,_⟩:=h;intro c b;cases b
 | l j=>obtain⟨a,k,g,rfl,e,n⟩:=h;intro c b;obtain rfl:=List.mem_singleton.mp b;exact⟨_,e,trivial⟩
 | m p i=>obtain⟨a,g,rfl,e⟩:=h;intro c b;obtain rfl:=List.mem_singleton.mp b;exact e.live
theorem bH.keep{f:List (Str×V)}{fs:List (Str×Fl)}{d:List (List Addr)}(h:bH G H f fs d)(k:∀c∈d.flatten,H' c=H c)(g:bz G G'):bH G' H' f fs d:=by
 induction h with
 | nil=>exact .nil
 | cons a b i=>exact .cons (a.keep (fun c e=>k c (by simp[e])) g) (i fun c e=>k c (by rw[List.flatten_cons];exact be _ e))
theorem bH.live{f:List (Str×V)}{fs:List (Str×Fl)}{e:List (List Addr)}(h:bH G H f fs e):∀c∈e.flatten,∃o,H c=some o/\Mv o:=by
 induction h with
 | nil=>intro c d;cases d
 | cons a b g=>
  intro c d;rw[List.flatten_cons] at d;rcases List.mem_append.mp d with d | d
  .exact a.live c d
  .exact g c d
theorem Lls.keep{bs:List Addr}{f:List (List PyData)}(h:Paired (mH G H) bs f)(k:∀c∈bs,H' c=H c)(g:bz G G'):Paired (mH G' H') bs f:=by
 induction h with
 | nil=>exact .nil
 | cons a b i=>obtain⟨j,e,d⟩:=a;exact .cons ⟨j,(k _ List.mem_cons_self).trans e,aC.mono g d⟩ (i fun c l=>k c (bh _ l))
theorem Lls.live{bs:List Addr}{g:List (List PyData)}(h:Paired (mH G H) bs g):∀c∈bs,∃o,H c=some o/\Mv o:=by
 induction h with
 | nil=>intro c f;cases f
 | cons a b i=>
  intro c f;obtain⟨j,e,d⟩:=a;rcases List.mem_cons.mp f with rfl | f
  .exact⟨_,e,trivial⟩
  .exact i c f
theorem eO.keep{b:Bx}(h:eO G H a b fp)(k:∀c∈fp,H' c=H c)(g:bz G G'):eO G' H' a b fp:=by
 cases b with
 | l y=>obtain⟨rfl,s,e,d⟩:=h;exact⟨rfl,s,(k a (by simp)).trans e,aC.mono g d⟩
 | m z u=>obtain⟨rfl,d⟩:=h;exact⟨rfl,d.keep (k a (by simp)) g⟩
 | o C fs=>obtain⟨p,q,i,rfl,j,r,f⟩:=h;exact⟨p,q,i,rfl,(k a (by simp)).trans j,(k p (by simp)).trans r,f.keep (fun c n=>k c (by simp[n])) g⟩
 | sd fs=>obtain⟨q,i,rfl,j,f⟩:=h;exact⟨q,i,rfl,(k a (by simp)).trans j,f.keep (fun c n=>k c (by simp[n])) g⟩
 | ll s=>obtain⟨bs,rfl,j,f⟩:=h;exact⟨bs,rfl,(k a (by simp)).trans j,Lls.keep f (fun c n=>k c (by simp[n])) g⟩
 | pr C fs d=>obtain⟨t,v,p,q,i,w,rfl,j,r,f,x⟩:=h;exact⟨t,v,p,q,i,g _ _ w,rfl,(k t (by simp)).trans j,(k p (by simp)).trans r,f.keep (fun c n=>k c (by simp[n])) g,DV.mono g x⟩
theorem eO.live{b:Bx}(h:eO G H a b fp):∀c∈fp,∃o,H c=some o/\Mv o:=by
 cases b with
 | l s=>obtain⟨rfl,p,e,d⟩:=h;intro c g;obtain rfl:=List.mem_singleton.mp g;exact⟨_,e,trivial⟩
 | m t q=>obtain⟨rfl,d⟩:=h;intro c g;obtain rfl:=List.mem_singleton.mp g;exact d.live
 | o C fs=>
  obtain⟨r,n,j,rfl,i,k,f⟩:=h;intro c g;rcases List.mem_cons.mp g with rfl | g
  .exact⟨_,i,trivial⟩
  .rcases List.mem_cons.mp g with rfl | g
   .exact⟨_,k,trivial⟩
   .exact f.live c g
 | sd fs=>
  obtain⟨n,j,rfl,i,f⟩:=h;intro c g;rcases List.mem_cons.mp g with rfl | g
  .exact⟨_,i,trivial⟩
  .exact f.live c g
 | ll p=>
  obtain⟨bs,rfl,i,f⟩:=h;intro c g;rcases List.mem_cons.mp g with rfl | g
  .exact⟨_,i,trivial⟩
  .exact Lls.live f c g
 | pr C fs d=>
  obtain⟨u,v,r,n,j,w,rfl,i,k,f,x⟩:=h;intro c g;rcases List.mem_cons.mp g with rfl | g
  .exact⟨_,i,trivial⟩
  .rcases List.mem_cons.mp g with rfl | g
   .exact⟨_,k,trivial⟩
   .exact f.live c g
end
theorem cM.keep{K:Frag}{H g:Hp}{O l:List Addr}{v:V}{c:af}{fp:List Addr}(h:cM K H O v c fp)(s:aJ O H l g)(k:∀b∈fp,g b=H b)(z:∀b o u,H b=some (.frz o u)->g b=some (.frz o u)):cM K g l v c fp:=by
 cases c with
 | dat d=>exact DV.mono s.hid h
 | own io b=>obtain⟨a,e,q⟩:=h;exact⟨a,e,q.keep k s.hid⟩
 | scr ns=>obtain⟨a,f,q⟩:=h;exact⟨a,f,q.mono fun o u w=>z _ _ _ w⟩
 | exc c=>obtain⟨a,φ,f,i,q⟩:=h;exact⟨a,φ,f,s.hid _ _ i,q⟩
 | vw b=>obtain⟨a,j,f,q⟩:=h;exact⟨a,j,f,q.keep (fun c m=>by obtain⟨o,i,_⟩:=q.live c m;rw[i];exact s.hid _ _ i) s.hid⟩
structure bS (K:Frag) (F:Fx) (H:Hp) (Y:St) (U:ag) (W:List (List Addr)):Prop where
 at_:∀(i:Nat) (c:af),U[i]? = some (some c)->∃v fp,Y[i]? = some (some v)/\W[i]? = some fp/\cM K H (W.flatten++F.O₀) v c fp
 nd:(W.flatten++F.O₀).Nodup
 kept:∀b o,b∉F.A₀->F.H₀ b=some o->H b=some o
 new:∀a∈W.flatten,a∈F.A₀\/F.H₀ a=none
 live:∀a∈W.flatten++F.O₀,∃o,H a=some o/\Mv o
 len:U.length=Y.length
 lw:W.length=U.length
 io:∀(i:Nat) (b:Bx),U[i]? = some (some (.own true b))->Y[i]? = some (some (.ref (F.I₀ i)))
def au(K:Frag)(F:Fx)(H:Hp)(Y:St)(U:ag)(O:List Addr):Prop:=∃W,bS K F H Y U W/\O=W.flatten++F.O₀
theorem gy{α:Type}{l:List α}{i j:Nat}{x y:α}(e:(l.set i x)[j]? = some y):(j=i/\y=x/\i<l.length)\/(j≠i/\l[j]? = some y):=by
 by_cases b:j=i
 .subst b;have a:j<l.length:=by
   have:=(List.getElem?_eq_some_iff.mp e).1
   rwa [List.length_set] at this
  rw[List.getElem?_set_self a] at e;exact .inl ⟨rfl,(Option.some.inj e).symm,a⟩
 .rw[List.getElem?_set_ne (Ne.symm b)] at e;exact .inr ⟨b,e⟩
theorem eZ{α:Type}{W:List (List α)}{i:Nat}{c:List α}{a:α}(h:a∈(W.set i c).flatten):a∈c\/∃j l,j≠i/\W[j]? = some l/\a∈l:=by
 obtain⟨l,f,d⟩:=List.mem_flatten.mp h;obtain⟨j,g⟩:=List.getElem?_of_mem f;rcases gy g with⟨_,rfl,_⟩ | ⟨b,e⟩
 .exact .inl d
 .exact .inr ⟨j,l,b,e,d⟩
theorem bZ{α:Type}{W:List (List α)}{j:Nat}{l:List α}{a:α}(h:W[j]? = some l)(b:a∈l):a∈W.flatten:=List.mem_flatten.mpr ⟨l,List.mem_of_getElem? h,b⟩
theorem Di{α:Type}{W:List (List α)}{i j:Nat}{b l:List α}{a:α}(c:j≠i)(h:W[j]? = some l)(d:a∈l):a∈(W.set i b).flatten:=bZ (j:=j) (by rw[List.getElem?_set_ne (Ne.symm c)];exact h) d
theorem Dj{α:Type}{W:List (List α)}{i:Nat}{b:List α}{a:α}(c:i<W.length)(d:a∈b):a∈(W.set i b).flatten:=bZ (j:=i) (List.getElem?_set_self c) d
theorem kw{α:Type}:∀{W:List (List α)}{i j:Nat}{l m:List α}{a:α},W.flatten.Nodup->W[i]? = some l->W[j]? = some m->i≠j->a∈l->a∉m
 | [],_,_,_,_,_,_,h,_,_,_=>by simp at h
 | w::W,0,0,_,_,_,_,_,_,d,_=>absurd rfl d
 | w::W,0,j+1,l,m,a,nd,h1,h2,_,b=>fun c=>by
  have e:w=l:=by simpa using h1
  subst e;rw[List.flatten_cons] at nd;exact(List.nodup_append.mp nd).2.2 a b a (bZ (j:=j) (by simpa using h2) c) rfl
 | w::W,i+1,0,l,m,a,nd,h1,h2,_,b=>fun c=>by
  have e:w=m:=by simpa using h2
  subst e;rw[List.flatten_cons] at nd;exact(List.nodup_append.mp nd).2.2 a c a (bZ (j:=i) (by simpa using h1) b) rfl
 | w::W,i+1,j+1,l,m,a,nd,h1,h2,d,b=>kw (W:=W) (i:=i) (j:=j) (by rw[List.flatten_cons] at nd;exact(List.nodup_append.mp nd).2.1) (by simpa using h1) (by simpa using h2) (by lia) b
theorem mI{α:Type}[DecidableEq α]:∀{W:List (List α)}{i:Nat}{fp O:List α},(W.flatten++O).Nodup->fp.Nodup->(∀a∈fp,(∀j l,j≠i->W[j]? = some l->a∉l)/\a∉O)->((W.set i fp).flatten++O).Nodup
 | [],i,fp,O,h,_,_=>by simpa using h
 | w::W,0,fp,O,h,f,hd=>by
  rw[List.set_cons_zero,List.flatten_cons,List.append_assoc];rw[List.flatten_cons,List.append_assoc] at h;refine List.nodup_append.mpr ⟨f,(List.nodup_append.mp h).2.1,fun a d b c e=>?_⟩;subst e;rcases List.mem_append.mp c with c | c
  .obtain⟨l,g,k⟩:=List.mem_flatten.mp c;obtain⟨j,m⟩:=List.getElem?_of_mem g;exact(hd a d).1 (j+1) l (by lia) (by simpa using m) k
  .exact(hd a d).2 c
 | w::W,i+1,fp,O,h,f,hd=>by
  rw[List.set_cons_succ,List.flatten_cons,List.append_assoc];rw[List.flatten_cons,List.append_assoc] at h;obtain⟨o,h2,h3⟩:=List.nodup_append.mp h;have n:=mI (W:=W) (i:=i) (fp:=fp) (O:=O) h2 f fun a d=>⟨fun j l m e=>(hd a d).1 (j+1) l (by lia) (by simpa using e),(hd a d).2⟩
  refine List.nodup_append.mpr ⟨o,n,fun a d b c e=>?_⟩;subst e;rcases List.mem_append.mp c with c | c
  .rcases eZ c with c | ⟨j,l,m,e,g⟩
   .exact(hd a c).1 0 w (by lia) (by simp) d
   .exact h3 a d a (bu _ (bZ e g)) rfl
  .exact h3 a d a (be _ c) rfl
section
variable{K:Frag}{F:Fx}{H H':Hp}{Y:St}{U:ag}{O O':List Addr}{W:List (List Addr)}
theorem bS.nofrz(st:bS K F H Y U W){b:Addr}(h:b∈W.flatten++F.O₀){o:Obj}{u:HO}:H b≠some (.frz o u):=fun z=>by obtain⟨a,e,m⟩:=st.live b h;rw[z] at e;cases e;exact m
theorem bS.put(st:bS K F H Y U W){i:Nat}{v:V}{c:af}{fp:List Addr}(r:i<U.length)
  (keep:∀j l b,j≠i->W[j]? = some l->b∈l->H' b=H b) (f:∀b∈F.O₀,H' b=H b) (frz:∀b o,b∉W.flatten++F.O₀->H b=some o->H' b=some o)
  (D:fp.Nodup) (ap:∀a∈fp,(∀j l,j≠i->W[j]? = some l->a∉l)/\a∉F.O₀) (new:∀a∈fp,a∈W.flatten\/H a=none) (s:∀a∈fp,∃o,H' a=some o/\Mv o)
  (A:aJ (W.flatten++F.O₀) H ((W.set i fp).flatten++F.O₀) H'->cM K H' ((W.set i fp).flatten++F.O₀) v c fp) (t:∀b,c=.own true b->v=.ref (F.I₀ i)) :
  bS K F H' (Y.set i (some v)) (U.set i (some c)) (W.set i fp)/\aJ (W.flatten++F.O₀) H ((W.set i fp).flatten++F.O₀) H':=by
 have k:aJ (W.flatten++F.O₀) H ((W.set i fp).flatten++F.O₀) H':=⟨frz,fun a h=>by
  rcases List.mem_append.mp h with h | h
  .rcases eZ h with h | ⟨j,l,_,e,n⟩
   .exact(new a h).imp (bu _) id
   .exact .inl (bu _ (bZ e n))
  .exact .inl (be _ h)⟩
 have B:∀b o u,H b=some (.frz o u)->H' b=some (.frz o u):=fun b o u e=>frz b _ (fun z=>st.nofrz z e) e;have x:i<W.length:=by rw[st.lw];exact r
 refine⟨⟨fun j d e=>?_,mI st.nd D ap,fun b o p e=>?_,fun a h=>?_,fun a h=>?_,by rw[List.length_set,List.length_set,st.len],by rw[List.length_set,List.length_set,st.lw],fun j b e=>?_⟩,k⟩
 .rcases gy e with⟨rfl,g,_⟩ | ⟨m,g⟩
  .cases g;exact⟨v,fp,List.getElem?_set_self (by rw[<-st.len];exact r),List.getElem?_set_self x,A k⟩
  .obtain⟨w,l,h1,h2,h3⟩:=st.at_ j d g;exact⟨w,l,by rw[List.getElem?_set_ne (Ne.symm m)];exact h1,by rw[List.getElem?_set_ne (Ne.symm m)];exact h2,h3.keep k (fun b C=>keep j l b m h2 C) B⟩
 .have g:=st.kept b o p e
  by_cases y:b∈F.O₀
  .rw[f b y];exact g
  .refine frz b o (fun z=>?_) g;rcases List.mem_append.mp z with z | z
   .rcases st.new b z with q | q
    .exact p q
    .rw[q] at e;cases e
   .exact y z
 .rcases eZ h with h | ⟨j,l,_,e,n⟩
  .rcases new a h with q | q
   .exact st.new a q
   .by_cases p:a∈F.A₀
    .exact .inl p
    .refine .inr ?_;cases e:F.H₀ a with
     | none=>rfl
     | some o=>rw[st.kept a o p e] at q;cases q
  .exact st.new a (bZ e n)
 .rcases List.mem_append.mp h with h | h
  .rcases eZ h with h | ⟨j,l,m,e,n⟩
   .exact s a h
   .obtain⟨o,h1,h2⟩:=st.live a (bu _ (bZ e n));exact⟨o,by rw[keep j l a m e n];exact h1,h2⟩
  .obtain⟨o,h1,h2⟩:=st.live a (be _ h);exact⟨o,by rw[f a h];exact h1,h2⟩
 .rcases gy e with⟨rfl,g,_⟩ | ⟨m,g⟩
  .rw[List.getElem?_set_self (by rw[<-st.len];exact r),t b (Option.some.inj g).symm]
  .rw[List.getElem?_set_ne (Ne.symm m)];exact st.io j b g
theorem bS.grow(st:bS K F H Y U W)(s:bz H H'):bS K F H' Y U W where
 at_:=fun i c e=>let⟨v,fp,h1,h2,h3⟩:=st.at_ i c e;⟨v,fp,h1,h2,h3.keep (.same s) (fun b hb=>by
  obtain⟨o,e1,_⟩:=st.live b (bu _ (bZ h2 hb));rw[e1];exact s _ _ e1) fun b o u e=>s _ _ e⟩
 nd:=st.nd
 kept:=fun b o n e=>s b o (st.kept b o n e)
 new:=st.new
 live:=fun a h=>let⟨o,e,m⟩:=st.live a h;⟨o,s _ _ e,m⟩
 len:=st.len
 lw:=st.lw
 io:=st.io
theorem au.grow(st:au K F H Y U O)(s:bz H H'):au K F H' Y U O:=let⟨W,h,e⟩:=st;⟨W,h.grow s,e⟩
theorem au.nofree(st:au K F H Y U O):∀p,H p=none->p∉O:=fun p a z=>by obtain⟨W,h,rfl⟩:=st;obtain⟨o,e,_⟩:=h.live p z;rw[a] at e;cases e
theorem au.dat(st:au K F H Y U O){i:Nat}{d:PyData}(e:U[i]? = some (some (.dat d))):∃v,Y[i]? = some (some v)/\DV (aj O H) v d:=by obtain⟨W,h,rfl⟩:=st;obtain⟨v,a,h1,h2,h3⟩:=h.at_ i _ e;exact⟨v,h1,h3⟩
theorem au.scr(st:au K F H Y U O){i:Nat}{b:List Int}(e:U[i]? = some (some (.scr b))):∃a,Y[i]? = some (some (.ref a))/\fV K H a b:=by obtain⟨W,h,rfl⟩:=st;obtain⟨v,c,h1,h2,a,rfl,h3⟩:=h.at_ i _ e;exact⟨a,h1,h3⟩
theorem au.set(st:au K F H Y U O){i:Nat}{v:V}{d:PyData}(h:DV (aj O H) v d):au K F H (Y.set i (some v)) (U.set i (some (.dat d))) O:=by
 obtain⟨W,st,rfl⟩:=st;refine⟨W,⟨fun j c e=>?_,st.nd,st.kept,st.new,st.live,by rw[List.length_set,List.length_set,st.len],by rw[List.length_set,st.lw],fun j b e=>?_⟩,rfl⟩
 rotate_left
 .rcases gy e with⟨rfl,a,_⟩ | ⟨g,a⟩
  .cases a
  .rw[List.getElem?_set_ne (Ne.symm g)];exact st.io j b a
 rcases gy e with⟨rfl,a,f⟩ | ⟨g,a⟩
 .cases a;obtain⟨k,m⟩:∃k,W[j]? = some k:=⟨W[j]'(by rw[st.lw];exact f),List.getElem?_eq_getElem _⟩
  exact⟨v,k,List.getElem?_set_self (by rw[<-st.len];exact f),m,h⟩
 .obtain⟨w,l,h1,h2,h3⟩:=st.at_ j c a;exact⟨w,l,by rw[List.getElem?_set_ne (Ne.symm g)];exact h1,h2,h3⟩
theorem au.box(st:au K F H Y U O){i:Nat}{io:Bool}{b:Bx}(e:U[i]? = some (some (.own io b))):∃a m,Y[i]? = some (some (.ref a))/\eO (aj O H) H a b m/\(∀c∈m,c∈O)/\
  ∀(H':Hp) (t:Bx) (f:List Addr),(∀c o,c∉m->H c=some o->H' c=some o)->f.Nodup->(∀c∈f,c∈m\/H c=none)->(∀G,(∀O',aJ O H O' H'->G=aj O' H'->(∀c∈f,c∈O')->bz (aj O H) G/\eO G H' a t f))->
   ∃O',au K F H' Y (U.set i (some (.own io t))) O'/\aJ O H O' H'/\(∀c∈O',c∈f\/c∈O):=by
 obtain⟨W,st,rfl⟩:=st;obtain⟨v,m,h1,h2,a,rfl,h3⟩:=st.at_ i _ e;have A:i<U.length:=(List.getElem?_eq_some_iff.mp e).1;have u:i<W.length:=by rw[st.lw];exact A
 refine⟨a,m,h1,h3,fun c d=>bu _ (bZ h2 d),fun H' t f keep N w D=>?_⟩;have p:W.flatten.Nodup:=(List.nodup_append.mp st.nd).1;have B:∀c∈m,c∉F.O₀:=fun c d z=>(List.nodup_append.mp st.nd).2.2 c (bZ h2 d) c z rfl;have E:∀j l c,j≠i->W[j]? = some l->c∈l->H' c=H c:=fun j l c n k d=>by obtain⟨o,g,_⟩:=st.live c (bu _ (bZ k d));rw[g];exact keep c o (fun z=>kw p k h2 n d z) g
 have I:∀c∈F.O₀,H' c=H c:=fun c d=>by obtain⟨o,g,_⟩:=st.live c (be _ d);rw[g];exact keep c o (fun z=>B c z d) g
 have ap:∀c∈f,(∀j l,j≠i->W[j]? = some l->c∉l)/\c∉F.O₀:=fun c d=>by
  rcases w c d with q | q
  .exact⟨fun j l n k z=>kw p h2 k (Ne.symm n) q z,B c q⟩
  .refine⟨fun j l _ k z=>?_,fun z=>?_⟩
   .obtain⟨o,g,_⟩:=st.live c (bu _ (bZ k z));rw[q] at g;cases g
   .obtain⟨o,g,_⟩:=st.live c (be _ z);rw[q] at g;cases g
 have frz:∀c o,c∉W.flatten++F.O₀->H c=some o->H' c=some o:=fun c o d J=>keep c o (fun z=>d (bu _ (bZ h2 z))) J;have x:aJ (W.flatten++F.O₀) H ((W.set i f).flatten++F.O₀) H':=⟨frz,fun c h=>by
  rcases List.mem_append.mp h with h | h
  .rcases eZ h with h | ⟨j,l,_,k,y⟩
   .exact(w c h).imp (fun z=>bu _ (bZ h2 z)) id
   .exact .inl (bu _ (bZ k y))
  .exact .inl (be _ h)⟩
 have r:∀c∈f,c∈(W.set i f).flatten++F.O₀:=fun c d=>bu _ (Dj u d);have s:=(D _ _ x rfl r).2;obtain⟨C,L⟩:=st.put (H':=H') (i:=i) (v:=.ref a) (c:=.own io t) (fp:=f) A E I frz N ap (fun c d=>(w c d).imp (fun z=>bZ h2 z) id) (fun c d=>s.live c d) (fun _=>⟨a,rfl,s⟩) (fun Q z=>by cases z;have:=st.io i b e;rw[h1] at this;exact(Option.some.inj (Option.some.inj this)));have M:Y.set i (some (.ref a))=Y:=by
  apply List.ext_getElem?;intro j
  by_cases n:j=i
  .subst n;rw[List.getElem?_set_self (List.getElem?_eq_some_iff.mp h1).1,h1]
  .rw[List.getElem?_set_ne (Ne.symm n)]
 rw[M] at C;refine⟨_,⟨_,C,rfl⟩,L,fun c d=>?_⟩;rcases List.mem_append.mp d with d | d
 .rcases eZ d with d | ⟨j,l,_,k,y⟩
  .exact .inl d
  .exact .inr (bu _ (bZ k y))
 .exact .inr (be _ d)
theorem au.freeze(st:au K F H Y U O){i:Nat}{b:List PyData}(e:U[i]? = some (some (.own false (.l b)))) :
  ∃v O',Y[i]? = some (some v)/\au K F H Y (U.set i (some (.dat (.list b)))) O'/\aJ O H O' H/\DV (aj O' H) v (.list b):=by
 obtain⟨W,st,rfl⟩:=st;obtain⟨v,u,h1,h2,a,rfl,rfl,w,h3,o⟩:=st.at_ i _ e;have p:i<U.length:=(List.getElem?_eq_some_iff.mp e).1;have f:W.flatten.Nodup:=(List.nodup_append.mp st.nd).1;have g:a∉(W.set i []).flatten++F.O₀:=fun z=>by
  rcases List.mem_append.mp z with z | z
  .rcases eZ z with z | ⟨j,l,d,q,r⟩
   .cases z
   .exact kw f h2 q (Ne.symm d) List.mem_cons_self r
  .exact(List.nodup_append.mp st.nd).2.2 a (bZ h2 List.mem_cons_self) a z rfl
 have k:aJ (W.flatten++F.O₀) H ((W.set i []).flatten++F.O₀) H->DV (aj ((W.set i []).flatten++F.O₀) H) (.ref a) (.list b):=fun s=>.lst (fU h3 g) (aC.mono s.hid o);obtain⟨m,n⟩:=st.put (H':=H) (i:=i) (v:=.ref a) (c:=.dat (.list b)) (fp:=[]) p (fun _ _ _ _ _ _=>rfl) (fun _ _=>rfl) (fun _ _ _ e=>e) List.nodup_nil (fun a h=>by cases h) (fun a h=>by cases h) (fun a h=>by cases h) (fun s=>k s) (fun _ z=>by cases z);have t:Y.set i (some (.ref a))=Y:=by
  apply List.ext_getElem?;intro j
  by_cases d:j=i
  .subst d;rw[List.getElem?_set_self (List.getElem?_eq_some_iff.mp h1).1,h1]
  .rw[List.getElem?_set_ne (Ne.symm d)]
 rw[t] at m;exact⟨_,_,h1,⟨_,m,rfl⟩,n,k n⟩
end
abbrev DT:=ag->(PyData->ag->Prop)->Prop
def Mn(t:DT):Prop:=∀U Q a,(∀d b,Q d b->a d b)->t U Q->t U a
noncomputable def fz(K:Frag)(F:Fx)(t:DT):TE:=fun Y H Q=>∃U O,au K F H Y U O/\t U fun d c=>∀v a b,au K F a Y c b->aJ O H b a->DV (aj b a) v d->Q v a
structure DE (X:Cx) (F:Fx) (e:Expr) (t:DT):Prop where
 mn:Mn t
 pe:PE X e (fz X.K F t)
theorem _root_.L2.PE.imp{X:Cx}{e:Expr}{t t':TE}(h:PE X e t)(k:∀Y H Q,t' Y H Q->t Y H Q):PE X e t':=fun a s Y H Q I q=>h a s Y H Q I (k Y H Q q)
theorem _root_.L2.PT.imp{X:Cx}{e:Expr}{t t':TT}(h:PT X e t)(k:∀Y H Q,t' Y H Q->t Y H Q):PT X e t':=fun a s Y H Q I q=>h a s Y H Q I (k Y H Q q)
theorem _root_.L2.PS.imp{X:Cx}{e:Stmt}{t t':TS}(h:PS X e t)(k:∀D Y H,t' D Y H->t D Y H):PS X e t':=fun a s Y H D I q=>h a s Y H D I (k D Y H q)
theorem _root_.L2.PSs.imp{X:Cx}{e:List Stmt}{t t':TS}(h:PSs X e t)(k:∀D Y H,t' D Y H->t D Y H):PSs X e t':=fun a s Y H D I q=>h a s Y H D I (k D Y H q)
section
variable{X:Cx}{F:Fx}{a b e:Expr}{ta tb:DT}{pos:Pos}
noncomputable def dC(d:PyData):DT:=fun U Q=>Q d U
noncomputable def dV(i:Nat):DT:=fun U Q=>(∃d,U[i]? = some (some (.dat d))/\Q d U)\/∃c,U[i]? = some (some (.own false (.l c)))/\Q (.list c) (U.set i (some (.dat (.list c))))
theorem Dk{d:PyData}:Mn (dC d):=fun _ _ _ h q=>h _ _ q
theorem mJ{d:PyData}{v:V}(h:PE X e (tC v))(hd:∀H,DV H v d):DE X F e (dC d):=
 ⟨Dk,h.imp fun Y H Q c=>by obtain⟨U,O,st,q⟩:=c;exact q v H O st .refl (hd _)⟩
theorem aL{i j}:DE X F (.Constant (.int i) j pos) (dC (.int i)):=mJ tq fun _=>.int i
theorem iG{i j}:DE X F (.Constant (.bool i) j pos) (dC (.bool i)):=mJ zT fun _=>.bl i
theorem uk{j}:DE X F (.Constant .none j pos) (dC .none):=mJ zU fun _=>.non
theorem um(i:Nat){x:Str}(h:PE X (.Name x pos) (cV i)):DE X F (.Name x pos) (dV i):=
 ⟨fun _ _ _ k q=>q.imp (fun c=>by obtain⟨d,e,q⟩:=c;exact⟨d,e,k _ _ q⟩) fun f=>by obtain⟨d,e,q⟩:=f;exact⟨d,e,k _ _ q⟩,h.imp fun Y H Q g=>by
  obtain⟨U,O,st,q⟩:=g;rcases q with⟨d,e,q⟩ | ⟨m,e,q⟩
  .obtain⟨v,h1,h2⟩:=st.dat e;exact⟨v,h1,q v H O st .refl h2⟩
  .obtain⟨v,j,h1,h2,h3,l⟩:=st.freeze e;exact⟨v,h1,q v H j h2 h3 l⟩⟩
abbrev D2:=PyData->PyData->(PyData->Prop)->Prop
noncomputable def cu(f:D2)(ta tb:DT):DT:=fun U Q=>ta U fun x c=>tb c fun y g=>f x y fun d=>Q d g
structure dJ (r:R2) (f:D2):Prop where
 mn:∀x y Q Q',(∀d,Q d->Q' d)->f x y Q->f x y Q'
 ok:∀(O:List Addr) (H:Hp) (u v:V) (x y:PyData) (Q:VK),(∀p,H p=none->p∉O)->DV (aj O H) u x->DV (aj O H) v y->f x y (fun d=>∀w H',bz H H'->DV (aj O H') w d->Q w H')->r u v H Q
theorem mK{r:R2}{f:D2}{ta tb:DT}(o:dJ r f)(l:Mn ta)(m:Mn tb){K:Frag}:∀Y H Q,fz K F (cu f ta tb) Y H Q->kl r (fz K F ta) (fz K F tb) Y H Q:=fun Y H Q c=>by obtain⟨U,O,st,q⟩:=c;refine⟨U,O,st,l _ _ _ (fun x n p v1 G s h t u=>?_) q⟩;refine⟨n,s,h,m _ _ _ (fun y I v z A i g j B=>?_) p⟩;refine o.ok i A v1 z x y Q g.nofree (DV.mono j.hid u) B (o.mn _ _ _ _ (fun d C w D k E=>?_) v);exact C w D i (g.grow k) (t.trans (j.trans (.same k))) E
theorem kz{r:R2}{f:D2}(o:dJ r f)(c:Mn ta)(d:Mn tb):Mn (cu f ta tb):=fun _ _ _ k q=>c _ _ _ (fun _ _ g=>d _ _ _ (fun _ _ h=>o.mn _ _ _ _ (fun _ i=>k _ _ i) h) g) q
theorem gY{op:Operator}{r:R2}{f:D2}(g:bT X (binaryOp op) r)(o:dJ r f)(c:DE X F a ta)(d:DE X F b tb):DE X F (.BinOp a op b pos) (cu f ta tb):=
 ⟨kz o c.mn d.mn,(AY g c.pe d.pe).imp (mK o c.mn d.mn)⟩
theorem mL{op:CmpOp}{r:R2}{f:D2}(g:bT X (compareOp op) r)(o:dJ r f)(c:DE X F a ta)(d:DE X F b tb)(h:behindInMarks op b=false):DE X F (.Compare a [op] [b] pos) (cu f ta tb):=
 ⟨kz o c.mn d.mn,(Bk g c.pe d.pe h).imp (mK o c.mn d.mn)⟩
theorem Dl{r:R2}{f:D2}(g:gu X r)(o:dJ r f)(c:DE X F a ta)(d:DE X F b tb)(h:my b):DE X F (.Subscript a b pos) (cu f ta tb):=
 ⟨kz o c.mn d.mn,(tP g c.pe d.pe h).imp (mK o c.mn d.mn)⟩
noncomputable def fI(C:Int->Int->Prop)(g:Int->Int->PyData):D2:=fun x y Q=>∃i j,x=.int i/\y=.int j/\C i j/\Q (g i j)
theorem qH{C:Int->Int->Prop}{g:Int->Int->V}{g':Int->Int->PyData}(hg:∀i j H,DV H (g i j) (g' i j)):dJ (rI C g) (fI C g') where
 mn:=fun _ _ _ _ k zq1a=>by obtain⟨i,j,e1,e2,c,q⟩:=zq1a;exact⟨i,j,e1,e2,c,k _ q⟩
 ok:=fun O H u v x y Q hO h1 h2 zq2a=>by obtain⟨i,j,e1,e2,c,q⟩:=zq2a;subst e1 e2;exact⟨i,j,h1.int_inv,h2.int_inv,c,q _ H (fun _ _ h=>h) (hg i j _)⟩
theorem gZ{g:Int->Int->V}{g':Int->Int->PyData}(hg:∀i j H,DV H (g i j) (g' i j)):dJ (fy g) (fI (fun _ _=>True) g') where
 mn:=fun _ _ _ _ k zq1a=>by obtain⟨i,j,e1,e2,c,q⟩:=zq1a;exact⟨i,j,e1,e2,c,k _ q⟩
 ok:=fun O H u v x y Q hO h1 h2 zq2a=>by obtain⟨i,j,e1,e2,_,q⟩:=zq2a;subst e1 e2;exact⟨i,j,h1.int_inv,h2.int_inv,q _ H (fun _ _ h=>h) (hg i j _)⟩
noncomputable def kA(neg:Bool):D2:=fun x y Q=>SeqAt.shaped x=true/\SeqAt.shaped y=true/\Q (.bool (PyData.eqv x y != neg))
theorem qJ{neg:Bool}:dJ (qF neg) (kA neg) where
 mn:=fun _ _ _ _ k ⟨e1,e2,q⟩=>⟨e1,e2,k _ q⟩
 ok:=fun O H u v x y Q hO h1 h2 ⟨e1,e2,q⟩=>⟨x,y,DV.mono iF h1,DV.mono iF h2,e1,e2,q _ H (fun _ _ h=>h) (.bl _)⟩
@[simp] noncomputable def isNone:PyData->Bool
 | .none=>true
 | _=>false
noncomputable def qK:D2:=fun x y Q=>y=.none/\Q (.bool (isNone x))
theorem Dm{H:Hp}{v:V}{d:PyData}(h:DV H v d):decide (v=.non)=isNone d:=by cases h<;>first | rfl | (exact decide_eq_false (fun z=>by cases z))
theorem Dn:dJ (fun x y H Q=>y=.non/\Q (.bl (decide (x=.non))) H) qK where
 mn:=fun _ _ _ _ k ⟨e,q⟩=>⟨e,k _ q⟩
 ok:=fun O H u v x y Q hO h1 h2 ⟨e,q⟩=>by subst e;exact⟨h2.non_inv,by rw[Dm h1];exact q _ H (fun _ _ h=>h) (.bl _)⟩
noncomputable def uo:D2:=fun x y Q=>∃c i d,x=.tuple c/\y=.int i/\bR c i=some d/\Q d
noncomputable def uq:D2:=fun x y Q=>∃c i d,x=.list c/\y=.int i/\bR c i=some d/\Q d
theorem ur{H:Hp}{f:List V}{c:List PyData}{i:Int}{d:PyData}(h:aC H f c)(e:bR c i=some d):∃v,bR f i=some v/\DV H v d:=by
 unfold bR at e ⊢;rw[h.length];cases q:eM c.length i with
 | none=>rw[q] at e;cases e
 | some j=>rw[q] at e;exact h.get e
theorem uu{K:Frag}:dJ (qr K) uo where
 mn:=fun _ _ _ _ k zq1a=>by obtain⟨ds,i,d,e1,e2,e3,q⟩:=zq1a;exact⟨ds,i,d,e1,e2,e3,k _ q⟩
 ok:=fun O H u v x y Q hO h1 h2 zq2a=>by obtain⟨ds,i,d,e1,e2,e3,q⟩:=zq2a;subst e1 e2;obtain⟨a,xs,rfl,ha,hd⟩:=h1.tup_inv;obtain⟨w,ew,hw⟩:=ur hd e3;exact⟨a,xs,i,w,rfl,h2.int_inv,.inl (gx ha).1,ew,q w H (fun _ _ h=>h) hw⟩
theorem uv{K:Frag}:dJ (qp K) uq where
 mn:=fun _ _ _ _ k zq1a=>by obtain⟨ds,i,d,e1,e2,e3,q⟩:=zq1a;exact⟨ds,i,d,e1,e2,e3,k _ q⟩
 ok:=fun O H u v x y Q hO h1 h2 zq2a=>by obtain⟨ds,i,d,e1,e2,e3,q⟩:=zq2a;subst e1 e2;obtain⟨a,xs,rfl,ha,hd⟩:=h1.lst_inv;obtain⟨w,ew,hw⟩:=ur hd e3;exact⟨a,xs,i,w,rfl,h2.int_inv,.of (cE ha).1,ew,q w H (fun _ _ h=>h) hw⟩
theorem gz{O:List Addr}{H:Hp}{p:Addr}{c:List V}{d:List PyData}(f:H p=none)(g:p∉O)(h:aC (aj O H) c d):DV (aj O (aS H p (.lst c))) (.ref p) (.list d):=
 .lst (fU cU g) (aC.mono (ku (bC f)) h)
theorem qL{O:List Addr}{H:Hp}{p:Addr}{c:List V}{d:List PyData}(f:H p=none)(g:p∉O)(h:aC (aj O H) c d):DV (aj O (aS H p (.tup c))) (.ref p) (.tuple d):=
 .tup (.inl (fU cU g)) (aC.mono (ku (bC f)) h)
noncomputable def qM:D2:=fun x y Q=>∃c d,x=.list c/\y=.list d/\c.length+d.length<=sizeLine/\Q (.list (c++d))
theorem Do:dJ tT qM where
 mn:=fun _ _ _ _ k zq1a=>by obtain⟨ds,es,e1,e2,e3,q⟩:=zq1a;exact⟨ds,es,e1,e2,e3,k _ q⟩
 ok:=fun O H u v x y Q hO h1 h2 zq2a=>by obtain⟨ds,es,e1,e2,e3,q⟩:=zq2a;subst e1 e2;obtain⟨a,xs,rfl,ha,hd⟩:=h1.lst_inv;obtain⟨b,ys,rfl,hb,he⟩:=h2.lst_inv;refine⟨a,b,xs,ys,rfl,rfl,(cE ha).1,(cE hb).1,by rw[hd.length,he.length];exact e3,fun p hp=>q _ _ (bC hp) (gz hp (hO p hp) (hd.append he))⟩
noncomputable def qN:D2:=fun x y Q=>∃c d,x=.tuple c/\y=.tuple d/\c.length+d.length<=sizeLine/\Q (.tuple (c++d))
end
theorem iH{A B:Prop}(h:if true=true then A else B):A:=by rw[if_pos rfl] at h;exact h
theorem iI{A B:Prop}(h:if false=true then A else B):B:=by rw[if_neg Bool.false_ne_true] at h;exact h
abbrev cF:=ag->(List PyData->ag->Prop)->Prop
def mM(t:cF):Prop:=∀U Q a,(∀d b,Q d b->a d b)->t U Q->t U a
noncomputable def uw(K:Frag)(F:Fx)(t:cF):TA:=fun Y H Q=>∃U O,au K F H Y U O/\t U fun d e=>∀c a b,au K F a Y e b->aJ O H b a->aC (aj b a) c d->Q c a
structure DA (X:Cx) (F:Fx) (es:List Expr) (t:cF):Prop where
 mn:mM t
 pa:PA X es (uw X.K F t)
theorem _root_.L2.PA.imp{X:Cx}{e:List Expr}{t t':TA}(h:PA X e t)(k:∀Y H Q,t' Y H Q->t Y H Q):PA X e t':=fun pos a s Y H Q I q=>h pos a s Y H Q I (k Y H Q q)
section
variable{X:Cx}{F:Fx}{a b e c:Expr}{es:List Expr}{ta tb tc:DT}{tA:cF}{pos:Pos}
noncomputable def Dp:cF:=fun U Q=>Q [] U
noncomputable def Dq(ta:DT)(i:cF):cF:=fun U Q=>ta U fun d f=>i f fun g h=>Q (d::g) h
theorem Dr:DA X F [] Dp:=⟨fun _ _ _ k q=>k _ _ q,eX.imp fun Y H Q d=>by obtain⟨U,O,st,q⟩:=d;exact q [] H O st .refl .nil⟩
theorem Ds(g:DE X F e ta)(h:DA X F es tA)(o:autoParam (starEach (e::es) X.env=(false,eval e X.env)::starEach es X.env) Zq._auto_1):DA X F (e::es) (Dq ta tA):=
 ⟨fun _ _ _ k q=>g.mn _ _ _ (fun _ _ i=>h.mn _ _ _ (fun _ _ j=>k _ _ j) i) q,(eL g.pe h.pa o).imp fun Y H Q f=>by obtain⟨U,O,st,q⟩:=f;exact 
  ⟨U,O,st,g.mn _ _ _ (fun d p i v z r l s t=>⟨p,r,l,h.mn _ _ _ (fun A B j u w x m n y=>j (v::u) w x m (s.trans n) (.cons (DV.mono n.hid t) y)) i⟩) q⟩⟩
noncomputable def Dt(t:cF):DT:=fun U Q=>t U fun d f=>d.length<=sizeLine/\Q (.tuple d) f
noncomputable def Du(t:cF):DT:=fun U Q=>t U fun d f=>d.length<=sizeLine/\Q (.list d) f
theorem Dv{l}(h:DA X F es tA):DE X F (.Tuple es l pos) (Dt tA):=
 ⟨fun _ _ _ k q=>h.mn _ _ _ (fun _ _ d=>⟨d.1,k _ _ d.2⟩) q,(Bv h.pa).imp fun Y H Q f=>by obtain⟨U,O,st,q⟩:=f;exact 
  ⟨U,O,st,h.mn _ _ _ (fun o r d s t m g n j=>⟨by rw[j.length];exact d.1,fun p i=>d.2 _ _ m (g.grow (bC i)) (n.trans (.same (bC i))) (qL i (g.nofree p i) j)⟩) q⟩⟩
theorem Dw(h:DA X F es tA):DE X F (.List es pos) (Du tA):=
 ⟨fun _ _ _ k q=>h.mn _ _ _ (fun _ _ d=>⟨d.1,k _ _ d.2⟩) q,(ql h.pa).imp fun Y H Q f=>by obtain⟨U,O,st,q⟩:=f;exact 
  ⟨U,O,st,h.mn _ _ _ (fun n o d r s l g m j=>⟨by rw[j.length];exact d.1,fun p i=>d.2 _ _ l (g.grow (bC i)) (m.trans (.same (bC i))) (gz i (g.nofree p i) j)⟩) q⟩⟩
noncomputable def Dx(ta:DT):DT:=fun U Q=>ta U fun d f=>∃i,d=.int i/\Q (.int (-i)) f
theorem Dy(j:DE X F a ta):DE X F (.UnaryOp .USub a pos) (Dx ta):=
 ⟨fun _ _ _ k q=>j.mn _ _ _ (fun _ _ f=>by obtain⟨i,e,q⟩:=f;exact⟨i,e,k _ _ q⟩) q,(AZ Bg j.pe).imp fun Y H Q g=>by obtain⟨U,O,st,q⟩:=g;exact 
  ⟨U,O,st,j.mn _ _ _ (fun d s h v m n l o p=>by obtain⟨i,e,r⟩:=h;subst e;exact⟨i,p.int_inv,r _ m n l o (.int _)⟩) q⟩⟩
noncomputable def Dz(ta:DT):DT:=fun U Q=>ta U fun d f=>∃b,d=.bool b/\Q (.bool (!b)) f
theorem DC(j:DE X F a ta):DE X F (.UnaryOp .Not a pos) (Dz ta):=
 ⟨fun _ _ _ k q=>j.mn _ _ _ (fun _ _ f=>by obtain⟨i,e,q⟩:=f;exact⟨i,e,k _ _ q⟩) q,(An j.pe).imp fun Y H Q g=>by obtain⟨U,O,st,q⟩:=g;exact 
  ⟨U,O,st,j.mn _ _ _ (fun d s h v m n l o p=>by obtain⟨i,e,r⟩:=h;subst e;exact⟨i,p.bl_inv,r _ m n l o (.bl _)⟩) q⟩⟩
noncomputable def DF(ta tb:DT):DT:=fun U Q=>ta U fun d f=>∃b,d=.bool b/\if b=true then tb f Q else Q (.bool false) f
noncomputable def DH(ta tb:DT):DT:=fun U Q=>ta U fun d f=>∃b,d=.bool b/\if b=true then Q (.bool true) f else tb f Q
theorem DJ{op}(h:DE X F a ta):DE X F (.BoolOp op [a] pos) ta:=⟨h.mn,Ak h.pe⟩
theorem DK{rest:List Expr}(l:DE X F a ta)(m:DE X F (.BoolOp .And (b::rest) pos) tb):DE X F (.BoolOp .And (a::b::rest) pos) (DF ta tb):=
 ⟨fun _ _ _ k q=>l.mn _ _ _ (fun _ _ f=>by obtain⟨i,e,q⟩:=f;exact⟨i,e,by cases i<;>first | exact k _ _ q | exact m.mn _ _ _ k q⟩) q,(Al l.pe m.pe).imp fun Y H Q g=>by obtain⟨U,O,st,q⟩:=g;exact 
  ⟨U,O,st,l.mn _ _ _ (fun d s h v t o j p u=>by
   obtain⟨i,e,r⟩:=h;subst e;refine⟨i,u.bl_inv,?_⟩;cases i with
   | true=>exact ej ⟨s,o,j,m.mn _ _ _ (fun d C x w y z n A B=>x w y z n (p.trans A) B) (iH r)⟩
   | false=>exact ei (iI r _ t o j p (.bl _))) q⟩⟩
theorem DL{rest:List Expr}(l:DE X F a ta)(m:DE X F (.BoolOp .Or (b::rest) pos) tb):DE X F (.BoolOp .Or (a::b::rest) pos) (DH ta tb):=
 ⟨fun _ _ _ k q=>l.mn _ _ _ (fun _ _ f=>by obtain⟨i,e,q⟩:=f;exact⟨i,e,by cases i<;>first | exact k _ _ q | exact m.mn _ _ _ k q⟩) q,(Am l.pe m.pe).imp fun Y H Q g=>by obtain⟨U,O,st,q⟩:=g;exact 
  ⟨U,O,st,l.mn _ _ _ (fun d s h v t o j p u=>by
   obtain⟨i,e,r⟩:=h;subst e;refine⟨i,u.bl_inv,?_⟩;cases i with
   | false=>exact ei ⟨s,o,j,m.mn _ _ _ (fun d C x w y z n A B=>x w y z n (p.trans A) B) (iI r)⟩
   | true=>exact ej (iH r _ t o j p (.bl _))) q⟩⟩
noncomputable def qO(p f:Int->Int->Bool)(ta tb tc:DT):DT:=fun U Q=>ta U fun x g=>tb g fun y d=>∃i j,x=.int i/\y=.int j/\if p i j=true then tc d (fun z h=>∃k,z=.int k/\Q (.bool (f j k)) h) else Q (.bool false) d
theorem DM{op f:CmpOp}{p M:Int->Int->Bool}(Z:bT X (compareOp op) (fy fun i j=>.bl (p i j)))(s:bT X (compareOp f) (fy fun i j=>.bl (M i j)))(t:DE X F a ta)(A:DE X F b tb)(B:DE X F c tc)
  (hm:lastMarks [op,f] [b,c]=false:=by with_unfolding_all rfl):DE X F (.Compare a [op,f] [b,c] pos) (qO p M ta tb tc):=
 ⟨fun _ _ _ k q=>t.mn _ _ _ (fun _ _ C=>A.mn _ _ _ (fun _ _ ⟨i,j,D,E,d⟩=>⟨i,j,D,E,by
   by_cases h:p i j=true
   .rw[if_pos h] at d ⊢;exact B.mn _ _ _ (fun _ _ g=>by obtain⟨l,e,G⟩:=g;exact⟨l,e,k _ _ G⟩) d
   .rw[if_neg h] at d ⊢;exact k _ _ d⟩) C) q,
  (Bn Z s t.pe A.pe B.pe hm).imp fun Y H Q m=>by obtain⟨U,O,st,q⟩:=m;exact 
  ⟨U,O,st,t.mn _ _ _ (fun x U1 C v H1 O1 I N d1=>⟨U1,O1,I,A.mn _ _ _ (fun y U2 n w H2 R o J S=>by
   obtain⟨i,j,D,E,d⟩:=n;subst D E;refine⟨i,j,(DV.mono J.hid d1).int_inv,S.int_inv,p i j,rfl,?_⟩
   by_cases h:p i j=true
   .rw[if_pos h] at d ⊢;exact⟨U2,R,o,B.mn _ _ _ (fun z U3 r u H3 O3 L T d3=>by obtain⟨l,e,G⟩:=r;subst e;exact⟨j,l,(DV.mono T.hid S).int_inv,d3.int_inv,G _ H3 O3 L (N.trans (J.trans T)) (.bl _)⟩) d⟩
   .rw[if_neg h] at d ⊢;exact d _ H2 R o (N.trans J) (.bl _)) C⟩) q⟩⟩
end
abbrev cg:=ag->(Bool->ag->Prop)->Prop
def gA(t:cg):Prop:=∀U Q a,(∀d b,Q d b->a d b)->t U Q->t U a
noncomputable def iJ(K:Frag)(F:Fx)(t:cg):TT:=fun Y H Q=>∃U O,au K F H Y U O/\t U fun b d=>∀a c,au K F a Y d c->aJ O H c a->Q b a
structure DB (X:Cx) (F:Fx) (e:Expr) (t:cg):Prop where
 mn:gA t
 pt:PT X e (iJ X.K F t)
section
variable{X:Cx}{F:Fx}{a b e c:Expr}{ta tb tc:DT}{tA tB:cg}{pos:Pos}
noncomputable def eP(ta:DT):cg:=fun U Q=>ta U fun d f=>∃b,d=.bool b/\Q b f
theorem ux(h:Mn ta):gA (eP ta):=fun _ _ _ k q=>h _ _ _ (fun _ _ ⟨b,e,d⟩=>⟨b,e,k _ _ d⟩) q
theorem uy{K:Frag}(h:Mn ta):∀Y H Q,iJ K F (eP ta) Y H Q->fz K F ta Y H fun x j=>∃k,x=.bl k/\Q k j:=fun Y H Q f=>by obtain⟨U,O,st,q⟩:=f;exact 
 ⟨U,O,st,h _ _ _ (fun d r g v l m i n o=>by obtain⟨b,e,p⟩:=g;subst e;exact⟨b,o.bl_inv,p l m i n⟩) q⟩
theorem fW(h:DE X F e ta)(d:autoParam (∀whole,isTrue e X.env whole=(do let v <-whole;standAt e.pos;holding [v] (truthy v))) Zs._auto_1):DB X F e (eP ta):=⟨ux h.mn,(zY h.pe d).imp (uy h.mn)⟩
theorem jw{op:CmpOp}{r:R2}{f:D2}(h:bT X (compareOp op) r)(o:dJ r f)(d:DE X F a ta)(g:DE X F b tb)(i:behindInMarks op b=false):DB X F (.Compare a [op] [b] pos) (eP (cu f ta tb)):=
 ⟨ux (kz o d.mn g.mn),(tH h d.pe g.pe i).imp fun Y H Q q=>mK o d.mn g.mn Y H _ (uy (kz o d.mn g.mn) Y H Q q)⟩
noncomputable def DP(t:cg):cg:=fun U Q=>t U fun b d=>Q (!b) d
theorem DQ(h:DB X F a tA):DB X F (.UnaryOp .Not a pos) (DP tA):=⟨fun _ _ _ k q=>h.mn _ _ _ (fun _ _ q=>k _ _ q) q,(Ag h.pt).imp fun Y H Q d=>by obtain⟨U,O,st,q⟩:=d;exact⟨U,O,st,h.mn _ _ _ (fun b m g i j f l=>g i j f l) q⟩⟩
structure DW (X:Cx) (F:Fx) (e:Expr) (t:cg):Prop where
 mn:gA t
 pw:PW X e (iJ X.K F t)
theorem _root_.L2.PW.imp{X:Cx}{e:Expr}{t t':TT}(h:PW X e t)(k:∀Y H Q,t' Y H Q->t Y H Q):PW X e t':=fun f d s Y H Q I q=>h f d s Y H Q I (k Y H Q q)
theorem DW.db{t:cg}(h:DW X F e t):DB X F e t:=⟨h.mn,h.pw.pt⟩
noncomputable def DR(t u:cg):cg:=fun U Q=>t U fun b d=>if b=true then u d Q else Q false d
noncomputable def DU(t u:cg):cg:=fun U Q=>t U fun b d=>if b=true then Q true d else u d Q
theorem DY(h:DB X F a tA):DW X F (.BoolOp .And [a] pos) tA:=⟨h.mn,Ac h.pt⟩
theorem DZ(h:DB X F a tA):DW X F (.BoolOp .Or [a] pos) tA:=⟨h.mn,Ad h.pt⟩
theorem Ea{rest:List Expr}(g:DB X F a tA)(h:DW X F (.BoolOp .And (b::rest) pos) tB):DW X F (.BoolOp .And (a::b::rest) pos) (DR tA tB):=
 ⟨fun _ _ _ k q=>g.mn _ _ _ (fun b _ q=>by cases b<;>first | exact k _ _ q | exact h.mn _ _ _ k q) q,(Ae g.pt h.pw).imp fun Y H Q d=>by obtain⟨U,O,st,q⟩:=d;exact 
  ⟨U,O,st,g.mn _ _ _ (fun b n j o l f m=>by
   cases b with
   | true=>exact ej ⟨n,l,f,h.mn _ _ _ (fun b u p r s i t=>p r s i (m.trans t)) (iH j)⟩
   | false=>exact ei (iI j o l f m)) q⟩⟩
theorem Eb{rest:List Expr}(g:DB X F a tA)(h:DW X F (.BoolOp .Or (b::rest) pos) tB):DW X F (.BoolOp .Or (a::b::rest) pos) (DU tA tB):=
 ⟨fun _ _ _ k q=>g.mn _ _ _ (fun b _ q=>by cases b<;>first | exact k _ _ q | exact h.mn _ _ _ k q) q,(Af g.pt h.pw).imp fun Y H Q d=>by obtain⟨U,O,st,q⟩:=d;exact 
  ⟨U,O,st,g.mn _ _ _ (fun b n j o l f m=>by
   cases b with
   | false=>exact ei ⟨n,l,f,h.mn _ _ _ (fun b u p r s i t=>p r s i (m.trans t)) (iI j)⟩
   | true=>exact ej (iH j o l f m)) q⟩⟩
end
abbrev DN:=List PyData->(PyData->Prop)->Prop
structure fX (r:List V->Hp->VK->Prop) (f:DN):Prop where
 mn:∀xs Q Q',(∀d,Q d->Q' d)->f xs Q->f xs Q'
 ok:∀(O:List Addr) (H:Hp) (vs:List V) (xs:List PyData) (Q:VK),(∀p,H p=none->p∉O)->aC (aj O H) vs xs->f xs (fun d=>∀w H',bz H H'->DV (aj O H') w d->Q w H')->r vs H Q
noncomputable def jx(f:DN)(t:cF):DT:=fun U Q=>t U fun a b=>f a fun d=>Q d b
section
variable{X:Cx}{F:Fx}{e:Expr}{es:List Expr}{tA:cF}{pos p:Pos}{x:Str}{id T:String}{r:List V->Hp->VK->Prop}{f:DN}
theorem qP{K:Frag}(o:fX r f)(h:mM tA):∀Y H Q,fz K F (jx f tA) Y H Q->qm r (uw K F tA) Y H Q:=fun Y H Q a=>by obtain⟨U,O,st,q⟩:=a;exact 
 ⟨U,O,st,h _ _ _ (fun i v j k l c b m n=>o.ok c l k i Q b.nofree n (o.mn _ _ _ (fun d s w t g u=>s w t c (b.grow g) (m.trans (.same g)) u) j)) q⟩
theorem qQ(o:fX r f)(h:mM tA):Mn (jx f tA):=fun _ _ _ k q=>h _ _ _ (fun _ _ a=>o.mn _ _ _ (fun _ b=>k _ _ b) a) q
theorem eQ(d:dQ X (.builtin id) r)(o:fX r f)(g:Gl X x)(h:X.mg x=none)(i:bootBuiltins x=some (.builtin id))(a:DA X F (e::es) tA)(j:autoParam (x≠"__name__") Zr._auto_1)(b:autoParam ((x==("__debug__":Str))=false) Zr._auto_1)
  (k:autoParam (starEach (e::es) X.env=(false,eval e X.env)::starEach es X.env) Zq._auto_1) (c:autoParam ((backTo pos (starEach es X.env)).any (·.1)=false) Zq._auto_1):DE X F (.Call (.Name x p) (e::es) [] pos) (jx f tA):=
 ⟨qQ o a.mn,(iD d g h i a.pa j b k c).imp (qP o a.mn)⟩
end
noncomputable def uz(n:String)(a:DT):DT:=fun U Q=>a U fun d c=>∃b,(∀K:Frag,kitOne K (.type (qG d)) (.type n)=some b)/\Q (.bool b) c
section
variable{X:Cx}{F:Fx}{e:Expr}{ta:DT}{pos p p2:Pos}{T:String}{x:Str}
theorem mO(m:Gl X "isinstance")(n:X.mg "isinstance" = none)(h:DE X F e ta)(o:PE X (.Name x p2) (tC (.ty T)))
  (l:autoParam (starEach [e,.Name x p2] X.env=(false,eval e X.env)::starEach [.Name x p2] X.env) Zq._auto_1) (g:autoParam (starEach [.Name x p2] X.env=(false,eval (.Name x p2) X.env)::starEach [] X.env) Zq._auto_1) (i:autoParam ((backTo pos (starEach [.Name x p2] X.env)).any (·.1)=false) Zq._auto_1) :
  DE X F (.Call (.Name "isinstance" p) [e,.Name x p2] [] pos) (uz T ta):=
 ⟨fun _ _ _ k q=>h.mn _ _ _ (fun _ _ a=>by obtain⟨b,e,q⟩:=a;exact⟨b,e,k _ _ q⟩) q,
  (iD Df m n (show bootBuiltins "isinstance" = some (.builtin "isinstance") by decide +kernel) (eL h.pe (eL o eX g) l) (by decide) (by decide) l i).imp fun Y H Q c=>by obtain⟨U,O,st,q⟩:=c;exact 
  ⟨U,O,st,h.mn _ _ _ (fun d y f v r s j t u=>by obtain⟨b,e,w⟩:=f;exact⟨v,d,T,b,rfl,DV.mono iF u,e,w _ r s j t (.bl b)⟩) q⟩⟩
end
structure em (g:Heap) (H:Hp) (h:Heap) (a:Addr) (C:Value) (fl:Option Value):Prop where
 gh:∀b o,g.get? b=some o->∃o',h.get? b=some o'
 lo:g.get? a=none
 un:H a=none
 ob:∃oe vs a0,h.get? a=some oe/\oe.cls=C/\oe.data=.fields vs/\vs[0]? = some a0/\
  ((fl=none/\vs[1]? = some .none)\/∃T oT ts f,fl=some f/\vs[1]? = some (.ref T)/\g.get? T=none/\H T=none/\T≠a/\h.get? T=some oT/\oT.data=.fields ts/\ts[3]? = some f)
structure Ch (g:Heap) (H:Hp) (fs:List Addr) (h h':Heap):Prop where
 keep:∀b o,h.get? b=some o->((∃o',g.get? b=some o')\/H b≠none)->b∉fs->h'.get? b=some o
 slot:∀b o,b∈fs->h.get? b=some o->∃sl,h'.get? b=some { o with slots:=sl }
 there:∀b o,h.get? b=some o->∃o',h'.get? b=some o'
theorem Ch.refl{g:Heap}{H:Hp}{fs:List Addr}{h:Heap}:Ch g H fs h h:=⟨fun _ _ e _ _=>e,fun b o _ e=>⟨o.slots,e⟩,fun b o e=>⟨o,e⟩⟩
theorem Ch.trans{g:Heap}{H:Hp}{fs:List Addr}{h h1 h2:Heap}(x:Ch g H fs h h1)(y:Ch g H fs h1 h2):Ch g H fs h h2 where
 keep:=fun b o e q n=>y.keep b o (x.keep b o e q n) q n
 slot:=fun b o m e=>let⟨_,e1⟩:=x.slot b o m e;let⟨sl,e2⟩:=y.slot b _ m e1;⟨sl,e2⟩
 there:=fun b o e=>let⟨o1,e1⟩:=x.there b o e;y.there b o1 e1
theorem bG.some_of{P:Program}{w:World}{H:Hp}{h:Heap}(k:bG P w H h){b:Addr}(e:h.get? b=none):H b=none:=by
 cases q:H b with
 | none=>rfl
 | some u=>
  exfalso;have x:=k b u q;have:∀(u:HO),bK P w H h b u->∃o,h.get? b=some o:=by
   intro u
   induction u with
   | lst z=>exact fun d=>by obtain⟨_,_,_,_,e⟩:=d;exact⟨_,e⟩
   | tup z=>exact fun g=>by obtain⟨_,_,_,o,e,_⟩:=g;exact⟨_,e⟩
   | dK t=>exact fun i=>by obtain⟨_,_,_,_,o,_,_,e,_⟩:=i;exact⟨_,e⟩
   | dT t=>exact fun j=>by obtain⟨_,_,_,_,o,_,_,e,_⟩:=j;exact⟨_,e⟩
   | set S n=>exact fun l=>by obtain⟨o,_,_,_,e,_⟩:=l;exact⟨_,e⟩
   | ins C A fs=>exact fun m=>by obtain⟨_,_,_,e,_⟩:=m;exact⟨_,e⟩
   | own y=>exact fun p=>by obtain⟨_,e⟩:=p;exact⟨_,e⟩
   | xd fs=>exact fun r=>by obtain⟨_,⟨_,_,_,e,_⟩,_⟩:=r;exact⟨_,e⟩
   | rng lo B=>exact fun s=>by obtain⟨_,_,_,e⟩:=s;exact⟨_,e⟩
   | frz ob u _=>exact fun a=>by obtain⟨e,_⟩:=a;exact⟨_,e⟩
   | tbl D=>exact fun e=>⟨_,e⟩
   | met f y=>exact fun e=>⟨_,e⟩
   | ext φ=>exact fun c=>by obtain⟨_,⟨_,e⟩,_⟩:=c;exact⟨_,e⟩
  obtain⟨o,v⟩:=this u x;rw[e] at v;cases v
theorem uA{h base a:Heap}:∀{l:List Env},(∀b∈bp l,a.get? b=none)->h.FunFrames base l->h.FunFrames a l
 | [],_,_=>trivial
 | c::r,d,⟨g,⟨L,o,f,_,i,hd⟩,j⟩=>by
  have e:bp (c::r)=L::bp r:=by unfold bp;rw[List.filterMap_cons,f]
  exact⟨g,⟨L,o,f,d L (by rw[e];exact List.mem_cons_self),i,hd⟩,uA (fun b h=>d b (by rw[e];exact bh _ h)) j⟩
section
variable{P:Program}{w:World}{M:Model}{A:Around}{E:Value->Shared->Prop}{s:Shared}{g base:Heap}{H:Hp}{env:Env}{outer:List Env}{L a:Addr}{C fv:Value}{fl:Option Value}
theorem uB{u:Obj}{v:Array Value}{head a0:Value}{d:Bool}{Q:Unit->Shared->Prop}(y:A.frames=some (env::outer))(B:s.heap.FunFrames base (env::outer))(hf:env.frame=some L)(hk:∀b,s.heap.get? b=none->H b=none)
  (gh:∀b o,g.get? b=some o->∃i,s.heap.get? b=some i) (lo:g.get? a=none) (un:H a=none) (he:s.heap.get? a=some u) (hc:u.cls=C) (hd:u.data=.fields v) (D:1<v.size) (h0:v[0]? = some a0)
  (h:∀f,Ch g H (bp (env::outer)) s.heap f->em g H f a C (some (rawInt L))->Q () { s with heap:=f }) :
  wpAny M A (do let x <-frameOf env;let pl <-entryPlaceOf L d;let b <-EntryCells.newEntry head x .none (rawInt L) .none pl;setField (.ref a) 1 b) Q E s:=by
 refine wpAny_entryW (base:=PySem.W.hideAll s.heap (a::bp (env::outer))) y (uA (fun b k=>PySem.W.hideAll_none _ (bh _ k)) B) hf he (fun b o e=>PySem.W.of_hideAll _ e) (PySem.W.hideAll_none _ List.mem_cons_self) hd D h0 fun f l=>?_;obtain⟨k1,k2,k3,k4⟩:=l;obtain⟨G,I,T,oT,R,S,⟨e2,J⟩,e3,e4,U,X,Y,Z,e9⟩:=k3;have m:∀b o,b∈bp (env::outer)->s.heap.get? b=some o->∃m,f.get? b=some { o with slots:=m }:=fun b o k e=>by obtain⟨_,i,c,N⟩:=B.mem k;rw[e] at c;cases c;exact k4 b o e N
 have kp:∀b o,s.heap.get? b=some o->b≠a->b∉bp (env::outer)->f.get? b=some o:=fun b o e r t=>k1 b o (PySem.W.hideAll_get _ e fun z=>(List.mem_cons.mp z).elim r t);have hT:g.get? T=none/\H T=none:=by
  cases q:s.heap.get? T with
  | some o=>
   exfalso
   by_cases j:T∈bp (env::outer)
   .obtain⟨_,i,c,N⟩:=B.mem j;rw[q] at c;cases c;obtain⟨O,p⟩:=m T o j q;rw[Y] at p;cases p;exact N R Z
   .rw[PySem.W.hideAll_get _ q (fun z=>(List.mem_cons.mp z).elim X j)] at U;cases U
  | none=>
   refine⟨?_,hk T q⟩;cases q2:g.get? T with
   | none=>rfl
   | some o=>obtain⟨i,c⟩:=gh T o q2;rw[q] at c;cases c
 have ch:Ch g H (bp (env::outer)) s.heap f:=⟨fun b o e q n=>kp b o e (fun z=>?_) n,fun b o k e=>m b o k e,fun b o e=>?_⟩
 .refine h f ch ⟨fun b o e=>?_,lo,un,G,I,a0,S,e2.trans hc,e3,J,.inr ⟨T,oT,R,_,rfl,e4,hT.1,hT.2,X,Y,Z,e9⟩⟩;obtain⟨i,c⟩:=gh b o e;exact ch.there b i c
 .subst z;rcases q with⟨i,q⟩ | q
  .rw[lo] at q;cases q
  .exact q un
 .by_cases t:b∈bp (env::outer)
  .obtain⟨O,c⟩:=m b o t e;exact⟨_,c⟩
  .by_cases r:b=a
   .subst r;exact⟨_,S⟩
   .exact⟨o,kp b o e r t⟩
theorem Ec{h:Heap}{l:List Env}{T:Addr}{oT:Obj}{d:Array Value}{f:Obj->Obj}(e:h.FunFrames base l)(hT:h.get? T=some oT)(hd:oT.data=.fields d):(h.update T f).FunFrames base l:=
 e.of_keeps fun b o c i=>⟨o,by rw[Heap.get?_update_other _ _ (fun z=>i d (by subst z;rw[hT] at c;cases c;exact hd))];exact c,rfl⟩
theorem uC{h:Heap}{fs:List Addr}{T:Addr}{oT:Obj}{d:Array Value}{f:Array Value->Array Value}(hT:h.get? T=some oT)(hd:oT.data=.fields d)(i:g.get? T=none)(j:H T=none)(c:T∉fs):Ch g H fs h (h.update T (Obj.mapFields f)):=by
 have self:(h.update T (Obj.mapFields f)).get? T=some (oT.mapFields f):=Heap.get?_update_self _ hT (Obj.isFreed_of_fields (Obj.data_mapFields hd f));refine⟨fun b o e q n=>?_,fun b o m e=>⟨o.slots,?_⟩,fun b o e=>?_⟩
 .rw[Heap.get?_update_other _ _ (fun z=>?_)]
  .exact e
  .subst z;rcases q with⟨k,q⟩ | q
   .rw[i] at q;cases q
   .exact q j
 .rw[Heap.get?_update_other _ _ (fun z=>c (by rw[z];exact m))];exact e
 .by_cases z:b=T
  .subst z;exact⟨_,self⟩
  .exact⟨o,by rw[Heap.get?_update_other _ _ (Ne.symm z)];exact e⟩
theorem Ed{Q:Unit->Shared->Prop}(j:A.frames=some (env::outer))(r:s.heap.FunFrames base (env::outer))(t:env.frame=some L)(I:∀b,s.heap.get? b=none->H b=none)(x:em g H s.heap a C fl)
  (h:∀k,Ch g H (bp (env::outer)) s.heap k->em g H k a C (some (rawInt L))->Q () { s with heap:=k }):wpAny M A (noteFrame (.ref a) env) Q E s:=by
 obtain⟨G,lo,un,J,O,a0,l,u,hd,v,R⟩:=x;unfold noteFrame;simp only[t];rcases R with⟨_,h1⟩ | ⟨T,oT,N,f,_,h1,m,n,p,hT,c,h3⟩
 .refine aa (wpAny_field l hd h1 ?_);rw[if_neg (by decide)];exact uB j r t I G lo un l u hd (Array.getElem?_eq_some_iff.mp h1).1 v h
 .refine aa (wpAny_field l hd h1 ?_);rw[if_pos (show(Value.ref T != Value.none)=true from by simp)];refine aa (wpAny_field hT c h3 ?_)
  by_cases d:(f==rawInt L)=true
  .rw[if_pos d];have e:f=rawInt L:=by simpa using d
   subst e;exact ai (h s.heap .refl ⟨G,lo,un,J,O,a0,l,u,hd,v,.inr ⟨T,oT,N,_,rfl,h1,m,n,p,hT,c,h3⟩⟩)
  .rw[if_neg d];refine aa (wpAny_setField hT c (Array.getElem?_eq_some_iff.mp h3).1 ?_);have y:T∉bp (env::outer):=fun z=>by obtain⟨_,B,i,S⟩:=r.mem z;rw[hT] at i;cases i;exact S N c
   have D:=uC (g:=g) (H:=H) (f:=(·.setIfInBounds 3 Value.none)) hT c m n y;refine uB (s:={ s with heap:=s.heap.update T (Obj.mapFields (·.setIfInBounds 3 Value.none)) }) j (Ec r hT c) t (fun b e=>?_) (fun b o e=>?_) lo un ?_ u hd (Array.getElem?_eq_some_iff.mp h1).1 v fun k ch U=>h k (D.trans ch) U
   .refine I b ?_;cases q:s.heap.get? b with
    | none=>rfl
    | some o=>obtain⟨B,i⟩:=D.there b o q;rw[show({ s with heap:=s.heap.update T (Obj.mapFields (·.setIfInBounds 3 Value.none)) }:Shared).heap=s.heap.update T (Obj.mapFields (·.setIfInBounds 3 Value.none)) from rfl] at e;rw[e] at i;cases i
   .obtain⟨B,i⟩:=G b o e;exact D.there b B i
   .show(s.heap.update T _).get? a=some J;rw[Heap.get?_update_other _ _ p];exact l
theorem Ee{Q:Unit->Shared->Prop}{fs:List Addr}(l:Option Addr)(m:∀b∈fs,∃o,s.heap.get? b=some o/\∀n,o.data≠.fields n)(x:em g H s.heap a C (some fv))
  (h:∀p,Ch g H fs s.heap p->em g H p a C (some (l.elim Value.none fun f=>rawInt f))->Q () { s with heap:=p }):wpAny M A (setFlight (.ref a) l) Q E s:=by
 obtain⟨O,lo,un,v,n,a0,r,y,hd,B,D⟩:=x;rcases D with⟨z,_⟩ | ⟨T,oT,G,f,_,h1,d,i,j,hT,c,h3⟩
 .cases z
 .unfold setFlight;refine aa (wpAny_field r hd h1 ?_);rw[if_pos (show(Value.ref T != Value.none)=true from by simp)];have q:T∉fs:=fun z=>by obtain⟨o,t,I⟩:=m T z;rw[hT] at t;cases t;exact I G c
  have k:=(Array.getElem?_eq_some_iff.mp h3).1;have u:=uC (g:=g) (H:=H) (f:=(·.setIfInBounds 3 (l.elim Value.none fun f=>rawInt f))) hT c d i q;refine wpAny_setField hT c k (h _ u ⟨fun b o e=>?_,lo,un,v,n,a0,?_,y,hd,B,.inr ⟨T,_,_,_,rfl,h1,d,i,j,Heap.get?_update_self _ hT (Obj.isFreed_of_fields (Obj.data_mapFields c _)),Obj.data_mapFields c _,?_⟩⟩)
  .obtain⟨J,N⟩:=O b o e;exact u.there b J N
  .rw[Heap.get?_update_other _ _ j];exact r
  .simp[k]
theorem Ef{h:Heap}{l:List Env}(c:h.FunFrames base l):∀b∈bp l,∃o,h.get? b=some o/\∀d,o.data≠.fields d:=fun b f=>let⟨_,o,e,n⟩:=c.mem f;⟨o,e,n⟩
theorem Ch.frames{fs:List Addr}{h d:Heap}{l:List Env}(c:Ch g H fs h d)(f:∀b∈bp l,b∈fs)(j:h.FunFrames base l):d.FunFrames base l:=by
 induction l with
 | nil=>trivial
 | cons env r k=>
  obtain⟨m,⟨L,o,i,n,p,hd⟩,q⟩:=j;have e:bp (env::r)=L::bp r:=by unfold bp;rw[List.filterMap_cons,i]
  obtain⟨v,t⟩:=c.slot L o (f L (by rw[e];exact List.mem_cons_self)) p;exact⟨m,⟨L,_,i,n,t,hd⟩,k (fun b u=>f b (by rw[e];exact bh _ u)) q⟩
theorem Eg{Q:Unit->Shared->Prop}(c:A.frames=some (env::outer))(e:s.heap.FunFrames base (env::outer))(i:env.frame=some L)(j:∀b,s.heap.get? b=none->H b=none)(x:em g H s.heap a C fl)
  (h:∀d,Ch g H (bp (env::outer)) s.heap d->em g H d a C (some .none)->Q () { s with heap:=d }):wpAny M A (leaving env (.ref a)) Q E s:=by
 unfold leaving;refine aa (Ed c e i j x fun n f k=>?_);refine Ee (s:={ s with heap:=n }) (fs:=bp (env::outer)) none (Ef (f.frames (fun _ h=>h) e)) k fun o l m=>h o (f.trans l) m
end
structure kB (X:Cx) (pins:List (Addr×Obj)) (g:Heap):Prop where
 s0:∀b o,X.s₀.heap.get? b=some o->b∉X.ex->∃o',g.get? b=some o'
 loc:∃o,g.get? X.env.locals=some o
 cell:∀x c,X.env.cells.lookup x=some c->∃o,g.get? c=some o
 pin:∀p∈X.pn++pins,∃o,g.get? p.1=some o
section
variable{X:Cx}{pins:List (Addr×Obj)}{Y:St}{H:Hp}{s:Shared}{g h':Heap}
theorem _root_.L2.Inv.cov(I:Inv X pins Y H s):kB X pins s.heap:=by
 refine⟨fun b o e n=>I.base.there b o e n,?_,fun x c e=>?_,fun p d=>⟨_,(I.pin p d).1⟩⟩
 .obtain⟨m,⟨o,es,f,a,_⟩,_⟩:=I.loc;exact⟨o,a⟩
 .obtain⟨v,o,a,_⟩:=I.cell x c e;exact⟨o,a⟩
theorem _root_.L2.Inv.stkIn(I:Inv X pins Y H s){b:Addr}(h:b∉bp X.stack):b∉X.fs:=by
 rcases I.ok.stk with e | ⟨e,a⟩
 .rw[e] at h;exact h
 .rw[e] at h;unfold bp at h;rw[List.filterMap_cons,a] at h;exact fun z=>h (bh _ z)
theorem _root_.L2.Inv.stkOut(I:Inv X pins Y H s){b:Addr}(h:b∉X.fs)(a:b≠X.env.locals):b∉bp X.stack:=fun z=>(List.mem_cons.mp (I.stkSub b z)).elim a h
theorem Eh{h h':Heap}{a:Addr}{m:Str->Option Value}(k:∀o,h.get? a=some o->∃b,h'.get? a=some { o with slots:=b })(c:h.Ns a m):h'.Ns a m:=by obtain⟨o,es,d,e,hd,r⟩:=c;obtain⟨b,f⟩:=k o e;exact⟨_,es,d,f,hd,r⟩
theorem _root_.L2.Inv.ch(I:Inv X pins Y H s)(C:kB X pins g)(c:Ch g H (bp X.stack) s.heap h'):Inv X pins Y H { s with heap:=h' }:=by
 have M:∀b o,s.heap.get? b=some o->H b≠none->h'.get? b=some o:=fun b o e n=>c.keep b o e (.inr n) fun z=>n (I.stkFree b z);have G:∀x a,X.env.cells.lookup x=some a->∀o,s.heap.get? a=some o->∃A,h'.get? a=some A/\A.data=o.data:=fun x a e o h=>by
  by_cases t:a∈bp X.stack
  .obtain⟨N,y⟩:=c.slot a o t h;exact⟨_,y,rfl⟩
  .exact⟨o,c.keep a o h (.inl (C.cell x a e)) t,rfl⟩
 refine⟨I.ok,I.os,I.bare,⟨fun b o e n B w=>?_,fun b o e n B w=>?_,fun b o e n w=>I.base.free b o e n w,fun b o e w=>?_,I.base.tups,I.base.frzs,I.base.tbls⟩,?_,fun x a e=>?_,I.free,I.freeC,fun p J=>?_,fun b u e=>?_,I.len⟩
 .have y:=I.base.keep b o e n B w;refine c.keep b o y (.inl (C.s0 b o e w)) (I.stkOut B fun z=>?_);have j:=I.ok.above;have f:b<X.s₀.heap.objs.size:=aR e;rw[z] at f;exact Nat.lt_irrefl _ (Nat.lt_of_lt_of_le f j)
 .obtain⟨N,y⟩:=I.base.slot b o e n B w
  by_cases t:b∈bp X.stack
  .obtain⟨E,O⟩:=c.slot b _ t y;exact⟨E,O⟩
  .exact absurd B (I.stkIn t)
 .obtain⟨Q,y⟩:=I.base.there b o e w;exact c.there b Q y
 .obtain⟨m,R,S⟩:=I.loc;refine⟨m,Eh (fun o h=>?_) R,fun i x v j f D=>?_⟩
  .by_cases t:X.env.locals∈bp X.stack
   .exact c.slot _ o t h
   .exact⟨o.slots,c.keep _ o h (.inl C.loc) t⟩
  .obtain⟨u,r,l⟩:=S i x v j f D;refine⟨u,r,?_⟩;rcases l with l | ⟨k,a,e,o,h,hd⟩
   .exact .inl l
   .obtain⟨A,j,f⟩:=G x a e o h;exact .inr ⟨k,a,e,A,j,f.trans hd⟩
 .obtain⟨v,o,h,hd⟩:=I.cell x a e;obtain⟨A,j,f⟩:=G x a e o h;exact⟨v,A,j,f.trans hd⟩
 .obtain⟨j,f,D,L,T⟩:=I.pin p J;exact⟨c.keep _ _ j (.inl (C.pin p J)) (I.stkOut L D),f,D,L,T⟩
 .refine(I.hok b u e).stay (fun d v hd q=>M d v q ?_) (fun _ q=>q) fun _ _ q=>q;rcases hd with rfl | hd
  .rw[e];exact fun z=>by cases z
  .rw[hd];exact fun z=>by cases z
noncomputable def dX(P:Program)(w:World):gq:=fun b H s E e c=>∃a C d,e=.ref a/\c.os=s.os/\AllBare c.gens/\Un (bp b) [] H d s.heap c.heap/\bG P w d c.heap/\em s.heap d c.heap a C (some .none)/\E C none d
structure Ei (X:Cx) (pins:List (Addr×Obj)) (Y:St) (H:Hp) (s:Shared) (e:Value) (c:Str):Prop where
 inv:Inv X pins Y H s
 ex:∃a C g fl,e=.ref a/\kB X pins g/\em g H s.heap a C fl/\X.mg c=some C
noncomputable def glob(x:Str):Option PyData:=if x="ANY_ZONE" then some (.tuple [.int 0,.tuple []]) else if x="NO_DEEDS" then some (.tuple []) else none
noncomputable def fA:HO->Bool
 | .tup _=>true
 | .frz _ (.tup _)=>true
 | _=>false
theorem Ej{u:HO}(h:fA u=true):¬ Mv u:=fun m=>by
 cases u with
 | tup _=>exact m
 | frz _ _=>exact m
 | _=>cases h
noncomputable def kC(H:Hp):Hp:=fun b=>match H b with
 | some u=>if fA u=true then some u else none
 | none=>none
theorem Ek{H:Hp}{b:Addr}{o:HO}(h:kC H b=some o):fA o=true/\H b=some o:=by
 unfold kC at h;split at h
 .rename_i u e;split at h
  .rename_i t;cases h;exact⟨t,e⟩
  .cases h
 .cases h
theorem El{H:Hp}{b:Addr}{u:HO}(t:fA u=true)(h:H b=some u):kC H b=some u:=by unfold kC;rw[h];exact if_pos t
def GH(mg:Str->Option Value)(H:Hp):Prop:=∀x d u,glob x=some d->mg x=some u->∃v,aP v u/\DV (kC H) v d
def GF(mg:Str->Option Value)(F:Fx):Prop:=GH mg fun b=>if b∈F.A₀ then none else F.H₀ b
theorem GH.mono{mg:Str->Option Value}{H a:Hp}(g:GH mg H)(k:∀b u,fA u=true->H b=some u->a b=some u):GH mg a:=fun x d u h i=>by obtain⟨v,r,c⟩:=g x d u h i;exact⟨v,r,DV.mono (fun b o e=>by obtain⟨t,f⟩:=Ek e;exact El t (k b o t f)) c⟩
theorem GF.at{mg:Str->Option Value}{K:Frag}{F:Fx}{H:Hp}{Y:St}{U:ag}{O:List Addr}(g:GF mg F)(st:au K F H Y U O):GH mg H:=GH.mono g fun b c t e=>by
 obtain⟨W,st,rfl⟩:=st;split at e
 .cases e
 .rename_i a;exact st.kept b _ a e
theorem GH.frame{mg:Str->Option Value}{H:Hp}{A O:List Addr}{io:Nat->Addr}(g:GH mg H)(h:∀a∈A,∃o,H a=some o/\Mv o):GF mg ⟨H,A,O,io⟩:=GH.mono g fun b d t e=>by show(if b∈A then none else H b)=_;rw[if_neg,e];intro z;obtain⟨o,c,m⟩:=h b z;rw[e] at c;cases c;exact Ej t m
theorem GF.into{mg:Str->Option Value}{K:Frag}{F:Fx}{H:Hp}{Y:St}{U:ag}{O b:List Addr}{io:Nat->Addr}(g:GF mg F)(st:au K F H Y U O):GF mg ⟨H,[],b,io⟩:=(g.at st).frame fun a h=>by cases h
def gB(X:Cx)(F:Fx)(E:Str->ag->Prop):Prop:=GF X.mg F/\∀(pins:List (Addr×Obj)) (Y:St) (H:Hp) (s:Shared) (e:Value) (c:Str) (U:ag) (O:List Addr),Ei X pins Y H s e c->au X.K F H Y U O->E c U->X.xe e s
theorem em.weak{g c:Heap}{H:Hp}{h:Heap}{a:Addr}{C:Value}{j:Option Value}(x:em g H h a C j)(k:∀b o,c.get? b=some o->∃d,g.get? b=some d):em c H h a C j:=by
 have l:∀b,g.get? b=none->c.get? b=none:=fun b e=>by
  cases q:c.get? b with
  | none=>rfl
  | some o=>obtain⟨d,i⟩:=k b o q;rw[e] at i;cases i
 obtain⟨y,lo,un,m,n,a0,p,r,hd,t,u⟩:=x;refine⟨fun b o e=>let⟨d,i⟩:=k b o e;y b d i,l a lo,un,m,n,a0,p,r,hd,t,u.imp id ?_⟩;rintro⟨T,oT,v,f,h1,h2,h3,w⟩;exact⟨T,oT,v,f,h1,h2,l T h3,w⟩
theorem _root_.L2.Inv.flies{E:XK}{e:Value}{f:Shared}(I:Inv X pins Y H s)(h:dX X.prog X.w X.stack H s E e f):∃a C c,e=.ref a/\Inv X pins Y c f/\kB X pins s.heap/\em s.heap c f.heap a C (some .none)/\E C none c:=by obtain⟨a,C,c,j,os,bare,un,hok,ex,q⟩:=h;obtain⟨k,g,d,t,i⟩:=f;obtain rfl:i = s.os:=os;exact⟨a,C,c,j,I.call (h':=k) (g':=g) (d':=d) (t':=t) (ch:=[]) un hok bare (fun b z=>absurd z (by simp)),I.cov,ex,q⟩
end
theorem Em{P:Program}{w:World}{K:Frag}{mg:Str->Option Value}{base:Heap}{N:List Str}{i:Str}{d:Scope}{f:Addr}{j:Value}{A:Around}{h:List Env}{s:Shared}{H:Hp}{E:XK}{F:Fx}{m:Str->ag->Prop}
  (u:GF mg F) (v:∀c C n x p y,mg c=some C->au K F p x n y->m c n->E C none p):gB (fT (dX P w) P w K mg base N i d f j A h s H E) F m:=by
 refine⟨u,?_⟩;intro r Y k B e c U O ⟨I,a,C,g,R,D,t,ex,G⟩ st q;subst D;have L:(A.deeper (envOfC i d s.heap.objs.size f j)).frames=some (envOfC i d s.heap.objs.size f j::h):=I.ok.frames;have M:∀b,B.heap.get? b=none->k b=none:=fun b z=>bG.some_of I.hok z;have stk:bp (envOfC i d s.heap.objs.size f j::h)=s.heap.objs.size::bp h:=rfl;refine Eg (base:=base) L I.stack rfl M ex fun S ch l=>?_;have J:=I.ch t ch;refine⟨a,C,k,rfl,J.os,J.bare,J.base,J.hok,l.weak fun b o Q=>t.s0 b o Q (by intro z;cases z),v c C U Y k O G st q⟩
noncomputable def Fx.plus(F:Fx)(a:List Addr):Fx:={ F with O₀:=a++F.O₀ }
theorem Fx.plus_plus{F:Fx}{l m:List Addr}:(F.plus l).plus m=F.plus (m++l):=by unfold Fx.plus;simp
section
variable{K:Frag}{F:Fx}{H H':Hp}{Y:St}{U:ag}{O O':List Addr}{W:List (List Addr)}{fp:List Addr}{v:V}{c:af}
structure gC (K:Frag) (F:Fx) (H:Hp) (Y:St) (U:ag) (O:List Addr) (v:V) (c:af) (fp:List Addr):Prop where
 st:au K (F.plus fp) H Y U O
 at_:cM K H O v c fp
 new:∀a∈fp,a∈F.A₀\/F.H₀ a=none
theorem fY(h:∀a∈O',a∈O):aJ O H O' H:=⟨fun _ _ _ e=>e,fun a z=>.inl (h a z)⟩
theorem bS.less{b:Fx}(st:bS K F H Y U W)(d:b.H₀=F.H₀)(f:b.A₀=F.A₀)(g:b.I₀=F.I₀)(m:b.O₀.Sublist F.O₀):bS K b H Y U W:=by have sub:(W.flatten++b.O₀).Sublist (W.flatten++F.O₀):=List.Sublist.append (List.Sublist.refl _) m;have mem:∀a∈W.flatten++b.O₀,a∈W.flatten++F.O₀:=fun a h=>sub.subset h;refine⟨fun i c e=>?_,st.nd.sublist sub,by rw[d,f];exact st.kept,by rw[d,f];exact st.new,fun a h=>st.live a (mem a h),st.len,st.lw,by rw[g];exact st.io⟩;obtain⟨v,fp,j,k,l⟩:=st.at_ i c e;exact⟨v,fp,j,k,l.keep (fY mem) (fun _ _=>rfl) (fun _ _ _ e=>e)⟩
theorem au.unplus(st:au K (F.plus fp) H Y U O):∃O',au K F H Y U O'/\aJ O H O' H/\(∀a∈fp,a∉O'):=by
 obtain⟨W,st,rfl⟩:=st;have b:bS K F H Y U W:=st.less rfl rfl rfl (List.sublist_append_right _ _);refine⟨_,⟨W,b,rfl⟩,fY fun a h=>?_,fun a d z=>?_⟩
 .rcases List.mem_append.mp h with h | h
  .exact bu _ h
  .exact be _ (be _ h)
 .have nd:(W.flatten++(fp++F.O₀)).Nodup:=st.nd;obtain⟨_,e,f⟩:=List.nodup_append.mp nd;rcases List.mem_append.mp z with z | z
  .exact f a z a (bu _ d) rfl
  .exact(List.nodup_append.mp e).2.2 a d a z rfl
theorem gC.drop(r:gC K F H Y U O v c fp):∃O',au K F H Y U O'/\aJ O H O' H:=let⟨O',h1,h2,_⟩:=r.st.unplus;⟨O',h1,h2⟩
@[simp] noncomputable def frz:af->Option PyData
 | .dat d=>some d
 | .own _ (.l a)=>some (.list a)
 | _=>none
theorem gC.frz{d:PyData}(r:gC K F H Y U O v c fp)(e:frz c=some d):∃O',au K F H Y U O'/\aJ O H O' H/\DV (aj O' H) v d:=by
 obtain⟨O',h1,h2,h3⟩:=r.st.unplus;refine⟨O',h1,h2,?_⟩;have f:=r.at_;cases c with
 | dat x=>cases e;exact DV.mono h2.hid f
 | scr ns=>cases e
 | exc c=>cases e
 | vw c=>cases e
 | own io b=>
  cases b with
  | l i=>cases e;obtain⟨a,rfl,rfl,j,g,h⟩:=f;exact .lst (fU g (h3 a (by simp))) (aC.mono h2.hid h)
  | m _ _=>cases e
  | o _ _=>cases e
  | sd _=>cases e
  | ll _=>cases e
  | pr _ _ _=>cases e
theorem En(st:au K F H Y U O){d:PyData}(h:DV (aj O H) v d):gC K F H Y U O v (.dat d) []:=⟨st,h,fun a h=>by cases h⟩
theorem au.put1{io:Bool}(st:au K (F.plus fp) H Y U O)(s:cM K H O v c fp)(new:∀a∈fp,a∈F.A₀\/F.H₀ a=none){i:Nat}(n:i<U.length)(o:∀b,c=.own true b->v=.ref (F.I₀ i)) :
  ∃O',au K F H (Y.set i (some v)) (U.set i (some c)) O'/\aJ O H O' H:=by
 obtain⟨W,st,rfl⟩:=st;have nd:(W.flatten++(fp++F.O₀)).Nodup:=st.nd;obtain⟨t,u,r⟩:=List.nodup_append.mp nd;obtain⟨x,y,A⟩:=List.nodup_append.mp u;have p:i<W.length:=by rw[st.lw];exact n
 have sub:∀a∈(W.set i fp).flatten++F.O₀,a∈W.flatten++(fp++F.O₀):=fun a h=>by
  rcases List.mem_append.mp h with h | h
  .rcases eZ h with h | ⟨j,l,_,e,q⟩
   .exact be _ (bu _ h)
   .exact bu _ (bZ e q)
  .exact be _ (be _ h)
 have f:=fY (H:=H) sub;refine⟨_,⟨W.set i fp,⟨fun j d e=>?_,mI (List.nodup_append.mpr ⟨t,y,fun a k b B=>r a k b (be _ B)⟩) x fun a k=>⟨fun j l _ e z=>r a (bZ e z) a (bu _ k) rfl,fun z=>A a k a z rfl⟩,st.kept,fun a h=>?_,fun a h=>st.live a (sub a h),by rw[List.length_set,List.length_set,st.len],by rw[List.length_set,List.length_set,st.lw],fun j b e=>?_⟩,rfl⟩,f⟩
 .rcases gy e with⟨rfl,g,_⟩ | ⟨m,g⟩
  .cases g;exact⟨v,fp,List.getElem?_set_self (by rw[<-st.len];exact n),List.getElem?_set_self p,s.keep f (fun _ _=>rfl) (fun _ _ _ e=>e)⟩
  .obtain⟨w,l,h1,h2,h3⟩:=st.at_ j d g;exact⟨w,l,by rw[List.getElem?_set_ne (Ne.symm m)];exact h1,by rw[List.getElem?_set_ne (Ne.symm m)];exact h2,h3.keep f (fun _ _=>rfl) (fun _ _ _ e=>e)⟩
 .rcases eZ h with h | ⟨j,l,_,e,q⟩
  .exact new a h
  .exact st.new a (bZ e q)
 .rcases gy e with⟨rfl,g,_⟩ | ⟨m,g⟩
  .rw[List.getElem?_set_self (by rw[<-st.len];exact n),o b (Option.some.inj g).symm]
  .rw[List.getElem?_set_ne (Ne.symm m)];exact st.io j b g
theorem au.take(st:au K F H Y U O){i:Nat}{io:Bool}{b:Bx}(e:U[i]? = some (some (.own io b))):∃a fp O',Y[i]? = some (some (.ref a))/\au K (F.plus fp) H Y (U.set i none) O'/\eO (aj O' H) H a b fp/\aJ O H O' H/\aJ O' H O H/\(∀a∈fp,a∈F.A₀\/F.H₀ a=none)/\(io=true->a=F.I₀ i):=by
 obtain⟨W,st,rfl⟩:=st;obtain⟨v,fp,h1,h2,a,rfl,h3⟩:=st.at_ i _ e;have G:i<U.length:=(List.getElem?_eq_some_iff.mp e).1;have I:i<W.length:=by rw[st.lw];exact G
 obtain⟨D,J,L⟩:=List.nodup_append.mp st.nd;have E:∀x∈(W.set i []).flatten++(fp++F.O₀),x∈W.flatten++F.O₀:=fun x h=>by
  rcases List.mem_append.mp h with h | h
  .rcases eZ h with h | ⟨j,l,_,g,m⟩
   .cases h
   .exact bu _ (bZ g m)
  .rcases List.mem_append.mp h with h | h
   .exact bu _ (bZ h2 h)
   .exact be _ h
 have M:∀x∈W.flatten++F.O₀,x∈(W.set i []).flatten++(fp++F.O₀):=fun x h=>by
  rcases List.mem_append.mp h with h | h
  .obtain⟨l,m,f⟩:=List.mem_flatten.mp h;obtain⟨j,n⟩:=List.getElem?_of_mem m
   by_cases s:j=i
   .subst s;rw[h2] at n;cases n;exact be _ (bu _ f)
   .exact bu _ (Di s n f)
  .exact be _ (be _ h)
 have t:fp.Nodup:=by
  have:∀{W:List (List Addr)}{i:Nat}{l:List Addr},W.flatten.Nodup->W[i]? = some l->l.Nodup:=fun {W i l} R m=>R.sublist (by
   have:=List.mem_of_getElem? m;exact List.sublist_flatten_of_mem this)
  exact this D h2
 have u:((W.set i []).flatten++(fp++F.O₀)).Nodup:=by
  have q:((W.set i []).flatten++([]++F.O₀)).Nodup:=mI (fp:=[]) (O:=F.O₀) st.nd List.nodup_nil (fun a h=>by cases h);obtain⟨A,_,B⟩:=List.nodup_append.mp q;refine List.nodup_append.mpr ⟨A,List.nodup_append.mpr ⟨t,J,fun x f y o z=>L x (bZ h2 f) y o z⟩,fun x f y o z=>?_⟩;subst z;rcases List.mem_append.mp o with o | o
  .rcases eZ f with f | ⟨j,l,n,g,m⟩
   .cases f
   .exact kw D h2 g (Ne.symm n) o m
  .exact B x f x o rfl
 have p:=fY (H:=H) E;have k:=fY (H:=H) M;refine⟨a,fp,_,h1,⟨W.set i [],⟨fun j d g=>?_,u,st.kept,fun x h=>?_,fun x h=>st.live x (E x h),by rw[List.length_set,st.len],by rw[List.length_set,List.length_set,st.lw],fun j N g=>?_⟩,rfl⟩,h3.keep (fun _ _=>rfl) p.hid,p,k,fun x f=>st.new x (bZ h2 f),fun C=>?_⟩
 .rcases gy g with⟨rfl,r,_⟩ | ⟨n,r⟩
  .cases r
  .obtain⟨w,l,A,Q,B⟩:=st.at_ j d r;exact⟨w,l,A,by rw[List.getElem?_set_ne (Ne.symm n)];exact Q,B.keep p (fun _ _=>rfl) (fun _ _ _ e=>e)⟩
 .rcases eZ h with h | ⟨j,l,_,g,m⟩
  .cases h
  .exact st.new x (bZ g m)
 .rcases gy g with⟨rfl,r,_⟩ | ⟨n,r⟩
  .cases r
  .exact st.io j N r
 .subst C;have:=st.io i b e;rw[h1] at this;cases this;rfl
theorem au.swap{L L':List Addr}(st:au K (F.plus L) H Y U O)(keep:∀b o,b∉L->H b=some o->H' b=some o)(D:L'.Nodup)(new:∀a∈L',a∈L\/H a=none)(t:∀a∈L,a∈F.A₀\/F.H₀ a=none)(l:∀a∈L',∃o,H' a=some o/\Mv o) :
  ∃O',au K (F.plus L') H' Y U O'/\aJ O H O' H'/\(∀a∈L',a∈O')/\(∀a∈O',a∈L'\/a∈O/\a∉L)/\∀a∈O,a∉L->a∈O':=by
 obtain⟨W,st,rfl⟩:=st;have m:(W.flatten++(L++F.O₀)).Nodup:=st.nd;obtain⟨w,x,p⟩:=List.nodup_append.mp m;obtain⟨E,y,A⟩:=List.nodup_append.mp x;have wl:∀a∈W.flatten,a∉L:=fun a h z=>p a h a (bu _ z) rfl;have ol:∀a∈F.O₀,a∉L:=fun a h z=>A a z a h rfl;have j:∀a∈W.flatten++F.O₀,∃o,H a=some o/\Mv o:=fun a h=>st.live a (by
  rcases List.mem_append.mp h with h | h
  .exact bu _ h
  .exact be _ (be _ h))
 have kp:∀a∈W.flatten++F.O₀,H' a=H a:=fun a h=>by obtain⟨o,e,_⟩:=j a h;rw[e];exact keep a o ((List.mem_append.mp h).elim (wl a) (ol a)) e
 have ap:∀a∈L',a∉W.flatten++F.O₀:=fun a h z=>by
  rcases new a h with q | q
  .rcases List.mem_append.mp z with z | z
   .exact wl a z q
   .exact ol a z q
  .obtain⟨o,e,_⟩:=j a z;rw[q] at e;cases e
 have f:aJ (W.flatten++(L++F.O₀)) H (W.flatten++(L'++F.O₀)) H':=⟨fun b o d e=>keep b o (fun z=>d (be _ (bu _ z))) e,fun a h=>by
  rcases List.mem_append.mp h with h | h
  .exact .inl (bu _ h)
  .rcases List.mem_append.mp h with h | h
   .exact(new a h).imp (fun z=>be _ (bu _ z)) id
   .exact .inl (be _ (be _ h))⟩
 have B:∀b o u,H b=some (.frz o u)->H' b=some (.frz o u):=fun b o u e=>keep b _ (fun z=>st.nofrz (be _ (bu _ z)) e) e;refine⟨_,⟨W,⟨fun i c e=>?_,?_,fun b o d e=>?_,st.new,fun a h=>?_,st.len,st.lw,st.io⟩,rfl⟩,f,fun a h=>be _ (bu _ h),fun a h=>?_,fun a h C=>?_⟩
 .obtain⟨v,fp,h1,h2,h3⟩:=st.at_ i c e;exact⟨v,fp,h1,h2,h3.keep f (fun b d=>kp b (bu _ (bZ h2 d))) B⟩
 .refine List.nodup_append.mpr ⟨w,List.nodup_append.mpr ⟨D,y,fun a k b d z=>?_⟩,fun a k b d z=>?_⟩
  .subst z;exact ap a k (be _ d)
  .subst z;rcases List.mem_append.mp d with d | d
   .exact ap a d (bu _ k)
   .exact p a k a (be _ d) rfl
 .have g:=st.kept b o d e
  by_cases r:b∈L
  .rcases t b r with q | q
   .exact absurd q d
   .have s:F.H₀ b=some o:=e;rw[q] at s;cases s
  .exact keep b o r g
 .rcases List.mem_append.mp h with h | h
  .obtain⟨o,g,n⟩:=j a (bu _ h);exact⟨o,by rw[kp a (bu _ h)];exact g,n⟩
  .rcases List.mem_append.mp h with h | h
   .exact l a h
   .obtain⟨o,g,n⟩:=j a (be _ h);exact⟨o,by rw[kp a (be _ h)];exact g,n⟩
 .rcases List.mem_append.mp h with h | h
  .exact .inr ⟨bu _ h,wl a h⟩
  .rcases List.mem_append.mp h with h | h
   .exact .inl h
   .exact .inr ⟨be _ (be _ h),ol a h⟩
 .rcases List.mem_append.mp h with h | h
  .exact bu _ h
  .rcases List.mem_append.mp h with h | h
   .exact absurd h C
   .exact be _ (be _ h)
end
abbrev fc:=ag->(af->ag->Prop)->Prop
def uD(t:fc):Prop:=∀U Q a,(∀c b,Q c b->a c b)->t U Q->t U a
noncomputable def Eo(K:Frag)(F:Fx)(t:fc):TE:=fun Y H Q=>∃U O,au K F H Y U O/\t U fun c d=>∀v a b e,gC K F a Y d b v c e->aJ O H b a->Q v a
structure DO (X:Cx) (F:Fx) (e:Expr) (t:fc):Prop where
 mn:uD t
 pe:PE X e (Eo X.K F t)
section
variable{X:Cx}{F:Fx}{e:Expr}{te:DT}{to:fc}
noncomputable def Ep(t:fc):DT:=fun U Q=>t U fun c a=>∃d,frz c=some d/\Q d a
theorem DO.de(h:DO X F e to):DE X F e (Ep to):=
 ⟨fun _ _ _ k q=>h.mn _ _ _ (fun _ _ a=>by obtain⟨d,e,q⟩:=a;exact⟨d,e,k _ _ q⟩) q,h.pe.imp fun Y H Q ⟨U,O,st,q⟩=>⟨U,O,st,h.mn _ _ _ (fun c m b v g n o r s=>by
  obtain⟨d,e,q⟩:=b;obtain⟨i,f,j,l⟩:=r.frz e;exact q v g i f (s.trans j) l) q⟩⟩
end
abbrev dB:=PyData->ag->(ag->Prop)->Prop
noncomputable def mP(K:Frag)(F:Fx)(t:dB):TG:=fun v Y H Q=>∃U O d,au K F H Y U O/\DV (aj O H) v d/\t d U fun e=>∀b a c,au K F a b e c->aJ O H c a->Q b a
structure DG (X:Cx) (F:Fx) (tg:Expr) (t:dB):Prop where
 mn:∀d U Q Q',(∀U',Q U'->Q' U')->t d U Q->t d U Q'
 pg:PG X tg (mP X.K F t)
abbrev hF:=List PyData->ag->(ag->Prop)->Prop
noncomputable def Er(K:Frag)(F:Fx)(t:hF):gn:=fun e Y H Q=>∃U O b,au K F H Y U O/\aC (aj O H) e b/\t b U fun f=>∀c a d,au K F a c f d->aJ O H d a->Q c a
structure kD (X:Cx) (F:Fx) (tg:List Expr) (t:hF):Prop where
 mn:∀d U Q Q',(∀U',Q U'->Q' U')->t d U Q->t d U Q'
 pg:PGs X tg (Er X.K F t)
theorem _root_.L2.PG.imp{X:Cx}{e:Expr}{t t':TG}(h:PG X e t)(k:∀v Y H Q,t' v Y H Q->t v Y H Q):PG X e t':=fun a s Y H v u Q I r q=>h a s Y H v u Q I r (k v Y H Q q)
theorem _root_.L2.PGs.imp{X:Cx}{e:List Expr}{t t':gn}(h:PGs X e t)(k:∀v Y H Q,t' v Y H Q->t v Y H Q):PGs X e t':=fun a s Y H v u Q I r q=>h a s Y H v u Q I r (k v Y H Q q)
section
variable{X:Cx}{F:Fx}{e:Expr}{es:List Expr}{pos:Pos}{x:Str}{t:dB}{ts:hF}
noncomputable def gN(i:Nat):dB:=fun d U Q=>Q (U.set i (some (.dat d)))
theorem Es{i:Nat}(h:PG X (.Name x pos) (ms i)):DG X F (.Name x pos) (gN i):=⟨fun _ _ _ _ k q=>k _ q,h.imp fun v Y H Q a=>by obtain⟨U,O,d,st,hd,q⟩:=a;exact q _ H O (st.set hd) .refl⟩
noncomputable def Et:hF:=fun a U Q=>a=[]/\Q U
noncomputable def Eu(t:dB)(u:hF):hF:=fun a U Q=>∃d r,a=d::r/\t d U fun b=>u r b Q
theorem Ev:kD X F [] Et:=⟨fun _ _ _ _ k q=>⟨q.1,k _ q.2⟩,AB.imp fun b Y H Q a=>by
 obtain⟨U,O,c,st,hd,e,q⟩:=a;subst e;cases hd;exact⟨rfl,q _ H O st .refl⟩⟩
theorem Ew(h:DG X F e t)(i:kD X F es ts)(l:autoParam ((assignEach (e::es) X.env).map (·.2)=assign e X.env::(assignEach es X.env).map (·.2)) Zq._auto_1):kD X F (e::es) (Eu t ts):=
 ⟨fun _ _ _ _ k a=>by obtain⟨d,r,e,q⟩:=a;exact⟨d,r,e,h.mn _ _ _ _ (fun _ c=>i.mn _ _ _ _ k c) q⟩,(AC h.pg i.pg l).imp fun y Y H Q b=>by
  obtain⟨U,O,z,st,hd,d,r,e,q⟩:=b;subst e;cases hd with
  | cons hd m=>
   exact⟨_,_,rfl,U,O,d,st,hd,h.mn _ _ _ _ (fun n c A B o f j=>⟨n,o,r,f,aC.mono j.hid m,i.mn _ _ _ _ (fun C p s u v g w=>p s u v g (j.trans w)) c⟩) q⟩⟩
noncomputable def Ex(n:Nat)(t:hF):dB:=fun d U Q=>∃a,d=.tuple a/\a.length=n/\t a U Q
theorem Ey{k n:Nat}(j:X.calm=true)(h:kD X F es ts)(m:autoParam ((assignEach es X.env).length=n) Zq._auto_1)(f:autoParam ((assignEach es X.env).findIdx? (·.1)=none) Zq._auto_1):DG X F (.Tuple es k pos) (Ex n ts):=
 ⟨fun _ _ _ _ k b=>by obtain⟨g,e,l,q⟩:=b;exact⟨g,e,l,h.mn _ _ _ _ k q⟩,(AE j h.pg m f).imp fun v Y H Q c=>by
  obtain⟨U,O,d,st,hd,g,e,l,q⟩:=c;subst e;obtain⟨a,o,rfl,p,i⟩:=hd.tup_inv;exact⟨a,o,rfl,.inl (gx p).1,by rw[i.length];exact l,U,O,g,st,i,q⟩⟩
end
structure dD where
 nx:ag->Prop
 rt:af->ag->Prop
 bk:ag->Prop:=fun _=>False
 ct:ag->Prop:=fun _=>False
abbrev cP:=dD->ag->Prop
structure gD (K:Frag) (F:Fx) (O:List Addr) (H:Hp) (D:eK) (DD:dD):Prop where
 nx:∀Y' H' U' O',au K F H' Y' U' O'->aJ O H O' H'->DD.nx U'->D.nx Y' H'
 rt:∀v Y' H' c U' O' fp,gC K F H' Y' U' O' v c fp->aJ O H O' H'->DD.rt c U'->D.rt v H'
 bk:∀Y' H' U' O',au K F H' Y' U' O'->aJ O H O' H'->DD.bk U'->D.bk Y' H'
 ct:∀Y' H' U' O',au K F H' Y' U' O'->aJ O H O' H'->DD.ct U'->D.ct Y' H'
theorem gD.later{K:Frag}{F:Fx}{O b:List Addr}{H d:Hp}{D:eK}{e:dD}(f:gD K F O H D e)(s:aJ O H b d):gD K F b d D e:=
 ⟨fun Y H U O st a q=>f.nx Y H U O st (s.trans a) q,fun v Y H c U O g r a q=>f.rt v Y H c U O g r (s.trans a) q,fun Y H U O st a q=>f.bk Y H U O st (s.trans a) q,fun Y H U O st a q=>f.ct Y H U O st (s.trans a) q⟩
noncomputable def uE(K:Frag)(F:Fx)(t:cP):TS:=fun D Y H=>∃U O a,au K F H Y U O/\t a U/\gD K F O H D a
def DS(X:Cx)(F:Fx)(s:Stmt)(t:cP):Prop:=PS X s (uE X.K F t)
def fe(X:Cx)(F:Fx)(s:List Stmt)(t:cP):Prop:=PSs X s (uE X.K F t)
section
variable{X:Cx}{F:Fx}{e:Expr}{es:List Expr}{st:Stmt}{rest:List Stmt}{t u:cP}{te:DT}{to:fc}{tA:cF}{tc:cg}{tg:dB}{pos:Pos}{x:Str}
noncomputable def Ez:cP:=fun D U=>D.nx U
noncomputable def EA(t u:cP):cP:=fun D U=>t { D with nx:=fun a=>u D a } U
theorem EB:fe X F [] Ez:=Ar.imp fun D Y H a=>by obtain⟨U,O,b,st,q,f⟩:=a;exact f.nx Y H U O st .refl q
theorem ED(j:DS X F st t)(k:fe X F rest u):fe X F (st::rest) (EA t u):=
 (As j k).imp fun D Y H a=>by obtain⟨U,O,c,s,q,f⟩:=a;exact⟨U,O,_,s,q,⟨fun l m d g b h i=>⟨d,g,c,b,i,f.later h⟩,f.rt,f.bk,f.ct⟩⟩
theorem EE(h:DS X F st t):fe X F [st] t:=At h
noncomputable def mQ(te:DT)(tg:dB):cP:=fun D U=>te U fun d a=>tg d a D.nx
theorem EF{a:Expr}(h:DE X F e te)(i:DG X F a tg)(j:autoParam (swapsWithSole [a] e pos.line X.env=pure false) Zq._auto_1)(k:autoParam (swappedStores [a] e X.env=pure none) Zq._auto_1)
  (B:autoParam ((assignEach [a] X.env).map (·.2)=[assign a X.env]) Zq._auto_1):DS X F (.Assign [a] e pos) (mQ te tg):=
 (AF h.pe i.pg j k B).imp fun D Y H b=>by obtain⟨U,O,C,st,q,f⟩:=b;exact⟨U,O,st,h.mn _ _ _ (fun d l m v E n c o p=>⟨l,n,d,c,p,i.mn _ _ _ _ (fun r s w y z g A=>f.nx w y r z g (o.trans A) s) m⟩) q⟩
theorem EG{i:Nat}{a:Pos}(h:X.N.Nodup)(j:X.N[i]? = some x)(k:Loc X.env.scope x)(g:DE X F e te)(l:autoParam (swapsWith e (some (.Name x a)) pos.line X.env=pure false) Zq._auto_1)
  (m:X.fn x=true\/X.env.scope.names.lookup x=some .local:=by first | exact .inl rfl | exact .inr rfl | assumption):DS X F (.Assign [.Name x a] e pos) (mQ te (gN i)):=
 (tw h j k g.pe l m).imp fun D Y H b=>by obtain⟨U,O,w,st,q,f⟩:=b;exact⟨U,O,st,g.mn _ _ _ (fun d y n v o p c r s=>f.nx _ o _ p (c.set s) r n) q⟩
noncomputable def EH(te:DT):cP:=fun D U=>te U fun d a=>D.rt (.dat d) a
theorem uF(c:DE X F e te):DS X F (.Return (some e) pos) (EH te):=
 (pZ c.pe).imp fun D Y H a=>by obtain⟨U,O,m,st,q,f⟩:=a;exact⟨U,O,st,c.mn _ _ _ (fun d g h v i j b k l=>f.rt v Y i (.dat d) g j [] (En b l) k h) q⟩
noncomputable def EI(to:fc):cP:=fun D U=>to U fun c a=>D.rt c a
theorem EJ(b:DO X F e to):DS X F (.Return (some e) pos) (EI to):=
 (pZ b.pe).imp fun D Y H a=>by obtain⟨U,O,l,st,q,f⟩:=a;exact⟨U,O,st,b.mn _ _ _ (fun c d g v h i j r k=>f.rt v Y h c d i j r k g) q⟩
noncomputable def EK(i:Nat):cP:=fun D U=>∃b,U[i]? = some (some (.own false b))/\D.rt (.own false b) (U.set i none)
theorem EL{i:Nat}{d:Pos}(g:PE X (.Name x d) (cV i)):DS X F (.Return (some (.Name x d)) pos) (EK i):=
 (pZ g).imp fun D Y H c=>by obtain⟨U,O,m,st,⟨b,e,q⟩,f⟩:=c;obtain⟨a,h,j,h1,h2,h3,k,n,l,_⟩:=st.take e;exact⟨_,h1,f.rt _ Y H (.own false b) _ j h ⟨h2,⟨a,rfl,h3⟩,l⟩ k q⟩
noncomputable def EM(i:Nat)(to:fc):cP:=fun D U=>to U fun c a=>i<a.length/\(∀b,c≠.own true b)/\D.nx (a.set i (some c))
theorem EN{i:Nat}{a:Pos}(j:X.N.Nodup)(k:X.N[i]? = some x)(l:Loc X.env.scope x)(h:DO X F e to)(m:autoParam (swapsWith e (some (.Name x a)) pos.line X.env=pure false) Zq._auto_1)
  (n:X.fn x=true\/X.env.scope.names.lookup x=some .local:=by first | exact .inl rfl | exact .inr rfl | assumption):DS X F (.Assign [.Name x a] e pos) (EM i to):=
 (tw j k l h.pe m n).imp fun D Y H ⟨U,O,C,st,q,f⟩=>⟨U,O,st,h.mn _ _ _ (fun c E d v o G I r p=>by
  obtain⟨s,w,y⟩:=d;obtain⟨A,g,B⟩:=au.put1 (io:=true) r.st r.at_ r.new s (fun b z=>absurd z (w b));exact f.nx _ o _ A g (p.trans B) y) q⟩
noncomputable def EO(to:fc):cP:=fun D U=>to U fun _ a=>D.nx a
theorem EQ(b:DO X F e to)(d:autoParam (swapsWith e none pos.line X.env=pure false) Zq._auto_1):DS X F (.Expr e pos) (EO to):=
 (tu b.pe d).imp fun D Y H ⟨U,O,j,st,q,f⟩=>⟨U,O,st,b.mn _ _ _ (fun c k g v l m n r h=>by
  obtain⟨o,a,i⟩:=r.drop;exact f.nx _ _ _ _ a (h.trans i) g) q⟩
noncomputable def ER(tc:cg)(t u:cP):cP:=fun D U=>tc U fun b a=>if b=true then t D a else u D a
theorem ES{c:Expr}{a b:List Stmt}(g:DB X F c tc)(m:fe X F a t)(n:fe X F b u):DS X F (.If c a b pos) (ER tc t u):=
 (Ax g.pt m n).imp fun D Y H ⟨U,O,h,st,q,f⟩=>⟨U,O,st,g.mn _ _ _ (fun b i j o k d l=>by
  cases b with
  | true=>exact ej ⟨i,k,h,d,iH j,f.later l⟩
  | false=>exact ei ⟨i,k,h,d,iI j,f.later l⟩) q⟩
end
inductive qR where
 | rt (c:af) (outs:List Bx) | ex (c:Str) (outs:List Bx) | bad
noncomputable abbrev FM:=List af->qR
inductive aD (K:Frag) (H:Hp) (O:List Addr):List V->List af->List (List Addr)->Prop where
 | nil:aD K H O [] [] []
 | dat {v:V}{d:PyData}{vs:List V}{cs:List af}{fps:List (List Addr)}:DV (aj O H) v d->aD K H O vs cs fps->aD K H O (v::vs) (.dat d::cs) ([]::fps)
 | oth {v:V}{c:af}{vs:List V}{cs:List af}{fps:List (List Addr)}:(∀d,c≠.dat d)->(∀io b,c≠.own io b)->cM K H O v c []->aD K H O vs cs fps->aD K H O (v::vs) (c::cs) ([]::fps)
 | own {a:Addr}{b:Bx}{fp:List Addr}{vs:List V}{cs:List af}{fps:List (List Addr)}:eO (aj O H) H a b fp->aD K H O vs cs fps->aD K H O (.ref a::vs) (.own true b::cs) (fp::fps)
inductive aK (H:Hp) (O:List Addr):List V->List af->List Bx->List (List Addr)->Prop where
 | nil:aK H O [] [] [] []
 | skip {v:V}{c:af}{vs:List V}{cs:List af}{bs:List Bx}{fps:List (List Addr)}:(∀io b,c≠.own io b)->aK H O vs cs bs fps->aK H O (v::vs) (c::cs) bs fps
 | own {a:Addr}{io:Bool}{b b':Bx}{fp:List Addr}{vs:List V}{cs:List af}{bs:List Bx}{fps:List (List Addr)}:eO (aj O H) H a b' fp->aK H O vs cs bs fps->aK H O (.ref a::vs) (.own io b::cs) (b'::bs) (fp::fps)
structure iK (H H':Hp) (L L' O₀:List Addr):Prop where
 nd:(L'++O₀).Nodup
 live:∀a∈L',∃o,H' a=some o/\Mv o
 keep:∀b o,b∉L->H b=some o->H' b=some o
 new:∀a∈L',a∈L\/H a=none
noncomputable def gE(K:Frag)(mg:Str->Option Value)(f:FM):Sp:=fun j H Q E=>GH mg H/\∃(cs:List af) (d:List (List Addr)) (h:List Addr),aD K H (d.flatten++h) j cs d/\(d.flatten++h).Nodup/\(∀a∈d.flatten++h,∃o,H a=some o/\Mv o)/\
 match f cs with
 | .rt c e=>∀v g i b,cM K g (b.flatten++i++h) v c i->aK g (b.flatten++i++h) j cs e b->iK H g d.flatten (b.flatten++i) h->Q v g
 | .ex c e=>∀C g b,mg c=some C->aK g (b.flatten++h) j cs e b->iK H g d.flatten b.flatten h->E C none g
 | .bad=>False
theorem aD.len{K:Frag}{H:Hp}{O:List Addr}{c:List V}{cs:List af}{b:List (List Addr)}(h:aD K H O c cs b):c.length=cs.length/\b.length=cs.length:=by
 induction h with
 | nil=>exact⟨rfl,rfl⟩
 | dat _ _ a=>exact⟨congrArg Nat.succ a.1,congrArg Nat.succ a.2⟩
 | oth _ _ _ _ a=>exact⟨congrArg Nat.succ a.1,congrArg Nat.succ a.2⟩
 | own _ _ a=>exact⟨congrArg Nat.succ a.1,congrArg Nat.succ a.2⟩
theorem aD.get{K:Frag}{H:Hp}{O:List Addr}{d:List V}{cs:List af}{a:List (List Addr)}(h:aD K H O d cs a):∀(i:Nat) (c:af),cs[i]? = some c->∃v f,d[i]? = some v/\a[i]? = some f/\cM K H O v c f:=by
 induction h with
 | nil=>intro i c e;simp at e
 | dat h _ b=>
  intro i c e;cases i with
  | zero=>simp at e;subst e;exact⟨_,_,rfl,rfl,h⟩
  | succ i=>exact b i c (by simpa using e)
 | oth _ _ h _ b=>
  intro i c e;cases i with
  | zero=>simp at e;subst e;exact⟨_,_,rfl,rfl,h⟩
  | succ i=>exact b i c (by simpa using e)
 | own h _ b=>
  intro i c e;cases i with
  | zero=>simp at e;subst e;exact⟨_,_,rfl,rfl,⟨_,rfl,h⟩⟩
  | succ i=>exact b i c (by simpa using e)
theorem aD.mono{K:Frag}{H:Hp}{O c:List Addr}{d:List V}{cs:List af}{a:List (List Addr)}(h:aD K H O d cs a)(s:aJ O H c H):aD K H c d cs a:=by
 induction h with
 | nil=>exact .nil
 | dat h _ b=>exact .dat (DV.mono s.hid h) b
 | oth h1 h2 h _ b=>exact .oth h1 h2 (h.keep s (fun _ _=>rfl) (fun _ _ _ e=>e)) b
 | own h _ b=>exact .own (h.keep (fun _ _=>rfl) s.hid) b
theorem aK.mono{H:Hp}{O c:List Addr}{d:List V}{cs:List af}{bs:List Bx}{a:List (List Addr)}(h:aK H O d cs bs a)(s:aJ O H c H):aK H c d cs bs a:=by
 induction h with
 | nil=>exact .nil
 | skip h1 _ b=>exact .skip h1 b
 | own h _ b=>exact .own (h.keep (fun _ _=>rfl) s.hid) b
inductive fB where
 | nx (U:ag) | rt (c:af) (U:ag) | bk (U:ag) | ct (U:ag) | ex (c:Str) (U:ag) | bad
noncomputable abbrev SM:=ag->fB
noncomputable def wpS(E:Str->ag->Prop)(m:SM):cP:=fun D U=>match m U with
 | .nx a=>D.nx a
 | .rt c a=>D.rt c a
 | .bk a=>D.bk a
 | .ct a=>D.ct a
 | .ex c a=>E c a
 | .bad=>False
@[simp] noncomputable def cR:List af->ag->Option (List Bx)
 | [],_=>some []
 | .own _ _::cs,some (.own true b)::U=>(cR cs U).map (b::·)
 | .own _ _::_,_=>none
 | _::cs,_::U=>cR cs U
 | _::_,[]=>none
@[simp] noncomputable def bL(n N:Nat)(m:SM):FM:=fun cs=>if cs.length=n then(match m (cs.map some++List.replicate (N - n) none) with
 | .nx U=>(match cR cs U with | some o=>.rt (.dat .none) o | none=>.bad)
 | .rt c U=>(match cR cs U with | some o=>.rt c o | none=>.bad)
 | .ex c U=>(match cR cs U with | some o=>.ex c o | none=>.bad)
 | _=>.bad) else .bad
section
variable{K:Frag}{F:Fx}{H:Hp}{Y:St}{U:ag}{W:List (List Addr)}
theorem qS{α:Type}{l:List α}{k:Nat}{x:α}{r:List α}(h:l.drop k=x::r):l[k]? = some x/\l.drop (k+1)=r:=by
 constructor
 .rw[<-List.head?_drop,h];rfl
 .rw[<-List.drop_drop,h];rfl
theorem qT(st:bS K F H Y U W):∀(cs:List af) (l:List V) (k:Nat) (g:List Bx),l.length=cs.length->(∀(i:Nat) io b,cs[i]? = some (.own io b)->l[i]? = some (.ref (F.I₀ (k+i))))->cR cs (U.drop k)=some g->
  ∃j,aK H (W.flatten++F.O₀) l cs g j/\j.flatten.Sublist (W.drop k).flatten
 | [],[],k,g,_,_,e=>by cases e;exact⟨[],.nil,by simp⟩
 | [],_::_,_,_,m,_,_=>by cases m
 | _::_,[],_,_,m,_,_=>by cases m
 | c::cs,v::l,k,g,m,hI,e=>by
  have p:l.length=cs.length:=Nat.succ.inj m;have t:∀(i:Nat) io b,cs[i]? = some (.own io b)->l[i]? = some (.ref (F.I₀ (k+1+i))):=fun i io b h=>by have:=hI (i+1) io b (by simpa using h);rw[show k+1+i=k+(i+1) by lia];simpa using this
  have y:(W.drop (k+1)).flatten.Sublist (W.drop k).flatten:=by
   cases A:W.drop k with
   | nil=>rw[show W.drop (k+1)=[] from by rw[<-List.drop_drop,A];rfl];exact List.Sublist.refl _
   | cons w r=>rw[(qS A).2,List.flatten_cons];exact List.sublist_append_right _ _
  cases hd:U.drop k with
  | nil=>
   rw[hd] at e;cases c with
   | own io b=>cases e
   | dat d=>cases e
   | scr n=>cases e
   | exc n=>cases e
   | vw n=>cases e
  | cons x r=>
   obtain⟨I,h2⟩:=qS hd;rw[hd] at e;have f:(∀io b,c≠.own io b)->cR cs r=some g->∃j,aK H (W.flatten++F.O₀) (v::l) (c::cs) g j/\j.flatten.Sublist (W.drop k).flatten:=fun J L=>by obtain⟨j,o,s⟩:=qT st cs l (k+1) g p t (by rw[h2];exact L);exact⟨j,.skip J o,s.trans y⟩
   cases c with
   | dat d=>exact f (fun _ _ z=>by cases z) e
   | scr n=>exact f (fun _ _ z=>by cases z) e
   | exc n=>exact f (fun _ _ z=>by cases z) e
   | vw n=>exact f (fun _ _ z=>by cases z) e
   | own io b=>
    cases x with
    | none=>cases e
    | some x=>
     cases x with
     | dat d=>cases e
     | scr n=>cases e
     | exc n=>cases e
     | vw n=>cases e
     | own B M=>
      cases B with
      | false=>cases e
      | true=>
       cases q:cR cs r with
       | none=>simp[cR,q] at e
       | some N=>
        simp[cR,q] at e;subst e;obtain⟨j,o,s⟩:=qT st cs l (k+1) N p t (by rw[h2];exact q);obtain⟨u,O,Q,C,a,rfl,R⟩:=st.at_ k _ I;have E:=st.io k M I;rw[Q] at E;have S:a=F.I₀ k:=by cases E;rfl
        have T:=hI 0 io b rfl;have D:v=.ref a:=by rw[S];simpa using T
        subst D;refine⟨O::j,.own R o,?_⟩;cases A:W.drop k with
        | nil=>rw[<-List.head?_drop,A] at C;cases C
        | cons w Z=>obtain⟨G,X⟩:=qS A;rw[C] at G;cases G;rw[List.flatten_cons,List.flatten_cons];rw[X] at s;exact List.Sublist.append (List.Sublist.refl _) s
end
theorem kE{α:Type}(n:Nat):(List.replicate n ([]:List α)).flatten=[]:=by induction n with | zero=>rfl | succ n a=>rw[List.replicate_succ,List.flatten_cons,a];rfl
noncomputable def gF(N n:Nat)(cs:List af):ag:=cs.map some++List.replicate (N - n) none
section
variable{P:Program}{w:World}{K:Frag}{mg:Str->Option Value}{base:Heap}{x qual:Str}{st:Stmt}{f:Addr}{fd:FuncData}{N ps:List Str}{k:Nat}{m:SM}
noncomputable def jy(b:List V)(i:Nat):Addr:=match b[i]? with
 | some (.ref a)=>a
 | _=>0
theorem ET{H:Hp}{j:List V}{cs:List af}{g:List (List Addr)}{n:List Addr}(p:aD K H (g.flatten++n) j cs g)(r:(g.flatten++n).Nodup)(live:∀a∈g.flatten++n,∃o,H a=some o/\Mv o)(t:cs.length<=N.length) :
  bS K ⟨H,g.flatten,n,jy j⟩ H (start N j) (gF N.length cs.length cs) (g++List.replicate (N.length - cs.length) []):=by
 have l:(g++List.replicate (N.length - cs.length) ([]:List Addr)).flatten=g.flatten:=by rw[List.flatten_append,kE,List.append_nil]
 obtain⟨s,l2⟩:=p.len;have get:∀(i:Nat) c,(gF N.length cs.length cs)[i]? = some (some c)->cs[i]? = some c:=fun i c e=>by
  unfold gF at e
  by_cases h:i<cs.length
  .rw[List.getElem?_append_left (by simpa using h),List.getElem?_map] at e;obtain⟨d,h1,h2⟩:=Option.map_eq_some_iff.mp e;cases h2;exact h1
  .rw[List.getElem?_append_right (by simpa using Nat.le_of_not_lt h),List.getElem?_replicate] at e;split at e<;>cases e
 have put:∀(i:Nat) v,j[i]? = some v->(start N j)[i]? = some (some v):=fun i v e=>by unfold start;rw[List.getElem?_append_left (by simpa using(List.getElem?_eq_some_iff.mp e).1),List.getElem?_map,e];rfl
 refine⟨fun i c e=>?_,by rw[l];exact r,fun _ _ _ h=>h,fun a h=>.inl (by rw[l] at h;exact h),by rw[l];exact live,?_,?_,fun i b e=>?_⟩
 .obtain⟨v,q,h1,h2,h3⟩:=p.get i c (get i c e);exact⟨v,q,put i v h1,by rw[List.getElem?_append_left (List.getElem?_eq_some_iff.mp h2).1];exact h2,by rw[l];exact h3⟩
 .unfold gF start;rw[List.length_append,List.length_append,List.length_map,List.length_map,List.length_replicate,List.length_replicate,s]
 .unfold gF;rw[List.length_append,List.length_append,List.length_map,List.length_replicate,List.length_replicate,l2]
 .obtain⟨v,q,h1,h2,a,rfl,h3⟩:=p.get i _ (get i _ e);rw[put i _ h1];show _=some (some (V.ref (jy j i)));unfold jy;rw[h1]
theorem aD.ios{H:Hp}{O:List Addr}{c:List V}{cs:List af}{d:List (List Addr)}(h:aD K H O c cs d):∀(i:Nat) io b,cs[i]? = some (.own io b)->c[i]? = some (.ref (jy c (0+i))):=fun i io b e=>by obtain⟨v,g,h1,_,a,rfl,_⟩:=h.get i _ e;rw[Nat.zero_add];unfold jy;rw[h1]
theorem uG(Fn:ko K x qual st f fd)(S:bI N ps (dS st))(hN:ps.length<=N.length)
  (a0:∀(y:Value) (A:Around) (t:List Env) (s:Shared) (H:Hp) (E:XK) (F:Fx) (Z:Str->ag->Prop),bq k (A.deeper (envOfC qual (dS st) s.heap.objs.size f y))->gB (fT (dX P w) P w K mg base N qual (dS st) f y A t s H E) F Z->
   fe (fT (dX P w) P w K mg base N qual (dS st) f y A t s H E) F (gX st) (wpS Z m)):bV P w K mg base (dX P w) (k+1) f fd ps (gE K mg (bL ps.length N.length m)):=by
 obtain⟨oc,od,kV,a4,pm,an,y,ct,a5,rfl,lk,a1⟩:=Fn.ex;have G:∀B H Q E,gE K mg (bL ps.length N.length m) B H Q E->B.length=ps.length:=fun B H Q E L=>by
  obtain⟨_,cs,u,O₀,M,_,_,q⟩:=L;rw[M.len.1];unfold bL at q
  by_cases h:cs.length=ps.length
  .exact h
  .rw[if_neg h] at q;exact q.elim
 refine By lk a1 S G fun A t s H B Q E hr O=>?_;have a6:=G B H Q E O;obtain⟨gh,cs,u,O₀,M,nd,live,q⟩:=O;obtain⟨l1,l2⟩:=M.len;have R:cs.length=ps.length:=by lia
 let F:Fx:=⟨H,u.flatten,O₀,jy B⟩
 have T:=ET (N:=N) M nd live (by lia);have fin:∀{X:St}{j:Hp}{l:ag}{J:List Addr}{fp:List Addr}{g:List Bx},au K (F.plus fp) j X l J->(∀a∈fp,a∈F.A₀\/F.H₀ a=none)->cR cs l = some g->∃d,aK j (d.flatten++fp++O₀) B cs g d/\iK H j u.flatten (d.flatten++fp) O₀/\aJ J j (d.flatten++fp++O₀) j:=by
  rintro X j l J fp g ⟨W,n,rfl⟩ a2 p;obtain⟨d,o,sb⟩:=qT n cs B 0 g l1 (fun i io b e=>M.ios i io b e) p;have Y:d.flatten.Sublist W.flatten:=sb;have sub:(d.flatten++fp++O₀).Sublist (W.flatten++(fp++O₀)):=by rw[List.append_assoc];exact List.Sublist.append Y (List.Sublist.refl _)
  have D:aJ (W.flatten++(fp++O₀)) j (d.flatten++fp++O₀) j:=fY fun a h=>sub.subset h;refine⟨d,o.mono D,⟨n.nd.sublist sub,fun a h=>n.live a (sub.subset (bu _ h)),fun b o hb e=>n.kept b o hb e,fun a h=>?_⟩,D⟩;rcases List.mem_append.mp h with h | h
  .exact n.new a (Y.subset h)
  .exact a2 a h
 have a3:bL ps.length N.length m cs=(match m (gF N.length ps.length cs) with
  | .nx U=>(match cR cs U with | some o=>.rt (.dat .none) o | none=>.bad)
  | .rt c U=>(match cR cs U with | some o=>.rt c o | none=>.bad)
  | .ex c U=>(match cR cs U with | some o=>.ex c o | none=>.bad)
  | _=>.bad):=by unfold bL gF;rw[if_pos R]
 rw[a3] at q;rw[R] at T;let Z:Str->ag->Prop:=fun c l=>∃g,cR cs l = some g/\∀C j d,mg c=some C->aK j (d.flatten++O₀) B cs g d->iK H j u.flatten d.flatten O₀->E C none j;refine⟨_,a0 y A t s H E F Z hr (Em (gh.frame fun a h=>live a (bu _ h)) fun c C l X j J I n ⟨g,p,k⟩=>?_),?_⟩
 .obtain⟨d,o,b,_⟩:=fin (fp:=[]) n (fun a h=>by cases h) p;rw[List.append_nil] at o b;exact k C j d I o b
 .refine⟨gF N.length ps.length cs,_,⟨fun l=>∃g,cR cs l = some g/\∀j d,aK j (d.flatten++[]++O₀) B cs g d->iK H j u.flatten (d.flatten++[]) O₀->Q .non j,fun c l=>∃g,cR cs l = some g/\∀v j fp d,cM K j (d.flatten++fp++O₀) v c fp->aK j (d.flatten++fp++O₀) B cs g d->iK H j u.flatten (d.flatten++fp) O₀->Q v j,fun _=>False,fun _=>False⟩,⟨_,T,rfl⟩,?_,?_⟩
  .unfold wpS;cases I:m (gF N.length ps.length cs) with
   | nx l=>
    rw[I] at q;cases p:cR cs l with
    | none=>simp[p] at q
    | some g=>simp only[p] at q;exact⟨g,p,fun j d o b=>q .non j [] d .non o b⟩
   | rt c l=>
    rw[I] at q;cases p:cR cs l with
    | none=>simp[p] at q
    | some g=>simp only[p] at q;exact⟨g,p,q⟩
   | ex c l=>
    rw[I] at q;cases p:cR cs l with
    | none=>simp[p] at q
    | some g=>simp only[p] at q;exact⟨g,p,q⟩
   | bk l=>rw[I] at q;exact q
   | ct l=>rw[I] at q;exact q
   | bad=>rw[I] at q;exact q
  .refine⟨fun X j l J n s' ⟨g,p,k⟩=>?_,fun v X j c l J fp r s' ⟨g,p,k⟩=>?_,fun _ _ _ _ _ _ z=>z.elim,fun _ _ _ _ _ _ z=>z.elim⟩
   .obtain⟨d,o,b,_⟩:=fin (fp:=[]) n (fun a h=>by cases h) p;exact k j d o b
   .obtain⟨d,o,b,D⟩:=fin r.st r.new p;exact k v j fp d (r.at_.keep D (fun _ _=>rfl) (fun _ _ _ e=>e)) o b
end
inductive AX where
 | d (x:PyData) | s (j:Nat)
inductive cW (Y:St) (G:Hp):List V->List AX->Prop where
 | nil:cW Y G [] []
 | d {v:V}{x:PyData}{vs:List V}{as:List AX}:DV G v x->cW Y G vs as->cW Y G (v::vs) (.d x::as)
 | s {v:V}{j:Nat}{vs:List V}{as:List AX}:Y[j]? = some (some v)->cW Y G vs as->cW Y G (v::vs) (.s j::as)
abbrev ff:=ag->(List AX->ag->Prop)->Prop
def uH(t:ff):Prop:=∀U Q a,(∀d b,Q d b->a d b)->t U Q->t U a
noncomputable def EU(K:Frag)(F:Fx)(t:ff):TA:=fun Y H Q=>∃U O,au K F H Y U O/\t U fun as d=>∀c a b,au K F a Y d b->aJ O H b a->cW Y (aj b a) c as->Q c a
structure DX (X:Cx) (F:Fx) (es:List Expr) (t:ff):Prop where
 mn:uH t
 pa:PA X es (EU X.K F t)
section
variable{X:Cx}{F:Fx}{e:Expr}{es:List Expr}{te:DT}{tX:ff}{x:Str}{p:Pos}{j:Nat}
noncomputable def EV:ff:=fun U Q=>Q [] U
noncomputable def EW(te:DT)(t:ff):ff:=fun U Q=>te U fun d a=>t a fun as b=>Q (.d d::as) b
noncomputable def EY(j:Nat)(t:ff):ff:=fun U Q=>(∃c,U[j]? = some (some c))/\t U fun as a=>Q (.s j::as) a
theorem EZ:DX X F [] EV:=⟨fun _ _ _ k q=>k _ _ q,eX.imp fun Y H Q a=>by obtain⟨U,O,st,q⟩:=a;exact q [] H O st .refl .nil⟩
theorem Fa(b:DE X F e te)(c:DX X F es tX)(m:autoParam (starEach (e::es) X.env=(false,eval e X.env)::starEach es X.env) Zq._auto_1):DX X F (e::es) (EW te tX):=
 ⟨fun _ _ _ k q=>b.mn _ _ _ (fun _ _ f=>c.mn _ _ _ (fun _ _ g=>k _ _ g) f) q,(eL b.pe c.pa m).imp fun Y H Q a=>by obtain⟨U,O,st,q⟩:=a;exact 
  ⟨U,O,st,b.mn _ _ _ (fun d n f v z o h r s=>⟨n,o,h,c.mn _ _ _ (fun as A g t u w i l y=>g (v::t) u w i (r.trans l) (.d (DV.mono l.hid s) y)) f⟩) q⟩⟩
theorem Fb(i:PE X (.Name x p) (cV j))(d:DX X F es tX)(l:autoParam (starEach (.Name x p::es) X.env=(false,eval (.Name x p) X.env)::starEach es X.env) Zq._auto_1):DX X F (.Name x p::es) (EY j tX):=
 ⟨fun _ _ _ k a=>by obtain⟨h,q⟩:=a;exact⟨h,d.mn _ _ _ (fun _ _ f=>k _ _ f) q⟩,(eL i d.pa l).imp fun Y H Q b=>by
  obtain⟨U,O,st,⟨c,m⟩,q⟩:=b;obtain⟨W,h,rfl⟩:=id st;obtain⟨v,w,h1,h2,h3⟩:=h.at_ j c m;exact⟨v,h1,U,_,st,d.mn _ _ _ (fun as y f n o r g t u=>f (v::n) o r g t (.s h1 u)) q⟩⟩
end
@[simp] noncomputable def fC(U:ag):List AX->Option (List af×List (Nat×Bool))
 | []=>some ([],[])
 | .d x::as=>(match fC U as with | some (cs,a)=>some (.dat x::cs,a) | none=>none)
 | .s j::as=>(match fC U as with
  | some (cs,a)=>(match U[j]? with
   | some (some (.own io b))=>if a.any (fun p=>p.1==j) then none else some (.own true b::cs,(j,io)::a)
   | some (some c)=>some (c::cs,a)
   | _=>none)
  | none=>none)
@[simp] noncomputable def er:List (Nat×Bool)->ag->ag
 | [],U=>U
 | (j,_)::r,U=>(er r U).set j none
@[simp] noncomputable def bX:List (Nat×Bool)->List Bx->ag->ag
 | (j,io)::r,b::bs,U=>bX r bs (U.set j (some (.own io b)))
 | _,_,U=>U
theorem uI{a:List (Nat×Bool)}{U:ag}:(er a U).length=U.length:=by
 induction a with
 | nil=>rfl
 | cons p r b=>obtain⟨j,io⟩:=p;rw[er,List.length_set,b]
theorem Fc{a:List (Nat×Bool)}{U:ag}{i:Nat}(h:∀p∈a,p.1≠i):(er a U)[i]? = U[i]?:=by
 induction a with
 | nil=>rfl
 | cons p r b=>obtain⟨j,io⟩:=p;rw[er,List.getElem?_set_ne (h (j,io) List.mem_cons_self),b fun q c=>h q (bh _ c)]
inductive dE (Y:St) (F:Fx) (n:Nat):List V->List af->List (Nat×Bool)->Prop where
 | nil:dE Y F n [] [] []
 | skip {v:V}{c:af}{vs:List V}{cs:List af}{js:List (Nat×Bool)}:(∀io b,c≠.own io b)->dE Y F n vs cs js->dE Y F n (v::vs) (c::cs) js
 | own {a:Addr}{io:Bool}{b:Bx}{j:Nat}{vs:List V}{cs:List af}{js:List (Nat×Bool)}:Y[j]? = some (some (.ref a))->(io=true->a=F.I₀ j)->j<n->dE Y F n vs cs js->dE Y F n (.ref a::vs) (.own true b::cs) ((j,io)::js)
section
variable{K:Frag}{F:Fx}{H H':Hp}{Y:St}{U:ag}{O O':List Addr}
theorem qU(st:au K F H Y U O):∀(as:List AX) (l:List V) (cs:List af) (t:List (Nat×Bool)),fC U as=some (cs,t)->cW Y (aj O H) l as->
  ∃f O',au K (F.plus f.flatten) H Y (er t U) O'/\aD K H O' l cs f/\aJ O H O' H/\aJ O' H O H/\(∀a∈f.flatten,a∈F.A₀\/F.H₀ a=none)/\dE Y F U.length l cs t
 | [],l,cs,t,e,h=>by cases e;cases h;refine⟨[],O,st,.nil,.refl,.refl,?_,.nil⟩;intro a h;cases h
 | .d x::as,l,cs,t,e,h=>by
  cases h with
  | d w E=>
   unfold fC at e;cases q:fC U as with
   | none=>rw[q] at e;cases e
   | some p=>obtain⟨k,g⟩:=p;rw[q] at e;simp only[Option.some.injEq,Prod.mk.injEq] at e;obtain⟨T,X⟩:=e;obtain⟨f,O',m,r,o,A,B,C⟩:=qU st as _ k g q E;subst T X;exact⟨[]::f,O',m,.dat (DV.mono o.hid w) r,o,A,B,.skip (fun _ _ z=>by cases z) C⟩
 | .s j::as,l,cs,t,e,h=>by
  cases h with
  | @s v _ l _ w E=>
   unfold fC at e;cases q:fC U as with
   | none=>rw[q] at e;cases e
   | some p=>
    obtain⟨k,g⟩:=p;rw[q] at e;obtain⟨f,O',m,r,o,A,B,C⟩:=qU st as _ k g q E;cases u:U[j]? with
    | none=>rw[u] at e;cases e
    | some Z=>
     cases Z with
     | none=>rw[u] at e;cases e
     | some c=>
      rw[u] at e;obtain⟨W,G,I⟩:=id st;obtain⟨D,a0,h1,h2,h3⟩:=G.at_ j c u;rw[w] at h1;have J:D = v:=by cases h1;rfl
      subst J;rw[<-I] at h3;have other:(∀io b,c≠.own io b)->∃f O',au K (F.plus f.flatten) H Y (er g U) O'/\aD K H O' (D::l) (c::k) f/\aJ O H O' H/\aJ O' H O H/\(∀a∈f.flatten,a∈F.A₀\/F.H₀ a=none)/\dE Y F U.length (D::l) (c::k) g:=fun N=>by
       refine⟨[]::f,O',m,?_,o,A,B,.skip N C⟩;cases c with
       | dat d=>exact .dat (DV.mono o.hid h3) r
       | own io b=>exact absurd rfl (N io b)
       | scr ns=>exact .oth (fun _ z=>by cases z) (fun _ _ z=>by cases z) (cM.keep (c:=.scr ns) (fp:=[]) h3 o (fun _ _=>rfl) (fun _ _ _ e=>e)) r
       | exc n=>exact .oth (fun _ z=>by cases z) (fun _ _ z=>by cases z) (cM.keep (c:=.exc n) (fp:=[]) h3 o (fun _ _=>rfl) (fun _ _ _ e=>e)) r
       | vw n=>exact .oth (fun _ z=>by cases z) (fun _ _ z=>by cases z) (cM.keep (c:=.vw n) (fp:=[]) h3 o (fun _ _=>rfl) (fun _ _ _ e=>e)) r
      cases c with
      | dat d=>simp only[Option.some.injEq,Prod.mk.injEq] at e;rw[<-e.1,<-e.2];exact other (fun _ _ z=>by cases z)
      | scr ns=>simp only[Option.some.injEq,Prod.mk.injEq] at e;rw[<-e.1,<-e.2];exact other (fun _ _ z=>by cases z)
      | exc n=>simp only[Option.some.injEq,Prod.mk.injEq] at e;rw[<-e.1,<-e.2];exact other (fun _ _ z=>by cases z)
      | vw n=>simp only[Option.some.injEq,Prod.mk.injEq] at e;rw[<-e.1,<-e.2];exact other (fun _ _ z=>by cases z)
      | own io b=>
       by_cases L:g.any (fun p=>p.1==j)=true
       .simp only[if_pos L] at e;cases e
       .simp only[if_neg L,Option.some.injEq,Prod.mk.injEq] at e;rw[<-e.1,<-e.2];have M:∀p∈g,p.1≠j:=fun p hp z=>L (List.any_eq_true.mpr ⟨p,hp,by simp[z]⟩);obtain⟨a,fp,O2,Q,R,t3,S,t5,t6,t7⟩:=m.take (i:=j) (io:=io) (b:=b) (by rw[Fc M];exact u);rw[w] at Q;have J:D = .ref a:=by cases Q;rfl
        subst J;rw[Fx.plus_plus] at R;refine⟨fp::f,O2,R,.own t3 (r.mono S),o.trans S,t5.trans A,fun x y=>?_,.own w t7 (List.getElem?_eq_some_iff.mp u).1 C⟩;rcases List.mem_append.mp y with y | y
        .exact t6 x y
        .exact B x y
theorem uJ{fp:List Addr}{n:Nat}{m:List V}{cs:List af}{o:List (Nat×Bool)}(t:dE Y F n m cs o):∀{d:List Bx}{e:List (List Addr)}{U:ag}{O:List Addr},U.length=n->au K (F.plus (e.flatten++fp)) H Y U O->aK H O m cs d e->(∀a∈e.flatten,a∈F.A₀\/F.H₀ a=none)->
  ∃O',au K (F.plus fp) H Y (bX o d U) O'/\aJ O H O' H:=by
 induction t with
 | nil=>intro d e U O h st f k;cases f;exact⟨O,st,.refl⟩
 | skip g _ p=>
  intro d e U O h st f k;cases f with
  | skip _ f=>exact p h st f k
  | own _ _=>exact absurd rfl (g _ _)
 | @own a io b j m cs o h1 h2 h3 t p=>
  intro d e U O h st f k;cases f with
  | skip g _=>exact absurd rfl (g _ _)
  | @own _ _ _ y f1 _ _ bs A B f=>
   have q:au K ((F.plus (A.flatten++fp)).plus f1) H Y U O:=by rw[Fx.plus_plus,<-List.append_assoc];exact st
   obtain⟨G,l,u⟩:=au.put1 (io:=true) (c:=.own io y) (v:=.ref a) (i:=j) q ⟨a,rfl,B⟩ (fun x r=>k x (by rw[List.flatten_cons];exact bu _ r)) (by rw[h];exact h3) (fun b z=>by cases z;rw[h2 rfl];rfl);have C:Y.set j (some (.ref a))=Y:=by
    apply List.ext_getElem?;intro i
    by_cases w:i=j
    .subst w;rw[List.getElem?_set_self (List.getElem?_eq_some_iff.mp h1).1,h1]
    .rw[List.getElem?_set_ne (Ne.symm w)]
   rw[C] at l;obtain⟨D,s,E⟩:=p (by rw[List.length_set];exact h) l (f.mono u) (fun x r=>k x (by rw[List.flatten_cons];exact be _ r));exact⟨D,s,u.trans E⟩
end
def hU(f:FM)(E:Str->ag->Prop)(Q:af->ag->Prop)(as:List AX)(U:ag):Prop:=match fC U as with
 | some (cs,b)=>(match f cs with
  | .rt c a=>Q c (bX b a (er b U))
  | .ex c a=>E c (bX b a (er b U))
  | .bad=>False)
 | none=>False
noncomputable def uK(f:FM)(E:Str->ag->Prop)(t:ff):fc:=fun U Q=>t U fun as a=>hU f E Q as a
section
variable{X:Cx}{F:Fx}{e:Expr}{es:List Expr}{tX:ff}{E:Str->ag->Prop}{pos p:Pos}{x:Str}{f:FM}{k:Nat}{g:Addr}{fd:FuncData}{ps:List Str}
theorem Fd{Q b:af->ag->Prop}{as:List AX}{U:ag}(h:∀c d,Q c d->b c d)(q:hU f E Q as U):hU f E b as U:=by
 unfold hU at q ⊢;split
 .rename_i cs i e;rw[e] at q;simp only at q;split
  .rename_i a;rw[a] at q;exact h _ _ q
  .rename_i a;rw[a] at q;exact q
  .rename_i a;rw[a] at q;exact q
 .rename_i e;rw[e] at q;exact q
theorem Fe{m:List (Addr×Obj)}{Y:St}{H:Hp}{s:Shared}{Q:VK}{L:List Value}{T:List V}{as:List AX}{U:ag}{O:List Addr}{QC:af->ag->Prop}(hx:gB X F E)(G:bV X.prog X.w X.K X.mg X.base (dX X.prog X.w) k g fd ps (gE X.K X.mg f))(hr:bq k X.A)(hb:jl X.K fd ps [])
  (I:Inv X m Y H s) (r:aM T L) (st:au X.K F H Y U O) (ax:cW Y (aj O H) T as) (q:hU f E QC as U) (hQ:∀c M,QC c M->∀v b Z N,gC X.K F b Y M Z v c N->aJ O H Z b->Q v b) :
  wpAny (model X.prog X.w) X.A (call (.ref g) L) (EP X m Y Q) X.xe s:=by
 unfold hU at q;cases hc:fC U as with
 | none=>rw[hc] at q;exact q.elim
 | some p=>
  obtain⟨cs,js⟩:=p;rw[hc] at q;simp only at q;obtain⟨i,O2,a0,ar,s1,a8,nw,ja⟩:=qU st as T cs js hc ax;obtain⟨W,y,a1⟩:=id a0;have a4:(W.flatten++(i.flatten++F.O₀)).Nodup:=y.nd;have l:∀a,a∈O2↔a∈i.flatten++(W.flatten++F.O₀):=fun a=>by
   rw[a1];show a∈W.flatten++(i.flatten++F.O₀)↔_;simp only[List.mem_append];constructor
   .rintro(h | h | h)<;>simp[h]
   .rintro(h | h | h)<;>simp[h]
  have perm:(i.flatten++(W.flatten++F.O₀)).Perm (W.flatten++(i.flatten++F.O₀)):=by rw[<-List.append_assoc,<-List.append_assoc];exact List.Perm.append_right _ List.perm_append_comm
  have a2:(i.flatten++(W.flatten++F.O₀)).Nodup:=perm.nodup_iff.mpr a4;have a5:aJ O2 H (i.flatten++(W.flatten++F.O₀)) H:=fY fun a h=>(l a).mpr h;have R:∀(b:Hp) (n:List Addr) (a:Addr),(a∈n++(W.flatten++F.O₀))->a∈n\/(a∈O2/\a∉i.flatten):=fun b n a h=>by
   rcases List.mem_append.mp h with h | h
   .exact .inl h
   .refine .inr ⟨(l a).mpr (be _ h),fun z=>?_⟩;exact(List.nodup_append.mp a2).2.2 a z a h rfl
  have j:∀(b:Hp) (n:List Addr),iK H b i.flatten n (W.flatten++F.O₀)->∃B,au X.K (F.plus n) b Y (er js U) B/\aJ O2 H B b/\∀a,a∈B↔a∈n++(W.flatten++F.O₀):=fun b n t=>by
   obtain⟨B,t1,t2,t3,t4,t5⟩:=a0.swap (H':=b) (L':=n) t.keep (List.nodup_append.mp t.nd).1 t.new nw t.live;refine⟨B,t1,t2,fun a=>⟨fun h=>?_,fun h=>?_⟩⟩
   .rcases t4 a h with z | ⟨z1,z2⟩
    .exact bu _ z
    .rcases List.mem_append.mp ((l a).mp z1) with z | z
     .exact absurd z z2
     .exact be _ z
   .rcases R b n a h with z | ⟨z1,z2⟩
    .exact t3 a z
    .exact t5 a z1 z2
  have r2:aM (T++[]) (L++[]):=by rw[List.append_nil,List.append_nil];exact r
  let EX:XK:=fun C _ b=>∃c M Z,X.mg c=some C/\au X.K F b Y M Z/\E c M;have sp:gE X.K X.mg f T H Q EX:=by
   refine⟨hx.1.at st,cs,i,W.flatten++F.O₀,ar.mono a5,a2,fun a h=>?_,?_⟩
   .exact y.live a (by have:=(l a).mpr h;rw[a1] at this;exact this)
   .cases hf:f cs with
    | bad=>rw[hf] at q;exact q
    | rt c a3=>
     rw[hf] at q;simp only at q ⊢;intro v b N d a6 S t;obtain⟨B,t1,t2,t3⟩:=j b (d.flatten++N) t;have D:aJ (d.flatten++N++(W.flatten++F.O₀)) b B b:=fY fun a h=>(t3 a).mp h;have J:∀a∈d.flatten++N,a∈F.A₀\/F.H₀ a=none:=fun a h=>by
      rcases t.new a h with z | z
      .exact nw a z
      .by_cases hA:a∈F.A₀
       .exact .inl hA
       .refine .inr ?_;cases e:F.H₀ a with
        | none=>rfl
        | some o=>have:=y.kept a o hA e;rw[z] at this;cases this
     have lj:(er js U).length=U.length:=uI;obtain⟨O4,u1,u2⟩:=uJ (fp:=N) ja lj t1 (S.mono D) fun a h=>J a (bu _ h);exact hQ c _ q v b O4 N ⟨u1,a6.keep (D.trans u2) (fun _ _=>rfl) (fun _ _ _ e=>e),fun a h=>J a (be _ h)⟩ (s1.trans (t2.trans u2))
    | ex c a3=>
     rw[hf] at q;simp only at q ⊢;intro C b d hm S t;obtain⟨B,t1,t2,t3⟩:=j b d.flatten t;have D:aJ (d.flatten++(W.flatten++F.O₀)) b B b:=fY fun a h=>(t3 a).mp h;have J:∀a∈d.flatten,a∈F.A₀\/F.H₀ a=none:=fun a h=>by
      rcases t.new a h with z | z
      .exact nw a z
      .by_cases hA:a∈F.A₀
       .exact .inl hA
       .refine .inr ?_;cases e:F.H₀ a with
        | none=>rfl
        | some o=>have:=y.kept a o hA e;rw[z] at this;cases this
     have lj:(er js U).length=U.length:=uI;obtain⟨O4,u1,u2⟩:=uJ (fp:=[]) ja lj (by rw[List.append_nil];exact t1) (S.mono D) J;exact⟨c,_,O4,hm,u1,q⟩
  have hl:(L++[]).length=ps.length:=by rw[List.append_nil,<-r.length];exact G.len _ _ _ _ sp
  refine wpAny_call (codeAny_mono (G.run X.A X.stack s H ⟨L,[]⟩ L T Q EX hr I.env0 (by have:=hb s L I.kIn hl;rw[List.append_nil] at this;exact this) r sp) fun r s' hq=>?_);cases r with
  | error e=>obtain⟨a,C,b,e1,I',cv,ex,c,M,Z,hm,a7,hE⟩:=I.flies hq;exact hx.2 m Y b s' e c M Z ⟨I',a,C,s.heap,_,e1,cv,ex,hm⟩ a7 hE
  | ok fl=>
   cases fl with
   | ret u=>exact I.after hq
   | next=>exact False.elim hq
   | brk=>exact False.elim hq
   | cont=>exact False.elim hq
theorem Ff(N:gB X F E)(G:bV X.prog X.w X.K X.mg X.base (dX X.prog X.w) k g fd ps (gE X.K X.mg f))(R:bq k X.A)(S:Gl X x)(T:X.mg x=some (.ref g))(Z:PySem.W.keepIn X.K (.ref g)=true)(hb:jl X.K fd ps [])
  (t:DX X F (e::es) tX) (u:autoParam ((x==("__debug__":Str))=false) Zr._auto_1) (he:autoParam (starEach (e::es) X.env=(false,eval e X.env)::starEach es X.env) Zq._auto_1) (y:autoParam ((backTo pos (starEach es X.env)).any (·.1)=false) Zq._auto_1) :
  DO X F (.Call (.Name x p) (e::es) [] pos) (uK f E tX):=by
 refine⟨fun U Q Q' k q=>t.mn _ _ _ (fun as b i=>Fd k i) q,fun j s Y H Q I l=>?_⟩;obtain⟨U,O,st,q⟩:=l;refine wpAny_Call_Name_kw (pY I S T ?_ u);refine PySem.W.callWith_K (h₀:=X.base) I.ok.mod.kin Z (aH (t.pa pos j s Y H (fun z m=>∃as b d,au X.K F m Y b d/\aJ O H d m/\cW Y (aj d m) z as/\hU f E (fun c J=>∀v n o B,gC X.K F n Y J o v c B->aJ O H o n->Q v n) as b) I ⟨U,O,st,t.mn _ _ _ (fun as b i z m d a L C=>⟨as,b,d,a,L,C,i⟩) q⟩) fun us L ⟨z,m,M,r,as,b,d,a,D,C,i⟩=>⟨M.kIn,?_⟩) he y;exact Fe N G R hb M r a C i fun c J h v n o B res s2=>h v n o B res (D.trans s2)
end
def kF(H:Hp)(O:List Addr):Prop:=∀a∈O,∃o,H a=some o/\Mv o
theorem au.live{K:Frag}{F:Fx}{H:Hp}{Y:St}{U:ag}{O:List Addr}(st:au K F H Y U O):kF H O:=by obtain⟨W,h,rfl⟩:=st;exact h.live
abbrev cX:=ag->(List PyData->ag->Prop)->Prop
def Wk(O:List Addr)(H:Hp)(J:It)(c:List PyData):Prop:=∀e b,aJ O H e b->kF b e->
 (∀i d,c[i]? = some d->J.go i b/\∀x a,J.yld i b x a->bz b a/\DV (aj e a) x d)/\J.stop c.length b
noncomputable def qV(K:Frag)(F:Fx)(s:cX):TI:=fun Y H R=>∃U O,au K F H Y U O/\s U fun b d=>∀J a c,au K F a Y d c->aJ O H c a->Wk c a J b->R J a
structure DI (X:Cx) (F:Fx) (tg iter:Expr) (s:cX):Prop where
 mn:∀U Q Q',(∀d U',Q d U'->Q' d U')->s U Q->s U Q'
 pi:PI X tg iter (qV X.K F s)
theorem _root_.L2.PI.imp{X:Cx}{b e:Expr}{t t':TI}(h:PI X b e t)(k:∀Y H Q,t' Y H Q->t Y H Q):PI X b e t':=fun a s Y H Q I q=>h a s Y H Q I (k Y H Q q)
section
variable{X:Cx}{F:Fx}{tg e a b:Expr}{te:DT}{tA:cF}{pos p:Pos}
noncomputable def iL(te:DT):cX:=fun U Q=>te U fun d f=>∃c,d=.list c/\Q c f
noncomputable def iT(te:DT):cX:=fun U Q=>te U fun d f=>∃c,d=.tuple c/\Q c f
theorem Fg{K:Frag}{O:List Addr}{H:Hp}{a:Addr}{c:List V}{g:List PyData}(k:aj O H a=some (.lst c))(hd:aC (aj O H) c g):Wk O H (qc K a) g:=fun t u s ok=>by obtain⟨r,l⟩:=cE k;have h2:=s.keep a _ l r;have f:=aC.mono s.hid hd;refine⟨fun i d e=>?_,⟨c,.of h2,by rw[hd.length];exact aE _⟩⟩;obtain⟨v,j,m⟩:=f.get e;refine⟨⟨c,v,.of h2,j⟩,fun x n ⟨o,q⟩=>?_⟩;subst o;have:=q c (.of h2);rw[j] at this;cases this;exact⟨fun _ _ h=>h,m⟩
theorem Fh{K:Frag}{O:List Addr}{H:Hp}{a:Addr}{c:List V}{g:List PyData}(l:Rd (aj O H) a (.tup c))(hd:aC (aj O H) c g):Wk O H (qd K a) g:=fun w m s ok=>by
 obtain⟨u,j⟩:=gx l;have h2:Rd m a (.tup c):=u.imp (fun e=>s.keep a _ j e) fun⟨o,e⟩=>⟨o,s.keep a _ j e⟩
 have f:=aC.mono s.hid hd;refine⟨fun i d e=>?_,⟨c,.inl h2,by rw[hd.length];exact aE _⟩⟩;obtain⟨v,k,n⟩:=f.get e;refine⟨⟨c,v,.inl h2,k⟩,fun x q ⟨r,t⟩=>?_⟩;subst r;have:=t c (.inl h2);rw[k] at this;cases this;exact⟨fun _ _ h=>h,n⟩
theorem Fi(h:DE X F e te):DI X F tg e (iL te):=
 ⟨fun _ _ _ k q=>h.mn _ _ _ (fun _ _ c=>by obtain⟨j,e,q⟩:=c;exact⟨j,e,k _ _ q⟩) q,(AL h.pe).imp fun Y H R f=>by obtain⟨U,O,st,q⟩:=f;exact 
  ⟨U,O,st,h.mn _ _ _ (fun d u g v m n i o r=>by
   obtain⟨j,e,s⟩:=g;subst e;obtain⟨a,t,rfl,l,hd⟩:=r.lst_inv;exact⟨a,rfl,⟨t,.of (cE l).1⟩,s _ m n i o (Fg l hd)⟩) q⟩⟩
theorem Fj(h:DE X F e te):DI X F tg e (iT te):=
 ⟨fun _ _ _ k q=>h.mn _ _ _ (fun _ _ c=>by obtain⟨j,e,q⟩:=c;exact⟨j,e,k _ _ q⟩) q,(AM h.pe).imp fun Y H R f=>by obtain⟨U,O,st,q⟩:=f;exact 
  ⟨U,O,st,h.mn _ _ _ (fun d u g v m n i o r=>by
   obtain⟨j,e,s⟩:=g;subst e;obtain⟨a,t,rfl,l,hd⟩:=r.tup_inv;exact⟨a,rfl,⟨t,.inl (gx l).1⟩,s _ m n i o (Fh l hd)⟩) q⟩⟩
noncomputable def intsFrom(lo:Int)(n:Nat):List PyData:=(List.range n).map fun(i:Nat)=>PyData.int (lo+i)
theorem mR(lo:Int)(n:Nat):(intsFrom lo n).length=n:=by unfold intsFrom;rw[List.length_map,List.length_range]
theorem uL{O:List Addr}{H:Hp}{lo:Int}{n:Nat}:Wk O H (ki lo n) (intsFrom lo n):=fun q r s ok=>by refine⟨fun i d e=>?_,by show n<=(intsFrom lo n).length;rw[mR];exact aE _⟩;unfold intsFrom at e;rw[List.getElem?_map] at e;obtain⟨j,g,k⟩:=Option.map_eq_some_iff.mp e;obtain⟨c,f⟩:=List.getElem?_eq_some_iff.mp g;rw[List.length_range] at c;rw[List.getElem_range] at f;subst f k;exact⟨c,fun x l ⟨m,o⟩=>by subst m o;exact⟨fun _ _ h=>h,.int _⟩⟩
noncomputable def uM(t:cF):cX:=fun U Q=>t U fun c d=>∃j:Int,c=[.int j]/\-(2 ^ 62)<=j/\j<2 ^ 62/\Q (intsFrom 0 j.toNat) d
theorem qW(l:Gl X "range")(m:X.mg "range" = none)(h:DA X F [a] tA)(n:autoParam (starEach [a] X.env=[(false,eval a X.env)]) Zq._auto_1):DI X F tg (.Call (.Name "range" p) [a] [] pos) (uM tA):=
 ⟨fun _ _ _ k q=>h.mn _ _ _ (fun _ _ c=>by obtain⟨j,e,h1,h2,q⟩:=c;exact⟨j,e,h1,h2,k _ _ q⟩) q,(AQ l m h.pa n).imp fun Y H R f=>by obtain⟨U,O,st,q⟩:=f;exact 
  ⟨U,O,st,h.mn _ _ _ (fun w x g y o s i t u=>by
   obtain⟨j,e,h1,h2,v⟩:=g;subst e;cases u with
   | cons d r=>
    cases r;obtain rfl:=d.int_inv;exact⟨j,rfl,h1,h2,v _ o s i t uL⟩) q⟩⟩
end
noncomputable def Fk(s:cX)(g:dB)(f:cP):cP:=fun D U=>s U fun a c=>∃b:Nat->ag->Prop,b 0 c/\(∀i d U,a[i]? = some d->b i U->g d U fun e=>f { D with nx:=b (i+1),ct:=b (i+1),bk:=D.nx } e)/\∀U,b a.length U->D.nx U
section
variable{X:Cx}{F:Fx}{tg iter:Expr}{body:List Stmt}{s:cX}{g:dB}{tb:cP}{pos:Pos}
theorem Fm(hp:PassesOwn (model X.prog X.w) X.A X.env X.xe)(hc:X.calm=true)(hi:DI X F tg iter s)(hg:DG X F tg g)(hb:fe X F body tb)(hs:autoParam (∀x,foldedSetIterable iter X.env x=pure x) Zs._auto_1):DS X F (.For tg iter body [] pos) (Fk s g tb):=
 (AV hp hc hi.pi hg.pg hb hs).imp fun D Y H y=>by
  obtain⟨U,O,DD,st,q,f⟩:=y;refine⟨U,O,st,hi.mn _ _ _ (fun a U1 z J N B R S wk=>?_) q⟩;obtain⟨Q,i0,step,fin⟩:=z;refine⟨fun i m T C=>∃l u,au X.K F C T l u/\aJ B N u C/\Q i l/\i<=a.length/\m=a.length - i,⟨a.length,U1,B,R,.refl,i0,Nat.zero_le _,rfl⟩,?_⟩;rintro i m T C ⟨l,u,n,Z,iv,a4,rfl⟩;obtain⟨w1,w2⟩:=wk u C Z n.live
  by_cases o:i<a.length
  .obtain⟨go,yld⟩:=w1 i a[i] (List.getElem?_eq_getElem o);refine .inr ⟨go,fun Y2 E=>∃c p,au X.K F E Y2 c p/\aJ B N p E/\Q (i+1) c,fun Y2 E G=>by obtain⟨c,p,a0,s2,a1⟩:=G;exact⟨a.length - (i+1),by lia,c,p,a0,s2,a1,o,rfl⟩,fun x E hy=>?_⟩;obtain⟨sm,dv⟩:=yld x E hy;refine⟨l,u,a[i],n.grow sm,dv,hg.mn _ _ _ _ (fun c q2 Y3 H3 O3 a2 s3=>?_) (step i a[i] l (List.getElem?_eq_getElem o) iv)⟩;have r:aJ B N O3 H3:=Z.trans ((aJ.same sm).trans s3);have I:∀t h j k,au X.K F h t j k->aJ O3 H3 k h->Q (i+1) j->∃c p,au X.K F h t c p/\aJ B N p h/\Q (i+1) c:=fun t h j k b L M=>⟨j,k,b,r.trans L,M⟩
   exact⟨c,O3,_,a2,q2,⟨I,fun v t h d j k a3 b L M=>f.rt v t h d j k a3 b (S.trans (r.trans L)) M,fun t h j k b L M=>f.nx t h j k b (S.trans (r.trans L)) M,I⟩⟩
  .have e:i=a.length:=by lia
   subst e;exact .inl ⟨w2,f.nx T C l u n (S.trans Z) (fin l iv)⟩
end
@[simp] noncomputable def uN:Option (Option af)->Option af
 | some (some (.dat d))=>some (.dat d)
 | some (some (.scr ns))=>some (.scr ns)
 | some (some (.vw b))=>some (.vw b)
 | _=>none
noncomputable def fD(own:List Str)(a:List Nat)(U:ag):ag:=own.map (fun _=>none)++a.map fun j=>uN U[j]?
noncomputable def kG(own:List Str)(f:List Nat)(s:cX)(g:dB)(l:cg)(m:DT):DT:=fun U Q=>s U fun c j=>∃e:Nat->List PyData->ag->Prop,e 0 [] (fD own f j)/\
 (∀i d a h,c[i]? = some d->e i a h->g d h fun n=>l n fun b k=>if b=true then m k fun y o=>a.length<sizeLine/\e (i+1) (a++[y]) o else e (i+1) a k)/\
 ∀a h,e c.length a h->a.length<=sizeLine/\Q (.list a) j
def jz(s:cX):Prop:=∀U Q a,(∀d b,Q d b->a d b)->s U Q->s U a
section
variable{K:Frag}{F:Fx}{own:List Str}{caps:List Nat}{s:cX}{g:dB}{tc:cg}{te:DT}
theorem qX(d:jz s):Mn (kG own caps s g tc te):=fun _ _ _ k q=>d _ _ _ (fun _ _ a=>by obtain⟨e,f,h1,h2⟩:=a;exact⟨e,f,h1,fun b c h=>⟨(h2 b c h).1,k _ _ (h2 b c h).2⟩⟩) q
theorem Fo{Z:Fx->Prop}(hP:∀u Y w k O2,au K F u Y w k->Z ⟨u,[],O2,fun _=>0⟩)(hs:jz s)(hg:∀d U Q Q',(∀n,Q n->Q' n)->g d U Q->g d U Q')(ht:gA tc)(he:Mn te):∀(Y:St) (H:Hp) (Q:VK),(∃U O,au K F H Y U O/\s U fun f w=>∃G:Nat->List PyData->ag->Prop,G 0 [] (fD own caps w)/\
   (∀i d r n,f[i]? = some d->G i r n->g d n fun U2=>tc U2 fun b L=>if b=true then te L fun y U4=>r.length<sizeLine/\G (i+1) (r++[y]) U4 else G (i+1) r L)/\
   ∀r n,G f.length r n->r.length<=sizeLine/\∀t A vs p,au K F t Y w A->aJ O H A t->aC (aj A t) vs r->t p=none->Q (.ref p) (aS t p (.lst vs)))->
  jt own caps (qV K F s) (fun v Y H Q=>∃D,Z D/\mP K D g v Y H Q) (fun Y H Q=>∃D,Z D/\iJ K D tc Y H Q) (fun Y H Q=>∃D,Z D/\fz K D te Y H Q) Y H Q:=fun Y H Q M=>by
 obtain⟨U,O,st,q⟩:=M;refine⟨U,O,st,hs _ _ _ (fun f w N J u k l s1 wk=>?_) q⟩;obtain⟨G,i0,step,fin⟩:=N;refine⟨fun i m r Y' t=>∃n A E,au K ⟨u,[],k,fun _=>0⟩ t Y' n A/\G i E n/\aC (aj A t) r E/\i<=f.length/\m=f.length - i,⟨f.length,fD own caps w,k,[],?_,i0,.nil,Nat.zero_le _,rfl⟩,?_⟩
 .have cell:∀(i:Nat) (c:af),(fD own caps w)[i]? = some (some c)->(∀io b,c≠.own io b)/\∃v,(ek own caps Y)[i]? = some (some v)/\cM K u k v c []:=fun i c e=>by
   unfold fD at e;unfold ek
   by_cases hi:i<own.length
   .rw[List.getElem?_append_left (by simpa using hi),List.getElem?_map] at e;cases h:own[i]? with
    | none=>rw[h] at e;cases e
    | some y=>rw[h] at e;cases e
   .rw[List.getElem?_append_right (by simpa using Nat.le_of_not_lt hi),List.length_map,List.getElem?_map] at e;rw[List.getElem?_append_right (by simpa using Nat.le_of_not_lt hi),List.length_map,List.getElem?_map];obtain⟨j,h1,h2⟩:=Option.map_eq_some_iff.mp e;rw[h1];show _/\∃v,some ((Y[j]?).getD none)=some (some v)/\_;cases h3:w[j]? with
    | none=>rw[h3] at h2;cases h2
    | some o=>
     cases o with
     | none=>rw[h3] at h2;cases h2
     | some c'=>
      rw[h3] at h2;obtain⟨W,I,rfl⟩:=id l;obtain⟨v,fp,e1,_,R⟩:=I.at_ j c' h3;rw[e1];cases c' with
      | dat d=>cases h2;exact⟨(fun _ _ z=>by cases z),v,rfl,R⟩
      | scr ns=>cases h2;exact⟨(fun _ _ z=>by cases z),v,rfl,R⟩
      | own _ _=>cases h2
      | exc _=>cases h2
      | vw b=>cases h2;exact⟨(fun _ _ z=>by cases z),v,rfl,R⟩
  obtain⟨W,I,a0⟩:=id l;have ln:(fD own caps w).length=(ek own caps Y).length:=by unfold fD ek;simp
  have fl:(List.replicate (fD own caps w).length ([]:List Addr)).flatten++k=k:=by rw[kE];rfl
  refine⟨List.replicate (fD own caps w).length [],⟨fun i c e=>?_,by show(_++k).Nodup;rw[fl,a0];exact I.nd,fun _ _ _ h=>h,fun a h=>?_,by show kF u (_++k);rw[fl];exact l.live,ln,by simp,fun i b e=>absurd rfl ((cell i _ e).1 true b)⟩,fl.symm⟩
  .obtain⟨_,v,e1,R⟩:=cell i c e;refine⟨v,[],e1,?_,by show cM K u (_++k) v c [];rw[fl];exact R⟩;rw[List.getElem?_replicate,if_pos (List.getElem?_eq_some_iff.mp e).1]
  .rw[kE] at h;cases h
 .rintro i m r Y' t ⟨n,A,E,B,iv,dv,hi,rfl⟩;have sm:bz u t:=fun b o e=>by obtain⟨W',h',_⟩:=id B;exact h'.kept b o (by simp) e
  have a1:aJ k u A t:=⟨fun b o _ e=>sm b o e,fun a h=>by
   obtain⟨W',h',rfl⟩:=id B;rcases List.mem_append.mp h with h | h
   .exact(h'.new a h).elim (fun z=>absurd z (by simp)) .inr
   .exact .inl h⟩
  have S:∀a∈k,a∈A:=fun a h=>by obtain⟨W',h',rfl⟩:=id B;exact be _ h
  obtain⟨w1,w2⟩:=wk A t a1 B.live
  by_cases C:i<f.length
  .obtain⟨go,yld⟩:=w1 i f[i] (List.getElem?_eq_getElem C);refine .inr ⟨go,fun x H2 hy=>?_⟩;obtain⟨T,dx⟩:=yld x H2 hy;refine⟨⟨u,[],k,fun _=>0⟩,hP _ _ _ _ _ l,n,A,f[i],B.grow T,dx,hg _ _ _ _ (fun U2 q2 Y3 H3 O3 a2 s3=>?_) (step i f[i] E n (List.getElem?_eq_getElem C) iv)⟩;refine⟨⟨u,[],k,fun _=>0⟩,hP _ _ _ _ _ l,U2,O3,a2,ht _ _ _ (fun b L q3 H4 O4 X s4=>?_) q2⟩;have d4:aC (aj O4 H4) r E:=aC.mono s4.hid (aC.mono s3.hid (aC.mono (ku T) dv));cases b with
   | false=>exact ei ⟨f.length - (i+1),by lia,L,O4,E,X,iI q3,d4,C,rfl⟩
   | true=>refine ej ⟨⟨u,[],k,fun _=>0⟩,hP _ _ _ _ _ l,L,O4,X,he _ _ _ (fun y U4 q4 v H5 O5 a3 s5 dy=>?_) (iH q3)⟩;refine⟨by rw[d4.length];exact q4.1,f.length - (i+1),by lia,U4,O5,E++[y],a3,q4.2,(aC.mono s5.hid d4).append (.cons dy .nil),C,rfl⟩
  .have e:i=f.length:=by lia
   subst e;obtain⟨hz,q⟩:=fin E n iv;exact .inl ⟨w2,by rw[dv.length];exact hz,fun p hp=>q t k r p (l.grow sm) (s1.trans (.same sm)) (aC.mono (Dg S) dv) hp⟩
theorem uO{i:Fx->Prop}(t:∀k Y l u w,au K F k Y l u->i ⟨k,[],w,fun _=>0⟩)(m:jz s)(x:∀d U Q n,(∀c,Q c->n c)->g d U Q->g d U n)(y:gA tc)(A:Mn te):∀Y H Q,fz K F (kG own caps s g tc te) Y H Q->
  jt own caps (qV K F s) (fun v Y H Q=>∃a,i a/\mP K a g v Y H Q) (fun Y H Q=>∃a,i a/\iJ K a tc Y H Q) (fun Y H Q=>∃a,i a/\fz K a te Y H Q) Y H Q:=fun Y H Q z=>by
 obtain⟨U,O,st,q⟩:=z;refine Fo t m x y A Y H Q ⟨U,O,st,m _ _ _ (fun B l z=>?_) q⟩;obtain⟨C,D,step,fin⟩:=z;exact⟨C,D,step,fun r c h=>⟨(fin r c h).1,fun J E L p f G I j=>(fin r c h).2 (.ref p) _ E (f.grow fun b o e=>bC j _ _ e) (G.trans (.same fun b o e=>bC j _ _ e)) (gz j (f.nofree p j) I)⟩⟩
end
def jA(X:Cx)(F:Fx)(a:List Expr)(t:cg):Prop:=gA t/\jr X a (iJ X.K F t)
noncomputable def Fp:cg:=fun U Q=>Q true U
theorem Fq{X:Cx}{F:Fx}:jA X F [] Fp:=⟨fun _ _ _ k q=>k _ _ q,fun a s Y H Q I b=>by obtain⟨U,O,st,q⟩:=b;exact CM a s Y H Q I (q H O st .refl)⟩
theorem Fs{X:Cx}{F:Fx}{c:Expr}{t:cg}(h:DB X F c t):jA X F [c] t:=⟨h.mn,CO h.pt⟩
section
variable{X:Cx}{F:Fx}{scope:Scope}{own capN:List Str}{caps:List Nat}{tg iter elt:Expr}{ifs:List Expr}{s:cX}{g:dB}{tc:cg}{te:DT}{pos:Pos}
theorem Ft(k:GF X.mg F)(S:ae X scope own capN caps)(l:X.calm=true)(j:DI X F tg iter s)
  (c:∀C d e f h b,GF X.mg b->DG (bA X scope (own++capN) C d e f h) b tg g/\jA (bA X scope (own++capN) C d e f h) b ifs tc/\DE (bA X scope (own++capN) C d e f h) b elt te)
  (m:autoParam (∀x,foldedSetIterable iter X.env x=pure x) Zs._auto_1):DE X F (.ListComp elt [⟨tg,iter,ifs,0⟩] scope pos) (kG own caps s g tc te):=by
 have t:Fx:=F;obtain⟨n,o,p⟩:=c 0 [] (PySem.start X.prog).1 (fun _=>none) [] F k;refine⟨qX j.mn,(ug S l j.pi (fun C d e f h=>⟨fun a s Y H v u Q I r ⟨b,i,q⟩=>(c C d e f h b i).1.pg a s Y H v u Q I r q,fun a s Y H Q I ⟨b,i,q⟩=>(c C d e f h b i).2.1.2 a s Y H Q I q,fun a s Y H Q I ⟨b,i,q⟩=>(c C d e f h b i).2.2.pe a s Y H Q I q⟩) m).imp (uO (fun _ _ _ _ _ st=>k.into st) j.mn n.mn o.1 p.mn)⟩
theorem Fu{i:Nat}{y:Str}{py e:Pos}(z:X.N.Nodup)(n:X.N[i]? = some y)(A:Loc X.env.scope y)(w:GF X.mg F)(S:ae X scope own capN caps)(B:X.calm=true)(o:DI X F tg iter s)
  (c:∀C h j k l b,GF X.mg b->DG (bA X scope (own++capN) C h j k l) b tg g/\jA (bA X scope (own++capN) C h j k l) b ifs tc/\DE (bA X scope (own++capN) C h j k l) b elt te)
  (p:autoParam (swapsWith (.ListComp elt [⟨tg,iter,ifs,0⟩] scope pos) (some (.Name y py)) e.line X.env=pure true) Zq._auto_1)
  (E:autoParam (∀x,foldedSetIterable iter X.env x=pure x) Zs._auto_1) (G:X.fn y=true\/X.env.scope.names.lookup y=some .local:=by first | exact .inl rfl | exact .inr rfl | assumption) :
  DS X F (.Assign [.Name y py] (.ListComp elt [⟨tg,iter,ifs,0⟩] scope pos) e) (mQ (kG own caps s g tc te) (gN i)):=by
 obtain⟨J,L,M⟩:=c 0 [] (PySem.start X.prog).1 (fun _=>none) [] F w;refine(CP z n A S B o.pi (fun C h j k l=>⟨fun a s Y H v u Q I r ⟨b,m,q⟩=>(c C h j k l b m).1.pg a s Y H v u Q I r q,fun a s Y H Q I ⟨b,m,q⟩=>(c C h j k l b m).2.1.2 a s Y H Q I q,fun a s Y H Q I ⟨b,m,q⟩=>(c C h j k l b m).2.2.pe a s Y H Q I q⟩) p E G).imp
  fun D Y H ⟨U,O,DD,st,q,f⟩=>uO (fun _ _ _ _ _ st=>w.into st) o.mn J.mn L.1 M.mn Y H _ ⟨U,O,st,qX o.mn _ _ _ (fun d U1 R v T Z t s1 d1=>f.nx _ T _ Z (t.set d1) s1 R) q⟩
end
end L2.L3
namespace L2
open PySem PySem.Spec PyProof.Rows
section
variable{X:Cx}{pins:List (Addr×Obj)}{Y:St}{H:Hp}{s:Shared}
theorem Inv.track{a:Addr}{o:HO}(I:Inv X pins Y H s)(f:fx X pins H a)(new:bK X.prog X.w (aS H a o) s.heap a o):Inv X pins Y (aS H a o) s:=by
 have g:=f.1;refine I.step (h':=s.heap) (g':=s.gens) (d':=s.drawn) (t':=s.toks) (ch:=[a]) (fun b h=>by obtain rfl:=List.mem_singleton.mp h;exact⟨f.2.2.2.1,f.2.1,f.2.2.2.2.1,f.2.2.2.2.2⟩) (fun b d _ _ _ e _=>e) (fun b d _ _ _ e _=>⟨d.slots,e⟩)
  (fun b d i _ n=>by rw[bQ (fun z=>i (by simp[z]))];exact n) (fun b d _ e=>⟨d,e⟩) (fun b j e=>bC g b _ e) (fun b d u e=>bC g b _ e) (fun b l e=>⟨#[],by rw[bC g b _ e];simp⟩) (fun m k=>k) (fun b u e=>?_) I.bare
 by_cases h:b=a
 .subst h;rw[cU] at e;cases e;exact new
 .rw[bQ h] at e;exact(I.hok b u e).stay (fun _ _ _ q=>q) (fun c q=>bC g c _ q) fun c j q=>bC g c _ q
end
theorem vals3{x y z:V}{a:List Value}(r:aM [x,y,z] a):∃u v w,a=[u,v,w]/\aP x u/\aP y v/\aP z w:=by
 cases r with
 | cons b r=>cases r with
  | cons c r=>cases r with
   | cons d r=>cases r;exact⟨_,_,_,rfl,b,c,d⟩
section
variable{X:Cx}{a b c:Expr}{t:TA}{pos p1 p2 pos2:Pos}
noncomputable def Fv(t:TA):TE:=fun Y H Q=>t Y H fun n d=>∃k l m e g h,n=[.ref k,.ref l,.ref m]/\d k=some (.lst e)/\d l=some (.lst g)/\d m=some (.lst h)/\g.length=e.length/\h.length=e.length/\0<e.length/\
 ∀p f (j:List Addr),bz d f->d p=none->f p=some (.lst (j.map V.ref))->j.length=e.length->(∀(i:Nat) (q:Addr),j[i]? = some q->∃x y z,e[i]? = some x/\g[i]? = some y/\h[i]? = some z/\d q=none/\f q=some (.tup [x,y,z]))->Q (.ref p) f
theorem kH:∀{acc:List Value},(∀(j:Nat) (w:Value),acc[j]? = some w->∃T,w=Value.ref T)->∃d:List Addr,acc=d.map Value.ref
 | [],_=>⟨[],rfl⟩
 | v::r,h=>by obtain⟨T,e⟩:=h 0 v rfl;obtain⟨d,f⟩:=kH (acc:=r) fun j w e=>h (j+1) w (by simpa using e);exact⟨T::d,by rw[f,e];rfl⟩
theorem Fw{h:Heap}{n:Addr}{f g i:Array Value}{d:List Value}(t:mF h n f g i d):∃k:List Addr,d=k.map Value.ref:=
 kH fun j w e=>by obtain⟨T,_,_,_,e,_⟩:=t j w e;exact⟨T,e⟩
theorem Fy(hc:X.calm=true)(c3:Gl X "list")(c4:X.mg "list" = none)(c5:Gl X "zip")(c6:X.mg "zip" = none)(ha:PA X [a,b,c] t)
  (he:autoParam (starEach [.Call (.Name "zip" p2) [a,b,c] [] pos2] X.env=[(false,eval (.Call (.Name "zip" p2) [a,b,c] [] pos2) X.env)]) Zq._auto_1)
  (hs:autoParam (starEach [a,b,c] X.env=(false,eval a X.env)::starEach [b,c] X.env) Zq._auto_1) (c7:autoParam ((backTo pos2 (starEach [b,c] X.env)).any (·.1)=false) Zq._auto_1) :
  PE X (.Call (.Name "list" p1) [.Call (.Name "zip" p2) [a,b,c] [] pos2] [] pos) (Fv t):=by
 intro g s Y H Q I h;refine wpAny_Call_Name_kw (iB I c3 c4 (show bootBuiltins "list" = some (.type "list") by decide +kernel) ?_ (by decide) (by decide));refine PyProof.Rows.callWith_type1 ?_ (by rw[he];rfl) rfl;rw[he];show wpAny _ _ (spliced [(false,eval (.Call (.Name "zip" p2) [a,b,c] [] pos2) X.env)]) _ _ s;refine Calls.spliced_cons ?_;refine wpAny_Call_Name_kw (iB I c5 c6 boot_zip ?_ (by decide) (by decide));refine PyProof.Rows.callWith_type1 (aH (ha pos2 g s Y H _ I h) fun us d Z=>?_) hs c7;obtain⟨vs,B,R,r1,q1⟩:=Z;obtain⟨l1,l2,l3,A,S,U,rfl,h1,O,h3,e2,e3,e7,q⟩:=q1;obtain⟨u1,u2,u3,rfl,c8,c9,d0⟩:=vals3 r1;cases c8;cases c9;cases d0;obtain⟨z1,a0,n1,a6,g1⟩:=R.hok _ _ h1;obtain⟨z2,a7,n2,a8,g2⟩:=R.hok _ _ O;obtain⟨z3,a9,n3,b0,g3⟩:=R.hok _ _ h3;have L1:d.heap.IsList l1 a0.toArray:=⟨_,g1,rfl,_,rfl⟩
 have b1:d.heap.IsList l2 a7.toArray:=⟨_,g2,rfl,_,rfl⟩
 have b2:d.heap.IsList l3 a9.toArray:=⟨_,g3,rfl,_,rfl⟩
 have b3:=a6.length;have e8:=a8.length;have e9:=b0.length;refine Db L1 b1 b2 fun v hz d1 d2 ny d3 d4 d5 hk=>?_;refine Calls.spliced_nil ?_;have b4:l1<d.heap.objs.size:=aR g1;have b5:l2<d.heap.objs.size:=aR g2;have b6:l3<d.heap.objs.size:=aR g3;have nd:[d.heap.objs.size+5,d.heap.objs.size+3,d.heap.objs.size+4,d.heap.objs.size,d.heap.objs.size+1,d.heap.objs.size+2].Nodup:=by generalize d.heap.objs.size=n;simp only[List.nodup_cons,List.mem_cons,List.not_mem_nil,or_false,not_or,not_false_eq_true,and_true,List.nodup_nil];refine⟨⟨?_,?_,?_,?_,?_⟩,⟨?_,?_,?_,?_⟩,⟨?_,?_,?_⟩,⟨?_,?_⟩,?_⟩<;>exact(by intro e;exact absurd (show(_:Nat)=_ from e) (by lia))
 have ge:∀j∈[d.heap.objs.size+5,d.heap.objs.size+3,d.heap.objs.size+4,d.heap.objs.size,d.heap.objs.size+1,d.heap.objs.size+2],d.heap.objs.size<=j:=fun j w=>by
  simp only[List.mem_cons,List.not_mem_nil,or_false] at w;rcases w with rfl | rfl | rfl | rfl | rfl | rfl
  .exact Nat.le_add_right _ _
  .exact Nat.le_add_right _ _
  .exact Nat.le_add_right _ _
  .exact aE _
  .exact Nat.le_add_right _ _
  .exact Nat.le_add_right _ _
 have I2:Inv X g Y B { d with heap:=v }:=R.kept (t':=d.toks) hk;refine Dc (s:={ d with heap:=v }) (R.ok.hd hc) nd (fun l hl j w=>?_) (fun j w=>?_) hz d1 d2 ny d3 d4 (L1.at fun o e=>hk _ _ e) (b1.at fun o e=>hk _ _ e) (b2.at fun o e=>hk _ _ e)
  (by simp only[List.size_toArray];lia) (by simp only[List.size_toArray];lia) (by simp only[List.size_toArray];lia) (by simp only[List.size_toArray];lia) fun O f0 cc iQ hS hl tr=>?_
 .simp only[List.mem_cons,List.not_mem_nil,or_false] at hl;rcases hl with rfl | rfl | rfl
  .exact Nat.ne_of_lt (Nat.lt_of_lt_of_le b4 (ge j w))
  .exact Nat.ne_of_lt (Nat.lt_of_lt_of_le b5 (ge j w))
  .exact Nat.ne_of_lt (Nat.lt_of_lt_of_le b6 (ge j w))
 .show j<v.objs.size;rw[d5];simp only[List.mem_cons,List.not_mem_nil,or_false] at w;generalize d.heap.objs.size=n at *;rcases w with rfl | rfl | rfl | rfl | rfl | rfl | rfl | rfl | rfl
  .exact Nat.lt_succ_self _
  .exact Nat.add_lt_add_left (show(3:Nat)<6 by decide) _
  .exact Nat.add_lt_add_left (show(4:Nat)<6 by decide) _
  .exact Nat.lt_add_of_pos_right (by decide)
  .exact Nat.add_lt_add_left (show(1:Nat)<6 by decide) _
  .exact Nat.add_lt_add_left (show(2:Nat)<6 by decide) _
  .exact Nat.lt_of_lt_of_le b4 (Nat.le_add_right _ _)
  .exact Nat.lt_of_lt_of_le b5 (Nat.le_add_right _ _)
  .exact Nat.lt_of_lt_of_le b6 (Nat.le_add_right _ _)
 .
  have kp:∀b ob,d.heap.get? b=some ob->O.get? b=some ob:=fun b ob e=>iQ b ob (fun z=>absurd (ge b (by
   simp only[List.mem_cons,List.not_mem_nil,or_false] at z ⊢;rcases z with z | z | z | z | z<;>simp[z])) (Nat.not_le.mpr (aR e))) (hk b ob e)
  have I3:Inv X g Y B { d with heap:=O }:=R.kept (t':=d.toks) kp;obtain⟨f,C⟩:=Fw tr;have big:∀b,v.objs.size<=b->fx X g B b:=fun b D=>I2.fpOk D (I2.hok.fresh D);have E:f.length=A.length:=by have:=congrArg List.length C;rw[List.length_map] at this;rw[<-this,hl,List.size_toArray];exact b3.symm
  have vq:∀f:List Addr,aM (f.map V.ref) (f.map Value.ref):=fun f=>by
   induction f with
   | nil=>exact .nil
   | cons q r ih=>exact .cons rfl ih
  have I4:Inv X g Y (aS B v.objs.size (.lst (f.map V.ref))) { d with heap:=O }:=I3.track (big _ (aE _)) ⟨by rw[List.length_map,E];exact z1,_,_,vq f,by rw[<-C];exact hS⟩;have all:∀k,k<=f.length->∃u,bz B u/\Inv X g Y u { d with heap:=O }/\u v.objs.size=some (.lst (f.map V.ref))/\(∀b,v.objs.size<b->u b=none\/∃row,u b=some (.tup row))/\
    ∀(i:Nat) (q:Addr),i<k->f[i]? = some q->∃x y z,A[i]? = some x/\S[i]? = some y/\U[i]? = some z/\B q=none/\u q=some (.tup [x,y,z]):=fun k=>by
   induction k with
   | zero=>exact fun _=>⟨_,bC (big _ (aE _)).1,I4,cU,fun b D=>.inl (by rw[bQ (Nat.ne_of_gt D)];exact(big b (Nat.le_of_lt D)).1),fun i q h=>absurd h (Nat.not_lt_zero _)⟩
   | succ k ih=>
    intro b7;obtain⟨u,sm,J,hp,G,m⟩:=ih (Nat.le_of_succ_le b7);have b8:k<f.length:=b7;have L:f[k]? = some f[k]:=List.getElem?_eq_getElem b8;obtain⟨T,x',y',u',eT,hT,b9,ex,ey,eu⟩:=tr k (.ref f[k]) (by rw[C,List.getElem?_map,L];rfl);cases eT;have p:v.objs.size<f[k]:=hT;have kx:k<A.length:=by rw[<-E];exact b8
    have vx:A[k]? = some A[k]:=List.getElem?_eq_getElem kx;have vy:S[k]? = some (S[k]'(by lia)):=List.getElem?_eq_getElem (by lia);have vz:U[k]? = some (U[k]'(by lia)):=List.getElem?_eq_getElem (by lia);obtain⟨w1,d6,d7⟩:=a6.get vx;obtain⟨w2,d8,d9⟩:=a8.get vy;obtain⟨w3,e0,e4⟩:=b0.get vz;have e1:x' = w1:=by simp only[List.getElem?_toArray] at ex;rw[d6] at ex;exact(Option.some.inj ex).symm
    have e5:y' = w2:=by simp only[List.getElem?_toArray] at ey;rw[d8] at ey;exact(Option.some.inj ey).symm
    have e6:u' = w3:=by simp only[List.getElem?_toArray] at eu;rw[e0] at eu;exact(Option.some.inj eu).symm
    subst e1 e5 e6;have rel:aM [A[k],S[k]'(by lia),U[k]'(by lia)] [x',y',u']:=.cons d7 (.cons d9 (.cons e4 .nil));have c0:B f[k]=none:=(big _ (Nat.le_of_lt p)).1;rcases G f[k] p with hn | ⟨row,hr⟩
    .refine⟨aS u f[k] (.tup [A[k],S[k]'(by lia),U[k]'(by lia)]),fun b o e=>bC hn _ _ (sm b o e),J.track ⟨hn,(big _ (Nat.le_of_lt p)).2⟩ ⟨by show 3<=sizeLine;decide,_,rel,⟨_,b9,rfl,_,rfl⟩⟩,
      by rw[bQ (Nat.ne_of_lt p)];exact hp,fun b D=>?_,fun i q M N=>?_⟩
     .by_cases e:b=f[k]
      .subst e;exact .inr ⟨_,cU⟩
      .rw[bQ e];exact G b D
     .rcases Nat.lt_succ_iff_lt_or_eq.mp M with M | rfl
      .obtain⟨x,y,z,a1,a2,a3,a4,a5⟩:=m i q M N;exact⟨x,y,z,a1,a2,a3,a4,bC hn _ _ a5⟩
      .rw[L] at N;cases N;exact⟨_,_,_,vx,vy,vz,c0,cU⟩
    .have same:row=[A[k],S[k]'(by lia),U[k]'(by lia)]:=by
      obtain⟨_,c1,rv,o,eo,co,n,dn⟩:=J.hok _ _ hr;have c2:O.get? f[k]=some o:=eo;rw[b9] at c2;cases c2;have d':(#[x',y',u']:Array Value)=c1.toArray:=by injection dn
      have:c1=[x',y',u']:=by have:=congrArg Array.toList d';simpa using this.symm
      subst this;exact rv.inj rel
     refine⟨u,sm,J,hp,G,fun i q M N=>?_⟩;rcases Nat.lt_succ_iff_lt_or_eq.mp M with M | rfl
     .exact m i q M N
     .rw[L] at N;cases N;exact⟨_,_,_,vx,vy,vz,c0,by rw[hr,same]⟩
  obtain⟨u,sm,J,hp,_,m⟩:=all f.length (aE _);exact⟨.ref v.objs.size,u,J,rfl,q v.objs.size u f sm (big _ (aE _)).1 hp E fun i qq e=>m i qq (List.getElem?_eq_some_iff.mp e).1 e⟩
end
end L2
namespace L2.L3
open PySem PySem.Spec PyProof.Rows
noncomputable def uP:DN:=fun b Q=>∃a,(b=[.list a]\/b=[.tuple a])/\Q (.int a.length)
theorem jB{K:Frag}:fX (fun xs H Q=>∃p ys,xs=[.ref p]/\(cA K H p ys\/dP K H p ys)/\Q (.int ys.length) H) uP where
 mn:=fun _ _ _ k ⟨ds,e,q⟩=>⟨ds,e,k _ q⟩
 ok:=fun O H vs xs Q hO hd ⟨ds,e,q⟩=>by
  rcases e with rfl | rfl
  .cases hd with
   | cons d r=>cases r;obtain⟨a,ys,rfl,ha,hy⟩:=d.lst_inv;exact⟨a,ys,rfl,.inl (.of (cE ha).1),by rw[hy.length];exact q _ H (fun _ _ h=>h) (.int _)⟩
  .cases hd with
   | cons d r=>cases r;obtain⟨a,ys,rfl,ha,hy⟩:=d.tup_inv;exact⟨a,ys,rfl,.inr (.inl (gx ha).1),by rw[hy.length];exact q _ H (fun _ _ h=>h) (.int _)⟩
theorem kI{H:Hp}{c:List V}{a b:PyData}(h:aC H c [a,b]):∃x y,c=[x,y]/\DV H x a/\DV H y b:=by cases h with | cons d r=>cases r with | cons e r=>cases r;exact⟨_,_,rfl,d,e⟩
theorem fE{H:Hp}{b:List V}{a:PyData}(h:aC H b [a]):∃x,b=[x]/\DV H x a:=by cases h with | cons d r=>cases r;exact⟨_,rfl,d⟩
theorem qY{H:Hp}{f:List V}{a b c:PyData}(h:aC H f [a,b,c]):∃x y z,f=[x,y,z]/\DV H x a/\DV H y b/\DV H z c:=by cases h with | cons d r=>cases r with | cons g r=>cases r with | cons e r=>cases r;exact⟨_,_,_,rfl,d,g,e⟩
noncomputable def uQ:DN:=fun a Q=>∃i j:Int,a=[.int i,.int j]/\mx i j/\Q (.tuple [.int (i / j),.int (i % j)])
theorem qZ:fX (fun xs H Q=>∃i j,xs=[.int i,.int j]/\mx i j/\∀p,H p=none->Q (.ref p) (aS H p (.tup [.int (i / j),.int (i % j)]))) uQ where
 mn:=fun _ _ _ k zq1a=>by obtain⟨i,j,e,c,q⟩:=zq1a;exact⟨i,j,e,c,k _ q⟩
 ok:=fun O H vs xs Q hO hd zq2a=>by obtain⟨i,j,e,c,q⟩:=zq2a;subst e;obtain⟨x,y,rfl,h1,h2⟩:=kI hd;exact⟨i,j,by rw[h1.int_inv,h2.int_inv],c,fun p hp=>q _ _ (bC hp) (qL hp (hO p hp) (.cons (.int _) (.cons (.int _) .nil)))⟩
noncomputable def kJ(as bs cs:List PyData):List PyData:=(as.zip (bs.zip cs)).map fun q=>PyData.tuple [q.1,q.2.1,q.2.2]
noncomputable def uR(t:cF):DT:=fun U Q=>t U fun a b=>∃as bs cs,a=[.list as,.list bs,.list cs]/\bs.length=as.length/\cs.length=as.length/\0<as.length/\Q (.list (kJ as bs cs)) b
theorem uS:∀{H:Hp}{a:List V}{b:List PyData},a.length=b.length->(∀(i:Nat) v d,a[i]? = some v->b[i]? = some d->DV H v d)->aC H a b
 | _,[],[],_,_=>.nil
 | _,[],_::_,e,_=>by cases e
 | _,_::_,[],e,_=>by cases e
 | H,v::a,d::b,e,h=>.cons (h 0 v d rfl rfl) (uS (by simpa using e) fun i c f g j=>h (i+1) c f (by simpa using g) (by simpa using j))
section
variable{X:Cx}{F:Fx}{a b c e:Expr}{te:DT}{tA:cF}{pos p1 p2 pos2:Pos}
theorem Fz(hc:X.calm=true)(t:Gl X "list")(u:X.mg "list" = none)(w:Gl X "zip")(A:X.mg "zip" = none)(B:DA X F [a,b,c] tA)
  (he:autoParam (starEach [.Call (.Name "zip" p2) [a,b,c] [] pos2] X.env=[(false,eval (.Call (.Name "zip" p2) [a,b,c] [] pos2) X.env)]) Zq._auto_1)
  (hs:autoParam (starEach [a,b,c] X.env=(false,eval a X.env)::starEach [b,c] X.env) Zq._auto_1) (C:autoParam ((backTo pos2 (starEach [b,c] X.env)).any (·.1)=false) Zq._auto_1) :
  DE X F (.Call (.Name "list" p1) [.Call (.Name "zip" p2) [a,b,c] [] pos2] [] pos) (uR tA):=
 ⟨fun _ _ _ k q=>B.mn _ _ _ (fun _ _ g=>by obtain⟨x,y,z,e,h1,h2,h3,q⟩:=g;exact⟨x,y,z,e,h1,h2,h3,k _ _ q⟩) q,(Fy hc t u w A B.pa he hs C).imp fun Y H Q h=>by obtain⟨U,O,st,q⟩:=h;exact 
  ⟨U,O,st,B.mn _ _ _ (fun ds U1 j vs H1 D l s1 E=>by
   obtain⟨as,bs,cs,e,l1,l2,l3,q1⟩:=j;subst e;obtain⟨x,y,z,rfl,h1,h2,h3⟩:=qY E;obtain⟨a1,xs,rfl,G,n⟩:=h1.lst_inv;obtain⟨a2,ys,rfl,I,S⟩:=h2.lst_inv;obtain⟨a3,zs,rfl,J,T⟩:=h3.lst_inv;refine⟨a1,a2,a3,xs,ys,zs,rfl,(cE G).1,(cE I).1,(cE J).1,by rw[n.length,S.length];exact l1,by rw[n.length,T.length];exact l2,by rw[n.length];exact l3,fun p H2 qs L hp M hl o=>?_⟩;have Z:∀b,H1 b=none->b∉D:=l.nofree;refine q1 _ H2 D (l.grow L) (s1.trans (.same L)) (.lst (fU M (Z p hp)) (uS ?_ fun i v d e1 N=>?_))
   .unfold kJ;rw[List.length_map,List.length_map,List.length_zip,List.length_zip,hl,n.length];lia
   .rw[List.getElem?_map] at e1;obtain⟨qq,e3,e4⟩:=Option.map_eq_some_iff.mp e1;subst e4;obtain⟨x,y,z,g1,g2,g3,g4,g5⟩:=o i qq e3;unfold kJ at N;rw[List.getElem?_map] at N;obtain⟨⟨d0,E,d2⟩,e5,e6⟩:=Option.map_eq_some_iff.mp N;subst e6;obtain⟨e7,e8⟩:=List.getElem?_zip_eq_some.mp e5;obtain⟨e9,R⟩:=List.getElem?_zip_eq_some.mp e8;obtain⟨dx,k1,k2⟩:=n.get' g1;obtain⟨dy,k3,k4⟩:=S.get' g2;obtain⟨dz,k5,k6⟩:=T.get' g3;have r:as[i]? = some d0:=e7;have s:bs[i]? = some E:=e9;have f:cs[i]? = some d2:=R;rw[k1] at r;rw[k3] at s;rw[k5] at f;cases r;cases s;cases f;have m:=ku (O:=D) L;exact .tup (.inl (fU g5 (Z qq g4))) (.cons (DV.mono m k2) (.cons (DV.mono m k4) (.cons (DV.mono m k6) .nil)))) q⟩⟩
noncomputable def uT(te:DT)(k:Nat):DT:=fun U Q=>te U fun d g=>∃f,d=.list f/\Q (.list (f.drop k)) g
theorem FC{k j:Nat}{A s:Pos}(o:DE X F e te):DE X F (.Subscript e (.Slice (some (.Constant (.int (k:Int)) j A)) none none s) pos) (uT te k):=
 ⟨fun _ _ _ k q=>o.mn _ _ _ (fun _ _ f=>by obtain⟨r,e,q⟩:=f;exact⟨r,e,k _ _ q⟩) q,(BE BO o.pe (BC tq) BB).imp fun Y H Q g=>by obtain⟨U,O,st,q⟩:=g;exact 
  ⟨U,O,st,o.mn _ _ _ (fun d B i v C t l u w=>by
   obtain⟨r,e,x⟩:=i;subst e;obtain⟨a,m,rfl,y,z⟩:=w.lst_inv;refine⟨(k:Int),rfl,a,m,rfl,.of (cE y).1,fun p n=>x _ _ t (l.grow (bC n)) (u.trans (.same (bC n))) (gz n (l.nofree p n) ?_)⟩;have:jm m (some (k:Int)) none=m.drop k:=by
    unfold jm;rw[HT.sIx_none,HT.sIx_nat]
    by_cases h:k<=m.length
    .rw[Nat.min_eq_left h,List.take_of_length_le (by rw[List.length_drop];exact aE _)]
    .rw[Nat.min_eq_right (by lia),List.drop_of_length_le (aE _),List.drop_of_length_le (by lia)];simp
   rw[this];exact z.drop k) q⟩⟩
end
section
variable{X:Cx}{F:Fx}{a b c e:Expr}{te:DT}{tA:cF}{pos p p1 p2 pos2:Pos}{x:Str}{i:Nat}
noncomputable def uU(i:Nat):DT:=fun U Q=>∃d,U[i]? = some (some (.scr d))/\(d.length<=63->Q (.int d.length) U)
theorem uV(n:Gl X "len")(o:X.mg "len" = none)(h:PE X (.Name x p1) (cV i))(l:autoParam (starEach [.Name x p1] X.env=(false,eval (.Name x p1) X.env)::starEach [] X.env) Zq._auto_1)(g:autoParam ((backTo pos (starEach [] X.env)).any (·.1)=false) Zq._auto_1) :
  DE X F (.Call (.Name "len" p) [.Name x p1] [] pos) (uU i):=
 ⟨fun _ _ _ k d=>by obtain⟨j,e,q⟩:=d;exact⟨j,e,fun h=>k _ _ (q h)⟩,(iD gW n o PySem.boot_len (eL h eX l) (by decide) (by decide) l g).imp fun Y H Q f=>by
  obtain⟨U,O,st,j,e,q⟩:=f;obtain⟨s,r,m⟩:=st.scr e;refine⟨_,r,s,j.map V.int,rfl,.inl m.sq,?_⟩;rw[List.length_map];exact q m.1 _ H O st .refl (.int _)⟩
noncomputable def uW(i:Nat)(te:DT):DT:=fun U Q=>∃f,U[i]? = some (some (.scr f))/\te U fun d g=>∃k n,d=.int k/\bR f k=some n/\Q (.int n) g
theorem FF{α β:Type}{g:α->β}{l:List α}{k:Int}{n:α}(h:bR l k=some n):bR (l.map g) k=some (g n):=by
 unfold bR at h ⊢;rw[List.length_map];cases q:eM l.length k with
 | none=>rw[q] at h;cases h
 | some j=>rw[q] at h;show(l.map g)[j]? = some (g n);rw[List.getElem?_map];have h:l[j]? = some n:=h;rw[h];rfl
theorem uX(h:PE X (.Name x p1) (cV i))(s:DE X F e te)(t:my e):DE X F (.Subscript (.Name x p1) e pos) (uW i te):=
 ⟨fun _ _ _ k f=>by obtain⟨r,e,q⟩:=f;exact⟨r,e,s.mn _ _ _ (fun _ _ g=>by obtain⟨G,n,v,y,q⟩:=g;exact⟨G,n,v,y,k _ _ q⟩) q⟩,(tP tQ h s.pe t).imp fun Y H Q j=>by
  obtain⟨U,O,st,r,e,q⟩:=j;obtain⟨E,I,t⟩:=st.scr e;refine⟨_,I,U,O,st,s.mn _ _ _ (fun d N l w C J A D L=>?_) q⟩;obtain⟨k,n,v,y,M⟩:=l;subst v;have B:fV X.K C E r:=t.mono fun o u q=>D.keep _ _ (fun z=>by obtain⟨R,e,m⟩:=st.live _ z;rw[q] at e;cases e;exact m) q;exact⟨E,r.map V.int,k,.int n,rfl,L.int_inv,B.sq,FF y,M _ C J A D (.int _)⟩⟩
noncomputable def FH(K:Frag):R2:=fun x y H Q=>∃a b d,x=.ref a/\y=.ref b/\cA K H a (d.map V.int)/\H b=some (.lst [])/\Q (.bl (decide (d=[]))) H
theorem uY{h:Heap}:∀{d:List Int}{f:List Value},aM (d.map V.int) f->∃as,ReadsAll h f (d.map PyData.int) as
 | [],_,r=>by cases r;exact⟨_,.nil⟩
 | n::d,_,r=>by
  cases r with
  | cons g r=>obtain⟨t,rfl⟩:=g;obtain⟨as,q⟩:=uY r;exact⟨_,.cons (.int n t) q⟩
theorem FJ(l:X.A.units+64<cLine):bT X (compareOp .Eq) (FH X.K):=by
 intro g s Y H x y v u Q I m t h;obtain⟨a,b,d,rfl,rfl,h1,h2,q⟩:=h;cases m;cases t;obtain⟨w,z,⟨o,n,e,B,_,C⟩,L⟩:=I.list h1;obtain⟨_,j,M,f,D⟩:=I.hok _ _ h2;cases f;obtain⟨as,E⟩:=uY (h:=s.heap) z;have G:PyData.eqv (.list (d.map .int)) (.list [])=decide (d=[]):=by cases d<;>rfl
 refine eq_dataH (reads_list_at e B C (by simpa using E)) (reads_list_at (xs:=[]) D rfl rfl .nil) ?_ (by decide) l (by rw[G];exact⟨.bl _,H,I,rfl,q⟩);unfold SeqAt.shaped;have J:PyData.canLay0 (.list (d.map .int))=true:=by
  have:∀d:List Int,PyData.canLayAll0 (d.map .int)=true:=fun d=>by
   induction d with
   | nil=>rfl
   | cons n r k=>rw[List.map_cons];simp only[PyData.canLayAll0,PyData.canLay0,k,Bool.and_self]
  simp only[PyData.canLay0,this]
 have dp:PyData.depth (.list (d.map .int))<=64:=by
  have:∀d:List Int,PyData.depthAll (d.map .int)<=1:=fun d=>by
   induction d with
   | nil=>simp[PyData.depthAll]
   | cons n r k=>rw[List.map_cons];simp only[PyData.depthAll,PyData.depth];lia
  have:=this d;simp only[PyData.depth];lia
 rw[J,Bool.true_and];exact decide_eq_true dp
noncomputable def uZ(i:Nat):cg:=fun U Q=>∃d,U[i]? = some (some (.scr d))/\Q (decide (d=[])) U
theorem FK{l:Pos}(m:X.A.units+64<cLine)(h:PE X (.Name x p1) (cV i)):DB X F (.Compare (.Name x p1) [.Eq] [.List [] l] pos) (uZ i):=
 ⟨fun _ _ _ k d=>by obtain⟨j,e,q⟩:=d;exact⟨j,e,k _ _ q⟩,(tH (FJ m) h (ql eX) (bi _)).imp fun Y H Q f=>by
  obtain⟨U,O,st,j,e,q⟩:=f;obtain⟨r,n,o⟩:=st.scr e;refine⟨_,n,Nat.zero_le _,fun p g=>⟨r,p,j,rfl,rfl,(bC g).seq o.sq,cU,_,rfl,q _ O (st.grow (bC g)) (.same (bC g))⟩⟩⟩
end
structure FD (K:Frag) (mg:Str->Option Value) (x:Str) (st:Stmt) (ps:List Str) (g:Addr) (fd:FuncData):Prop where
 fn:ko K x x st g fd
 mgf:mg x=some (.ref g)
 b:jl K fd ps []
section
variable{X:Cx}{scope:Scope}{own capN:List Str}{caps:List Nat}
theorem ae.of(h1:autoParam (scope.kind=.function) Zq._auto_1)(h2:autoParam ((scope.names.all fun y=>scope.names.lookup y.1==some y.2)=true) Zq._auto_1)
  (h3:autoParam ((scope.names.all fun y=>y.2 != .free||(X.env.kindOf y.1==some .cell||X.env.kindOf y.1==some .free))=true) Zq._auto_1)
  (h4:autoParam ((scope.names.all fun y=>y.2 != .local||scope.names.lookup y.1==some .local)=true) Zq._auto_1) (h5:autoParam (caps.map (fun j=>X.N[j]?)=capN.map some) Zq._auto_1)
  (h6:autoParam ((capN.all fun x=>scope.names.lookup x==some .free)=true) Zq._auto_1):ae X scope own capN caps where
 kind:=h1
 one:=fun y hy=>eq_of_beq (List.all_eq_true.mp h2 y hy)
 free:=fun y hy e=>by
  have:=List.all_eq_true.mp h3 y hy;rw[e] at this;rw[Bool.or_eq_true] at this;rcases this with z | z
  .exact absurd z (by decide)
  .rw[Bool.or_eq_true] at z;exact z.imp (fun z=>eq_of_beq z) fun z=>eq_of_beq z
 loc:=fun y hy e=>by
  have:=List.all_eq_true.mp h4 y hy;rw[e] at this;rw[Bool.or_eq_true] at this;rcases this with z | z
  .exact absurd z (by decide)
  .exact eq_of_beq z
 caps:=h5
 capf:=fun x hx=>eq_of_beq (List.all_eq_true.mp h6 x hx)
end
section
variable{X:Cx}{F:Fx}{a b c e:Expr}{ta tb tc:DT}{pos:Pos}
noncomputable abbrev qI(g:Int->Int->Int):D2:=fI (fun _ _=>True) fun i j=>.int (g i j)
noncomputable abbrev qB(g:Int->Int->Bool):D2:=fI (fun _ _=>True) fun i j=>.bool (g i j)
theorem FL(d:DE X F a ta)(f:DE X F b tb):DE X F (.BinOp a .Add b pos) (cu (qI fun i j=>i+j) ta tb):=gY Ba (gZ fun _ _ _=>.int _) d f
theorem FP(d:DE X F a ta)(f:DE X F b tb):DE X F (.BinOp a .Sub b pos) (cu (qI fun i j=>i - j) ta tb):=gY Bb (gZ fun _ _ _=>.int _) d f
theorem FQ(d:DE X F a ta)(f:DE X F b tb):DE X F (.BinOp a .Mult b pos) (cu (fI km fun i j=>.int (i * j)) ta tb):=gY Bc (qH fun _ _ _=>.int _) d f
theorem FT(d:DE X F a ta)(f:DE X F b tb):DE X F (.BinOp a .Mod b pos) (cu (fI (fun _ j=>0<j) fun i j=>.int (i % j)) ta tb):=gY Bd (qH fun _ _ _=>.int _) d f
theorem FU(d:DE X F a ta)(f:DE X F b tb):DE X F (.BinOp a .Add b pos) (cu qM ta tb):=gY BW Do d f
theorem FV(d:DE X F a ta)(f:DE X F b tb):DE X F (.Compare a [.Lt] [b] pos) (cu (qB fun i j=>decide (i<j)) ta tb):=mL tF (gZ fun _ _ _=>.bl _) d f (bi _)
theorem FY(d:DE X F a ta)(f:DE X F b tb):DE X F (.Compare a [.GtE] [b] pos) (cu (qB fun i j=>decide (j<=i)) ta tb):=mL tG (gZ fun _ _ _=>.bl _) d f (bi _)
theorem FZ(d:DE X F a ta)(f:DE X F b tb):DB X F (.Compare a [.Lt] [b] pos) (eP (cu (qB fun i j=>decide (i<j)) ta tb)):=jw tF (gZ fun _ _ _=>.bl _) d f (bi _)
theorem Ga(d:DE X F a ta)(f:DE X F b tb):DB X F (.Compare a [.LtE] [b] pos) (eP (cu (qB fun i j=>decide (i<=j)) ta tb)):=jw qi (gZ fun _ _ _=>.bl _) d f (bi _)
theorem Gb(d:DE X F a ta)(f:DE X F b tb):DB X F (.Compare a [.Gt] [b] pos) (eP (cu (qB fun i j=>decide (j<i)) ta tb)):=jw Bi (gZ fun _ _ _=>.bl _) d f (bi _)
theorem Gc(d:DE X F a ta)(f:DE X F b tb):DB X F (.Compare a [.GtE] [b] pos) (eP (cu (qB fun i j=>decide (j<=i)) ta tb)):=jw tG (gZ fun _ _ _=>.bl _) d f (bi _)
theorem Ge(d:X.A.units+64<cLine)(f:DE X F a ta)(g:DE X F b tb):DE X F (.Compare a [.Eq] [b] pos) (cu (kA false) ta tb):=mL (uj d) qJ f g (bi _)
theorem Gf(d:X.A.units+64<cLine)(f:DE X F a ta)(g:DE X F b tb):DB X F (.Compare a [.Eq] [b] pos) (eP (cu (kA false) ta tb)):=jw (uj d) qJ f g (bi _)
theorem Gg(d:X.A.units+64<cLine)(f:DE X F a ta)(g:DE X F b tb):DB X F (.Compare a [.NotEq] [b] pos) (eP (cu (kA true) ta tb)):=jw (Dd d) qJ f g (bi _)
theorem Gh(d:DE X F a ta)(f:DE X F b tb):DE X F (.Compare a [.Is] [b] pos) (cu qK ta tb):=mL Bj Dn d f (bi _)
theorem Gi(d:DE X F a ta)(f:DE X F b tb)(g:DE X F c tc)(h:lastMarks [.LtE,.LtE] [b,c]=false:=by with_unfolding_all rfl):DE X F (.Compare a [.LtE,.LtE] [b,c] pos) (qO (fun i j=>decide (i<=j)) (fun i j=>decide (i<=j)) ta tb tc):=DM qi qi d f g h
theorem dY{x:Str}{i:Int}{t:Tok}(d:Gl X x)(f:X.mg x=some (.int i t))(hd:autoParam ((x==("__debug__":Str))=false) Zr._auto_1):DE X F (.Name x pos) (dC (.int i)):=mJ (v:=.int i) (zW d f ⟨t,rfl⟩ hd) fun _=>.int i
mutual
theorem va:∀(d:PyData),d.canLay0=true->PyData.eqv d d=true
 | .none,_=>rfl
 | .bool b,_=>by simp[PyData.eqv]
 | .int i,_=>by simp[PyData.eqv]
 | .str s,_=>by simp[PyData.eqv]
 | .list xs,h=>by rw[PyData.eqv];exact ra xs (by simpa[PyData.canLay0] using h)
 | .tuple xs,h=>by rw[PyData.eqv];exact ra xs (by simpa[PyData.canLay0] using h)
 | .dict kvs,h=>by simp[PyData.canLay0] at h
theorem ra:∀(ds:List PyData),PyData.canLayAll0 ds=true->PyData.eqvAll ds ds=true
 | [],_=>rfl
 | x::xs,h=>by simp only[PyData.canLayAll0,Bool.and_eq_true] at h;rw[PyData.eqvAll,va x h.1,ra xs h.2];rfl
end
theorem vb{d:PyData}(h:SeqAt.shaped d=true):PyData.eqv d d=true:=va d (SeqAt.canLay_of_shaped h)
end
end L2.L3
namespace L2
open PySem PySem.Spec PyProof.Rows
section
variable{X:Cx}
noncomputable def vc(K:Frag):R2:=fun x y H Q=>∃a b c d,x=.ref a/\y=.ref b/\dP K H a c/\dP K H b d/\c.length+d.length<=sizeLine/\
 (c=[]->Q (.ref b) H)/\(c≠[]->d=[]->Q (.ref a) H)/\(c≠[]->d≠[]->∀p,H p=none->Q (.ref p) (aS H p (.tup (c++d))))
theorem Gj:bT X (binaryOp .Add) (vc X.K):=by
 intro c s Y H x y v u Q I m o h;obtain⟨a,b,p,A,rfl,rfl,q,r,B,C,D,E⟩:=h
 by_cases i:p=[]
 .subst i;cases m;cases o;obtain⟨j,G,J,_⟩:=I.tuple q;obtain⟨d,S,L,_⟩:=I.tuple r;have M:j=[]:=G.nil_iff.mpr rfl;subst M;obtain⟨⟨cls,N,data,O⟩,t,w,n,hd⟩:=id J;obtain⟨⟨z,k,data2,l⟩,e,f,R,g⟩:=id L;simp only at w hd f g;subst w hd f g;exact concat_meets ⟨_,t,rfl⟩ ⟨_,e,rfl⟩ noFill_tuple_add seq_tuple_add PySem.F.slot_tuple_add PySem.F.entry_tuple_add (PySem.F.args_tuple_add_2 _ _)
   (tuple_addW0 a b [].toArray d.toArray n R N k O l rfl) ⟨t,e,.ref b,H,I,rfl,C rfl⟩
 .exact BH c s Y H _ _ v u Q I m o ⟨a,b,p,A,rfl,rfl,q,r,i,B,D i,E i⟩
end
end L2
namespace L2.L3
open PySem PySem.Spec PyProof.Rows
section
variable{X:Cx}{F:Fx}{a b:Expr}{ta tb:DT}{pos:Pos}
theorem Gk{K:Frag}:dJ (vc K) qN where
 mn:=fun _ _ _ _ k zq1a=>by obtain⟨ds,es,e1,e2,e3,q⟩:=zq1a;exact⟨ds,es,e1,e2,e3,k _ q⟩
 ok:=fun O H u v x y Q hO h1 h2 zq2a=>by
  obtain⟨ds,es,e1,e2,e3,q⟩:=zq2a;subst e1 e2;obtain⟨a,xs,rfl,ha,hd⟩:=id h1.tup_inv;obtain⟨b,ys,rfl,hb,he⟩:=id h2.tup_inv;refine⟨a,b,xs,ys,rfl,rfl,.inl (gx ha).1,.inl (gx hb).1,by rw[hd.length,he.length];exact e3,fun z=>?_,fun _ z=>?_,fun _ _ p hp=>q _ _ (bC hp) (qL hp (hO p hp) (hd.append he))⟩
  .subst z;cases hd;exact q _ H (fun _ _ h=>h) h2
  .subst z;cases he;rw[List.append_nil] at q;exact q _ H (fun _ _ h=>h) h1
theorem Gm(c:DE X F a ta)(d:DE X F b tb):DE X F (.BinOp a .Add b pos) (cu qN ta tb):=gY Gj Gk c d
end
end L2.L3
namespace L2
open PySem PySem.Spec PyProof.Rows
section
variable{X:Cx}
theorem vd(a:List Int):∀n,n<=a.length->preSum (fun i=>a.getD i 0) n=(a.take n).sum
 | 0,_=>by rw[List.take_zero];rfl
 | n+1,h=>by rw[preSum,vd a n (by lia),List.take_add_one,List.sum_append,List.getElem?_eq_getElem (by lia)];simp[List.getD,List.getElem?_eq_getElem (show n<a.length by lia)]
theorem ve(D:X.calm=true):dQ X (.builtin "sum") (fun m H Q=>∃(l:Addr) (c:List Int),m=[.ref l]/\H l=some (.lst (c.map V.int))/\Q (.int c.sum) H):=by
 intro p s Y H m R Q I r h;obtain⟨l,c,rfl,E,q⟩:=h;obtain⟨u,rfl,G⟩:=vals1 r;cases G;obtain⟨z,d,n,t,e⟩:=I.hok _ _ E;have L:s.heap.IsList l d.toArray:=⟨_,e,rfl,_,rfl⟩
 have a:l<s.heap.objs.size:=aR e;have len:=t.length;rw[List.length_map] at len;refine call_sum_walkG (wpAny_pyIter_list L ?_);refine⟨s.heap.objs.size,_,_,_,_,_,fun i=>c.getD i 0,rfl,Walks.list (A:=X.A.in1) (show X.A.in1.handled=none from I.ok.hd D) s.heap.objs.size l (Nat.ne_of_lt a) d.toArray,⟨⟨_,Heap.get?_push_size _ rfl,rfl,rfl⟩,L.push _⟩,?_,?_,fun S T t' J=>?_⟩
 .intro b f;rcases List.mem_cons.mp f with rfl | f
  .show _<(s.heap.push _).objs.size;rw[Heap.size_push];exact Nat.lt_succ_self _
  .rw[List.mem_singleton.mp f];show _<(s.heap.push _).objs.size;rw[Heap.size_push];exact Nat.lt_succ_of_lt a
 .intro i v M;have y:d[i]? = some v:=by simpa using M
  have a:i<c.length:=by rw[len];exact(List.getElem?_eq_some_iff.mp y).1
  obtain⟨w,B,g⟩:=t.get (i:=i) (x:=.int c[i]) (by rw[List.getElem?_map,List.getElem?_eq_getElem a];rfl);rw[y] at B;cases B;cases g;rename_i j k;refine⟨j,k.trans ?_⟩
  congr 1
  simp[List.getD,a]
 .have N:preSum (fun i=>c.getD i 0) d.toArray.size=c.sum:=by rw[List.size_toArray,<-len,vd c _ (aE _),List.take_length]
  rw[N];exact⟨.int c.sum,H,I.kept fun b o C=>J b o (fun O=>absurd (aR C) (by rw[List.mem_singleton.mp O];exact Nat.lt_irrefl _)) (aF _ C),⟨_,rfl⟩,q⟩
end
end L2
namespace L2.L3
open PySem PySem.Spec PyProof.Rows
section
variable{X:Cx}{F:Fx}{a b:Expr}{ta tb:DT}{pos:Pos}{q:PyData->Prop}
theorem Gn(c:DE X F a ta)(d:DE X F b tb):DE X F (.BinOp a .Pow b pos) (cu (fI qh fun i j=>.int (i ^ j.toNat)) ta tb):=gY Be (qH fun _ _ _=>.int _) c d
noncomputable def vf:DN:=fun d Q=>∃c:List Int,d=[.list (c.map .int)]/\Q (.int c.sum)
theorem mS{H:Hp}:∀{e:List Int}{c:List V},aC H c (e.map PyData.int)->c=e.map V.int
 | [],_,h=>by cases h;rfl
 | b::r,_,h=>by
  cases h with
  | cons d q=>rw[d.int_inv,mS q];rfl
theorem vg:fX (fun xs H Q=>∃(l:Addr) (ns:List Int),xs=[.ref l]/\H l=some (.lst (ns.map V.int))/\Q (.int ns.sum) H) vf where
 mn:=fun _ _ _ k ⟨bs,e,q⟩=>⟨bs,e,k _ q⟩
 ok:=fun O H vs xs Q hO hd ⟨ns,e,q⟩=>by subst e;obtain⟨x,rfl,h1⟩:=fE hd;obtain⟨a,ys,rfl,ha,hy⟩:=h1.lst_inv;exact⟨a,ns,rfl,by rw[(cE ha).1,mS hy],q _ H (fun _ _ h=>h) (.int _)⟩
end
section
variable{X:Cx}{F:Fx}{a b:Expr}{ta tb:DT}{pos:Pos}{q:PyData->Prop}
noncomputable def rb:D2:=fun x y Q=>∃c k,x=.list c/\y=.int k/\(-(2 ^ 63)<=k/\k<2 ^ 63/\c.length * k.toNat<=sizeLine)/\Q (.list (List.replicate k.toNat c).flatten)
theorem vh{H:Hp}{c:List V}{d:List PyData}(r:aC H c d):∀k:Nat,aC H (List.replicate k c).flatten (List.replicate k d).flatten
 | 0=>.nil
 | k+1=>by rw[List.replicate_succ,List.replicate_succ,List.flatten_cons,List.flatten_cons];exact r.append (vh r k)
theorem Go:dJ tU rb where
 mn:=fun _ _ _ _ k zq1a=>by obtain⟨ds,n,e1,e2,e3,q⟩:=zq1a;exact⟨ds,n,e1,e2,e3,k _ q⟩
 ok:=fun O H u v x y Q hO h1 h2 zq2a=>by obtain⟨ds,k,e1,e2,⟨e3,e4,e5⟩,q⟩:=zq2a;subst e1 e2;obtain⟨a,xs,rfl,ha,hd⟩:=h1.lst_inv;refine⟨a,k,xs,rfl,h2.int_inv,(cE ha).1,e3,e4,by rw[hd.length];exact e5,fun p hp=>q _ _ (bC hp) (gz hp (hO p hp) (vh hd _))⟩
theorem Gp(c:DE X F a ta)(d:DE X F b tb):DE X F (.BinOp a .Mult b pos) (cu rb ta tb):=gY BY Go c d
end
end L2.L3
namespace L2
open PySem PySem.Spec PyProof.Rows
section
variable{X:Cx}
noncomputable def vi:List V->Hp->VK->Prop:=fun c H Q=>∃(l:Addr) (b:List Int),c=[.ref l]/\H l=some (.lst (b.map V.int))/\b≠[]/\∀M,M∈b->(∀a,a∈b->a<=M)->Q (.int M) H
theorem Gq(J:X.calm=true):dQ X (.builtin "max") vi:=by
 intro y s Y H xs us Q I r h;obtain⟨l,ns,rfl,M,f,q⟩:=h;obtain⟨u,rfl,N⟩:=vals1 r;cases N;obtain⟨z,d,n,B,e⟩:=I.hok _ _ M;have L:s.heap.IsList l d.toArray:=⟨_,e,rfl,_,rfl⟩
 have c:l<s.heap.objs.size:=aR e;have len:=B.length;rw[List.length_map] at len;have O:0<ns.length:=List.length_pos_iff.mpr f;have at_:∀(i:Nat) (v:Value),d.toArray[i]? = some v->∃t,v=.int (ns.getD i 0) t:=by
  intro i v R;have C:d[i]? = some v:=by simpa using R
  have c:i<ns.length:=by rw[len];exact(List.getElem?_eq_some_iff.mp C).1
  obtain⟨w,D,g⟩:=B.get (i:=i) (x:=.int ns[i]) (by rw[List.getElem?_map,List.getElem?_eq_getElem c];rfl);rw[C] at D;cases D;cases g;rename_i k m;refine⟨k,m.trans ?_⟩
  congr 1
  simp[List.getD,c]
 refine call_max_walk (wpAny_pyIter_list L ?_);refine⟨s.heap.objs.size,_,_,_,_,_,_,rfl,Walks.list (A:=X.A.in1) (show X.A.in1.handled=none from I.ok.hd J) s.heap.objs.size l (Nat.ne_of_lt c) d.toArray,⟨⟨_,Heap.get?_push_size _ rfl,rfl,rfl⟩,L.push _⟩,?_,?_,CmpOf.ints_gt (fun i=>ns.getD i 0) at_,fun v h' tk E S=>?_⟩
 .intro b p;rcases List.mem_cons.mp p with rfl | p
  .show _<(s.heap.push _).objs.size;rw[Heap.size_push];exact Nat.lt_succ_self _
  .rw[List.mem_singleton.mp p];show _<(s.heap.push _).objs.size;rw[Heap.size_push];exact Nat.lt_succ_of_lt c
 .rw[List.size_toArray,<-len];exact O
 .rw[List.size_toArray,<-len] at E;obtain⟨t,rfl⟩:=at_ _ _ E;obtain⟨h1,h2⟩:=argBest_gt (fun i=>ns.getD i 0) (ns.length - 1);refine⟨.int _,H,I.kept fun b o G=>S b o (fun T=>absurd (aR G) (by rw[List.mem_singleton.mp T];exact Nat.lt_irrefl _)) (aF _ G),⟨_,rfl⟩,q _ ?_ fun a U=>?_⟩
  .rw[PySem.getD_at (by lia)];exact List.getElem_mem _
  .obtain⟨j,Z,rfl⟩:=List.getElem_of_mem U;have:=h2 j (by lia);simp only[PySem.getD_at Z] at this;exact this
noncomputable def vj:List V->Hp->VK->Prop:=fun c H Q=>∃(l:Addr) (b:List Int),c=[.ref l]/\H l=some (.lst (b.map V.int))/\b≠[]/\∀M,M∈b->(∀a,a∈b->M<=a)->Q (.int M) H
theorem Gr(J:X.calm=true):dQ X (.builtin "min") vj:=by
 intro y s Y H xs us Q I r h;obtain⟨l,ns,rfl,M,f,q⟩:=h;obtain⟨u,rfl,N⟩:=vals1 r;cases N;obtain⟨z,d,n,B,e⟩:=I.hok _ _ M;have L:s.heap.IsList l d.toArray:=⟨_,e,rfl,_,rfl⟩
 have c:l<s.heap.objs.size:=aR e;have len:=B.length;rw[List.length_map] at len;have O:0<ns.length:=List.length_pos_iff.mpr f;have at_:∀(i:Nat) (v:Value),d.toArray[i]? = some v->∃t,v=.int (ns.getD i 0) t:=by
  intro i v R;have C:d[i]? = some v:=by simpa using R
  have c:i<ns.length:=by rw[len];exact(List.getElem?_eq_some_iff.mp C).1
  obtain⟨w,D,g⟩:=B.get (i:=i) (x:=.int ns[i]) (by rw[List.getElem?_map,List.getElem?_eq_getElem c];rfl);rw[C] at D;cases D;cases g;rename_i k m;refine⟨k,m.trans ?_⟩
  congr 1
  simp[List.getD,c]
 refine call_min_walk (wpAny_pyIter_list L ?_);refine⟨s.heap.objs.size,_,_,_,_,_,_,rfl,Walks.list (A:=X.A.in1) (show X.A.in1.handled=none from I.ok.hd J) s.heap.objs.size l (Nat.ne_of_lt c) d.toArray,⟨⟨_,Heap.get?_push_size _ rfl,rfl,rfl⟩,L.push _⟩,?_,?_,CmpOf.ints_lt (fun i=>ns.getD i 0) at_,fun v h' tk E S=>?_⟩
 .intro b p;rcases List.mem_cons.mp p with rfl | p
  .show _<(s.heap.push _).objs.size;rw[Heap.size_push];exact Nat.lt_succ_self _
  .rw[List.mem_singleton.mp p];show _<(s.heap.push _).objs.size;rw[Heap.size_push];exact Nat.lt_succ_of_lt c
 .rw[List.size_toArray,<-len];exact O
 .rw[List.size_toArray,<-len] at E;obtain⟨t,rfl⟩:=at_ _ _ E;obtain⟨h1,h2⟩:=argBest_lt (fun i=>ns.getD i 0) (ns.length - 1);refine⟨.int _,H,I.kept fun b o G=>S b o (fun T=>absurd (aR G) (by rw[List.mem_singleton.mp T];exact Nat.lt_irrefl _)) (aF _ G),⟨_,rfl⟩,q _ ?_ fun a U=>?_⟩
  .rw[PySem.getD_at (by lia)];exact List.getElem_mem _
  .obtain⟨j,Z,rfl⟩:=List.getElem_of_mem U;have:=h2 j (by lia);simp only[PySem.getD_at Z] at this;exact this
end
end L2
namespace L2.L3
open PySem PySem.Spec PyProof.Rows
section
variable{q:PyData->Prop}
noncomputable def vk:DN:=fun c Q=>∃b:List Int,c=[.list (b.map .int)]/\b≠[]/\∀M,M∈b->(∀a,a∈b->a<=M)->Q (.int M)
theorem Gs:fX vi vk where
 mn:=fun _ _ _ k zq1a=>by obtain⟨bs,e,h,q⟩:=zq1a;exact⟨bs,e,h,fun M h1 h2=>k _ (q M h1 h2)⟩
 ok:=fun O H vs xs Q hO hd zq2a=>by obtain⟨ns,e,h,q⟩:=zq2a;subst e;obtain⟨x,rfl,h1⟩:=fE hd;obtain⟨a,ys,rfl,ha,hy⟩:=h1.lst_inv;exact⟨a,ns,rfl,by rw[(cE ha).1,mS hy],h,fun M h1 h2=>q M h1 h2 _ H (fun _ _ h=>h) (.int _)⟩
noncomputable def vl:DN:=fun c Q=>∃b:List Int,c=[.list (b.map .int)]/\b≠[]/\∀M,M∈b->(∀a,a∈b->M<=a)->Q (.int M)
theorem Gu:fX vj vl where
 mn:=fun _ _ _ k zq1a=>by obtain⟨bs,e,h,q⟩:=zq1a;exact⟨bs,e,h,fun M h1 h2=>k _ (q M h1 h2)⟩
 ok:=fun O H vs xs Q hO hd zq2a=>by obtain⟨ns,e,h,q⟩:=zq2a;subst e;obtain⟨x,rfl,h1⟩:=fE hd;obtain⟨a,ys,rfl,ha,hy⟩:=h1.lst_inv;exact⟨a,ns,rfl,by rw[(cE ha).1,mS hy],h,fun M h1 h2=>q M h1 h2 _ H (fun _ _ h=>h) (.int _)⟩
end
inductive fi (α:Type) where
 | ok (a:α) (U:ag) | ex (c:Str) (U:ag) | bad
@[simp] noncomputable def fi.bind{α β:Type}(o:fi α)(k:α->ag->fi β):fi β:=match o with
 | .ok a U=>k a U
 | .ex c U=>.ex c U
 | .bad=>.bad
@[simp] noncomputable def aQ{α:Type}(o:Option α)(U:ag):fi α:=match o with
 | some a=>.ok a U
 | none=>.bad
noncomputable abbrev XM(α:Type):=ag->fi α
noncomputable def wp{α:Type}(E:Str->ag->Prop)(m:XM α):ag->(α->ag->Prop)->Prop:=fun U Q=>match m U with
 | .ok a b=>Q a b
 | .ex c b=>E c b
 | .bad=>False
section
variable{α β:Type}{E:Str->ag->Prop}
theorem av{m:XM α}:∀U (Q e:α->ag->Prop),(∀d b,Q d b->e d b)->wp E m U Q->wp E m U e:=fun U Q e k q=>by
 unfold wp at q ⊢;generalize m U=o at q ⊢;cases o with
 | ok a b=>exact k _ _ q
 | ex c b=>exact q
 | bad=>exact q
theorem bv{m:XM α}{k:α->XM β}{U:ag}{Q:β->ag->Prop}(h:wp E (fun U=>(m U).bind k) U Q):wp E m U fun a b=>wp E (k a) b Q:=by
 unfold wp at h ⊢;unfold fi.bind at h;simp only at h;generalize m U=o at h ⊢;cases o with
 | ok a b=>exact h
 | ex c b=>exact h
 | bad=>exact h
theorem cx{o:Option α}{U:ag}{Q:α->ag->Prop}(h:wp E (aQ o) U Q):∃a,o=some a/\Q a U:=by
 unfold wp aQ at h;cases o with
 | some a=>exact⟨a,rfl,h⟩
 | none=>exact h.elim
end
section
variable{X:Cx}{F:Fx}{E:Str->ag->Prop}{e a b c:Expr}{es:List Expr}{pos:Pos}
theorem DE.imp{t t':DT}(h:DE X F e t)(f:Mn t')(k:∀U Q,t' U Q->t U Q):DE X F e t':=⟨f,h.pe.imp fun Y H Q d=>by obtain⟨U,O,st,q⟩:=d;exact⟨U,O,st,k U _ q⟩⟩
theorem DO.imp{t t':fc}(h:DO X F e t)(f:uD t')(k:∀U Q,t' U Q->t U Q):DO X F e t':=⟨f,h.pe.imp fun Y H Q d=>by obtain⟨U,O,st,q⟩:=d;exact⟨U,O,st,k U _ q⟩⟩
theorem DA.imp{t t':cF}(h:DA X F es t)(f:mM t')(k:∀U Q,t' U Q->t U Q):DA X F es t':=⟨f,h.pa.imp fun Y H Q d=>by obtain⟨U,O,st,q⟩:=d;exact⟨U,O,st,k U _ q⟩⟩
theorem DX.imp{t t':ff}(h:DX X F es t)(f:uH t')(k:∀U Q,t' U Q->t U Q):DX X F es t':=⟨f,h.pa.imp fun Y H Q d=>by obtain⟨U,O,st,q⟩:=d;exact⟨U,O,st,k U _ q⟩⟩
theorem DB.imp{t t':cg}(h:DB X F e t)(f:gA t')(k:∀U Q,t' U Q->t U Q):DB X F e t':=⟨f,h.pt.imp fun Y H Q d=>by obtain⟨U,O,st,q⟩:=d;exact⟨U,O,st,k U _ q⟩⟩
theorem DW.imp{t t':cg}(h:DW X F e t)(f:gA t')(k:∀U Q,t' U Q->t U Q):DW X F e t':=⟨f,h.pw.imp fun Y H Q d=>by obtain⟨U,O,st,q⟩:=d;exact⟨U,O,st,k U _ q⟩⟩
theorem fe.imp{d:List Stmt}{t t':cP}(h:fe X F d t)(k:∀D U,t' D U->t D U):fe X F d t':=PSs.imp h fun D Y H g=>by obtain⟨U,O,i,st,q,f⟩:=g;exact⟨U,O,i,st,k i U q,f⟩
theorem DS.imp{s:Stmt}{t t':cP}(h:DS X F s t)(k:∀D U,t' D U->t D U):DS X F s t':=PS.imp h fun D Y H d=>by obtain⟨U,O,g,st,q,f⟩:=d;exact⟨U,O,g,st,k g U q,f⟩
abbrev FE(X:Cx)(F:Fx)(E:Str->ag->Prop)(e:Expr)(m:XM PyData):Prop:=DE X F e (wp E m)
abbrev FO(X:Cx)(F:Fx)(E:Str->ag->Prop)(e:Expr)(m:XM af):Prop:=DO X F e (wp E m)
abbrev FB(X:Cx)(F:Fx)(E:Str->ag->Prop)(e:Expr)(m:XM Bool):Prop:=DB X F e (wp E m)
abbrev FW(X:Cx)(F:Fx)(E:Str->ag->Prop)(e:Expr)(m:XM Bool):Prop:=DW X F e (wp E m)
abbrev FA(X:Cx)(F:Fx)(E:Str->ag->Prop)(es:List Expr)(m:XM (List PyData)):Prop:=DA X F es (wp E m)
abbrev FX(X:Cx)(F:Fx)(E:Str->ag->Prop)(es:List Expr)(m:XM (List AX)):Prop:=DX X F es (wp E m)
abbrev FI(X:Cx)(F:Fx)(E:Str->ag->Prop)(d iter:Expr)(m:XM (List PyData)):Prop:=DI X F d iter (wp E m)
noncomputable abbrev GM:=PyData->ag->Option ag
noncomputable def et(g:GM):dB:=fun d U Q=>match g d U with
 | some f=>Q f
 | none=>False
abbrev FG(X:Cx)(F:Fx)(d:Expr)(g:GM):Prop:=DG X F d (et g)
abbrev FS(X:Cx)(F:Fx)(E:Str->ag->Prop)(s:Stmt)(m:SM):Prop:=DS X F s (wpS E m)
abbrev hV(X:Cx)(F:Fx)(E:Str->ag->Prop)(s:List Stmt)(m:SM):Prop:=fe X F s (wpS E m)
@[simp] noncomputable def xC(d:PyData):XM PyData:=fun U=>.ok d U
@[simp] noncomputable def xV(i:Nat):XM PyData:=fun U=>match U[i]? with
 | some (some (.dat d))=>.ok d U
 | some (some (.own false (.l f)))=>.ok (.list f) (U.set i (some (.dat (.list f))))
 | _=>.bad
theorem az{d:PyData}(h:DE X F e (dC d)):FE X F E e (xC d):=h.imp av fun _ _ q=>q
theorem Gv{i:Nat}(h:DE X F e (dV i)):FE X F E e (xV i):=h.imp av fun U Q q=>by
 unfold wp xV at q;unfold dV;cases h:U[i]? with
 | none=>rw[h] at q;exact q.elim
 | some o=>
  rw[h] at q;cases o with
  | none=>exact q.elim
  | some c=>
   cases c with
   | dat d=>exact .inl ⟨d,rfl,q⟩
   | scr n=>exact q.elim
   | exc n=>exact q.elim
   | vw n=>exact q.elim
   | own io f=>
    cases io with
    | true=>exact q.elim
    | false=>
     cases f with
     | l g=>exact .inr ⟨g,rfl,q⟩
     | m _ _=>exact q.elim
     | o _ _=>exact q.elim
     | sd _=>exact q.elim
     | ll _=>exact q.elim
     | pr _ _ _=>exact q.elim
@[simp] noncomputable def ao(g:PyData->PyData->Option PyData)(a b:XM PyData):XM PyData:=fun U=>(a U).bind fun x d=>(b d).bind fun y=>aQ (g x y)
def F2(f:D2)(g:PyData->PyData->Option PyData):Prop:=∀x y d Q,g x y=some d->Q d->f x y Q
theorem eR{f:D2}{g:PyData->PyData->Option PyData}{i j:XM PyData}(k:F2 f g)(h:DE X F e (cu f (wp E i) (wp E j))):FE X F E e (ao g i j):=h.imp av fun U Q q=>by refine av _ _ _ (fun x p l=>?_) (bv q);refine av _ _ _ (fun y r m=>?_) (bv l);obtain⟨d,n,o⟩:=cx m;exact k x y d _ n o
@[simp] noncomputable def bB(m:XM PyData):XM Bool:=fun U=>(m U).bind fun d=>aQ (match d with | .bool b=>some b | _=>none)
theorem rc{U:ag}{Q:Bool->ag->Prop}{m:XM PyData}(q:wp E (bB m) U Q):eP (wp E m) U Q:=av _ _ _ (fun d i g=>by
 obtain⟨b,f,h⟩:=cx g;cases d with
 | bool j=>cases f;exact⟨_,rfl,h⟩
 | _=>cases f) (bv q)
theorem jC{f:D2}{g:PyData->PyData->Option PyData}{i j:XM PyData}(k:F2 f g)(h:DB X F e (eP (cu f (wp E i) (wp E j)))):FB X F E e (bB (ao g i j)):=h.imp av fun U Q q=>by have l:=rc q;refine av _ _ _ (fun x r m=>?_) (bv l);refine av _ _ _ (fun y s n=>?_) (bv m);obtain⟨d,o,p⟩:=cx n;exact k x y d _ o p
theorem fZ{m:XM PyData}(h:DB X F e (eP (wp E m))):FB X F E e (bB m):=h.imp av fun U Q q=>rc q
@[simp] noncomputable def gI(g:Int->Int->PyData):PyData->PyData->Option PyData:=fun x y=>match x,y with
 | .int i,.int j=>some (g i j)
 | _,_=>none
@[simp] noncomputable def kL(C:Int->Int->Bool)(g:Int->Int->PyData):PyData->PyData->Option PyData:=fun x y=>match x,y with
 | .int i,.int j=>if C i j=true then some (g i j) else none
 | _,_=>none
theorem hZ{g:Int->Int->PyData}:F2 (fI (fun _ _=>True) g) (gI g):=fun x y d Q e q=>by
 unfold gI at e;split at e
 .cases e;exact⟨_,_,rfl,rfl,trivial,q⟩
 .cases e
theorem re{C:Int->Int->Bool}{P:Int->Int->Prop}{g:Int->Int->PyData}(h:∀i j,C i j=true->P i j):F2 (fI P g) (kL C g):=fun x y d Q e q=>by
 unfold kL at e;split at e
 .split at e
  .rename_i f;cases e;exact⟨_,_,rfl,rfl,h _ _ f,q⟩
  .cases e
 .cases e
noncomputable def ic(i j:Int):Bool:=(decide (-(2 ^ 64)<i)&&decide (i<2 ^ 64))||(decide (-(2 ^ 64)<j)&&decide (j<2 ^ 64))
noncomputable def jD(_ j:Int):Bool:=decide (0<j)&&decide (j<1073741824)
noncomputable def kM(_ j:Int):Bool:=decide (0<j)
noncomputable def mT(i j:Int):Bool:=decide (0<=j)&&decide (j<=1000000)&&decide (i.natAbs<2 ^ 64)
theorem Gw(i j:Int)(h:ic i j=true):km i j:=by unfold ic at h;simp only[Bool.or_eq_true,Bool.and_eq_true,decide_eq_true_eq] at h;exact h
theorem Gx(i j:Int)(h:jD i j=true):mx i j:=by unfold jD at h;simp only[Bool.and_eq_true,decide_eq_true_eq] at h;exact h
theorem Gy(i j:Int)(h:kM i j=true):0<j:=by unfold kM at h;simpa using h
theorem Gz(i j:Int)(h:mT i j=true):qh i j:=by unfold mT at h;simp only[Bool.and_eq_true,decide_eq_true_eq] at h;exact⟨h.1.1,h.1.2,h.2⟩
noncomputable def aO(neg:Bool):PyData->PyData->Option PyData:=fun x y=>if (SeqAt.shaped x&&SeqAt.shaped y)=true then some (.bool (PyData.eqv x y != neg)) else none
theorem rf{neg:Bool}:F2 (kA neg) (aO neg):=fun x y d Q e q=>by
 unfold aO at e;split at e
 .rename_i h;cases e;exact⟨(Bool.and_eq_true_iff.mp h).1,(Bool.and_eq_true_iff.mp h).2,q⟩
 .cases e
@[simp] noncomputable def mU:PyData->PyData->Option PyData:=fun x y=>match y with | .none=>some (.bool (isNone x)) | _=>none
theorem GA:F2 qK mU:=fun x y d Q e q=>by
 unfold mU at e;split at e
 .cases e;exact⟨rfl,q⟩
 .cases e
@[simp] noncomputable def jE:PyData->PyData->Option PyData:=fun x y=>match x,y with
 | .list d,.list es=>if d.length+es.length<=sizeLine then some (.list (d++es)) else none
 | _,_=>none
@[simp] noncomputable def mV:PyData->PyData->Option PyData:=fun x y=>match x,y with
 | .tuple d,.tuple es=>if d.length+es.length<=sizeLine then some (.tuple (d++es)) else none
 | _,_=>none
theorem GB:F2 qM jE:=fun x y d Q e q=>by
 unfold jE at e;split at e
 .split at e
  .rename_i h;cases e;exact⟨_,_,rfl,rfl,h,q⟩
  .cases e
 .cases e
theorem GC:F2 qN mV:=fun x y d Q e q=>by
 unfold mV at e;split at e
 .split at e
  .rename_i h;cases e;exact⟨_,_,rfl,rfl,h,q⟩
  .cases e
 .cases e
@[simp] noncomputable def jF:PyData->PyData->Option PyData:=fun x y=>match x,y with
 | .list d,.int k=>if (decide (-(2 ^ 63)<=k)&&decide (k<2 ^ 63)&&decide (d.length * k.toNat<=sizeLine))=true then some (.list (List.replicate k.toNat d).flatten) else none
 | _,_=>none
theorem GD:F2 rb jF:=fun x y d Q e q=>by
 unfold jF at e;split at e
 .split at e
  .rename_i h;cases e;simp only[Bool.and_eq_true,decide_eq_true_eq] at h;exact⟨_,_,rfl,rfl,⟨h.1.1,h.1.2,h.2⟩,q⟩
  .cases e
 .cases e
@[simp] noncomputable def kN(a:XM PyData):XM PyData:=fun U=>(a U).bind fun d=>aQ (match d with | .int i=>some (.int (-i)) | _=>none)
theorem mW{f:XM PyData}(h:FE X F E a f):FE X F E (.UnaryOp .USub a pos) (kN f):=(Dy h).imp av fun U Q q=>av _ _ _ (fun d l j=>by
 obtain⟨y,g,k⟩:=cx j;cases d with
 | int i=>cases g;exact⟨i,rfl,k⟩
 | _=>cases g) (bv q)
@[simp] noncomputable def vm(a:XM PyData):XM PyData:=fun U=>(a U).bind fun d=>aQ (match d with | .bool b=>some (.bool (!b)) | _=>none)
theorem GG{f:XM PyData}(h:FE X F E a f):FE X F E (.UnaryOp .Not a pos) (vm f):=(DC h).imp av fun U Q q=>av _ _ _ (fun d k i=>by
 obtain⟨y,g,j⟩:=cx i;cases d with
 | bool b=>cases g;exact⟨b,rfl,j⟩
 | _=>cases g) (bv q)
@[simp] noncomputable def vn(b:XM PyData)(d:PyData):XM PyData:=fun f=>match d with
 | .bool true=>b f
 | .bool false=>.ok (.bool false) f
 | _=>.bad
@[simp] noncomputable def vo(b:XM PyData)(d:PyData):XM PyData:=fun f=>match d with
 | .bool true=>.ok (.bool true) f
 | .bool false=>b f
 | _=>.bad
@[simp] noncomputable def jG(a b:XM PyData):XM PyData:=fun U=>(a U).bind (vn b)
@[simp] noncomputable def vp(a b:XM PyData):XM PyData:=fun U=>(a U).bind (vo b)
theorem kO{rest:List Expr}{h f:XM PyData}(i:FE X F E a h)(j:FE X F E (.BoolOp .And (b::rest) pos) f):FE X F E (.BoolOp .And (a::b::rest) pos) (jG h f):=(DK i j).imp av fun U Q q=>av _ _ _ (fun d l g=>by
 cases d with
 | bool b=>cases b with
  | true=>exact⟨true,rfl,ej g⟩
  | false=>exact⟨false,rfl,ei g⟩
 | _=>exact g.elim) (bv (k:=vn f) q)
theorem GI{rest:List Expr}{h f:XM PyData}(i:FE X F E a h)(j:FE X F E (.BoolOp .Or (b::rest) pos) f):FE X F E (.BoolOp .Or (a::b::rest) pos) (vp h f):=(DL i j).imp av fun U Q q=>av _ _ _ (fun d l g=>by
 cases d with
 | bool b=>cases b with
  | true=>exact⟨true,rfl,ej g⟩
  | false=>exact⟨false,rfl,ei g⟩
 | _=>exact g.elim) (bv (k:=vo f) q)
theorem mY{op}{d:XM PyData}(h:FE X F E a d):FE X F E (.BoolOp op [a] pos) d:=DJ h
@[simp] noncomputable def rh(p f:Int->Int->Bool)(a b c:XM PyData):XM PyData:=fun U=>(a U).bind fun x g=>(b g).bind fun y d=>match x,y with
 | .int i,.int j=>if p i j=true then(c d).bind (fun z=>aQ (match z with | .int k=>some (.bool (f j k)) | _=>none)) else .ok (.bool false) d
 | _,_=>.bad
theorem GJ{p l:Int->Int->Bool}{o r n:XM PyData}(h:DE X F e (qO p l (wp E o) (wp E r) (wp E n))):FE X F E e (rh p l o r n):=h.imp av fun U Q q=>by
 refine av _ _ _ (fun x w t=>?_) (bv q);refine av _ _ _ (fun y A f=>?_) (bv t);unfold wp at f;cases x with
 | int i=>cases y with
  | int j=>
   refine⟨i,j,rfl,rfl,?_⟩
   by_cases g:p i j=true
   .simp only[if_pos g] at f;rw[if_pos g];refine av _ _ _ (fun z B u=>?_) (bv (m:=n) (k:=fun z=>aQ (match z with | .int k=>some (PyData.bool (l j k)) | _=>none)) f);obtain⟨d,s,v⟩:=cx u;cases z with
    | int k=>cases s;exact⟨k,rfl,v⟩
    | _=>cases s
   .simp only[if_neg g] at f;rw[if_neg g];exact f
  | _=>exact f.elim
 | _=>exact f.elim
@[simp] noncomputable def gc(a:XM Bool):XM Bool:=fun U=>(a U).bind fun b d=>.ok (!b) d
theorem gG{f:XM Bool}(h:FB X F E a f):FB X F E (.UnaryOp .Not a pos) (gc f):=(DQ h).imp av fun U Q q=>av _ _ _ (fun d g i=>i) (bv (k:=fun b g=>.ok (!b) g) q)
@[simp] noncomputable def vr(a b:XM Bool):XM Bool:=fun U=>(a U).bind fun x d=>if x=true then b d else .ok false d
@[simp] noncomputable def kP(a b:XM Bool):XM Bool:=fun U=>(a U).bind fun x d=>if x=true then .ok true d else b d
theorem GK{d:XM Bool}(h:FB X F E a d):FW X F E (.BoolOp .And [a] pos) d:=DY h
theorem ri{d:XM Bool}(h:FB X F E a d):FW X F E (.BoolOp .Or [a] pos) d:=DZ h
theorem GL{rest:List Expr}{h f:XM Bool}(j:FB X F E a h)(l:FW X F E (.BoolOp .And (b::rest) pos) f):FW X F E (.BoolOp .And (a::b::rest) pos) (vr h f):=(Ea j l).imp av fun U Q q=>av _ _ _ (fun d g i=>by
 cases d with
 | true=>exact ej i
 | false=>exact ei i) (bv (k:=fun x g=>if x=true then f g else .ok false g) q)
theorem rj{rest:List Expr}{h f:XM Bool}(j:FB X F E a h)(l:FW X F E (.BoolOp .Or (b::rest) pos) f):FW X F E (.BoolOp .Or (a::b::rest) pos) (kP h f):=(Eb j l).imp av fun U Q q=>av _ _ _ (fun d g i=>by
 cases d with
 | true=>exact ej i
 | false=>exact ei i) (bv (k:=fun x g=>if x=true then .ok true g else f g) q)
theorem mZ{d:XM Bool}(h:FW X F E e d):FB X F E e d:=h.db
@[simp] noncomputable def bn:XM (List PyData):=fun U=>.ok [] U
@[simp] noncomputable def aN(a:XM PyData)(r:XM (List PyData)):XM (List PyData):=fun U=>(a U).bind fun d f=>(r f).bind fun g h=>.ok (d::g) h
theorem bD:FA X F E [] bn:=Dr.imp av fun _ _ q=>q
theorem GN{i:XM PyData}{h:XM (List PyData)}(l:FE X F E e i)(m:FA X F E es h)(n:autoParam (starEach (e::es) X.env=(false,eval e X.env)::starEach es X.env) Zq._auto_1):FA X F E (e::es) (aN i h):=(Ds l m n).imp av fun U Q q=>av _ _ _ (fun d j o=>av _ _ _ (fun f g p=>p) (bv (k:=fun f g=>.ok (d::f) g) o)) (bv (k:=fun d j=>(h j).bind fun f g=>.ok (d::f) g) q)
@[simp] noncomputable def iM(a:XM (List PyData)):XM PyData:=fun U=>(a U).bind fun d=>aQ (if d.length<=sizeLine then some (.tuple d) else none)
@[simp] noncomputable def gH(a:XM (List PyData)):XM PyData:=fun U=>(a U).bind fun d=>aQ (if d.length<=sizeLine then some (.list d) else none)
theorem jH{i}{g:XM (List PyData)}(h:FA X F E es g):FE X F E (.Tuple es i pos) (iM g):=(Dv h).imp av fun U Q q=>av _ _ _ (fun l m j=>by
 obtain⟨d,f,k⟩:=cx j;split at f
 .rename_i h;cases f;exact⟨h,k⟩
 .cases f) (bv q)
theorem iN{g:XM (List PyData)}(h:FA X F E es g):FE X F E (.List es pos) (gH g):=(Dw h).imp av fun U Q q=>av _ _ _ (fun k l i=>by
 obtain⟨d,f,j⟩:=cx i;split at f
 .rename_i h;cases f;exact⟨h,j⟩
 .cases f) (bv q)
@[simp] noncomputable def cJ(g:List PyData->Option PyData)(a:XM (List PyData)):XM PyData:=fun U=>(a U).bind fun d=>aQ (g d)
def FN(f:DN)(g:List PyData->Option PyData):Prop:=∀h d Q,g h=some d->Q d->f h Q
theorem dZ{f:DN}{g:List PyData->Option PyData}{i:XM (List PyData)}(j:FN f g)(h:DE X F e (jx f (wp E i))):FE X F E e (cJ g i):=h.imp av fun U Q q=>av _ _ _ (fun k o l=>by
 obtain⟨d,m,n⟩:=cx l;exact j k d _ m n) (bv q)
end
section
variable{X:Cx}{F:Fx}{E:Str->ag->Prop}{e a b c:Expr}{es:List Expr}{st:Stmt}{rest:List Stmt}{pos:Pos}{x:Str}
@[simp] noncomputable def ea:List PyData->Option PyData:=fun f=>match f with
 | [.list d]=>some (.int d.length)
 | [.tuple d]=>some (.int d.length)
 | _=>none
theorem jI:FN uP ea:=fun f d Q e q=>by
 unfold ea at e;split at e
 .cases e;exact⟨_,.inl rfl,q⟩
 .cases e;exact⟨_,.inr rfl,q⟩
 .cases e
@[simp] noncomputable def kQ:List PyData->Option PyData:=fun d=>match d with
 | [.int i,.int j]=>if jD i j=true then some (.tuple [.int (i / j),.int (i % j)]) else none
 | _=>none
theorem rm:FN uQ kQ:=fun f d Q e q=>by
 unfold kQ at e;split at e
 .split at e
  .rename_i h;cases e;exact⟨_,_,rfl,Gx _ _ h,q⟩
  .cases e
 .cases e
noncomputable def ints?:List PyData->Option (List Int)
 | []=>some []
 | .int i::r=>(ints? r).map (i::·)
 | _::_=>none
theorem ng:∀{g:List PyData}{f:List Int},ints? g=some f->g=f.map .int
 | [],_,e=>by cases e;rfl
 | d::r,f,e=>by
  cases d with
  | int i=>
   cases q:ints? r with
   | none=>simp[ints?,q] at e
   | some l=>simp[ints?,q] at e;subst e;rw[ng q];rfl
  | _=>cases e
theorem jJ(d:List Int):ints? (d.map .int)=some d:=by
 induction d with
 | nil=>rfl
 | cons i r f=>simp[ints?,f]
noncomputable def ie:List PyData->Option PyData:=fun d=>match d with
 | [.list f]=>(ints? f).map fun g=>.int g.sum
 | _=>none
theorem vt:FN vf ie:=fun h d Q e q=>by
 unfold ie at e;split at e
 .obtain⟨bs,f,g⟩:=Option.map_eq_some_iff.mp e;rw[ng f];subst g;exact⟨bs,rfl,q⟩
 .cases e
noncomputable def rn:List Int->Option Int
 | []=>none
 | i::r=>some (r.foldl max i)
noncomputable def kR:List Int->Option Int
 | []=>none
 | i::r=>some (r.foldl min i)
theorem GO(r:List Int):∀i,i<=r.foldl max i/\(∀a∈r,a<=r.foldl max i)/\(r.foldl max i=i\/r.foldl max i∈r):=by
 induction r with
 | nil=>intro i;exact⟨Int.le_refl _,fun a h=>(by cases h),.inl rfl⟩
 | cons j r f=>
  intro i;obtain⟨d,h2,h3⟩:=f (max i j);refine⟨Int.le_trans (Int.le_max_left _ _) d,fun a h=>?_,?_⟩
  .rcases List.mem_cons.mp h with rfl | h
   .exact Int.le_trans (Int.le_max_right _ _) d
   .exact h2 a h
  .rcases h3 with h3 | h3
   .rw[List.foldl_cons,h3];rcases Int.le_total i j with q | q
    .exact .inr (by rw[Int.max_eq_right q];exact List.mem_cons_self)
    .exact .inl (Int.max_eq_left q)
   .exact .inr (bh _ h3)
theorem GP(r:List Int):∀i,r.foldl min i<=i/\(∀a∈r,r.foldl min i<=a)/\(r.foldl min i=i\/r.foldl min i∈r):=by
 induction r with
 | nil=>intro i;exact⟨Int.le_refl _,fun a h=>(by cases h),.inl rfl⟩
 | cons j r f=>
  intro i;obtain⟨d,h2,h3⟩:=f (min i j);refine⟨Int.le_trans d (Int.min_le_left _ _),fun a h=>?_,?_⟩
  .rcases List.mem_cons.mp h with rfl | h
   .exact Int.le_trans d (Int.min_le_right _ _)
   .exact h2 a h
  .rcases h3 with h3 | h3
   .rw[List.foldl_cons,h3];rcases Int.le_total i j with q | q
    .exact .inl (Int.min_eq_left q)
    .exact .inr (by rw[Int.min_eq_right q];exact List.mem_cons_self)
   .exact .inr (bh _ h3)
noncomputable def gJ:List PyData->Option PyData:=fun d=>match d with
 | [.list f]=>((ints? f).bind rn).map .int
 | _=>none
noncomputable def ig:List PyData->Option PyData:=fun d=>match d with
 | [.list f]=>((ints? f).bind kR).map .int
 | _=>none
theorem GQ:∀g d (Q:PyData->Prop),gJ g=some d->Q d->∃f:List Int,g=[.list (f.map .int)]/\f≠[]/\∃M,d=.int M/\M∈f/\(∀a∈f,a<=M):=fun o d Q e q=>by
 unfold gJ at e;split at e
 .obtain⟨M,k,l⟩:=Option.map_eq_some_iff.mp e;obtain⟨f,m,j⟩:=Option.bind_eq_some_iff.mp k;cases f with
  | nil=>cases j
  | cons i r=>
   cases j;obtain⟨n,h2,h3⟩:=GO r i;refine⟨i::r,by rw[ng m],by simp,_,l.symm,?_,fun a h=>?_⟩
   .rcases h3 with h3 | h3
    .rw[h3];exact List.mem_cons_self
    .exact bh _ h3
   .rcases List.mem_cons.mp h with rfl | h
    .exact n
    .exact h2 a h
 .cases e
theorem GS:∀g d (Q:PyData->Prop),ig g=some d->Q d->∃f:List Int,g=[.list (f.map .int)]/\f≠[]/\∃M,d=.int M/\M∈f/\(∀a∈f,M<=a):=fun o d Q e q=>by
 unfold ig at e;split at e
 .obtain⟨M,k,l⟩:=Option.map_eq_some_iff.mp e;obtain⟨f,m,j⟩:=Option.bind_eq_some_iff.mp k;cases f with
  | nil=>cases j
  | cons i r=>
   cases j;obtain⟨n,h2,h3⟩:=GP r i;refine⟨i::r,by rw[ng m],by simp,_,l.symm,?_,fun a h=>?_⟩
   .rcases h3 with h3 | h3
    .rw[h3];exact List.mem_cons_self
    .exact bh _ h3
   .rcases List.mem_cons.mp h with rfl | h
    .exact n
    .exact h2 a h
 .cases e
theorem GU:FN vk gJ:=fun g d Q e q=>by obtain⟨l,h1,h2,M,h3,h,i⟩:=GQ g d Q e q;refine⟨l,h1,h2,fun f j k=>?_⟩;have:f = M:=Int.le_antisymm (i f j) (k M h);rw[this,<-h3];exact q
theorem GV:FN vl ig:=fun g d Q e q=>by obtain⟨l,h1,h2,M,h3,h,i⟩:=GS g d Q e q;refine⟨l,h1,h2,fun f j k=>?_⟩;have:f = M:=Int.le_antisymm (k M h) (i f j);rw[this,<-h3];exact q
@[simp] noncomputable def nh(i:Nat):XM PyData:=fun U=>match U[i]? with
 | some (some (.scr ns))=>if ns.length<=63 then .ok (.int ns.length) U else .bad
 | _=>.bad
@[simp] noncomputable def ni(i:Nat)(a:XM PyData):XM PyData:=fun U=>match U[i]? with
 | some (some (.scr ns))=>(a U).bind fun d=>aQ (match d with | .int k=>(bR ns k).map .int | _=>none)
 | _=>.bad
@[simp] noncomputable def ro(i:Nat):XM Bool:=fun U=>match U[i]? with
 | some (some (.scr ns))=>.ok (decide (ns=[])) U
 | _=>.bad
theorem vu{i:Nat}(h:DE X F e (uU i)):FE X F E e (nh i):=h.imp av fun U Q q=>by
 unfold wp nh at q;cases h:U[i]? with
 | none=>rw[h] at q;exact q.elim
 | some o=>
  rw[h] at q;cases o with
  | none=>exact q.elim
  | some c=>
   cases c with
   | scr ns=>
    simp only at q
    by_cases d:ns.length<=63
    .rw[if_pos d] at q;exact⟨ns,h,fun _=>q⟩
    .rw[if_neg d] at q;exact q.elim
   | _=>exact q.elim
theorem vv{i:Nat}{f:XM PyData}(h:DE X F e (uW i (wp E f))):FE X F E e (ni i f):=h.imp av fun U Q q=>by
 unfold wp ni at q;cases h:U[i]? with
 | none=>rw[h] at q;exact q.elim
 | some o=>
  rw[h] at q;cases o with
  | none=>exact q.elim
  | some c=>
   cases c with
   | scr ns=>
    refine⟨ns,h,av _ _ _ (fun d s j=>?_) (bv (m:=f) (k:=fun d=>aQ (match d with | .int k=>(bR ns k).map PyData.int | _=>none)) q)⟩;obtain⟨y,g,l⟩:=cx j;cases d with
    | int k=>obtain⟨n,p,r⟩:=Option.map_eq_some_iff.mp g;subst r;exact⟨k,n,rfl,p,l⟩
    | _=>cases g
   | _=>exact q.elim
theorem GW{i:Nat}(h:DB X F e (uZ i)):FB X F E e (ro i):=h.imp av fun U Q q=>by
 unfold wp ro at q;cases h:U[i]? with
 | none=>rw[h] at q;exact q.elim
 | some o=>
  rw[h] at q;cases o with
  | none=>exact q.elim
  | some c=>
   cases c with
   | scr ns=>exact⟨ns,h,q⟩
   | _=>exact q.elim
@[simp] noncomputable def al(i:Nat):GM:=fun d U=>some (U.set i (some (.dat d)))
theorem GX{i:Nat}(h:DG X F e (gN i)):FG X F e (al i):=⟨fun d U Q g k q=>k _ q,h.pg.imp fun v Y H Q f=>by obtain⟨U,O,d,st,hd,q⟩:=f;exact⟨U,O,d,st,hd,q⟩⟩
noncomputable abbrev gK:=List PyData->ag->Option ag
noncomputable def jK(g:gK):hF:=fun d U Q=>match g d U with
 | some f=>Q f
 | none=>False
abbrev nj(X:Cx)(F:Fx)(d:List Expr)(g:gK):Prop:=kD X F d (jK g)
@[simp] noncomputable def cj:gK:=fun d U=>match d with | []=>some U | _=>none
@[simp] noncomputable def bj(t:GM)(u:gK):gK:=fun f U=>match f with | d::r=>(t d U).bind fun g=>u r g | []=>none
theorem GY{g:GM}:∀d U (Q f:ag->Prop),(∀h,Q h->f h)->et g d U Q->et g d U f:=fun d U Q f k q=>by
 unfold et at q ⊢;generalize g d U=o at q ⊢;cases o with
 | some h=>exact k _ q
 | none=>exact q
theorem vA{g:gK}:∀d U (Q f:ag->Prop),(∀h,Q h->f h)->jK g d U Q->jK g d U f:=fun d U Q f k q=>by
 unfold jK at q ⊢;generalize g d U=o at q ⊢;cases o with
 | some h=>exact k _ q
 | none=>exact q
theorem iO:nj X F [] cj:=⟨vA,Ev.pg.imp fun v Y H Q ⟨U,O,d,st,hd,q⟩=>⟨U,O,d,st,hd,by
 unfold jK cj at q;cases d with
 | nil=>exact⟨rfl,q⟩
 | cons _ _=>exact q.elim⟩⟩
theorem ec{g:GM}{f:gK}(j:FG X F e g)(k:nj X F es f)(i:autoParam ((assignEach (e::es) X.env).map (·.2)=assign e X.env::(assignEach es X.env).map (·.2)) Zq._auto_1):nj X F (e::es) (bj g f):=⟨vA,(Ew j k i).pg.imp fun v Y H Q ⟨U,O,d,st,hd,q⟩=>⟨U,O,d,st,hd,by
 unfold jK bj at q;cases d with
 | nil=>exact q.elim
 | cons d r=>
  refine⟨d,r,rfl,?_⟩;unfold et;simp only at q;cases h:g d U with
  | none=>rw[h] at q;exact q
  | some l=>rw[h] at q;exact q⟩⟩
@[simp] noncomputable def ck(n:Nat)(t:gK):GM:=fun d U=>match d with | .tuple f=>if f.length=n then t f U else none | _=>none
theorem iP{k n:Nat}{i:gK}(l:X.calm=true)(h:nj X F es i)(m:autoParam ((assignEach es X.env).length=n) Zq._auto_1)(f:autoParam ((assignEach es X.env).findIdx? (·.1)=none) Zq._auto_1):FG X F (.Tuple es k pos) (ck n i):=⟨GY,(Ey l h m f).pg.imp fun v Y H Q ⟨U,O,d,st,hd,q⟩=>⟨U,O,d,st,hd,by
 unfold et ck at q;cases d with
 | tuple j=>
  simp only at q
  by_cases g:j.length=n
  .rw[if_pos g] at q;exact⟨j,rfl,g,q⟩
  .rw[if_neg g] at q;exact q.elim
 | _=>exact q.elim⟩⟩
@[simp] noncomputable def ba:XM (List AX):=fun U=>.ok [] U
@[simp] noncomputable def aq(a:XM PyData)(r:XM (List AX)):XM (List AX):=fun U=>(a U).bind fun d f=>(r f).bind fun as g=>.ok (.d d::as) g
@[simp] noncomputable def cY(j:Nat)(r:XM (List AX)):XM (List AX):=fun U=>match U[j]? with
 | some (some _)=>(r U).bind fun as d=>.ok (.s j::as) d
 | _=>.bad
theorem bf:FX X F E [] ba:=EZ.imp av fun _ _ q=>q
theorem GZ{g:XM PyData}{h:XM (List AX)}(j:FE X F E e g)(l:FX X F E es h)(n:autoParam (starEach (e::es) X.env=(false,eval e X.env)::starEach es X.env) Zq._auto_1):FX X F E (e::es) (aq g h):=(Fa j l n).imp av fun U Q q=>av _ _ _ (fun d i o=>av _ _ _ (fun r f p=>p) (bv (k:=fun as f=>fi.ok (AX.d d::as) f) o)) (bv (m:=g) (k:=fun d i=>(h i).bind fun as f=>fi.ok (AX.d d::as) f) q)
theorem Ha{p:Pos}{j:Nat}{d:XM (List AX)}(g:PE X (.Name x p) (cV j))(i:FX X F E es d)(l:autoParam (starEach (.Name x p::es) X.env=(false,eval (.Name x p) X.env)::starEach es X.env) Zq._auto_1):FX X F E (.Name x p::es) (cY j d):=(Fb g i l).imp av fun U Q q=>by
 unfold wp cY at q;cases h:U[j]? with
 | none=>rw[h] at q;exact q.elim
 | some o=>
  rw[h] at q;cases o with
  | none=>exact q.elim
  | some c=>exact⟨⟨c,h⟩,av _ _ _ (fun as f n=>n) (bv (m:=d) (k:=fun as f=>fi.ok (AX.s j::as) f) (show wp E (fun U=>(d U).bind fun as f=>fi.ok (AX.s j::as) f) U Q from q))⟩
@[simp] noncomputable def rp(f:FM)(as:List AX):XM af:=fun U=>match fC U as with
 | some (cs,g)=>(match f cs with
  | .rt c d=>.ok c (bX g d (er g U))
  | .ex c d=>.ex c (bX g d (er g U))
  | .bad=>.bad)
 | none=>.bad
@[simp] noncomputable def aW(f:FM)(a:XM (List AX)):XM af:=fun U=>(a U).bind (rp f)
theorem Hb{g:FM}{j:XM (List AX)}(h:DO X F e (uK g E (wp E j))):FO X F E e (aW g j):=h.imp av fun U Q q=>av _ _ _ (fun as m d=>by
 unfold wp rp at d;unfold hU;cases l:fC m as with
 | none=>rw[l] at d;exact d
 | some p=>
  obtain⟨cs,n⟩:=p;rw[l] at d;simp only at d ⊢;cases i:g cs with
  | rt c f=>rw[i] at d;exact d
  | ex c f=>rw[i] at d;exact d
  | bad=>rw[i] at d;exact d) (bv (k:=rp g) q)
@[simp] noncomputable def bE(a:XM af):XM PyData:=fun U=>(a U).bind fun c=>aQ (frz c)
theorem bN{d:XM af}(h:FO X F E e d):FE X F E e (bE d):=h.de.imp av fun U Q q=>av _ _ _ (fun c g f=>cx f) (bv q)
@[simp] noncomputable def cZ:SM:=fun U=>.nx U
@[simp] noncomputable def aU(m k:SM):SM:=fun U=>match m U with
 | .nx d=>k d
 | o=>o
theorem dL:hV X F E [] cZ:=EB.imp fun _ _ q=>q
theorem gL{m k:SM}(d:FS X F E st m)(f:hV X F E rest k):hV X F E (st::rest) (aU m k):=(ED d f).imp fun D U q=>by
 show wpS E m _ U;unfold wpS aU at q;unfold wpS;generalize m U=o at q ⊢;cases o with
 | nx g=>exact q
 | _=>exact q
theorem ez{m:SM}(h:FS X F E st m):hV X F E [st] m:=EE h
@[simp] noncomputable def fj{α:Type}(o:fi α)(k:α->ag->fB):fB:=match o with
 | .ok a U=>k a U
 | .ex c U=>.ex c U
 | .bad=>.bad
theorem gd{α:Type}{m:XM α}{k:α->SM}{D:dD}{U:ag}(q:wpS E (fun U=>fj (m U) k) D U):wp E m U fun a d=>wpS E (k a) D d:=by
 unfold wpS fj at q;unfold wp;simp only at q;generalize m U=o at q ⊢;cases o with
 | ok a d=>exact q
 | ex c d=>exact q
 | bad=>exact q
@[simp] noncomputable def rq(o:Option ag):fB:=match o with
 | some U=>.nx U
 | none=>.bad
@[simp] noncomputable def bY(m:XM PyData)(g:GM):SM:=fun U=>fj (m U) fun d f=>rq (g d f)
theorem ry{m:XM PyData}{g:GM}{D:dD}{U:ag}(q:wpS E (bY m g) D U):mQ (wp E m) (et g) D U:=av _ _ _ (fun d h f=>by
 unfold wpS rq at f;unfold et;simp only at f;generalize g d h=o at f ⊢;cases o with
 | some i=>exact f
 | none=>exact f) (gd (k:=fun d h=>rq (g d h)) q)
theorem Hc{d:Expr}{m:XM PyData}{g:GM}(f:FE X F E e m)(h:FG X F d g)(i:autoParam (swapsWithSole [d] e pos.line X.env=pure false) Zq._auto_1)(j:autoParam (swappedStores [d] e X.env=pure none) Zq._auto_1)
  (k:autoParam ((assignEach [d] X.env).map (·.2)=[assign d X.env]) Zq._auto_1):FS X F E (.Assign [d] e pos) (bY m g):=(EF f h i j k).imp fun D U q=>ry q
theorem vB{i:Nat}{d:Pos}{m:XM PyData}(f:X.N.Nodup)(g:X.N[i]? = some x)(h:Loc X.env.scope x)(j:FE X F E e m)(k:autoParam (swapsWith e (some (.Name x d)) pos.line X.env=pure false) Zq._auto_1)
  (l:X.fn x=true\/X.env.scope.names.lookup x=some .local:=by first | exact .inl rfl | exact .inr rfl | assumption):FS X F E (.Assign [.Name x d] e pos) (bY m (al i)):=(EG f g h j k l).imp fun D U q=>ry q
@[simp] noncomputable def rz(i:Nat)(c:af):SM:=fun d=>if i<d.length then(match c with | .own true _=>.bad | c=>.nx (d.set i (some c))) else .bad
@[simp] noncomputable def jL(i:Nat)(m:XM af):SM:=fun U=>fj (m U) (rz i)
theorem He{i:Nat}{g:Pos}{m:XM af}(j:X.N.Nodup)(l:X.N[i]? = some x)(n:Loc X.env.scope x)(o:FO X F E e m)(p:autoParam (swapsWith e (some (.Name x g)) pos.line X.env=pure false) Zq._auto_1)
  (r:X.fn x=true\/X.env.scope.names.lookup x=some .local:=by first | exact .inl rfl | exact .inr rfl | assumption):FS X F E (.Assign [.Name x g] e pos) (jL i m):=(EN j l n o p r).imp fun D U q=>av _ _ _ (fun c s f=>by
 unfold wpS rz at f
 by_cases h:i<s.length
 .simp only[if_pos h] at f;cases c with
  | own io b=>cases io with
   | true=>exact f.elim
   | false=>exact⟨h,(fun _ z=>by cases z),f⟩
  | dat d=>exact⟨h,(fun _ z=>by cases z),f⟩
  | scr d=>exact⟨h,(fun _ z=>by cases z),f⟩
  | exc d=>exact⟨h,(fun _ z=>by cases z),f⟩
  | vw d=>exact⟨h,(fun _ z=>by cases z),f⟩
 .simp only[if_neg h] at f) (gd (k:=rz i) q)
@[simp] noncomputable def ca(m:XM PyData):SM:=fun U=>fj (m U) fun d f=>.rt (.dat d) f
@[simp] noncomputable def kS(m:XM af):SM:=fun U=>fj (m U) fun c d=>.rt c d
@[simp] noncomputable def fF(m:XM af):SM:=fun U=>fj (m U) fun _ d=>.nx d
theorem Hf{m:XM PyData}(g:FE X F E e m):FS X F E (.Return (some e) pos) (ca m):=(uF g).imp fun D U q=>av _ _ _ (fun c f h=>h) (gd (k:=fun d f=>.rt (.dat d) f) q)
theorem Hg{m:XM af}(g:FO X F E e m):FS X F E (.Return (some e) pos) (kS m):=(EJ g).imp fun D U q=>av _ _ _ (fun c f h=>h) (gd (k:=fun d f=>.rt d f) q)
theorem Hh{m:XM af}(f:FO X F E e m)(g:autoParam (swapsWith e none pos.line X.env=pure false) Zq._auto_1):FS X F E (.Expr e pos) (fF m):=(EQ f g).imp fun D U q=>av _ _ _ (fun c d h=>h) (gd (k:=fun _ d=>.nx d) q)
@[simp] noncomputable def nk(i:Nat):SM:=fun U=>match U[i]? with
 | some (some (.own false b))=>.rt (.own false b) (U.set i none)
 | some (some (.dat d))=>.rt (.dat d) U
 | _=>.bad
@[simp] noncomputable def da(t:XM Bool)(a b:SM):SM:=fun U=>fj (t U) fun x d=>if x=true then a d else b d
theorem vC{d:Expr}{j l:List Stmt}{mt:XM Bool}{f g:SM}(m:FB X F E d mt)(n:hV X F E j f)(o:hV X F E l g):FS X F E (.If d j l pos) (da mt f g):=(ES m n o).imp fun D U q=>av _ _ _ (fun x h i=>by
 cases x with
 | true=>exact ej i
 | false=>exact ei i) (gd (k:=fun x h=>if x=true then f h else g h) q)
end
noncomputable def dr(d n:String):Option Bool:=if d=n then some true else
 if d="bool"/\n="int" then some true else
 if (d="int"\/d="bool"\/d="str"\/d="list"\/d="tuple"\/d="NoneType")/\(n="int"\/n="bool"\/n="str"\/n="list"\/n="tuple") then some false else none
theorem Hi{d n:String}{b:Bool}(h:dr d n=some b)(K:Frag):kitOne K (.type d) (.type n)=some b:=by
 unfold dr at h;split at h
 .rename_i e;cases h;subst e;unfold kitOne;rw[if_pos (by simp)]
 .split at h
  .rename_i e;cases h;obtain⟨rfl,rfl⟩:=e;rfl
  .rename_i a c;split at h
   .rename_i e;cases h;obtain⟨f,g⟩:=e;rcases f with rfl | rfl | rfl | rfl | rfl | rfl<;>rcases g with rfl | rfl | rfl | rfl | rfl<;>first | rfl | (exact absurd rfl a) | (exact absurd ⟨rfl,rfl⟩ c)
   .cases h
@[simp] noncomputable def kT(n:String)(a:XM PyData):XM PyData:=fun U=>(a U).bind fun d=>aQ ((dr (qG d) n).map .bool)
section
variable{X:Cx}{F:Fx}{E:Str->ag->Prop}{e a b c:Expr}{es:List Expr}{st:Stmt}{rest:List Stmt}{pos:Pos}{x:Str}
theorem nn{n:String}{f:XM PyData}(h:DE X F e (uz n (wp E f))):FE X F E e (kT n f):=h.imp av fun U Q q=>av _ _ _ (fun d m g=>by
 obtain⟨y,i,j⟩:=cx g;obtain⟨b,k,l⟩:=Option.map_eq_some_iff.mp i;subst l;exact⟨b,Hi k,j⟩) (bv q)
theorem vD{i:Nat}{l:Pos}(m:PE X (.Name x l) (cV i)):FS X F E (.Return (some (.Name x l)) pos) (nk i):=fun g s Y H D I j=>by
 obtain⟨U,O,p,k,q,f⟩:=j;unfold wpS nk at q;cases h:U[i]? with
 | none=>rw[h] at q;exact q.elim
 | some o=>
  rw[h] at q;cases o with
  | none=>exact q.elim
  | some c=>
   cases c with
   | own io b=>cases io with
    | true=>exact q.elim
    | false=>exact EL m g s Y H D I ⟨U,O,p,k,⟨b,h,q⟩,f⟩
   | dat d=>exact uF (um i m) g s Y H D I ⟨U,O,p,k,.inl ⟨d,h,q⟩,f⟩
   | scr n=>exact q.elim
   | exc n=>exact q.elim
   | vw n=>exact q.elim
noncomputable def cm(g:GM)(b:SM):List PyData->SM
 | [],U=>.nx U
 | d::r,U=>(match g d U with
  | some h=>(match b h with
   | .nx f=>cm g b r f
   | .ct f=>cm g b r f
   | .bk f=>.nx f
   | o=>o)
  | none=>.bad)
@[simp] noncomputable def gM(s:XM (List PyData))(g:GM)(b:SM):SM:=fun U=>fj (s U) (cm g b)
theorem Hj{n iter:Expr}{body:List Stmt}{s:XM (List PyData)}{g:GM}{l:SM}(t:PassesOwn (model X.prog X.w) X.A X.env X.xe)(u:X.calm=true)(f:FI X F E n iter s)(v:FG X F n g)(y:hV X F E body l)(z:autoParam (∀x,foldedSetIterable iter X.env x=pure x) Zs._auto_1):FS X F E (.For n iter body [] pos) (gM s g l):=
 (Fm t u f v y z).imp fun D U q=>av _ _ _ (fun j p B=>by
  refine⟨fun i U=>wpS E (cm g l (j.drop i)) D U,B,fun i d U hd f=>?_,fun U h=>?_⟩
  .have e:j.drop i=d::j.drop (i+1):=by obtain⟨r,C⟩:=List.getElem?_eq_some_iff.mp hd;rw[<-C];exact List.drop_eq_getElem_cons r
   simp only[e] at f;unfold wpS cm at f;unfold et;generalize g d U=o at f ⊢;cases o with
   | none=>exact f
   | some p=>
    show wpS E l _ p;simp only at f;unfold wpS;generalize l p=G at f ⊢;cases G with
    | nx m=>exact f
    | ct m=>exact f
    | bk m=>exact f
    | rt c m=>exact f
    | ex c m=>exact f
    | bad=>exact f
  .simp only[List.drop_length] at h;exact h) (gd (k:=cm g l) q)
@[simp] noncomputable def dt(a:XM PyData):XM (List PyData):=fun U=>(a U).bind fun d=>aQ (match d with | .list f=>some f | _=>none)
@[simp] noncomputable def kU(a:XM PyData):XM (List PyData):=fun U=>(a U).bind fun d=>aQ (match d with | .tuple f=>some f | _=>none)
theorem DI.imp{g iter:Expr}{t t':cX}(h:DI X F g iter t)(l:∀U Q i,(∀d j,Q d j->i d j)->t' U Q->t' U i)(k:∀U Q,t' U Q->t U Q):DI X F g iter t':=⟨l,h.pi.imp fun Y H Q f=>by obtain⟨U,O,st,q⟩:=f;exact⟨U,O,st,k U _ q⟩⟩
theorem gf{i:Expr}{f:XM PyData}(h:FE X F E e f):FI X F E i e (dt f):=(Fi h).imp av fun U Q q=>av _ _ _ (fun d l j=>by
 obtain⟨y,g,k⟩:=cx j;cases d with
 | list m=>cases g;exact⟨_,rfl,k⟩
 | _=>cases g) (bv q)
theorem nq{i:Expr}{f:XM PyData}(h:FE X F E e f):FI X F E i e (kU f):=(Fj h).imp av fun U Q q=>av _ _ _ (fun d l j=>by
 obtain⟨y,g,k⟩:=cx j;cases d with
 | tuple m=>cases g;exact⟨_,rfl,k⟩
 | _=>cases g) (bv q)
@[simp] noncomputable def gO(g:List PyData->Option (List PyData))(a:XM (List PyData)):XM (List PyData):=fun U=>(a U).bind fun d=>aQ (g d)
@[simp] noncomputable def dc:List PyData->Option (List PyData):=fun d=>match d with
 | [.int j]=>if (decide (-(2 ^ 62)<=j)&&decide (j<2 ^ 62))=true then some (intsFrom 0 j.toNat) else none
 | _=>none
theorem rA{f:Expr}{g:XM (List PyData)}(h:DI X F f e (uM (wp E g))):FI X F E f e (gO dc g):=h.imp av fun U Q q=>av _ _ _ (fun k l i=>by
 obtain⟨y,d,j⟩:=cx i;unfold dc at d;split at d
 .split at d
  .rename_i h;cases d;simp only[Bool.and_eq_true,decide_eq_true_eq] at h;exact⟨_,rfl,h.1,h.2,j⟩
  .cases d
 .cases d) (bv q)
noncomputable def bJ(g:GM)(t:XM Bool)(m:XM PyData):List PyData->List PyData->ag->Option (List PyData)
 | [],f,_=>some f
 | d::r,f,U=>(match g d U with
  | some i=>(match t i with
   | .ok true h=>(match m h with
    | .ok y j=>if f.length<sizeLine then bJ g t m r (f++[y]) j else none
    | _=>none)
   | .ok false h=>bJ g t m r f h
   | _=>none)
  | none=>none)
@[simp] noncomputable def nr(own:Nat)(d:List Nat)(U:ag):ag:=List.replicate own none++d.map fun j=>uN U[j]?
@[simp] noncomputable def vE(own:Nat)(d:List Nat)(g:GM)(t:XM Bool)(m:XM PyData)(f:List PyData):XM PyData:=fun h=>aQ ((bJ g t m f [] (nr own d h)).bind fun i=>if i.length<=sizeLine then some (.list i) else none) h
@[simp] noncomputable def df(own:Nat)(d:List Nat)(s:XM (List PyData))(g:GM)(t:XM Bool)(m:XM PyData):XM PyData:=fun U=>(s U).bind (vE own d g t m)
noncomputable abbrev fG:Str->ag->Prop:=fun _ _=>False
theorem vF{own:List Str}{j:List Nat}{s:XM (List PyData)}{g:GM}{t:XM Bool}{m:XM PyData}{U:ag}{Q:PyData->ag->Prop}(q:wp E (df own.length j s g t m) U Q):kG own j (wp E s) (et g) (wp fG t) (wp fG m) U Q:=av _ _ _ (fun l r G=>by
 obtain⟨y,H,A⟩:=cx (o:=(bJ g t m l [] (nr own.length j r)).bind fun p=>if p.length<=sizeLine then some (PyData.list p) else none) (U:=r) (E:=E) (Q:=Q) G;obtain⟨n,I,u⟩:=Option.bind_eq_some_iff.mp H;have B:n.length<=sizeLine/\y=.list n:=by
  split at u
  .rename_i h;cases u;exact⟨h,rfl⟩
  .cases u
 have J:fD own j r=nr own.length j r:=by unfold fD nr;rw[List.map_const']
 refine⟨fun i p U=>bJ g t m (l.drop i) p U=some n,by rw[J];exact I,fun i d p U hd f=>?_,fun p U h=>?_⟩
 .have e:l.drop i=d::l.drop (i+1):=by obtain⟨v,L⟩:=List.getElem?_eq_some_iff.mp hd;rw[<-L];exact List.drop_eq_getElem_cons v
  simp only[e] at f;unfold bJ at f;unfold et;cases C:g d U with
  | none=>rw[C] at f;cases f
  | some M=>
   rw[C] at f;simp only at f ⊢;unfold wp;cases w:t M with
   | ex c D=>rw[w] at f;cases f
   | bad=>rw[w] at f;cases f
   | ok b D=>
    rw[w] at f;cases b with
    | false=>exact ei f
    | true=>
     refine ej ?_;simp only at f ⊢;cases z:m D with
     | ex c N=>rw[z] at f;cases f
     | bad=>rw[z] at f;cases f
     | ok O N=>
      rw[z] at f;simp only at f ⊢;split at f
      .rename_i h;exact⟨h,f⟩
      .cases f
 .simp only[List.drop_length] at h;have:p=n:=by unfold bJ at h;exact Option.some.inj h
  subst this;rw[B.2] at A;exact⟨B.1,A⟩) (bv (k:=vE own.length j g t m) q)
abbrev kW(X:Cx)(F:Fx)(E:Str->ag->Prop)(d:List Expr)(m:XM Bool):Prop:=jA X F d (wp E m)
noncomputable def dg:XM Bool:=fun U=>.ok true U
theorem jM:kW X F E [] dg:=⟨av,fun d s Y H Q I f=>by obtain⟨U,O,st,q⟩:=f;exact Fq.2 d s Y H Q I ⟨U,O,st,q⟩⟩
theorem jN{d:XM Bool}(h:FB X F E c d):kW X F E [c] d:=Fs h
theorem ij{d:Scope}{own f:List Str}{h:List Nat}{l iter i:Expr}{j:List Expr}{s:XM (List PyData)}{g:GM}{t:XM Bool}{m:XM PyData}{n:Nat}(w:GF X.mg F)(S:ae X d own f h)(y:X.calm=true)(z:own.length=n)(A:FI X F E l iter s)
  (o:∀C p r u v k,GF X.mg k->FG (bA X d (own++f) C p r u v) k l g/\kW (bA X d (own++f) C p r u v) k fG j t/\FE (bA X d (own++f) C p r u v) k fG i m)
  (B:autoParam (∀x,foldedSetIterable iter X.env x=pure x) Zs._auto_1):FE X F E (.ListComp i [⟨l,iter,j,0⟩] d pos) (df n h s g t m):=by
 subst z;exact(Ft w S y A o B).imp av fun U Q q=>vF q
theorem vG{f:Scope}{own capN:List Str}{caps:List Nat}{o iter k:Expr}{l:List Expr}{s:XM (List PyData)}{g:GM}{t:XM Bool}{m:XM PyData}{n i:Nat}{y:Str}{py j:Pos}(H:X.N.Nodup)(r:X.N[i]? = some y)(I:Loc X.env.scope y)(J:GF X.mg F)(S:ae X f own capN caps)(L:X.calm=true)(M:own.length=n)(O:FI X F E o iter s)
  (u:∀C v w z A p,GF X.mg p->FG (bA X f (own++capN) C v w z A) p o g/\kW (bA X f (own++capN) C v w z A) p fG l t/\FE (bA X f (own++capN) C v w z A) p fG k m)
  (B:autoParam (swapsWith (.ListComp k [⟨o,iter,l,0⟩] f pos) (some (.Name y py)) j.line X.env=pure true) Zq._auto_1)
  (R:autoParam (∀x,foldedSetIterable iter X.env x=pure x) Zs._auto_1) (T:X.fn y=true\/X.env.scope.names.lookup y=some .local:=by first | exact .inl rfl | exact .inr rfl | assumption) :
  FS X F E (.Assign [.Name y py] (.ListComp k [⟨o,iter,l,0⟩] f pos) j) (bY (df n caps s g t m) (al i)):=by
 subst M;exact(Fu H r I J S L O u B R T).imp fun D U q=>by have Y:=ry q;exact qX (s:=wp E s) av U _ _ (fun d G h=>h) (vF (Q:=fun d G=>et (al i) d G D.nx) Y)
end
section
variable{K:Frag}{F:Fx}{H H':Hp}{Y:St}{U:ag}{O O':List Addr}
theorem au.fresh(st:au K F H Y U O){p:Addr}{o:HO}(c:H p=none)(d:Mv o):∃O',au K (F.plus [p]) (aS H p o) Y U O'/\aJ O H O' (aS H p o):=by obtain⟨O',h1,h2,_⟩:=au.swap (L:=[]) (L':=[p]) (H':=aS H p o) (F:=F) st (fun b u _ e=>bC c b u e) (by simp) (fun a h=>.inr (by obtain rfl:=List.mem_singleton.mp h;exact c)) (fun a h=>by cases h) (fun a h=>by obtain rfl:=List.mem_singleton.mp h;exact⟨o,cU,d⟩);exact⟨O',h1,h2⟩
theorem au.new1(st:au K F H Y U O){p:Addr}(c:H p=none):∀a∈[p],a∈F.A₀\/F.H₀ a=none:=fun a h=>by
 obtain rfl:=List.mem_singleton.mp h
 by_cases b:a∈F.A₀
 .exact .inl b
 .refine .inr ?_;cases e:F.H₀ a with
  | none=>rfl
  | some o=>obtain⟨W,h,_⟩:=st;have:=h.kept a o b e;rw[c] at this;cases this
end
section
variable{X:Cx}{F:Fx}{E:Str->ag->Prop}{e a b c:Expr}{es:List Expr}{st:Stmt}{rest:List Stmt}{pos:Pos}{x:Str}
noncomputable def Hk(t:cF):fc:=fun U Q=>t U fun d f=>d.length<=sizeLine/\Q (.own false (.l d)) f
theorem Hl{j:cF}(h:DA X F es j):DO X F (.List es pos) (Hk j):=
 ⟨fun _ _ _ k q=>h.mn _ _ _ (fun _ _ d=>⟨d.1,k _ _ d.2⟩) q,(ql h.pa).imp fun Y H Q f=>by obtain⟨U,O,st,q⟩:=f;exact 
  ⟨U,O,st,h.mn _ _ _ (fun u v d l w y g s m=>⟨by rw[m.length];exact d.1,fun p n=>by
   obtain⟨t,i,r⟩:=g.fresh (o:=.lst l) n trivial;exact d.2 _ _ t [p] ⟨i,⟨p,rfl,rfl,l,cU,aC.mono r.hid m⟩,g.new1 n⟩ (s.trans r)⟩) q⟩⟩
@[simp] noncomputable def rB(a:XM (List PyData)):XM af:=fun U=>(a U).bind fun d=>aQ (if d.length<=sizeLine then some (.own false (.l d)) else none)
theorem vH{g:XM (List PyData)}(h:FA X F E es g):FO X F E (.List es pos) (rB g):=(Hl h).imp av fun U Q q=>av _ _ _ (fun k l i=>by
 obtain⟨d,f,j⟩:=cx i;split at f
 .rename_i h;cases f;exact⟨h,j⟩
 .cases f) (bv q)
@[simp] noncomputable def rC(i:Nat)(d:PyData):SM:=fun f=>match f[i]? with
 | some (some (.own io (.l g)))=>if g.length<sizeLine then .nx (f.set i (some (.own io (.l (g++[d]))))) else .bad
 | _=>.bad
@[simp] noncomputable def nt(i:Nat)(m:XM PyData):SM:=fun U=>match U[i]? with
 | some (some (.own _ (.l _)))=>fj (m U) (rC i)
 | _=>.bad
theorem vI{i:Nat}{m:XM PyData}{r apos g:Pos}(R:PE X (.Name x r) (cV i))(S:FE X F E e m)(z:autoParam (swapsWith (.Call (.Attribute (.Name x r) "append" apos) [e] [] g) none pos.line X.env=pure false) Zq._auto_1)
  (n:autoParam (attributeBase (.Name x r) "append" X.env (eval (.Name x r) X.env)=eval (.Name x r) X.env) Zq._auto_1)
  (t:autoParam (((backTo g (starEach [e] X.env)).all (fun x=>!x.1)&&(backToKw g (keywordEach [] X.env)).all (fun x=>x.1.isSome)&&decide (([e]:List Expr).length+([]:List Keyword).length+(if ([]:List Keyword).isEmpty then 0 else 1)<30))=true) Zq._auto_1)
  (p:autoParam ((apos.endLine==g.line)=true) Zq._auto_1) (N:autoParam (starEach [e] X.env=(false,eval e X.env)::starEach [] X.env) Zq._auto_1) (j:autoParam ((backTo g (starEach [] X.env)).any (·.1)=false) Zq._auto_1) :
  FS X F E (.Expr (.Call (.Attribute (.Name x r) "append" apos) [e] [] g) pos) (nt i m):=
 (tu (BR PySem.F.plainAttrs_list PySem.F.slot_list_append PySem.F.type_list_append BV R (eL S.pe eX N) n t p N j) z).imp fun D Y H u=>by
  obtain⟨U,O,DD,st,q,f⟩:=u;unfold wpS nt at q;cases A:U[i]? with
  | none=>rw[A] at q;exact q.elim
  | some o=>
   rw[A] at q;cases o with
   | none=>exact q.elim
   | some T=>
    cases T with
    | dat d=>exact q.elim
    | scr d=>exact q.elim
    | exc d=>exact q.elim
    | vw d=>exact q.elim
    | own Z b0=>
     cases b0 with
     | m _ _=>exact q.elim
     | o _ _=>exact q.elim
     | sd _=>exact q.elim
     | ll _=>exact q.elim
     | pr _ _ _=>exact q.elim
     | l a0=>
      obtain⟨a,fp,v,⟨_,xs,hH,_⟩,_,_⟩:=st.box A;refine⟨_,v,.inl ⟨rfl,xs,.of hH⟩,U,O,st,av _ _ _ (fun d U1 h w H1 O1 B s1 d1=>?_) (gd (m:=m) (k:=rC i) q)⟩;unfold wpS rC at h;cases h1:U1[i]? with
      | none=>rw[h1] at h;exact h.elim
      | some o=>
       rw[h1] at h;cases o with
       | none=>exact h.elim
       | some c1=>
        cases c1 with
        | dat d=>exact h.elim
        | scr d=>exact h.elim
        | exc d=>exact h.elim
        | vw d=>exact h.elim
        | own a2 b1=>
         cases b1 with
         | m _ _=>exact h.elim
         | o _ _=>exact h.elim
         | sd _=>exact h.elim
         | ll _=>exact h.elim
         | pr _ _ _=>exact h.elim
         | l Q=>
          simp only at h;obtain⟨a1,a3,y,⟨e1,C,I,hd⟩,hO,up⟩:=B.box h1;rw[v] at y;cases y;subst e1
          by_cases J:Q.length<sizeLine
          .rw[if_pos J] at h;refine⟨a,C,w,rfl,rfl,I,by rw[hd.length];exact J,?_⟩;obtain⟨O2,L,s2,_⟩:=up (aS H1 a (.lst (C++[w]))) (.l (Q++[d])) [a] (fun c o M e=>by rw[bQ (by simpa using M)];exact e) (by simp) (fun c M=>.inl M) (fun G O' s hG _=>by
            subst hG;exact⟨s.hid,rfl,C++[w],cU,(aC.mono s.hid hd).append (.cons (DV.mono s.hid d1) .nil)⟩)
           exact f.nx _ _ _ _ L (s1.trans s2) h
          .rw[if_neg J] at h;exact h.elim
@[simp] noncomputable def Hm:af->Option PyData
 | .dat (.list d)=>some (.int d.length)
 | .dat (.tuple d)=>some (.int d.length)
 | .own _ (.l d)=>some (.int d.length)
 | _=>none
@[simp] noncomputable def rD(i:Nat):XM PyData:=fun U=>match U[i]? with
 | some (some c)=>aQ (Hm c) U
 | _=>.bad
theorem Hn{i:Nat}{p k:Pos}(w:Gl X "len")(y:X.mg "len" = none)(h:PE X (.Name x k) (cV i))(t:autoParam (starEach [.Name x k] X.env=(false,eval (.Name x k) X.env)::starEach [] X.env) Zq._auto_1)(r:autoParam ((backTo pos (starEach [] X.env)).any (·.1)=false) Zq._auto_1) :
  FE X F E (.Call (.Name "len" p) [.Name x k] [] pos) (rD i):=
 ⟨av,(iD gW w y PySem.boot_len (eL h eX t) (by decide) (by decide) t r).imp fun Y H Q f=>by
  obtain⟨U,O,st,q⟩:=f;unfold wp rD at q;cases m:U[i]? with
  | none=>rw[m] at q;exact q.elim
  | some o=>
   rw[m] at q;cases o with
   | none=>exact q.elim
   | some z=>
    unfold aQ at q;cases z with
    | scr d=>exact q.elim
    | exc d=>exact q.elim
    | vw d=>exact q.elim
    | dat d=>
     obtain⟨v,n,hd⟩:=st.dat m;cases d with
     | list u=>obtain⟨a,g,rfl,s,j⟩:=hd.lst_inv;exact⟨_,n,a,g,rfl,.inl (.of (cE s).1),by rw[j.length];exact q _ H O st .refl (.int _)⟩
     | tuple u=>obtain⟨a,g,rfl,s,j⟩:=hd.tup_inv;exact⟨_,n,a,g,rfl,.inr (.inl (gx s).1),by rw[j.length];exact q _ H O st .refl (.int _)⟩
     | _=>exact q.elim
    | own io b=>
     cases b with
     | l u=>obtain⟨a,B,n,⟨_,g,A,j⟩,_,_⟩:=st.box m;exact⟨_,n,a,g,rfl,.inl (.of A),by rw[j.length];exact q _ H O st .refl (.int _)⟩
     | _=>exact q.elim⟩
end
noncomputable def eE:PyData->Option aA
 | .int i=>some (.inl i)
 | .str x=>some (.inr x)
 | _=>none
noncomputable def gg:List PyData->Option (List aA)
 | []=>some []
 | d::r=>(match eE d,gg r with | some k,some l=>some (k::l) | _,_=>none)
noncomputable def du:Bool->PyData->Option (List aA)
 | false,d=>(eE d).map fun k=>[k]
 | true,.tuple a=>gg a
 | true,_=>none
noncomputable abbrev bU:=List (PyData×PyData)
noncomputable def bF(a:Bool):bU->List aA->Option PyData
 | [],_=>none
 | p::r,k=>if du a p.1=some k then some p.2 else bF a r k
noncomputable def fH(a:Bool)(k:List aA)(v:PyData):bU->bU
 | []=>[]
 | p::r=>(if du a p.1=some k then(p.1,v) else p)::fH a k v r
noncomputable def eF(b:Bool)(a:bU)(d:PyData)(k:List aA)(v:PyData):bU:=if (bF b a k).isSome=true then fH b k v a else a++[(d,v)]
theorem rE{G:Hp}{v:V}{d:PyData}{k:aA}(h:DV G v d)(e:eE d=some k):v=kV k:=by
 cases d with
 | int i=>cases e;exact h.int_inv
 | str x=>cases e;exact h.str_inv
 | _=>cases e
theorem rF{k:aA}:eE (el k)=some k:=by cases k<;>rfl
theorem vJ{d:PyData}{k:aA}(e:eE d=some k):d=el k:=by
 cases d with
 | int i=>cases e;rfl
 | str x=>cases e;rfl
 | _=>cases e
theorem vK:∀{a:List aA},gg (a.map el)=some a
 | []=>rfl
 | k::r=>by show(match eE (el k),gg (r.map el) with | some k,some l=>some (k::l) | _,_=>none)=_;rw[rF,vK]
theorem nu:∀{b:List PyData}{a:List aA},gg b=some a->b=a.map el
 | [],a,e=>by cases e;rfl
 | d::r,a,e=>by
  unfold gg at e;cases h1:eE d with
  | none=>rw[h1] at e;cases e
  | some k=>
   cases h2:gg r with
   | none=>rw[h1,h2] at e;cases e
   | some l=>rw[h1,h2] at e;cases e;rw[vJ h1,nu h2];rfl
theorem rG{G:Hp}:∀{a:List V}{b:List aA},aC G a (b.map el)->a=b.map kV
 | [],[],_=>rfl
 | _::_,k::r,.cons h1 h2=>by rw[rE h1 rF,rG h2];rfl
theorem nv{κ:Type}[DecidableEq κ]{R:κ->PyData->Prop}{G:Hp}{f:Bool}{inj:κ->List aA}(g:∀k d,R k d->du f d=some (inj k))(j:∀a b,inj a=inj b->a=b) :
  ∀{i:List (κ×V)}{c:bU}(k:κ),Paired (fun(p:κ×V) (q:PyData×PyData)=>R p.1 q.1/\DV G p.2 q.2) i c->(dU i k=none/\bF f c (inj k)=none)\/∃v d,dU i k=some v/\bF f c (inj k)=some d/\DV G v d
 | [],[],k,_=>.inl ⟨rfl,rfl⟩
 | p::r,q::s,k,.cons h t=>by
  by_cases e:p.1=k
  .refine .inr ⟨p.2,q.2,mz e,?_,h.2⟩;unfold bF;rw[if_pos (by rw[g _ _ h.1,e])]
  .rw[mB e];unfold bF;rw[if_neg (by rw[g _ _ h.1];exact fun z=>e (j _ _ (Option.some.inj z)))];exact nv g j k t
theorem vL{κ:Type}[DecidableEq κ]{R:κ->PyData->Prop}{G:Hp}{i:Bool}{inj:κ->List aA}(f:∀k d,R k d->du i d=some (inj k))(j:∀a b,inj a=inj b->a=b){v:V}{x:PyData}(l:DV G v x) :
  ∀{m:List (κ×V)}{c:bU}(k:κ),Paired (fun(p:κ×V) (q:PyData×PyData)=>R p.1 q.1/\DV G p.2 q.2) m c->Paired (fun(p:κ×V) (q:PyData×PyData)=>R p.1 q.1/\DV G p.2 q.2) (m.map fun g=>if g.1=k then(g.1,v) else g) (fH i (inj k) x c)
 | [],[],k,_=>.nil
 | p::r,q::s,k,.cons h t=>by
  refine .cons ?_ (vL f j l k t);dsimp only
  by_cases e:p.1=k
  .rw[if_pos e,if_pos (by rw[f _ _ h.1,e])];exact⟨h.1,l⟩
  .rw[if_neg e,if_neg (by rw[f _ _ h.1];exact fun z=>e (j _ _ (Option.some.inj z)))];exact h
theorem vM{α β:Type}{R:α->β->Prop}:∀{a:List α}{b:List β}{c:List α}{d:List β},Paired R a b->Paired R c d->Paired R (a++c) (b++d)
 | _,_,_,_,.nil,h=>h
 | _,_,_,_,.cons h t,r=>.cons h (vM t r)
theorem vN{κ:Type}[DecidableEq κ]{R:κ->PyData->Prop}{G:Hp}{g:Bool}{inj:κ->List aA}(i:∀k d,R k d->du g d=some (inj k))(j:∀a b,inj a=inj b->a=b){v:V}{x d:PyData}(l:DV G v x)
  {m:List (κ×V)}{c:bU}{k:κ}(hd:R k d) (h:Paired (fun(p:κ×V) (q:PyData×PyData)=>R p.1 q.1/\DV G p.2 q.2) m c):Paired (fun(p:κ×V) (q:PyData×PyData)=>R p.1 q.1/\DV G p.2 q.2) (dH m k v) (eF g c d (inj k) x):=by
 rcases nv i j k h with⟨e,f⟩ | ⟨n,o,e,f,_⟩
 .rw[Cd v e];unfold eF;rw[f,if_neg (by simp)];exact vM h (.cons ⟨hd,l⟩ .nil)
 .unfold eF;rw[f,if_pos (by rfl)];unfold dH;rw[if_pos (by rw[mC,e];rfl)];exact vL i j l k h
theorem dF:∀(k:aA) (d:PyData),el k=d->du false d=some [k]:=fun k d e=>by subst e;show(eE (el k)).map _=_;rw[rF];rfl
theorem ny:∀(a b:aA),[a]=[b]->a=b:=fun a b e=>by cases e;rfl
theorem iQ:∀(k:List aA) (d:PyData),mG k=d->du true d=some k:=fun k d e=>by subst e;exact vK
@[simp] noncomputable def ed(a:Bool)(d:PyData):Option (List aA):=match d with
 | .tuple []=>none
 | d=>du a d
theorem vO{a:Bool}{d:PyData}{k:List aA}(e:ed a d=some k):du a d=some k/\d≠.tuple []:=by
 unfold ed at e;split at e
 .cases e
 .rename_i h;exact⟨e,h⟩
theorem rH:∀{ds:List PyData}{k:List aA},gg ds=some k->ds≠[]->bW ds=false
 | [],_,_,h=>absurd rfl h
 | [d],k,e,_=>by cases d<;>first | rfl | (simp[gg,eE] at e)
 | d::f::r,k,e,_=>by
  unfold gg at e;split at e
  .rename_i g l a b;have c:=rH (ds:=f::r) b (by simp);cases d<;>first | (exact(by simpa[bW] using c)) | (exfalso;simp[eE] at a)
  .cases e
section
variable{G H:Hp}{a:Addr}{tk:Bool}{kvs:bU}
theorem rJ(h:eY G H a tk kvs)(l:bz G H){y:V}{d:PyData}{k:List aA}(g:DV G y d)(e:ed tk d=some k):∃o,eN H a y o/\((o=none/\bF tk kvs k=none)\/∃v x,o=some v/\bF tk kvs k=some x/\DV G v x):=by
 obtain⟨e,c⟩:=vO e;cases tk with
 | false=>obtain⟨m,f,pr⟩:=h;obtain⟨n,p,q⟩:=Option.map_eq_some_iff.mp e;subst q;obtain rfl:=rE g p;exact⟨_,.k f,nv dF ny n pr⟩
 | true=>
  obtain⟨m,f,pr⟩:=h;cases d with
  | tuple r=>obtain⟨b,s,rfl,i,j⟩:=g.tup_invK (rH e fun z=>c (by rw[z]));rw[nu e] at j;rw[rG j] at i;exact⟨_,.t f (l _ _ i),nv (inj:=id) iQ (fun _ _ z=>z) k pr⟩
  | _=>cases e
theorem Ho(h:eY G H a tk kvs)(q:bz G H){y v:V}{d x:PyData}{k:List aA}(i:DV G y d)(j:DV G v x)(e:ed tk d=some k)(l:kvs.length<sizeLine) :
  ∃o,iE H a y v (aS H a o)/\Mv o/\∀c,bz G c->eY c (aS H a o) a tk (eF tk kvs d k x):=by
 obtain⟨e,f⟩:=vO e;cases tk with
 | false=>obtain⟨r,g,pr⟩:=h;obtain⟨w,m,u⟩:=Option.map_eq_some_iff.mp e;subst u;obtain rfl:=rE i m;refine⟨_,.k g (by rw[Paired.length pr];exact l),trivial,fun c s=>⟨_,cU,vN dF ny (DV.mono s j) (vJ m).symm (Paired.mapP pr fun _ _ z=>⟨z.1,DV.mono s z.2⟩)⟩⟩
 | true=>
  obtain⟨r,g,pr⟩:=h;cases d with
  | tuple A=>obtain⟨b,B,rfl,n,p⟩:=i.tup_invK (rH e fun z=>f (by rw[z]));rw[nu e] at p;rw[rG p] at n;exact⟨_,.t g (q _ _ n) (by rw[Paired.length pr];exact l),trivial,fun c s=>⟨_,cU,vN (inj:=id) iQ (fun _ _ z=>z) (DV.mono s j) (show mG k=_ by unfold mG;rw[<-nu e]) (Paired.mapP pr fun _ _ z=>⟨z.1,DV.mono s z.2⟩)⟩⟩
  | _=>cases e
theorem Hq(h:eY G H a tk kvs):qw H a:=by
 cases tk with
 | false=>obtain⟨b,c,_⟩:=h;exact .inl ⟨b,.of c⟩
 | true=>obtain⟨b,c,_⟩:=h;exact .inr ⟨b,.of c⟩
end
noncomputable def fk(U:ag)(i:Nat):Option (Bool×Bool×bU):=match U[i]? with
 | some (some (.own io (.m b a)))=>some (io,b,a)
 | _=>none
theorem nz{U:ag}{i:Nat}{io b:Bool}{a:bU}(h:fk U i=some (io,b,a)):U[i]? = some (some (.own io (.m b a))):=by
 unfold fk at h;split at h
 .rename_i e;cases h;exact e
 .cases h
section
variable{X:Cx}{F:Fx}{E:Str->ag->Prop}{e a b c:Expr}{es:List Expr}{st:Stmt}{rest:List Stmt}{pos:Pos}{x:Str}
noncomputable def rK(d:Bool):XM af:=fun U=>.ok (.own false (.m d [])) U
theorem Hr(i:Bool):FO X F E (.Dict [] [] pos) (rK i):=by
 refine⟨av,?_⟩;cases i with
 | false=>refine Cy.imp ?_;rintro Y H Q ⟨U,O,st,q⟩ p f;obtain⟨g,d,h⟩:=st.fresh (o:=.dK []) f trivial;exact q _ _ g [p] ⟨d,⟨p,rfl,rfl,[],cU,.nil⟩,st.new1 f⟩ h
 | true=>refine Cz.imp ?_;rintro Y H Q ⟨U,O,st,q⟩ p f;obtain⟨g,d,h⟩:=st.fresh (o:=.dT []) f trivial;exact q _ _ g [p] ⟨d,⟨p,rfl,rfl,[],cU,.nil⟩,st.new1 f⟩ h
noncomputable def nA(i:Nat)(d y:PyData):XM PyData:=fun U=>aQ (match fk U i with
 | some (_,g,f)=>(ed g d).map fun k=>(bF g f k).getD y
 | none=>none) U
noncomputable def nB(i:Nat)(m n:XM PyData):XM PyData:=fun U=>match fk U i with
 | some _=>(m U).bind fun d f=>(n f).bind fun y=>nA i d y
 | none=>.bad
theorem Hs{i:Nat}{m n:XM PyData}{f:Expr}{G apos h:Pos}(hu:X.A.units+1<cLine)(hv:PE X (.Name x G) (cV i))(he:FE X F E e m)(hf:FE X F E f n)(mm:M2 X (.Name x G) "get" apos e f h:=by exact⟨rfl,rfl,rfl,rfl⟩):FE X F E (.Call (.Attribute (.Name x G) "get" apos) [e,f] [] h) (nB i m n):=
 ⟨av,(CG hu hv he.pe hf.pe mm).imp fun Y H Q s=>by
  obtain⟨U,O,st,q⟩:=s;unfold wp nB at q;cases I:fk U i with
  | none=>rw[I] at q;exact q.elim
  | some p=>
   rw[I] at q;obtain⟨io,J,t⟩:=p;obtain⟨a0,fp,u,⟨_,L⟩,_,_⟩:=st.box (nz I);refine⟨_,u,a0,rfl,Hq L,U,O,st,av _ _ _ (fun d M q1 w H1 O1 N T d1=>?_) (bv (m:=m) (k:=fun d M=>(n M).bind fun y=>nA i d y) q)⟩;refine⟨M,O1,N,av _ _ _ (fun y R q2 z Z O2 j S d2=>?_) (bv (m:=n) (k:=fun y=>nA i d y) q1)⟩;obtain⟨r,C,D⟩:=cx (o:=match fk R i with | some (_,J,t)=>(ed J d).map fun k=>(bF J t k).getD y | none=>none) (U:=R) (E:=E) q2;cases l:fk R i with
   | none=>rw[l] at C;cases C
   | some p=>
    obtain⟨a2,a3,a1⟩:=p;rw[l] at C;obtain⟨k,e2,e3⟩:=Option.map_eq_some_iff.mp C;subst e3;obtain⟨a,a4,B,⟨_,hd⟩,_,_⟩:=j.box (nz l);rw[u] at B;cases B;obtain⟨o,g,r⟩:=rJ hd iF (DV.mono S.hid d1) e2;refine⟨o,g,?_⟩;rcases r with⟨rfl,e⟩ | ⟨v,x,rfl,e,hx⟩
    .rw[e] at D;exact D _ Z O2 j (T.trans S) d2
    .rw[e] at D;exact D _ Z O2 j (T.trans S) hx⟩
noncomputable def nC(i:Nat)(y d:PyData):SM:=fun U=>match fk U i with
 | some (io,g,f)=>(match ed g d with
  | some k=>if f.length<sizeLine then .nx (U.set i (some (.own io (.m g (eF g f d k y))))) else .bad
  | none=>.bad)
 | none=>.bad
noncomputable def nE(i:Nat)(mk:XM PyData)(y:PyData):SM:=fun U=>match fk U i with
 | some _=>fj (mk U) (nC i y)
 | none=>.bad
noncomputable def rL(i:Nat)(mk d:XM PyData):SM:=fun U=>fj (d U) (nE i mk)
theorem Ht{i:Nat}{mk C:XM PyData}{f:Expr}{I j:Pos}(Z:X.A.units+1<cLine)(hv:PE X (.Name x I) (cV i))(t:FE X F E e mk)(hf:FE X F E f C)(hs:autoParam (swapsWith f (some (.Subscript (.Name x I) e j)) pos.line X.env=pure false) Zq._auto_1) :
  FS X F E (.Assign [.Subscript (.Name x I) e j] f pos) (rL i mk C):=
 (Cs Z hv t.pe hf.pe hs).imp fun D Y H ⟨U,O,DD,st,q,f⟩=>⟨U,O,st,av _ _ _ (fun y R u vy H1 O1 v s1 d1=>by
  unfold wpS nE at u;cases J:fk R i with
  | none=>rw[J] at u;exact u.elim
  | some p=>
   rw[J] at u;obtain⟨io,tk,a1⟩:=p;obtain⟨T,fp,z,_,_,_⟩:=v.box (nz J);refine⟨_,z,R,O1,v,av _ _ _ (fun d U2 h w H2 O2 L S d2=>?_) (gd (m:=mk) (k:=nC i y) u)⟩;unfold wpS nC at h;cases n:fk U2 i with
   | none=>rw[n] at h;exact h.elim
   | some p=>
    rw[n] at h;obtain⟨a2,r,l⟩:=p;simp only at h;cases t:ed r d with
    | none=>rw[t] at h;exact h.elim
    | some k=>
     rw[t] at h;simp only at h
     by_cases M:l.length<sizeLine
     .rw[if_pos M] at h;obtain⟨a,a3,B,⟨e2,hd⟩,_,up⟩:=L.box (nz n);rw[z] at B;cases B;subst e2;obtain⟨o,g,C,hp⟩:=Ho hd iF d2 (DV.mono S.hid d1) t M;refine⟨_,_,rfl,g,?_⟩;obtain⟨O3,N,s3,_⟩:=up (aS H2 T o) (.m r (eF r l d k y)) [T] (fun c o Q e=>by rw[bQ (by simpa using Q)];exact e) (by simp) (fun c Q=>.inl Q) (fun G O' s hG _=>by
       subst hG;exact⟨s.hid,rfl,hp _ s.hid⟩)
      exact f.nx _ _ _ _ N (s1.trans (S.trans s3)) h
     .rw[if_neg M] at h;exact h.elim) (gd (m:=C) (k:=nE i mk) q)⟩
end
section
variable{X:Cx}{F:Fx}{E:Str->ag->Prop}{e a b c:Expr}{es:List Expr}{st:Stmt}{rest:List Stmt}{pos:Pos}{x:Str}
@[simp] noncomputable def rM:List PyData->Option PyData:=fun d=>match d with
 | [.list as,.list bs,.list cs]=>if bs.length=as.length/\cs.length=as.length/\0<as.length then some (.list (kJ as bs cs)) else none
 | _=>none
theorem Hu{g:XM (List PyData)}(h:DE X F e (uR (wp E g))):FE X F E e (cJ rM g):=h.imp av fun U Q q=>av _ _ _ (fun k l i=>by
 obtain⟨d,f,j⟩:=cx i;unfold rM at f;split at f
 .split at f
  .rename_i h;cases f;exact⟨_,_,_,rfl,h.1,h.2.1,h.2.2,j⟩
  .cases f
 .cases f) (bv q)
@[simp] noncomputable def vP(k:Nat):PyData->Option PyData:=fun d=>match d with | .list f=>some (.list (f.drop k)) | _=>none
@[simp] noncomputable def xU(g:PyData->Option PyData)(a:XM PyData):XM PyData:=fun U=>(a U).bind fun d=>aQ (g d)
theorem Hv{k:Nat}{f:XM PyData}(h:DE X F e (uT (wp E f) k)):FE X F E e (xU (vP k) f):=h.imp av fun U Q q=>av _ _ _ (fun d l i=>by
 obtain⟨y,g,j⟩:=cx i;cases d with
 | list m=>cases g;exact⟨_,rfl,j⟩
 | _=>cases g) (bv q)
end
noncomputable abbrev kX:List Value:=[.type "ValueError",.type "Exception",.type "BaseException",.type "object"]
def Hw(h:Heap)(C:Addr):Prop:=∃c N e q bs a f sub g b i j k l m n d,h.get? C=some (excClassObj e q C N bs c a f sub g b i j k l m n "ValueError.__new__")/\h.Ns N d/\d "__init__" = none/\OwnTail h kX c
theorem Hx{K:Frag}{h:Heap}{C:Addr}(X:K.In h)(e:excIn K C kX "ValueError.__new__" = true):Hw h C:=by
 unfold excIn at e;split at e
 .rename_i j k m n;split at e
  .rename_i I o p q r s J t d a;have f:=e;simp only[Bool.and_eq_true,beq_iff_eq] at f;obtain⟨⟨⟨⟨⟨u,v⟩,g⟩,w⟩,b⟩,i⟩:=f;obtain⟨x,y,L,z,A,B,D,E,G,c,H⟩:=k;obtain⟨l⟩:=m;simp at g d a b i;subst u v g d a;exact⟨o,z,x,A,y,B,D,E,G,c,j,p,q,r,s,t,_,X _ _ n,.of_isNs (PySem.W.isNs_of_in X b),PySem.W.nsMap_none_of_in X b i,PySem.W.tail_of_in X w⟩
  .cases e
 .cases e
structure EC (K:Frag) (mg:Str->Option Value) (c:Str) (C:Addr):Prop where
 mg:mg c=some (.ref C)
 ns:nsIn K mainGlobals c=some (some (.ref C))
 ex:excIn K C kX "ValueError.__new__" = true
@[simp] noncomputable def iR(c:Str):SM:=fun U=>.ex c U
section
variable{X:Cx}{F:Fx}{E:Str->ag->Prop}
theorem _root_.L2.Inv.madeX{a:List (Addr×Obj)}{Y:St}{H:Hp}{s:Shared}{c:Heap}{e:Addr}{C:Value}{d:List Value}(I:Inv X a Y H s)(m:Heap.MadeExcOf s.heap c e C d):Inv X a Y H { s with heap:=c }/\kB X a s.heap/\em s.heap H c e C none:=by have f:∀b,s.heap.get? b=none->H b=none:=fun b z=>bG.some_of I.hok z;obtain⟨t,h1,h2,h3⟩:=m.there;refine⟨I.ch I.cov ⟨fun b o q _ _=>m.keeps b o q,fun b o _ q=>⟨o.slots,m.keeps b o q⟩,fun b o q=>⟨o,m.keeps b o q⟩⟩,I.cov,⟨fun b o q=>⟨o,m.keeps b o q⟩,m.new,f e m.new,_,_,_,h1,rfl,rfl,rfl,.inl ⟨rfl,rfl⟩⟩⟩
theorem jO{c i:Str}{C:Addr}{j:Nat}{np a pos l:Pos}(y:gB X F E)(z:X.A.handled=none)(B:Gl X c)(n:EC X.K X.mg c C)(o:autoParam ((c==("__debug__":Str))=false) Zr._auto_1)
  (p:autoParam (starEach [.Constant (.str i) j l] X.env=(false,eval (.Constant (.str i) j l) X.env)::starEach [] X.env) Zq._auto_1) :
  FS X F E (.Raise (some (.Call (.Name c np) [.Constant (.str i) j l] [] a)) none pos) (iR c):=fun b s Y H D I d=>by
 obtain⟨U,O,DD,st,q,f⟩:=d;obtain⟨G,N,J,L,bs,g,M,sub,Q,t,R,S,Z,k2,k3,k5,mN,hC,hN,u,T⟩:=Hx I.ok.mod.kin n.ex;refine wpAny_Raise_call_subU (C:=C) (nm:=J) (q:=L) (N:=N) (bs:=bs) (bm:=G) (hdct:=g) (sn:=M) (sub:=sub) (ab:=Q) (col:=t) (dd:=R) (k0:=S) (k1:=Z) (k2:=k2) (k3:=k3) (k5:=k5) (mN:=mN)
  PySem.F.excBase_ValueError (by decide) PySem.F.excBase_ValueError (T.hasType (by decide)) z (by rw[p];rfl) u (pY I B n.mg ⟨rfl,?_⟩ o)
 have pa:PA X [.Constant (.str i) j l] _:=eL (zV (X:=X)) eX p;have w:=pa a b s Y H (fun v x=>v.length=1/\x=H) I (by exact⟨rfl,rfl⟩);rw[p] at w ⊢;refine Calls.evalArgs_plain (aH w fun us s2 h=>?_);obtain⟨v,x,k,r,h1,h2⟩:=h;subst h2;refine⟨rfl,by show us.length<=_;rw[<-r.length,h1];decide,k.bk _ _ hC,hN.keeps k.bk,T.keeps k.bk,fun h' e m=>?_⟩;obtain⟨I2,cv,ex⟩:=k.madeX m;exact y.2 b Y _ _ _ c U O ⟨I2,e,.ref C,s2.heap,none,rfl,cv,ex,n.mg⟩ st q
end
noncomputable def vQ(K:Frag)(C D:Addr):Bool:=match K.lookup C with
 | some ⟨_,_,.cls a,_⟩=>a.mro.contains (.ref D)
 | _=>false
noncomputable def vR(K:Frag)(C:Addr):Bool:=findIn K (.ref C) "__getattribute__"==some (some (.builtin "BaseException.__getattribute__"))&&findIn K (.ref C) "__class__"==some (some (.builtin "object.__class__"))&&findIn K (.ref C) "__getattr__"==some none &&
 PySem.W.mroIn K C (.type "BaseException")==some true&&PySem.W.mroIn K C (.type "object")==some true
noncomputable def vS(K:Frag)(D:Addr)(l:List Str):Bool:=l.all fun c=>match nsIn K mainGlobals c with
 | some (some (.ref C))=>excIn K C kX "ValueError.__new__"&&vQ K C D&&vR K C&&(kitOne K (.ref C) (.type "ValueError")==some true)&&l.all fun d=>match nsIn K mainGlobals d with
  | some (some (.ref a))=>kitOne K (.ref C) (.ref a)==some (c==d)
  | _=>false
 | _=>false
structure XT (K:Frag) (mg:Str->Option Value) (l:List Str) (D:Addr):Prop where
 top:EC K mg "DueError" D
 tab:vS K D l=true
 mgs:∀c C,nsIn K mainGlobals c=some (some (.ref C))->mg c=some (.ref C)
theorem XT.at_{K:Frag}{mg:Str->Option Value}{l:List Str}{D:Addr}(x:XT K mg l D){c:Str}(h:c∈l):∃C,EC K mg c C/\vQ K C D=true/\vR K C=true/\kitOne K (.ref C) (.type "ValueError")=some true/\
  ∀d∈l,∃a,mg d=some (.ref a)/\nsIn K mainGlobals d=some (some (.ref a))/\kitOne K (.ref C) (.ref a)=some (c==d):=by
 have t:=List.all_eq_true.mp x.tab c h;split at t
 .rename_i C e;simp only[Bool.and_eq_true] at t;obtain⟨⟨⟨⟨f,g⟩,i⟩,j⟩,k⟩:=t;refine⟨C,⟨x.mgs c C e,e,f⟩,g,i,by simpa using j,fun d hd=>?_⟩;have u:=List.all_eq_true.mp k d hd;split at u
  .rename_i a b;exact⟨a,x.mgs d a b,b,by simpa using u⟩
  .cases u
 .cases t
section
variable{X:Cx}{F:Fx}{E:Str->ag->Prop}{e a b c:Expr}{es:List Expr}{st:Stmt}{rest:List Stmt}{pos:Pos}{x:Str}{ma mb mc:XM PyData}
@[simp] noncomputable def di:=gI fun i j=>.int (i+j)
@[simp] noncomputable def rN:=gI fun i j=>.int (i - j)
@[simp] noncomputable def jP:=kL ic fun i j=>.int (i * j)
@[simp] noncomputable def jQ:=kL kM fun i j=>.int (i % j)
@[simp] noncomputable def kY:=gI fun i j=>.bool (decide (i<j))
@[simp] noncomputable def nF:=gI fun i j=>.bool (decide (i<=j))
@[simp] noncomputable def rO:=gI fun i j=>.bool (decide (j<i))
@[simp] noncomputable def kZ:=gI fun i j=>.bool (decide (j<=i))
theorem ee(d:FE X F E a ma)(f:FE X F E b mb):FE X F E (.BinOp a .Add b pos) (ao di ma mb):=eR hZ (FL d f)
theorem vT(d:FE X F E a ma)(f:FE X F E b mb):FE X F E (.BinOp a .Sub b pos) (ao rN ma mb):=eR hZ (FP d f)
theorem lb(d:FE X F E a ma)(f:FE X F E b mb):FE X F E (.BinOp a .Mult b pos) (ao jP ma mb):=eR (re Gw) (FQ d f)
theorem lg(d:FE X F E a ma)(f:FE X F E b mb):FE X F E (.BinOp a .Mod b pos) (ao jQ ma mb):=eR (re Gy) (FT d f)
theorem rP(d:FE X F E a ma)(f:FE X F E b mb):FE X F E (.BinOp a .Add b pos) (ao jE ma mb):=eR GB (FU d f)
theorem Hy(d:FE X F E a ma)(f:FE X F E b mb):FE X F E (.BinOp a .Add b pos) (ao mV ma mb):=eR GC (Gm d f)
theorem Hz(d:FE X F E a ma)(f:FE X F E b mb):FE X F E (.BinOp a .Mult b pos) (ao jF ma mb):=eR GD (Gp d f)
theorem HA(d:FE X F E a ma)(f:FE X F E b mb):FE X F E (.Compare a [.Lt] [b] pos) (ao kY ma mb):=eR hZ (FV d f)
theorem HB(d:FE X F E a ma)(f:FE X F E b mb):FE X F E (.Compare a [.GtE] [b] pos) (ao kZ ma mb):=eR hZ (FY d f)
theorem vU(d:FE X F E a ma)(f:FE X F E b mb):FB X F E (.Compare a [.Lt] [b] pos) (bB (ao kY ma mb)):=jC hZ (FZ d f)
theorem nG(d:FE X F E a ma)(f:FE X F E b mb):FB X F E (.Compare a [.LtE] [b] pos) (bB (ao nF ma mb)):=jC hZ (Ga d f)
theorem vV(d:FE X F E a ma)(f:FE X F E b mb):FB X F E (.Compare a [.Gt] [b] pos) (bB (ao rO ma mb)):=jC hZ (Gb d f)
theorem HC(d:FE X F E a ma)(f:FE X F E b mb):FB X F E (.Compare a [.GtE] [b] pos) (bB (ao kZ ma mb)):=jC hZ (Gc d f)
theorem HD(d:X.A.units+64<cLine)(f:FE X F E a ma)(g:FE X F E b mb):FE X F E (.Compare a [.Eq] [b] pos) (ao (aO false) ma mb):=eR rf (Ge d f g)
theorem HE(d:X.A.units+64<cLine)(f:FE X F E a ma)(g:FE X F E b mb):FB X F E (.Compare a [.Eq] [b] pos) (bB (ao (aO false) ma mb)):=jC rf (Gf d f g)
theorem nH(d:X.A.units+64<cLine)(f:FE X F E a ma)(g:FE X F E b mb):FB X F E (.Compare a [.NotEq] [b] pos) (bB (ao (aO true) ma mb)):=jC rf (Gg d f g)
theorem HF(d:FE X F E a ma)(f:FE X F E b mb):FE X F E (.Compare a [.Is] [b] pos) (ao mU ma mb):=eR GA (Gh d f)
theorem HG(d:FE X F E a ma)(f:FE X F E b mb)(g:FE X F E c mc)(h:lastMarks [.LtE,.LtE] [b,c]=false:=by with_unfolding_all rfl):FE X F E (.Compare a [.LtE,.LtE] [b,c] pos) (rh (fun i j=>decide (i<=j)) (fun i j=>decide (i<=j)) ma mb mc):=GJ (Gi d f g h)
@[simp] noncomputable def cy:PyData->PyData->Option PyData:=fun x y=>match x,y with
 | .tuple d,.int i=>bR d i
 | .list d,.int i=>bR d i
 | _,_=>none
noncomputable def vW:D2:=fun x y Q=>uo x y Q\/uq x y Q
theorem HI{K:Frag}:dJ (fun x y H Q=>qr K x y H Q\/qp K x y H Q) vW where
 mn:=fun x y Q Q' k h=>h.imp (uu (K:=K).mn x y Q Q' k) (uv (K:=K).mn x y Q Q' k)
 ok:=fun O H u v x y Q hO h1 h2 h=>h.imp (uu.ok O H u v x y Q hO h1 h2) (uv.ok O H u v x y Q hO h1 h2)
theorem HJ:F2 vW cy:=fun x y d Q e q=>by
 unfold cy at e;split at e
 .exact .inl ⟨_,_,_,rfl,rfl,e,q⟩
 .exact .inr ⟨_,_,_,rfl,rfl,e,q⟩
 .cases e
theorem dj(d:FE X F E a ma)(f:FE X F E b mb)(g:my b:=by intro _ _;rfl):FE X F E (.Subscript a b pos) (ao cy ma mb):=eR HJ (Dl (gu.or BK tQ) HI d f g)
end
noncomputable def rQ:Expr->Bool
 | .Starred ..=>true
 | _=>false
theorem rR{e:Expr}{b:List Expr}{a:Env}(h:rQ e=false):starEach (e::b) a=(false,eval e a)::starEach b a:=by cases e<;>first | rfl | cases h
section
variable{X:Cx}{F:Fx}{E:Str->ag->Prop}{e a b c:Expr}{es:List Expr}{pos:Pos}{x:Str}
theorem aX{d:XM PyData}{f:XM (List PyData)}(g:FE X F E e d)(h:FA X F E es f)(i:autoParam (rQ e=false) Zq._auto_1):FA X F E (e::es) (aN d f):=GN g h (rR i)
theorem aB{d:XM PyData}{f:XM (List AX)}(g:FE X F E e d)(h:FX X F E es f)(i:autoParam (rQ e=false) Zq._auto_1):FX X F E (e::es) (aq d f):=GZ g h (rR i)
theorem dM{p:Pos}{j:Nat}{d:XM (List AX)}(f:PE X (.Name x p) (cV j))(g:FX X F E es d):FX X F E (.Name x p::es) (cY j d):=Ha f g (rR rfl)
end
section
variable{X:Cx}{F:Fx}{E:Str->ag->Prop}{e a b c:Expr}{es:List Expr}{pos:Pos}{x:Str}{ma mb:XM PyData}
@[simp] noncomputable def vX:=kL mT fun i j=>.int (i ^ j.toNat)
theorem HK(d:FE X F E a ma)(f:FE X F E b mb):FE X F E (.BinOp a .Pow b pos) (ao vX ma mb):=eR (re Gz) (Gn d f)
noncomputable def vY(t:cF):cX:=fun U Q=>t U fun d f=>∃i j:Int,d=[.int i,.int j]/\(-(2 ^ 62)<=i/\i<2 ^ 62/\-(2 ^ 62)<=j/\j<2 ^ 62)/\Q (intsFrom i (j - i).toNat) f
theorem vZ{r:Expr}{o:cF}{p:Pos}(s:Gl X "range")(t:X.mg "range" = none)(l:DA X F [a,b] o)(u:autoParam (starEach [a,b] X.env=[(false,eval a X.env),(false,eval b X.env)]) Zq._auto_1)(m:autoParam (starEach [b] X.env=[(false,eval b X.env)]) Zq._auto_1):DI X F r (.Call (.Name "range" p) [a,b] [] pos) (vY o):=
 ⟨fun _ _ _ k q=>l.mn _ _ _ (fun _ _ d=>by obtain⟨i,j,e,h,q⟩:=d;exact⟨i,j,e,h,k _ _ q⟩) q,(AR s t l.pa u m).imp fun Y H R f=>by obtain⟨U,O,st,q⟩:=f;exact 
  ⟨U,O,st,l.mn _ _ _ (fun G I g J v w n z A=>by
   obtain⟨i,j,e,h,B⟩:=g;subst e;obtain⟨x,y,rfl,C,D⟩:=kI A;obtain rfl:=C.int_inv;obtain rfl:=D.int_inv;exact⟨i,j,rfl,h,B _ v w n z uL⟩) q⟩⟩
@[simp] noncomputable def cQ:List PyData->Option (List PyData):=fun d=>match d with
 | [.int i,.int j]=>if (decide (-(2 ^ 62)<=i)&&decide (i<2 ^ 62)&&decide (-(2 ^ 62)<=j)&&decide (j<2 ^ 62))=true then some (intsFrom i (j - i).toNat) else none
 | _=>none
theorem wa{f:Expr}{ma:XM (List PyData)}(h:DI X F f e (vY (wp E ma))):FI X F E f e (gO cQ ma):=h.imp av fun U Q q=>av _ _ _ (fun j k g=>by
 obtain⟨y,d,i⟩:=cx g;unfold cQ at d;split at d
 .split at d
  .rename_i h;cases d;simp only[Bool.and_eq_true,decide_eq_true_eq] at h;exact⟨_,_,rfl,⟨h.1.1.1,h.1.1.2,h.1.2,h.2⟩,i⟩
  .cases d
 .cases d) (bv q)
end
def wb(O:List Addr)(H:Hp)(J:It)(c:List PyData):Prop:=∀e a,aJ O H e a->bz H a->kF a e->
 (∀i d,c[i]? = some d->J.go i a/\∀x b,J.yld i a x b->bz a b/\DV (aj e b) x d)/\J.stop c.length a
theorem Wk.S{O:List Addr}{H:Hp}{J:It}{a:List PyData}(h:Wk O H J a):wb O H J a:=fun b c s _ ok=>h b c s ok
noncomputable def wc(K:Frag)(F:Fx)(s:cX):TI:=fun Y H R=>∃U O,au K F H Y U O/\s U fun b d=>∀J a c,au K F a Y d c->aJ O H c a->wb c a J b->R J a
structure rS (X:Cx) (F:Fx) (tg iter:Expr) (s:cX):Prop where
 mn:jz s
 pi:PI X tg iter (wc X.K F s)
theorem DI.S{X:Cx}{F:Fx}{e iter:Expr}{s:cX}(h:DI X F e iter s):rS X F e iter s:=⟨h.mn,h.pi.imp fun Y H R d=>by obtain⟨U,O,st,q⟩:=d;exact⟨U,O,st,h.mn _ _ _ (fun f j k J g i a b c=>k J g i a b c.S) q⟩⟩
@[simp] noncomputable def rT:Option (Option af)->Option af
 | some (some (.own _ b))=>some (.vw b)
 | some (some (.exc _))=>none
 | some o=>o
 | none=>none
noncomputable def gi(own:List Str)(a:List Nat)(U:ag):ag:=own.map (fun _=>none)++a.map fun j=>rT U[j]?
mutual
@[simp] noncomputable def fJ:PyData->Bool
 | .int _=>true
 | .bool _=>true
 | .none=>true
 | .str _=>true
 | .tuple ds=>jR ds
 | .list _=>false
 | .dict _=>false
@[simp] noncomputable def jR:List PyData->Bool
 | []=>true
 | d::ds=>fJ d&&jR ds
end
theorem we:∀a:List PyData,a.all fJ=jR a
 | []=>rfl
 | d::a=>by rw[List.all_cons,we a,jR]
mutual
theorem HL{G G':Hp}(k:∀a u,¬ Mv u->G a=some u->G' a=some u):∀{v:V}{d:PyData},DV G v d->fJ d=true->DV G' v d
 | _,_,.non,_=>.non
 | _,_,.bl b,_=>.bl b
 | _,_,.int i,_=>.int i
 | _,_,.str x,_=>.str x
 | _,_,.tup h r,f=>.tup (h.imp (fun e=>k _ _ id e) fun⟨⟨o,e⟩,z⟩=>⟨⟨o,k _ _ id e⟩,z⟩) (rV k r (by simpa[fJ] using f))
theorem rV{G G':Hp}(k:∀a u,¬ Mv u->G a=some u->G' a=some u):∀{vs:List V}{ds:List PyData},aC G vs ds->jR ds=true->aC G' vs ds
 | _,_,.nil,_=>.nil
 | _,_,.cons h t,f=>by rw[jR,Bool.and_eq_true] at f;exact .cons (HL k h f.1) (rV k t f.2)
end
theorem HM{G c:Hp}(k:∀a u,¬ Mv u->G a=some u->c a=some u){d:List V}{b:List PyData}(h:aC G d b)(f:b.all fJ=true):aC c d b:=rV k h (by rw[<-we];exact f)
noncomputable def nI(own:List Str)(f:List Nat)(s:cX)(g:dB)(l:cg)(m:DT):DT:=fun U Q=>s U fun c j=>∃e:Nat->List PyData->ag->Prop,e 0 [] (gi own f j)/\
 (∀i d a h,c[i]? = some d->e i a h->g d h fun n=>l n fun b k=>if b=true then m k fun y o=>a.length<sizeLine/\e (i+1) (a++[y]) o else e (i+1) a k)/\
 ∀a h,e c.length a h->a.length<=sizeLine/\a.all fJ=true/\Q (.list a) j
section
variable{K:Frag}{F:Fx}{own:List Str}{caps:List Nat}{s:cX}{g:dB}{tc:cg}{te:DT}
theorem HN(d:jz s):Mn (nI own caps s g tc te):=fun _ _ _ k q=>d _ _ _ (fun _ _ a=>by obtain⟨e,f,h1,h2⟩:=a;exact⟨e,f,h1,fun b c h=>⟨(h2 b c h).1,(h2 b c h).2.1,k _ _ (h2 b c h).2.2⟩⟩) q
theorem HP{PF:Fx->Prop}(hP:∀k Y A I O2,au K F k Y A I->PF ⟨k,[],O2,fun _=>0⟩)(hs:jz s)(hg:∀d U Q Q',(∀B,Q B->Q' B)->g d U Q->g d U Q')(ht:gA tc)(he:Mn te):∀Y H Q,fz K F (nI own caps s g tc te) Y H Q->
  jt own caps (wc K F s) (fun v Y H Q=>∃L,PF L/\mP K L g v Y H Q) (fun Y H Q=>∃L,PF L/\iJ K L tc Y H Q) (fun Y H Q=>∃L,PF L/\fz K L te Y H Q) Y H Q:=fun Y H Q T=>by
 obtain⟨U,O,st,q⟩:=T;refine⟨U,O,st,hs _ _ _ (fun f A X J k I n s1 wk=>?_) q⟩;obtain⟨Iv,i0,step,fin⟩:=X;obtain⟨W,Z,a0⟩:=id n;let V:List Addr:=(caps.map fun j=>(W[j]?).getD []).flatten;let r:List Addr:=I.filter fun a=>decide (a∉V);have sub:∀a∈r,a∈I:=fun a h=>(List.mem_filter.mp h).1;have a4:r.Nodup:=by
  have:I.Nodup:=by rw[a0];exact Z.nd
  exact this.filter _
 have a5:∀j∈caps,∀l,W[j]? = some l->∀a∈l,a∉r:=fun j hj l hl a ha z=>by have h1:=(List.mem_filter.mp z).2;simp only[decide_eq_true_eq] at h1;exact h1 (List.mem_flatten.mpr ⟨l,List.mem_map.mpr ⟨j,hj,by rw[hl];rfl⟩,ha⟩)
 have a1:∀j∈caps,∀c,rT A[j]? = some c->(∀io b,c≠.own io b)/\∃v,Y[j]? = some (some v)/\cM K k r v c []:=fun j hj c w=>by
  cases h3:A[j]? with
  | none=>rw[h3] at w;cases w
  | some o=>
   cases o with
   | none=>rw[h3] at w;cases w
   | some c'=>
    rw[h3] at w;obtain⟨v,fp,t,e0,C⟩:=Z.at_ j c' h3;rw[<-a0] at C;have D:aJ I k r k:=fY sub;cases c' with
    | dat d=>cases w;exact⟨(fun _ _ z=>by cases z),v,t,cM.keep (c:=.dat d) (fp:=[]) C D (fun _ _=>rfl) fun _ _ _ e=>e⟩
    | scr ns=>cases w;exact⟨(fun _ _ z=>by cases z),v,t,cM.keep (c:=.scr ns) (fp:=[]) C D (fun _ _=>rfl) fun _ _ _ e=>e⟩
    | exc _=>cases w
    | vw b=>cases w;exact⟨(fun _ _ z=>by cases z),v,t,cM.keep (c:=.vw b) (fp:=[]) C D (fun _ _=>rfl) fun _ _ _ e=>e⟩
    | own io b=>cases w;obtain⟨a,ev,q2⟩:=C;refine⟨(fun _ _ z=>by cases z),v,t,a,fp,ev,q2.keep (fun c hc=>?_) D.hid⟩;obtain⟨o,eo,_⟩:=q2.live c hc;rw[eo];exact fU eo (a5 j hj fp e0 c hc)
 refine⟨fun i m ys Y' N=>∃B R M,au K ⟨k,[],r,fun _=>0⟩ N Y' B R/\Iv i M B/\aC (aj R N) ys M/\i<=f.length/\m=f.length - i,⟨f.length,gi own caps A,r,[],?_,i0,.nil,Nat.zero_le _,rfl⟩,?_⟩
 .have cell:∀(i:Nat) (c:af),(gi own caps A)[i]? = some (some c)->(∀io b,c≠.own io b)/\∃v,(ek own caps Y)[i]? = some (some v)/\cM K k r v c []:=fun i c e=>by
   unfold gi at e;unfold ek
   by_cases hi:i<own.length
   .rw[List.getElem?_append_left (by simpa using hi),List.getElem?_map] at e;cases h:own[i]? with
    | none=>rw[h] at e;cases e
    | some y=>rw[h] at e;cases e
   .rw[List.getElem?_append_right (by simpa using Nat.le_of_not_lt hi),List.length_map,List.getElem?_map] at e;rw[List.getElem?_append_right (by simpa using Nat.le_of_not_lt hi),List.length_map,List.getElem?_map];obtain⟨j,h1,w⟩:=Option.map_eq_some_iff.mp e;rw[h1];show _/\∃v,some ((Y[j]?).getD none)=some (some v)/\_;obtain⟨n1,v,t,C⟩:=a1 j (List.mem_of_getElem? h1) c w;rw[t];exact⟨n1,v,rfl,C⟩
  have ln:(gi own caps A).length=(ek own caps Y).length:=by unfold gi ek;simp
  have fl:(List.replicate (gi own caps A).length ([]:List Addr)).flatten++r=r:=by rw[kE];rfl
  refine⟨List.replicate (gi own caps A).length [],⟨fun i c e=>?_,by show(_++r).Nodup;rw[fl];exact a4,fun _ _ _ h=>h,fun a h=>?_,by show kF k (_++r);rw[fl];exact fun a ha=>n.live a (sub a ha),ln,by simp,fun i b e=>absurd rfl ((cell i _ e).1 true b)⟩,fl.symm⟩
  .obtain⟨_,v,t,C⟩:=cell i c e;refine⟨v,[],t,?_,by show cM K k (_++r) v c [];rw[fl];exact C⟩;rw[List.getElem?_replicate,if_pos (List.getElem?_eq_some_iff.mp e).1]
  .rw[kE] at h;cases h
 .rintro i m ys Y' N ⟨B,R,M,E,iv,dv,hi,rfl⟩;have S:bz k N:=fun b o e=>by obtain⟨W',h',_⟩:=id E;exact h'.kept b o (by simp) e
  have a6:aJ I k R N:=⟨fun b o _ e=>S b o e,fun a h=>by
   obtain⟨W',h',rfl⟩:=id E;rcases List.mem_append.mp h with h | h
   .exact(h'.new a h).elim (fun z=>absurd z (by simp)) .inr
   .exact .inl (sub a h)⟩
  obtain⟨w1,w2⟩:=wk R N a6 S E.live
  by_cases G:i<f.length
  .obtain⟨go,yld⟩:=w1 i f[i] (List.getElem?_eq_getElem G);refine .inr ⟨go,fun x H2 hy=>?_⟩;obtain⟨a2,dx⟩:=yld x H2 hy;refine⟨⟨k,[],r,fun _=>0⟩,hP _ _ _ _ _ n,B,R,f[i],E.grow a2,dx,hg _ _ _ _ (fun U2 q2 Y3 H3 O3 a7 s3=>?_) (step i f[i] M B (List.getElem?_eq_getElem G) iv)⟩;refine⟨⟨k,[],r,fun _=>0⟩,hP _ _ _ _ _ n,U2,O3,a7,ht _ _ _ (fun b U3 q3 H4 O4 a3 s4=>?_) q2⟩;have d4:aC (aj O4 H4) ys M:=aC.mono s4.hid (aC.mono s3.hid (aC.mono (ku a2) dv));cases b with
   | false=>exact ei ⟨f.length - (i+1),by lia,U3,O4,M,a3,iI q3,d4,G,rfl⟩
   | true=>refine ej ⟨⟨k,[],r,fun _=>0⟩,hP _ _ _ _ _ n,U3,O4,a3,he _ _ _ (fun y U4 q4 v H5 O5 a8 s5 dy=>?_) (iH q3)⟩;refine⟨by rw[d4.length];exact q4.1,f.length - (i+1),by lia,U4,O5,M++[y],a8,q4.2,(aC.mono s5.hid d4).append (.cons dy .nil),G,rfl⟩
  .have e:i=f.length:=by lia
   subst e;obtain⟨hz,a9,q⟩:=fin M B iv;refine .inl ⟨w2,by rw[dv.length];exact hz,fun p hp=>?_⟩;have b0:k p=none:=by
    cases e:k p with
    | none=>rfl
    | some o=>rw[S p o e] at hp;cases hp
   exact q _ _ I (n.grow fun b o e=>bC hp _ _ (S b o e)) (s1.trans (.same fun b o e=>bC hp _ _ (S b o e))) (gz hp (n.nofree p b0) (HM (fun a u nm e=>by
    obtain⟨t,_⟩:=cE e;refine fU t fun z=>?_;obtain⟨o,eo,mo⟩:=n.live a z;rw[S a o eo] at t;cases t;exact nm mo) dv a9))
end
section
variable{X:Cx}{F:Fx}{scope:Scope}{own capN:List Str}{caps:List Nat}{tg iter elt:Expr}{ifs:List Expr}{s:cX}{g:dB}{tc:cg}{te:DT}{pos:Pos}
theorem HQ(k:GF X.mg F)(S:ae X scope own capN caps)(l:X.calm=true)(j:rS X F tg iter s)
  (c:∀C d e f h b,GF X.mg b->DG (bA X scope (own++capN) C d e f h) b tg g/\jA (bA X scope (own++capN) C d e f h) b ifs tc/\DE (bA X scope (own++capN) C d e f h) b elt te)
  (m:autoParam (∀x,foldedSetIterable iter X.env x=pure x) Zs._auto_1):DE X F (.ListComp elt [⟨tg,iter,ifs,0⟩] scope pos) (nI own caps s g tc te):=by
 obtain⟨n,o,p⟩:=c 0 [] (PySem.start X.prog).1 (fun _=>none) [] F k;refine⟨HN j.mn,(ug S l j.pi (fun C d e f h=>⟨fun a s Y H v u Q I r ⟨b,i,q⟩=>(c C d e f h b i).1.pg a s Y H v u Q I r q,fun a s Y H Q I ⟨b,i,q⟩=>(c C d e f h b i).2.1.2 a s Y H Q I q,fun a s Y H Q I ⟨b,i,q⟩=>(c C d e f h b i).2.2.pe a s Y H Q I q⟩) m).imp (HP (fun _ _ _ _ _ st=>k.into st) j.mn n.mn o.1 p.mn)⟩
end
@[simp] noncomputable def nJ(own:Nat)(a:List Nat)(U:ag):ag:=List.replicate own none++a.map fun j=>rT U[j]?
@[simp] noncomputable def wg(own:Nat)(a:List Nat)(g:GM)(t:XM Bool)(m:XM PyData)(b:List PyData):XM PyData:=fun d=>aQ ((bJ g t m b [] (nJ own a d)).bind fun c=>if c.length<=sizeLine/\c.all fJ=true then some (.list c) else none) d
@[simp] noncomputable def ik(own:Nat)(a:List Nat)(s:XM (List PyData))(g:GM)(t:XM Bool)(m:XM PyData):XM PyData:=fun U=>(s U).bind (wg own a g t m)
section
variable{X:Cx}{F:Fx}{E:Str->ag->Prop}{pos:Pos}
theorem HS{own:List Str}{f:List Nat}{s:XM (List PyData)}{g:GM}{t:XM Bool}{m:XM PyData}{U:ag}{Q:PyData->ag->Prop}(q:wp E (ik own.length f s g t m) U Q):nI own f (wp E s) (et g) (wp fG t) (wp fG m) U Q:=av _ _ _ (fun l p C=>by
 obtain⟨y,D,z⟩:=cx (o:=(bJ g t m l [] (nJ own.length f p)).bind fun n=>if n.length<=sizeLine/\n.all fJ=true then some (PyData.list n) else none) (U:=p) (E:=E) (Q:=Q) C;obtain⟨j,G,r⟩:=Option.bind_eq_some_iff.mp D;have u:(j.length<=sizeLine/\j.all fJ=true)/\y=.list j:=by
  split at r
  .rename_i h;cases r;exact⟨h,rfl⟩
  .cases r
 have H:gi own f p=nJ own.length f p:=by unfold gi nJ;rw[List.map_const']
 refine⟨fun i n U=>bJ g t m (l.drop i) n U=some j,by rw[H];exact G,fun i d n U hd a=>?_,fun n U h=>?_⟩
 .have e:l.drop i=d::l.drop (i+1):=by obtain⟨v,I⟩:=List.getElem?_eq_some_iff.mp hd;rw[<-I];exact List.drop_eq_getElem_cons v
  simp only[e] at a;unfold bJ at a;unfold et;cases A:g d U with
  | none=>rw[A] at a;cases a
  | some J=>
   rw[A] at a;simp only at a ⊢;unfold wp;cases w:t J with
   | ex c B=>rw[w] at a;cases a
   | bad=>rw[w] at a;cases a
   | ok b B=>
    rw[w] at a;cases b with
    | false=>exact ei a
    | true=>
     refine ej ?_;simp only at a ⊢;cases x:m B with
     | ex c L=>rw[x] at a;cases a
     | bad=>rw[x] at a;cases a
     | ok M L=>
      rw[x] at a;simp only at a ⊢;split at a
      .rename_i h;exact⟨h,a⟩
      .cases a
 .simp only[List.drop_length] at h;have:n=j:=by unfold bJ at h;exact Option.some.inj h
  subst this;rw[u.2] at z;exact⟨u.1.1,u.1.2,z⟩) (bv (k:=wg own.length f g t m) q)
theorem DE.imp'{e:Expr}{t t':DT}(h:DE X F e t)(b:Mn t')(k:∀U Q,t' U Q->t U Q):DE X F e t':=⟨b,h.pe.imp fun Y H Q a=>by obtain⟨U,O,st,q⟩:=a;exact⟨U,O,st,k U _ q⟩⟩
theorem wh{a:Scope}{own b:List Str}{c:List Nat}{h iter d:Expr}{e:List Expr}{s:XM (List PyData)}{g:GM}{t:XM Bool}{m:XM PyData}{n:Nat}(p:GF X.mg F)(S:ae X a own b c)(r:X.calm=true)(u:own.length=n)(v:rS X F h iter (wp E s))
  (i:∀C j k l o f,GF X.mg f->FG (bA X a (own++b) C j k l o) f h g/\kW (bA X a (own++b) C j k l o) f fG e t/\FE (bA X a (own++b) C j k l o) f fG d m)
  (w:autoParam (∀x,foldedSetIterable iter X.env x=pure x) Zs._auto_1):FE X F E (.ListComp d [⟨h,iter,e,0⟩] a pos) (ik n c s g t m):=by
 subst u;exact DE.imp' (HQ p S r v i w) av fun U Q q=>HS q
theorem au.view{K:Frag}{H:Hp}{Y:St}{U:ag}{O:List Addr}(st:au K F H Y U O){i:Nat}{b:Bx}(e:U[i]? = some (some (.vw b))):∃a d,Y[i]? = some (some (.ref a))/\eO (aj O H) (aj O H) a b d:=by obtain⟨W,h,rfl⟩:=st;obtain⟨v,d,h1,h2,a,c,rfl,h3⟩:=h.at_ i _ e;exact⟨a,c,h1,h3⟩
end
noncomputable def fm:List PyData->Option (List Int)
 | []=>some []
 | .int i::r=>(fm r).map (i::·)
 | _=>none
noncomputable def iS:List PyData->Option (List (List Int))
 | []=>some []
 | .tuple a::r=>(match fm a,iS r with | some x,some y=>some (x::y) | _,_=>none)
 | _=>none
theorem rW:∀{b:List PyData}{a:List Int},fm b=some a->b=a.map PyData.int
 | [],a,h=>by cases h;rfl
 | .int i::r,a,h=>by unfold fm at h;obtain⟨m,h1,h2⟩:=Option.map_eq_some_iff.mp h;subst h2;rw[rW h1];rfl
 | .none::_,_,h=>by cases h
 | .bool _::_,_,h=>by cases h
 | .str _::_,_,h=>by cases h
 | .list _::_,_,h=>by cases h
 | .tuple _::_,_,h=>by cases h
 | .dict _::_,_,h=>by cases h
theorem wj:∀{b:List PyData}{a:List (List Int)},iS b=some a->b=a.map fun r=>PyData.tuple (r.map PyData.int)
 | [],a,h=>by cases h;rfl
 | .tuple l::r,a,h=>by
  unfold iS at h;cases h1:fm l with
  | none=>rw[h1] at h;cases h
  | some x=>
   cases h2:iS r with
   | none=>rw[h1,h2] at h;cases h
   | some y=>rw[h1,h2] at h;cases h;rw[wj h2,rW h1];rfl
 | .none::_,_,h=>by cases h
 | .bool _::_,_,h=>by cases h
 | .str _::_,_,h=>by cases h
 | .list _::_,_,h=>by cases h
 | .int _::_,_,h=>by cases h
 | .dict _::_,_,h=>by cases h
theorem wm{H:Hp}:∀{b:List V}{a:List Int},aC H b (a.map PyData.int)->b=a.map V.int
 | _,[],.nil=>rfl
 | _,n::a,.cons h t=>by rw[h.int_inv,wm t];rfl
theorem rX:∀{a:List Int}{b:List Value},aM (a.map V.int) b->IntsAre b a
 | [],_,.nil=>.nil
 | n::a,_,.cons r t=>by obtain⟨c,rfl⟩:=r;exact .cons n c (rX t)
theorem cD{N P:List Str}{a:Scope}(f:autoParam (a.kind=.function) Zq._auto_1)(g:autoParam (a.isCoroutine=false) Zq._auto_1)(h:autoParam (a.isGenerator=false) Zq._auto_1)(b:N.Nodup:=by decide +kernel)(c:autoParam (N.take P.length=P) Zq._auto_1)(d:∀x∈P,a.names.lookup x=some .local\/a.names.lookup x=some .cell:=by decide +kernel)(e:∀y∈a.names,y.2≠.free:=by decide +kernel):bI N P a:=⟨f,g,h,b,c,d,e⟩
section
variable{X:Cx}{F:Fx}{E:Str->ag->Prop}{e:Expr}{es:List Expr}{pos p p1 apos:Pos}{x m q:Str}{C:Addr}{i k j:Nat}{g:Addr}{fd:FuncData}{ps:List Str}{f:FM}{st:Stmt}{mX:XM (List AX)}
theorem fv(i:Nat)(b:autoParam (X.N[i]? = some x) Zq._auto_1)(c:ml X.env.scope x:=by first | exact Or.inl rfl | exact Or.inr (Or.inl rfl) | exact Or.inr (Or.inr rfl))(hd:autoParam ((x==("__debug__":Str))=false) Zr._auto_1)(a:autoParam ((x==("__classdict__":Str))=false) Zr._auto_1):FE X F E (.Name x pos) (xV i):=Gv (um i (pv i b c hd a))
theorem HU(i:Nat)(a:X.N.Nodup)(b:autoParam (X.N[i]? = some x) Zq._auto_1)(c:Loc X.env.scope x:=by first | exact Or.inl rfl | exact Or.inr rfl)(d:X.fn x=true\/X.env.scope.names.lookup x=some .local:=by first | exact .inl rfl | exact .inr rfl | assumption):FG X F (.Name x pos) (al i):=GX (Es (Ay a b c d))
theorem nK(d:gB X F E)(G:bV X.prog X.w X.K X.mg X.base (dX X.prog X.w) k g fd ps (gE X.K X.mg f))(D:FD X.K X.mg x st ps g fd)(h:bq j X.A)(l:FX X F E (e::es) mX)(n:autoParam (k<=j) Zr._auto_1)(o:autoParam (Gl X x) Zq._auto_1)(a:autoParam ((x==("__debug__":Str))=false) Zr._auto_1)
  (r:autoParam (starEach (e::es) X.env=(false,eval e X.env)::starEach es X.env) Zq._auto_1) (c:autoParam ((backTo pos (starEach es X.env)).any (·.1)=false) Zq._auto_1):FO X F E (.Call (.Name x p) (e::es) [] pos) (aW f mX):=Hb (Ff d G (h.mono n) o D.mgf D.fn.kp D.b l a r c)
end
end L2.L3
namespace L2.TS
open PySem PyProof.Rows
section
variable{α:Type}{le:α->α->Bool}
theorem nL{as bs:List α}{b:α}:∀{xs:List α},(∀x∈xs,le x b=true)->List.merge (xs++as) (b::bs) le=xs++List.merge as (b::bs) le
 | [],_=>rfl
 | x::xs,h=>by rw[List.cons_append,List.cons_merge_cons,if_pos (h x List.mem_cons_self),nL fun y a=>h y (bh _ a)];rfl
theorem rY{as bs:List α}{a:α}:∀{ys:List α},(∀y∈ys,le a y=false)->List.merge (a::as) (ys++bs) le=ys++List.merge (a::as) bs le
 | [],_=>rfl
 | y::ys,h=>by rw[List.cons_append,List.cons_merge_cons,if_neg (by rw[h y List.mem_cons_self];exact Bool.false_ne_true),rY fun z b=>h z (bh _ b)];rfl
theorem rZ{b bs:List α}(h:∀y∈bs,∀x∈b,le x y=false):List.merge b bs le=bs++b:=by
 cases b with
 | nil=>simp
 | cons x b=>have:=rY (le:=le) (as:=b) (bs:=[]) (a:=x) (ys:=bs) fun y c=>h y c x List.mem_cons_self;rw[List.append_nil,List.merge_right] at this;exact this
theorem HV{as a:List α}(h:∀x∈as,∀y∈a,le x y=true):List.merge as a le=as++a:=by
 cases a with
 | nil=>simp
 | cons y a=>have:=nL (le:=le) (as:=[]) (bs:=a) (b:=y) (xs:=as) fun x c=>h x c y List.mem_cons_self;simpa using this
theorem se{c:List α}:∀(as bs:List α),(∀y∈bs,∀x∈c,le x y=false)->List.merge (as++c) bs le=List.merge as bs le++c
 | [],bs,h=>by simpa using rZ h
 | a::as,[],h=>by simp
 | a::as,b::bs,h=>by
  rw[List.cons_append,List.cons_merge_cons,List.cons_merge_cons];split
  .rw[se as (b::bs) h];rfl
  .rw[<-List.cons_append,se (a::as) bs fun y d=>h y (bh _ d)];rfl
termination_by as bs=>as.length+bs.length
theorem nM{c:List α}:∀(as bs:List α),(∀x∈as,∀y∈c,le x y=true)->List.merge as (bs++c) le=List.merge as bs le++c
 | as,[],h=>by simpa using HV h
 | [],b::bs,h=>by simp
 | a::as,b::bs,h=>by
  rw[List.cons_append,List.cons_merge_cons,List.cons_merge_cons];split
  .rw[<-List.cons_append,nM as (b::bs) fun x d=>h x (bh _ d)];rfl
  .rw[nM (a::as) bs h];rfl
termination_by as bs=>as.length+bs.length
end
noncomputable def cn:Bool->Keyed->Array Keyed->Nat->Nat->Nat->StateT SortSt Sem (Option Nat):=sortPriv% PySem.Builtin.gallop
noncomputable def jS(lf:Bool)(a:Keyed)(b:Array Keyed)(bs i:Nat):StateT SortSt Sem (Option Bool):=do
 let x <-elem' b (bs+i)
 if lf then lt' x a else return (<-lt' a x).map (!·)
noncomputable def nN(lf:Bool)(ky:Keyed)(ar:Array Keyed)(bs n l0 h0:Nat):StateT SortSt Sem (Option Nat):=do
 let mut lo:=l0;let mut hi:=h0
 for _ in [0:n] do
  if lo≥hi then break
  let m:=lo+(hi - lo) / 2
  let some mo <-jS lf ky ar bs m | return none
  if mo then lo:=m+1 else hi:=m
 return some hi
theorem HW(lf:Bool)(ky:Keyed)(ar:Array Keyed)(bs n hn:Nat):cn lf ky ar bs n hn=(do
 let mut la:=0;let mut of:=1
 let some rt <-jS lf ky ar bs hn | return none
 if rt then
  for _ in [0:n] do
   if of≥n - hn then break
   let some mo <-jS lf ky ar bs (hn+of) | return none
   if !mo then break
   la:=of
   of:=2 * of+1
  nN lf ky ar bs n (hn+la+1) (hn+min of (n - hn))
 else
  for _ in [0:n] do
   if of≥hn+1 then break
   let some fd <-jS lf ky ar bs (hn - of) | return none
   if fd then break
   la:=of
   of:=2 * of+1
  nN lf ky ar bs n (hn+1 - min of (hn+1)) (hn - la)):=rfl
section
variable{prog:Program}{w:World}{A:Around}{E:Value->Shared->Prop}{s:Shared}{le:Keyed->Keyed->Bool}{κ:SortKind}{S:Keyed->Prop}
def cN(prog:Program)(w:World)(A:Around)(E:Value->Shared->Prop)(s:Shared)(le:Keyed->Keyed->Bool)(κ:SortKind)(S:Keyed->Prop):Prop:=
 ∀x y,S x->S y->∀(Q:Option Bool->SortSt->Prop) (st:SortSt),kindOf st=κ->Q (some (!le y x)) st->wpS (model prog w) A E s (lt' x y) Q st
theorem cK{a:Array Keyed}{i:Nat}{x:Keyed}{Q:Keyed->SortSt->Prop}{st:SortSt}(h:a[i]? = some x)(q:Q x st):wpS (model prog w) A E s (elem' a i) Q st:=by rw[elem'_eq,h];exact aG q
noncomputable def cO(le:Keyed->Keyed->Bool)(lf:Bool)(a x:Keyed):Bool:=if lf then !le a x else le x a
theorem nO(b:cN prog w A E s le κ S){lf:Bool}{a x:Keyed}{c:Array Keyed}{bs i:Nat}{Q:Option Bool->SortSt->Prop}{st:SortSt}(d:kindOf st=κ)(g:c[bs+i]? = some x)(e:S x)(f:S a)
  (q:Q (some (cO le lf a x)) st):wpS (model prog w) A E s (jS lf a c bs i) Q st:=by
 unfold jS;refine ay (cK g ?_);cases lf with
 | true=>exact b x a e f Q st d q
 | false=>exact ay (b a x f e _ st d (aG (by simpa[cO] using q)))
variable{p:Nat->Bool}{lf:Bool}{ky:Keyed}{ar:Array Keyed}{bs n:Nat}{Q:Option Nat->SortSt->Prop}{st:SortSt}
theorem wn(t:cN prog w A E s le κ S)(u:kindOf st=κ)(v:S ky)(q:∀i,i<n->∃x,ar[bs+i]? = some x/\S x/\cO le lf ky x=p i)(mono:∀i j,i<=j->j<n->p j=true->p i=true)
  (h:∀k,k<=n->(∀i,i<k->p i=true)->(∀i,k<=i->i<n->p i=false)->Q (some k) st) {o l:Nat}(r:o<=l) (y:l<=n) (M:∀i,i<o->p i=true) (N:∀i,l<=i->i<n->p i=false) :
  wpS (model prog w) A E s (nN lf ky ar bs n o l) Q st:=by
 unfold nN;dsimp only;refine ay (wpS_mono (wpS_forRange (I:=fun x c a=>a = st/\∃lo b,c=(none,lo,b)/\lo<=b/\b<=n/\b - lo<=n - x/\(∀i,i<lo->p i=true)/\(∀i,b<=i->i<n->p i=false))
  (Q:=fun c a=>a = st/\∃k,c=(none,k,k)/\k<=n/\(∀i,i<k->p i=true)/\(∀i,k<=i->i<n->p i=false)) ?_ ?_ ⟨rfl,o,l,rfl,r,y,by lia,M,N⟩) ?_)
 .rintro x c a _ R ⟨rfl,lo,b,rfl,z,d,B,f,g⟩;dsimp only
  by_cases m:lo≥b
  .rw[if_pos m];have:lo=b:=by lia
   subst this;exact aG ⟨rfl,lo,rfl,d,f,g⟩
  .rw[if_neg m];obtain⟨x,C,D,G⟩:=q (lo+(b - lo) / 2) (by lia);refine ay (nO t u C D v ?_);rw[G];cases e:p (lo+(b - lo) / 2) with
   | true=>exact aG ⟨rfl,_,_,rfl,by lia,d,by lia,fun i H=>mono i _ (by lia) (by lia) e,g⟩
   | false=>
    refine aG ⟨rfl,_,_,rfl,by lia,by lia,by lia,f,fun i O J=>?_⟩;cases L:p i with
    | false=>rfl
    | true=>rw[mono _ i O J L] at e;cases e
 .rintro c a ⟨rfl,lo,b,rfl,z,d,B,f,g⟩;have:lo=b:=by lia
  subst this;exact⟨rfl,lo,rfl,d,f,g⟩
 .rintro c a ⟨rfl,k,rfl,d,f,g⟩;exact aG (h k d f g)
theorem HX(r:cN prog w A E s le κ S)(t:kindOf st=κ)(u:S ky)(l:∀i,i<n->∃x,ar[bs+i]? = some x/\S x/\cO le lf ky x=p i)(mono:∀i j,i<=j->j<n->p j=true->p i=true)
  (h:∀k,k<=n->(∀i,i<k->p i=true)->(∀i,k<=i->i<n->p i=false)->Q (some k) st) {b:Nat}(H:b<n) :
  wpS (model prog w) A E s (cn lf ky ar bs n b) Q st:=by
 rw[HW];have o:∀i j,i<=j->j<n->p i=false->p j=false:=fun i j C v e=>by
  cases J:p j with
  | false=>rfl
  | true=>rw[mono i j C v J] at e;cases e
 obtain⟨x,y,z,B⟩:=l b H;refine ay (nO r t y z u ?_);rw[B];dsimp only;cases e:p b with
 | true=>
  rw[if_pos rfl];refine ay (wpS_mono (wpS_forRange (I:=fun x c a=>a = st/\∃la of,c=(none,la,of)/\la<of/\x+1<=of/\b+la<n/\p (b+la)=true)
   (Q:=fun c a=>a = st/\∃la of,c=(none,la,of)/\la<of/\b+la<n/\p (b+la)=true/\(n - b<=of\/(b+of<n/\p (b+of)=false))) ?_ ?_ ⟨rfl,0,1,rfl,by lia,by lia,by lia,e⟩) ?_)
  .rintro x c a _ L ⟨rfl,la,of,rfl,m,D,g,f⟩;dsimp only
   by_cases d:of≥n - b
   .rw[if_pos d];exact aG ⟨rfl,la,of,rfl,m,g,f,.inl d⟩
   .rw[if_neg d];obtain⟨x,y,z,B⟩:=l (b+of) (by lia);refine ay (nO r t y z u ?_);rw[B];cases e:p (b+of) with
    | true=>exact aG ⟨rfl,of,_,rfl,by lia,by lia,by lia,e⟩
    | false=>exact aG ⟨rfl,la,of,rfl,m,g,f,.inr ⟨by lia,e⟩⟩
  .rintro c a ⟨rfl,la,of,rfl,m,D,g,f⟩;exact⟨rfl,la,of,rfl,m,g,f,.inl (by lia)⟩
  .rintro c a ⟨rfl,la,of,rfl,m,g,f,q⟩;dsimp only;refine wn r t u l mono h (by lia) (by lia) (fun i M=>mono i _ (by lia) g f) (fun i C v=>?_);rcases q with q | ⟨q,G⟩
   .omega
   .exact o _ i (by lia) v G
 | false=>
  rw[if_neg Bool.false_ne_true];refine ay (wpS_mono (wpS_forRange (I:=fun x c a=>a = st/\∃la of,c=(none,la,of)/\la<of/\x+1<=of/\la<=b/\p (b - la)=false)
   (Q:=fun c a=>a = st/\∃la of,c=(none,la,of)/\la<of/\la<=b/\p (b - la)=false/\(b+1<=of\/(of<=b/\p (b - of)=true))) ?_ ?_ ⟨rfl,0,1,rfl,by lia,by lia,by lia,e⟩) ?_)
  .rintro x c a _ L ⟨rfl,la,of,rfl,m,D,g,f⟩;dsimp only
   by_cases d:of≥b+1
   .rw[if_pos d];exact aG ⟨rfl,la,of,rfl,m,g,f,.inl d⟩
   .rw[if_neg d];obtain⟨x,y,z,B⟩:=l (b - of) (by lia);refine ay (nO r t y z u ?_);rw[B];cases e:p (b - of) with
    | false=>exact aG ⟨rfl,of,_,rfl,by lia,by lia,by lia,e⟩
    | true=>exact aG ⟨rfl,la,of,rfl,m,g,f,.inr ⟨by lia,e⟩⟩
  .rintro c a ⟨rfl,la,of,rfl,m,D,g,f⟩;exact⟨rfl,la,of,rfl,m,g,f,.inl (by lia)⟩
  .rintro c a ⟨rfl,la,of,rfl,m,g,f,q⟩;dsimp only;refine wn r t u l mono h (by lia) (by lia) (fun i M=>?_) (fun i C v=>o _ i C v f);rcases q with q | ⟨q,G⟩
   .omega
   .exact mono i _ (by lia) (by lia) G
theorem jT(g:cN prog w A E s le κ S)(f:∀x y z,le x y=true->le y z=true->le x z=true)(l:kindOf st=κ)(m:S ky)(o:∀(i:Nat) (x:Keyed),ar[i]? = some x->S x)(r:bs+n<=ar.size)
  (t:∀(i j:Nat) (x y:Keyed),bs<=i->i<=j->j<bs+n->ar[i]? = some x->ar[j]? = some y->le x y=true)
  (h:∀k,k<=n->(∀(i:Nat),i<k->∀x:Keyed,ar[bs+i]? = some x->cO le lf ky x=true)->(∀(i:Nat),k<=i->i<n->∀x:Keyed,ar[bs+i]? = some x->cO le lf ky x=false)->Q (some k) st) {a:Nat}(u:a<n) :
  wpS (model prog w) A E s (cn lf ky ar bs n a) Q st:=by
 refine HX (p:=fun i=>match ar[bs+i]? with | some x=>cO le lf ky x | none=>false) g l m (fun i b=>?_) (fun i j v I e=>?_) (fun k dF D G=>h k dF (fun i b x e=>?_) (fun i H B x e=>?_)) u
 .have e:ar[bs+i]? = some (ar[bs+i]'(by lia)):=getElem?_pos _ _ (by lia);exact⟨_,e,o _ _ e,by simp only[e]⟩
 .have c:ar[bs+i]? = some (ar[bs+i]'(by lia)):=getElem?_pos _ _ (by lia);have d:ar[bs+j]? = some (ar[bs+j]'(by lia)):=getElem?_pos _ _ (by lia);have q:=t _ _ _ _ (by lia) (by lia) (by lia) c d;simp only[c,d] at e ⊢;cases lf with
  | false=>exact f _ _ _ q e
  | true=>
   simp only[cO,if_true,Bool.not_eq_true'] at e ⊢;cases C:le ky (ar[bs+i]'(by lia)) with
   | false=>rfl
   | true=>rw[f _ _ _ C q] at e;cases e
 .have:=D i b;simp only[e] at this;exact this
 .have:=G i H B;simp only[e] at this;exact this
end
noncomputable def dk:Nat->StateT SortSt Sem Unit:=sortPriv% PySem.Builtin.setMinGallop
theorem nP(g:Nat):dk g=modify fun s=>SortSt.mk' (kindOf s) (arrOf s) (pendingOf s) g (failedOf s):=rfl
noncomputable def gP:Array Keyed->Array Keyed->StateT SortSt Sem (Array Keyed):=sortPriv% PySem.Builtin.mergeLo
noncomputable abbrev fK:=Option (Array Keyed)×Array Keyed×Nat×Nat×Nat×Nat×Nat
noncomputable abbrev lh:=Option (Array Keyed)×Array Keyed×Nat×Nat×Nat×Nat
noncomputable def dn(a b o:Array Keyed)(c d:Nat):Array Keyed:=o++a.extract c a.size++b.extract d b.size
noncomputable def la(a b o:Array Keyed)(c d:Nat):Array Keyed:=o++b.extract d b.size++a.extract c a.size
noncomputable def li(a b:Array Keyed)(mg ac d:Nat)(o:Array Keyed)(c e:Nat):StateT SortSt Sem (ForInStep fK):=do
 let x <-elem' a c
 if c+1+1==a.size then pure (.done (some (la a b (o.push x) (c+1) e),o.push x,c+1,e,mg,ac,d))
 else if ac<7&&d<7 then pure (.done (none,o.push x,c+1,e,mg,ac,d)) else pure (.yield (none,o.push x,c+1,e,mg,ac,d))
noncomputable def lm(a b:Array Keyed)(mg ac e:Nat)(o:Array Keyed)(d c:Nat):StateT SortSt Sem (ForInStep fK):=do
 let y <-elem' b c
 if c+1==b.size then pure (.done (some (dn a b (o.push y) d (c+1)),o.push y,d,c+1,mg,ac,e))
 else
  let x <-elem' a d
  match <-cn true x b (c+1) (b.size - (c+1)) 0 with
  | some k=>
   if k>0 then
    if c+1+k==b.size then pure (.done (some (dn a b (o.push y++b.extract (c+1) (c+1+k)) d (c+1+k)),o.push y++b.extract (c+1) (c+1+k),d,c+1+k,mg,ac,k))
    else li a b mg ac k (o.push y++b.extract (c+1) (c+1+k)) d (c+1+k)
   else li a b mg ac k (o.push y) d (c+1)
  | _=>pure (.done (some (dn a b (o.push y) d (c+1)),o.push y,d,c+1,mg,ac,e))
noncomputable def lp(a b:Array Keyed)(ac e:Nat)(o:Array Keyed)(c d mg:Nat):StateT SortSt Sem (ForInStep fK):=do
 dk mg
 let y <-elem' b d
 match <-cn false y a c (a.size - c) 0 with
 | some k=>
  if k>0 then
   if c+k+1==a.size then pure (.done (some (la a b (o++a.extract c (c+k)) (c+k) d),o++a.extract c (c+k),c+k,d,mg,k,e))
   else if c+k==a.size then pure (.done (some (dn a b (o++a.extract c (c+k)) (c+k) d),o++a.extract c (c+k),c+k,d,mg,k,e))
   else lm a b mg k e (o++a.extract c (c+k)) (c+k) d
  else lm a b mg k e o c d
 | _=>pure (.done (some (dn a b o c d),o,c,d,mg,ac,e))
noncomputable def nQ(a b:Array Keyed)(c:fK):StateT SortSt Sem (ForInStep fK):=
 if c.2.2.2.2.1>1 then lp a b c.2.2.2.2.2.1 c.2.2.2.2.2.2 c.2.1 c.2.2.1 c.2.2.2.1 (c.2.2.2.2.1 - 1) else lp a b c.2.2.2.2.2.1 c.2.2.2.2.2.2 c.2.1 c.2.2.1 c.2.2.2.1 c.2.2.2.2.1
noncomputable def nR(a b:Array Keyed)(mg:Nat)(c:lh):StateT SortSt Sem (ForInStep lh):=do
 let y <-elem' b c.2.2.2.1;let x <-elem' a c.2.2.1
 match <-lt' y x with
 | some d=>
  if d then do
   let y <-elem' b c.2.2.2.1
   if c.2.2.2.1+1==b.size then pure (.done (some (dn a b (c.2.1.push y) c.2.2.1 (c.2.2.2.1+1)),c.2.1.push y,c.2.2.1,c.2.2.2.1+1,0,c.2.2.2.2.2+1))
   else if c.2.2.2.2.2+1≥mg then pure (.done (none,c.2.1.push y,c.2.2.1,c.2.2.2.1+1,0,c.2.2.2.2.2+1)) else pure (.yield (none,c.2.1.push y,c.2.2.1,c.2.2.2.1+1,0,c.2.2.2.2.2+1))
  else do
   let x <-elem' a c.2.2.1
   if c.2.2.1+1+1==a.size then pure (.done (some (la a b (c.2.1.push x) (c.2.2.1+1) c.2.2.2.1),c.2.1.push x,c.2.2.1+1,c.2.2.2.1,c.2.2.2.2.1+1,0))
   else if c.2.2.2.2.1+1≥mg then pure (.done (none,c.2.1.push x,c.2.2.1+1,c.2.2.2.1,c.2.2.2.2.1+1,0)) else pure (.yield (none,c.2.1.push x,c.2.2.1+1,c.2.2.2.1,c.2.2.2.2.1+1,0))
 | _=>pure (.done (some (dn a b c.2.1 c.2.2.1 c.2.2.2.1),c.2.1,c.2.2.1,c.2.2.2.1,c.2.2.2.2.1,c.2.2.2.2.2))
noncomputable abbrev nU:=Option (Array Keyed)×Array Keyed×Nat×Nat×Nat
noncomputable def nV(a b:Array Keyed)(c:nU):StateT SortSt Sem (ForInStep nU):=do
 let d <-forIn [:a.size+b.size] ((none,c.2.1,c.2.2.1,c.2.2.2.1,0,0):lh) fun _ d=>nR a b c.2.2.2.2 d
 match d.1 with
 | some r=>pure (.done (some r,d.2.1,d.2.2.1,d.2.2.2.1,c.2.2.2.2))
 | none=>
  rule "list.sort.gallop"
  let e <-forIn [:a.size+b.size] ((none,d.2.1,d.2.2.1,d.2.2.2.1,c.2.2.2.2+1,d.2.2.2.2.1,d.2.2.2.2.2):fK) fun _ e=>nQ a b e
  match e.1 with
  | some r=>pure (.done (some r,e.2.1,e.2.2.1,e.2.2.2.1,e.2.2.2.2.1))
  | none=>
   dk (e.2.2.2.2.1+1)
   pure (.yield (none,e.2.1,e.2.2.1,e.2.2.2.1,e.2.2.2.2.1+1))
theorem fb{β γ:Type}{r:Std.Legacy.Range}{x:β}{f g:Nat->β->StateT SortSt Sem (ForInStep β)}{k a:β->StateT SortSt Sem γ}(h:∀i c,f i c=g i c)(b:∀c,k c=a c):(forIn r x f >>= k)=(forIn r x g >>= a):=by have e:f=g:=funext fun i=>funext fun c=>h i c;have d:k=a:=funext b;rw[e,d]
theorem eG{p:Prop}[Decidable p]{α:Type}{x a y b:α}(c:x=a)(d:y=b):(if p then x else y)=if p then a else b:=by rw[c,d]
theorem HY(a b:Array Keyed):gP a b=(do
 rule "list.sort.merge-lo"
 let tt:=a.size+b.size;let dn (o:Array Keyed) (ia ib:Nat):=o++a.extract ia a.size++b.extract ib b.size;let la (o:Array Keyed) (ia ib:Nat):=o++b.extract ib b.size++a.extract ia a.size;let mut o:Array Keyed:=#[<-elem' b 0];let mut ia:=0;let mut ib:=1
 if ib==b.size then return dn o ia ib
 if ia+1==a.size then return la o ia ib
 let mut mg:=gallopOf (<-get)
 for _ in [0:tt] do
  let mut ac:=0;let mut bc:=0
  for _ in [0:tt] do
   let some bw <-lt' (<-elem' b ib) (<-elem' a ia) | return dn o ia ib
   if bw then
    o:=o.push (<-elem' b ib);ib:=ib+1;bc:=bc+1;ac:=0
    if ib==b.size then return dn o ia ib
    if bc≥mg then break
   else
    o:=o.push (<-elem' a ia);ia:=ia+1;ac:=ac+1;bc:=0
    if ia+1==a.size then return la o ia ib
    if ac≥mg then break
  rule "list.sort.gallop"
  mg:=mg+1
  for _ in [0:tt] do
   if mg>1 then mg:=mg - 1
   dk mg
   let some k <-cn false (<-elem' b ib) a ia (a.size - ia) 0 | return dn o ia ib
   ac:=k
   if k>0 then
    o:=o++a.extract ia (ia+k);ia:=ia+k
    if ia+1==a.size then return la o ia ib
    if ia==a.size then return dn o ia ib
   o:=o.push (<-elem' b ib);ib:=ib+1
   if ib==b.size then return dn o ia ib
   let some k <-cn true (<-elem' a ia) b ib (b.size - ib) 0 | return dn o ia ib
   bc:=k
   if k>0 then
    o:=o++b.extract ib (ib+k);ib:=ib+k
    if ib==b.size then return dn o ia ib
   o:=o.push (<-elem' a ia);ia:=ia+1
   if ia+1==a.size then return la o ia ib
   if ac<7&&bc<7 then break
  mg:=mg+1
  dk mg
 unsupported "internal:list.sort.merge-bound"):=rfl
theorem HZ(a b:Array Keyed):gP a b=(do
 rule "list.sort.merge-lo"
 let y <-elem' b 0
 if 1==b.size then return dn a b #[y] 0 1
 if 0+1==a.size then return la a b #[y] 0 1
 let g <-get;let c <-forIn [:a.size+b.size] ((none,#[y],0,1,gallopOf g):nU) fun _ c=>nV a b c
 match c.1 with
 | some r=>pure r
 | none=>unsupported "internal:list.sort.merge-bound"):=by
 rw[HY];refine bg fun _=>?_;dsimp only;refine bg fun y=>?_;unfold dn la;refine congrArg _ (congrArg _ (bg fun g=>?_));refine fb (fun _ c=>?_) fun c=>?_
 .unfold nV;refine fb (fun _ d=>?_) fun d=>?_
  .unfold nR dn la;refine bg fun _=>bg fun _=>bg fun q=>?_;cases q<;>rfl
  .obtain⟨r,d⟩:=d;cases r with
   | some r=>rfl
   | none=>
    dsimp only;refine bg fun _=>fb (fun _ e=>?_) fun e=>?_
    .unfold nQ lp dn la;refine eG ?_ ?_ <;>
     .refine bg fun _=>bg fun _=>bg fun q=>?_;cases q with
      | none=>rfl
      | some k=>
       refine eG (eG rfl (eG rfl ?_)) ?_ <;>
       .unfold lm li dn la;refine bg fun _=>eG rfl (bg fun _=>bg fun q=>?_);cases q<;>rfl
    .obtain⟨r,e⟩:=e;cases r<;>rfl
 .obtain⟨r,c⟩:=c;cases r<;>rfl
theorem gQ{α:Type}{l:List α}{i:Nat}{x:α}(h:l[i]? = some x):l.drop i=x::l.drop (i+1):=by obtain⟨a,h2⟩:=List.getElem?_eq_some_iff.mp h;rw[List.drop_eq_getElem_cons a,h2]
theorem drop_take{α:Type}(l:List α)(i k:Nat):l.drop i=(l.drop i).take k++l.drop (i+k):=by rw[<-List.drop_drop];exact(List.take_append_drop k (l.drop i)).symm
theorem fo{α:Type}(a:Array α)(i j:Nat):(a.extract i j).toList=(a.toList.drop i).take (j - i):=by simp[List.extract_eq_take_drop]
theorem cb{α:Type}{a:Array α}{i:Nat}:a[i]? = a.toList[i]?:=by simp
def JJ(le:Keyed->Keyed->Bool)(a b:Array Keyed)(o:Array Keyed)(c d:Nat):Prop:=o.toList++List.merge (a.toList.drop c) (b.toList.drop d) le=List.merge a.toList b.toList le
section
variable{le:Keyed->Keyed->Bool}{a b o:Array Keyed}{ia ib k:Nat}{x y:Keyed}
theorem JJ.pb(h:JJ le a b o ia ib)(c:a[ia]? = some x)(d:b[ib]? = some y)(e:le x y=false):JJ le a b (o.push y) ia (ib+1):=by unfold JJ at h ⊢;rw[cb] at c d;rw[<-h,gQ c,gQ d,List.cons_merge_cons,if_neg (by rw[e];exact Bool.false_ne_true)];simp
theorem JJ.pa(h:JJ le a b o ia ib)(c:a[ia]? = some x)(d:b[ib]? = some y)(e:le x y=true):JJ le a b (o.push x) (ia+1) ib:=by unfold JJ at h ⊢;rw[cb] at c d;rw[<-h,gQ c,gQ d,List.cons_merge_cons,if_pos e];simp
theorem lq{l:List Keyed}{i k:Nat}{x:Keyed}(h:x∈(l.drop i).take k):∃j,j<k/\l[i+j]? = some x:=by
 obtain⟨j,c⟩:=List.getElem?_of_mem h;rw[List.getElem?_take] at c;split at c
 .rename_i q;rw[List.getElem?_drop] at c;exact⟨j,q,c⟩
 .cases c
theorem JJ.ga(h:JJ le a b o ia ib)(c:b[ib]? = some y)(e:∀(i:Nat),i<k->∀x:Keyed,a[ia+i]? = some x->le x y=true):JJ le a b (o++a.extract ia (ia+k)) (ia+k) ib:=by unfold JJ at h ⊢;rw[cb] at c;rw[<-h,drop_take a.toList ia k,gQ c,nL (fun x d=>by obtain⟨j,f,q⟩:=lq d;exact e j f x (by rw[cb];exact q))];simp only[Array.toList_append,fo,List.append_assoc,Nat.add_sub_cancel_left]
theorem JJ.gb(h:JJ le a b o ia ib)(c:a[ia]? = some x)(e:∀(i:Nat),i<k->∀y:Keyed,b[ib+i]? = some y->le x y=false):JJ le a b (o++b.extract ib (ib+k)) ia (ib+k):=by unfold JJ at h ⊢;rw[cb] at c;rw[<-h,drop_take b.toList ib k,gQ c,rY (fun y d=>by obtain⟨j,f,q⟩:=lq d;exact e j f y (by rw[cb];exact q))];simp only[Array.toList_append,fo,List.append_assoc,Nat.add_sub_cancel_left]
theorem JJ.dn(h:JJ le a b o ia ib)(c:b.size<=ib):(dn a b o ia ib).toList=List.merge a.toList b.toList le:=by
 unfold JJ at h;unfold TS.dn;rw[<-h,show b.toList.drop ib=[] from List.drop_eq_nil_of_le (by simpa using c),List.merge_right];have d:(b.extract ib b.size).toList=[]:=by rw[fo,show b.size - ib=0 by lia,List.take_zero]
 have e:(a.extract ia a.size).toList=a.toList.drop ia:=by rw[fo,List.take_of_length_le (by simp)]
 simp only[Array.toList_append,d,e,List.append_nil]
theorem JJ.la(h:JJ le a b o ia ib)(e:∀(i:Nat) (x y:Keyed),i+1=a.size->a[i]? = some x->y∈b.toList->le x y=false)(f:ia+1=a.size):(la a b o ia ib).toList=List.merge a.toList b.toList le:=by
 unfold JJ at h;unfold TS.la;have d:a[ia]? = some (a[ia]'(by lia)):=getElem?_pos _ _ (by lia);have c:=d;rw[cb] at c;rw[<-h,gQ c,List.drop_eq_nil_of_le (by simp;lia),rZ (fun y g z j=>by obtain rfl:=List.mem_singleton.mp j;exact e ia _ y f d (List.mem_of_mem_drop g))];have l:(b.extract ib b.size).toList=b.toList.drop ib:=by rw[fo,List.take_of_length_le (by simp)]
 have m:(a.extract ia a.size).toList=[a[ia]'(by lia)]:=by rw[fo,gQ c,show a.size - ia=1 by lia];rfl
 simp only[Array.toList_append,l,m,List.append_assoc]
end
structure Sm (st st':SortSt):Prop where
 kind:kindOf st' = kindOf st
 arr:arrOf st' = arrOf st
 pend:pendingOf st' = pendingOf st
 failed:failedOf st' = failedOf st
theorem Sm.refl{st:SortSt}:Sm st st:=⟨rfl,rfl,rfl,rfl⟩
theorem Sm.mg{st a:SortSt}(h:Sm st a)(g:Nat):Sm st (SortSt.mk' (kindOf a) (arrOf a) (pendingOf a) g (failedOf a)):=⟨h.kind,h.arr,h.pend,h.failed⟩
section
variable{prog:Program}{w:World}{A:Around}{E:Value->Shared->Prop}{s:Shared}{le:Keyed->Keyed->Bool}{κ:SortKind}{S:Keyed->Prop}{a b:Array Keyed}{st0:SortSt}
structure MH (le:Keyed->Keyed->Bool) (S:Keyed->Prop) (a b:Array Keyed):Prop where
 tr:∀x y z,le x y=true->le y z=true->le x z=true
 sa:∀(i j:Nat) (x y:Keyed),i<=j->a[i]? = some x->a[j]? = some y->le x y=true
 sb:∀(i j:Nat) (x y:Keyed),i<=j->b[i]? = some x->b[j]? = some y->le x y=true
 Sa:∀(i:Nat) (x:Keyed),a[i]? = some x->S x
 Sb:∀(i:Nat) (x:Keyed),b[i]? = some x->S x
 a0:0<a.size
 b0:0<b.size
 first:∀x y:Keyed,a[0]? = some x->b[0]? = some y->le x y=false
 last:∀(i:Nat) (x y:Keyed),i+1=a.size->a[i]? = some x->y∈b.toList->le x y=false
theorem at_{α:Type}{c:Array α}{i:Nat}(h:i<c.size):∃x,c[i]? = some x:=⟨c[i],Array.getElem?_eq_getElem h⟩
def Gd(le:Keyed->Keyed->Bool)(a b o:Array Keyed)(c d:Nat):Prop:=JJ le a b o c d/\c+1<a.size/\d<b.size
noncomputable def GR(le:Keyed->Keyed->Bool)(a b:Array Keyed)(m:Nat):ForInStep fK->Prop
 | .done (some r,_)=>r.toList=List.merge a.toList b.toList le
 | .done (none,o,c,d,_)=>Gd le a b o c d/\m<=c+d
 | .yield (none,o,c,d,_)=>Gd le a b o c d/\m<=c+d
 | .yield (some _,_)=>False
variable(M:MH le S a b)
include M
theorem wo{mg ac k:Nat}{o:Array Keyed}{c d m:Nat}{st:SortSt}{x y:Keyed}{Q:ForInStep fK->SortSt->Prop}(h:JJ le a b o c d)(p:c+1<a.size)(l:d<b.size)(q:m<=c+d)
  (j:a[c]? = some x) (n:b[d]? = some y) (e:le x y=true) (f:∀r,GR le a b m r->Q r st):wpS (model prog w) A E s (li a b mg ac k o c d) Q st:=by
 unfold li;refine ay (cK j ?_);have h1:=h.pa j n e
 by_cases i:c+1+1=a.size
 .rw[if_pos (by simpa using i)];exact aG (f _ (h1.la M.last i))
 .rw[if_neg (by simpa using i)];have g:Gd le a b (o.push x) (c+1) d/\m<=c+1+d:=⟨⟨h1,by lia,l⟩,by lia⟩
  split
  .exact aG (f _ g)
  .exact aG (f _ g)
theorem wq(H:cN prog w A E s le κ S){mg ac I:Nat}{o:Array Keyed}{l d m:Nat}{st:SortSt}{x y:Keyed}{Q:ForInStep fK->SortSt->Prop}(J:kindOf st=κ)(h:JJ le a b o l d)(t:l+1<a.size)(N:d<b.size)(O:m<=l+d)
  (g:a[l]? = some x) (B:b[d]? = some y) (e:le x y=false) (n:∀r,GR le a b m r->Q r st):wpS (model prog w) A E s (lm a b mg ac I o l d) Q st:=by
 unfold lm;refine ay (cK B ?_);have h1:=h.pb g B e
 by_cases C:d+1=b.size
 .rw[if_pos (by simpa using C)];exact aG (n _ (h1.dn (by lia)))
 .rw[if_neg (by simpa using C)];refine ay (cK g (ay (jT H M.tr J (M.Sa _ _ g) M.Sb (by lia) (fun i j u v _ p _=>M.sb i j u v p) (fun k dF g1 g2=>?_) (by lia))));dsimp only;have h2:=h1.gb (k:=k) g fun i L z f=>by have:=g1 i L z f;simpa[cO] using this
  have h3:∀z:Keyed,k<b.size - (d+1)->b[d+1+k]? = some z->le x z=true:=fun z q f=>by have:=g2 k (aE _) q z f;simpa[cO] using this
  by_cases D:k>0
  .rw[if_pos D]
   by_cases G:d+1+k=b.size
   .rw[if_pos (by simpa using G)];exact aG (n _ (h2.dn (by lia)))
   .rw[if_neg (by simpa using G)];obtain⟨z,f⟩:=at_ (c:=b) (i:=d+1+k) (by lia);exact wo M h2 t (by lia) (by lia) g f (h3 z (by lia) f) n
  .rw[if_neg D];have:k=0:=by lia
   subst this;obtain⟨z,f⟩:=at_ (c:=b) (i:=d+1) (by lia);exact wo M h1 t (by lia) (by lia) g f (h3 z (by lia) f) n
theorem wr(x:cN prog w A E s le κ S){mg ac I:Nat}{o:Array Keyed}{d t m:Nat}{st:SortSt}{Q:ForInStep fK->SortSt->Prop}(J:Sm st0 st)(L:kindOf st0=κ)(h:JJ le a b o d t)(N:d+1<a.size)(B:t<b.size)(O:m<=d+t)
  (C:∀r n,Sm st0 n->GR le a b m r->Q r n):wpS (model prog w) A E s (lp a b ac I o d t mg) Q st:=by
 unfold lp;rw[nP];obtain⟨y,l⟩:=at_ B;refine ay (wpS_modify (ay (cK l ?_)));have f:=J.mg mg;generalize SortSt.mk' (kindOf st) (arrOf st) (pendingOf st) mg (failedOf st)=D at f ⊢;have dF:kindOf D=κ:=f.kind.trans L;refine ay (jT x M.tr dF (M.Sb _ _ l) M.Sa (by lia) (fun i j u v _ G _=>M.sa i j u v G) (fun k iQ g1 g2=>?_) (by lia));dsimp only;have h2:=h.ga (k:=k) l fun i R z e=>by have:=g1 i R z e;simpa[cO] using this
 have h3:∀z:Keyed,k<a.size - d->a[d+k]? = some z->le z y=false:=fun z q e=>by have:=g2 k (aE _) q z e;simpa[cO] using this
 have T:d+k<a.size:=by
  rcases Nat.lt_or_ge (d+k) a.size with q | q
  .exact q
  .obtain⟨z,e⟩:=at_ (c:=a) (i:=a.size - 1) (by lia);have U:=M.last (a.size - 1) z y (by lia) e (by rw[cb] at l;exact List.mem_of_getElem? l);have p:=g1 (a.size - 1 - d) (by lia) z (by rw[show d+(a.size - 1 - d)=a.size - 1 by lia];exact e);simp[cO,U] at p
 by_cases H:k>0
 .rw[if_pos H]
  by_cases p:d+k+1=a.size
  .rw[if_pos (by simpa using p)];exact aG (C _ _ f (h2.la M.last p))
  .rw[if_neg (by simpa using p),if_neg (by simp;lia)];obtain⟨z,e⟩:=at_ (c:=a) (i:=d+k) (by lia);exact wq M x dF h2 (by lia) B (by lia) e l (h3 z (by lia) e) fun r g=>C r _ f g
 .rw[if_neg H];have:k=0:=by lia
  subst this;obtain⟨z,e⟩:=at_ (c:=a) (i:=d) (by lia);exact wq M x dF h N B O e l (h3 z (by lia) e) fun r g=>C r _ f g
theorem Ia(f:cN prog w A E s le κ S){mg ac k:Nat}{o:Array Keyed}{d e m:Nat}{st:SortSt}{Q:ForInStep fK->SortSt->Prop}(g:Sm st0 st)(i:kindOf st0=κ)(h:Gd le a b o d e/\m<=d+e)
  (j:∀r c,Sm st0 c->GR le a b m r->Q r c):wpS (model prog w) A E s (nQ a b (none,o,d,e,mg,ac,k)) Q st:=by
 unfold nQ;dsimp only;split
 .exact wr M f g i h.1.1 h.1.2.1 h.1.2.2 h.2 j
 .exact wr M f g i h.1.1 h.1.2.1 h.1.2.2 h.2 j
noncomputable def FR(le:Keyed->Keyed->Bool)(a b:Array Keyed)(m:Nat):lh->Prop
 | (some r,_)=>r.toList=List.merge a.toList b.toList le
 | (none,o,c,d,_)=>Gd le a b o c d/\m<=c+d
theorem Ib(v:cN prog w A E s le κ S){mg ac z:Nat}{o:Array Keyed}{j l m:Nat}{st:SortSt}{Q:ForInStep lh->SortSt->Prop}(B:kindOf st=κ)(h:Gd le a b o j l)(C:m<=j+l+1)
  (hd:∀c,FR le a b m c->Q (.done c) st) (r:∀t d f n p,Gd le a b t d f->m<=d+f->Q (.yield (none,t,d,f,n,p)) st):wpS (model prog w) A E s (nR a b mg (none,o,j,l,ac,z)) Q st:=by
 unfold nR;dsimp only;obtain⟨h,u,q⟩:=h;obtain⟨y,k⟩:=at_ q;obtain⟨x,ex⟩:=at_ (c:=a) (i:=j) (by lia);refine ay (cK k (ay (cK ex (ay (v y x (M.Sb _ _ k) (M.Sa _ _ ex) _ st B ?_)))));dsimp only;cases e:le x y with
 | false=>
  simp only[Bool.not_false,if_true];have h1:=h.pb ex k e;refine ay (cK k ?_)
  by_cases g:l+1=b.size
  .rw[if_pos (by simpa using g)];exact aG (hd _ (h1.dn (by lia)))
  .rw[if_neg (by simpa using g)];split
   .exact aG (hd _ ⟨⟨h1,u,by lia⟩,by lia⟩)
   .exact aG (r _ _ _ _ _ ⟨h1,u,by lia⟩ (by lia))
 | true=>
  simp only[Bool.not_true,Bool.false_eq_true,if_false];have h1:=h.pa ex k e;refine ay (cK ex ?_)
  by_cases g:j+1+1=a.size
  .rw[if_pos (by simpa using g)];exact aG (hd _ (h1.la M.last g))
  .rw[if_neg (by simpa using g)];split
   .exact aG (hd _ ⟨⟨h1,by lia,q⟩,by lia⟩)
   .exact aG (r _ _ _ _ _ ⟨h1,by lia,q⟩ (by lia))
theorem Ie(C:cN prog w A E s le κ S){mg:Nat}{o:Array Keyed}{e f m:Nat}{st:SortSt}{Q:ForInStep nU->SortSt->Prop}(v:Sm st0 st)(D:kindOf st0=κ)(h:Gd le a b o e f)(N:m<=e+f)
  (hd:∀r c d,Sm st0 d->r.toList=List.merge a.toList b.toList le->Q (.done (some r,c)) d) (H:∀u k l y d,Sm st0 d->Gd le a b u k l->m+1<=k+l->Q (.yield (none,u,k,l,y)) d) :
  wpS (model prog w) A E s (nV a b (none,o,e,f,mg)) Q st:=by
 unfold nV;dsimp only;have dF:kindOf st=κ:=v.kind.trans D;refine ay (wpS_mono (wpS_forRange (I:=fun x c d=>d = st/\∃o e f ac j,c=(none,o,e,f,ac,j)/\Gd le a b o e f/\m+x<=e+f)
  (Q:=fun c d=>d = st/\FR le a b (m+1) c) ?_ ?_ ⟨rfl,o,e,f,0,0,rfl,h,by lia⟩) ?_)
 .rintro x c d _ J ⟨rfl,o,e,f,ac,j,rfl,g,q⟩;refine Ib M C (m:=m+x+1) dF g (by lia) (fun c n=>⟨rfl,?_⟩) (fun u k l z B L O=>⟨rfl,u,k,l,z,B,rfl,L,by lia⟩);obtain⟨_ | r,c⟩:=c
  .exact⟨n.1,by have:=n.2;lia⟩
  .exact n
 .rintro c d ⟨rfl,o,e,f,ac,j,rfl,g,q⟩;have:=g.2;lia
 .rintro⟨_ | r,c⟩ d ⟨rfl,n⟩
  .obtain⟨o,e,f,ac,j⟩:=c;dsimp only;refine ay (wpS_lift (wpAny_rule ⟨rfl,?_⟩));refine ay (wpS_mono (wpS_forRange (I:=fun _ c d=>Sm st0 d/\∃o e f mg ac j,c=(none,o,e,f,mg,ac,j)/\Gd le a b o e f/\m+1<=e+f)
    (Q:=fun c d=>Sm st0 d/\GR le a b (m+1) (.done c)) ?_ ?_ ⟨v,o,e,f,_,ac,j,rfl,n⟩) ?_)
   .rintro x c d _ J ⟨i,o,e,f,mg,ac,j,rfl,g⟩;refine Ia M C i D g fun r G p t=>?_
    match r,t with
    | .done c,t=>exact⟨p,t⟩
    | .yield (none,o,e,f,mg,ac,j),t=>exact⟨p,o,e,f,mg,ac,j,rfl,t⟩
    | .yield (some _,_),t=>exact t.elim
   .rintro c d ⟨i,o,e,f,mg,ac,j,rfl,g⟩;exact⟨i,g⟩
   .rintro⟨_ | r,c⟩ d ⟨i,n⟩
    .obtain⟨o,e,f,mg,ac,j⟩:=c;dsimp only;rw[nP];exact ay (wpS_modify (aG (H _ _ _ _ _ (i.mg _) n.1 n.2)))
    .exact aG (hd _ _ _ i n)
  .exact aG (hd _ _ _ v n)
theorem Ig(C:cN prog w A E s le κ S){Q:Array Keyed->SortSt->Prop}(D:kindOf st0=κ)(h:∀r d,Sm st0 d->r.toList=List.merge a.toList b.toList le->Q r d):wpS (model prog w) A E s (gP a b) Q st0:=by
 rw[HZ];refine ay (wpS_lift (wpAny_rule ⟨rfl,?_⟩));obtain⟨y,m⟩:=at_ M.b0;obtain⟨x,n⟩:=at_ M.a0;refine ay (cK m ?_);have G:JJ le a b #[] 0 0:=by simp[JJ]
 have p:JJ le a b #[y] 0 1:=G.pb n m (M.first x y n m);have b0:=M.b0;have a0:=M.a0
 by_cases B:1=b.size
 .rw[if_pos (by simpa using B)];exact aG (h _ _ .refl (p.dn (by lia)))
 .rw[if_neg (by simpa using B)]
  by_cases t:0+1=a.size
  .rw[if_pos (by simpa using t)];exact aG (h _ _ .refl (p.la M.last t))
  .rw[if_neg (by simpa using t)];refine ay (wpS_get ?_);refine ay (wpS_mono (wpS_forRange (I:=fun x c d=>Sm st0 d/\∃o j k mg,c=(none,o,j,k,mg)/\Gd le a b o j k/\x+1<=j+k)
    (Q:=fun c d=>Sm st0 d/\∃r H,c=(some r,H)/\r.toList=List.merge a.toList b.toList le) ?_ ?_ ⟨.refl,#[y],0,1,_,rfl,⟨p,by lia,by lia⟩,by lia⟩) ?_)
   .rintro x c d _ n ⟨i,o,j,k,mg,rfl,g,q⟩;exact Ie M C i D g q (fun r c l f e=>⟨f,r,c,rfl,e⟩) fun J u v z l f L N=>⟨f,J,u,v,z,rfl,L,N⟩
   .rintro c d ⟨i,o,j,k,mg,rfl,g,q⟩;have:=g.2;lia
   .rintro c d ⟨i,r,c,rfl,e⟩;exact aG (h _ _ i e)
end
noncomputable def gR:Array Keyed->Array Keyed->StateT SortSt Sem (Array Keyed):=sortPriv% PySem.Builtin.mergeHi
noncomputable def dh(a b o:Array Keyed)(c d:Nat):Array Keyed:=a.extract 0 c++b.extract 0 d++o.reverse
noncomputable def fh(a b o:Array Keyed)(c d:Nat):Array Keyed:=b.extract 0 d++a.extract 0 c++o.reverse
noncomputable abbrev fL:=Option (Array Keyed)×Nat×Nat×Array Keyed×Nat×Nat×Nat
noncomputable abbrev lr:=Option (Array Keyed)×Nat×Nat×Array Keyed×Nat×Nat
noncomputable abbrev nW:=Option (Array Keyed)×Nat×Nat×Array Keyed×Nat
noncomputable def ls(a b:Array Keyed)(mg ac d:Nat)(c:Nat)(e:Nat)(o:Array Keyed):StateT SortSt Sem (ForInStep fL):=do
 let x <-elem' a (c - 1)
 if c - 1==0 then pure (.done (some (dh a b (o.push x) (c - 1) e),c - 1,e,o.push x,mg,ac,d))
 else if ac<7&&d<7 then pure (.done (none,c - 1,e,o.push x,mg,ac,d)) else pure (.yield (none,c - 1,e,o.push x,mg,ac,d))
noncomputable def lu(a b:Array Keyed)(mg ac e:Nat)(c d:Nat)(o:Array Keyed):StateT SortSt Sem (ForInStep fL):=do
 let y <-elem' b (c - 1)
 if c - 1==1 then pure (.done (some (fh a b (o.push y) d (c - 1)),d,c - 1,o.push y,mg,ac,e))
 else
  let x <-elem' a (d - 1)
  match <-cn true x b 0 (c - 1) (c - 1 - 1) with
  | some p=>
   if c - 1 - p>0 then
    if p==1 then pure (.done (some (fh a b (o.push y++(b.extract p (c - 1)).reverse) d p),d,p,o.push y++(b.extract p (c - 1)).reverse,mg,ac,c - 1 - p))
    else if p==0 then pure (.done (some (dh a b (o.push y++(b.extract p (c - 1)).reverse) d p),d,p,o.push y++(b.extract p (c - 1)).reverse,mg,ac,c - 1 - p))
    else ls a b mg ac (c - 1 - p) d p (o.push y++(b.extract p (c - 1)).reverse)
   else ls a b mg ac (c - 1 - p) d (c - 1) (o.push y)
  | _=>pure (.done (some (dh a b (o.push y) d (c - 1)),d,c - 1,o.push y,mg,ac,e))
noncomputable def lv(a b:Array Keyed)(ac e:Nat)(c d:Nat)(o:Array Keyed)(mg:Nat):StateT SortSt Sem (ForInStep fL):=do
 dk mg
 let y <-elem' b (d - 1)
 match <-cn false y a 0 c (c - 1) with
 | some p=>
  if c - p>0 then
   if p==0 then pure (.done (some (dh a b (o++(a.extract p c).reverse) p d),p,d,o++(a.extract p c).reverse,mg,c - p,e))
   else lu a b mg (c - p) e d p (o++(a.extract p c).reverse)
  else lu a b mg (c - p) e d c o
 | _=>pure (.done (some (dh a b o c d),c,d,o,mg,ac,e))
noncomputable def nX(a b:Array Keyed)(c:fL):StateT SortSt Sem (ForInStep fL):=
 if c.2.2.2.2.1>1 then lv a b c.2.2.2.2.2.1 c.2.2.2.2.2.2 c.2.1 c.2.2.1 c.2.2.2.1 (c.2.2.2.2.1 - 1) else lv a b c.2.2.2.2.2.1 c.2.2.2.2.2.2 c.2.1 c.2.2.1 c.2.2.2.1 c.2.2.2.2.1
noncomputable def nY(a b:Array Keyed)(mg:Nat)(c:lr):StateT SortSt Sem (ForInStep lr):=do
 let y <-elem' b (c.2.2.1 - 1);let x <-elem' a (c.2.1 - 1)
 match <-lt' y x with
 | some d=>
  if d then do
   let x <-elem' a (c.2.1 - 1)
   if c.2.1 - 1==0 then pure (.done (some (dh a b (c.2.2.2.1.push x) (c.2.1 - 1) c.2.2.1),c.2.1 - 1,c.2.2.1,c.2.2.2.1.push x,c.2.2.2.2.1+1,0))
   else if c.2.2.2.2.1+1≥mg then pure (.done (none,c.2.1 - 1,c.2.2.1,c.2.2.2.1.push x,c.2.2.2.2.1+1,0)) else pure (.yield (none,c.2.1 - 1,c.2.2.1,c.2.2.2.1.push x,c.2.2.2.2.1+1,0))
  else do
   let y <-elem' b (c.2.2.1 - 1)
   if c.2.2.1 - 1==1 then pure (.done (some (fh a b (c.2.2.2.1.push y) c.2.1 (c.2.2.1 - 1)),c.2.1,c.2.2.1 - 1,c.2.2.2.1.push y,0,c.2.2.2.2.2+1))
   else if c.2.2.2.2.2+1≥mg then pure (.done (none,c.2.1,c.2.2.1 - 1,c.2.2.2.1.push y,0,c.2.2.2.2.2+1)) else pure (.yield (none,c.2.1,c.2.2.1 - 1,c.2.2.2.1.push y,0,c.2.2.2.2.2+1))
 | _=>pure (.done (some (dh a b c.2.2.2.1 c.2.1 c.2.2.1),c.2.1,c.2.2.1,c.2.2.2.1,c.2.2.2.2.1,c.2.2.2.2.2))
noncomputable def nZ(a b:Array Keyed)(c:nW):StateT SortSt Sem (ForInStep nW):=do
 let d <-forIn [:a.size+b.size] ((none,c.2.1,c.2.2.1,c.2.2.2.1,0,0):lr) fun _ d=>nY a b c.2.2.2.2 d
 match d.1 with
 | some r=>pure (.done (some r,d.2.1,d.2.2.1,d.2.2.2.1,c.2.2.2.2))
 | none=>
  rule "list.sort.gallop"
  let e <-forIn [:a.size+b.size] ((none,d.2.1,d.2.2.1,d.2.2.2.1,c.2.2.2.2+1,d.2.2.2.2.1,d.2.2.2.2.2):fL) fun _ e=>nX a b e
  match e.1 with
  | some r=>pure (.done (some r,e.2.1,e.2.2.1,e.2.2.2.1,e.2.2.2.2.1))
  | none=>
   dk (e.2.2.2.2.1+1)
   pure (.yield (none,e.2.1,e.2.2.1,e.2.2.2.1,e.2.2.2.2.1+1))
theorem Ih(a b:Array Keyed):gR a b=(do
 rule "list.sort.merge-hi"
 let tt:=a.size+b.size;let dn (o:Array Keyed) (na nb:Nat):=a.extract 0 na++b.extract 0 nb++o.reverse;let la (o:Array Keyed) (na nb:Nat):=b.extract 0 nb++a.extract 0 na++o.reverse;let mut na:=a.size - 1;let mut nb:=b.size;let mut o:Array Keyed:=#[<-elem' a na]
 if na==0 then return dn o na nb
 if nb==1 then return la o na nb
 let mut mg:=gallopOf (<-get)
 for _ in [0:tt] do
  let mut ac:=0;let mut bc:=0
  for _ in [0:tt] do
   let some aw <-lt' (<-elem' b (nb - 1)) (<-elem' a (na - 1)) | return dn o na nb
   if aw then
    na:=na - 1;o:=o.push (<-elem' a na);ac:=ac+1;bc:=0
    if na==0 then return dn o na nb
    if ac≥mg then break
   else
    nb:=nb - 1;o:=o.push (<-elem' b nb);bc:=bc+1;ac:=0
    if nb==1 then return la o na nb
    if bc≥mg then break
  rule "list.sort.gallop"
  mg:=mg+1
  for _ in [0:tt] do
   if mg>1 then mg:=mg - 1
   dk mg
   let some p <-cn false (<-elem' b (nb - 1)) a 0 na (na - 1) | return dn o na nb
   let k:=na - p
   ac:=k
   if k>0 then
    o:=o++(a.extract p na).reverse;na:=p
    if na==0 then return dn o na nb
   nb:=nb - 1;o:=o.push (<-elem' b nb)
   if nb==1 then return la o na nb
   let some p <-cn true (<-elem' a (na - 1)) b 0 nb (nb - 1) | return dn o na nb
   let k:=nb - p
   bc:=k
   if k>0 then
    o:=o++(b.extract p nb).reverse;nb:=p
    if nb==1 then return la o na nb
    if nb==0 then return dn o na nb
   na:=na - 1;o:=o.push (<-elem' a na)
   if na==0 then return dn o na nb
   if ac<7&&bc<7 then break
  mg:=mg+1
  dk mg
 unsupported "internal:list.sort.merge-bound"):=rfl
theorem Ii(a b:Array Keyed):gR a b=(do
 rule "list.sort.merge-hi"
 let x <-elem' a (a.size - 1)
 if a.size - 1==0 then return dh a b #[x] (a.size - 1) b.size
 if b.size==1 then return fh a b #[x] (a.size - 1) b.size
 let g <-get;let c <-forIn [:a.size+b.size] ((none,a.size - 1,b.size,#[x],gallopOf g):nW) fun _ c=>nZ a b c
 match c.1 with
 | some r=>pure r
 | none=>unsupported "internal:list.sort.merge-bound"):=by
 rw[Ih];refine bg fun _=>?_;dsimp only;refine bg fun y=>?_;unfold dh fh;refine congrArg _ (congrArg _ (bg fun g=>?_));refine fb (fun _ c=>?_) fun c=>?_
 .unfold nZ;refine fb (fun _ d=>?_) fun d=>?_
  .unfold nY dh fh;refine bg fun _=>bg fun _=>bg fun q=>?_;cases q<;>rfl
  .obtain⟨r,d⟩:=d;cases r with
   | some r=>rfl
   | none=>
    dsimp only;refine bg fun _=>fb (fun _ e=>?_) fun e=>?_
    .unfold nX lv dh;refine eG ?_ ?_ <;>
     .refine bg fun _=>bg fun _=>bg fun q=>?_;cases q with
      | none=>rfl
      | some k=>
       refine eG (eG rfl ?_) ?_ <;>
       .unfold lu ls dh fh;refine bg fun _=>eG rfl (bg fun _=>bg fun q=>?_);cases q<;>rfl
    .obtain⟨r,e⟩:=e;cases r<;>rfl
 .obtain⟨r,c⟩:=c;cases r<;>rfl
def HH(le:Keyed->Keyed->Bool)(a b:Array Keyed)(o:Array Keyed)(c d:Nat):Prop:=List.merge (a.toList.take c) (b.toList.take d) le++o.toList.reverse=List.merge a.toList b.toList le
theorem Ij{α:Type}{l:List α}{i:Nat}{x:α}(h:l[i]? = some x):l.take (i+1)=l.take i++[x]:=by obtain⟨a,h2⟩:=List.getElem?_eq_some_iff.mp h;rw[List.take_succ,List.getElem?_eq_getElem a,h2];rfl
theorem take_take{α:Type}(l:List α){p n:Nat}(h:p<=n):l.take n=l.take p++(l.drop p).take (n - p):=by have:l.take n=(l.take n).take p++(l.take n).drop p:=(List.take_append_drop p (l.take n)).symm;rw[List.take_take,Nat.min_eq_left h,List.drop_take] at this;exact this
theorem jU{l:List Keyed}{n:Nat}{x:Keyed}(h:x∈l.take n):∃j,j<n/\l[j]? = some x:=by have:=lq (l:=l) (i:=0) (k:=n) (x:=x) (by simpa using h);simpa using this
section
variable{le:Keyed->Keyed->Bool}{S:Keyed->Prop}{a b o:Array Keyed}{na nb p:Nat}{x y:Keyed}
theorem HH.ga(M:MH le S a b)(h:HH le a b o na (nb+1))(d:p<=na)(f:b[nb]? = some y)(e:∀(i:Nat),p<=i->i<na->∀x:Keyed,a[i]? = some x->le x y=false):HH le a b (o++(a.extract p na).reverse) p (nb+1):=by
 unfold HH at h ⊢;rw[take_take a.toList d,se _ _ (fun z g x k=>?_)] at h
 .rw[<-h];simp[fo]
 .obtain⟨j,n,q⟩:=lq k;obtain⟨i,s,r⟩:=jU g;have c:=e (p+j) (by lia) (by lia) x (by rw[cb];exact q);have l:=M.sb i nb z y (by lia) (by rw[cb];exact r) f;cases m:le x z with
  | false=>rfl
  | true=>rw[M.tr _ _ _ m l] at c;cases c
theorem HH.gb(M:MH le S a b)(h:HH le a b o (na+1) nb)(c:p<=nb)(d:a[na]? = some x)(e:∀(i:Nat),p<=i->i<nb->∀y:Keyed,b[i]? = some y->le x y=true):HH le a b (o++(b.extract p nb).reverse) (na+1) p:=by
 unfold HH at h ⊢;rw[take_take b.toList c,nM _ _ (fun z f y g=>?_)] at h
 .rw[<-h];simp[fo]
 .obtain⟨j,m,q⟩:=lq g;obtain⟨i,n,r⟩:=jU f;have k:=e (p+j) (by lia) (by lia) y (by rw[cb];exact q);have l:=M.sa i na z x (by lia) (by rw[cb];exact r) d;exact M.tr _ _ _ l k
theorem ws{α:Type}{a:Array α}{i:Nat}{x:α}(h:a[i]? = some x)(o:Array α):o++(a.extract i (i+1)).reverse=o.push x:=by apply Array.toList_inj.mp;rw[cb] at h;simp only[Array.toList_append,Array.toList_reverse,fo,Nat.add_sub_cancel_left,gQ h,Array.toList_push];rfl
theorem HH.pa(M:MH le S a b)(h:HH le a b o (na+1) (nb+1))(c:a[na]? = some x)(f:b[nb]? = some y)(e:le x y=false):HH le a b (o.push x) na (nb+1):=by
 have g:∀(i:Nat),na<=i->i<na+1->∀z,a[i]? = some z->le z y=false:=fun i j k z d=>by
  obtain rfl:i=na:=by lia
  rw[c] at d;cases d;exact e
 have:=h.ga M (p:=na) (by lia) f g
 rwa [ws c] at this
theorem HH.pb(M:MH le S a b)(h:HH le a b o (na+1) (nb+1))(f:a[na]? = some x)(c:b[nb]? = some y)(e:le x y=true):HH le a b (o.push y) (na+1) nb:=by
 have g:∀(i:Nat),nb<=i->i<nb+1->∀z,b[i]? = some z->le x z=true:=fun i j k z d=>by
  obtain rfl:i=nb:=by lia
  rw[c] at d;cases d;exact e
 have:=h.gb M (p:=nb) (by lia) f g
 rwa [ws c] at this
theorem lx{α:Type}(a:Array α)(n:Nat):(a.extract 0 n).toList=a.toList.take n:=by rw[fo];simp
theorem HH.dh(h:HH le a b o 0 nb):(dh a b o 0 nb).toList=List.merge a.toList b.toList le:=by unfold HH at h;unfold TS.dh;rw[<-h];simp only[Array.toList_append,lx,Array.toList_reverse,List.take_zero,List.nil_append,List.nil_merge]
theorem HH.fh(M:MH le S a b)(h:HH le a b o na 1):(fh a b o na 1).toList=List.merge a.toList b.toList le:=by
 unfold HH at h;unfold TS.fh;rw[<-h,rZ (fun y f x g=>?_)]
 .simp only[Array.toList_append,lx,Array.toList_reverse]
 .obtain⟨j,m,q⟩:=jU g;obtain⟨i,n,r⟩:=jU f;obtain rfl:i=0:=by lia
  obtain⟨d,c⟩:=at_ M.a0;have e:=M.first d y c (by rw[cb];exact r)
  have k:=M.sa 0 j d x (by lia) c (by rw[cb];exact q);cases l:le x y with
  | false=>rfl
  | true=>rw[M.tr _ _ _ k l] at e;cases e
end
section
variable{prog:Program}{w:World}{A:Around}{E:Value->Shared->Prop}{s:Shared}{le:Keyed->Keyed->Bool}{κ:SortKind}{S:Keyed->Prop}{a b:Array Keyed}{st0:SortSt}
def Hd(le:Keyed->Keyed->Bool)(a b o:Array Keyed)(c d:Nat):Prop:=HH le a b o c d/\0<c/\c<=a.size/\1<d/\d<=b.size
noncomputable def HR(le:Keyed->Keyed->Bool)(a b:Array Keyed)(m:Nat):ForInStep fL->Prop
 | .done (some r,_)=>r.toList=List.merge a.toList b.toList le
 | .done (none,c,d,o,_)=>Hd le a b o c d/\c+d<=m
 | .yield (none,c,d,o,_)=>Hd le a b o c d/\c+d<=m
 | .yield (some _,_)=>False
variable(M:MH le S a b)
include M
theorem wt{mg ac k:Nat}{o:Array Keyed}{c d m:Nat}{st:SortSt}{x y:Keyed}{Q:ForInStep fL->SortSt->Prop}(h:HH le a b o (c+1) (d+1))(p:c+1<=a.size)(l:0<d)(q:d+1<=b.size)(t:c+1+(d+1)<=m)
  (i:a[c]? = some x) (n:b[d]? = some y) (e:le x y=false) (f:∀r,HR le a b m r->Q r st):wpS (model prog w) A E s (ls a b mg ac k (c+1) (d+1) o) Q st:=by
 unfold ls;simp only[Nat.add_sub_cancel];refine ay (cK i ?_);have h1:=h.pa M i n e
 by_cases j:c=0
 .subst j;rw[if_pos (by rfl)];exact aG (f _ h1.dh)
 .rw[if_neg (by simpa using j)];have g:Hd le a b (o.push x) c (d+1)/\c+(d+1)<=m:=⟨⟨h1,by lia,by lia,by lia,by lia⟩,by lia⟩
  split
  .exact aG (f _ g)
  .exact aG (f _ g)
theorem wu(N:cN prog w A E s le κ S){mg ac O:Nat}{o:Array Keyed}{k d m:Nat}{st:SortSt}{x y:Keyed}{Q:ForInStep fL->SortSt->Prop}(R:kindOf st=κ)(h:HH le a b o (k+1) (d+1))(G:k+1<=a.size)(T:0<d)(hb:d+1<=b.size)(hm:k+1+(d+1)<=m)
  (g:a[k]? = some x) (H:b[d]? = some y) (e:le x y=true) (B:∀r,HR le a b m r->Q r st):wpS (model prog w) A E s (lu a b mg ac O (d+1) (k+1) o) Q st:=by
 unfold lu;simp only[Nat.add_sub_cancel];refine ay (cK H ?_);have h1:=h.pb M g H e
 by_cases I:d=1
 .subst I;rw[if_pos (by rfl)];exact aG (B _ (h1.fh M))
 .rw[if_neg (by simpa using I)];refine ay (cK g (ay (jT N M.tr R (M.Sa _ _ g) M.Sb (by lia) (fun i j u v _ C _=>M.sb i j u v C) (fun p U g1 g2=>?_) (by lia))));simp only[Nat.zero_add] at g1 g2;dsimp only;have h2:=h1.gb M U g fun i X Y z f=>by have:=g2 i X Y z f;simpa[cO] using this
  have h3:∀(i:Nat) (z:Keyed),i<p->b[i]? = some z->le x z=false:=fun i z q f=>by have:=g1 i q z f;simpa[cO] using this
  have Z:0<p:=by
   rcases Nat.eq_zero_or_pos p with q | q
   .subst q;obtain⟨J,l⟩:=at_ M.a0;obtain⟨D,n⟩:=at_ M.b0;have t:=M.first J D l n
    have e3:=g2 0 (aE _) (by lia) D n;have e4:le x D=true:=by simpa[cO] using e3
    have e5:=M.tr _ _ _ (M.sa 0 k J x (by lia) l g) e4;rw[e5] at t;cases t
   .exact q
  obtain⟨q,rfl⟩:∃q,p=q+1:=⟨p - 1,by lia⟩
  obtain⟨z,f⟩:=at_ (c:=b) (i:=q) (by lia)
  by_cases L:d - (q+1)>0
  .rw[if_pos L]
   by_cases t:q+1=1
   .rw[if_pos (by simpa using t)];obtain rfl:q=0:=by lia
    exact aG (B _ (h2.fh M))
   .rw[if_neg (by simpa using t),if_neg (by simp)];exact wt M h2 G (by lia) (by lia) (by lia) g f (h3 q z (by lia) f) B
  .rw[if_neg L];obtain rfl:d=q+1:=by lia
   exact wt M h1 G (by lia) (by lia) (by lia) g f (h3 q z (by lia) f) B
theorem wv(t:cN prog w A E s le κ S){mg ac I:Nat}{o:Array Keyed}{f k m:Nat}{st:SortSt}{Q:ForInStep fL->SortSt->Prop}(J:Sm st0 st)(L:kindOf st0=κ)(h:Hd le a b o f k/\f+k<=m)
  (x:∀r l,Sm st0 l->HR le a b m r->Q r l):wpS (model prog w) A E s (lv a b ac I f k o mg) Q st:=by
 obtain⟨⟨h,N,X,O,D⟩,Y⟩:=h;obtain⟨k,rfl⟩:∃q,k=q+1:=⟨k - 1,by lia⟩
 unfold lv;rw[nP];obtain⟨y,n⟩:=at_ (c:=b) (i:=k) (by lia);refine ay (wpS_modify (ay (cK n ?_)));have d:=J.mg mg;generalize SortSt.mk' (kindOf st) (arrOf st) (pendingOf st) mg (failedOf st)=B at d ⊢;have dF:kindOf B=κ:=d.kind.trans L;refine ay (jT t M.tr dF (M.Sb _ _ n) M.Sa (by lia) (fun i j u v _ C _=>M.sa i j u v C) (fun p R g1 g2=>?_) (by lia));simp only[Nat.zero_add] at g1 g2;dsimp only;have h2:=h.ga M R n fun i T U z e=>by have:=g2 i T U z e;simpa[cO] using this
 have h3:∀(i:Nat) (z:Keyed),i<p->a[i]? = some z->le z y=true:=fun i z q e=>by have:=g1 i q z e;simpa[cO] using this
 by_cases G:f - p>0
 .rw[if_pos G]
  by_cases H:p=0
  .subst H;rw[if_pos (by rfl)];exact aG (x _ _ d h2.dh)
  .rw[if_neg (by simpa using H)];obtain⟨q,rfl⟩:∃q,p=q+1:=⟨p - 1,by lia⟩
   obtain⟨z,e⟩:=at_ (c:=a) (i:=q) (by lia);exact wu M t dF h2 (by lia) (by lia) D (by lia) e n (h3 q z (by lia) e) fun r g=>x r _ d g
 .rw[if_neg G];obtain rfl:f=p:=by lia
  obtain⟨q,rfl⟩:∃q,f=q+1:=⟨f - 1,by lia⟩
  obtain⟨z,e⟩:=at_ (c:=a) (i:=q) (by lia);exact wu M t dF h (by lia) (by lia) D (by lia) e n (h3 q z (by lia) e) fun r g=>x r _ d g
theorem Ik(f:cN prog w A E s le κ S){mg ac k:Nat}{o:Array Keyed}{d e m:Nat}{st:SortSt}{Q:ForInStep fL->SortSt->Prop}(g:Sm st0 st)(i:kindOf st0=κ)(h:Hd le a b o d e/\d+e<=m)
  (j:∀r c,Sm st0 c->HR le a b m r->Q r c):wpS (model prog w) A E s (nX a b (none,d,e,o,mg,ac,k)) Q st:=by
 unfold nX;dsimp only;split
 .exact wv M f g i h j
 .exact wv M f g i h j
noncomputable def ww(le:Keyed->Keyed->Bool)(a b:Array Keyed)(m:Nat):lr->Prop
 | (some r,_)=>r.toList=List.merge a.toList b.toList le
 | (none,c,d,o,_)=>Hd le a b o c d/\c+d<=m
theorem Il(u:cN prog w A E s le κ S){mg ac v:Nat}{o:Array Keyed}{d f m:Nat}{st:SortSt}{Q:ForInStep lr->SortSt->Prop}(z:kindOf st=κ)(h:Hd le a b o d f)(D:d+f<=m+1)
  (hd:∀c,ww le a b m c->Q (.done c) st) (r:∀t g j n p,Hd le a b t g j->g+j<=m->Q (.yield (none,g,j,t,n,p)) st):wpS (model prog w) A E s (nY a b mg (none,d,f,o,ac,v)) Q st:=by
 unfold nY;obtain⟨h,B,G,C,H⟩:=h;obtain⟨f,rfl⟩:∃q,f=q+1:=⟨f - 1,by lia⟩
 obtain⟨d,rfl⟩:∃q,d=q+1:=⟨d - 1,by lia⟩
 simp only[Nat.add_sub_cancel];obtain⟨y,k⟩:=at_ (c:=b) (i:=f) (by lia);obtain⟨x,ex⟩:=at_ (c:=a) (i:=d) (by lia);refine ay (cK k (ay (cK ex (ay (u y x (M.Sb _ _ k) (M.Sa _ _ ex) _ st z ?_)))));dsimp only;cases e:le x y with
 | false=>
  simp only[Bool.not_false,if_true];have h1:=h.pa M ex k e;refine ay (cK ex ?_)
  by_cases l:d=0
  .subst l;rw[if_pos (by rfl)];exact aG (hd _ h1.dh)
  .rw[if_neg (by simpa using l)];split
   .exact aG (hd _ ⟨⟨h1,by lia,by lia,by lia,by lia⟩,by lia⟩)
   .exact aG (r _ _ _ _ _ ⟨h1,by lia,by lia,by lia,by lia⟩ (by lia))
 | true=>
  simp only[Bool.not_true,Bool.false_eq_true,if_false];have h1:=h.pb M ex k e;refine ay (cK k ?_)
  by_cases l:f=1
  .subst l;rw[if_pos (by rfl)];exact aG (hd _ (h1.fh M))
  .rw[if_neg (by simpa using l)];split
   .exact aG (hd _ ⟨⟨h1,by lia,by lia,by lia,by lia⟩,by lia⟩)
   .exact aG (r _ _ _ _ _ ⟨h1,by lia,by lia,by lia,by lia⟩ (by lia))
theorem Im(G:cN prog w A E s le κ S){mg:Nat}{o:Array Keyed}{e f m:Nat}{st:SortSt}{Q:ForInStep nW->SortSt->Prop}(v:Sm st0 st)(H:kindOf st0=κ)(h:Hd le a b o e f)(T:e+f<=m)
  (hd:∀r c d,Sm st0 d->r.toList=List.merge a.toList b.toList le->Q (.done (some r,c)) d) (N:∀u n p y d,Sm st0 d->Hd le a b u n p->n+p+1<=m->Q (.yield (none,n,p,u,y)) d) :
  wpS (model prog w) A E s (nZ a b (none,e,f,o,mg)) Q st:=by
 unfold nZ;dsimp only;have dF:kindOf st=κ:=v.kind.trans H;have b0:=M.b0;have O:1<=m:=by have:=h.2.1;lia
 refine ay (wpS_mono (wpS_forRange (I:=fun x c d=>d = st/\∃o e f ac j,c=(none,e,f,o,ac,j)/\Hd le a b o e f/\e+f+x<=m)
  (Q:=fun c d=>d = st/\ww le a b (m - 1) c) ?_ ?_ ⟨rfl,o,e,f,0,0,rfl,h,by lia⟩) ?_)
 .rintro x c d _ R ⟨rfl,o,e,f,ac,j,rfl,g,q⟩;have U:=g.2;refine Il M G (m:=m - x - 1) dF g (by lia) (fun c k=>⟨rfl,?_⟩) (fun u z B C D J X=>⟨rfl,u,z,B,C,D,rfl,J,by have:=J.2;lia⟩);obtain⟨_ | r,c⟩:=c
  .exact⟨k.1,by have:=k.2;lia⟩
  .exact k
 .rintro c d ⟨rfl,o,e,f,ac,j,rfl,g,q⟩;exact⟨rfl,g,by lia⟩
 .rintro⟨_ | r,c⟩ d ⟨rfl,k⟩
  .obtain⟨e,f,o,ac,j⟩:=c;dsimp only;refine ay (wpS_lift (wpAny_rule ⟨rfl,?_⟩));refine ay (wpS_mono (wpS_forRange (I:=fun _ c d=>Sm st0 d/\∃o e f mg ac j,c=(none,e,f,o,mg,ac,j)/\Hd le a b o e f/\e+f<=m - 1)
    (Q:=fun c d=>Sm st0 d/\HR le a b (m - 1) (.done c)) ?_ ?_ ⟨v,o,e,f,_,ac,j,rfl,k⟩) ?_)
   .rintro x c d _ R ⟨i,o,e,f,mg,ac,j,rfl,g⟩;refine Ik M G i H g fun r L l t=>?_
    match r,t with
    | .done c,t=>exact⟨l,t⟩
    | .yield (none,e,f,o,mg,ac,j),t=>exact⟨l,o,e,f,mg,ac,j,rfl,t⟩
    | .yield (some _,_),t=>exact t.elim
   .rintro c d ⟨i,o,e,f,mg,ac,j,rfl,g⟩;exact⟨i,g⟩
   .rintro⟨_ | r,c⟩ d ⟨i,k⟩
    .obtain⟨e,f,o,mg,ac,j⟩:=c;dsimp only;rw[nP];exact ay (wpS_modify (aG (N _ _ _ _ _ (i.mg _) k.1 (by have:=k.2;lia))))
    .exact aG (hd _ _ _ i k)
  .exact aG (hd _ _ _ v k)
theorem Io(N:cN prog w A E s le κ S){Q:Array Keyed->SortSt->Prop}(O:kindOf st0=κ)(h:∀r d,Sm st0 d->r.toList=List.merge a.toList b.toList le->Q r d):wpS (model prog w) A E s (gR a b) Q st0:=by
 rw[Ii];refine ay (wpS_lift (wpAny_rule ⟨rfl,?_⟩));have b0:=M.b0;have a0:=M.a0;obtain⟨k,v⟩:∃k,a.size=k+1:=⟨a.size - 1,by lia⟩
 obtain⟨l,z⟩:∃l,b.size=l+1:=⟨b.size - 1,by lia⟩
 obtain⟨x,u⟩:=at_ (c:=a) (i:=k) (by lia);obtain⟨y,B⟩:=at_ (c:=b) (i:=l) (by lia);rw[v,z];simp only[Nat.add_sub_cancel];refine ay (cK u ?_);have R:HH le a b #[] (k+1) (l+1):=by unfold HH;rw[List.take_of_length_le (by simp;lia),List.take_of_length_le (by simp;lia)];simp
 have C:HH le a b #[x] k (l+1):=R.pa M u B (M.last k x y (by lia) u (by rw[cb] at B;exact List.mem_of_getElem? B))
 by_cases J:k=0
 .subst J;rw[if_pos (by rfl)];exact aG (h _ _ .refl C.dh)
 .rw[if_neg (by simpa using J)]
  by_cases L:l=0
  .subst L;rw[if_pos (by rfl)];exact aG (h _ _ .refl (C.fh M))
  .rw[if_neg (by simpa using L)];refine ay (wpS_get ?_);refine ay (wpS_mono (wpS_forRange (I:=fun x c d=>Sm st0 d/\∃o n p mg,c=(none,n,p,o,mg)/\Hd le a b o n p/\n+p+x+1<=a.size+b.size)
    (Q:=fun c d=>Sm st0 d/\∃r T,c=(some r,T)/\r.toList=List.merge a.toList b.toList le) ?_ ?_ ⟨.refl,#[x],k,l+1,_,rfl,⟨C,by lia,by lia,by lia,by lia⟩,by lia⟩) ?_)
   .rintro x c d _ u ⟨j,o,n,p,mg,rfl,g,q⟩;refine Im M N (m:=a.size+b.size - x - 1) j O g (by lia) (fun r c t f e=>⟨f,r,c,rfl,e⟩) fun U D G H t f X Y=>⟨f,U,D,G,H,rfl,X,by lia⟩
   .rintro c d ⟨j,o,n,p,mg,rfl,g,q⟩;have:=g.2;lia
   .rintro c d ⟨j,r,c,rfl,e⟩;exact aG (h _ _ j e)
end
noncomputable abbrev CA:=Option (Option Nat)×Nat
noncomputable abbrev CD:=Option (Option Nat)×Nat×Nat
noncomputable def ly(lo a b:Nat):StateT SortSt Sem CA:=forIn [a:b] ((none,a):CA) fun _ c=>do
 let q <-ltAt' (lo+c.2) (lo+c.2 - 1)
 match q with
 | some d=>if d=true then pure (.done (none,c.2)) else pure (.yield (none,c.2+1))
 | _=>pure (.done (some none,c.2))
noncomputable def iU(lo n a:Nat):StateT SortSt Sem (Option Nat):=do
 reverseSlice' lo (lo+n)
 let c <-ly lo n a
 match c.1 with
 | some r=>pure r
 | none=>pure (some c.2)
noncomputable def sf(lo n a:Nat):StateT SortSt Sem CD:=forIn [n:a] ((none,n,0):CD) fun _ c=>do
 let q <-ltAt' (lo+c.2.1) (lo+c.2.1 - 1)
 match q with
 | some b=>
  if b=true then
   if c.2.2>0 then do
    reverseSlice' (lo+c.2.1 - (c.2.2+1)) (lo+c.2.1)
    pure (.yield (none,c.2.1+1,0))
   else pure (.yield (none,c.2.1+1,0))
  else do
   let q <-ltAt' (lo+c.2.1 - 1) (lo+c.2.1)
   match q with
   | some d=>if d=true then pure (.done (none,c.2.1,c.2.2)) else pure (.yield (none,c.2.1+1,c.2.2+1))
   | _=>pure (.done (some none,c.2.1,c.2.2))
 | _=>pure (.done (some none,c.2.1,c.2.2))
noncomputable def jV(lo n a:Nat):StateT SortSt Sem (Option Nat):=do
 liftM (rule "list.sort.descending-run")
 let c <-sf lo (n+1) a
 match c.1 with
 | some r=>pure r
 | none=>
  if c.2.2>0 then do
   reverseSlice' (lo+c.2.1 - (c.2.2+1)) (lo+c.2.1)
   iU lo c.2.1 a
  else iU lo c.2.1 a
theorem Ip(lo a:Nat):countRun' lo a=(do
  let c <-ly lo 1 a
  match c.1 with
  | some r=>pure r
  | none=>
   if (c.2==a)=true then pure (some c.2)
   else if c.2>1 then do
    let q <-ltAt' lo (lo+c.2 - 1)
    match q with
    | some b=>if b=true then pure (some c.2) else do
      reverseSlice' lo (lo+c.2)
      jV lo c.2 a
    | _=>pure none
   else jV lo c.2 a):=by
 rw[countRun'_eq];have hT:∀n:Nat,iU lo n a=(do
   reverseSlice' lo (lo+n)
   let c <-ly lo n a
   match c.1 with
   | some r=>pure r
   | none=>pure (some c.2)):=fun _=>rfl
 refine bg fun c=>?_;obtain⟨_ | r,n⟩:=c
 .dsimp only;refine eG rfl (eG (bg fun q=>?_) ?_)
  .cases q with
   | none=>rfl
   | some b=>
    refine eG rfl (bg fun _=>?_);unfold jV;refine bg fun _=>bg fun d=>?_;obtain⟨_ | r,m,f⟩:=d
    .dsimp only;unfold iU;refine eG (bg fun _=>bg fun _=>bg fun e=>?_) (bg fun _=>bg fun e=>?_)<;>(obtain⟨_ | r,e⟩:=e<;>rfl)
    .rfl
  .unfold jV;refine bg fun _=>bg fun d=>?_;obtain⟨_ | r,m,f⟩:=d
   .dsimp only;unfold iU;refine eG (bg fun _=>bg fun _=>bg fun e=>?_) (bg fun _=>bg fun e=>?_)<;>(obtain⟨_ | r,e⟩:=e<;>rfl)
   .rfl
 .rfl
structure Bs (κ:SortKind) (S:Keyed->Prop) (lo:Nat) (st0 st:SortSt):Prop where
 perm:(arrOf st).Perm (arrOf st0)
 kind:kindOf st=κ
 failed:failedOf st=none
 pend:pendingOf st=pendingOf st0
 keep:∀k,k<lo->(arrOf st)[k]? = (arrOf st0)[k]?
 mem:∀x∈(arrOf st0).toList,S x
section
variable{prog:Program}{w:World}{A:Around}{E:Value->Shared->Prop}{s:Shared}{le:Keyed->Keyed->Bool}{κ:SortKind}{S:Keyed->Prop}{lo:Nat}{st0 st:SortSt}
theorem Bs.size(h:Bs κ S lo st0 st):(arrOf st).size=(arrOf st0).size:=h.perm.size_eq
theorem Bs.at(h:Bs κ S lo st0 st){i:Nat}(b:i<(arrOf st0).size):∃x,(arrOf st)[i]? = some x/\S x:=by obtain⟨x,a⟩:=at_ (c:=arrOf st) (i:=i) (by rw[h.size];exact b);refine⟨x,a,h.mem x ((Array.perm_iff_toList_perm.mp h.perm).mem_iff.mp ?_)⟩;rw[cb] at a;exact List.mem_of_getElem? a
theorem Bs.setArr(h:Bs κ S lo st0 st){a:Array Keyed}(b:a.Perm (arrOf st))(c:∀k,k<lo->a[k]? = (arrOf st)[k]?):Bs κ S lo st0 (setArr st a):=
 ⟨b.trans h.perm,h.kind,h.failed,h.pend,fun k q=>(c k q).trans (h.keep k q),h.mem⟩
theorem lA(d:cN prog w A E s le κ S)(a:Bs κ S lo st0 st){i j:Nat}{Q:Option Bool->SortSt->Prop}(e:i<(arrOf st0).size)(f:j<(arrOf st0).size)
  (h:∀x y,(arrOf st)[i]? = some x->(arrOf st)[j]? = some y->Q (some (!le y x)) st):wpS (model prog w) A E s (ltAt' i j) Q st:=by
 obtain⟨x,b,g⟩:=a.at e;obtain⟨y,c,k⟩:=a.at f;rw[ltAt'_eq];refine ay (wpS_get ?_);exact ay (cK b (ay (cK c (d x y g k Q st a.kind (h x y b c)))))
theorem oa{i j:Nat}{Q:Unit->SortSt->Prop}(h:Q () (setArr st (mirror (arrOf st) i j ((j - i) / 2)))):wpS (model prog w) A E s (reverseSlice' i j) Q st:=by rw[reverseSlice'_eq];exact wpS_modify h
def fq(le:Keyed->Keyed->Bool)(a:Array Keyed)(lo n:Nat):Prop:=∀(i j:Nat) (x y:Keyed),i<=j->j<n->a[lo+i]? = some x->a[lo+j]? = some y->le x y=true
def gj(le:Keyed->Keyed->Bool)(a:Array Keyed)(lo n:Nat):Prop:=∀(i j:Nat) (x y:Keyed),i<=j->j<n->a[lo+i]? = some x->a[lo+j]? = some y->le y x=true
theorem og{a:Array Keyed}{i j k:Nat}(b:j<=a.size)(c:k<i):(mirror a i j ((j - i) / 2))[k]? = a[k]?:=by rw[getElem?_mirror_all b,if_neg (by lia)]
theorem more{R:Keyed->Keyed->Prop}(o:∀x y z,R x y->R y z->R x z)(k:∀x,R x x){a:Array Keyed}{lo n:Nat}(r:0<n)
  (h:∀(i j:Nat) (x y:Keyed),i<=j->j<n->a[lo+i]? = some x->a[lo+j]? = some y->R x y) (p:∀x y,a[lo+(n - 1)]? = some x->a[lo+n]? = some y->R x y) :
  ∀(i j:Nat) (x y:Keyed),i<=j->j<n+1->a[lo+i]? = some x->a[lo+j]? = some y->R x y:=fun i j x y d t e b=>by
 by_cases f:j<n
 .exact h i j x y d f e b
 .obtain rfl:j=n:=by lia
  by_cases l:i=j
  .subst l;rw[e] at b;cases b;exact k x
  .have m:lo+j<a.size:=by
    rcases Nat.lt_or_ge (lo+j) a.size with q | q
    .exact q
    .rw[Array.getElem?_eq_none q] at b;cases b
   obtain⟨z,g⟩:=at_ (c:=a) (i:=lo+(j - 1)) (by lia);exact o _ _ _ (h i (j - 1) x z (by lia) (by lia) e g) (p z y g b)
variable(hL:cN prog w A E s le κ S)(tr:∀x y z,le x y=true->le y z=true->le x z=true)(tt:∀x y,(le x y||le y x)=true)
include tt in
theorem fM(x:Keyed):le x x=true:=by simpa using tt x x
include tt in
theorem oh{x y:Keyed}(h:le x y=false):le y x=true:=by have:=tt x y;rw[h] at this;simpa using this
include hL tr tt
theorem wx{a d:Nat}{Q:CA->SortSt->Prop}(z:lo+d<=(arrOf st0).size)(B:1<=a)(j:a<=d)(o:Bs κ S lo st0 st)(r:fq le (arrOf st) lo a)
  (h:∀n,a<=n->n<=d->fq le (arrOf st) lo n->(n=d\/∀x y,(arrOf st)[lo+(n - 1)]? = some x->(arrOf st)[lo+n]? = some y->le x y=false)->Q (none,n) st) :
  wpS (model prog w) A E s (ly lo a d) Q st:=by
 unfold ly;refine wpS_forRange (I:=fun x c f=>f = st/\c=(none,x)/\fq le (arrOf st) lo x) ?_ ?_ ⟨rfl,rfl,r⟩
 .rintro x c f k t ⟨rfl,rfl,b⟩;dsimp only;refine ay (lA hL o (by lia) (by lia) fun u v i g=>?_);rw[show lo+x - 1=lo+(x - 1) by lia] at g;cases e:le v u with
  | false=>simp only[Bool.not_false,if_true];exact aG (h x k (by lia) b (.inr fun p q l m=>by rw[l] at g;rw[m] at i;cases g;cases i;exact e))
  | true=>simp only[Bool.not_true,Bool.false_eq_true,if_false];exact aG ⟨rfl,rfl,more tr (fM tt) (by lia) b fun p q l m=>by rw[l] at g;rw[m] at i;cases g;cases i;exact e⟩
 .rintro c f ⟨rfl,rfl,b⟩;rw[show max a d=d by lia] at b ⊢;exact h d j (aE _) b (.inl rfl)
theorem wy{n f:Nat}{Q:Option Nat->SortSt->Prop}(q:lo+f<=(arrOf st0).size)(C:1<=n)(g:n<=f)(p:Bs κ S lo st0 st)(r:gj le (arrOf st) lo n)
  (h:∀m a,Bs κ S lo st0 a->1<=m->m<=f->fq le (arrOf a) lo m->Q (some m) a):wpS (model prog w) A E s (iU lo n f) Q st:=by
 unfold iU;have d:lo+n<=(arrOf st).size:=by rw[p.size];lia
 refine ay (oa ?_);have e:=p.setArr (mirror_perm (arrOf st) lo (lo+n) ((lo+n - lo) / 2)) fun k t=>og d t;refine ay (wx hL tr tt q C g e (fun i j x y u D v z=>?_) fun m B l o _=>aG (h m _ e (by lia) l o));have b:(mirror (arrOf st) lo (lo+n) ((lo+n - lo) / 2))[lo+i]? = some x:=v;have c:(mirror (arrOf st) lo (lo+n) ((lo+n - lo) / 2))[lo+j]? = some y:=z;rw[getElem?_mirror_all d,if_pos (by lia)] at b c;rw[show lo+(lo+n) - 1 - (lo+i)=lo+(n - 1 - i) by lia] at b;rw[show lo+(lo+n) - 1 - (lo+j)=lo+(n - 1 - j) by lia] at c;exact r (n - 1 - j) (n - 1 - i) y x (by lia) (by lia) c b
def oi(le:Keyed->Keyed->Bool)(a:Array Keyed)(lo m q:Nat):Prop:=∀(i j:Nat) (x y:Keyed),m - (q+1)<=i->i<m->m - (q+1)<=j->j<m->a[lo+i]? = some x->a[lo+j]? = some y->le x y=true
omit hL tr tt in
theorem gj.mir{c:Array Keyed}{m q:Nat}(l:q+1<=m)(d:lo+m<=c.size)(f:gj le c lo m)(g:oi le c lo m q):gj le (mirror c (lo+m - (q+1)) (lo+m) ((lo+m - (lo+m - (q+1))) / 2)) lo m:=fun i j x y e h b a=>by
 rw[getElem?_mirror_all d] at b a
 by_cases n:m - (q+1)<=i
 .rw[if_pos (by lia)] at b;rw[if_pos (by lia)] at a;rw[show lo+m - (q+1)+(lo+m) - 1 - (lo+i)=lo+(m - (q+1)+m - 1 - i) by lia] at b;rw[show lo+m - (q+1)+(lo+m) - 1 - (lo+j)=lo+(m - (q+1)+m - 1 - j) by lia] at a;exact g _ _ y x (by lia) (by lia) (by lia) (by lia) a b
 .rw[if_neg (by lia)] at b
  by_cases k:m - (q+1)<=j
  .rw[if_pos (by lia)] at a;rw[show lo+m - (q+1)+(lo+m) - 1 - (lo+j)=lo+(m - (q+1)+m - 1 - j) by lia] at a;exact f i _ x y (by lia) (by lia) b a
  .rw[if_neg (by lia)] at a;exact f i j x y e h b a
theorem Iq{n z:Nat}{Q:CD->SortSt->Prop}(hn:lo+z<=(arrOf st0).size)(J:1<=n)(Z:n<=z)(hB:Bs κ S lo st0 st)(hs:gj le (arrOf st) lo n)
  (h:∀m q d,Bs κ S lo st0 d->n<=m->m<=z->gj le (arrOf d) lo m->q+1<=m->oi le (arrOf d) lo m q->Q (none,m,q) d):wpS (model prog w) A E s (sf lo n z) Q st:=by
 unfold sf;have one:∀(o:Array Keyed) (m:Nat),oi le o lo m 0:=fun o m i j x y a1 a2 a3 a4 hx B=>by
  obtain rfl:i=j:=by lia
  rw[hx] at B;cases B;exact fM tt x
 refine wpS_forRange (I:=fun x c d=>∃q,c=(none,x,q)/\Bs κ S lo st0 d/\gj le (arrOf d) lo x/\q+1<=x/\oi le (arrOf d) lo x q) ?_ ?_ ⟨0,rfl,hB,hs,by lia,one _ _⟩
 .rintro x c d a0 a5 ⟨q,rfl,f,g,L,t⟩;dsimp only;have C:lo+x<=(arrOf d).size:=by rw[f.size];lia
  refine ay (lA hL f (by lia) (by lia) fun u v M D=>?_);rw[show lo+x - 1=lo+(x - 1) by lia] at D;cases e:le v u with
  | false=>
   simp only[Bool.not_false,if_true];have N:∀o:Array Keyed,gj le o lo x->(∀y,o[lo+(x - 1)]? = some y->le u y=true)->o[lo+x]? = some u->gj le o lo (x+1):=fun o hd J Y=>more (R:=fun a b=>le b a=true) (fun a b c J Y=>tr _ _ _ Y J) (fM tt) (by lia) hd fun p r l G=>by rw[Y] at G;cases G;exact J p l
   have O:le u v=true:=oh tt e
   by_cases T:q>0
   .rw[if_pos T];refine ay (oa (aG ⟨0,rfl,f.setArr (mirror_perm _ _ _ _) fun k hk=>og (by lia) (by lia),?_,by lia,one _ _⟩));refine N _ (g.mir L C t) (fun y B=>?_) ?_
    .have U:(mirror (arrOf d) (lo+x - (q+1)) (lo+x) ((lo+x - (lo+x - (q+1))) / 2))[lo+(x - 1)]? = some y:=B;rw[getElem?_mirror_all C,if_pos (by lia),show lo+x - (q+1)+(lo+x) - 1 - (lo+(x - 1))=lo+(x - (q+1)) by lia] at U;exact tr _ _ _ O (t (x - 1) (x - (q+1)) v y (by lia) (by lia) (by lia) (by lia) D U)
    .show(mirror (arrOf d) (lo+x - (q+1)) (lo+x) ((lo+x - (lo+x - (q+1))) / 2))[lo+x]? = some u;rw[getElem?_mirror_all C,if_neg (by lia)];exact M
   .rw[if_neg T];exact aG ⟨0,rfl,f,N _ g (fun y B=>by rw[D] at B;cases B;exact O) M,by lia,one _ _⟩
  | true=>
   simp only[Bool.not_true,Bool.false_eq_true,if_false];refine ay (lA hL f (by lia) (by lia) fun v' u' H X=>?_);rw[show lo+x - 1=lo+(x - 1) by lia] at H;rw[D] at H;cases H;rw[M] at X;cases X;cases e2:le u v with
   | false=>simp only[Bool.not_false,if_true];exact aG (h x q d f a0 (by lia) g L t)
   | true=>
    simp only[Bool.not_true,Bool.false_eq_true,if_false];refine aG ⟨q+1,rfl,f,more (R:=fun a b=>le b a=true) (fun a b c J Y=>tr _ _ _ Y J) (fM tt) (by lia) g (fun p r l G=>by rw[D] at l;rw[M] at G;cases l;cases G;exact e2),by lia,fun i j p r a1 a2 a3 a4 l G=>?_⟩;have hl:∀(i:Nat) (p:Keyed),x+1 - (q+1+1)<=i->i<x+1->(arrOf d)[lo+i]? = some p->le p v=true/\le v p=true:=fun i p b1 b2 l=>by
     by_cases hi:i=x
     .subst hi;rw[M] at l;cases l;exact⟨e2,e⟩
     .exact⟨t i (x - 1) p v (by lia) (by lia) (by lia) (by lia) l D,t (x - 1) i v p (by lia) (by lia) (by lia) (by lia) D l⟩
    exact tr _ _ _ (hl i p a1 a2 l).1 (hl j r a3 a4 G).2
 .rintro c d ⟨q,rfl,f,g,L,t⟩;rw[show max n z=z by lia] at g L t ⊢;exact h z q d f Z (aE _) g L t
theorem wz{n g:Nat}{Q:Option Nat->SortSt->Prop}(i:lo+g<=(arrOf st0).size)(j:n+1<=g)(l:Bs κ S lo st0 st)(o:gj le (arrOf st) lo (n+1))
  (h:∀m a,Bs κ S lo st0 a->1<=m->m<=g->fq le (arrOf a) lo m->Q (some m) a):wpS (model prog w) A E s (jV lo n g) Q st:=by
 unfold jV;refine ay (wpS_lift (wpAny_rule ⟨rfl,?_⟩));refine ay (Iq hL tr tt i (by lia) j l o fun m q a b p c d r t=>?_);dsimp only;have e:lo+m<=(arrOf a).size:=by rw[b.size];lia
 by_cases f:q>0
 .rw[if_pos f];exact ay (oa (wy hL tr tt i (by lia) c (b.setArr (mirror_perm _ _ _ _) fun k u=>og e (by lia)) (d.mir r e t) h))
 .rw[if_neg f];exact wy hL tr tt i (by lia) c b d h
theorem Ir{B:Nat}{Q:Option Nat->SortSt->Prop}(O:lo+B<=(arrOf st0).size)(M:1<=B)(o:Bs κ S lo st0 st)
  (h:∀m p,Bs κ S lo st0 p->1<=m->m<=B->fq le (arrOf p) lo m->Q (some m) p):wpS (model prog w) A E s (countRun' lo B) Q st:=by
 rw[Ip];refine ay (wx hL tr tt O (aE 1) M o (fun i j x y C D d f=>by
  obtain rfl:i=j:=by lia
  rw[d] at f;cases f;exact fM tt x) fun n G H g T=>?_)
 dsimp only
 by_cases q:n=B
 .rw[if_pos (by simpa using q)];exact aG (h n st o G H g)
 .rw[if_neg (by simpa using q)];have I:=T.resolve_left q
  by_cases J:n>1
  .rw[if_pos J];refine ay (lA hL o (by lia) (by lia) fun u v hu N=>?_);rw[show lo+n - 1=lo+(n - 1) by lia] at N;cases e:le v u with
   | false=>simp only[Bool.not_false,if_true];exact aG (h n st o G H g)
   | true=>
    simp only[Bool.not_true,Bool.false_eq_true,if_false];have r:lo+n<=(arrOf st).size:=by rw[o.size];lia
    have l:∀(i j:Nat) (x y:Keyed),i<n->j<n->(arrOf st)[lo+i]? = some x->(arrOf st)[lo+j]? = some y->le x y=true:=fun i j x y hi D d f=>tr _ _ _ (g i (n - 1) x v (by lia) (by lia) d N) (tr _ _ _ e (g 0 j u y (by lia) D (by simpa using hu) f));refine ay (oa (wz hL tr tt O (by lia) (o.setArr (mirror_perm _ _ _ _) fun k hk=>og r hk) ?_ h));have t:∀(i:Nat) (x:Keyed),i<n->(mirror (arrOf st) lo (lo+n) ((lo+n - lo) / 2))[lo+i]? = some x->∃j,j<n/\(arrOf st)[lo+j]? = some x:=fun i x hi d=>by rw[getElem?_mirror_all r,if_pos (by lia),show lo+(lo+n) - 1 - (lo+i)=lo+(n - 1 - i) by lia] at d;exact⟨_,by lia,d⟩
    refine more (R:=fun a b=>le b a=true) (fun a b c M Z=>tr _ _ _ Z M) (fM tt) (by lia) (fun i j x y C D d f=>?_) fun x y d f=>?_
    .obtain⟨U,z,X⟩:=t i x (by lia) d;obtain⟨j',Y,q2⟩:=t j y D f;exact l j' U y x Y z q2 X
    .obtain⟨U,z,X⟩:=t (n - 1) x (by lia) d;have L:(mirror (arrOf st) lo (lo+n) ((lo+n - lo) / 2))[lo+n]? = some y:=f;rw[getElem?_mirror_all r,if_neg (by lia)] at L;exact tr _ _ _ (oh tt (I v y N L)) (l (n - 1) U v x (by lia) z N X)
  .rw[if_neg J];obtain rfl:n=1:=by lia
   refine wz hL tr tt O (by lia) o ?_ h;refine more (R:=fun a b=>le b a=true) (fun a b c M Z=>tr _ _ _ Z M) (fM tt) (by lia) (fun i j x y C D d f=>?_) fun x y d f=>oh tt (I x y d f);obtain rfl:i=j:=by lia
   rw[d] at f;cases f;exact fM tt x
theorem Iu{n ok:Nat}{Q:Bool->SortSt->Prop}(hn:lo+n<=(arrOf st0).size)(a4:ok<=n)(Y:Bs κ S lo st0 st)(Z:fq le (arrOf st) lo ok)
  (h:∀b,Bs κ S lo st0 b->fq le (arrOf b) lo n->Q true b):wpS (model prog w) A E s (binarySort' lo n ok) Q st:=by
 rw[binarySort'_eq];refine ay (wpS_mono (wpS_forRange (I:=fun k c b=>c=(none,())/\Bs κ S lo st0 b/\fq le (arrOf b) lo (min k n))
  (Q:=fun c b=>c=(none,())/\Bs κ S lo st0 b/\fq le (arrOf b) lo n) ?_ ?_ ?_) ?_)
 .rintro k c b a0 a1 ⟨rfl,f,d⟩;rw[show min k n=k by lia] at d;obtain⟨u,R,su⟩:=f.at (i:=lo+k) (by lia);dsimp only;refine ay (wpS_mono (wpS_forRange (I:=fun x c a=>a = b/\∃l r,c=(none,l,r)/\l<=r/\r<=k/\r - l<=k - x/\
    (∀(i:Nat) (y:Keyed),i<l->(arrOf b)[lo+i]? = some y->le y u=true)/\(∀(i:Nat) (y:Keyed),r<=i->i<k->(arrOf b)[lo+i]? = some y->le y u=false))
   (Q:=fun c a=>a = b/\∃l r,c=(none,l,r)/\l<=k/\
    (∀(i:Nat) (y:Keyed),i<l->(arrOf b)[lo+i]? = some y->le y u=true)/\(∀(i:Nat) (y:Keyed),l<=i->i<k->(arrOf b)[lo+i]? = some y->le y u=false)) ?_ ?_ ?_) ?_)
  .rintro x c a _ a2 ⟨rfl,l,r,rfl,M,p,hm,g,m⟩;dsimp only
   by_cases t:l≥r
   .rw[if_pos t];obtain rfl:l=r:=by lia
    exact aG ⟨rfl,l,l,rfl,p,g,m⟩
   .rw[if_neg t];refine ay (lA hL f (by lia) (by lia) fun u' v z T=>?_);rw[R] at z;cases z;cases e:le v u with
    | false=>
     simp only[Bool.not_false,if_true];refine aG ⟨rfl,l,(l+r) / 2,rfl,by lia,by lia,by lia,g,fun i y L X o=>?_⟩;cases H:le y u with
     | false=>rfl
     | true=>rw[tr _ _ _ (d _ _ v y L X T o) H] at e;cases e
    | true=>simp only[Bool.not_true,Bool.false_eq_true,if_false];exact aG ⟨rfl,(l+r) / 2+1,r,rfl,by lia,by lia,by lia,fun i y L o=>tr _ _ _ (d i ((l+r) / 2) y v (by lia) (by lia) o T) e,m⟩
  .rintro c a ⟨rfl,l,r,rfl,M,p,hm,g,m⟩;obtain rfl:l=r:=by lia
   exact⟨rfl,l,l,rfl,p,g,m⟩
  .exact⟨rfl,0,k,rfl,by lia,by lia,by lia,fun i y hi=>by lia,fun i y L X=>by lia⟩
  .rintro c a ⟨rfl,l,r,rfl,a3,g,m⟩;show wpS _ _ _ _ (do moveDown' (lo+k) (lo+l);pure (ForInStep.yield (none,()))) _ _;rw[moveDown'_eq];have N:lo+k<(arrOf a).size:=by rw[f.size];lia
   have gb:=fun j=>getElem?_bubble (xs:=arrOf a) N (lo+k - (lo+l)) (by lia) j;refine ay (wpS_modify (aG ⟨rfl,f.setArr (bubble_perm _ _ _) (fun j U=>by rw[gb,if_neg (by lia),if_neg (by lia)]),?_⟩));rw[show min (k+1) n=k+1 by lia];intro i j x y q U J o;have B:(bubble (arrOf a) (lo+k) (lo+k - (lo+l)))[lo+i]? = some x:=J;have C:(bubble (arrOf a) (lo+k) (lo+k - (lo+l)))[lo+j]? = some y:=o;rw[gb] at B C;have cs:∀(i:Nat) (x:Keyed),i<k+1->(if lo+i=lo+k - (lo+k - (lo+l)) then(arrOf a)[lo+k]? else if lo+k - (lo+k - (lo+l))<lo+i/\lo+i<=lo+k then(arrOf a)[lo+i - 1]? else(arrOf a)[lo+i]?)=some x->
     (i=l/\x=u)\/(l<i/\(arrOf a)[lo+(i - 1)]? = some x)\/(i<l/\(arrOf a)[lo+i]? = some x):=fun i x hi h=>by
    split at h
    .rw[R] at h;cases h;exact .inl ⟨by lia,rfl⟩
    .split at h
     .rw[show lo+i - 1=lo+(i - 1) by lia] at h;exact .inr (.inl ⟨by lia,h⟩)
     .exact .inr (.inr ⟨by lia,h⟩)
   rcases cs i x (by lia) B with⟨O,rfl⟩ | ⟨O,D⟩ | ⟨O,D⟩<;>rcases cs j y (by lia) C with⟨H,rfl⟩ | ⟨H,G⟩ | ⟨H,G⟩
   .exact fM tt _
   .exact oh tt (m (j - 1) y (by lia) (by lia) G)
   .omega
   .omega
   .exact d (i - 1) (j - 1) x y (by lia) (by lia) D G
   .omega
   .exact g i x O D
   .exact d i (j - 1) x y (by lia) (by lia) D G
   .exact d i j x y q (by lia) D G
 .rintro c b ⟨hc,f,d⟩;refine⟨hc,f,?_⟩
  rwa [show min (max (max ok 1) n) n=n by lia] at d
 .refine⟨rfl,Y,fun i j x y q U J o=>?_⟩
  by_cases L:ok=0
  .obtain rfl:i=j:=by lia
   rw[J] at o;cases o;exact fM tt x
  .exact Z i j x y q (by lia) J o
 .rintro c b ⟨rfl,f,d⟩;exact aG (h b f d)
end
theorem wA(c:Nat):∀(m:List Keyed) (t:Nat) (arr:Array Keyed),c+t+m.length<=arr.size->((m.zipIdx t).foldl (fun(a:Array Keyed) (q:Keyed×Nat)=>a.setIfInBounds (c+q.2) q.1) arr).toList=arr.toList.take (c+t)++(m++arr.toList.drop (c+t+m.length))
 | [],t,arr,h=>by simp
 | x::m,t,arr,h=>by
  rw[List.zipIdx_cons,List.foldl_cons,wA c m (t+1) _ (by rw[Array.size_setIfInBounds];simp at h;lia)];simp only[Array.toList_setIfInBounds];have b:c+t<arr.toList.length:=by simp at h ⊢;lia
  rw[show c+(t+1)=c+t+1 by lia,Ij (l:=arr.toList.set (c+t) x) (x:=x) (by rw[List.getElem?_set_self b]),List.take_set_of_le (aE _),List.drop_set_of_lt (by lia)];rw[show c+t+(x::m).length=c+t+1+m.length by simp;lia];simp
theorem Iw(i:Nat):mergeAt' i=(do
 let t <-get
 let(some (sa,na,pw),some (sb,nb,_)):=((pendingOf t)[i]?,(pendingOf t)[i+1]?) | unsupported "internal:list.sort.pending"
 set (setPending t (((pendingOf t).setIfInBounds i (sa,na+nb,pw)).eraseIdxIfInBounds (i+1)))
 let some k <-cn false (<-elem' (arrOf t) sb) (arrOf t) sa na 0 | return false
 let(sa,na):=(sa+k,na - k)
 if na==0 then return true
 let some nb <-cn true (<-elem' (arrOf t) (sa+na - 1)) (arrOf t) sb nb (nb - 1) | return false
 if nb==0 then return true
 let x:=(arrOf t).extract sa sb;let y:=(arrOf t).extract sb (sb+nb);let r <-if na<=nb then gP x y else gR x y
 modify fun u=>setArr u (r.toList.zipIdx.foldl (fun a (p,j)=>a.setIfInBounds (sa+j) p) (arrOf u))
 return (failedOf (<-get)).isNone):=rfl
theorem Ix{b:Program}{w:World}{A:Around}{E:Value->Shared->Prop}{s:Shared}{st a:SortSt}{Q:PUnit->SortSt->Prop}(h:Q ⟨⟩ a):wpS (model b w) A E s (set a:StateT SortSt Sem PUnit) Q st:=by unfold wpS;have e:(set a:StateT SortSt Sem PUnit).run st=pure (⟨⟩,a):=rfl;rw[e];exact ai ⟨rfl,h⟩
theorem lB{le:Keyed->Keyed->Bool}(a:∀x,le x x=true){l:List Keyed}(h:l.Pairwise (fun x y=>le x y=true)){i j:Nat}{x y:Keyed}(b:i<=j)(c:l[i]? = some x)(d:l[j]? = some y):le x y=true:=by
 obtain⟨e,rfl⟩:=List.getElem?_eq_some_iff.mp c;obtain⟨f,rfl⟩:=List.getElem?_eq_some_iff.mp d;rcases Nat.lt_or_ge i j with q | q
 .exact List.pairwise_iff_getElem.mp h i j e f q
 .obtain rfl:i=j:=by lia
  exact a _
section
variable{prog:Program}{w:World}{A:Around}{E:Value->Shared->Prop}{s:Shared}{le:Keyed->Keyed->Bool}{κ:SortKind}{S:Keyed->Prop}{st:SortSt}
variable(hL:cN prog w A E s le κ S)(tr:∀x y z,le x y=true->le y z=true->le x z=true)(tt:∀x y,(le x y||le y x)=true)
include hL tr tt
theorem Iy{Q:Bool->SortSt->Prop}{i pw pv:Nat}{L b d R:List Keyed}(hk:kindOf st=κ)(hf:failedOf st=none)(hS:∀x∈(arrOf st).toList,S x)
  (h1:(pendingOf st)[i]? = some (L.length,b.length,pw)) (h2:(pendingOf st)[i+1]? = some (L.length+b.length,d.length,pv)) (G:(arrOf st).toList=L++(b++(d++R)))
  (a0:0<b.length) (b0:0<d.length) (sa:b.Pairwise fun x y=>le x y=true) (sb:d.Pairwise fun x y=>le x y=true)
  (h:∀n,kindOf n = κ->failedOf n = none->pendingOf n = ((pendingOf st).setIfInBounds i (L.length,b.length+d.length,pw)).eraseIdxIfInBounds (i+1)->(arrOf n).toList=L++(List.merge b d le++R)->Q true n) :
  wpS (model prog w) A E s (mergeAt' i) Q st:=by
 rw[Iw];refine ay (wpS_get ?_);rw[h1,h2];dsimp only;have Y:=fM (le:=le) tt;have o:∀j,j<b.length->(arrOf st)[L.length+j]? = b[j]?:=fun j p=>by rw[cb,G,List.getElem?_append_right (by lia),Nat.add_sub_cancel_left,List.getElem?_append_left p]
 have z:∀j,j<d.length->(arrOf st)[L.length+b.length+j]? = d[j]?:=fun j p=>by rw[cb,G,List.getElem?_append_right (by lia),List.getElem?_append_right (by lia),show L.length+b.length+j - L.length - b.length=j by lia,List.getElem?_append_left p]
 have X:∀(j:Nat) (x:Keyed),(arrOf st)[j]? = some x->S x:=fun j x c=>hS x (by rw[cb] at c;exact List.mem_of_getElem? c);have sz:(arrOf st).size=L.length+(b.length+(d.length+R.length)):=by rw[<-Array.length_toList,G];simp
 generalize C:setPending st (((pendingOf st).setIfInBounds i (L.length,b.length+d.length,pw)).eraseIdxIfInBounds (i+1))=m;have J:kindOf m=κ:=by rw[<-C];exact hk
 have f1:failedOf m=none:=by rw[<-C];exact hf
 have p1:pendingOf m=((pendingOf st).setIfInBounds i (L.length,b.length+d.length,pw)).eraseIdxIfInBounds (i+1):=by rw[<-C]
 have N:arrOf m=arrOf st:=by rw[<-C]
 refine ay (Ix ?_);obtain⟨y0,a4,eB⟩:∃y t,d=y::t:=by cases d with
  | nil=>simp at b0
  | cons y t=>exact⟨y,t,rfl⟩
 have Z:(arrOf st)[L.length+b.length]? = some y0:=by have:=z 0 b0;rw[eB] at this;simpa using this
 refine ay (cK Z (ay (jT hL tr J (X _ _ Z) X (by lia) (fun i j x y H O q3 c g=>?_) (fun k iQ g1 g2=>?_) a0)))
 .obtain⟨i',rfl⟩:∃i',i=L.length+i':=⟨i - L.length,by lia⟩
  obtain⟨j',rfl⟩:∃j',j=L.length+j':=⟨j - L.length,by lia⟩
  rw[o _ (by lia)] at c g;exact lB Y sa (by lia) c g
 have eA:b.take k++b.drop k=b:=List.take_append_drop k b;have fr:List.merge b d le=b.take k++List.merge (b.drop k) d le:=by
  rw[eB]
  conv=>lhs;rw[<-eA]
  refine nL fun x c=>?_;obtain⟨j,p,q⟩:=jU c;have:=g1 j p x (by rw[o j (by lia)];exact q);simpa[cO] using this
 dsimp only
 by_cases e1:b.length - k=0
 .rw[if_pos (by simpa using e1)];refine aG (h m J f1 p1 ?_);rw[N,G,fr,List.drop_eq_nil_of_le (by lia),List.take_of_length_le (by lia),List.nil_merge,List.append_assoc]
 rw[if_neg (by simpa using e1)];obtain⟨x1,T⟩:∃x,b[b.length - 1]? = some x:=⟨_,List.getElem?_eq_getElem (by lia)⟩
 have a1:(arrOf st)[L.length+k+(b.length - k) - 1]? = some x1:=by rw[show L.length+k+(b.length - k) - 1=L.length+(b.length - 1) by lia,o _ (by lia)];exact T
 refine ay (cK a1 (ay (jT hL tr J (X _ _ a1) X (by lia) (fun i j x y H O q3 c g=>?_) (fun e a5 g3 g4=>?_) (by lia))))
 .obtain⟨i',rfl⟩:∃i',i=L.length+b.length+i':=⟨i - (L.length+b.length),by lia⟩
  obtain⟨j',rfl⟩:∃j',j=L.length+b.length+j':=⟨j - (L.length+b.length),by lia⟩
  rw[z _ (by lia)] at c g;exact lB Y sb (by lia) c g
 have eC:d.take e++d.drop e=d:=List.take_append_drop e d;have bk:List.merge (b.drop k) d le=List.merge (b.drop k) (d.take e) le++d.drop e:=by
  conv=>lhs;rw[<-eC]
  refine nM _ _ fun x c y g=>?_;obtain⟨j,p⟩:=List.getElem?_of_mem c;rw[List.getElem?_drop] at p;obtain⟨l,hl⟩:=List.getElem?_of_mem g;rw[List.getElem?_drop] at hl;have a2:e+l<d.length:=(List.getElem?_eq_some_iff.mp hl).1;have a6:k+j<b.length:=(List.getElem?_eq_some_iff.mp p).1;have H:=lB Y sa (i:=k+j) (j:=b.length - 1) (by lia) p T;have O:=g4 (e+l) (by lia) a2 y (by rw[z _ a2];exact hl);exact tr _ _ _ H (by simpa[cO] using O)
 dsimp only
 by_cases e2:e=0
 .rw[if_pos (by simpa using e2)];refine aG (h m J f1 p1 ?_);subst e2;rw[N,G,fr,bk];simp only[List.take_zero,List.drop_zero,List.merge_right];rw[<-List.append_assoc (b.take k),eA,List.append_assoc]
 rw[if_neg (by simpa using e2)];have tX:((arrOf st).extract (L.length+k) (L.length+b.length)).toList=b.drop k:=by rw[fo,G,<-List.drop_drop,List.drop_left,List.drop_append_of_le_length (by lia),show L.length+b.length - (L.length+k)=(b.drop k).length by simp;lia,List.take_left]
 have tY:((arrOf st).extract (L.length+b.length) (L.length+b.length+e)).toList=d.take e:=by rw[fo,G,<-List.drop_drop,List.drop_left,List.drop_left,Nat.add_sub_cancel_left,List.take_append_of_le_length (by lia)]
 have lX:((arrOf st).extract (L.length+k) (L.length+b.length)).size=b.length - k:=by rw[<-Array.length_toList,tX];simp
 have lY:((arrOf st).extract (L.length+b.length) (L.length+b.length+e)).size=e:=by rw[<-Array.length_toList,tY];simp;lia
 have B:∀(j:Nat) (x:Keyed),((arrOf st).extract (L.length+k) (L.length+b.length))[j]? = some x->b[k+j]? = some x:=fun j x c=>by rw[cb,tX,List.getElem?_drop] at c;exact c
 have D:∀(j:Nat) (x:Keyed),((arrOf st).extract (L.length+b.length) (L.length+b.length+e))[j]? = some x->j<e/\d[j]? = some x:=fun j x c=>by
  rw[cb,tY,List.getElem?_take] at c;split at c
  .exact⟨by assumption,c⟩
  .cases c
 have M:MH le S ((arrOf st).extract (L.length+k) (L.length+b.length)) ((arrOf st).extract (L.length+b.length) (L.length+b.length+e)):={
  tr:=tr
  sa:=fun i j x y a3 c g=>lB Y sa (by lia) (B i x c) (B j y g)
  sb:=fun i j x y a3 c g=>lB Y sb a3 (D i x c).2 (D j y g).2
  Sa:=fun i x c=>by have q:=B i x c;exact X (L.length+(k+i)) x (by rw[o _ (List.getElem?_eq_some_iff.mp q).1];exact q)
  Sb:=fun i x c=>by have q:=(D i x c).2;exact X (L.length+b.length+i) x (by rw[z _ (List.getElem?_eq_some_iff.mp q).1];exact q)
  a0:=by lia
  b0:=by lia
  first:=fun x y c g=>by have H:=B 0 x c;have O:=(D 0 y g).2;rw[eB] at O;have q3:=g2 k (aE _) (by lia) x (by rw[o k (by lia)];exact H);simp only[List.getElem?_cons_zero,Option.some.injEq] at O;rw[<-O];simpa[cO] using q3
  last:=fun i x y hi c g=>by
   have H:=B i x c;rw[show k+i=b.length - 1 by lia,T] at H;cases H;rw[tY] at g;obtain⟨j,p,q⟩:=jU g;have q3:=g3 j p y (by rw[z j (by lia)];exact q);simpa[cO] using q3 }
 have fin:∀(r:Array Keyed) (f:SortSt),Sm m f->r.toList=List.merge ((arrOf st).extract (L.length+k) (L.length+b.length)).toList ((arrOf st).extract (L.length+b.length) (L.length+b.length+e)).toList le->
   wpS (model prog w) A E s (do
    modify fun u=>setArr u (List.foldl (fun(a:Array Keyed) (x:Keyed×Nat)=>a.setIfInBounds (L.length+k+x.snd) x.fst) (arrOf u) r.toList.zipIdx)
    let v <-get
    pure (failedOf v).isNone) Q f:=fun r f I U=>by
  refine ay (wpS_modify (ay (wpS_get ?_)));rw[tX,tY] at U;have f2:failedOf f=none:=I.failed.trans f1;show wpS _ _ _ _ (pure (failedOf f).isNone) Q _;rw[f2];refine aG (h _ (I.kind.trans J) f2 (I.pend.trans p1) ?_);show(List.foldl (fun(a:Array Keyed) (x:Keyed×Nat)=>a.setIfInBounds (L.length+k+x.snd) x.fst) (arrOf f) r.toList.zipIdx).toList=_;have hl:r.toList.length=b.length - k+e:=by rw[U,List.length_merge];simp;lia
  rw[I.arr,N,wA (L.length+k) r.toList 0 (arrOf st) (by lia),hl,Nat.add_zero,G,fr,bk,U];have t1:(L++(b++(d++R))).take (L.length+k)=L++b.take k:=by rw[List.take_append,List.take_of_length_le (by lia),Nat.add_sub_cancel_left,List.take_append_of_le_length (by lia)]
  have t2:(L++(b++(d++R))).drop (L.length+k+(b.length - k+e))=d.drop e++R:=by rw[show L.length+k+(b.length - k+e)=L.length+(b.length+e) by lia,<-List.drop_drop,List.drop_left,<-List.drop_drop,List.drop_left,List.drop_append_of_le_length (by lia)]
  rw[t1,t2];simp only[List.append_assoc]
 split
 .exact ay (Ig M hL J fun r f I U=>fin r f I U)
 .exact ay (Io M hL J fun r f I U=>fin r f I U)
end
noncomputable def Rn(le:Keyed->Keyed->Bool):Nat->List (Nat×Nat×Nat)->List (List Keyed)->Prop
 | _,[],[]=>True
 | lo,p::a,r::b=>p.1=lo/\p.2.1=r.length/\0<r.length/\r.Pairwise (fun x y=>le x y=true)/\Rn le (lo+r.length) a b
 | _,_,_=>False
section
variable{le:Keyed->Keyed->Bool}
theorem Rn.len:∀{lo:Nat}{a:List (Nat×Nat×Nat)}{b:List (List Keyed)},Rn le lo a b->a.length=b.length
 | _,[],[],_=>rfl
 | _,_::_,_::_,h=>by simp[Rn.len h.2.2.2.2]
 | _,[],_::_,h=>h.elim
 | _,_::_,[],h=>h.elim
theorem Rn.few:∀{lo:Nat}{b:List (Nat×Nat×Nat)}{a:List (List Keyed)},Rn le lo b a->a.length<=a.flatten.length
 | _,[],[],_=>by simp
 | _,_::_,r::a,h=>by have:=Rn.few h.2.2.2.2;have:=h.2.2.1;simp;simp at *;lia
 | _,[],_::_,h=>h.elim
 | _,_::_,[],h=>h.elim
theorem Rn.split:∀{P Q:List (Nat×Nat×Nat)}{lo:Nat}{a:List (List Keyed)},Rn le lo (P++Q) a->∃b R2,a=b++R2/\Rn le lo P b/\Rn le (lo+b.flatten.length) Q R2
 | [],Q,lo,a,h=>⟨[],a,rfl,trivial,h⟩
 | p::P,Q,lo,r::a,h=>by obtain⟨b,R2,e,h1,h2⟩:=Rn.split h.2.2.2.2;refine⟨r::b,R2,by rw[e];rfl,⟨h.1,h.2.1,h.2.2.1,h.2.2.2.1,h1⟩,?_⟩;rw[List.flatten_cons,List.length_append,<-Nat.add_assoc];exact h2
 | p::P,Q,lo,[],h=>h.elim
theorem Rn.join:∀{P Q:List (Nat×Nat×Nat)}{lo:Nat}{a R2:List (List Keyed)},Rn le lo P a->Rn le (lo+a.flatten.length) Q R2->Rn le lo (P++Q) (a++R2)
 | [],Q,lo,[],R2,_,h=>by simpa using h
 | p::P,Q,lo,r::a,R2,h,h2=>⟨h.1,h.2.1,h.2.2.1,h.2.2.2.1,h.2.2.2.2.join (by rw[List.flatten_cons,List.length_append,<-Nat.add_assoc] at h2;exact h2)⟩
 | [],_,_,_::_,_,h,_=>h.elim
 | _::_,_,_,[],_,h,_=>h.elim
theorem Rn.pw{f:Nat×Nat×Nat->Nat×Nat×Nat}(c:∀p,(f p).1=p.1/\(f p).2.1=p.2.1):∀{a:List (Nat×Nat×Nat)}{lo i:Nat}{b:List (List Keyed)},Rn le lo a b->Rn le lo (a.modify i f) b
 | [],_,_,[],h=>by simp[Rn]
 | p::a,lo,0,r::b,h=>by simpa[List.modify,Rn,c] using h
 | p::a,lo,i+1,r::b,h=>by rw[List.modify_succ_cons];exact⟨h.1,h.2.1,h.2.2.1,h.2.2.2.1,h.2.2.2.2.pw c⟩
 | [],_,_,_::_,h=>h.elim
 | _::_,_,_,[],h=>h.elim
structure IV (le:Keyed->Keyed->Bool) (κ:SortKind) (a₀:List Keyed) (st:SortSt) (rs:List (List Keyed)) (rest:List Keyed):Prop where
 kind:kindOf st=κ
 failed:failedOf st=none
 perm:(arrOf st).toList.Perm a₀
 arr:(arrOf st).toList=rs.flatten++rest
 runs:Rn le 0 (pendingOf st).toList rs
variable{prog:Program}{w:World}{A:Around}{E:Value->Shared->Prop}{s:Shared}{κ:SortKind}{a₀:List Keyed}{st:SortSt}
variable(hL:cN prog w A E s le κ (·∈a₀))(tr:∀x y z,le x y=true->le y z=true->le x z=true)(tt:∀x y,(le x y||le y x)=true)
include hL tr tt
theorem wB{Q:Bool->SortSt->Prop}{i:Nat}{u:List (List Keyed)}{rest:List Keyed}(v:IV le κ a₀ st u rest)(L:i+1<(pendingOf st).size)
  (h:∀a g,IV le κ a₀ a g rest->g.flatten.length=u.flatten.length->(pendingOf a).size+1=(pendingOf st).size->Q true a):wpS (model prog w) A E s (mergeAt' i) Q st:=by
 obtain⟨P,l,m,n,e,o⟩:∃P l m n,(pendingOf st).toList=P++l::m::n/\P.length=i:=by
  have h1:i+1<(pendingOf st).toList.length:=by simpa using L
  refine⟨(pendingOf st).toList.take i,(pendingOf st).toList[i]'(by lia),(pendingOf st).toList[i+1],(pendingOf st).toList.drop (i+2),?_,by rw[List.length_take];lia⟩;rw[<-List.drop_eq_getElem_cons h1,<-List.drop_eq_getElem_cons (by lia),List.take_append_drop]
 have y:=v.runs;rw[e] at y;obtain⟨j,R2,d,M,c⟩:=y.split
 match R2,c,d with
 | b::f::z,c,d=>
  obtain⟨N,O,k⟩:=l;obtain⟨R,S,p⟩:=m;obtain⟨q,B,T,C,r,D,U,G,X⟩:=c;dsimp only at q B r D;simp only[Nat.zero_add] at q r;subst q B r D;have H:(arrOf st).toList=j.flatten++(b++(f++(z.flatten++rest))):=by rw[v.arr,d];simp
  have g1:(pendingOf st)[i]? = some (j.flatten.length,b.length,k):=by rw[cb,e,<-o];simp
  have g2:(pendingOf st)[i+1]? = some (j.flatten.length+b.length,f.length,p):=by rw[cb,e,<-o];simp
  refine Iy hL tr tt v.kind v.failed (fun x Y=>v.perm.mem_iff.mp Y) g1 g2 H T U C G fun a Z f' p' I=>?_;have J:(pendingOf a).toList=P++(j.flatten.length,b.length+f.length,k)::n:=by rw[p',Array.toList_eraseIdxIfInBounds,Array.toList_setIfInBounds,e,<-o,List.set_append_right _ _ (aE _),List.eraseIdx_append_of_length_le (by lia)];simp
  have t:(List.merge b f le).length=b.length+f.length:=List.length_merge _ _ _;refine h a (j++List.merge b f le::z) ⟨Z,f',?_,?_,?_⟩ ?_ ?_
  .refine List.Perm.trans ?_ v.perm;rw[I,H];refine List.Perm.append_left _ ?_;rw[<-List.append_assoc b];exact List.Perm.append_right _ (List.merge_perm_append le)
  .rw[I];simp
  .rw[J];refine M.join ⟨by simp,by simp[t],by lia,List.pairwise_merge tr tt _ _ C G,?_⟩;rw[t,<-Nat.add_assoc,Nat.zero_add];simpa using X
  .rw[d];simp[t];lia
  .have l1:=congrArg List.length J;have l2:=congrArg List.length e;simp at l1 l2;lia
 | [],c,d=>exact c.elim
 | [_],c,d=>exact c.2.2.2.2.elim
theorem wC{Q:ForInStep (Option Unit×Nat)->SortSt->Prop}{lo n:Nat}{d:List (List Keyed)}{rest:List Keyed}(v:IV le κ a₀ st d rest)(a:d.flatten.length=lo)(g:1<=n)(e:n<=rest.length)(f:(rest.take n).Pairwise fun x y=>le x y=true)
  (h:∀b c,IV le κ a₀ b c (rest.drop n)->c.flatten.length=lo+n->Q (.yield (none,lo+n)) b) :
  wpS (model prog w) A E s (do
   modify fun s=>setPending s ((pendingOf s).push (lo,n,0))
   pure (ForInStep.yield (none,lo+n))) Q st:=by
 refine ay (wpS_modify (aG (h _ (d++[rest.take n]) ⟨v.kind,v.failed,v.perm,?_,?_⟩ ?_)))
 .show(arrOf st).toList=_;rw[v.arr];simp
 .show Rn le 0 ((pendingOf st).push (lo,n,0)).toList _;rw[Array.toList_push];refine v.runs.join ⟨by simp[a],by simp;lia,by simp;lia,f,trivial⟩
 .simp[a];lia
theorem wD{Q:ForInStep (Option Unit×Nat)->SortSt->Prop}{sz lo n:Nat}{j:List (List Keyed)}{rest:List Keyed}(v:IV le κ a₀ st j rest)(d:j.flatten.length=lo)(z:1<=n)(u:n<=rest.length)(B:(rest.take n).Pairwise fun x y=>le x y=true)
  (h:∀a l,IV le κ a₀ a l (rest.drop n)->l.flatten.length=lo+n->Q (.yield (none,lo+n)) a) :
  ∀m,m=(do
   let g <-get
   match (pendingOf g).back? with
   | some (o,k,_)=>do
    let c <-forIn [:sz] ((none,()):Option Unit×Unit) fun _ _=>do
     let g <-get
     match if (pendingOf g).size>1 then(pendingOf g)[(pendingOf g).size - 2]? else none with
     | some (_,_,t)=>
      if t<=power' sz (2 * o+k) (2 * o+k+k+n) sz then pure (ForInStep.done (none,()))
      else do
       let b <-mergeAt' ((pendingOf g).size - 2)
       if (!b)=true then pure (ForInStep.done (some (),())) else pure (ForInStep.yield (none,()))
     | _=>pure (ForInStep.done (none,()))
    match c.fst with
    | some r=>pure (ForInStep.done (some r,lo))
    | none=>do
     modify fun s=>setPending s ((pendingOf s).modify ((pendingOf s).size - 1) fun x=>(x.fst,x.2.fst,power' sz (2 * o+k) (2 * o+k+k+n) sz))
     modify fun s=>setPending s ((pendingOf s).push (lo,n,0))
     pure (ForInStep.yield (none,lo+n))
   | _=>do
    modify fun s=>setPending s ((pendingOf s).push (lo,n,0))
    pure (ForInStep.yield (none,lo+n)))->wpS (model prog w) A E s m Q st:=by
 rintro m rfl;refine ay (wpS_get ?_);cases e:(pendingOf st).back? with
 | none=>exact wC hL tr tt v d z u B h
 | some p=>
  obtain⟨o,k,H⟩:=p;dsimp only;refine ay (wpS_mono (wpS_forRange (I:=fun _ c a=>c=(none,())/\∃j,IV le κ a₀ a j rest/\j.flatten.length=lo)
   (Q:=fun c a=>c=(none,())/\∃j,IV le κ a₀ a j rest/\j.flatten.length=lo) ?_ (fun c a q=>q) ⟨rfl,j,v,d⟩) ?_)
  .rintro x c a _ _ ⟨rfl,j,v,d⟩;refine ay (wpS_get ?_)
   by_cases h1:(pendingOf a).size>1
   .rw[if_pos h1];obtain⟨⟨J,L,M⟩,D⟩:=at_ (c:=pendingOf a) (i:=(pendingOf a).size - 2) (by lia);rw[D];dsimp only;split
    .exact aG ⟨rfl,j,v,d⟩
    .exact ay (wB hL tr tt v (by lia) fun C l G N O=>aG ⟨rfl,l,G,by lia⟩)
   .rw[if_neg h1];exact aG ⟨rfl,j,v,d⟩
  .rintro c a ⟨rfl,j,v,d⟩;dsimp only;refine ay (wpS_modify (wC hL tr tt ⟨v.kind,v.failed,v.perm,v.arr,?_⟩ d z u B h));show Rn le 0 ((pendingOf a).modify _ _).toList _;rw[Array.toList_modify];exact v.runs.pw (f:=fun x=>(x.fst,x.2.fst,power' sz (2 * o+k) (2 * o+k+k+n) sz)) fun p=>⟨rfl,rfl⟩
theorem Iz{Q:Unit->SortSt->Prop}(hk:kindOf st=κ)(hf:failedOf st=none)(hp:pendingOf st = #[])(S:(arrOf st).toList=a₀)
  (h:∀a,failedOf a = none->(arrOf a).toList.Perm a₀->(arrOf a).toList.Pairwise (fun x y=>le x y=true)->Q () a):wpS (model prog w) A E s sortRuns' Q st:=by
 rw[sortRuns'_eq];refine ay (wpS_get ?_);dsimp only;generalize a1:minRun' (arrOf st).size (arrOf st).size 0=mr;generalize T:(arrOf st).size=sz;have U:a₀.length=sz:=by rw[<-S,<-T];simp
 refine ay (wpS_mono (wpS_forRange (I:=fun x c a=>∃lo l rest,c=(none,lo)/\IV le κ a₀ a l rest/\l.flatten.length=lo/\x<=lo)
  (Q:=fun c a=>∃lo l rest,c=(none,lo)/\IV le κ a₀ a l rest/\l.flatten.length=lo/\sz<=lo) ?_ ?_ ⟨0,[],a₀,rfl,⟨hk,hf,by rw[S],by rw[S];rfl,by rw[hp];trivial⟩,rfl,Nat.zero_le _⟩) ?_)
 .rintro x c t _ X ⟨lo,l,rest,rfl,v,u,Y⟩;dsimp only
  by_cases D:lo≥sz
  .rw[if_pos D];exact aG ⟨lo,l,rest,rfl,v,u,D⟩
  .rw[if_neg D];have G:(arrOf t).size=sz:=by rw[<-Array.length_toList,v.perm.length_eq,U]
   have B1:Bs κ (·∈a₀) lo t t:=⟨Array.Perm.refl _,v.kind,v.failed,rfl,fun _ _=>rfl,fun x X=>v.perm.mem_iff.mp X⟩
   have bX:∀(f:SortSt) (m:Nat),Bs κ (·∈a₀) lo t f->fq le (arrOf f) lo m->m<=sz - lo->∃d,IV le κ a₀ f l d/\d.length=sz - lo/\(d.take m).Pairwise fun x y=>le x y=true:=fun f m C M Z=>by
    have H:(arrOf f).size=sz:=C.size.trans G;have tk:(arrOf f).toList.take lo=l.flatten:=by
     have:(arrOf f).toList.take lo=(arrOf t).toList.take lo:=by
      apply List.ext_getElem?;intro k;rw[List.getElem?_take,List.getElem?_take];split
      .rename_i q;have:=C.keep k q;rwa [cb,cb] at this
      .rfl
     rw[this,v.arr,<-u,List.take_left]
    refine⟨(arrOf f).toList.drop lo,⟨C.kind,C.failed,(Array.perm_iff_toList_perm.mp C.perm).trans v.perm,?_,by rw[C.pend];exact v.runs⟩,by simp[H],?_⟩
    .conv=>lhs;rw[<-List.take_append_drop lo (arrOf f).toList,tk]
    .rw[List.pairwise_iff_getElem];intro i j hi hj a2;simp at hi hj;refine M i j _ _ (by lia) (by lia) ?_ ?_
     .rw[cb,List.getElem_take,List.getElem_drop,List.getElem?_eq_getElem]
     .rw[cb,List.getElem_take,List.getElem_drop,List.getElem?_eq_getElem]
   refine ay (Ir hL tr tt (by lia) (by lia) B1 fun m f C a3 a4 M=>?_);dsimp only;have fin:∀(B:SortSt) (n:Nat),Bs κ (·∈a₀) lo t B->fq le (arrOf B) lo n->1<=n->n<=sz - lo->∀z o,(∃d:List Keyed,d.length=sz - lo/\IV le κ a₀ z o (d.drop n))->o.flatten.length=lo+n->∃J l rest,((none,lo+n):Option Unit×Nat)=(none,J)/\IV le κ a₀ z l rest/\l.flatten.length=J/\x+1<=J:=fun B n B3 s3 n1 n2 z o N O=>by obtain⟨r2,_,v4⟩:=N;exact⟨lo+n,o,_,rfl,v4,O,by lia⟩
   by_cases R:m<mr
   .rw[if_pos R];refine ay (wpS_lift (wpAny_rule ⟨rfl,?_⟩));refine ay (Iu hL tr tt (by lia) (by lia) C M fun B B3 s3=>?_);simp only[Bool.not_true,Bool.false_eq_true,if_false];obtain⟨d,v3,l3,p3⟩:=bX B _ B3 s3 (by lia);refine wD (sz:=sz) hL tr tt v3 u (by lia) (by lia) p3 (fun z o v4 O=>?_) _ ?_
    rotate_left
    .refine bg fun g=>?_;cases(pendingOf g).back? with
     | none=>rfl
     | some p=>
      refine fb (fun _ _=>bg fun g=>?_) fun c=>?_
      .cases(if (pendingOf g).size>1 then(pendingOf g)[(pendingOf g).size - 2]? else none)<;>rfl
      .obtain⟨_ | r,c⟩:=c<;>rfl
    exact fin B _ B3 s3 (by lia) (by lia) z o ⟨d,l3,v4⟩ O
   .rw[if_neg R];obtain⟨d,v3,l3,p3⟩:=bX f _ C M (by lia);refine wD (sz:=sz) hL tr tt v3 u (by lia) (by lia) p3 (fun z o v4 O=>?_) _ ?_
    rotate_left
    .refine bg fun g=>?_;cases(pendingOf g).back? with
     | none=>rfl
     | some p=>
      refine fb (fun _ _=>bg fun g=>?_) fun c=>?_
      .cases(if (pendingOf g).size>1 then(pendingOf g)[(pendingOf g).size - 2]? else none)<;>rfl
      .obtain⟨_ | r,c⟩:=c<;>rfl
    exact fin f _ C M (by lia) (by lia) z o ⟨d,l3,v4⟩ O
 .rintro c a ⟨lo,l,rest,rfl,v,u,Y⟩;exact⟨lo,l,rest,rfl,v,u,by lia⟩
 .rintro c t ⟨lo,l,rest,rfl,v,u,D⟩;dsimp only;have L:rest=[]:=by have l1:=congrArg List.length v.arr;rw[v.perm.length_eq,List.length_append] at l1;exact List.eq_nil_of_length_eq_zero (by lia)
  subst L;have pl:(pendingOf t).size<=sz:=by have l1:=congrArg List.length v.arr;rw[v.perm.length_eq,List.length_append] at l1;have:=v.runs.few;have l2:=v.runs.len;rw[Array.length_toList] at l2;simp only[List.length_nil] at l1;lia
  refine ay (wpS_mono (wpS_forRange (I:=fun x c a=>c=(none,())/\(∃l,IV le κ a₀ a l [])/\(pendingOf a).size<=max 1 (sz - x))
   (Q:=fun c a=>c=(none,())/\(∃l,IV le κ a₀ a l [])/\(pendingOf a).size<=1) ?_ ?_ ⟨rfl,⟨l,v⟩,by lia⟩) ?_)
  .rintro x c a _ X ⟨rfl,⟨l,v⟩,Z⟩;refine ay (wpS_get ?_)
   by_cases h1:(pendingOf a).size<=1
   .rw[if_pos h1];exact aG ⟨rfl,⟨l,v⟩,h1⟩
   .rw[if_neg h1];refine ay (wB hL tr tt v ?_ fun a0 o v' e1 e2=>aG ⟨rfl,⟨o,v'⟩,by lia⟩);have pk:∀(b:Bool) (i n:Nat),i+1<n->(if b=true then i - 1 else i)+1<n:=fun b i n h=>by cases b<;>simp<;>lia
    exact pk _ _ _ (by lia)
  .rintro c a ⟨rfl,v,Z⟩;exact⟨rfl,v,by lia⟩
  .rintro c a ⟨rfl,⟨l,v⟩,Z⟩;refine aG (h a v.failed v.perm ?_);rw[v.arr,List.append_nil];have l2:=v.runs.len;rw[Array.length_toList] at l2
   match l,v.runs,l2 with
   | [],_,_=>exact .nil
   | [r],q,l2=>have e:∃p,(pendingOf a).toList=[p]:=List.length_eq_one_iff.mp (by rw[Array.length_toList];simpa using l2);obtain⟨p,e⟩:=e;rw[e] at q;simpa using q.2.2.2.1
   | _::_::_,_,l2=>simp at l2;lia
end
theorem wE:∀a:List Int,HT.lexLt a a=false
 | []=>rfl
 | x::a=>by rw[HT.lexLt_cons,if_pos rfl];exact wE a
theorem sg:∀{a b d:List Int},HT.lexLt a b=true->HT.lexLt b d=true->HT.lexLt a d=true
 | [],[],_,h,_=>by cases h
 | [],y::b,[],_,h=>by cases h
 | [],_::_,_::_,_,_=>rfl
 | x::a,[],_,h,_=>by cases h
 | x::a,y::b,[],_,h=>by cases h
 | x::a,y::b,z::d,h1,h2=>by
  rw[HT.lexLt_cons] at h1 h2 ⊢
  by_cases e:x=y
  .subst e;rw[if_pos rfl] at h1
   by_cases c:x=z
   .subst c;rw[if_pos rfl] at h2 ⊢;exact sg h1 h2
   .rw[if_neg c] at h2 ⊢;exact h2
  .rw[if_neg e] at h1
   by_cases c:y=z
   .subst c;rw[if_neg e];exact h1
   .rw[if_neg c] at h2;have f:=of_decide_eq_true h1;have g:=of_decide_eq_true h2;rw[if_neg (by lia)];exact decide_eq_true (by lia)
theorem wF:∀{a b:List Int},HT.lexLt a b=false->HT.lexLt b a=false->a=b
 | [],[],_,_=>rfl
 | [],_::_,h,_=>by cases h
 | _::_,[],_,h=>by cases h
 | x::a,y::b,h1,h2=>by
  rw[HT.lexLt_cons] at h1 h2
  by_cases e:x=y
  .subst e;rw[if_pos rfl] at h1 h2;rw[wF h1 h2]
  .rw[if_neg e] at h1;rw[if_neg (Ne.symm e)] at h2;have c:=of_decide_eq_false h1;have d:=of_decide_eq_false h2;lia
noncomputable def lexLe(a b:List Int):Bool:=!HT.lexLt b a
theorem IA(a c d:List Int)(g:lexLe a c=true)(b:lexLe c d=true):lexLe a d=true:=by
 unfold lexLe at *;simp only[Bool.not_eq_true'] at *;cases e:HT.lexLt d a with
 | false=>rfl
 | true=>
  cases f:HT.lexLt a c with
  | true=>rw[sg e f] at b;cases b
  | false=>rw[wF f g] at e;rw[e] at b;cases b
theorem IB(a b:List Int):(lexLe a b||lexLe b a)=true:=by
 unfold lexLe;cases e:HT.lexLt b a with
 | false=>rfl
 | true=>
  cases c:HT.lexLt a b with
  | false=>rfl
  | true=>have:=sg e c;rw[wE] at this;cases this
def RunsOk(n:Nat):Prop:=2<=n->∀(b:Program) (w:World) (A:Around) (E:Value->Shared->Prop) (s:Shared) (le:Keyed->Keyed->Bool) (κ:SortKind) (c:List Keyed) (st:SortSt) (Q:Unit->SortSt->Prop),c.length=n->cN b w A E s le κ (·∈c)->(∀x y z,le x y=true->le y z=true->le x z=true)->(∀x y,(le x y||le y x)=true)->
 kindOf st=κ->failedOf st=none->pendingOf st = #[]->(arrOf st).toList=c->(∀a,failedOf a = none->(arrOf a).toList.Perm c->(arrOf a).toList.Pairwise (fun x y=>le x y=true)->Q () a)->wpS (model b w) A E s sortRuns' Q st
theorem runs_any(n:Nat):RunsOk n:=fun _ _ _ _ _ _ _ _ _ _ _ _ a c b=>Iz a c b
section
variable{prog:Program}{w:World}{A:Around}{E:Value->Shared->Prop}{s:Shared}{rk:Value->List Int}{κ:SortKind}
noncomputable abbrev jW(rk:Value->List Int):Keyed->Keyed->Bool:=fun x y=>lexLe (rk x.1) (rk y.1)
structure lC (prog:Program) (w:World) (h0:Heap) (vs:List Value) (rk:Value->List Int) (κ:SortKind):Prop where
 kind:∀(A:Around) (E:Value->Shared->Prop) (s:Shared) (Q:SortKind->Shared->Prop),(∀b o,h0.get? b=some o->s.heap.get? b=some o)->2<=vs.length->Q κ s->wpAny (model prog w) A (keyKind' vs.toArray) Q E s
 lt:∀(A:Around) (E:Value->Shared->Prop) (s:Shared) (Q:Bool->Shared->Prop) (x y:Value),(∀b o,h0.get? b=some o->s.heap.get? b=some o)->x∈vs->y∈vs->Q (HT.lexLt (rk x) (rk y)) s->wpAny (model prog w) A (keyLt' κ x y) Q E s
theorem lC.ltok{a:Heap}{c:List Value}(k:lC prog w a c rk κ)(g:∀b o,a.get? b=some o->s.heap.get? b=some o):cN prog w A E s (jW rk) κ (·∈(pairsOf c).toList):=fun x y d f Q st h q=>by
 rw[pairsOf_toList] at d f;rw[lt'_eq];refine ay (wpS_get ?_);rw[h];refine ay (wpS_lift (wpAny_attempt (k.lt A _ s _ x.1 y.1 g (mem_zip_self d).2 (mem_zip_self f).2 ⟨rfl,?_⟩)));refine aG ?_;have e:(!jW rk y x)=HT.lexLt (rk x.1) (rk y.1):=by unfold jW lexLe;simp
 rw[e] at q;exact q
theorem wG{a:Addr}{d:List Value}{n:Nat}{j:Heap}{P:PySem.Fin->Shared->Prop}(me:s.heap.get? a=some (seqObj "list" d.toArray n))(m:d.length<=sizeLine)(R:RunsOk d.length)(k:lC prog w j d rk κ)(r:∀b o,j.get? b=some o->b≠a/\s.heap.get? b=some o)
  (h:∀g:List Value,g.Perm d->g.Pairwise (fun x y=>lexLe (rk x) (rk y)=true)->P (.done (.ret .none)) { s with heap:=sortedHeap s.heap a d g.toArray }) :
  wpAny (model prog w) A (Builtin.«list.sort» ⟨[.ref a],[]⟩) P E s:=by
 rw[list_sort_plain];have la:a<s.heap.objs.size:=aR me;refine aa (listItems_at me rfl (aa (listUpdate_at me rfl ?_ (by simpa using m) (Nat.zero_le _))));obtain⟨t,jb⟩:∃t,(s.heap.update a (Obj.mapSeq fun _=>#[])).get? a=some (seqObj "list" #[] t):=⟨_,get?_update_seq me fun _=>#[]⟩
 refine aa (seqEpoch_at jb rfl (aa (wpAny_newTuple ?_ (by simpa using m))));refine aa (wpAny_newList ?_ (Nat.zero_le _));refine wpAny_holding ?_;have up:∀{b:Addr}{o:Obj},(s.heap.update a (Obj.mapSeq fun _=>#[])).get? b=some o->(((s.heap.update a (Obj.mapSeq fun _=>#[])).push (seqObj "tuple" d.toArray 0)).push (seqObj "list" #[] 0)).get? b=some o:=fun e=>aF _ (aF _ e);have f:=up jb;have kp:∀b o,j.get? b=some o->(((s.heap.update a (Obj.mapSeq fun _=>#[])).push (seqObj "tuple" d.toArray 0)).push (seqObj "list" #[] 0)).get? b=some o:=fun b o e=>up (by rw[Heap.get?_update_ne _ _ _ _ (r b o e).1];exact(r b o e).2);show wpAny (model prog w) A _ P E { s with heap:=((s.heap.update a (Obj.mapSeq fun _=>#[])).push (seqObj "tuple" d.toArray 0)).push (seqObj "list" #[] 0) };dsimp only;have sz:d.toArray.size=d.length:=by simp
 have fin:∀c:SortSt,(arrOf c).toList.Perm (pairsOf d).toList->(arrOf c).toList.Pairwise (fun x y=>jW rk x y=true)->P (.done (.ret .none)) { s with heap:=sortedHeap s.heap a d ((arrOf c).map (·.2)) }:=fun c i l=>by
  have u:∀p∈(arrOf c).toList,p.1=p.2:=fun p v=>by have:=i.mem_iff.mp v;rw[pairsOf_toList] at this;exact(mem_zip_self this).1
  have e:(arrOf c).map (·.2)=((arrOf c).toList.map (·.2)).toArray:=by apply Array.toList_inj.mp;simp
  rw[e];refine h _ ?_ ?_
  .have:=i.map (·.2)
   rwa [pairsOf_toList,List.map_snd_zip (aE _)] at this
  .rw[List.pairwise_map];refine List.Pairwise.imp_of_mem (fun {x y} B C q=>?_) l;rw[<-u x B,<-u y C];exact q
 by_cases h2:d.toArray.size<2
 .rw[if_pos h2,if_pos h2];refine aa (ai ?_);rw[StateT.run_pure];refine aa (ai ?_);dsimp only;refine aa (seqEpoch_at f rfl (aa (listUpdate_at f rfl ?_ (Nat.zero_le _) (by
   have:((pairsOf d).map (·.2)).size<=sizeLine+1:=by rw[Array.size_map,pairsOf_size];lia
   exact this))))
  simp only[bne_self_eq_false,Bool.false_eq_true,if_false];refine ai (fin (SortSt.mk' general' (d.toArray.zip d.toArray) #[] 7 none) (List.Perm.refl _) ?_);show(pairsOf d).toList.Pairwise _;rw[pairsOf_toList]
  match d,sz,h2 with
  | [],_,_=>exact .nil
  | [_],_,_=>exact List.pairwise_singleton _ _
  | _::_::_,_,h2=>simp at h2;lia
 .rw[if_neg h2,if_neg h2];refine aa (k.kind _ _ _ _ kp (by lia) ?_);refine aa (wpAny_mono (R (by lia) prog w _ _ _ (jW rk) κ (pairsOf d).toList (SortSt.mk' κ (d.toArray.zip d.toArray) #[] 7 none)
   (fun _ c=>failedOf c = none/\(arrOf c).toList.Perm (pairsOf d).toList/\(arrOf c).toList.Pairwise (fun x y=>jW rk x y=true))
   (by rw[Array.length_toList,pairsOf_size]) (k.ltok kp) (fun x y z p q=>IA _ _ _ p q) (fun x y=>IB _ _) rfl rfl rfl rfl fun c D G H=>⟨D,G,H⟩) ?_ fun _ _ e=>e)
  rintro⟨⟨⟩,c⟩ J ⟨rfl,I,i,l⟩;dsimp only;refine aa (seqEpoch_at f rfl (aa (listUpdate_at f rfl ?_ (Nat.zero_le _) (by
   have l1:=i.length_eq;simp only[Array.length_toList,pairsOf_size] at l1;have:((arrOf c).map (·.2)).size<=sizeLine+1:=by rw[Array.size_map];lia
   exact this))))
  rw[I];simp only[bne_self_eq_false,Bool.false_eq_true,if_false];exact ai (fin c i l)
noncomputable def rkH(h:Heap):Value->List Int
 | .int n _=>[n]
 | .ref a=>(match h.get? a with
  | some o=>(match o.data with
   | .seq b _=>b.toList.map numOf
   | _=>[])
  | none=>[])
 | _=>[]
theorem kok_ints{h0:Heap}{vs:List Value}(hv:∀v∈vs,∃n t,v=.int n t):lC prog w h0 vs (rkH h0) oneType' where
 kind:=fun A E s Q _ h2 q=>by
  have hI:=intsAre_map vs hv
  match vs,hI,h2 with
  | v1::v2::r,hI,_=>rw[keyKind_ints hI];exact ai q
  | [_],_,h2=>simp at h2
  | [],_,h2=>simp at h2
 lt:=fun A E s Q x y _ hx hy q=>by
  obtain⟨a,t,rfl⟩:=hv x hx;obtain⟨b,u,rfl⟩:=hv y hy;rw[keyLt'_oneType];refine oneLt_int ?_;have e:HT.lexLt (rkH h0 (.int a t)) (rkH h0 (.int b u))=decide (a<b):=by
   show HT.lexLt [a] [b]=_;rw[HT.lexLt_cons];split
   .rename_i z;subst z;rw[HT.lexLt_nil_nil];symm;exact decide_eq_false (by lia)
   .rfl
  rw[e] at q;exact q
end
end L2.TS
namespace L2.L3
open PySem PySem.Spec PyProof.Rows
noncomputable def bO(c:List Int):List Int:=c.mergeSort fun a b=>decide (a<=b)
noncomputable def cS(U:ag)(i:Nat):Option (Bool×bU):=match U[i]? with
 | some (some (.own _ (.m b a)))=>some (b,a)
 | some (some (.vw (.m b a)))=>some (b,a)
 | _=>none
theorem au.dic{K:Frag}{F:Fx}{H:Hp}{Y:St}{U:ag}{O:List Addr}(st:au K F H Y U O){i:Nat}{d:Bool}{b:bU}(e:cS U i=some (d,b)):∃a,Y[i]? = some (some (.ref a))/\eY (aj O H) H a d b:=by
 unfold cS at e;split at e
 .rename_i h;cases e;obtain⟨a,g,c,⟨_,hd⟩,_,_⟩:=st.box h;exact⟨a,c,hd⟩
 .rename_i h;cases e;obtain⟨a,g,c,⟨_,hd⟩⟩:=st.view h;refine⟨a,c,hd.keep ?_ fun _ _ z=>z⟩;obtain⟨o,f,_⟩:=hd.live;rw[f,(cE f).1]
 .cases e
section
variable{X:Cx}{F:Fx}{E:Str->ag->Prop}{e a b c:Expr}{pos:Pos}{x:Str}
noncomputable def oj(neg:Bool)(i:Nat)(d:PyData):XM PyData:=fun U=>aQ (match cS U i with
 | some (g,f)=>(ed g d).map fun k=>.bool ((bF g f k).isSome != neg)
 | none=>none) U
noncomputable def sh(neg:Bool)(i:Nat)(m:XM PyData):XM PyData:=fun U=>(m U).bind (oj neg i)
theorem IC{neg:Bool}{i:Nat}{d:PyData}{U:ag}{Y:St}{H:Hp}{O:List Addr}{Q:PyData->ag->Prop}(st:au X.K F H Y U O)(q:wp E (oj neg i d) U Q){w:V}(n:DV (aj O H) w d) :
  ∃v,Y[i]? = some (some v)/\∃a o,v=.ref a/\eN H a w o/\Q (.bool (o.isSome != neg)) U:=by
 obtain⟨y,h,j⟩:=cx (o:=match cS U i with | some (l,f)=>(ed l d).map fun k=>PyData.bool ((bF l f k).isSome != neg) | none=>none) (U:=U) (E:=E) (Q:=Q) q;cases m:cS U i with
 | none=>rw[m] at h;cases h
 | some p=>
  obtain⟨l,f⟩:=p;rw[m] at h;obtain⟨k,s,t⟩:=Option.map_eq_some_iff.mp h;subst t;obtain⟨a,u,hd⟩:=st.dic m;obtain⟨o,g,r⟩:=rJ hd iF n s;refine⟨_,u,a,o,rfl,g,?_⟩;rcases r with⟨rfl,e⟩ | ⟨v,x,rfl,e,_⟩
  .rw[e] at j;exact j
  .rw[e] at j;exact j
theorem ID{i:Nat}{m:XM PyData}{g:Pos}(h:X.A.units+1<cLine)(j:FE X F E e m)(l:PE X (.Name x g) (cV i))(n:autoParam (behindInMarks .NotIn (.Name x g)=false) Zq._auto_1):FB X F E (.Compare e [.NotIn] [.Name x g] pos) (bB (sh true i m)):=
 ⟨av,(zX (Cr h j.pe l) n).imp fun Y H Q ⟨U,O,st,q⟩=>⟨U,O,st,av _ _ _ (fun d C p w r s f t u=>by
  obtain⟨v,h1,a,o,h2,h3,y⟩:=IC f p u;obtain⟨b,z,B⟩:=y;cases z;exact⟨v,h1,a,o,h2,h3,!o.isSome,rfl,by simpa using B r s f t⟩) (bv (k:=oj true i) (rc q))⟩⟩
noncomputable def om(i:Nat)(d:PyData):XM PyData:=fun U=>aQ (match cS U i with
 | some (g,f)=>(ed g d).bind fun k=>bF g f k
 | none=>none) U
noncomputable def jX(i:Nat)(m:XM PyData):XM PyData:=fun U=>match cS U i with
 | some _=>(m U).bind (om i)
 | none=>.bad
theorem wH{i:Nat}{m:XM PyData}{D:Pos}(I:X.A.units+1<cLine)(J:PE X (.Name x D) (cV i))(L:FE X F E e m)(M:qv e:=by intro _ _;rfl):FE X F E (.Subscript (.Name x D) e pos) (jX i m):=
 ⟨av,(Cq I J L.pe M).imp fun Y H Q h=>by
  obtain⟨U,O,st,q⟩:=h;unfold wp jX at q;cases z:cS U i with
  | none=>rw[z] at q;exact q.elim
  | some p=>
   rw[z] at q;obtain⟨B,j⟩:=p;obtain⟨a0,l,_⟩:=st.dic z;refine⟨_,l,U,O,st,av _ _ _ (fun d C N w R S n T Z=>?_) (bv (m:=m) (k:=om i) q)⟩;obtain⟨y,t,q2⟩:=cx (o:=match cS C i with | some (B,j)=>(ed B d).bind fun k=>bF B j k | none=>none) (U:=C) (E:=E) N;cases f:cS C i with
   | none=>rw[f] at t;cases t
   | some p=>
    obtain⟨a1,G⟩:=p;rw[f] at t;obtain⟨k,e2,u⟩:=Option.bind_eq_some_iff.mp t;obtain⟨a,s,hd⟩:=n.dic f;rw[l] at s;cases s;obtain⟨o,g,r⟩:=rJ hd iF Z e2;rcases r with⟨rfl,e⟩ | ⟨v,x,rfl,e,hx⟩
    .rw[e] at u;cases u
    .rw[e] at u;cases u;exact⟨a0,v,rfl,g,q2 v R S n T hx⟩⟩
end
end L2.L3
namespace L2.TS
open PySem PyProof.Rows PySem.W
section
variable{prog:Program}{w:World}{A:Around}{E:Value->Shared->Prop}{s:Shared}{T:String}{r d:Addr}{n:Nat}{P:Nat->Value->Prop}{OK:Heap->Prop}
theorem sorted_src{Q:Value->Shared->Prop}(K:KdlSrc prog w T r d n P OK)(I:A.handled=none)(B:OK s.heap)(D:n<=sizeLine)(R:RunsOk n)
  (h:∀(i:Heap) (t:Nat) (l:List Value),(∀b o,s.heap.get? b=some o->i.get? b=some o)->l.length=n->(∀(j:Nat) (v:Value),l[j]? = some v->P j v)->∃p κ,lC prog w i l p κ/\
   ∀(c:List Value) (C:Heap) (m:Nat),c.Perm l->c.Pairwise (fun x y=>lexLe (p x) (p y)=true)->(∀b o,i.get? b=some o->C.get? b=some o)->C.get? i.objs.size=some (seqObj "list" c.toArray m)->Q (.ref i.objs.size) { s with heap:=C,toks:=t }) :
  wpAny (model prog w) A (call (.builtin "sorted") [.ref r]) Q E s:=by
 refine Calls.call_function_entry kind_sorted plain_sorted entry_sorted (args_sorted1 _) ?_;unfold Builtin.«sorted»;refine aa (m:=checkCount "sorted" 1 1 _) (ai ?_);refine aa (kdu_collect (A:=A.in1) K I B D fun g t a J f=>?_);have u:a.toList.length=n:=by rw[Array.length_toList];exact f.1
 have G:a.toList.length<=sizeLine:=by rw[u];exact D
 obtain⟨p,κ,k,fin⟩:=h g t a.toList J u fun j v e=>f.2 j v (by rw[<-Array.getElem?_toList];exact e);refine aa (wpAny_newList ?_ G);have iu:(g.push (seqObj "list" a.toList.toArray 0)).get? g.objs.size=some (seqObj "list" a.toList.toArray 0):=Heap.get?_push_size _ rfl;have H:∀b o,g.get? b=some o->b≠g.objs.size/\(g.push (seqObj "list" a.toList.toArray 0)).get? b=some o:=fun b o e=>⟨Nat.ne_of_lt (aR e),aF _ e⟩
 refine aa (wpAny_holding (wpAny_call_entry slot_list_sort ⟨_,iu,rfl⟩ entry_list_sort (wG iu G (by rw[u];exact R) k H fun c L M=>⟨_,rfl,?_⟩) (args_list_sort _)));refine ai ⟨_,rfl,?_⟩;obtain⟨z,jb⟩:∃z,((g.push (seqObj "list" a.toList.toArray 0)).update g.objs.size (Obj.mapSeq fun _=>#[])).get? g.objs.size=some (seqObj "list" #[] z):=⟨_,get?_update_seq iu fun _=>#[]⟩
 have pU:((((g.push (seqObj "list" a.toList.toArray 0)).update g.objs.size (Obj.mapSeq fun _=>#[])).push (seqObj "tuple" a.toList.toArray 0)).push (seqObj "list" #[] 0)).get? g.objs.size=some (seqObj "list" #[] z):=aF _ (aF _ jb);refine fin c _ _ L M (fun b o e=>?_) (get?_update_seq pU fun _=>c.toArray);have q:=H b o e;unfold sortedHeap;rw[Heap.get?_update_ne _ _ _ _ q.1];refine aF _ (aF _ ?_);rw[Heap.get?_update_ne _ _ _ _ q.1];exact q.2
end
end L2.TS
namespace L2.L3
open PySem PySem.Spec PyProof.Rows PySem.W
section
variable{X:Cx}{F:Fx}{E:Str->ag->Prop}{pos p p1:Pos}{x:Str}{i:Nat}
theorem sj{κ:Type}:∀{a:List (κ×V)}{b:List (κ×Value)},KV a b->∀{j:Nat}{k:κ}{y:Value},b[j]? = some (k,y)->∃v,a[j]? = some (k,v)
 | _,_,.nil,_,_,_,e=>by simp at e
 | _,_,.cons h t,0,k,y,e=>by simp at e;subst e;obtain⟨d,_⟩:=h;exact⟨_,by simp;exact Prod.ext d rfl⟩
 | _,_,.cons h t,j+1,k,y,e=>by obtain⟨v,c⟩:=sj t (j:=j) (by simpa using e);exact⟨v,by simpa using c⟩
noncomputable def IE:List V->Hp->VK->Prop:=fun b H Q=>∃p a,b=[.ref p]/\H p=some (.dK a)/\∀l,H l=none->Q (.ref l) (aS H l (.lst (a.map fun q=>kV q.1)))
theorem IF(G:X.calm=true):dQ X (.type "list") IE:=by
 intro C s Y H g us Q I r h;obtain⟨p,kvs,rfl,J,q⟩:=h;obtain⟨u,rfl,L⟩:=vals1 r;cases L;obtain⟨M,lo,N,D,O⟩:=qu I.hok J;obtain⟨ep,o⟩:=O.dictAt;have l:=Paired.length D;refine kdl_call (kdl_dict (knd:=dA X.prog X.w) (kvs:=N) (ep:=ep) lo) (I.ok.hd G) o (by lia) fun T U c c' kp e f=>?_;have rel:aM (kvs.map fun q=>kV q.1) c.toList:=by
  have len:(kvs.map fun q=>kV q.1).length=c.toList.length:=by have:=f.1;rw[List.length_map,l];simp[this]
  have pt:∀(j:Nat) (v:Value),c.toList[j]? = some v->∃k,kvs[j]?.map (fun q=>kV q.1)=some (kV k)/\aP (kV k) v:=fun j v e=>by
   obtain⟨k,y,h1,h2⟩:=f.2 j v (by rw[<-Array.getElem?_toList];exact e);obtain⟨v',A⟩:=sj D h1;refine⟨k,by rw[A];rfl,?_⟩;rcases fu h2 with⟨n,t,rfl,rfl⟩ | ⟨z,t,rfl,rfl⟩
   .exact⟨t,rfl⟩
   .exact⟨t,rfl⟩
  have all:∀(g:List V) (d:List Value),g.length=d.length->(∀(j:Nat) (v:Value),d[j]? = some v->∃w,g[j]? = some w/\aP w v)->aM g d:=fun g=>by
   induction g with
   | nil=>intro d l _;cases d with | nil=>exact .nil | cons _ _=>cases l
   | cons a g ih=>
    intro d l h;cases d with
    | nil=>cases l
    | cons b d=>obtain⟨w,m,B⟩:=h 0 b rfl;simp at m;subst m;exact .cons B (ih d (by simpa using l) fun j v e=>h (j+1) v (by simpa using e))
  refine all _ _ len fun j v e=>?_;obtain⟨k,m,B⟩:=pt j v e;exact⟨kV k,by rw[List.getElem?_map];exact m,B⟩
 exact⟨.ref s.heap.objs.size,_,I.laid (t':=U) kp (aE _) (show bK X.prog X.w _ T _ (.lst (kvs.map fun q=>kV q.1)) from⟨by rw[List.length_map];exact M,c.toList,c',rel,by simpa using e⟩),rfl,q _ (I.hok.fresh (aE _))⟩
noncomputable def IG(P:Nat->Prop):List V->Hp->VK->Prop:=fun c H Q=>∃p a b,P b.length/\c=[.ref p]/\H p=some (.dK a)/\a.map (·.1)=b.map Sum.inl/\∀l,H l=none->Q (.ref l) (aS H l (.lst ((bO b).map V.int)))
theorem IH{P:Nat->Prop}(R:∀n,P n->TS.RunsOk n)(hc:X.calm=true):dQ X (.builtin "sorted") (IG P):=by
 intro C s Y H xs us Q I r h;obtain⟨p,kvs,ns,L,rfl,hq,hk,q⟩:=h;obtain⟨u,rfl,rx⟩:=vals1 r;cases rx;obtain⟨hz,lo,vs,kv,hD⟩:=qu I.hok hq;obtain⟨ep,M⟩:=hD.dictAt;have hl:=Paired.length kv;have N:ns.length=kvs.length:=by have:=congrArg List.length hk;simpa using this.symm
 refine TS.sorted_src (kdl_dict (knd:=dA X.prog X.w) (kvs:=vs) (ep:=ep) lo) (I.ok.hd hc) M (by lia) (by rw[<-hl,<-N];exact R _ L) fun A O d kp a1 hP=>?_;have f:∀(j:Nat) (v:Value),d[j]? = some v->∃n t,ns[j]? = some n/\v=.int n t:=fun j v e=>by
  obtain⟨k,y,B,h3⟩:=hP j v e;obtain⟨v',T⟩:=sj kv B;have e1:(kvs.map (·.1))[j]? = some k:=by rw[List.getElem?_map,T];rfl
  rw[hk,List.getElem?_map] at e1;obtain⟨n,U,D⟩:=Option.map_eq_some_iff.mp e1;subst D;rcases fu (show iA (.inl n) v=true from h3) with⟨n',t,e3,rfl⟩ | ⟨z,t,e3,rfl⟩
  .cases e3;exact⟨n,t,U,rfl⟩
  .cases e3
 have nums:d.map numOf=ns:=by
  apply List.ext_getElem?;intro j;rw[List.getElem?_map];cases e:d[j]? with
  | none=>have:d.length<=j:=List.getElem?_eq_none_iff.mp e;rw[List.getElem?_eq_none (by lia)];rfl
  | some v=>obtain⟨n,t,U,rfl⟩:=f j v e;rw[U];rfl
 have G:∀v∈d,∃n t,v=.int n t:=fun v G=>by obtain⟨j,hj⟩:=List.getElem?_of_mem G;obtain⟨n,t,_,rfl⟩:=f j v hj;exact⟨n,t,rfl⟩
 refine⟨_,_,TS.kok_ints (h0:=A) G,fun g B m p1 p2 a0 D=>?_⟩;have o:∀v∈g,∃n t,v=.int n t:=fun v h=>G v (p1.mem_iff.mp h);have so:g.map numOf=bO ns:=by
  refine List.Perm.eq_of_pairwise (le:=fun a b=>decide (a<=b)=true) (fun a b _ _ A B=>by simp at A B;lia) ?_ (List.pairwise_mergeSort (fun a b c A B=>by simp at *;lia) (fun a b=>by simp;lia) ns) (((p1.map numOf).trans (.of_eq nums)).trans (List.mergeSort_perm _ _).symm);rw[List.pairwise_map];refine List.Pairwise.imp_of_mem (fun {x y} hx hy h=>?_) p2;obtain⟨a,t,rfl⟩:=o x hx;obtain⟨b,u,rfl⟩:=o y hy;refine decide_eq_true (show a<=b from ?_);have J:TS.lexLe [a] [b]=true:=h;unfold TS.lexLe at J;rw[HT.lexLt_cons] at J
  by_cases e:b=a
  .exact Int.le_of_eq e.symm
  .rw[if_neg e] at J
   by_cases D:b<a
   .simp[D] at J
   .omega
 have rel:aM ((bO ns).map V.int) g:=by
  rw[<-so];have:∀l:List Value,(∀v∈l,∃n t,v=Value.int n t)->aM ((l.map numOf).map V.int) l:=fun l=>by
   induction l with
   | nil=>intro _;exact .nil
   | cons v l ih=>intro h;obtain⟨n,t,rfl⟩:=h v List.mem_cons_self;exact .cons ⟨t,rfl⟩ (ih fun u hu=>h u (bh _ hu))
  exact this g o
 have I1:Inv X C Y H { s with heap:=A,toks:=O }:=I.kept (t':=O) kp;have lz:((bO ns).map V.int).length<=sizeLine:=by rw[rel.length,p1.length_eq];lia
 exact⟨.ref A.objs.size,_,I1.laid (t':=O) a0 (aE _) (show bK X.prog X.w _ B _ (.lst ((bO ns).map V.int)) from⟨lz,g,m,rel,D⟩),rfl,q _ (I1.hok.fresh (aE _))⟩
theorem wI:∀{g:List (aA×V)}{b:bU}{G:Hp}{c:List Int},Paired (fun(p:aA×V) (q:PyData×PyData)=>el p.1=q.1/\DV G p.2 q.2) g b->fm (b.map (·.1))=some c->g.map (·.1)=c.map Sum.inl
 | _,_,_,c,.nil,e=>by cases e;rfl
 | _,_,_,c,.cons (a:=p) h t,e=>by
  obtain⟨d,_⟩:=h;cases f:p.1 with
  | inl n=>rw[f] at d;rw[List.map_cons,<-d] at e;obtain⟨m,j,k⟩:=Option.map_eq_some_iff.mp (show(fm _).map (n::·)=some c from e);subst k;rw[List.map_cons,f,wI t j];rfl
  | inr z=>rw[f] at d;rw[List.map_cons,<-d] at e;cases e
theorem wJ{G e:Hp}:∀{d:List (aA×V)}{c:bU},Paired (fun(p:aA×V) (q:PyData×PyData)=>el p.1=q.1/\DV G p.2 q.2) d c->aC e (d.map fun q=>kV q.1) (c.map (·.1))
 | _,_,.nil=>.nil
 | _,_,.cons (a:=p) (b:=q) h t=>by
  refine .cons ?_ (wJ t);dsimp only;rw[<-h.1];cases p.1 with
  | inl n=>exact .int n
  | inr z=>exact .str z
noncomputable def lD(i:Nat):XM PyData:=fun U=>aQ (match cS U i with
 | some (false,a)=>some (.list (a.map (·.1)))
 | _=>none) U
theorem wK{K:Frag}{H:Hp}{Y:St}{U:ag}{O:List Addr}(st:au K F H Y U O){b:bU}(e:cS U i=some (false,b)):∃a c,Y[i]? = some (some (.ref a))/\H a=some (.dK c)/\Paired (fun(p:aA×V) (q:PyData×PyData)=>el p.1=q.1/\DV (aj O H) p.2 q.2) c b:=
 let⟨a,d,c,h1,h2⟩:=st.dic e;⟨a,c,d,h1,h2⟩
theorem wL(h:X.calm=true)(j:Gl X "list")(b:X.mg "list" = none)(k:PE X (.Name x p1) (cV i))(g:autoParam (starEach [.Name x p1] X.env=(false,eval (.Name x p1) X.env)::starEach [] X.env) Zq._auto_1)(f:autoParam ((backTo pos (starEach [] X.env)).any (·.1)=false) Zq._auto_1) :
  FE X F E (.Call (.Name "list" p) [.Name x p1] [] pos) (lD i):=
 ⟨av,(qo (IF h) j b (show bootBuiltins "list" = some (.type "list") by decide +kernel) (eL k eX g) (by decide) (by decide) g f).imp fun Y H Q d=>by
  obtain⟨U,O,st,q⟩:=d;obtain⟨y,c,m⟩:=cx q;cases b:cS U i with
  | none=>rw[b] at c;cases c
  | some pr=>
   obtain⟨n,o⟩:=pr;cases n with
   | true=>rw[b] at c;cases c
   | false=>
    rw[b] at c;cases c;obtain⟨a,r,h1,h2,h3⟩:=wK st b;exact⟨_,h1,a,r,rfl,h2,fun l e=>m _ _ O (st.grow (bC e)) (.same (bC e)) (gz e (st.nofree l e) (wJ h3))⟩⟩
noncomputable def lE(i:Nat):XM PyData:=fun U=>aQ (match cS U i with
 | some (false,a)=>(fm (a.map (·.1))).map fun b=>.list ((bO b).map PyData.int)
 | _=>none) U
theorem sk{G:Hp}:∀a:List Int,aC G (a.map V.int) (a.map PyData.int)
 | []=>.nil
 | n::a=>.cons (.int n) (sk a)
theorem II(h:X.calm=true)(j:Gl X "sorted")(b:X.mg "sorted" = none)(k:PE X (.Name x p1) (cV i))(g:autoParam (starEach [.Name x p1] X.env=(false,eval (.Name x p1) X.env)::starEach [] X.env) Zq._auto_1)(f:autoParam ((backTo pos (starEach [] X.env)).any (·.1)=false) Zq._auto_1) :
  FE X F E (.Call (.Name "sorted" p) [.Name x p1] [] pos) (lE i):=
 ⟨av,(iD (IH (P:=fun _=>True) (fun n _=>TS.runs_any n) h) j b (show bootBuiltins "sorted" = some (.builtin "sorted") by decide +kernel) (eL k eX g) (by decide) (by decide) g f).imp fun Y H Q d=>by
  obtain⟨U,O,st,q⟩:=d;obtain⟨y,c,m⟩:=cx q;cases b:cS U i with
  | none=>rw[b] at c;cases c
  | some pr=>
   obtain⟨o,r⟩:=pr;cases o with
   | true=>rw[b] at c;cases c
   | false=>
    rw[b] at c;obtain⟨v,s,t⟩:=Option.map_eq_some_iff.mp c;subst t;obtain⟨a,u,h1,h2,h3⟩:=wK st b;exact⟨_,h1,a,u,v,trivial,rfl,h2,wI h3 s,fun l e=>m _ _ O (st.grow (bC e)) (.same (bC e)) (gz e (st.nofree l e) (sk _))⟩⟩
end
end L2.L3
namespace L2.L3
open PySem
theorem IJ{mg:Str->Option Value}(c:mg "ANY_ZONE" = none)(e:mg "NO_DEEDS" = none)(H:Hp):GH mg H:=fun x d u a b=>by
 unfold glob at a;split at a
 .rename_i h;subst h;rw[c] at b;cases b
 .split at a
  .rename_i h;subst h;rw[e] at b;cases b
  .cases a
end L2.L3
namespace L2.TS
open PySem PyProof.Rows
abbrev cz(a:List Nat):Prop:=a.Pairwise (·<·)
theorem cz.lt{c:List Nat}(r:cz c){i j x y:Nat}(h:i<j)(d:c[i]? = some x)(e:c[j]? = some y):x<y:=by obtain⟨a,rfl⟩:=List.getElem?_eq_some_iff.mp d;obtain⟨b,rfl⟩:=List.getElem?_eq_some_iff.mp e;exact List.pairwise_iff_getElem.mp r i j a b h
theorem sr{b:Array Nat}{j:Nat}(r:cz b.toList):∀(fuel lo a:Nat),a<=b.size->lo<=a->a - lo<=fuel->(∀i x,i<lo->b.toList[i]? = some x->x<j)->(∀i x,a<=i->b.toList[i]? = some x->j<=x)->
  SetTable.below.go b j fuel lo a<=b.size/\(∀i x,i<SetTable.below.go b j fuel lo a->b.toList[i]? = some x->x<j)/\∀i x,SetTable.below.go b j fuel lo a<=i->b.toList[i]? = some x->j<=x
 | 0,lo,a,h1,h2,h3,g,h=>by
  have e:lo=a:=by lia
  subst e;unfold SetTable.below.go;exact⟨h1,g,h⟩
 | fuel+1,lo,a,h1,h2,h3,g,h=>by
  unfold SetTable.below.go
  by_cases c:lo<a
  .rw[if_pos c];have m:(lo+a) / 2<b.size:=by lia
   have l:(lo+a) / 2<b.toList.length:=by simpa using m
   have k:b.toList[(lo+a) / 2]? = some b[(lo+a) / 2]:=by rw[List.getElem?_eq_getElem l];simp
   have n:b.getD ((lo+a) / 2) j=b[(lo+a) / 2]:=by simp[Array.getD,m]
   dsimp only;rw[n]
   by_cases d:b[(lo+a) / 2]<j
   .rw[if_pos d];refine sr r fuel _ a h1 (by lia) (by lia) (fun i x f e=>?_) h;rcases Nat.lt_or_eq_of_le (Nat.lt_succ_iff.mp f) with q | q
    .exact Nat.lt_trans (r.lt q e k) d
    .subst q;rw[k] at e;cases e;exact d
   .rw[if_neg d];refine sr r fuel lo _ (by lia) (by lia) (by lia) g (fun i x f e=>?_);rcases Nat.lt_or_eq_of_le f with q | q
    .exact Nat.le_trans (Nat.not_lt.mp d) (Nat.le_of_lt (r.lt q k e))
    .subst q;rw[k] at e;cases e;exact Nat.not_lt.mp d
  .rw[if_neg c];have e:lo=a:=by lia
   subst e;exact⟨h1,g,h⟩
theorem lF{a:Array Nat}(r:cz a.toList)(j:Nat):SetTable.below a j<=a.size/\(∀i x,i<SetTable.below a j->a.toList[i]? = some x->x<j)/\∀i x,SetTable.below a j<=i->a.toList[i]? = some x->j<=x:=
 sr r a.size 0 a.size (aE _) (Nat.zero_le _) (aE _) (fun _ _ h=>absurd h (Nat.not_lt_zero _)) fun i x h e=>by have:=(List.getElem?_eq_some_iff.mp e).1;simp at this;lia
theorem wM{a:Array Nat}{j:Nat}(r:cz a.toList)(f:j∉a.toList):cz (SetTable.insertAt a (SetTable.below a j) j).toList:=by
 obtain⟨h,h2,h3⟩:=lF r j;rw[SetTable.toList_insertAt];have split:=List.pairwise_append.mp (show cz (a.toList.take (SetTable.below a j)++a.toList.drop (SetTable.below a j)) by rw[List.take_append_drop];exact r);have lo:∀x∈a.toList.take (SetTable.below a j),x<j:=fun x c=>by obtain⟨i,b⟩:=List.mem_iff_getElem?.mp c;have g:=(List.getElem?_eq_some_iff.mp b).1;rw[List.length_take] at g;rw[List.getElem?_take_of_lt (by lia)] at b;exact h2 i x (by lia) b
 have b:∀x∈a.toList.drop (SetTable.below a j),j<x:=fun x c=>by obtain⟨i,b⟩:=List.mem_iff_getElem?.mp c;rw[List.getElem?_drop] at b;have:=h3 _ x (Nat.le_add_right _ _) b;exact Nat.lt_of_le_of_ne this fun e=>f (e▸List.mem_of_mem_drop c)
 refine List.pairwise_append.mpr ⟨split.1,List.pairwise_cons.mpr ⟨b,split.2.1⟩,fun x c y d=>?_⟩;rcases List.mem_cons.mp d with rfl | d
 .exact lo x c
 .exact split.2.2 x c y d
theorem wN{t:SetTable}{j:Nat}(r:cz t.place.toList)(h:∀i,t.slot j≠.live i):j∉t.place.toList:=fun d=>by
 obtain⟨i,a⟩:=List.mem_iff_getElem?.mp d;obtain⟨k,h2,h3⟩:=lF r j;have f:SetTable.below t.place j<=i:=Nat.le_of_not_lt fun c=>Nat.lt_irrefl _ (h2 i j c a);have g:=(List.getElem?_eq_some_iff.mp a).1;have e:t.place.toList[SetTable.below t.place j]? = some j:=by
  obtain⟨x,b⟩:∃x,t.place.toList[SetTable.below t.place j]? = some x:=⟨_,List.getElem?_eq_getElem (by lia)⟩
  rcases Nat.lt_or_eq_of_le f with c | c
  .have:=r.lt c b a;have:=h3 _ x (aE _) b;lia
  .rw[c];exact a
 rw[Array.getElem?_toList] at e;refine h (SetTable.below t.place j) ?_;unfold SetTable.slot;simp[e]
theorem sv{t:SetTable}{h:Int}:∀(fuel:Nat) (p:SetTable.Probe) (j:Nat) (d:Option Nat),(∀q,p.dummy=some q->t.slot q=.dummy)->SetTable.probe.go t (fun _=>h+1) h fuel p=some (.empty j d)->t.slot j=.empty/\∀q,d=some q->t.slot q=.dummy
 | 0,_,_,_,_,e=>by unfold SetTable.probe.go at e;cases e
 | fuel+1,p,j,d,b,e=>by
  have dN:∀p:SetTable.Probe,(t.advance p).dummy=p.dummy:=fun p=>by unfold SetTable.advance;split<;>rfl
  unfold SetTable.probe.go at e;cases q:t.slot p.j with
  | empty=>rw[q] at e;cases e;exact⟨q,b⟩
  | dummy=>rw[q] at e;refine sv fuel _ j d (fun x a=>?_) e;rw[dN] at a;cases a;exact q
  | live i=>
   rw[q] at e;have:((h+1==h)=true)=False:=by simp;lia
   simp only[this,if_false] at e;exact sv fuel _ j d (fun x a=>b x (by rw[dN] at a;exact a)) e
theorem IK{t:SetTable}{h:Int}{j:Nat}{b:Bool}(r:cz t.place.toList)(e:t.freeSlot h=some (j,b)):j∉t.place.toList:=by
 unfold SetTable.freeSlot SetTable.probe at e;split at e
 .rename_i k a d;obtain⟨g,h2⟩:=sv _ _ _ _ (fun q f=>by cases f) d;cases e;cases a with
  | none=>exact wN r fun i c=>by rw[Option.getD_none,g] at c;cases c
  | some q=>exact wN r fun i c=>by rw[Option.getD_some,h2 q rfl] at c;cases c
 .cases e
theorem on(n:Nat):cz (Array.range n).toList:=by rw[Array.toList_range];exact List.pairwise_lt_range
theorem IL{t:SetTable}(n:Nat)(r:cz t.place.toList):cz (t.orStandIn n).place.toList/\(t.orStandIn n).led=t.led:=by
 unfold SetTable.orStandIn;split
 .exact⟨r,rfl⟩
 .exact⟨on _,rfl⟩
theorem IM{t:SetTable}(a:Array (Int×Value))(h:Int)(x:Value)(r:cz t.place.toList):cz (layNew t a h x).2.1.place.toList/\(layNew t a h x).2.1.led=t.led:=by
 unfold layNew;split
 .rename_i j b e;exact IL (t:=(t.put j).1) _ (wM r (IK r e))
 .exact⟨on _,rfl⟩
theorem oo{β:Type}{g:Nat->Option β}:∀l:List Nat,((l.filterMap fun j=>(g j).map (j,·)).map (·.1)).Sublist l
 | []=>.slnil
 | a::l=>by
  rw[List.filterMap_cons];cases e:g a with
  | none=>exact .cons _ (oo l)
  | some b=>exact .cons₂ _ (oo l)
theorem IP{t:SetTable}(a:Array (Int×Value))(n:Nat):cz (relayAll t a n).2.1.place.toList/\(relayAll t a n).2.1.led=t.led:=by
 unfold relayAll;split
 .rename_i t' order e;dsimp only;split
  .unfold SetTable.relaid SetTable.laid at e;simp only[bind,Option.bind,pure] at e;split at e
   .cases e
   .cases e;refine⟨?_,rfl⟩;dsimp only;exact List.pairwise_lt_range.sublist (oo _)
  .exact⟨on _,rfl⟩
 .exact⟨on _,rfl⟩
section
variable{prog:Program}{w:World}{A:Around}{E:Value->Shared->Prop}{s:Shared}
def SetO(prog:Program)(w:World)(o:Obj)(led:Bool)(b:List Int):Prop:=
 ∃a c t,o.ExactSet/\o.data=.set a c t/\ElemsOf (intKind prog w) a.toList/\b=a.toList.map (fun e=>numOf e.2)/\a.size<scanBound/\t.fits a.size=true/\cz t.place.toList/\t.led=led
theorem wO{a:List (Int×Value)}(h:ElemsOf (intKind prog w) a){e:Int×Value}(b:e∈a):∃t,e.2=.int (numOf e.2) t:=by obtain⟨⟨k,h1,_⟩,_⟩:=h e b;obtain⟨t,h2⟩:=Value.isInt_shape (show Value.isInt k e.2=true from h1);rw[h2];exact⟨t,rfl⟩
theorem IQ{a:List (Int×Value)}(h:ElemsOf (intKind prog w) a)(k:Int):(a.findIdx? fun e=>(intKind prog w).is k e.2).isSome=decide (k∈a.map fun e=>numOf e.2):=by
 have key:∀e∈a,(intKind prog w).is k e.2=decide (k=numOf e.2):=fun e b=>by obtain⟨t,d⟩:=wO h b;rw[d];show Value.isInt k (.int (numOf e.2) t)=_;show(numOf e.2==k)=decide (k=numOf e.2);rw[Bool.eq_iff_iff];exact beq_iff_eq.trans (eq_comm.trans decide_eq_true_iff.symm)
 cases q:a.findIdx? fun e=>(intKind prog w).is k e.2 with
 | none=>refine(decide_eq_false fun f=>?_).symm;obtain⟨e,b,rfl⟩:=List.mem_map.mp f;have:=List.findIdx?_eq_none_iff.mp q e b;rw[key e b] at this;simp at this
 | some j=>obtain⟨c,h2,_⟩:=List.findIdx?_eq_some_iff_getElem.mp q;refine(decide_eq_true (List.mem_map.mpr ⟨a[j],List.getElem_mem c,?_⟩)).symm;rw[key _ (List.getElem_mem c)] at h2;exact(of_decide_eq_true h2).symm
theorem oq{a:Addr}{o:Obj}{j b:Array (Int×Value)}{e:Nat}{t t':SetTable}{Q:Unit->Shared->Prop}(f:s.heap.get? a=some o)(h:o.ExactSet)(hd:o.data=.set j e t)(i:b.size<scanBound)
  (q:∀c d,Heap.SameBut a s.heap c->c.get? a=some d->d.ExactSet->d.data=.set b (e+1) t'->Q () { s with heap:=c }):wpAny (model prog w) A (storeSet a b t') Q E s:=by
 have g:=Heap.get?_update_self (Obj.putSet b t') f (by rw[putSet_of b t' hd];rfl);rw[putSet_of b t' hd] at g;exact wpAny_storeSet_of f hd (q _ _ (Heap.SameBut.update s.heap a _) g h rfl) (fits_of_scanBound i)
theorem sx(b:Bool){Q:Unit->Shared->Prop}(q:Q () s):wpAny (model prog w) A (match b with | true=>rule "set.scan.the-table-gave-way" | false=>pure ()) Q E s:=by
 cases b
 .exact ai q
 .exact wpAny_rule q
theorem wP{g:Bool->Sem Unit}(I:∀(b:Bool) (y:Shared) (z:Unit->Shared->Prop),z () y->wpAny (model prog w) A (g b) z E y){a:Addr}{o:Obj}{U c:Array (Int×Value)}{J:Nat}{t d:SetTable}{led L:Bool}{R:Option Bool->Shared->Prop}
  (M:s.heap.get? a=some o) (N:o.ExactSet) (hd:o.data=.set U J t) (f:ElemsOf (intKind prog w) c.toList) (n:c.size<scanBound) (O:d.fits c.size=true) (Q:cz d.place.toList) (B:d.led=led)
  (h:∀p C i,Heap.SameBut a s.heap p->p.get? a=some C->SetO prog w C led i->i.Perm (c.toList.map fun e=>numOf e.2)->R (some true) { s with heap:=p }) :
  wpAny (model prog w) A (do
    storeSet a c d
    if (!L&&d.tooFull)=true then do
      g (relayAll d c (SetTable.grown c.size)).2.2
      storeSet a (relayAll d c (SetTable.grown c.size)).1 (relayAll d c (SetTable.grown c.size)).2.1
      pure (some true)
     else pure (some true)) R E s:=by
 refine aa (oq M N hd n fun H S j k l m=>?_);split
 .have q:=relayAll_perm d c (SetTable.grown c.size);have D:(relayAll d c (SetTable.grown c.size)).1.size=c.size:=by rw[<-Array.length_toList,q.length_eq,Array.length_toList]
  refine aa (I _ _ _ (aa (oq (s:={ s with heap:=H }) k l m (by rw[D];exact n) fun X T r u v x=>?_)));have G:=IP (t:=d) c (SetTable.grown c.size);exact ai (h X T _ (j.trans r) u ⟨_,_,_,v,x,f.perm q,rfl,by rw[D];exact n,relayAll_fits d c _,G.1,G.2.trans B⟩ (q.map _))
 .exact ai (h H S _ j k ⟨_,_,_,l,m,f,rfl,n,O,Q,B⟩ (.refl _))
theorem IR{a:Addr}{o:Obj}{k:Int}{r:Tok}{y:List Int}{led:Bool}{Q:Bool->Shared->Prop}(z:s.heap.get? a=some o)(D:SetO prog w o led y)(room:y.length+1<scanBound)
  (h:∀b g i d,Heap.SameBut a s.heap g->g.get? a=some i->SetO prog w i led d->d.Perm (if k∈y then y else y++[k])->Q b { s with heap:=g }) :
  wpAny (model prog w) A (setAddHashed a (.int k r) ((intKind prog w).hash k)) Q E s:=by
 obtain⟨v,X,t,G,hd,n,rfl,N,H,O,I⟩:=id D;have J:(intKind prog w).is k (.int k r)=true:=intKind_is _ _ _ _;have R:v.size+1<scanBound:=by simpa using room
 unfold setAddHashed setAddHashedIn;refine wpAny_holding (aa (wpAny_setState_of z hd H ?_));dsimp only;rw[byScan_of (knd:=intKind prog w) rfl N n];simp only[↓reduceIte];unfold setAddByScan;refine aa (aa (wpAny_rule (aa (wpAny_setScan_of J z hd H n ?_))));have C:=IQ n k;cases M:v.toList.findIdx? fun e=>(intKind prog w).is k e.2 with
 | some j=>rw[M] at C;have mem:=of_decide_eq_true C.symm;refine ai (ai ?_);exact h _ s.heap o _ (Heap.SameBut.refl a s.heap) z D (by rw[if_pos mem])
 | none=>
  rw[M] at C;have mem:=of_decide_eq_false C.symm;dsimp only;have x:=layNew_perm t v ((intKind prog w).hash k) (.int k r);have f:=layNew_fits t v ((intKind prog w).hash k) (.int k r);have c:=IM v ((intKind prog w).hash k) (.int k r) O;generalize layNew t v ((intKind prog w).hash k) (.int k r)=L at x f c ⊢;obtain⟨u,Y,Z,gv⟩:=L;dsimp only at x f c ⊢;rw[Array.toList_push] at x;have p:ElemsOf (intKind prog w) u.toList:=(n.push J rfl).perm x;have S:u.size=v.size+1:=by rw[<-Array.length_toList,x.length_eq,List.length_append,Array.length_toList];rfl
  have fin:∀g i d,Heap.SameBut a s.heap g->g.get? a=some i->SetO prog w i led d->d.Perm (u.toList.map fun e=>numOf e.2)->wpAny (model prog w) A (pure true) Q E { s with heap:=g }:=fun g i d B l m pm=>by refine ai (h _ g i d B l m ?_);rw[if_neg mem];refine pm.trans ((x.map _).trans (.of_eq ?_));rw[List.map_append];rfl
  refine aa (sx _ ?_);split
  .refine aa ?_;rw[hashByValue_scannable 8 (show(Value.int k r).scannable=true from rfl)];refine ai ?_;exact wP (fun b T U q=>sx b q) z G hd p (by lia) f c.1 (c.2.trans I) fun g i d B l m pm=>fin g i d B l m pm
  .refine aa (ai ?_);exact wP (fun b T U q=>sx b q) z G hd p (by lia) f c.1 (c.2.trans I) fun g i d B l m pm=>fin g i d B l m pm
noncomputable def addI(Y:List Int)(k:Int):List Int:=if k∈Y then Y else Y++[k]
noncomputable def onceI(a:List Int):List Int:=a.foldl addI []
theorem IS{a b:List Int}(p:a.Perm b)(k:Int):(if k∈a then a else a++[k]).Perm (addI b k):=by
 unfold addI
 by_cases h:k∈a
 .rw[if_pos h,if_pos (p.mem_iff.mp h)];exact p
 .rw[if_neg h,if_neg fun q=>h (p.mem_iff.mpr q)];exact p.append_right _
theorem IT(Y:List Int)(k:Int):(addI Y k).length<=Y.length+1:=by unfold addI;split<;>simp
theorem wQ:∀(a Y:List Int),(a.foldl addI Y).length<=Y.length+a.length
 | [],Y=>by simp
 | n::a,Y=>by have h1:=wQ a (addI Y n);have h2:=IT Y n;simp only[List.foldl_cons,List.length_cons];lia
theorem onceI_len(a:List Int):(onceI a).length<=a.length:=by simpa[onceI] using wQ a []
theorem IU{a:List Int}{i:Nat}{n:Int}(e:a[i]? = some n):onceI (a.take (i+1))=addI (onceI (a.take i)) n:=by unfold onceI;rw[List.take_add_one,e,Option.toList_some,List.foldl_append];rfl
theorem IW{R:Result->Shared->Prop}{I:Addr}{T f:List Addr}{G:Array GenState->Array GenState->Prop}{P:Nat->Value->Prop}{St:Nat->Shared->Prop}{ns:List Int}{led:Bool}(W:WalksS prog w A.in1 I T f G ns.length P St){S:Addr}(g:S∉T)
  (j:∀i v,P i v->∃n t,ns[i]? = some n/\v=.int n t) (d:ns.length+1<scanBound):∀(k i:Nat) (s:Shared),ns.length - i=k->i<=ns.length->St i s->(∃o a,s.heap.get? S=some o/\SetO prog w o led a/\a.Perm (onceI (ns.take i)))->
   (∀c o a,Moved (S::f) G s c->c.heap.get? S=some o->SetO prog w o led a->a.Perm (onceI ns)->R (.ok (.ret .none)) c)->codeAny (model prog w) A (.builtin "set.update.loop" ⟨[.ref S,.ref I],[]⟩) R s:=by
 have l:S∉f:=fun h=>g (W.sub _ h);have up:∀b∈f,b∈S::f:=fun b d=>.tail _ d;intro k
 induction k with
 | zero=>
  intro i s X Y st ⟨o,a,z,B,m⟩ C;obtain rfl:i=ns.length:=by lia
  refine codeAny_builtin PyProof.Rows.F.entry_set_update_loop ?_;rw[Around.under_plainId PyProof.Rows.F.plain_set_update_loop _];refine aa (W.done s _ _ st fun c p=>ai ?_);exact C c o a (p.mono up) (p.heap S _ l z) B (by rw[List.take_length] at m;exact m)
 | succ k Z=>
  intro i s X Y st ⟨o,a,z,B,m⟩ C;have q:i<ns.length:=by lia
  refine codeAny_builtin PyProof.Rows.F.entry_set_update_loop ?_;rw[Around.under_plainId PyProof.Rows.F.plain_set_update_loop _];refine aa (W.item i s _ _ q st fun v c hP D p=>?_);obtain⟨n,t,en,rfl⟩:=j i v hP;have H:=p.heap S _ l z;refine aa (wpAny_holding ?_);unfold setAdd;refine wpAny_holding (aa ((intKind prog w).pyHash (k:=n) (intKind_is _ _ _ _) ?_));have room:a.length+1<scanBound:=by have:=onceI_len (ns.take i);have:=List.length_take_le i ns;rw[m.length_eq];lia
  refine IR (s:={ c with toks:=c.toks+1 }) H B room fun b h' o' J U e' L M=>?_;refine ai ⟨plainId_quiet PyProof.Rows.F.plain_set_update_loop _,Z (i+1) _ (by lia) q (W.frame _ c _ _ D (Nat.le_succ _) fun b d o e=>?_) ⟨o',J,e',L,?_⟩ fun N O r u Q x y=>?_⟩
  .rw[U.2 b (fun h:b=S=>g (by rw[<-h];exact d))];exact e
  .rw[IU en];exact M.trans (IS m n)
  .refine C N O r (Moved.trans W.gtrans ((p.mono up).then_heap (Nat.le_succ _) fun b o d e=>?_) u) Q x y;rw[U.2 b (fun h:b=S=>d (by rw[h];exact .head _))];exact e
noncomputable def ledW(w:World):Bool:=!w.params.followText "set-order"
noncomputable abbrev dw(led:Bool):Obj:={ cls:=.type "set",dict:=none,data:=.set #[] 0 (.fresh 0 0 led) }
theorem IX(led:Bool):SetO prog w (dw led) led []:=⟨#[],0,.fresh 0 0 led,⟨rfl,rfl,rfl⟩,rfl,(fun _ h=>by simp at h),rfl,by decide,rfl,.nil,rfl⟩
theorem wR(a:Value){Q₁:Value->Shared->Prop}(h:Q₁ (.ref s.heap.objs.size) { s with heap:=s.heap.push (dw (ledW w)) }) :
  codeAny (model prog w) A (.call (.builtin "set.__new__") ⟨[.type "set",a],[]⟩) (wants Q₁ E) s:=by
 refine codeAny_of_tree (aa (wpAny_of_eq (PySem.F.newCall_set_1 a) (ai ⟨plainId_quiet PySem.F.plain_set_new _,codeAny_builtin PySem.F.entry_set_new ?_⟩)));rw[Around.under_plainId PySem.F.plain_set_new _];unfold Builtin.«set.__new__» Builtin.Frozenset.newClass;have b:=sub_set_self;obtain⟨c,g,d,e,os⟩:=s;dsimp only
 wp_walk
 refine wpAny_askSetting (ai ?_);dsimp only;simp only[newObj];exact aa (wpAny_alloc (ai (ai h)))
theorem call_set{l:Addr}{items:Array Value}{d:List Int}{Q:Value->Shared->Prop}(hh:A.handled=none)(hl:s.heap.IsList l items)(U:IntsAre items.toList d)(z:d.length+1<scanBound)
  (h:∀(j:Heap) (tk:Nat) (o:Obj) (B:List Int),(∀b u,s.heap.get? b=some u->j.get? b=some u)->j.get? s.heap.objs.size=some o->SetO prog w o (ledW w) B->B.Perm (onceI d)->Q (.ref s.heap.objs.size) { s with heap:=j,toks:=tk }) :
  wpAny (model prog w) A (call (.type "set") [.ref l]) Q E s:=by
 obtain⟨c,tl,X⟩:=PySem.F.called_set.mro;have D:=PySem.F.called_set.made;have Y:=PySem.F.called_set.sub;refine wpAny_call (codeAny_of_tree (ai ⟨Code.quiet_builtin _ (by decide +kernel),codeAny_builtin PySem.F.entry_type_call ?_⟩));rw[Around.under_plain (weight_type_call_type "set" [.ref l] []) rfl];have h1:=PySem.F.called_set.notType;have h2:=PySem.F.called_set.canCreate;have a3:=PySem.F.typeCall_set_1 (.ref l)
 repeat (any_goals (first | assumption | wp_step))
 refine codeAny_mono (wR (.ref l) (E:=E) (Q₁:=fun obj Z=>obj=.ref s.heap.objs.size/\Z = { s with heap:=s.heap.push (dw (ledW w)) }) ⟨rfl,rfl⟩) fun r Z G=>?_;cases r with
 | error e=>exact G
 | ok fl=>
  cases fl with
  | ret obj=>
   obtain⟨rfl,rfl⟩:=G;have hS:(s.heap.push (dw (ledW w))).get? s.heap.objs.size=some (dw (ledW w)):=Heap.get?_push_size _ rfl;have hT:Shared.TypeIs { s with heap:=s.heap.push (dw (ledW w)) } (.ref s.heap.objs.size) "set":=⟨_,hS,rfl⟩
   have a4:=PySem.F.called_set.init.lookup;have a5:=PySem.F.called_set.init.bind (.ref s.heap.objs.size)
   repeat (any_goals (first | assumption | wp_step))
   refine codeAny_mono (codeAny_call_builtin (R:=wants (fun r s₂=>r=.none/\Q (.ref s.heap.objs.size) s₂) E) PySem.F.called_set.init.plain PySem.F.entry_set_init (check_set_init_1 hT ?_)) fun r₂ s₂ f=>?_
   .obtain⟨⟨a0,g,H,a⟩,k,m,nl,n⟩:=hl;simp only at m n;subst m n;have p:(s.heap.push (dw (ledW w))).get? l=some { cls:=.type "list",dict:=g,data:=.seq items nl,slots:=a }:=aF _ k;have a1:=PySem.F.sub_list_set;have a2:=PySem.F.sub_list_frozenset;have a6:(Value.type "list"==Value.type "dict")=false:=by decide
    have q:(s.heap.push (dw (ledW w))).IsList l items:=⟨_,p,rfl,nl,rfl⟩
    unfold Builtin.«set.__init__» noKeywords Builtin.Frozenset.updateFrom;generalize I:pyIter=PI
    wp_walk
    subst I;refine wpAny_pyIter_list q (aa (wpAny_runValue ?_));have x:l<s.heap.objs.size:=aR k;have J:(s.heap.push (dw (ledW w))).objs.size=s.heap.objs.size+1:=Heap.size_push ..;have hn:d.length=items.size:=by rw[<-Array.length_toList];exact U.length.symm
    have W:=(Walks.list (prog:=prog) (w:=w) (A:=A.in1.in1.in1) (by simp[hh]) (s.heap.push (dw (ledW w))).objs.size l (by rw[J];exact Nat.ne_of_lt (Nat.lt_succ_of_lt x)) items).toS;rw[<-hn] at W;refine IW (ns:=d) (led:=ledW w) W (S:=s.heap.objs.size) ?_ (fun i v hv=>?_) z (d.length - 0) 0 _ rfl (Nat.zero_le _) ⟨⟨_,Heap.get?_push_size _ rfl,rfl,rfl⟩,q.push _⟩ ⟨_,[],aF _ hS,IX _,.refl _⟩ fun s' o B C ho L hp=>?_
    .rw[J];simp only[List.mem_cons,List.not_mem_nil,or_false,not_or];exact⟨Nat.ne_of_lt (Nat.lt_succ_self _),Nat.ne_of_gt x⟩
    .have y:items.toList[i]? = some v:=by rw[Array.getElem?_toList];exact hv
     obtain⟨t,rfl⟩:=IntsAre.int_at U i v y;have M:i<d.length:=by rw[hn,<-Array.length_toList];exact(List.getElem?_eq_some_iff.mp y).1
     exact⟨d.getD i 0,t,by rw[List.getD_eq_getElem?_getD,List.getElem?_eq_getElem M];rfl,rfl⟩
    .obtain⟨j,g',d',N,O⟩:=s';obtain rfl:g' = s.gens:=C.gens;obtain rfl:d' = s.drawn:=C.drawn;obtain rfl:O = s.os:=C.os;refine ai (ai ⟨rfl,h j N o B (fun b u e=>?_) ho L hp⟩);have z:=aR e;refine C.heap b u ?_ (aF _ (aF _ e));rw[J];simp only[List.mem_cons,List.not_mem_nil,or_false,not_or];exact⟨Nat.ne_of_lt z,Nat.ne_of_lt (Nat.lt_succ_of_lt z)⟩
   .cases r₂ with
    | error e=>exact f
    | ok T=>
     cases T with
     | ret r=>
      obtain⟨rfl,hq⟩:=f
      repeat (any_goals (first | assumption | wp_step))
     | _=>exact f.elim
  | _=>exact G.elim
end
theorem sy{α:Type}:∀{l:List α}{i:Nat}(h:i<l.length),(l[i]::l.eraseIdx i).Perm l
 | x::a,0,h=>.refl _
 | x::a,i+1,h=>(List.Perm.swap x _ _).trans ((sy (Nat.lt_of_succ_lt_succ h)).cons x)
theorem wS{α:Type}(c:Nat->Nat):∀(fuel k:Nat) (left:List α) (a:Array α),left.length<=fuel->(pickOrder.go c fuel k left a).toList.Perm (a.toList++left)
 | 0,k,left,a,h=>by have:left=[]:=List.length_eq_zero_iff.mp (Nat.le_zero.mp h);subst this;unfold pickOrder.go;simp
 | fuel+1,k,left,a,h=>by
  unfold pickOrder.go;cases left with
  | nil=>simp
  | cons y d=>have b:c k % (y::d).length<(y::d).length:=Nat.mod_lt _ (Nat.succ_pos _);rw[List.getElem?_eq_getElem b];dsimp only;refine(wS c fuel _ _ _ (by rw[List.length_eraseIdx_of_lt b];simp at h ⊢;lia)).trans ?_;rw[Array.toList_push,List.append_assoc];exact(sy b).append_left _
theorem IY{α:Type}(b:Nat->Nat)(a:Array α):(pickOrder b a).toList.Perm a.toList:=by unfold pickOrder;simpa using wS b a.size 0 a.toList #[] (by simp)
section
variable{prog:Program}{w:World}{A:Around}{E:Value->Shared->Prop}{s:Shared}
theorem wT{α:Type}:∀(n:Nat) (a:List α) (s:Shared) (Q:List α->Shared->Prop),a.length<=n->(∀b d,b.Perm a->Q b { s with drawn:=d })->wpAny (model prog w) A (drawOrder n a) Q E s
 | 0,a,s,Q,h,q=>by obtain rfl:a=[]:=List.length_eq_zero_iff.mp (Nat.le_zero.mp h);unfold drawOrder;exact ai (q [] s.drawn .nil)
 | n+1,[],s,Q,h,q=>by unfold drawOrder;exact ai (q [] s.drawn .nil)
 | n+1,x::a,s,Q,h,q=>by
  unfold drawOrder;have ch:∀{R:Nat->Shared->Prop},(∀i d,i<(x::a).length->R i { s with drawn:=d })->wpAny (model prog w) A (choose .order (x::a).length) R E s:=fun {R} e Γ p j=>by show(x::a).length≠0/\R _ _;exact⟨Nat.succ_ne_zero _,e _ _ (Nat.mod_lt _ (Nat.succ_pos _))⟩
  refine aa (ch fun i d c=>?_);rw[List.getElem?_eq_getElem c];refine aa (wT n _ _ _ (by rw[List.length_eraseIdx_of_lt c];simp at h ⊢;lia) fun b f g=>ai ?_);exact q _ f ((g.cons _).trans (sy c))
structure aZ (h:Heap) (a:Addr) (es:Array (Int×Value)) (ep:Nat) (t:SetTable):Prop where
 at_:∃o,h.get? a=some o/\o.ExactSet/\o.data=.set es ep t
 fits:t.fits es.size=true
theorem aZ.at'{h b:Heap}{a:Addr}{d:Array (Int×Value)}{c:Nat}{t:SetTable}(x:aZ h a d c t)(k:∀o,h.get? a=some o->b.get? a=some o):aZ b a d c t:=
 let⟨⟨o,h1,h2⟩,f⟩:=x
 ⟨⟨o,k o h1,h2⟩,f⟩
theorem aZ.typeIs{a:Addr}{c:Array (Int×Value)}{b:Nat}{t:SetTable}(x:aZ s.heap a c b t):s.TypeIs (.ref a) "set":=let⟨⟨o,h1,h2,_⟩,_⟩:=x;⟨o,h1,h2.1⟩
theorem aZ.lt{h:Heap}{a:Addr}{c:Array (Int×Value)}{b:Nat}{t:SetTable}(x:aZ h a c b t):a<h.objs.size:=let⟨⟨o,h1,_⟩,_⟩:=x;aR h1
variable{a:Addr}{es:Array (Int×Value)}{ep:Nat}{t:SetTable}
theorem aZ.state{Q:(Array (Int×Value)×Nat×SetTable)->Shared->Prop}(x:aZ s.heap a es ep t)(q:Q (es,ep,t) s):wpAny (model prog w) A (setState a) Q E s:=
 let⟨⟨o,h1,_,h2⟩,f⟩:=x
 wpAny_setState_of h1 h2 f q
theorem ot{Q:Bool->Shared->Prop}(q:Q (w.params.followText "set-order") s):wpAny (model prog w) A setsByText Q E s:=by unfold setsByText;exact aa (wpAny_askSetting (ai q))
theorem IZ{i slot:Nat}{Q:Option (Value×Nat)->Shared->Prop}(x:aZ s.heap a es ep t)(b:w.params.followText "set-order" = true)(q:Q (((pickOrder (w.params.setOrder a ep) es)[i]?).map fun e=>(e.2,slot)) s):wpAny (model prog w) A (setNext a slot i ep) Q E s:=by unfold setNext;refine aa (x.state ?_);dsimp only;refine aa (ot ?_);rw[if_pos b,if_neg (by simp)];refine aa ?_;unfold setWalk;refine aa (x.state ?_);dsimp only;refine aa (ot ?_);rw[if_pos b];exact aa (wpAny_askSetting (ai (ai q)))
noncomputable def iV(t:SetTable):Nat->Nat
 | 0=>0
 | i+1=>(t.place.toList[i]?.getD 0)+1
theorem Ja(r:cz t.place.toList):∀{i:Nat},i<=t.place.size->SetTable.below t.place (iV t i)=i
 | 0,_=>by
  obtain⟨f,h2,h3⟩:=lF r 0;show SetTable.below t.place 0=0;rcases Nat.eq_zero_or_pos (SetTable.below t.place 0) with z | z
  .exact z
  .have d:0<t.place.toList.length:=by simp;lia
   exact absurd (h2 0 _ z (List.getElem?_eq_getElem d)) (Nat.not_lt_zero _)
 | i+1,g=>by
  have d:i<t.place.toList.length:=by simp;lia
  have e:=List.getElem?_eq_getElem d;obtain⟨f,h2,h3⟩:=lF r (iV t (i+1));have es:iV t (i+1)=t.place.toList[i]+1:=by show t.place.toList[i]?.getD 0+1=_;rw[e];rfl
  rw[es] at f h2 h3 ⊢;have h:i<SetTable.below t.place (t.place.toList[i]+1):=Nat.lt_of_not_le fun c=>by have:=h3 i _ c e;lia
  have j:¬ i+1<SetTable.below t.place (t.place.toList[i]+1):=fun c=>by
   have b:i+1<t.place.toList.length:=by simp;lia
   have g1:=h2 (i+1) _ c (List.getElem?_eq_getElem b);have g2:=r.lt (Nat.lt_succ_self i) e (List.getElem?_eq_getElem b);lia
  lia
theorem Jb{i:Nat}{Q:Option (Value×Nat)->Shared->Prop}(x:aZ s.heap a es ep t)(b:w.params.followText "set-order" = false)(hd:(!t.plain&&decide (es.size>1))=false)(r:cz t.place.toList)(j:t.led=true)(f:i<=es.size)
  (q:Q ((es[i]?).map fun e=>(e.2,iV t (i+1))) s):wpAny (model prog w) A (setNext a (iV t i) i ep) Q E s:=by
 have g:t.place.size=es.size:=by have:=x.fits;simp only[SetTable.fits,Bool.and_eq_true,beq_iff_eq] at this;exact this.1
 unfold setNext;refine aa (x.state ?_);dsimp only;refine aa (ot ?_);rw[if_neg (by rw[b];exact Bool.false_ne_true)];refine wpAny_ite_split (fun c=>absurd (show(!t.plain&&decide (es.size>1))=true from c) (by rw[hd];exact Bool.false_ne_true)) fun _=>?_;refine aa (show wpAny _ _ (if (!t.led&&!es.isEmpty)=true then unsupported "set:maker-not-led" else pure ()) _ _ _ from ?_);rw[j];refine ai ?_;rw[Ja r (by rw[g];exact f)];refine ai ?_;rcases Nat.lt_or_eq_of_le f with c | c
 .have d:es[i]? = some es[i]:=by simp[c]
  have h:t.place[i]? = some t.place[i]:=by simp[g,c]
  have k:t.place.toList[i]? = some t.place[i]:=by rw[Array.getElem?_toList];exact h
  rw[d] at q ⊢;rw[h];have l:iV t (i+1)=t.place[i]+1:=by show t.place.toList[i]?.getD 0+1=_;rw[k];rfl
  rw[l] at q;exact q
 .have d:es[i]? = none:=by simp[c]
  rw[d] at q ⊢;exact q
end
theorem fN:Slot "set_iterator" "__next__" "set_iterator.__next__":=
 .of (owner:="set_iterator") (n:="__next__") (by rw[typeLookup_type,builtinLookup_eq_fast];kernel_rfl) (by decide +kernel) (by decide +kernel) (by decide +kernel) (by first | exact .inl (by decide +kernel) | exact .inr (by decide +kernel)) (by rw[isSubtype_type];kernel_rfl)
theorem wU:Slot "set_iterator" "__iter__" "set_iterator.__iter__":=
 .of (owner:="set_iterator") (n:="__iter__") (by rw[typeLookup_type,builtinLookup_eq_fast];kernel_rfl) (by decide +kernel) (by decide +kernel) (by decide +kernel) (by first | exact .inl (by decide +kernel) | exact .inr (by decide +kernel)) (by rw[isSubtype_type];kernel_rfl)
theorem ou:entryFor table "set_iterator.__next__" = some Builtin.«set_iterator.__next__»:=entryFor_of_tree (by kernel_rfl)
theorem Jc:entryFor table "set_iterator.__iter__" = some Builtin.«dict_keyiterator.__iter__»:=entryFor_alias (id':="dict_keyiterator.__iter__") (by kernel_rfl) rfl (by decide +kernel) (by kernel_rfl)
theorem Jd:entryFor table "set.__iter__" = some Builtin.«frozenset.__iter__»:=entryFor_alias (id':="frozenset.__iter__") (by kernel_rfl) rfl (by decide +kernel) (by kernel_rfl)
theorem wV:Manifest.owners.lookup (String.ofList ['r','o','t','a','r','e','t','i','_','t','e','s'].reverse)=some Manifest.sig_set_iterator:=by kernel_rfl
theorem ov(a:Value):argsOk "set_iterator.__next__" ⟨[a],[]⟩:=by unfold argsOk;rw[signature?_of (id:="set_iterator.__next__") (n:=['_','_','t','x','e','n','_','_']) (o:=['r','o','t','a','r','e','t','i','_','t','e','s']) (by kernel_rfl) wV];kernel_rfl
theorem Je(a:Value):argsOk "set_iterator.__iter__" ⟨[a],[]⟩:=by unfold argsOk;rw[signature?_of (id:="set_iterator.__iter__") (n:=['_','_','r','e','t','i','_','_']) (o:=['r','o','t','a','r','e','t','i','_','t','e','s']) (by kernel_rfl) wV];kernel_rfl
def eH(h:Heap)(I a:Addr)(f:Value)(i n b:Nat):Prop:=∃o,h.get? I=some o/\o.cls=.type "set_iterator"/\o.data=.fields #[f,.int i 0,.ref a,.int n 0,.int b 0]
theorem eH.at'{h b:Heap}{I a:Addr}{f:Value}{i n c:Nat}(x:eH h I a f i n c)(k:∀o,h.get? I=some o->b.get? I=some o):eH b I a f i n c:=let⟨o,h1,h2⟩:=x;⟨o,k o h1,h2⟩
section
variable{prog:Program}{w:World}{A:Around}{E:Value->Shared->Prop}{s:Shared}{I a:Addr}{f:Value}{i n ep:Nat}{es:Array (Int×Value)}{t:SetTable}
theorem eH.typeIs(x:eH s.heap I a f i n ep):s.TypeIs (.ref I) "set_iterator":=let⟨o,h1,h2,_⟩:=x;⟨o,h1,h2⟩
theorem wW{Q:Value->Shared->Prop}(x:eH s.heap I a f i n ep)(q:Q (.ref I) s):wpAny (model prog w) A (pyIter (.ref I)) Q E s:=by refine wpAny_pyIter_slot x.typeIs wU (wpAny_call_entry wU x.typeIs Jc ?_ (Je _));exact aa (ai (ai ⟨_,rfl,"set_iterator",_,x.typeIs,fN.lookup,q⟩))
theorem Jf{h nx:Nat}{x:Value}{Q:Option Value->Shared->Prop}(it:eH s.heap I a (.int h 0) i es.size ep)(S:aZ s.heap a es ep t)
  (k:∀(A:Around) (l:Value->Shared->Prop) (j:Option (Value×Nat)->Shared->Prop),j (some (x,nx)) s->wpAny (model prog w) A (setNext a h i ep) j l s)
  (q:∀d,eH d I a (.int nx 0) (i+1) es.size ep->Heap.SameBut I s.heap d->Q (some x) { s with heap:=d }):wpAny (model prog w) A (pyNext (.ref I)) Q E s:=by
 obtain⟨o,e,m,hd⟩:=id it;unfold pyNext;refine aa (wpAny_attempt (wpAny_callSpecial?_slot (name:=Str.ofString "__next__") it.typeIs fN (wpAny_call_entry fN it.typeIs ou ?_ (ov _))));unfold Builtin.«set_iterator.__next__»;refine aa (ai ?_);dsimp only;refine aa (wpAny_fieldsOf e hd ?_);dsimp only;refine aa ?_;unfold setEntries;refine aa (S.state (ai ?_));rw[if_neg (by simp)];simp only[Int.toNat_natCast];refine aa (k _ _ _ ?_);dsimp only;refine aa (wpAny_setField e hd (by simp) ?_);have c:=Heap.get?_update_self (Obj.mapFields (·.setIfInBounds 0 (rawInt nx))) e (Obj.isFreed_of_fields (Obj.data_mapFields hd _));have b:=Obj.data_mapFields hd (·.setIfInBounds 0 (rawInt nx));refine aa (wpAny_setField c b (by simp) ?_);have g:=Heap.get?_update_self (Obj.mapFields (·.setIfInBounds 1 (rawInt ((i:Int)+1)))) c (Obj.isFreed_of_fields (Obj.data_mapFields b _));refine ai ⟨_,rfl,ai (q _ ⟨_,g,?_,?_⟩ ((Heap.SameBut.update ..).trans (Heap.SameBut.update ..)))⟩
 .rw[Obj.cls_mapFields,Obj.cls_mapFields];exact m
 .rw[Obj.data_mapFields b];simp[rawInt]
theorem Jg{c:Nat}{Q:Option Value->Shared->Prop}(h:A.handled=none)(it:eH s.heap I a (.int c 0) i es.size ep)(S:aZ s.heap a es ep t)
  (j:∀(A:Around) (k:Value->Shared->Prop) (d:Option (Value×Nat)->Shared->Prop),d none s->wpAny (model prog w) A (setNext a c i ep) d k s)
  (q:∀e,Heap.ExtBut I s.heap e->Q none { s with heap:=e }):wpAny (model prog w) A (pyNext (.ref I)) Q E s:=by
 obtain⟨o,g,l,hd⟩:=id it;unfold pyNext;refine aa (wpAny_attempt (wpAny_callSpecial?_slot (name:=Str.ofString "__next__") it.typeIs fN (wpAny_call_entry fN it.typeIs ou ?_ (ov _))));unfold Builtin.«set_iterator.__next__»;refine aa (ai ?_);dsimp only;refine aa (wpAny_fieldsOf g hd ?_);dsimp only;refine aa ?_;unfold setEntries;refine aa (S.state (ai ?_));rw[if_neg (by simp)];simp only[Int.toNat_natCast];refine aa (j _ _ _ ?_);dsimp only;refine aa (wpAny_setField g hd (by simp) ?_);refine aa ?_;simp only[newExc,newTuple];refine aa (wpAny_newObj_type ?_ (by size_fits));refine aa (m:=firstArgMember _ _) (wpAny_of_eq (a:=Value.none) (by first | rfl | (simp only[firstArgMember];rfl)) ?_);refine wpAny_newObj_type ?_ (by size_fits);simp only[raiseNew];refine aa (wpAny_handled ?_);rw[show A.in1.handled=none from h];refine aa (ai (wpAny_throw ?_));refine aa (wpAny_isInstance (T:="StopIteration") (b:=true) ⟨_,Heap.get?_push_size _ rfl,rfl⟩ isSubtype_stop ?_);exact ai (q _ (((Heap.SameBut.update ..).extBut.push _).push _))
end
section
variable{prog:Program}{w:World}{A:Around}{E:Value->Shared->Prop}{s:Shared}{I a T:Addr}{f:Value}{i n ep:Nat}{es:Array (Int×Value)}{t:SetTable}{ps:List Nat}
noncomputable abbrev gk(ps:List Nat):Obj:={ cls:=.type "tuple",data:=.seq (ps.map fun(p:Nat)=>Value.int p 0).toArray }
theorem Jh{p:Nat}{x:Int×Value}{Q:Option Value->Shared->Prop}(it:eH s.heap I a (.ref T) i es.size ep)(hT:s.heap.get? T=some (gk ps))(S:aZ s.heap a es ep t)(e:ps[i]? = some p)(g:es[p]? = some x)
  (q:∀b,eH b I a (.ref T) (i+1) es.size ep->Heap.SameBut I s.heap b->Q (some x.2) { s with heap:=b }):wpAny (model prog w) A (pyNext (.ref I)) Q E s:=by
 obtain⟨o,c,h,hd⟩:=id it;obtain⟨k,l⟩:=x;unfold pyNext;refine aa (wpAny_attempt (wpAny_callSpecial?_slot (name:=Str.ofString "__next__") it.typeIs fN (wpAny_call_entry fN it.typeIs ou ?_ (ov _))));unfold Builtin.«set_iterator.__next__»;refine aa (ai ?_);dsimp only;refine aa (wpAny_fieldsOf c hd ?_);dsimp only;refine aa ?_;unfold setEntries;refine aa (S.state (ai ?_));rw[if_neg (by simp)];refine aa ?_;unfold seqItems?;refine aa (wpAny_load hT (ai ?_));dsimp only;have j:(ps.map fun(p:Nat)=>Value.int p 0).toArray[(i:Int).toNat]? = some (.int p 0):=by rw[Int.toNat_natCast,List.getElem?_toArray,List.getElem?_map,e];rfl
 rw[j];dsimp only;refine aa ?_;unfold setNextDrawn;refine aa (S.state ?_);dsimp only;rw[if_neg (by simp),Int.toNat_natCast,g];refine ai ?_;refine aa (wpAny_setField c hd (by simp) ?_);have d:=Heap.get?_update_self (Obj.mapFields (·.setIfInBounds 1 (rawInt ((i:Int)+1)))) c (Obj.isFreed_of_fields (Obj.data_mapFields hd _));refine ai ⟨_,rfl,ai (q _ ⟨_,d,?_,?_⟩ (Heap.SameBut.update ..))⟩
 .rw[Obj.cls_mapFields];exact h
 .rw[Obj.data_mapFields hd];simp[rawInt]
theorem Ji{Q:Option Value->Shared->Prop}(h:A.handled=none)(it:eH s.heap I a (.ref T) i es.size ep)(hT:s.heap.get? T=some (gk ps))(S:aZ s.heap a es ep t)(j:ps[i]? = none)
  (q:∀g,Heap.ExtBut I s.heap g->Q none { s with heap:=g }):wpAny (model prog w) A (pyNext (.ref I)) Q E s:=by
 obtain⟨o,c,l,hd⟩:=id it;unfold pyNext;refine aa (wpAny_attempt (wpAny_callSpecial?_slot (name:=Str.ofString "__next__") it.typeIs fN (wpAny_call_entry fN it.typeIs ou ?_ (ov _))));unfold Builtin.«set_iterator.__next__»;refine aa (ai ?_);dsimp only;refine aa (wpAny_fieldsOf c hd ?_);dsimp only;refine aa ?_;unfold setEntries;refine aa (S.state (ai ?_));rw[if_neg (by simp)];refine aa ?_;unfold seqItems?;refine aa (wpAny_load hT (ai ?_));dsimp only;have k:(ps.map fun(p:Nat)=>Value.int p 0).toArray[(i:Int).toNat]? = none:=by rw[Int.toNat_natCast,List.getElem?_toArray,List.getElem?_map,j];rfl
 rw[k];dsimp only;refine aa (wpAny_setField c hd (by simp) ?_);have d:=Heap.get?_update_self (Obj.mapFields (·.setIfInBounds 0 (rawInt 0))) c (Obj.isFreed_of_fields (Obj.data_mapFields hd _));have e:=Obj.data_mapFields hd (·.setIfInBounds 0 (rawInt 0));refine aa (wpAny_setField d e (by simp) ?_);refine aa ?_;simp only[newExc,newTuple];refine aa (wpAny_newObj_type ?_ (by size_fits));refine aa (m:=firstArgMember _ _) (wpAny_of_eq (a:=Value.none) (by first | rfl | (simp only[firstArgMember];rfl)) ?_);refine wpAny_newObj_type ?_ (by size_fits);simp only[raiseNew];refine aa (wpAny_handled ?_);rw[show A.in1.handled=none from h];refine aa (ai (wpAny_throw ?_));refine aa (wpAny_isInstance (T:="StopIteration") (b:=true) ⟨_,Heap.get?_push_size _ rfl,rfl⟩ isSubtype_stop ?_);exact ai (q _ ((((Heap.SameBut.update ..).trans (Heap.SameBut.update ..)).extBut.push _).push _))
theorem Jj(hh:A.handled=none)(hne:I≠a){sl:Nat->Nat}{vs:List Value}(hz:vs.length=es.size)
  (item:∀(i:Nat) (s:Shared) (A:Around) (E:Value->Shared->Prop) (Q:Option (Value×Nat)->Shared->Prop),i<=es.size->aZ s.heap a es ep t->Q (vs[i]?.map fun v=>(v,sl (i+1))) s->wpAny (model prog w) A (setNext a (sl i) i ep) Q E s) :
  Walks prog w A I [I,a] [I] es.size (fun i v=>vs[i]? = some v) (fun i h=>eH h I a (.int (sl i) 0) i es.size ep/\aZ h a es ep t) where
 sub:=fun b hb=>by simp at hb;simp[hb]
 frame:=fun _ _ _ st hk=>⟨st.1.at' fun o e=>hk I (by simp) o e,st.2.at' fun o e=>hk a (by simp) o e⟩
 item:=fun i s Q E hi st hQ=>by
  obtain⟨v,hv⟩:∃v,vs[i]? = some v:=⟨_,List.getElem?_eq_getElem (by lia)⟩
  refine Jf st.1 st.2 (x:=v) (nx:=sl (i+1)) (fun A' E' Q' q=>item i s A' E' Q' (by lia) st.2 (by rw[hv];exact q)) fun h' it sb=>?_;exact hQ v h' s.toks hv ⟨it,st.2.at' fun o e=>by rw[sb.2 a hne.symm];exact e⟩ fun b o hb e=>by rw[sb.2 b (fun z=>hb (by simp[z]))];exact e
 done:=fun s Q E st hQ=>by refine Jg hh st.1 st.2 (fun A' E' Q' q=>item es.size s A' E' Q' (aE _) st.2 (by rw[List.getElem?_eq_none (by lia)];exact q)) fun h' sb=>?_;exact hQ h' s.toks fun b o hb e=>sb b o (fun z=>hb (by simp[z])) e
 self:=fun i s Q E st q=>wW st.1 q
theorem Jk(hh:A.handled=none)(hne:I≠a)(hnT:I≠T){vs:List Value}(hz:ps.length=es.size)(hv:∀(i:Nat) (v:Value),vs[i]? = some v->∃p x,ps[i]? = some p/\es[p]? = some x/\x.2=v)(hvl:vs.length=es.size) :
  Walks prog w A I [I,a,T] [I] es.size (fun i v=>vs[i]? = some v) (fun i h=>eH h I a (.ref T) i es.size ep/\h.get? T=some (gk ps)/\aZ h a es ep t) where
 sub:=fun b hb=>by simp at hb;simp[hb]
 frame:=fun _ _ _ st hk=>⟨st.1.at' fun o e=>hk I (by simp) o e,hk T (by simp) _ st.2.1,st.2.2.at' fun o e=>hk a (by simp) o e⟩
 item:=fun i s Q E hi st hQ=>by
  obtain⟨v,e0⟩:∃v,vs[i]? = some v:=⟨_,List.getElem?_eq_getElem (by lia)⟩
  obtain⟨p,x,e1,e2,rfl⟩:=hv i v e0;refine Jh st.1 st.2.1 st.2.2 e1 e2 fun h' it sb=>?_;exact hQ x.2 h' s.toks e0 ⟨it,by rw[sb.2 T hnT.symm];exact st.2.1,st.2.2.at' fun o e=>by rw[sb.2 a hne.symm];exact e⟩ fun b o hb e=>by rw[sb.2 b (fun z=>hb (by simp[z]))];exact e
 done:=fun s Q E st hQ=>by refine Ji hh st.1 st.2.1 st.2.2 (by rw[List.getElem?_eq_none (by lia)]) fun h' sb=>?_;exact hQ h' s.toks fun b o hb e=>sb b o (fun z=>hb (by simp[z])) e
 self:=fun i s Q E st q=>wW st.1 q
end
section
variable{prog:Program}{w:World}{A:Around}{E:Value->Shared->Prop}{s:Shared}{a:Addr}{ep:Nat}{es:Array (Int×Value)}{t:SetTable}
theorem Jl(f:aZ s.heap a es ep t)(Z:cz t.place.toList)(hl:t.led=ledW w)(G:es.size<=sizeLine){Q:Value->Shared->Prop}
  (q:∀(I:Addr) (N:List Addr) (h:List Value) (St:Nat->Heap->Prop) (H:Heap) (d:Drawn),h.Perm (es.toList.map (·.2))->(∀b u,s.heap.get? b=some u->H.get? b=some u)->(∀b∈N,b=a\/s.heap.objs.size<=b)->s.heap.objs.size<=I->
   (∀C:Around,C.handled=none->Walks prog w C I N [I] es.size (fun i v=>h[i]? = some v) St)->St 0 H->Q (.ref I) { s with heap:=H,drawn:=d }):wpAny (model prog w) A (pyIter (.ref a)) Q E s:=by
 refine wpAny_pyIter_slot f.typeIs PySem.F.slot_set_iter (wpAny_call_entry PySem.F.slot_set_iter f.typeIs Jd ?_ (PySem.F.args_set_iter_1 _));unfold Builtin.«frozenset.__iter__»;refine aa (show wpAny _ _ (pure a) _ _ _ from ai ?_);refine aa ?_;unfold Builtin.Frozenset.sizeOf setEntries;refine aa (aa (f.state (ai (ai ?_))));refine aa ?_;unfold setDrawn;refine aa (f.state (aa (ot (ai ?_))));have lt:=f.lt;have fin:∀(n:Nat->Nat) (h:List Value),n 0=0->h.Perm (es.toList.map (·.2))->(∀(i:Nat) (s:Shared) (A:Around) (E:Value->Shared->Prop) (Q:Option (Value×Nat)->Shared->Prop),i<=es.size->aZ s.heap a es ep t->Q (h[i]?.map fun v=>(v,n (i+1))) s->wpAny (model prog w) A (setNext a (n i) i ep) Q E s)->
   wpAny (model prog w) A.in1 (do let v <-setEpoch a;let u <-newFields "set_iterator" [rawInt 0,rawInt 0,.ref a,rawInt es.size,rawInt v];ret u) (fun fin O=>∃r,fin=.done (.ret r)/\∃R r',O.TypeIs r R/\typeLookup (.type R) "__next__" = pure (some r')/\Q r O) E s:=fun n h h0 k item=>by
  refine aa ?_;unfold setEpoch;refine aa (f.state (ai ?_));refine aa (wpAny_newObj_type ?_);have hz:h.length=es.size:=by rw[k.length_eq];simp
  refine ai ⟨_,rfl,"set_iterator",_,⟨_,Heap.get?_push_size _ rfl,rfl⟩,fN.lookup,?_⟩;refine q s.heap.objs.size [s.heap.objs.size,a] h _ _ s.drawn k (fun b u e=>aF _ e) (fun b m=>?_) (aE _) (fun C J=>Jj J (Nat.ne_of_gt lt) (sl:=n) hz item) ⟨⟨_,Heap.get?_push_size _ rfl,rfl,?_⟩,f.at' fun o e=>aF _ e⟩
  .rcases List.mem_cons.mp m with rfl | m
   .exact .inr (aE _)
   .exact .inl (List.mem_singleton.mp m)
  .rw[h0];rfl
 cases b:w.params.followText "set-order" with
 | true=>
  refine wpAny_ite_split (fun c=>by cases c) fun _=>aa (ai ?_);refine fin (fun _=>0) ((pickOrder (w.params.setOrder a ep) es).toList.map (·.2)) rfl ((IY _ _).map _) fun i s A E Q S f q=>IZ f b ?_;rw[List.getElem?_map,Array.getElem?_toList] at q;cases e:(pickOrder (w.params.setOrder a ep) es)[i]? with
  | none=>rw[e] at q;exact q
  | some x=>rw[e] at q;exact q
 | false=>
  have y:t.led=true:=by rw[hl];unfold ledW;rw[b];rfl
  cases d:(!t.plain&&decide (es.size>1)) with
  | false=>
   refine wpAny_ite_split (fun c=>?_) fun _=>aa (ai ?_)
   .have:(!t.plain&&decide (es.size>1))=true:=c;rw[d] at this;cases this
   .refine fin (iV t) (es.toList.map (·.2)) rfl (.refl _) fun i s A E Q S f q=>Jb f b d Z y S ?_;rw[List.getElem?_map,Array.getElem?_toList] at q;cases e:es[i]? with
    | none=>rw[e] at q;exact q
    | some x=>rw[e] at q;exact q
  | true=>
   refine wpAny_ite_split (fun _=>?_) fun c=>absurd (show(!t.plain&&decide (es.size>1))=true from d) c;refine aa (wT es.size (List.range es.size) s _ (by simp) fun g U k=>?_);have L:g.length=es.size:=by rw[k.length_eq];simp
   refine aa (wpAny_newTuple ?_ (by rw[List.length_map,L];exact G));have z:aZ (s.heap.push (gk g)) a es ep t:=f.at' fun o e=>aF _ e;refine aa ?_;unfold setEpoch;refine aa (aZ.state (s:={ s with heap:=s.heap.push (gk g),drawn:=U }) z (ai ?_));refine aa (wpAny_newObj_type ?_);have D:(s.heap.push (gk g)).objs.size=s.heap.objs.size+1:=Heap.size_push ..;refine ai ⟨_,rfl,"set_iterator",_,⟨_,Heap.get?_push_size _ rfl,rfl⟩,fN.lookup,?_⟩;have M:∀p∈g,p<es.size:=fun p hm=>List.mem_range.mp (k.mem_iff.mp hm);have hT:((s.heap.push (gk g)).push { cls:=.type "set_iterator",data:=.fields [Value.ref s.heap.objs.size,rawInt 0,.ref a,rawInt es.size,rawInt ep].toArray }).get? s.heap.objs.size=some (gk g):=aF _ (Heap.get?_push_size _ rfl);have pm:(g.map fun p=>(es.toList.map (·.2))[p]?.getD .none).Perm (es.toList.map (·.2)):=by
    refine(k.map _).trans (.of_eq ?_);have key:∀l:List Value,(List.range l.length).map (fun p=>l[p]?.getD .none)=l:=fun l=>by apply List.ext_getElem (by simp);intro j Y h2;simp at Y ⊢;simp[Y]
    have:=key (es.toList.map (·.2))
    rwa [List.length_map,Array.length_toList] at this
   refine q (s.heap.push (gk g)).objs.size [(s.heap.push (gk g)).objs.size,a,s.heap.objs.size] (g.map fun p=>(es.toList.map (·.2))[p]?.getD .none) _ _ U pm (fun b u e=>aF _ (aF _ e)) (fun b m=>?_) (by rw[D];exact Nat.le_succ _)
    (fun C J=>Jk (T:=s.heap.objs.size) (ps:=g) J (by rw[D];exact Nat.ne_of_gt (Nat.lt_succ_of_lt lt)) (by rw[D];exact Nat.succ_ne_self _) L (fun i v e=>?_) (by rw[List.length_map,L])) ⟨⟨_,Heap.get?_push_size _ rfl,rfl,rfl⟩,hT,z.at' fun o e=>aF _ e⟩
   .simp only[List.mem_cons,List.not_mem_nil,or_false] at m;rcases m with rfl | rfl | rfl
    .exact .inr (by rw[D];exact Nat.le_succ _)
    .exact .inl rfl
    .exact .inr (aE _)
   .rw[List.getElem?_map] at e;obtain⟨p,X,e2⟩:=Option.map_eq_some_iff.mp e;have B:=M p (List.mem_of_getElem? X);refine⟨p,es[p],X,by simp[B],?_⟩;rw[<-e2,List.getElem?_map,Array.getElem?_toList];simp[B]
theorem Jm{Q:Bool->Shared->Prop}(hT:s.TypeIs (.ref a) "set")(h:∀b,Q b s):wpAny (model prog w) A (Builtin.List.listLengthHint (.ref a)) Q E s:=by
 unfold Builtin.List.listLengthHint;refine aa (wpAny_specialOf hT PySem.F.slot_set_len.lookup ?_);generalize hid:("set.__len__":String)=c
 wp_delta
 rw[show splitId c=some ("set","__len__") from by subst hid;decide +kernel];subst hid;refine aa (wpAny_isInstance (T:="set") (b:=true) hT (by rw[isSubtype_type];kernel_rfl) ?_);refine wpAny_ite_split (fun z=>absurd z (by decide)) (fun _=>?_);refine wpAny_ite_split (fun _=>?_) (fun z=>absurd (by decide +kernel) z);exact aa (wpAny_typeOf hT (ai (h _)))
theorem Jn{R:List Value->Shared->Prop}(U:A.handled=none)(X:aZ s.heap a es ep t)(hr:cz t.place.toList)(hl:t.led=ledW w)(x:es.size<=sizeLine)
  (h:∀(Y:Heap) (tk:Nat) (d:Drawn) (u:List Value),(∀b o,s.heap.get? b=some o->Y.get? b=some o)->u.Perm (es.toList.map (·.2))->R u { s with heap:=Y,toks:=tk,drawn:=d }):wpAny (model prog w) A (collect (.ref a)) R E s:=by
 have lt:=X.lt;unfold collect;refine aa (wpAny_runValue (codeAny_builtin entry_proto_collect' ?_));rw[Around.under_plainId PySem.F.plain_proto_collect _];refine aa (wpAny_newObj_type (T:="list") (data:=.seq ([]:List Value).toArray) ?_);refine ai ⟨plainId_quiet PySem.F.plain_list_iadd _,codeAny_builtin entry_list_iadd' ?_⟩;rw[Around.under_plainId PySem.F.plain_list_iadd _];have hS:(s.heap.push { cls:=.type "list",data:=.seq ([]:List Value).toArray }).get? s.heap.objs.size=some { cls:=.type "list",data:=.seq #[] }:=Heap.get?_push_size _ rfl;have Z:(s.heap.push { cls:=.type "list",data:=.seq ([]:List Value).toArray }).objs.size=s.heap.objs.size+1:=Heap.size_push ..;have p:aZ (s.heap.push { cls:=.type "list",data:=.seq ([]:List Value).toArray }) a es ep t:=X.at' fun o e=>aF _ e;show wpAny _ A.in1 (Builtin.List.listExtendWith (.ref s.heap.objs.size) (.ref a) (.ref s.heap.objs.size)) _ _ _;unfold Builtin.List.listExtendWith;refine aa (wpAny_typeOf (T:="set") (aZ.typeIs (s:={ s with heap:=_ }) p) ?_);have h1:Builtin.List.listSameRef (.ref s.heap.objs.size) (.ref a)=false:=by simp[Builtin.List.listSameRef,Nat.ne_of_gt lt]
 have h2:(Value.type "set"==Value.type "list")=false:=by decide
 have h3:(Value.type "set"==Value.type "tuple")=false:=by decide
 simp only[h1,h2,h3,Bool.or_false,Bool.false_eq_true,if_false];refine aa (Jl (s:={ s with heap:=s.heap.push { cls:=.type "list",data:=.seq ([]:List Value).toArray } }) p hr hl x fun I fp u St g d hp D G hI hW st=>?_);have q:=D _ _ hS;have y:s.heap.objs.size∉fp:=fun C=>by
  rcases G _ C with c | c
  .exact absurd c (Nat.ne_of_gt lt)
  .have H:s.heap.objs.size+1<=s.heap.objs.size:=by rw[<-Z];exact c
   lia
 have key:∀(B:Heap) (J:Nat),St 0 B->(∀b o,b≠s.heap.objs.size->g.get? b=some o->B.get? b=some o)->B.get? s.heap.objs.size=some { cls:=.type "list",data:=.seq #[] J }->
   codeAny (model prog w) A (.builtin "list.extend.loop" ⟨[.ref s.heap.objs.size,.ref I,.ref s.heap.objs.size],[]⟩) (fun r L=>match r with
    | .ok (.ret v)=>wpAny (model prog w) A (match v with
      | .ref l=>do match (<-load l).data with
       | .seq xs _=>pure xs.toList
       | _=>unsupported "internal:collect"
      | _=>unsupported "internal:collect") R E L
    | _=>False) { s with heap:=B,drawn:=d }:=fun B J M N O=>by
  refine codeAny_extend_loopS (hW A.in1 U).toS x s.heap.objs.size y _ es.size 0 _ #[] J rfl (Nat.zero_le _) M O (ItemsOf.nil _) fun s' i H C k f=>?_;dsimp only;refine aa (wpAny_load k (ai ?_));rw[Moved.eq_with C];have ev:i.toList=u:=by
   apply List.ext_getElem?;intro j;rcases Nat.lt_or_ge j es.size with c | c
   .have hj:j<i.size:=by rw[f.1];exact c
    have e1:i[j]? = some i[j]:=by simp[hj]
    rw[Array.getElem?_toList,e1];exact(f.2 j _ e1).symm
   .have:u.length=es.size:=by rw[hp.length_eq];simp
    rw[List.getElem?_eq_none (by simp[f.1];exact c),List.getElem?_eq_none (by lia)]
  rw[ev];refine h s'.heap s'.toks d u (fun b o e=>?_) hp;have n:=aR e;refine C.heap b o (fun z=>?_) (N b o (Nat.ne_of_lt n) (D b o (aF _ e)));rcases List.mem_cons.mp z with z | z
  .exact absurd z (Nat.ne_of_lt n)
  .have H:s.heap.objs.size+1<=I:=by rw[<-Z];exact hI
   rw[List.mem_singleton.mp z] at n;exact absurd n (Nat.not_lt.mpr (Nat.le_of_succ_le H))
 refine aa (wpAny_holding (Jm (aZ.typeIs (s:={ s with heap:=g,drawn:=d }) (p.at' fun o e=>D a o e)) fun bb=>?_));refine wpAny_ite_split (fun _=>?_) fun _=>ai ⟨plainId_quiet PySem.F.plain_extend_loop _,codeAny_mono (key g _ st (fun b o _ e=>e) q) fun r L z=>?_⟩
 .refine aa (wpAny_rule (aa ?_));refine aa (m:=updateSeq s.heap.objs.size (·.push .none)) (wpAny_updateSeq q rfl ?_);have k:=Heap.get?_update_self (Obj.mapSeq (·.push Value.none)) q rfl;refine wpAny_updateSeq (hz:=by seq_fits) k rfl ?_;have Q:=Heap.get?_update_self (Obj.mapSeq (·.pop)) k rfl;have oth:∀b o,b≠s.heap.objs.size->g.get? b=some o->((g.update s.heap.objs.size (Obj.mapSeq (·.push Value.none))).update s.heap.objs.size (Obj.mapSeq (·.pop))).get? b=some o:=fun b o n e=>(Heap.get?_update_other _ _ (Ne.symm n)).trans ((Heap.get?_update_other _ _ (Ne.symm n)).trans e);refine ai ⟨plainId_quiet PySem.F.plain_extend_loop _,codeAny_mono (key _ _ ((hW A.in1 U).frame 0 _ _ st fun b n o e=>oth b o (fun z=>y (z▸n)) e) oth Q) fun r L z=>?_⟩;cases r with
  | error e=>exact z.elim
  | ok S=>
   cases S with
   | ret v=>exact z
   | _=>exact z.elim
 .cases r with
  | error e=>exact z.elim
  | ok S=>
   cases S with
   | ret v=>exact z
   | _=>exact z.elim
end
section
variable{prog:Program}{w:World}{A:Around}{E:Value->Shared->Prop}{s:Shared}{a:Addr}{o:Obj}{ks:List Int}
theorem sorted_set{Q:Value->Shared->Prop}(I:A.handled=none)(J:s.heap.get? a=some o)(L:SetO prog w o (ledW w) ks)
  (h:∀(i C:Heap) (k:Nat) (d:Drawn) (c:List Value) (m:Nat),(∀b u,s.heap.get? b=some u->i.get? b=some u)->(∀b u,i.get? b=some u->C.get? b=some u)->(∀v∈c,∃n t,v=.int n t)->(c.map numOf).Perm ks->c.Pairwise (fun x y=>lexLe (rkH i x) (rkH i y)=true)->C.get? i.objs.size=some (seqObj "list" c.toArray m)->Q (.ref i.objs.size) { s with heap:=C,toks:=k,drawn:=d }) :
  wpAny (model prog w) A (call (.builtin "sorted") [.ref a]) Q E s:=by
 obtain⟨Y,Z,t,M,hd,p,rfl,l,N,O,R⟩:=L;refine Calls.call_function_entry kind_sorted plain_sorted entry_sorted (args_sorted1 _) ?_;unfold Builtin.«sorted»;refine aa (m:=checkCount "sorted" 1 1 _) (ai ?_);have j:Y.size<=sizeLine:=fits_of_scanBound l;refine aa (Jn (A:=A.in1) I ⟨⟨o,J,M,hd⟩,N⟩ O R j fun g k d f S r=>?_);have D:∀v∈f,∃n t,v=.int n t:=fun v z=>by obtain⟨e,T,rfl⟩:=List.mem_map.mp (r.mem_iff.mp z);obtain⟨t,U⟩:=wO p T;exact⟨_,t,U⟩
 have G:f.length<=sizeLine:=by rw[r.length_eq,List.length_map,Array.length_toList];exact j
 refine aa (wpAny_newList ?_ G);have iu:(g.push (seqObj "list" f.toArray 0)).get? g.objs.size=some (seqObj "list" f.toArray 0):=Heap.get?_push_size _ rfl;have l:∀b o,g.get? b=some o->b≠g.objs.size/\(g.push (seqObj "list" f.toArray 0)).get? b=some o:=fun b o e=>⟨Nat.ne_of_lt (aR e),aF _ e⟩
 refine aa (wpAny_holding (wpAny_call_entry slot_list_sort ⟨_,iu,rfl⟩ entry_list_sort (wG (s:={ s with heap:=g.push (seqObj "list" f.toArray 0),toks:=k,drawn:=d }) iu G (runs_any _) (kok_ints (h0:=g) D) l fun c H X=>⟨_,rfl,?_⟩) (args_list_sort _)));refine ai ⟨_,rfl,?_⟩;obtain⟨B,jb⟩:∃B,((g.push (seqObj "list" f.toArray 0)).update g.objs.size (Obj.mapSeq fun _=>#[])).get? g.objs.size=some (seqObj "list" #[] B):=⟨_,get?_update_seq iu fun _=>#[]⟩
 have pU:((((g.push (seqObj "list" f.toArray 0)).update g.objs.size (Obj.mapSeq fun _=>#[])).push (seqObj "tuple" f.toArray 0)).push (seqObj "list" #[] 0)).get? g.objs.size=some (seqObj "list" #[] B):=aF _ (aF _ jb);refine h g _ k d c _ S (fun b o e=>?_) (fun v z=>D v (H.mem_iff.mp z)) ?_ X (get?_update_seq pU fun _=>c.toArray)
 .have q:=l b o e;unfold sortedHeap;rw[Heap.get?_update_ne _ _ _ _ q.1];refine aF _ (aF _ ?_);rw[Heap.get?_update_ne _ _ _ _ q.1];exact q.2
 .refine((H.trans r).map numOf).trans (.of_eq ?_);rw[List.map_map];rfl
end
end L2.TS
namespace L2
open PySem PySem.Spec PyProof.Rows
theorem Inv.drew{X:Cx}{a:List (Addr×Obj)}{Y:St}{H:Hp}{s:Shared}(I:Inv X a Y H s)(d:Drawn):Inv X a Y H { s with drawn:=d }:=⟨I.ok,I.os,I.bare,I.base,I.loc,I.cell,I.free,I.freeC,I.pin,I.hok,I.len⟩
end L2
namespace L2.L3
open PySem PySem.Spec PyProof.Rows PySem.W
noncomputable def sA(P:Program)(w:World)(a:Addr)(c:List Int):HO:=.ext fun h=>∃o b,h.get? a=some o/\TS.SetO P w o (TS.ledW w) b/\b.Perm (TS.onceI c)
noncomputable def wX(P:Program)(w:World)(K:Frag):List V->Hp->VK->Prop:=fun b H Q=>∃p a,b=[.ref p]/\cA K H p (a.map V.int)/\a.length+1<scanBound/\∀l,H l=none->Q (.ref l) (aS H l (sA P w l a))
noncomputable def wY(P:Program)(w:World):List V->Hp->VK->Prop:=fun b H Q=>∃p a,b=[.ref p]/\H p=some (sA P w p a)/\∀l,H l=none->Q (.ref l) (aS H l (.lst ((bO (TS.onceI a)).map V.int)))
section
variable{X:Cx}
theorem Jo{h:Heap}{d:List Value}{i:List Int}(f:∀v∈d,∃n t,v=.int n t)(j:(d.map numOf).Perm i)(k:d.Pairwise (fun x y=>TS.lexLe (TS.rkH h x) (TS.rkH h y)=true)):aM ((bO i).map V.int) d:=by
 have m:d.map numOf=bO i:=by
  refine List.Perm.eq_of_pairwise (le:=fun a b=>decide (a<=b)=true) (fun a b _ _ o p=>by simp at o p;lia) ?_ (List.pairwise_mergeSort (fun a b c o p=>by simp at *;lia) (fun a b=>by simp;lia) i) (j.trans (List.mergeSort_perm _ _).symm);rw[List.pairwise_map];refine List.Pairwise.imp_of_mem (fun {x y} q r h=>?_) k;obtain⟨a,t,rfl⟩:=f x q;obtain⟨b,u,rfl⟩:=f y r;refine decide_eq_true (show a<=b from ?_);have g:TS.lexLe [a] [b]=true:=h;unfold TS.lexLe at g;rw[HT.lexLt_cons] at g
  by_cases e:b=a
  .exact Int.le_of_eq e.symm
  .rw[if_neg e] at g
   by_cases s:b<a
   .simp[s] at g
   .omega
 rw[<-m];clear m j k
 induction d with
 | nil=>exact .nil
 | cons v l w=>obtain⟨n,t,rfl⟩:=f v List.mem_cons_self;exact .cons ⟨t,rfl⟩ (w fun u z=>f u (bh _ z))
theorem Jp{P:Program}{w:World}{H:Hp}{h:Heap}{a:Addr}{d b:List Int}{o:Obj}(c:h.get? a=some o)(e:TS.SetO P w o (TS.ledW w) b)(f:b.Perm (TS.onceI d)):bK P w H h a (sA P w a d):=
 ⟨⟨o,b,c,e,f⟩,⟨o,c⟩,fun _ _ ⟨o,b,h1,h2⟩ k=>⟨o,b,k o h1,h2⟩⟩
theorem Jq(b:X.calm=true):dQ X (.type "set") (wX X.prog X.w X.K):=by intro a s Y H t v Q I r h;obtain⟨p,ns,rfl,c,d,q⟩:=h;obtain⟨u,rfl,e⟩:=vals1 r;cases e;obtain⟨f,g,i,x⟩:=I.list c;refine TS.call_set (I.ok.hd b) i.isList (by simpa using rX g) d fun y j o z n k l m=>?_;exact⟨.ref s.heap.objs.size,_,I.laid (t':=j) n (aE _) (Jp k l m),rfl,q _ (I.hok.fresh (aE _))⟩
theorem Jr(l:X.calm=true):dQ X (.builtin "sorted") (wY X.prog X.w):=by
 intro a s Y H L M Q I r h;obtain⟨p,ns,rfl,n,q⟩:=h;obtain⟨u,rfl,v⟩:=vals1 r;cases v;obtain⟨⟨o,N,x,g,y⟩,_⟩:=I.hok p _ n;refine TS.sorted_set (I.ok.hd l) x g fun k J b d c m z A B i C e=>?_;have rel:=Jo B (i.trans y) C;have j:Inv X a Y H { s with heap:=k,toks:=b,drawn:=d }:=(I.kept (t':=b) z).drew d;have D:((bO (TS.onceI ns)).map V.int).length<=sizeLine:=by obtain⟨es,O,t,T,hd,E,rfl,G,U,hr,hl⟩:=g;rw[rel.length,<-List.length_map (f:=numOf),i.length_eq,List.length_map,Array.length_toList];exact fits_of_scanBound G
 exact⟨.ref k.objs.size,_,j.laid (t':=b) A (aE _) (show bK X.prog X.w _ J _ (.lst ((bO (TS.onceI ns)).map V.int)) from⟨D,c,m,rel,e⟩),rfl,q _ (j.hok.fresh (aE _))⟩
end
theorem wZ{G:Hp}:∀{c:List Int}{d:List V},aC G d (c.map PyData.int)->d=c.map V.int
 | [],_,h=>by cases h;rfl
 | n::c,_,h=>by
  cases h with
  | cons a b=>rw[a.int_inv,wZ b];rfl
noncomputable def ow(b:List PyData):Option (List Int):=match b with
 | [.list c]=>(fm c).bind fun a=>if a.length<4000 then some a else none
 | _=>none
theorem Js{K:Frag}{O:List Addr}{H:Hp}{d:List V}{f:List PyData}{b:List Int}(hd:aC (aj O H) d f)(e:ow f=some b):∃a,d=[.ref a]/\cA K H a (b.map V.int)/\b.length+1<scanBound:=by
 unfold ow at e;split at e
 .rename_i j;obtain⟨k,i,c⟩:=Option.bind_eq_some_iff.mp e;split at c
  .rename_i l;cases c;obtain⟨x,rfl,h1⟩:=fE hd;obtain⟨a,m,rfl,g,h⟩:=h1.lst_inv;rw[rW i] at h;rw[wZ h] at g;exact⟨a,rfl,.of (cE g).1,show b.length+1<4096 by lia⟩
  .cases c
 .cases e
noncomputable def lG(a:List PyData):Option PyData:=(ow a).map fun b=>.list ((bO (TS.onceI b)).map PyData.int)
noncomputable def sB:DN:=fun a Q=>∃d,lG a=some d/\Q d
theorem Jt:FN sB lG:=fun a d Q e q=>⟨d,e,q⟩
theorem xa{P:Program}{w:World}{K:Frag}:fX (fun xs H Q=>wX P w K xs H fun v H1=>wY P w [v] H1 Q) sB where
 mn:=fun _ _ _ k ⟨d,e,q⟩=>⟨d,e,k _ q⟩
 ok:=fun O H vs xs Q hO hd q=>by obtain⟨d,e,q⟩:=q;obtain⟨ns,e1,rfl⟩:=Option.map_eq_some_iff.mp e;obtain⟨a,rfl,sq,hl⟩:=Js (K:=K) hd e1;refine⟨a,ns,rfl,sq,hl,fun l h1=>⟨l,ns,rfl,cU,fun l2 h2=>?_⟩⟩;have hn:H l2=none:=(bC h1).free h2;exact q _ _ ((bC h1).trans (bC h2)) (gz h2 (hO l2 hn) (sk _))
section
variable{X:Cx}{F:Fx}{e:Expr}{tA:cF}{pos p pos2 p2:Pos}
theorem xb:bootBuiltins "set" = some (.type "set"):=by decide +kernel
theorem Ju(h:X.calm=true)(i:Gl X "sorted")(j:X.mg "sorted" = none)(c:Gl X "set")(d:X.mg "set" = none)(f:DA X F [e] tA)
  (k:autoParam (starEach [e] X.env=(false,eval e X.env)::starEach [] X.env) Zq._auto_1) (g:autoParam ((backTo pos2 (starEach [] X.env)).any (·.1)=false) Zq._auto_1)
  (a:autoParam (starEach [.Call (.Name "set" p2) [e] [] pos2] X.env=(false,eval (.Call (.Name "set" p2) [e] [] pos2) X.env)::starEach [] X.env) Zq._auto_1) (b:autoParam ((backTo pos (starEach [] X.env)).any (·.1)=false) Zq._auto_1) :
  DE X F (.Call (.Name "sorted" p) [.Call (.Name "set" p2) [e] [] pos2] [] pos) (jx sB tA):=
 ⟨qQ (xa (P:=X.prog) (w:=X.w) (K:=X.K)) f.mn,(iD (Jr h) i j (show bootBuiltins "sorted" = some (.builtin "sorted") by decide +kernel) (eL (qo (Jq h) c d xb f.pa (by decide) (by decide) k g) eX a) (by decide) (by decide) a b).imp (qP (xa (P:=X.prog) (w:=X.w) (K:=X.K)) f.mn)⟩
end
end L2.L3
namespace L2.L3
open PySem PySem.Spec PyProof.Rows
def CK(P:Program)(w:World)(K:Frag)(mg:Str->Option Value)(base:Heap)(k:Nat)(x:Str)(f:FM):Prop:=∃st a g fd,FD K mg x st a g fd/\bV P w K mg base (dX P w) k g fd a (gE K mg f)
section
variable{P:Program}{w:World}{K:Frag}{mg:Str->Option Value}{base:Heap}{C:Addr}{k:Nat}{x q:Str}{st:Stmt}{ps:List Str}{m:SM}
theorem cG(N:List Str)(h:∃g fd,FD K mg x st ps g fd)(S:bI N ps (dS st))
  (c:∀{g:Addr}{b:Value}{A:Around}{a:List Env}{s:Shared}{H:Hp}{E:XK}{F:Fx}{d:Str->ag->Prop},bq k (A.deeper (envOfC x (dS st) s.heap.objs.size g b))->gB (fT (dX P w) P w K mg base N x (dS st) g b A a s H E) F d->
   hV (fT (dX P w) P w K mg base N x (dS st) g b A a s H E) F d (gX st) m) (e:autoParam (ps.length<=N.length) Zr._auto_1):CK P w K mg base (k+1) x (bL ps.length N.length m):=by
 obtain⟨g,fd,D⟩:=h;have q:=uG (P:=P) (w:=w) (mg:=mg) (base:=base) D.fn S e (fun _ _ _ _ _ _ _ _ f i=>c f i);exact⟨_,_,g,fd,D,q⟩
end
section
variable{X:Cx}{F:Fx}{E:Str->ag->Prop}{e:Expr}{es:List Expr}{pos p p1 apos:Pos}{x m:Str}{C:Addr}{i k j:Nat}{f:FM}{mX:XM (List AX)}
theorem bo(d:gB X F E)(c:CK X.prog X.w X.K X.mg X.base k x f)(h:bq j X.A)(l:FX X F E (e::es) mX)(n:autoParam (k<=j) Zr._auto_1)(o:autoParam (Gl X x) Zq._auto_1)(a:autoParam ((x==("__debug__":Str))=false) Zr._auto_1)
  (q:autoParam (starEach (e::es) X.env=(false,eval e X.env)::starEach es X.env) Zq._auto_1) (b:autoParam ((backTo pos (starEach es X.env)).any (·.1)=false) Zq._auto_1):FO X F E (.Call (.Name x p) (e::es) [] pos) (aW f mX):=by
 obtain⟨st,r,g,fd,D,G⟩:=c;exact nK d G D h l n o a q b
end
theorem xc{l:List Str}(h:decide l.Nodup=true):l.Nodup:=of_decide_eq_true h
theorem cf{X:Cx}{F:Fx}{x:Str}{pos:Pos}(i:Nat)(a:decide X.N.Nodup=true:=by kernel_rfl)(b:autoParam (X.N[i]? = some x) Zq._auto_1)(c:Loc X.env.scope x:=by first | exact Or.inl rfl | exact Or.inr rfl)(d:X.fn x=true\/X.env.scope.names.lookup x=some .local:=by first | exact .inl rfl | exact .inr rfl | assumption):FG X F (.Name x pos) (al i):=HU i (xc a) b c d
end L2.L3
namespace L2.TS
open PySem PySem.SetTable
noncomputable def dN(m:Nat)(p:Probe):Probe:=
 if p.more>0 then { p with j:=p.j+1,more:=p.more - 1 } else
 { p with j:=(leap m p.i p.perturb).1,more:=runEnd m (leap m p.i p.perturb).1 - (leap m p.i p.perturb).1,i:=(leap m p.i p.perturb).1,perturb:=(leap m p.i p.perturb).2 }
theorem xf(t:SetTable)(p:Probe):t.advance p=dN t.mask p:=rfl
noncomputable def aI(m:Nat):Nat->Probe->Probe
 | 0,p=>p
 | n+1,p=>aI m n (dN m p)
theorem lH(m:Nat):∀(a b:Nat) (p:Probe),aI m (a+b) p=aI m b (aI m a p)
 | 0,b,p=>by rw[Nat.zero_add];rfl
 | a+1,b,p=>by rw[Nat.succ_add];exact lH m a b (dN m p)
theorem ox(m n:Nat)(p:Probe):aI m (n+1) p=dN m (aI m n p):=by rw[lH m n 1 p];rfl
noncomputable def cL(m i pb:Nat)(d:Option Nat):Probe:={ j:=i,more:=runEnd m i - i,i,perturb:=pb,dummy:=d }
theorem oy(m:Nat):∀(k:Nat) (p:Probe),k<=p.more->aI m k p = { p with j:=p.j+k,more:=p.more - k }
 | 0,p,_=>by cases p;rfl
 | k+1,p,h=>by
  show aI m k (dN m p)=_;have e:dN m p = { p with j:=p.j+1,more:=p.more - 1 }:=by unfold dN;rw[if_pos (by lia)]
  rw[e,oy m k _ (by show k<=p.more - 1;lia)];rw[show p.j+1+k=p.j+(k+1) by lia,show p.more - 1 - k=p.more - (k+1) by lia]
theorem Jv(m i:Nat):runEnd m i - i<=9:=by unfold runEnd;split<;>lia
theorem Jw(m i pb:Nat)(d:Option Nat):∃k≤10,aI m k (cL m i pb d)=cL m (leap m i pb).1 (leap m i pb).2 d:=by refine⟨runEnd m i - i+1,by have:=Jv m i;lia,?_⟩;rw[ox,oy m (runEnd m i - i) (cL m i pb d) (aE _)];unfold dN cL;simp
noncomputable def cT(m:Nat):Nat->Nat×Nat->Nat×Nat
 | 0,x=>x
 | n+1,x=>cT m n (leap m x.1 x.2)
theorem xg(m:Nat)(d:Option Nat):∀(n i pb:Nat),∃k≤10 * n,aI m k (cL m i pb d)=cL m (cT m n (i,pb)).1 (cT m n (i,pb)).2 d
 | 0,i,pb=>⟨0,aE _,rfl⟩
 | n+1,i,pb=>by obtain⟨k,c,e⟩:=Jw m i pb d;obtain⟨a,iQ,b⟩:=xg m d n (leap m i pb).1 (leap m i pb).2;refine⟨k+a,by lia,?_⟩;rw[lH,e,b];rfl
theorem sC(m:Nat):∀(a b:Nat) (x:Nat×Nat),cT m (a+b) x=cT m b (cT m a x)
 | 0,b,x=>by rw[Nat.zero_add];rfl
 | a+1,b,x=>by rw[Nat.succ_add];exact sC m a b _
theorem sD(m:Nat):∀(n:Nat) (x:Nat×Nat),(cT m n x).2=x.2 / 32 ^ n
 | 0,x=>by simp[cT]
 | n+1,x=>by show(cT m n (leap m x.1 x.2)).2=_;rw[sD m n];show x.2 / 32 / 32 ^ n=_;rw[Nat.div_div_eq_div_mul,Nat.pow_succ,Nat.mul_comm]
theorem sE(m:Nat):∀(n:Nat) (x:Nat×Nat),x.1<=m->(cT m n x).1<=m
 | 0,x,h=>h
 | n+1,x,_=>sE m n _ (by show(_ % (m+1))<=m;exact Nat.le_of_lt_succ (Nat.mod_lt _ (Nat.succ_pos m)))
noncomputable def fO(m:Nat):Nat->Nat->Nat
 | 0,i=>i
 | n+1,i=>fO m n ((i * 5+1) % (m+1))
theorem sF(m:Nat):∀(n i:Nat),(cT m n (i,0)).1=fO m n i
 | 0,i=>rfl
 | n+1,i=>by show(cT m n (leap m i 0)).1=fO m n _;exact sF m n _
theorem oz(m:Nat):∀(a b i:Nat),fO m (a+b) i=fO m b (fO m a i)
 | 0,b,i=>by rw[Nat.zero_add];rfl
 | a+1,b,i=>by rw[Nat.succ_add];exact oz m a b _
noncomputable def iW(m:Nat):Nat->Nat->List Nat
 | 0,_=>[]
 | n+1,i=>i::iW m n ((i * 5+1) % (m+1))
noncomputable def aV(m:Nat):Bool:=(fO m (m+1) 0==0)&&(List.range (m+1)).all fun j=>(iW m (m+1) 0).contains j
theorem xh(m:Nat):∀(n i j:Nat),j∈iW m n i->∃k<n,fO m k i=j
 | 0,_,_,h=>by cases h
 | n+1,i,j,h=>by
  rcases List.mem_cons.mp h with rfl | h
  .exact⟨0,Nat.succ_pos _,rfl⟩
  .obtain⟨k,a,e⟩:=xh m n _ j h;exact⟨k+1,by lia,e⟩
theorem eI:aV 7=true:=by decide +kernel
theorem fP:aV 31=true:=by decide +kernel
theorem eS:aV 127=true:=by decide +kernel
theorem eU:aV 511=true:=by decide +kernel
theorem xi{m:Nat}(T:aV m=true){a b:Nat}(e:a<=m)(f:b<=m):∃k≤m,fO m k a=b:=by
 unfold aV at T;rw[Bool.and_eq_true] at T;have bX:fO m (m+1) 0=0:=by simpa using T.1
 have c:∀j≤m,∃k<m+1,fO m k 0=j:=fun j g=>by have h:=List.all_eq_true.mp T.2 j (List.mem_range.mpr (by lia));exact xh m _ _ _ (by simpa using h)
 obtain⟨x,i,ex⟩:=c a e;obtain⟨y,l,d⟩:=c b f
 by_cases h:x<=y
 .refine⟨y - x,by lia,?_⟩;rw[<-ex,<-oz,show x+(y - x)=y by lia];exact d
 .refine⟨m+1 - x+y,by lia,?_⟩;rw[<-ex,<-oz,show x+(m+1 - x+y)=m+1+y by lia,oz,bX];exact d
theorem Jx{m:Nat}(T:aV m=true){i pb:Nat}(d:Option Nat)(a:i<=m)(c:pb<2 ^ 64){b:Nat}(f:b<=m):∃k<10 * turns m,(aI m k (cL m i pb d)).j=b:=by
 have z:(cT m 13 (i,pb)).2=0:=by rw[sD];exact Nat.div_eq_of_lt (Nat.lt_of_lt_of_le c (by decide))
 obtain⟨k,h,e⟩:=xi T (sE m 13 (i,pb) a) f;obtain⟨n,l,g⟩:=xg m d (13+k) i pb;refine⟨n,by unfold turns;lia,?_⟩;rw[g];show(cT m (13+k) (i,pb)).1=b;rw[sC,show cT m 13 (i,pb)=((cT m 13 (i,pb)).1,0) from Prod.ext rfl z,sF];exact e
theorem Jy(t:SetTable)(h:Int):t.probeStart h=cL t.mask (bits h % (t.mask+1)) (bits h) none:=rfl
theorem xj(h:Int):bits h<2 ^ 64:=by unfold bits;have:=Int.emod_lt_of_pos h (show(0:Int)<2 ^ 64 by decide);have:=Int.emod_nonneg h (show(2 ^ 64:Int)≠0 by decide);lia
theorem il{t:SetTable}{i j:Nat}(r:cz t.place.toList)(e:t.place.toList[i]? = some j):t.slot j=.live i:=by
 obtain⟨g,h2,h3⟩:=lF r j;have f:=(List.getElem?_eq_some_iff.mp e).1;have d:below t.place j<=i:=Nat.le_of_not_lt fun c=>Nat.lt_irrefl _ (h2 i j c e);have b:below t.place j=i:=by
  rcases Nat.lt_or_eq_of_le d with c | c
  .obtain⟨x,a⟩:∃x,t.place.toList[below t.place j]? = some x:=⟨_,List.getElem?_eq_getElem (by lia)⟩
   have:=r.lt c a e;have:=h3 _ x (aE _) a;lia
  .exact c
 unfold slot;rw[Array.getElem?_toList] at e;simp[b,e]
theorem Jz{t:SetTable}{j:Nat}(a:t.dummies = #[])(h:j∉t.place.toList):t.slot j=.empty:=by
 unfold slot;have e:(t.place[below t.place j]?==some j)=false:=by rw[beq_eq_false_iff_ne];intro c;rw[<-Array.getElem?_toList] at c;exact h (List.mem_of_getElem? c)
 simp only[e,if_false];have q:has t.dummies j=false:=by rw[a];unfold has;simp
 simp[q]
structure Tb (t:SetTable) (hs:List Int):Prop where
 rise:cz t.place.toList
 len:t.place.toList.length=hs.length
 bd:∀x∈t.place.toList,x<=t.mask
 nd:t.dummies = #[]
 tr:aV t.mask=true
 room:hs.length<=t.mask
 reach:∀p∈t.place.toList.zip hs,∃k,p.1=(aI t.mask k (t.probeStart p.2)).j/\∀n<k,(aI t.mask n (t.probeStart p.2)).j∈t.place.toList
theorem xk:∀(a:List Nat) (n:Nat),a.countP (fun x=>decide (x<n))<=a.countP (fun x=>decide (x<n+1))/\(n∈a->a.countP (fun x=>decide (x<n))+1<=a.countP (fun x=>decide (x<n+1)))
 | [],n=>⟨aE _,fun h=>by cases h⟩
 | x::a,n=>by
  obtain⟨b,h2⟩:=xk a n;simp only[List.countP_cons,decide_eq_true_eq];refine⟨by split<;>split<;>lia,fun h=>?_⟩;rcases List.mem_cons.mp h with rfl | h
  .rw[if_neg (by lia),if_pos (by lia)];lia
  .have:=h2 h;split<;>split<;>lia
theorem sG{xs:List Nat}:∀n,(∀j<n,j∈xs)->n<=xs.countP (fun x=>decide (x<n))
 | 0,_=>Nat.zero_le _
 | n+1,h=>by have:=sG n fun j a=>h j (by lia);have:=(xk xs n).2 (h n (by lia));lia
theorem lI{P:Nat->Prop}:∀k,P k->∃n≤k,P n/\∀m<n,¬ P m:=fun k=>by
 induction k using Nat.strongRecOn with
 | _ k b=>
  intro h
  by_cases c:∃m<k,P m
  .obtain⟨m,a,pm⟩:=c;obtain⟨n,h1,h2⟩:=b m a pm;exact⟨n,by lia,h2⟩
  .exact⟨k,aE _,h,fun m a pm=>c ⟨m,a,pm⟩⟩
theorem Tb.first{t:SetTable}{a:List Int}(T:Tb t a)(h:Int):∃k<10 * turns t.mask,(aI t.mask k (t.probeStart h)).j∉t.place.toList/\∀n<k,(aI t.mask n (t.probeStart h)).j∈t.place.toList:=by
 have ex:∃b≤t.mask,b∉t.place.toList:=by refine Classical.byContradiction fun c=>?_;have:=sG (xs:=t.place.toList) (t.mask+1) fun j m=>Classical.byContradiction fun z=>c ⟨j,by lia,z⟩;have:=List.countP_le_length (p:=fun x=>decide (x<t.mask+1)) (l:=t.place.toList);have:=T.len;have:=T.room;lia
 obtain⟨b,d,f⟩:=ex;obtain⟨k,o,e⟩:=Jx T.tr (i:=bits h % (t.mask+1)) (pb:=bits h) none (Nat.le_of_lt_succ (Nat.mod_lt _ (Nat.succ_pos _))) (xj h) d;rw[<-Jy] at e;obtain⟨n,h1,h2,h3⟩:=lI (P:=fun k=>(aI t.mask k (t.probeStart h)).j∉t.place.toList) k (by rw[e];exact f);exact⟨n,by lia,h2,fun q g=>Classical.byContradiction fun z=>h3 q g z⟩
theorem xl(m:Nat):∀(n:Nat) (p:Probe),(aI m n p).dummy=p.dummy
 | 0,_=>rfl
 | n+1,p=>by show(aI m n (dN m p)).dummy=_;rw[xl m n];unfold dN;split<;>rfl
theorem JA{t:SetTable}{v:List Int}(T:Tb t v){h:Int}{K:Nat}(D:K<10 * turns t.mask)(e:(aI t.mask K (t.probeStart h)).j∉t.place.toList)(b:∀n<K,(aI t.mask n (t.probeStart h)).j∈t.place.toList)(a:Nat->Int)(n:Nat)(p:n<=K) :
  (t.probe a h (aI t.mask n (t.probeStart h))=some (.empty (aI t.mask K (t.probeStart h)).j none)/\∀q,n<=q->q<K->∀i,t.place.toList[i]? = some (aI t.mask q (t.probeStart h)).j->a i≠h)\/
   ∃q i,n<=q/\q<K/\t.place.toList[i]? = some (aI t.mask q (t.probeStart h)).j/\a i=h/\t.probe a h (aI t.mask n (t.probeStart h))=some (.candidate (aI t.mask q (t.probeStart h)).j i (aI t.mask (q+1) (t.probeStart h)))/\
    ∀r,n<=r->r<q->∀i,t.place.toList[i]? = some (aI t.mask r (t.probeStart h)).j->a i≠h:=by
 have go:∀(d n fuel:Nat),K - n=d->n<=K->K - n<fuel->(probe.go t a h fuel (aI t.mask n (t.probeStart h))=some (.empty (aI t.mask K (t.probeStart h)).j none)/\∀q,n<=q->q<K->∀i,t.place.toList[i]? = some (aI t.mask q (t.probeStart h)).j->a i≠h)\/
   ∃q i,n<=q/\q<K/\t.place.toList[i]? = some (aI t.mask q (t.probeStart h)).j/\a i=h/\probe.go t a h fuel (aI t.mask n (t.probeStart h))=some (.candidate (aI t.mask q (t.probeStart h)).j i (aI t.mask (q+1) (t.probeStart h)))/\
    ∀r,n<=r->r<q->∀i,t.place.toList[i]? = some (aI t.mask r (t.probeStart h)).j->a i≠h:=by
  intro d
  induction d with
  | zero=>
   intro n fuel hd p w;obtain rfl:n=K:=by lia
   cases fuel with
   | zero=>lia
   | succ fuel=>refine .inl ⟨?_,fun q g l=>by lia⟩;unfold probe.go;rw[Jz T.nd e];simp only[xl];rfl
  | succ d x=>
   intro n fuel hd p w;cases fuel with
   | zero=>lia
   | succ fuel=>
    obtain⟨i,m⟩:=List.mem_iff_getElem?.mp (b n (by lia))
    by_cases c:a i=h
    .refine .inr ⟨n,i,aE _,by lia,m,c,?_,fun r g l=>by lia⟩;unfold probe.go;rw[il T.rise m];simp only[c,beq_self_eq_true,if_true];rw[xf,<-ox]
    .have un:probe.go t a h (fuel+1) (aI t.mask n (t.probeStart h))=probe.go t a h fuel (aI t.mask (n+1) (t.probeStart h)):=by
      conv=>lhs;unfold probe.go
      rw[il T.rise m];simp only[beq_eq_false_iff_ne.mpr c,Bool.false_eq_true,if_false];rw[xf,<-ox]
     have f:∀j,t.place.toList[j]? = some (aI t.mask n (t.probeStart h)).j->a j≠h:=fun j o=>by have y:=il T.rise m;have s:=il T.rise o;rw[y] at s;cases s;exact c
     rcases x (n+1) fuel (by lia) (by lia) (by lia) with⟨g1,g2⟩ | ⟨q,j,g1,g2,g3,A,B,C⟩
     .refine .inl ⟨un.trans g1,fun q g l j o=>?_⟩;rcases Nat.lt_or_eq_of_le g with z | rfl
      .exact g2 q z l j o
      .exact f j o
     .refine .inr ⟨q,j,by lia,g2,g3,A,un.trans B,fun r g l k u=>?_⟩;rcases Nat.lt_or_eq_of_le g with z | rfl
      .exact C r z l k u
      .exact f k u
 unfold probe;exact go (K - n) n _ rfl p (by lia)
theorem xm{α β:Type}:∀(p:Nat) (c:List α) (d:List β) (x:α) (y:β),c.length=d.length->(c.take p++x::c.drop p).zip (d.take p++y::d.drop p)=(c.zip d).take p++(x,y)::(c.zip d).drop p
 | 0,c,d,x,y,_=>by simp
 | p+1,[],[],x,y,_=>by simp
 | p+1,[],_::_,_,_,h=>by simp at h
 | p+1,_::_,[],_,_,h=>by simp at h
 | p+1,a::c,b::d,x,y,h=>by simp only[List.take_succ_cons,List.drop_succ_cons,List.cons_append,List.zip_cons_cons,List.cons.injEq,true_and];exact xm p c d x y (by simpa using h)
theorem oA{α:Type}{a:List α}{p:Nat}{x y:α}:y∈a.take p++x::a.drop p↔y=x\/y∈a:=by
 rw[List.mem_append,List.mem_cons];have:y∈a↔y∈a.take p\/y∈a.drop p:=by rw[<-List.mem_append,List.take_append_drop]
 rw[this];constructor
 .rintro(h | h | h)
  .exact .inr (.inl h)
  .exact .inl h
  .exact .inr (.inr h)
 .rintro(h | h | h)
  .exact .inr (.inl h)
  .exact .inl h
  .exact .inr (.inr h)
theorem Tb.put{t:SetTable}{a:List Int}(T:Tb t a){h:Int}{K:Nat}(e:(aI t.mask K (t.probeStart h)).j∉t.place.toList)(b:∀n<K,(aI t.mask n (t.probeStart h)).j∈t.place.toList)(i:(aI t.mask K (t.probeStart h)).j<=t.mask)(m:a.length+1<=t.mask) :
  Tb (t.put (aI t.mask K (t.probeStart h)).j).1 (a.take (below t.place (aI t.mask K (t.probeStart h)).j)++h::a.drop (below t.place (aI t.mask K (t.probeStart h)).j)):=by
 generalize l:(aI t.mask K (t.probeStart h)).j=j at e i ⊢;have c:(t.put j).1.place.toList=t.place.toList.take (below t.place j)++j::t.place.toList.drop (below t.place j):=by show(insertAt t.place (below t.place j) j).toList=_;rw[SetTable.toList_insertAt]
 have mk:(t.put j).1.mask=t.mask:=rfl;have o:∀h,(t.put j).1.probeStart h=t.probeStart h:=fun _=>rfl;have le:=T.len;refine⟨by show cz (insertAt t.place (below t.place j) j).toList;exact wM T.rise e,?_,fun x d=>?_,?_,T.tr,?_,fun p f=>?_⟩
 .rw[c];simp only[List.length_append,List.length_cons,List.length_take,List.length_drop];rw[le]
 .rw[c] at d;rcases oA.mp d with rfl | d
  .exact i
  .exact T.bd x d
 .show(if has t.dummies j=true then _ else t.dummies) = #[];have q:has t.dummies j=false:=by rw[T.nd];unfold has;simp
  rw[q];exact T.nd
 .show(a.take _++h::a.drop _).length<=t.mask;simp only[List.length_append,List.length_cons,List.length_take,List.length_drop];lia
 .rw[c,xm _ _ _ _ _ le] at f;rcases oA.mp f with rfl | f
  .refine⟨K,?_,fun n g=>?_⟩
   .show j=(aI t.mask K (t.probeStart h)).j;exact l.symm
   .rw[c];exact oA.mpr (.inr (b n g))
  .obtain⟨k,h1,h2⟩:=T.reach p f;refine⟨k,h1,fun n g=>?_⟩;rw[c];exact oA.mpr (.inr (h2 n g))
theorem oB(m:Nat):∀(n:Nat) (p:Probe),p.j+p.more<=m->(aI m n p).j+(aI m n p).more<=m
 | 0,_,h=>h
 | n+1,p,h=>by
  show(aI m n (dN m p)).j+_<=m;refine oB m n _ ?_;unfold dN;split
  .show p.j+1+(p.more - 1)<=m;lia
  .show(leap m p.i p.perturb).1+(runEnd m _ - _)<=m;have:(leap m p.i p.perturb).1<=m:=Nat.le_of_lt_succ (Nat.mod_lt _ (Nat.succ_pos m));unfold runEnd;split<;>lia
theorem JB(t:SetTable)(h:Int)(n:Nat):(aI t.mask n (t.probeStart h)).j<=t.mask:=by
 have:=oB t.mask n (t.probeStart h) (by
  have:bits h % (t.mask+1)<=t.mask:=Nat.le_of_lt_succ (Nat.mod_lt _ (Nat.succ_pos _));show bits h % (t.mask+1)+(runEnd t.mask _ - _)<=t.mask;unfold runEnd;split<;>lia)
 lia
theorem JC(m i pb:Nat)(d:Option Nat):aI m (runEnd m i - i+1) (cL m i pb d)=cL m (leap m i pb).1 (leap m i pb).2 d:=by rw[ox,oy m (runEnd m i - i) (cL m i pb d) (aE _)];unfold dN cL;simp
theorem xn(m i:Nat):i<=runEnd m i:=by unfold runEnd;split<;>lia
abbrev Fr(owner:Array (Option Nat))(j:Nat):Prop:=(owner.getD j (some 0)).isNone=true
theorem xo{m:Nat}{owner:Array (Option Nat)}{i:Nat}(h:((List.range (runEnd m i+1 - i)).find? fun k=>(owner.getD (i+k) (some 0)).isNone)=none){k:Nat}(a:k<=runEnd m i - i):¬ Fr owner (i+k):=by have:=List.find?_eq_none.mp h k (List.mem_range.mpr (by have:=xn m i;lia));simpa using this
theorem xp{m:Nat}{owner:Array (Option Nat)}(d:Option Nat):∀(fuel i pb j:Nat),layClean.free m owner fuel i pb=some j->∃n,(aI m n (cL m i pb d)).j=j/\Fr owner j/\∀q<n,¬ Fr owner (aI m q (cL m i pb d)).j
 | 0,i,pb,j,e=>by unfold layClean.free at e;cases e
 | fuel+1,i,pb,j,e=>by
  have at_:∀q≤runEnd m i - i,(aI m q (cL m i pb d)).j=i+q:=fun q a=>by rw[oy m q (cL m i pb d) a];rfl
  unfold layClean.free at e;cases f:(List.range (runEnd m i+1 - i)).find? fun k=>(owner.getD (i+k) (some 0)).isNone with
  | some k=>rw[f] at e;cases e;obtain⟨b,x,g,h2,h3⟩:=List.find?_eq_some_iff_getElem.mp f;simp only[List.length_range] at g;simp only[List.getElem_range] at h2 h3;subst h2;have:=xn m i;refine⟨x,at_ x (by lia),b,fun q a=>?_⟩;rw[at_ q (by lia)];intro z;have:=h3 q a;rw[show(owner.getD (i+q) (some 0)).isNone=true from z] at this;cases this
  | none=>
   rw[f] at e;obtain⟨n,b,h2,h3⟩:=xp d fuel (leap m i pb).1 (leap m i pb).2 j e;rw[<-JC m i pb d] at b h3;refine⟨runEnd m i - i+1+n,by rw[lH];exact b,h2,fun q a=>?_⟩
   by_cases c:q<=runEnd m i - i
   .rw[at_ q c];exact xo f c
   .have:=h3 (q - (runEnd m i - i+1)) (by lia);rw[<-lH,show runEnd m i - i+1+(q - (runEnd m i - i+1))=q by lia] at this;exact this
theorem xq{m:Nat}{owner:Array (Option Nat)}:∀(n fuel i pb:Nat),n<fuel->Fr owner (cT m n (i,pb)).1->(layClean.free m owner fuel i pb).isSome=true
 | n,0,_,_,h,_=>by lia
 | n,fuel+1,i,pb,h,f=>by
  unfold layClean.free;cases e:(List.range (runEnd m i+1 - i)).find? fun k=>(owner.getD (i+k) (some 0)).isNone with
  | some k=>rfl
  | none=>
   cases n with
   | zero=>exact absurd f (xo e (k:=0) (Nat.zero_le _))
   | succ n=>exact xq n fuel _ _ (by lia) f
theorem JD{m:Nat}(T:aV m=true){owner:Array (Option Nat)}{b:Nat}(a:b<=m)(f:Fr owner b)(h:Int):∃j,layClean.free m owner (turns m) (bits h % (m+1)) (bits h)=some j:=by
 have c:bits h % (m+1)<=m:=Nat.le_of_lt_succ (Nat.mod_lt _ (Nat.succ_pos _));have z:(cT m 13 (bits h % (m+1),bits h)).2=0:=by rw[sD];exact Nat.div_eq_of_lt (Nat.lt_of_lt_of_le (xj h) (by decide))
 obtain⟨k,d,e⟩:=xi T (sE m 13 (bits h % (m+1),bits h) c) a;have:=xq (m:=m) (owner:=owner) (13+k) (turns m) (bits h % (m+1)) (bits h) (by unfold turns;lia) (by
  rw[sC,show cT m 13 (bits h % (m+1),bits h)=((cT m 13 (bits h % (m+1),bits h)).1,0) from Prod.ext rfl z,sF,e];exact f)
 exact Option.isSome_iff_exists.mp this
noncomputable def br(m:Nat)(owner:Array (Option Nat)):List (Nat×Nat):=(List.range (m+1)).filterMap fun j=>(owner.getD j none).map (j,·)
theorem xr{g c:Nat->Option (Nat×Nat)}:∀l:List Nat,(∀a∈l,c a=g a)->l.filterMap c = l.filterMap g
 | [],_=>rfl
 | a::l,h=>by
  have d:=xr l fun b f=>h b (.tail _ f);have e:=h a (.head _);cases q:g a with
  | none=>rw[List.filterMap_cons_none (e.trans q),List.filterMap_cons_none q,d]
  | some x=>rw[List.filterMap_cons_some (e.trans q),List.filterMap_cons_some q,d]
theorem xt{g d:Nat->Option (Nat×Nat)}{j:Nat}{p:Nat×Nat}(f:g j=none)(b:d j=some p)(ne:∀i,i≠j->d i=g i):∀l:List Nat,l.Nodup->j∈l->(l.filterMap d).Perm (p::l.filterMap g)
 | [],_,h=>by cases h
 | i::l,nd,h=>by
  obtain⟨m,n⟩:=List.nodup_cons.mp nd
  by_cases c:i=j
  .subst c;have e:l.filterMap d = l.filterMap g:=xr l fun a o=>ne a fun z=>m (z▸o);rw[List.filterMap_cons_some b,List.filterMap_cons_none f,e]
  .have r:j∈l:=by
    rcases List.mem_cons.mp h with z | z
    .exact absurd z.symm c
    .exact z
   have k:=xt f b ne l n r;cases q:g i with
   | none=>rw[List.filterMap_cons_none ((ne i c).trans q),List.filterMap_cons_none q];exact k
   | some x=>rw[List.filterMap_cons_some ((ne i c).trans q),List.filterMap_cons_some q];exact(k.cons x).trans (.swap _ _ _)
structure Ow (m:Nat) (hs:List Int) (owner:Array (Option Nat)) (k:Nat):Prop where
 size:owner.size=m+1
 pm:((br m owner).map (·.2)).Perm (List.range k)
 reach:∀p∈br m owner,∃h n,hs[p.2]? = some h/\p.1=(aI m n (cL m (bits h % (m+1)) (bits h) none)).j/\∀q<n,¬ Fr owner (aI m q (cL m (bits h % (m+1)) (bits h) none)).j
theorem xu{m:Nat}{owner:Array (Option Nat)}(c:owner.size=m+1){j:Nat}(d:j<=m):¬ Fr owner j↔j∈(br m owner).map (·.1):=by
 unfold br;rw[List.mem_map];have g:owner.getD j (some 0)=owner.getD j none:=by simp[Array.getD,show j<owner.size by lia]
 constructor
 .intro h;cases e:owner.getD j none with
  | none=>exact absurd (by show(owner.getD j (some 0)).isNone=true;rw[g,e];rfl) h
  | some i=>exact⟨(j,i),List.mem_filterMap.mpr ⟨j,List.mem_range.mpr (by lia),by rw[e];rfl⟩,rfl⟩
 .rintro⟨p,b,rfl⟩ f;obtain⟨x,_,e⟩:=List.mem_filterMap.mp b;obtain⟨i,h1,rfl⟩:=Option.map_eq_some_iff.mp e;simp only at f g;have a:(owner.getD x (some 0)).isNone=true:=f;rw[g,h1] at a;cases a
theorem Ow.step{m:Nat}{l:List Int}{owner:Array (Option Nat)}{k j:Nat}{h:Int}(O:Ow m l owner k)(v:l[k]? = some h)(e:layClean.free m owner (turns m) (bits h % (m+1)) (bits h)=some j):Ow m l (owner.setIfInBounds j (some k)) (k+1):=by
 obtain⟨n,h1,h2,h3⟩:=xp none _ _ _ _ e;have d:bits h % (m+1)<=m:=Nat.le_of_lt_succ (Nat.mod_lt _ (Nat.succ_pos _));have C:j<=m:=by
  have:=oB m n (cL m (bits h % (m+1)) (bits h) none) (by
   show bits h % (m+1)+(runEnd m _ - _)<=m;unfold runEnd;split<;>lia)
  lia
 have w:=O.size;have x:∀i,i≠j->(owner.setIfInBounds j (some k)).getD i none=owner.getD i none:=fun i d=>by simp only[Array.getD_eq_getD_getElem?,Array.getElem?_setIfInBounds];rw[if_neg (fun z=>d z.symm)]
 have o:∀i,i≠j->(owner.setIfInBounds j (some k)).getD i (some 0)=owner.getD i (some 0):=fun i d=>by simp only[Array.getD_eq_getD_getElem?,Array.getElem?_setIfInBounds];rw[if_neg (fun z=>d z.symm)]
 have y:(owner.setIfInBounds j (some k)).getD j none=some k:=by simp only[Array.getD_eq_getD_getElem?,Array.getElem?_setIfInBounds];simp[show j<owner.size by lia]
 have A:owner.getD j none=none:=by
  have g:(owner.getD j (some 0)).isNone=true:=h2;have:owner.getD j (some 0)=owner.getD j none:=by simp[Array.getD,show j<owner.size by lia]
  rw[this] at g;exact Option.isNone_iff_eq_none.mp g
 have t:(br m (owner.setIfInBounds j (some k))).Perm ((j,k)::br m owner):=by unfold br;exact xt (by rw[A];rfl) (by rw[y];rfl) (fun i d=>by rw[x i d]) _ List.nodup_range (List.mem_range.mpr (by lia))
 have u:∀i,¬ Fr owner i->¬ Fr (owner.setIfInBounds j (some k)) i:=fun i c f=>by have:i≠j:=fun z=>c (z▸h2);refine c ?_;have g:((owner.setIfInBounds j (some k)).getD i (some 0)).isNone=true:=f;rw[o i this] at g;exact g
 refine⟨by simp[w],?_,fun p r=>?_⟩
 .refine(t.map _).trans ?_;rw[List.map_cons,List.range_succ];exact(O.pm.cons k).trans (List.perm_append_singleton k _).symm
 .rcases List.mem_cons.mp (t.mem_iff.mp r) with rfl | r
  .exact⟨h,n,v,h1.symm,fun q s=>u _ (h3 q s)⟩
  .obtain⟨h',B,a,b,c⟩:=O.reach p r;exact⟨h',B,a,b,fun q s=>u _ (c q s)⟩
theorem xv(m:Nat):br m (Array.replicate (m+1) none)=[]:=by unfold br;rw[List.filterMap_eq_nil_iff];intro j a;have:=List.mem_range.mp a;simp[Array.getD,this]
theorem Ow.nil(m:Nat)(b:List Int):Ow m b (Array.replicate (m+1) none) 0:=⟨by simp,by rw[xv];exact .nil,fun p a=>by rw[xv] at a;cases a⟩
theorem Ow.room{m:Nat}{a:List Int}{owner:Array (Option Nat)}{k:Nat}(O:Ow m a owner k)(d:k<=m):∃b≤m,Fr owner b:=by refine Classical.byContradiction fun c=>?_;have h:=sG (xs:=(br m owner).map (·.1)) (m+1) fun j e=>(xu O.size (by lia)).mp fun f=>c ⟨j,by lia,f⟩;have h2:=List.countP_le_length (p:=fun x=>decide (x<m+1)) (l:=(br m owner).map (·.1));have h3:=O.pm.length_eq;simp only[List.length_map,List.length_range] at h2 h3;lia
noncomputable abbrev xw(m:Nat):Option (Array (Option Nat)×Nat)->Int->Option (Array (Option Nat)×Nat):=fun a h=>do
 let(owner,k) <-a;let j <-layClean.free m owner (turns m) (bits h % (m+1)) (bits h)
 pure (owner.setIfInBounds j (some k),k+1)
theorem xx{m:Nat}(T:aV m=true)(g:List Int)(o:g.length<=m+1):∀(rest:List Int) (k:Nat) (owner:Array (Option Nat)),Ow m g owner k->g.drop k=rest->∃d,rest.foldl (xw m) (some (owner,k))=some (d,g.length)/\Ow m g d g.length
 | [],k,owner,O,e=>by
  have i:g.length<=k:=List.drop_eq_nil_iff.mp e;have q:k<=g.length:=by refine Classical.byContradiction fun c=>?_;have:(k - 1)∈(br m owner).map (·.2):=O.pm.mem_iff.mpr (List.mem_range.mpr (by lia));obtain⟨p,r,e⟩:=List.mem_map.mp this;obtain⟨h,n,a,_⟩:=O.reach p r;have:=(List.getElem?_eq_some_iff.mp a).1;lia
  obtain rfl:k=g.length:=by lia
  exact⟨owner,rfl,O⟩
 | h::rest,k,owner,O,e=>by
  have i:g[k]? = some h:=by
   have:(g.drop k)[0]? = some h:=by rw[e];rfl
   rw[List.getElem?_drop] at this;exact this
  have q:=(List.getElem?_eq_some_iff.mp i).1;obtain⟨b,s,f⟩:=O.room (by lia);obtain⟨j,l⟩:=JD T s f h;have t:=O.step i l;obtain⟨d,h1,h2⟩:=xx T g o rest (k+1) _ t (by rw[<-List.drop_drop,e];rfl);refine⟨d,?_,h2⟩;rw[List.foldl_cons,<-h1]
  congr 1
  show(do
   let j <-layClean.free m owner (turns m) (bits h % (m+1)) (bits h)
   pure (owner.setIfInBounds j (some k),k+1))=_
  rw[l];rfl
theorem JE{m:Nat}(T:aV m=true)(a:Array Int)(b:a.size<=m+1):∃owner,layClean m a=some owner/\Ow m a.toList owner a.size:=by obtain⟨owner,h1,h2⟩:=xx T a.toList (by simpa using b) a.toList 0 _ (Ow.nil m _) rfl;refine⟨owner,?_,by simpa using h2⟩;unfold layClean;rw[<-Array.foldl_toList];show(a.toList.foldl (xw m) (some (Array.replicate (m+1) none,0))).map _=_;rw[h1];rfl
theorem JF(m:Nat)(owner:Array (Option Nat)):cz ((br m owner).map (·.1)):=by have r:cz (List.range (m+1)):=List.pairwise_lt_range;exact r.sublist (oo _)
theorem JG{m fg mv:Nat}{led pl:Bool}(T:aV m=true)(d:Array Int)(l:d.size<=m):∃t' order,laid m fg mv led pl d=some (t',order)/\order.toList.Perm (List.range d.size)/\Tb t' (order.toList.map fun i=>(d[i]?).getD 0)/\t'.mask=m/\t'.led=led/\t'.moves=mv:=by
 obtain⟨owner,h1,O⟩:=JE T d (by lia);refine⟨{ mask:=m,place:=((br m owner).map (·.1)).toArray,dummies:=#[],finger:=fg,led,moves:=mv,plain:=pl },((br m owner).map (·.2)).toArray,?_,O.pm,?_,rfl,rfl,rfl⟩
 .unfold laid;rw[h1];rfl
 .have o:(br m owner).length=d.size:=by have:=O.pm.length_eq;simpa using this
  refine⟨JF m owner,by simp,fun x r=>?_,rfl,T,by simp[o,l],fun p g=>?_⟩
  .obtain⟨p,g,rfl⟩:=List.mem_map.mp r;obtain⟨j,s,e⟩:=List.mem_filterMap.mp g;obtain⟨i,_,rfl⟩:=Option.map_eq_some_iff.mp e;have:=List.mem_range.mp s;show j<=m;lia
  .have f:p∈((br m owner).map (·.1)).zip ((br m owner).map fun q=>(d[q.2]?).getD 0):=by
    have e:((br m owner).map (·.2)).map (fun i=>(d[i]?).getD 0)=(br m owner).map fun q=>(d[q.2]?).getD 0:=by rw[List.map_map];rfl
    rw[<-e];exact g
   rw[List.zip_map'] at f;obtain⟨q,t,rfl⟩:=List.mem_map.mp f;obtain⟨h,n,a,b,c⟩:=O.reach q t;have k:(d[q.2]?).getD 0=h:=by rw[<-Array.getElem?_toList,a];rfl
   refine⟨n,?_,fun z u=>?_⟩
   .show q.1=(aI m n (cL m (bits ((d[q.2]?).getD 0) % (m+1)) (bits ((d[q.2]?).getD 0)) none)).j;rw[k];exact b
   .show(aI m z (cL m (bits ((d[q.2]?).getD 0) % (m+1)) (bits ((d[q.2]?).getD 0)) none)).j∈(br m owner).map (·.1);rw[k];have le:(aI m z (cL m (bits h % (m+1)) (bits h) none)).j<=m:=by
     have:=oB m z (cL m (bits h % (m+1)) (bits h) none) (by
      have:bits h % (m+1)<=m:=Nat.le_of_lt_succ (Nat.mod_lt _ (Nat.succ_pos _));show bits h % (m+1)+(runEnd m _ - _)<=m;unfold runEnd;split<;>lia)
     lia
    exact(xu O.size le).mp (c z u)
end L2.TS
namespace L2.TS
open PySem PyProof.Rows
section
variable{prog:Program}{w:World}{A:Around}{E:Value->Shared->Prop}{s:Shared}
abbrev TK(prog:Program)(w:World)(h:Heap)(b:List Int)(a:Addr):Prop:=IsTupleKey (intKind prog w) h b a
noncomputable abbrev hT(prog:Program)(w:World)(a:List Int):Int:=tupleKeyHash (intKind prog w) a
theorem xy{g:List Int}{a:Addr}{Q:Bool->Shared->Prop}(f:TK prog w s.heap g a)(h:Q false s):wpAny (model prog w) A (ofAClassStatement 8 (.ref a)) Q E s:=by
 have hT:=f.typeIs;obtain⟨o,items,n,i,_,hd,j⟩:=f;unfold ofAClassStatement;refine aa (wpAny_typeOf hT ?_);dsimp only;show wpAny _ _ (pure true >>= _) _ _ s;refine aa (ai ?_);simp only[Bool.not_true,Bool.false_eq_true,if_false];refine aa (wpAny_seqItems i hd ?_);dsimp only;refine aa ?_;show wpAny _ _ (forIn items _ _) _ _ s;rw[<-Array.forIn_toList];have k:∀v:Value,carriedByValue v=true->ofAClassStatement 7 v=pure false:=fun v l=>by
  cases v with
  | ref a=>simp[carriedByValue] at l
  | _=>first | rfl | (unfold ofAClassStatement;rfl)
 refine wpAny_forIn_list _ (fun rest r c=>r.1=none/\c = s/\∀v∈rest,carriedByValue v=true) _ ?_ ?_ _ _ ⟨rfl,rfl,j.byValue⟩
 .rintro v rest r c ⟨d,rfl,b⟩;rw[k _ (b v List.mem_cons_self)];refine aa (ai ?_);simp only[Bool.false_eq_true,if_false];exact ai ⟨rfl,rfl,fun u e=>b u (bh _ e)⟩
 .rintro⟨m,p⟩ c ⟨d,rfl,_⟩;simp only at d;subst d;exact ai h
theorem JH{l:List Int}{b:Addr}{i:List Value}{Q:Bool->Shared->Prop}(j:TK prog w s.heap l b)(m:∀v∈i,∃a c,v=.ref c/\TK prog w s.heap a c)(h:Q false s):wpAny (model prog w) A (searchCouldBeSeen (.ref b) i) Q E s:=by
 unfold searchCouldBeSeen;refine aa ?_;refine wpAny_forIn_list _ (fun rest r e=>r.1=none/\e = s/\∀v∈rest,∃a c,v=.ref c/\TK prog w s.heap a c) _ ?_ ?_ _ _ ⟨rfl,rfl,m⟩
 .rintro v rest r e ⟨f,rfl,d⟩;obtain⟨a,c,rfl,k⟩:=d v List.mem_cons_self;have go:∀u∈rest,∃a c,u=Value.ref c/\TK prog w e.heap a c:=fun u g=>d u (bh _ g);dsimp only;split
  .exact ai ⟨rfl,rfl,go⟩
  .refine aa (wpAny_eqIsQuiet_tuple j ?_);simp only[Bool.not_true,Bool.false_eq_true,if_false];refine aa (wpAny_eqIsQuiet_tuple k ?_);simp only[Bool.not_true,Bool.false_eq_true,if_false];refine aa (xy j ?_);simp only[Bool.false_eq_true,if_false];refine aa (xy k ?_);simp only[Bool.false_eq_true,if_false];exact ai ⟨rfl,rfl,go⟩
 .rintro⟨n,o⟩ e ⟨f,rfl,_⟩;simp only at f;subst f;exact ai h
structure cp (prog:Program) (w:World) (h:Heap) (es:Array (Int×Value)) (t:SetTable) (led:Bool) (rows:List (List Int×Addr)):Prop where
 es:es.toList=rows.map fun r=>(hT prog w r.1,Value.ref r.2)
 key:∀r∈rows,TK prog w h r.1 r.2
 tb:Tb t (rows.map fun r=>hT prog w r.1)
 mks:t.mask=7\/t.mask=31\/t.mask=127\/t.mask=511
 full:rows.length * 5<t.mask * 3
 led:t.led=led
theorem cp.odd{h:Heap}{a:Array (Int×Value)}{t:SetTable}{led:Bool}{rows:List (List Int×Addr)}(S:cp prog w h a t led rows):t.mask % 2=1:=by rcases S.mks with e | e | e | e<;>rw[e]
theorem cp.fits{h:Heap}{a:Array (Int×Value)}{t:SetTable}{led:Bool}{rows:List (List Int×Addr)}(S:cp prog w h a t led rows):t.fits a.size=true:=by have h1:=S.tb.len;have h2:=congrArg List.length S.es;have h3:=S.tb.room;have b:=S.tb.nd;unfold SetTable.fits SetTable.fill;rw[b];simp only[List.length_map,Array.length_toList] at h1 h2 h3;simp;lia
theorem cp.at_{h:Heap}{a:Array (Int×Value)}{t:SetTable}{led:Bool}{rows:List (List Int×Addr)}(S:cp prog w h a t led rows)(i:Nat):a[i]? = rows[i]?.map fun r=>(hT prog w r.1,Value.ref r.2):=by rw[<-Array.getElem?_toList,S.es,List.getElem?_map]
theorem JI{a b:Addr}{o:Obj}{G:Array (Int×Value)}{ep:Nat}{t:SetTable}{led:Bool}{rows:List (List Int×Addr)}{g:List Int}{K:Nat}{Q:SetFound->Shared->Prop}(hu:A.units<cLine)(O:s.heap.get? a=some o)(hd:o.data=.set G ep t)(S:cp prog w s.heap G t led rows)(R:TK prog w s.heap g b)
  (hK:K<10 * SetTable.turns t.mask) (T:(aI t.mask K (t.probeStart (hT prog w g))).j∉t.place.toList) (hB:∀n<K,(aI t.mask n (t.probeStart (hT prog w g))).j∈t.place.toList)
  (yes:g∈rows.map (·.1)->∀i,Q (.there i) s) (no:g∉rows.map (·.1)->Q (.free (aI t.mask K (t.probeStart (hT prog w g))).j false) s) :
  ∀(d n fuel:Nat) (st:Option SetTable.Probe),K - n=d->n<=K->d<fuel->st.getD (t.probeStart (hT prog w g))=aI t.mask n (t.probeStart (hT prog w g))->
   (∀r<n,∀(i:Nat) (row:List Int×Addr),t.place.toList[i]? = some (aI t.mask r (t.probeStart (hT prog w g))).j->rows[i]? = some row->row.1≠g)->wpAny (model prog w) A (setSearchFrom a (.ref b) (hT prog w g) true fuel st) Q E s:=by
 intro d
 induction d using Nat.strongRecOn with
 | _ d ih=>
  intro n fuel st a1 hn hf U y;cases fuel with
  | zero=>lia
  | succ fuel=>
   unfold setSearchFrom;refine aa (wpAny_setState_of O hd S.fits ?_);dsimp only;have gw:t.gaveWay=false:=by unfold SetTable.gaveWay;rw[S.odd];rfl
   rw[gw,U];simp only[Bool.false_eq_true,if_false];have key:∀f:Nat->Int,(∀i,f i=((G[i]?).map (·.1)).getD 0)->(t.probe f (hT prog w g) (aI t.mask n (t.probeStart (hT prog w g)))=some (.empty (aI t.mask K (t.probeStart (hT prog w g))).j none)/\g∉rows.map (·.1))\/
     ∃q i row,n<=q/\q<K/\rows[i]? = some row/\t.place.toList[i]? = some (aI t.mask q (t.probeStart (hT prog w g))).j/\t.probe f (hT prog w g) (aI t.mask n (t.probeStart (hT prog w g)))=some (.candidate (aI t.mask q (t.probeStart (hT prog w g))).j i (aI t.mask (q+1) (t.probeStart (hT prog w g))))/\
      ∀r<q,∀(i:Nat) (row:List Int×Addr),t.place.toList[i]? = some (aI t.mask r (t.probeStart (hT prog w g))).j->rows[i]? = some row->row.1≠g:=by
    intro f X;have I:∀(i:Nat) (row:List Int×Addr),rows[i]? = some row->f i=hT prog w row.1:=fun i row e=>by rw[X,S.at_,e];rfl
    have B:∀i j,t.place.toList[i]? = some j->∃row,rows[i]? = some row:=fun i j e=>by have H:=(List.getElem?_eq_some_iff.mp e).1;have p:=S.tb.len;rw[List.length_map] at p;exact⟨_,List.getElem?_eq_getElem (by lia)⟩
    rcases JA S.tb hK T hB f n hn with⟨Y,p2⟩ | ⟨q,i,q1,q2,q3,q4,Z,q6⟩
    .refine .inl ⟨Y,fun hm=>?_⟩;obtain⟨row,C,rfl⟩:=List.mem_map.mp hm;obtain⟨i,M⟩:=List.mem_iff_getElem?.mp C;have hl:=(List.getElem?_eq_some_iff.mp M).1;have p:=S.tb.len;rw[List.length_map] at p;obtain⟨j,J⟩:∃j,t.place.toList[i]? = some j:=⟨_,List.getElem?_eq_getElem (by lia)⟩
     have hz:(j,hT prog w row.1)∈t.place.toList.zip (rows.map fun r=>hT prog w r.1):=by refine List.mem_of_getElem? (i:=i) ?_;rw[List.getElem?_zip_eq_some];exact⟨J,by rw[List.getElem?_map,M];rfl⟩
     obtain⟨k,k1,k2⟩:=S.tb.reach _ hz;simp only at k1 k2;have kK:k<K:=by
      rcases Nat.lt_trichotomy k K with c | c | c
      .exact c
      .subst c;exact absurd (by rw[<-k1];exact List.mem_of_getElem? J) T
      .exact absurd (k2 K c) T
     rw[k1] at J
     by_cases c:k<n
     .exact y k c i row J M rfl
     .exact p2 k (by lia) kK i J (I i row M)
    .obtain⟨row,C⟩:=B i _ q3;refine .inr ⟨q,i,row,q1,q2,C,q3,Z,fun r u j l H p=>?_⟩
     by_cases c:r<n
     .exact y r c j l H p
     .intro z;exact q6 r (by lia) u j H (by rw[I j l p,z])
   rcases key (fun i=>((G[i]?).map (·.1)).getD 0) (fun _=>rfl) with⟨Y,a0⟩ | ⟨q,i,row,q1,q2,C,hp,Z,q6⟩
   .erw [Y]
    exact ai (no a0)
   .erw [Z]
    dsimp only;have N:=List.mem_of_getElem? C;have D:G[i]? = some (hT prog w row.1,.ref row.2):=by rw[S.at_,C];rfl
    have quiet:∀Q':Bool->Shared->Prop,Q' false s->wpAny (model prog w) A (searchCouldBeSeen (Value.ref b) (List.map (fun x=>x.snd) (Array.filter (fun x=>x.fst==hT prog w g) G).toList)) Q' E s:=fun Q' h=>JH R (fun v hv=>by
     obtain⟨e,he,rfl⟩:=List.mem_map.mp hv;have L:e∈G.toList:=by have:=Array.mem_toList_iff.mp he;exact Array.mem_toList_iff.mpr (Array.mem_filter.mp this).1
     rw[S.es] at L;obtain⟨r,u,rfl⟩:=List.mem_map.mp L;exact⟨r.1,r.2,rfl,S.key r u⟩) h
    have m:row.1≠g->∀r<q+1,∀(i:Nat) (row:List Int×Addr),t.place.toList[i]? = some (aI t.mask r (t.probeStart (hT prog w g))).j->rows[i]? = some row->row.1≠g:=fun c r u i' l H p=>by
     by_cases z:r<q
     .exact q6 r z i' l H p
     .obtain rfl:r=q:=by lia
      have e1:=il S.tb.rise hp;have e2:=il S.tb.rise H;rw[e1] at e2;cases e2;rw[C] at p;cases p;exact c
    rw[D];dsimp only;split
    .refine aa (quiet _ ?_);simp only[Bool.false_eq_true,if_false];refine aa (wpAny_holding (wpAny_eqBool_tuple hu (S.key row N) R ?_));refine aa (wpAny_setState_of O hd S.fits ?_);dsimp only
     by_cases c:row.1=g
     .simp only[c,decide_true,Bool.and_self,if_true];exact ai (yes (c▸List.mem_map.mpr ⟨row,N,rfl⟩) none)
     .simp only[c,decide_false,Bool.and_false,Bool.false_eq_true,if_false];have sm:t.sameMemory t.moves t.mask=some true:=by unfold SetTable.sameMemory;simp
      rw[sm];simp only[if_true];rw[il S.tb.rise hp];simp only[D];refine aa (wpAny_isSame_ref_self ?_);refine aa (ai ?_);simp only[if_true];exact ih (K - (q+1)) (by lia) (q+1) fuel (some _) rfl (by lia) (by lia) rfl (m c)
    .refine aa (wpAny_holding (wpAny_eqBool_tuple hu (S.key row N) R ?_));refine aa (wpAny_setState_of O hd S.fits ?_);dsimp only
     by_cases c:row.1=g
     .simp only[c,decide_true,Bool.and_self,if_true];exact ai (yes (c▸List.mem_map.mpr ⟨row,N,rfl⟩) none)
     .simp only[c,decide_false,Bool.and_false,Bool.false_eq_true,if_false];have sm:t.sameMemory t.moves t.mask=some true:=by unfold SetTable.sameMemory;simp
      rw[sm];simp only[if_true];rw[il S.tb.rise hp];simp only[D];refine aa (wpAny_isSame_ref_self ?_);refine aa (ai ?_);simp only[if_true];exact ih (K - (q+1)) (by lia) (q+1) fuel (some _) rfl (by lia) (by lia) rfl (m c)
end
section
variable{prog:Program}{w:World}{A:Around}{E:Value->Shared->Prop}{s:Shared}
theorem JK{c:List Int}{b:List Value}(h:ItemsAre (intKind prog w) c b):∀v∈b,∃n t,v=.int n t:=by
 induction h with
 | nil=>intro v a;cases a
 | cons h1 _ d=>
  intro v a;rcases List.mem_cons.mp a with rfl | a
  .obtain⟨t,h2⟩:=Value.isInt_shape (show Value.isInt _ _=true from h1);exact⟨_,t,h2⟩
  .exact d v a
theorem lJ{i:List Int}{a:Addr}{Q:Bool->Shared->Prop}(g:TK prog w s.heap i a)(h:Q true s):wpAny (model prog w) A (hashByValue 8 (.ref a)) Q E s:=by
 have hT:=g.typeIs;obtain⟨o,items,n,j,_,hd,k⟩:=g;unfold hashByValue;refine aa (wpAny_specialOf hT F.slot_tuple_hash.lookup ?_);dsimp only;refine aa (wpAny_seqItems j hd ?_);refine aa ?_;show wpAny _ _ (forIn items _ _) _ _ s;rw[<-Array.forIn_toList];refine wpAny_forIn_list _ (fun rest r c=>r.1=none/\c = s/\∀v∈rest,∃n t,v=.int n t) _ ?_ ?_ _ _ ⟨rfl,rfl,JK k⟩
 .rintro v rest r c ⟨d,rfl,b⟩;obtain⟨n,t,rfl⟩:=b v List.mem_cons_self;have e:hashByValue 7 (.int n t)=pure true:=by unfold hashByValue;rfl
  rw[e];refine aa (ai ?_);simp only[Bool.not_true,Bool.false_eq_true,if_false];exact ai ⟨rfl,rfl,fun u f=>b u (bh _ f)⟩
 .rintro⟨l,m⟩ c ⟨d,rfl,_⟩;simp only at d;subst d;exact ai h
theorem TK.but{h f:Heap}{a b:Addr}{o:Obj}{q:Array (Int×Value)}{j:Nat}{t:SetTable}{g:List Int}(k:TK prog w h g b)(l:h.get? a=some o)(hd:o.data=.set q j t)(r:Heap.SameBut a h f):TK prog w f g b:=by
 obtain⟨i,items,n,d,m,c,p⟩:=k;have e:b≠a:=by rintro rfl;obtain rfl:i = o:=Option.some.inj (d.symm.trans l);rw[hd] at c;exact nomatch c
 exact⟨i,items,n,(r.2 b e).trans d,m,c,p⟩
theorem JL{α:Type}(l:List α)(d:α):(List.range l.length).map (fun i=>(l[i]?).getD d)=l:=by
 apply List.ext_getElem?;intro i;rw[List.getElem?_map]
 by_cases h:i<l.length
 .rw[List.getElem?_range h];simp[h]
 .rw[List.getElem?_eq_none (by simpa using Nat.le_of_not_lt h),List.getElem?_eq_none (by simpa using Nat.le_of_not_lt h)];rfl
theorem xz{α:Type}{a:Array α}{rows:List α}(e:a.toList=rows)(d:α):∀l:List Nat,(∀i∈l,i<rows.length)->l.filterMap (fun i=>a[i]?)=l.map fun i=>(rows[i]?).getD d
 | [],_=>rfl
 | i::l,h=>by
  have b:=h i (.head _);have q:a[i]? = some ((rows[i]?).getD d):=by rw[<-Array.getElem?_toList,e];simp[b]
  rw[List.filterMap_cons_some q,List.map_cons,xz e d l fun j c=>h j (.tail _ c)]
theorem JM{a:Addr}{o:Obj}{d:Array (Int×Value)}{C:Nat}{t:SetTable}{led:Bool}{rows:List (List Int×Addr)}{c:Nat}{Q:Unit->Shared->Prop}(k:s.heap.get? a=some o)(D:o.ExactSet)(hd:o.data=.set d C t)(l:d.toList=rows.map fun r=>(hT prog w r.1,Value.ref r.2))(G:∀r∈rows,TK prog w s.heap r.1 r.2)(H:t.fits d.size=true)(I:t.led=led)
  {m:Nat}(x:SetTable.sizeAbove c=m+1) (mk:m=7\/m=31\/m=127\/m=511) (full:rows.length * 5<m * 3)
  (q:∀g h j n t' b,Heap.SameBut a s.heap g->g.get? a=some h->h.ExactSet->h.data=.set j n t'->cp prog w g j t' led b->b.Perm rows->Q () { s with heap:=g }):wpAny (model prog w) A (setRelay a c) Q E s:=by
 have tr:aV m=true:=by
  rcases mk with rfl | rfl | rfl | rfl
  .exact eI
  .exact fP
  .exact eS
  .exact eU
 have sz:d.size=rows.length:=by rw[<-Array.length_toList,l,List.length_map]
 obtain⟨t',order,h1,h2,h3,y,J,_⟩:=JG (fg:=t.finger) (mv:=t.movedTo m) (led:=t.led) (pl:=t.plain) tr (d.map (·.1)) (by rw[Array.size_map,sz];lia);rw[Array.size_map,sz] at h2;have inl:∀i∈order.toList,i<rows.length:=fun i f=>List.mem_range.mp (h2.mem_iff.mp f);unfold setRelay;refine aa (wpAny_setState_of k hd H ?_);dsimp only;have big:¬ SetTable.sizeAbove c>sizeLine:=by
  rw[x];have:1000<sizeLine:=by decide
  lia
 rw[if_neg big];have L:t.relaid (d.map (·.1)) c=some (t',order):=by unfold SetTable.relaid;rw[x];exact h1
 rw[L];have N:(Int×Value):=(0,.none)
 have le:(order.filterMap (fun i=>d[i]?)).toList=order.toList.map fun i=>((rows.map fun r=>(hT prog w r.1,Value.ref r.2))[i]?).getD (0,.none):=by rw[Array.toList_filterMap];exact xz l _ _ fun i f=>by rw[List.length_map];exact inl i f
 have z:(order.filterMap (fun i=>d[i]?)).size=d.size:=by rw[<-Array.length_toList,le,List.length_map,h2.length_eq,List.length_range,sz]
 refine aa ?_;show wpAny _ _ (do
   if (order.filterMap (fun i=>d[i]?)).size != d.size then unsupported "internal:set-table-lost-an-element"
   pure (order.filterMap (fun i=>d[i]?),t')) _ _ s
 rw[z];simp only[bne_self_eq_false,Bool.false_eq_true,if_false];refine ai ?_;dsimp only;refine oq k D hd (by rw[z,sz];rcases mk with rfl | rfl | rfl | rfl<;>(unfold scanBound;lia)) fun g h B p u v=>?_;let b:=order.toList.map fun i=>(rows[i]?).getD ([],0);have pm:b.Perm rows:=(h2.map fun i=>(rows[i]?).getD ([],0)).trans (.of_eq (JL rows _));refine q g h _ _ _ b B p u v ⟨?_,fun r M=>(G r (pm.mem_iff.mp M)).but k hd B,?_,by rw[y];exact mk,by rw[y,pm.length_eq];exact full,by rw[J];exact I⟩ pm
 .rw[le,List.map_map];refine List.map_congr_left fun i f=>?_;rw[List.getElem?_map,List.getElem?_eq_getElem (inl i f)];simp[inl i f]
 .have e:(order.toList.map fun i=>((d.map (·.1))[i]?).getD 0)=b.map fun r=>hT prog w r.1:=by rw[List.map_map];refine List.map_congr_left fun i f=>?_;have:=inl i f;rw[<-Array.getElem?_toList,Array.toList_map,l,List.map_map,List.getElem?_map,List.getElem?_eq_getElem this];simp[this]
  rw[<-e];exact h3
end
section
variable{prog:Program}{w:World}{A:Around}{E:Value->Shared->Prop}{s:Shared}
theorem gS:SetTable.sizeAbove 20=31+1:=by decide +kernel
theorem gT:SetTable.sizeAbove 76=127+1:=by decide +kernel
theorem fQ:SetTable.sizeAbove 308=511+1:=by decide +kernel
theorem JN{a b:Addr}{o:Obj}{k:Array (Int×Value)}{ep:Nat}{t:SetTable}{led:Bool}{rows:List (List Int×Addr)}{d:List Int}{Q:Bool->Shared->Prop}(hu:A.units<cLine)(x:s.heap.get? a=some o)(hx:o.ExactSet)(hd:o.data=.set k ep t)(S:cp prog w s.heap k t led rows)(J:TK prog w s.heap d b)(few:rows.length<300)
  (same:d∈rows.map (·.1)->Q false s)
  (new:d∉rows.map (·.1)->∀G L y M t' c,Heap.SameBut a s.heap G->G.get? a=some L->L.ExactSet->L.data=.set y M t'->cp prog w G y t' led c->c.Perm ((d,b)::rows)->Q true { s with heap:=G }) :
  wpAny (model prog w) A (setAddHashed a (.ref b) (hT prog w d)) Q E s:=by
 obtain⟨K,N,O,hB⟩:=S.tb.first (hT prog w d)
 have hJ:=JB t (hT prog w d) K;have len:=S.tb.len;rw[List.length_map] at len;have full:=S.full;have sz:k.size=rows.length:=by rw[<-Array.length_toList,S.es,List.length_map]
 unfold setAddHashed setAddHashedIn;refine wpAny_holding (aa (wpAny_setState_of x hd S.fits ?_));dsimp only;have bs:byScan (.ref b) k=false:=by unfold byScan Value.scannable;simp
 rw[bs];simp only[Bool.false_eq_true,if_false];have a5:K<100000:=by unfold SetTable.turns at N;rcases S.mks with e | e | e | e<;>rw[e] at N<;>lia
 refine aa (JI (K:=K) hu x hd S J N O hB (fun H i=>?_) (fun H=>?_) (K - 0) 0 100000 none rfl (Nat.zero_le _) (by lia) rfl fun r n=>absurd n (Nat.not_lt_zero _))
 .exact ai (same H)
 .dsimp only;generalize R:(aI t.mask K (t.probeStart (hT prog w d))).j=j at O hJ ⊢;refine aa (wpAny_setState_of x hd S.fits ?_);dsimp only;have P:=S.tb.put (h:=hT prog w d) (K:=K) (by rw[R];exact O) hB (by rw[R];exact hJ) (by rw[List.length_map];rcases S.mks with e | e | e | e<;>lia);rw[R] at P;have mp:∀(l:List (List Int×Addr)) (p:Nat),((l.map fun r=>hT prog w r.1).take p++hT prog w d::(l.map fun r=>hT prog w r.1).drop p)=(l.take p++(d,b)::l.drop p).map fun r=>hT prog w r.1:=fun l p=>by simp[List.map_take,List.map_drop]
  rw[mp] at P;let c:=rows.take (SetTable.below t.place j)++(d,b)::rows.drop (SetTable.below t.place j);have pm:c.Perm ((d,b)::rows):=by refine List.perm_middle.trans ?_;rw[List.take_append_drop]
  have le:(SetTable.insertAt k (SetTable.below t.place j) (hT prog w d,Value.ref b)).toList=c.map fun r=>(hT prog w r.1,Value.ref r.2):=by rw[SetTable.toList_insertAt,S.es];simp[c,List.map_take,List.map_drop]
  have lz:(SetTable.insertAt k (SetTable.below t.place j) (hT prog w d,Value.ref b)).size=rows.length+1:=by rw[<-Array.length_toList,le,List.length_map,pm.length_eq,List.length_cons]
  have kk:∀r∈c,TK prog w s.heap r.1 r.2:=fun r n=>by
   rcases List.mem_cons.mp (pm.mem_iff.mp n) with rfl | n
   .exact J
   .exact S.key r n
  have main:wpAny (model prog w) A (do
    storeSet a (SetTable.insertAt k (t.put j).2 (hT prog w d,Value.ref b)) (t.put j).1
    if (!false&&(t.put j).1.tooFull)=true then do
      setRelay a (SetTable.grown (k.size+1))
      pure true
     else pure true) Q E s:=?main
  .split
   .exact aa (lJ J main)
   .exact aa (ai main)
  refine aa (oq x hx hd (by show(SetTable.insertAt k (SetTable.below t.place j) (hT prog w d,Value.ref b)).size<_;rw[lz];unfold scanBound;lia) fun I o1 q z B C=>?_);have D:∀r∈c,TK prog w I r.1 r.2:=fun r n=>(kk r n).but x hd q;have T:(t.put j).1.fill=rows.length+1:=by have:=P.len;rw[List.length_map,pm.length_eq,List.length_cons] at this;unfold SetTable.fill;rw[P.nd,<-Array.length_toList,this];rfl
  have mk':(t.put j).1.mask=t.mask:=rfl
  by_cases v:(t.put j).1.tooFull=true
  .rw[v];simp only[Bool.not_false,Bool.and_self,if_true];unfold SetTable.tooFull at v;rw[T,mk',decide_eq_true_eq] at v;have pl:=pm.length_eq;rw[List.length_cons] at pl;have U:(t.put j).1.fits (SetTable.insertAt k (SetTable.below t.place j) (hT prog w d,Value.ref b)).size=true:=by unfold SetTable.fits;rw[T,mk',lz];have:=P.len;rw[List.length_map,pl] at this;rw[<-Array.length_toList,this];simp;rcases S.mks with e | e | e | e<;>lia
   have fin:∀{f m:Nat},SetTable.sizeAbove f=m+1->(m=7\/m=31\/m=127\/m=511)->c.length * 5<m * 3->SetTable.grown (k.size+1)=f->
     wpAny (model prog w) A (setRelay a (SetTable.grown (k.size+1)) >>= fun _=>pure true) Q E { s with heap:=I }:=fun hw X hf hg=>by
    rw[hg];refine aa (JM (s:={ s with heap:=I }) z B C le D U S.led hw X hf fun h2 o2 Y Z t2 u a0 a1 a2 a3 S2 a4=>ai ?_);exact new H h2 o2 Y Z t2 u (q.trans a0) a1 a2 a3 S2 (a4.trans pm)
   have g:SetTable.grown (k.size+1)=(rows.length+1) * 4:=by unfold SetTable.grown;rw[sz,if_neg (by lia)]
   rcases S.mks with e | e | e | e
   .have:rows.length=4:=by lia
    exact fin gS (.inr (.inl rfl)) (by lia) (by rw[g,this])
   .have:rows.length=18:=by lia
    exact fin gT (.inr (.inr (.inl rfl))) (by lia) (by rw[g,this])
   .have:rows.length=76:=by lia
    exact fin fQ (.inr (.inr (.inr rfl))) (by lia) (by rw[g,this])
   .omega
  .rw[Bool.eq_false_iff.mpr v];simp only[Bool.not_false,Bool.and_false,Bool.false_eq_true,if_false];have nf:(rows.length+1) * 5<t.mask * 3:=by unfold SetTable.tooFull at v;rw[T,mk',decide_eq_true_eq] at v;lia
   refine ai (new H I o1 _ _ _ c q z B C ⟨le,D,P,S.mks,?_,S.led⟩ pm);rw[pm.length_eq];exact nf
end
noncomputable def addL(Y:List (List Int))(k:List Int):List (List Int):=if k∈Y then Y else Y++[k]
noncomputable def onceL(a:List (List Int)):List (List Int):=a.foldl addL []
theorem JO(Y:List (List Int))(k:List Int):(addL Y k).length<=Y.length+1:=by unfold addL;split<;>simp
theorem xA:∀(a Y:List (List Int)),(a.foldl addL Y).length<=Y.length+a.length
 | [],Y=>by simp
 | n::a,Y=>by have h1:=xA a (addL Y n);have h2:=JO Y n;simp only[List.foldl_cons,List.length_cons];lia
theorem onceL_len(a:List (List Int)):(onceL a).length<=a.length:=by simpa[onceL] using xA a []
theorem xB{a:List (List Int)}{i:Nat}{n:List Int}(e:a[i]? = some n):onceL (a.take (i+1))=addL (onceL (a.take i)) n:=by unfold onceL;rw[List.take_add_one,e,Option.toList_some,List.foldl_append];rfl
section
variable{prog:Program}{w:World}{A:Around}{E:Value->Shared->Prop}{s:Shared}
def SetM(prog:Program)(w:World)(h:Heap)(S:Addr)(led:Bool)(bs:List Addr)(a:List (List Int)):Prop:=
 ∃o b c t rows,h.get? S=some o/\o.ExactSet/\o.data=.set b c t/\cp prog w h b t led rows/\(rows.map (·.1)).Perm (onceL a)/\∀r∈rows,r.2∈bs
theorem JP{R:Result->Shared->Prop}{I:Addr}{fp l:List Addr}{G:Array GenState->Array GenState->Prop}{P:Nat->Value->Prop}{St:Nat->Shared->Prop}{kss:List (List Int)}{bs:List Addr}{led:Bool}(W:WalksS prog w A.in1 I fp l G kss.length P St){S:Addr}(D:S∉fp)(hu:A.in1.units<cLine)
  (H:∀b∈bs,b≠S/\b∉l) (J:∀i v,P i v->∃a b,kss[i]? = some a/\bs[i]? = some b/\v=.ref b) (p:kss.length<=300):∀(k i:Nat) (s:Shared),kss.length - i=k->i<=kss.length->St i s->SetM prog w s.heap S led bs (kss.take i)->(∀(j:Nat) (a:List Int) (b:Addr),kss[j]? = some a->bs[j]? = some b->TK prog w s.heap a b)->
   (∀d,Moved (S::l) G s d->SetM prog w d.heap S led bs kss->R (.ok (.ret .none)) d)->codeAny (model prog w) A (.builtin "set.update.loop" ⟨[.ref S,.ref I],[]⟩) R s:=by
 have L:S∉l:=fun h=>D (W.sub _ h);have up:∀b∈l,b∈S::l:=fun b p=>.tail _ p;have Z:∀{h h':Heap}{a:List Int}{b:Addr},b∈bs->(∀c o,c∉S::l->h.get? c=some o->h'.get? c=some o)->TK prog w h a b->TK prog w h' a b:=fun N k ⟨o,items,n,Y,C⟩=>⟨o,items,n,k _ _ (fun z=>by
  rcases List.mem_cons.mp z with z | z
  .exact(H _ N).1 z
  .exact(H _ N).2 z) Y,C⟩
 intro k
 induction k with
 | zero=>
  intro i s hk hi st M T hR;obtain rfl:i=kss.length:=by lia
  refine codeAny_builtin PyProof.Rows.F.entry_set_update_loop ?_;rw[Around.under_plainId PyProof.Rows.F.plain_set_update_loop _];refine aa (W.done s _ _ st fun d q=>ai ?_);rw[List.take_length] at M;obtain⟨o,es,ep,t,rows,m1,m2,m3,f,u,y⟩:=M;exact hR d (q.mono up) ⟨o,es,ep,t,rows,q.heap S _ L m1,m2,m3,⟨f.es,fun r m=>Z (y r m) (fun c o' O e=>q.heap c _ (fun z=>O (up c z)) e) (f.key r m),f.tb,f.mks,f.full,f.led⟩,u,y⟩
 | succ k ih=>
  intro i s hk hi st M T hR;have Q:i<kss.length:=by lia
  refine codeAny_builtin PyProof.Rows.F.entry_set_update_loop ?_;rw[Around.under_plainId PyProof.Rows.F.plain_set_update_loop _];refine aa (W.item i s _ _ Q st fun v d hP U q=>?_);obtain⟨a,b,e1,e2,rfl⟩:=J i v hP;have bm:=List.mem_of_getElem? e2;have kp:∀c o,c∉S::l->s.heap.get? c=some o->d.heap.get? c=some o:=fun c o O e=>q.heap c _ (fun z=>O (up c z)) e;obtain⟨o,es,ep,t,rows,m1,m2,m3,f,u,y⟩:=M;have S':cp prog w d.heap es t led rows:=⟨f.es,fun r m=>Z (y r m) kp (f.key r m),f.tb,f.mks,f.full,f.led⟩
  have T':TK prog w d.heap a b:=Z bm kp (T i a b e1 e2);have X:=q.heap S _ L m1;refine aa (wpAny_holding ?_);unfold setAdd;refine wpAny_holding (aa (wpAny_pyHash_tuple hu T' ?_));have few:rows.length<300:=by have Y:=onceL_len (kss.take i);have C:=u.length_eq;rw[List.length_map] at C;rw[List.length_take] at Y;lia
  have next:∀(B:Shared),Moved (S::l) G s B->St (i+1) B->SetM prog w B.heap S led bs (kss.take (i+1))->codeAny (model prog w) A (.builtin "set.update.loop" ⟨[.ref S,.ref I],[]⟩) R B:=fun B mv a0 M2=>by refine ih (i+1) B (by lia) Q a0 M2 (fun j a1 b' Y C=>Z (List.mem_of_getElem? C) (fun c o O e=>mv.heap c _ O e) (T j a1 b' Y C)) fun s3 a2 M3=>?_;exact hR s3 (Moved.trans W.gtrans mv a2) M3
  refine JN (s:={ d with toks:=d.toks+(a.length+1) }) hu X m2 m3 S' T' few (fun g=>?_) (fun g h' o2 a3 a4 t2 x sb a5 a6 a7 S2 pm=>?_)
  .refine ai ⟨plainId_quiet PyProof.Rows.F.plain_set_update_loop _,next _ ((q.mono up).then_heap (Nat.le_add_right _ _) fun b o p e=>e) (W.frame _ d _ _ U (Nat.le_add_right _ _) fun b p o e=>e) ⟨o,es,ep,t,rows,X,m2,m3,S',?_,y⟩⟩;rw[xB e1];unfold addL;rw[if_pos (u.mem_iff.mp g)];exact u
  .refine ai ⟨plainId_quiet PyProof.Rows.F.plain_set_update_loop _,next _ ((q.mono up).then_heap (Nat.le_add_right _ _) fun b o p e=>?_) (W.frame _ d _ _ U (Nat.le_add_right _ _) fun b p o e=>?_) ⟨o2,a3,a4,t2,x,a5,a6,a7,S2,?_,?_⟩⟩
   .rw[sb.2 b (fun h:b=S=>p (by rw[h];exact .head _))];exact e
   .rw[sb.2 b (fun h:b=S=>D (by rw[<-h];exact p))];exact e
   .rw[xB e1];unfold addL;rw[if_neg fun z=>g (u.mem_iff.mpr z)];refine(pm.map _).trans ?_;rw[List.map_cons];exact(u.cons a).trans (List.perm_append_singleton a _).symm
   .intro r m;rcases List.mem_cons.mp (pm.mem_iff.mp m) with rfl | m
    .exact bm
    .exact y r m
end
section
variable{prog:Program}{w:World}{A:Around}{E:Value->Shared->Prop}{s:Shared}
theorem JQ{h:Heap}{led:Bool}:cp prog w h #[] (.fresh 0 0 led) led []:=
 ⟨rfl,(fun r a=>by cases a),⟨.nil,rfl,(fun x b=>by cases b),rfl,eI,Nat.zero_le _,(fun p c=>by cases c)⟩,.inl rfl,(show 0 * 5<7 * 3 by decide),rfl⟩
theorem call_setT{l:Addr}{items:Array Value}{kss:List (List Int)}{bs:List Addr}{Q:Value->Shared->Prop}(hh:A.handled=none)(hu:A.in1.in1.in1.units<cLine)(hl:s.heap.IsList l items)(hi:items.toList=bs.map Value.ref)(O:bs.length=kss.length)(m:∀(j:Nat) (H:List Int) (b:Addr),kss[j]? = some H->bs[j]? = some b->TK prog w s.heap H b)(I:kss.length<=300)
  (h:∀(p:Heap) (tk:Nat),(∀b u,s.heap.get? b=some u->p.get? b=some u)->SetM prog w p s.heap.objs.size (ledW w) bs kss->Q (.ref s.heap.objs.size) { s with heap:=p,toks:=tk }) :
  wpAny (model prog w) A (call (.type "set") [.ref l]) Q E s:=by
 obtain⟨c,tl,a2⟩:=PySem.F.called_set.mro;have T:=PySem.F.called_set.made;have a3:=PySem.F.called_set.sub;refine wpAny_call (codeAny_of_tree (ai ⟨Code.quiet_builtin _ (by decide +kernel),codeAny_builtin PySem.F.entry_type_call ?_⟩));rw[Around.under_plain (weight_type_call_type "set" [.ref l] []) rfl];have G:=PySem.F.called_set.notType;have N:=PySem.F.called_set.canCreate;have a7:=PySem.F.typeCall_set_1 (.ref l)
 repeat (any_goals (first | assumption | wp_step))
 refine codeAny_mono (wR (.ref l) (E:=E) (Q₁:=fun obj s₁=>obj=.ref s.heap.objs.size/\s₁ = { s with heap:=s.heap.push (dw (ledW w)) }) ⟨rfl,rfl⟩) fun r s₁ q=>?_;cases r with
 | error e=>exact q
 | ok fl=>
  cases fl with
  | ret obj=>
   obtain⟨rfl,rfl⟩:=q;have hS:(s.heap.push (dw (ledW w))).get? s.heap.objs.size=some (dw (ledW w)):=Heap.get?_push_size _ rfl;have hT:Shared.TypeIs { s with heap:=s.heap.push (dw (ledW w)) } (.ref s.heap.objs.size) "set":=⟨_,hS,rfl⟩
   have a8:=PySem.F.called_set.init.lookup;have a9:=PySem.F.called_set.init.bind (.ref s.heap.objs.size)
   repeat (any_goals (first | assumption | wp_step))
   refine codeAny_mono (codeAny_call_builtin (R:=wants (fun r s₂=>r=.none/\Q (.ref s.heap.objs.size) s₂) E) PySem.F.called_set.init.plain PySem.F.entry_set_init (check_set_init_1 hT ?_)) fun r₂ s₂ d=>?_
   .obtain⟨⟨a4,f,U,a⟩,t,x,nl,y⟩:=hl;simp only at x y;subst x y;have z:(s.heap.push (dw (ledW w))).get? l=some { cls:=.type "list",dict:=f,data:=.seq items nl,slots:=a }:=aF _ t;have a5:=PySem.F.sub_list_set;have a6:=PySem.F.sub_list_frozenset;have b0:(Value.type "list"==Value.type "dict")=false:=by decide
    have B:(s.heap.push (dw (ledW w))).IsList l items:=⟨_,z,rfl,nl,rfl⟩
    unfold Builtin.«set.__init__» noKeywords Builtin.Frozenset.updateFrom;generalize X:pyIter=PI
    wp_walk
    subst X;refine wpAny_pyIter_list B (aa (wpAny_runValue ?_));have C:l<s.heap.objs.size:=aR t;have J:(s.heap.push (dw (ledW w))).objs.size=s.heap.objs.size+1:=Heap.size_push ..;have hn:kss.length=items.size:=by rw[<-O,<-Array.length_toList,hi,List.length_map]
    have W:=(Walks.list (prog:=prog) (w:=w) (A:=A.in1.in1.in1) (by simp[hh]) (s.heap.push (dw (ledW w))).objs.size l (by rw[J];exact Nat.ne_of_lt (Nat.lt_succ_of_lt C)) items).toS;rw[<-hn] at W;have g:∀b∈bs,b<s.heap.objs.size:=fun b k=>by obtain⟨j,hj⟩:=List.mem_iff_getElem?.mp k;have:=(List.getElem?_eq_some_iff.mp hj).1;obtain⟨o,_,_,ho,_⟩:=m j _ b (List.getElem?_eq_getElem (by lia)) hj;exact aR ho
    refine JP (kss:=kss) (bs:=bs) (led:=ledW w) W (S:=s.heap.objs.size) ?_ hu (fun b k=>?_) (fun i v hv=>?_) I (kss.length - 0) 0 _ rfl (Nat.zero_le _) ⟨⟨_,Heap.get?_push_size _ rfl,rfl,rfl⟩,B.push _⟩ ⟨_,_,_,_,[],aF _ hS,⟨rfl,rfl,rfl⟩,rfl,JQ,.nil,fun r q=>by cases q⟩ (fun j H b G N=>?_) fun s' L M=>?_
    .rw[J];simp only[List.mem_cons,List.not_mem_nil,or_false,not_or];exact⟨Nat.ne_of_lt (Nat.lt_succ_self _),Nat.ne_of_gt C⟩
    .have:=g b k;rw[J];simp only[List.mem_cons,List.not_mem_nil,or_false,not_or];exact⟨Nat.ne_of_lt this,Nat.ne_of_lt (Nat.lt_succ_of_lt this)⟩
    .have D:items.toList[i]? = some v:=by rw[Array.getElem?_toList];exact hv
     rw[hi,List.getElem?_map] at D;obtain⟨b,G,N⟩:=Option.map_eq_some_iff.mp D;have:=(List.getElem?_eq_some_iff.mp G).1;exact⟨_,b,List.getElem?_eq_getElem (by lia),G,N.symm⟩
    .obtain⟨o,Y,n,h3,h4⟩:=m j H b G N;exact⟨o,Y,n,aF _ (aF _ h3),h4⟩
    .obtain⟨p,g',d',Z,a0⟩:=s';obtain rfl:g' = s.gens:=L.gens;obtain rfl:d' = s.drawn:=L.drawn;obtain rfl:a0 = s.os:=L.os;refine ai (ai ⟨rfl,h p Z (fun b u e=>?_) M⟩);have I:=aR e;refine L.heap b u ?_ (aF _ (aF _ e));rw[J];simp only[List.mem_cons,List.not_mem_nil,or_false,not_or];exact⟨Nat.ne_of_lt I,Nat.ne_of_lt (Nat.lt_succ_of_lt I)⟩
   .cases r₂ with
    | error e=>exact d
    | ok a1=>
     cases a1 with
     | ret r=>
      obtain⟨rfl,hq⟩:=d
      repeat (any_goals (first | assumption | wp_step))
     | _=>exact d.elim
  | _=>exact q.elim
end
end L2.TS
namespace L2.L3
open PySem PySem.Spec PyProof.Rows PySem.W
noncomputable def sH(a:Addr)(n:Nat):HO:=.ext fun h=>∃o b c t,h.get? a=some o/\o.ExactSet/\o.data=.set b c t/\t.fits b.size=true/\b.size=n
noncomputable def xD(K:Frag):List V->Hp->VK->Prop:=fun c H Q=>∃(p:Addr) (b:List V) (a:List (List Int)),c=[.ref p]/\cA K H p b/\b.length=a.length/\(∀(i:Nat) (r:List Int),a[i]? = some r->∃T,b[i]? = some (.ref T)/\Rd H T (.tup (r.map V.int)))/\a.length<=300/\∀l,H l=none->Q (.ref l) (aS H l (sH l (TS.onceL a).length))
noncomputable def xE:List V->Hp->VK->Prop:=fun a H Q=>∃p n,a=[.ref p]/\H p=some (sH p n)/\n<=300/\Q (.int n) H
section
variable{X:Cx}
theorem JR{P:Program}{w:World}{H:Hp}{h:Heap}{a:Addr}{bs:List Addr}{b:List (List Int)}{led:Bool}(M:TS.SetM P w h a led bs b):bK P w H h a (sH a (TS.onceL b).length):=by
 obtain⟨o,es,c,t,rows,d,f,g,e,i,_⟩:=M;have j:es.size=(TS.onceL b).length:=by rw[<-i.length_eq,List.length_map,<-Array.length_toList,e.es,List.length_map]
 refine⟨⟨o,es,c,t,d,f,g,e.fits,j⟩,⟨o,d⟩,fun _ _ z k=>?_⟩;obtain⟨o,es,c,t,h1,h2⟩:=z;exact⟨o,es,c,t,k o h1,h2⟩
theorem xF{P:Program}{w:World}:∀{a:List Value}{b:List Int},IntsAre a b->ItemsAre (intKind P w) b a
 | _,_,.nil=>.nil
 | _,_,.cons n t r=>.cons (intKind_is _ _ _ _) (xF r)
theorem JS{A:Around}(a:A.units+64<cLine):A.in1.in1.in1.units<cLine:=by
 have h1:A.in1.units<=A.units+1:=by first | exact aE _ | exact Nat.le_succ _
 have h2:A.in1.in1.units<=A.in1.units+1:=by first | exact aE _ | exact Nat.le_succ _
 have h3:A.in1.in1.in1.units<=A.in1.in1.units+1:=by first | exact aE _ | exact Nat.le_succ _
 lia
theorem kH:∀a:List Value,(∀(i:Nat) (v:Value),a[i]? = some v->∃T,v=.ref T)->∃bs:List Addr,a=bs.map Value.ref
 | [],_=>⟨[],rfl⟩
 | v::a,h=>by obtain⟨T,rfl⟩:=h 0 v rfl;obtain⟨bs,rfl⟩:=kH a fun i v e=>h (i+1) v e;exact⟨T::bs,rfl⟩
theorem JT(t:X.calm=true)(x:X.A.units+64<cLine):dQ X (.type "set") (xD X.K):=by
 intro g s Y H xs us Q I r h;obtain⟨p,vs,c,rfl,y,z,B,C,q⟩:=h;obtain⟨u,rfl,D⟩:=vals1 r;cases D;obtain⟨a,l,E,hz⟩:=I.list y;have m:a.length=c.length:=by rw[<-l.length,z]
 have at_:∀(i:Nat) (k:List Int),c[i]? = some k->∃T,a[i]? = some (.ref T)/\TS.TK X.prog X.w s.heap k T:=fun i k e=>by obtain⟨T,h1,h2⟩:=B i k e;obtain⟨w,G,d⟩:=l.get h1;cases d;obtain⟨_,J,L,N⟩:=h2.ok I.hok;obtain⟨o,O,f,n,hd⟩:=N;exact⟨T,G,o,_,n,O,f,hd,xF (rX L)⟩
 obtain⟨bs,rfl⟩:=kH a fun i v e=>by have:=(List.getElem?_eq_some_iff.mp e).1;obtain⟨T,h1,_⟩:=at_ i _ (List.getElem?_eq_getElem (by lia));rw[h1] at e;cases e;exact⟨T,rfl⟩
 rw[List.length_map] at m;refine TS.call_setT (bs:=bs) (kss:=c) (I.ok.hd t) (JS x) E.isList (by simp) m (fun j k b U e2=>?_) C fun h' tk kp M=>?_
 .obtain⟨T,h1,h2⟩:=at_ j k U;rw[List.getElem?_map,e2] at h1;cases h1;exact h2
 .exact⟨.ref s.heap.objs.size,_,I.laid (t':=tk) kp (aE _) (JR M),rfl,q _ (I.hok.fresh (aE _))⟩
theorem JU:dQ X (.builtin "len") xE:=by intro a s Y H e f Q I r h;obtain⟨p,n,rfl,b,g,q⟩:=h;obtain⟨u,rfl,c⟩:=vals1 r;cases c;obtain⟨⟨o,es,i,t,h1,h2,h3,d,rfl⟩,_⟩:=I.hok p _ b;refine call_len_set h1 h2 h3 d (by lia) ?_;exact⟨.int es.size,H,I.tok _,⟨_,rfl⟩,q⟩
end
noncomputable def oC(b:List PyData):Option (List (List Int)):=match b with
 | [.list c]=>(iS c).bind fun a=>if a.length<=300 then some a else none
 | _=>none
theorem JV{K:Frag}{O:List Addr}{H:Hp}{k:List V}{l:List PyData}{d:List (List Int)}(hd:aC (aj O H) k l)(e:oC l=some d):∃a b,k=[.ref a]/\cA K H a b/\b.length=d.length/\(∀(i:Nat) (r:List Int),d[i]? = some r->∃T,b[i]? = some (.ref T)/\Rd H T (.tup (r.map V.int)))/\d.length<=300:=by
 unfold oC at e;split at e
 .rename_i n;obtain⟨u,o,f⟩:=Option.bind_eq_some_iff.mp e;split at f
  .rename_i p;cases f;obtain⟨x,rfl,h1⟩:=fE hd;obtain⟨a,b,rfl,q,m⟩:=h1.lst_inv;have c:=wj o;refine⟨a,b,rfl,.of (cE q).1,by rw[m.length,c,List.length_map],fun i r s=>?_,p⟩;have g:n[i]? = some (.tuple (r.map PyData.int)):=by rw[c,List.getElem?_map,s];rfl
   obtain⟨v,h,j⟩:=m.get g;obtain⟨T,w,rfl,hT,t⟩:=j.tup_inv;rw[wm t] at hT;exact⟨T,h,(gx hT).1⟩
  .cases f
 .cases e
noncomputable def lK(a:List PyData):Option PyData:=(oC a).map fun b=>.int (TS.onceL b).length
noncomputable def sI:DN:=fun a Q=>∃d,lK a=some d/\Q d
theorem JW:FN sI lK:=fun a d Q e q=>⟨d,e,q⟩
theorem xG{K:Frag}:fX (fun xs H Q=>xD K xs H fun v H1=>xE [v] H1 Q) sI where
 mn:=fun _ _ _ k z=>by obtain⟨d,e,q⟩:=z;exact⟨d,e,k _ q⟩
 ok:=fun O H vs xs Q hO hd q=>by obtain⟨d,e,q⟩:=q;obtain⟨rs,e1,rfl⟩:=Option.map_eq_some_iff.mp e;obtain⟨a,ys,rfl,sq,hl,hr,hb⟩:=JV (K:=K) hd e1;exact⟨a,ys,rs,rfl,sq,hl,hr,hb,fun l h1=>⟨l,_,rfl,cU,Nat.le_trans (TS.onceL_len rs) hb,q _ _ (bC h1) (.int _)⟩⟩
section
variable{X:Cx}{F:Fx}{e:Expr}{tA:cF}{pos p pos2 p2:Pos}
theorem JX(h:X.A.units+64<cLine)(i:X.calm=true)(j:Gl X "len")(k:X.mg "len" = none)(c:Gl X "set")(d:X.mg "set" = none)(f:DA X F [e] tA)
  (l:autoParam (starEach [e] X.env=(false,eval e X.env)::starEach [] X.env) Zq._auto_1) (g:autoParam ((backTo pos2 (starEach [] X.env)).any (·.1)=false) Zq._auto_1)
  (a:autoParam (starEach [.Call (.Name "set" p2) [e] [] pos2] X.env=(false,eval (.Call (.Name "set" p2) [e] [] pos2) X.env)::starEach [] X.env) Zq._auto_1) (b:autoParam ((backTo pos (starEach [] X.env)).any (·.1)=false) Zq._auto_1) :
  DE X F (.Call (.Name "len" p) [.Call (.Name "set" p2) [e] [] pos2] [] pos) (jx sI tA):=
 ⟨qQ (xG (K:=X.K)) f.mn,(iD JU j k PySem.boot_len (eL (qo (JT i h) c d xb f.pa (by decide) (by decide) l g) eX a) (by decide) (by decide) a b).imp (qP (xG (K:=X.K)) f.mn)⟩
end
end L2.L3
namespace Due
noncomputable abbrev Sh:=List (Int×Int)
noncomputable def ft(a:Int):Sh->Int->Int
 | [],_=>a
 | (b,c)::r,m=>ft (if b<=m then c else a) r m
noncomputable def bP(a:Int)(b:Sh)(m:Int):Int:=m+ft a b m
noncomputable def eV:Int->Sh->Prop
 | _,[]=>True
 | lo,(b,_)::r=>lo<b/\eV b r
theorem xH{a m:Int}:∀{d:Sh}{lo:Int},eV lo d->m<=lo->ft a d m=a
 | [],_,_,_=>rfl
 | (b,c)::r,lo,⟨h1,h2⟩,e=>by unfold ft;rw[if_neg (by lia)];exact xH h2 (by lia)
noncomputable def JY(g:Int):Int->Int->Sh->Int
 | s,a,[]=>max s (g - a)
 | s,a,(b,c)::r=>if max s (g - a)<b then max s (g - a) else JY g b c r
def oD(a:Int)(b:Sh):Prop:=(-12<=a/\a<=14)/\∀p∈b,-12<=p.2/\p.2<=14
theorem sJ{m:Int}:∀{d:Sh}{a:Int},oD a d->-12<=ft a d m/\ft a d m<=14
 | [],a,h=>h.1
 | (b,c)::r,a,h=>by
  unfold ft;refine sJ ⟨?_,fun p e=>h.2 p (bh _ e)⟩;split
  .exact h.2 (b,c) List.mem_cons_self
  .exact h.1
noncomputable def ak(s a:Int):Sh->List (Int×Option Int×Int)
 | []=>[(s,none,a)]
 | (b,c)::r=>(s,some b,a)::ak b c r
noncomputable def im(m:Int):Option Int->Bool
 | none=>true
 | some e=>decide (m<e)
noncomputable def bx(g:Int)(l:List (Int×Option Int×Int)):List Int:=(l.filter fun p=>decide (p.1<=g - p.2.2)&&im (g - p.2.2) p.2.1).map fun p=>g - p.2.2
theorem sK(g:Int):∀(o:Sh) (s a:Int),eV s o->(∀m,m∈bx g (ak s a o)↔s<=m/\bP a o m=g)/\(bx g (ak s a o)).Pairwise (·<·)
 | [],s,a,_=>by
  unfold ak bx bP ft
  by_cases h:s<=g - a
  .simp only[List.filter_cons,im,Bool.and_true,decide_eq_true h,if_true,List.filter_nil,List.map_cons,List.map_nil,List.mem_singleton];refine⟨fun m=>⟨fun e=>by lia,fun e=>by lia⟩,List.pairwise_singleton _ _⟩
  .simp only[List.filter_cons,im,Bool.and_true,decide_eq_false h,List.filter_nil];refine⟨fun m=>⟨fun e=>by simp at e,fun e=>by lia⟩,by simp⟩
 | (b,c)::r,s,a,⟨h1,h2⟩=>by
  obtain⟨k,l⟩:=sK g r b c h2;have j:∀m,m<b->bP a ((b,c)::r) m=m+a:=fun m i=>by unfold bP ft;rw[if_neg (by lia),xH h2 (by lia)]
  have f:∀m,b<=m->bP a ((b,c)::r) m=bP c r m:=fun m i=>by unfold bP;rw[ft,if_pos i]
  have e:bx g (ak s a ((b,c)::r))=(if s<=g - a/\g - a<b then[g - a] else[])++bx g (ak b c r):=by
   rw[show ak s a ((b,c)::r)=(s,some b,a)::ak b c r from rfl];unfold bx;rw[List.filter_cons]
   by_cases h:s<=g - a/\g - a<b
   .rw[if_pos (by show(decide (s<=g - a)&&decide (g - a<b))=true;simp[h]),if_pos h];rfl
   .rw[if_neg (by show ¬ (decide (s<=g - a)&&decide (g - a<b))=true;simpa using h),if_neg h];rfl
  rw[e];constructor
  .intro m;rw[List.mem_append,k]
   by_cases h:s<=g - a/\g - a<b
   .rw[if_pos h,List.mem_singleton];constructor
    .rintro(rfl | ⟨n,d⟩)
     .exact⟨h.1,by rw[j _ h.2];lia⟩
     .exact⟨by lia,by rw[f _ n];exact d⟩
    .rintro⟨n,d⟩
     by_cases i:m<b
     .rw[j _ i] at d;exact .inl (by lia)
     .rw[f _ (by lia)] at d;exact .inr ⟨by lia,d⟩
   .rw[if_neg h];constructor
    .rintro(q | ⟨n,d⟩)
     .simp at q
     .exact⟨by lia,by rw[f _ n];exact d⟩
    .rintro⟨n,d⟩
     by_cases i:m<b
     .rw[j _ i] at d;exact absurd ⟨by lia,by lia⟩ h
     .rw[f _ (by lia)] at d;exact .inr ⟨by lia,d⟩
  .by_cases h:s<=g - a/\g - a<b
   .rw[if_pos h];refine List.pairwise_cons.mpr ⟨fun m i=>?_,l⟩;have:=(k m).mp i;lia
   .rw[if_neg h];exact l
theorem xI:∀{c d:List Int},c.Pairwise (·<·)->d.Pairwise (·<·)->(∀x,x∈c↔x∈d)->c=d
 | [],[],_,_,_=>rfl
 | [],y::r,_,_,h=>absurd ((h y).mpr List.mem_cons_self) List.not_mem_nil
 | x::r,[],_,_,h=>absurd ((h x).mp List.mem_cons_self) List.not_mem_nil
 | x::r,y::t,h1,h2,h=>by
  obtain⟨f,i⟩:=List.pairwise_cons.mp h1;obtain⟨g,j⟩:=List.pairwise_cons.mp h2;have e:x=y:=by
   rcases List.mem_cons.mp ((h x).mp List.mem_cons_self) with e | e
   .exact e
   .rcases List.mem_cons.mp ((h y).mpr List.mem_cons_self) with b | b
    .exact b.symm
    .have:=f _ b;have:=g _ e;lia
  subst e
  congr 1
  refine xI i j fun z=>?_;constructor
  .intro a;rcases List.mem_cons.mp ((h z).mp (bh _ a)) with e | e
   .have:=f _ a;lia
   .exact e
  .intro a;rcases List.mem_cons.mp ((h z).mpr (bh _ a)) with e | e
   .have:=g _ a;lia
   .exact e
structure ef (a:Int) (ss:Sh):Prop where
 len:ss.length<=6
 rise:eV 0 ss
 ah:oD a ss
 top:∀p∈ss,p.1<=9999
end Due
namespace K3
open PySem PySem.Spec L2 L2.L3 PyProof.Rows
noncomputable abbrev xJ:List Str:=["NoZone","NoMoment"]
noncomputable def oE:SM:=(ca (jG (kT "int" (xV 0)) (jG (vm (kT "bool" (xV 0))) (rh (fun i j=>decide (i<=j)) (fun i j=>decide (i<=j)) (xV 1) (xV 0) (xV 2)))))
noncomputable def fR:FM:=bL 3 3 oE
noncomputable def sL:SM:=(ca (jG (kT "tuple" (xV 0)) (ao (aO false) (cJ ea (aN (xV 0) bn)) (xV 1))))
noncomputable def jY:FM:=bL 2 2 sL
noncomputable def sM:SM:=(da (bB (ao nF (ao cy (xV 3) (xC (.int 0))) (xV 1))) (bY (ao cy (xV 3) (xC (.int 1))) (al 2)) cZ)
noncomputable def xK:SM:=(aU (bY (ao cy (xV 0) (xC (.int 0))) (al 2))
  (aU (gM (kU (ao cy (xV 0) (xC (.int 1)))) (al 3) sM)
  (ca (ao di (xV 1) (xV 2)))))
noncomputable def lM:FM:=bL 2 4 xK
noncomputable def sN:XM PyData:=(ao cy (xV 0) (xC (.int 0)))
noncomputable def sO:XM PyData:=(ao cy (xV 0) (xC (.int 1)))
noncomputable def xL:SM:=(aU (bY (ao jE (gH (aN (xC (.int 0)) bn)) (df 1 [] (kU (ao cy (xV 0) (xC (.int 1)))) (al 0) dg sN)) (al 1))
  (aU (bY (ao jE (xU (vP 1) (xV 1)) (gH (aN (xC .none) bn))) (al 2))
  (aU (bY (ao jE (gH (aN (ao cy (xV 0) (xC (.int 0))) bn)) (df 1 [] (kU (ao cy (xV 0) (xC (.int 1)))) (al 0) dg sO)) (al 3))
  (ca (cJ rM (aN (xV 1) (aN (xV 2) (aN (xV 3) bn))))))))
noncomputable def oF:FM:=bL 1 4 xL
noncomputable def xM:SM:=(ca (vp (ao mU (xV 1) (xC .none)) (ao kY (xV 0) (xV 1))))
noncomputable def oG:FM:=bL 2 2 xM
noncomputable def oH:SM:=(aU (da (bB (ao kY (xV 1) (nh 0))) (ca (ni 0 (xV 1))) cZ)
  (aU (da (ro 0) (ca (xC (.int 0))) cZ)
  (ca (ao di (ao jP (ni 0 (ao jQ (xV 1) (nh 0))) (xC (.int 31))) (xV 1)))))
noncomputable def jZ:FM:=bL 2 2 oH
noncomputable def xN:SM:=(kS (aW fR (aq (xV 0) (aq (xC (.int (-12))) (aq (xC (.int (14))) ba)))))
noncomputable def lN:FM:=bL 1 1 xN
noncomputable def xO:SM:=(kS (aW fR (aq (xV 0) (aq (xC (.int 0)) (aq (xC (.int (9999))) ba)))))
noncomputable def oI:FM:=bL 1 1 xO
noncomputable def iX:SM:=(aU (bY (ao rN (xV 1) (xV 5)) (al 6))
  (da (vr (bB (ao nF (xV 3) (xV 6))) (bB (bE (aW oG (aq (xV 6) (aq (xV 4) ba)))))) (nt 2 (xV 6)) cZ))
noncomputable def xP:SM:=(aU (jL 2 (rB bn))
  (aU (gM (dt (bE (aW oF (aq (xV 0) ba)))) (ck 3 (bj (al 3) (bj (al 4) (bj (al 5) cj)))) iX)
  (nk 2)))
noncomputable def lO:FM:=bL 2 7 xP
noncomputable def oJ:SM:=(aU (bY (bE (aW lM (aq (xV 0) (aq (xV 4) ba)))) (al 5))
  (rL 3 (xV 5) (ao di (nB 3 (xV 5) (xC (.int 0))) (xC (.int 1)))))
noncomputable def xQ:SM:=(aU (jL 3 (rK false))
  (aU (gM (gO cQ (aN (xV 1) (aN (ao di (xV 2) (xC (.int 1))) bn))) (al 4) oJ)
  (nk 3)))
noncomputable def lP:FM:=bL 3 6 xQ
noncomputable def xR:SM:=(aU (bY (ao jQ (ao di (ao di (ao jP (bE (aW jZ (cY 0 (aq (xV 1) ba)))) (xC (.int 1103515245))) (ao jP (xC (.int 7919)) (xV 1))) (xC (.int 12345))) (xC (.int 2147483647))) (al 3))
  (ca (ao jQ (ao jQ (ao jQ (ao vX (xV 3) (xC (.int 5))) (xC (.int 2147483647))) (xC (.int 999983))) (xV 2))))
noncomputable def oK:FM:=bL 3 4 xR
noncomputable def oM:SM:=(aU (da (kP (gc (bB (bE (aW jY (aq (xV 2) (aq (xC (.int 2)) ba)))))) (gc (bB (bE (aW lN (aq (ao cy (xV 2) (xC (.int 1))) ba)))))) (ca (xC (.bool false))) cZ)
  (aU (da (gc (bB (bE (aW fR (aq (ao cy (xV 2) (xC (.int 0))) (aq (xV 1) (aq (xC (.int (9999))) ba))))))) (ca (xC (.bool false))) cZ)
  (bY (ao di (ao cy (xV 2) (xC (.int 0))) (xC (.int 1))) (al 1))))
noncomputable def xS:SM:=(aU (da (kP (gc (bB (kT "tuple" (xV 0)))) (bB (ao rO (cJ ea (aN (xV 0) bn)) (xC (.int (6)))))) (ca (xC (.bool false))) cZ)
  (aU (bY (xC (.int 1)) (al 1))
  (aU (gM (kU (xV 0)) (al 2) oM)
  (ca (xC (.bool true))))))
noncomputable def oN:FM:=bL 1 3 xS
noncomputable def xT:SM:=(da (gc (bB (bE (aW oI (aq (xV 0) ba))))) (iR "NoMoment") cZ)
noncomputable def ka:FM:=bL 1 1 xT
noncomputable def xW:SM:=(aU (nt 1 (xC (.int 0)))
  (kS (aW oK (cY 0 (aq (rD 1) (aq (xV 2) ba))))))
noncomputable def iY:FM:=bL 3 3 xW
noncomputable def xX:SM:=(ca (jG (bE (aW jY (aq (xV 0) (aq (xC (.int 2)) ba)))) (jG (bE (aW lN (aq (ao cy (xV 0) (xC (.int 0))) ba))) (bE (aW oN (aq (ao cy (xV 0) (xC (.int 1))) ba))))))
noncomputable def oO:FM:=bL 1 1 xX
noncomputable def xY:SM:=(aU (fF (aW ka (aq (xV 0) ba)))
  (aU (fF (aW ka (aq (xV 1) ba)))
  (da (bB (ao kY (xV 1) (xV 0))) (iR "NoMoment") cZ)))
noncomputable def lQ:FM:=bL 2 2 xY
noncomputable def xZ:SM:=(ca (ao cy (xV 2) (bE (aW iY (cY 0 (cY 1 (aq (cJ ea (aN (xV 2) bn)) ba)))))))
noncomputable def lR:FM:=bL 3 3 xZ
noncomputable def ya:SM:=(da (gc (bB (bE (aW oO (aq (xV 0) ba))))) (iR "NoZone") cZ)
noncomputable def ip:FM:=bL 1 1 ya
noncomputable def oP:SM:=(aU (bY (ao di (ao di (xV 4) (xC (.int 1))) (bE (aW iY (cY 0 (cY 1 (aq (xV 2) ba)))))) (al 4))
  (bY (ao mV (xV 3) (iM (aN (iM (aN (xV 4) (aN (bE (aW lR (cY 0 (cY 1 (aq (gH (aN (xC (.int 0)) (aN (xC (.int 1)) (aN (xC (.int 2)) (aN (kN (xC (.int 1))) (aN (xC (.int 14)) (aN (kN (xC (.int 12))) (aN (xC (.int 3)) bn)))))))) ba))))) bn))) bn))) (al 3)))
noncomputable def yb:SM:=(aU (bY (iM (aN (iM bn) (aN (xC (.int 0)) bn))) (ck 2 (bj (al 3) (bj (al 4) cj))))
  (aU (gM (gO dc (aN (bE (aW iY (cY 0 (cY 1 (aq (xC (.int 5)) ba))))) bn)) (al 5) oP)
  (ca (iM (aN (bE (aW lR (cY 0 (cY 1 (aq (gH (aN (xC (.int 0)) (aN (xC (.int 1)) (aN (xC (.int 2)) (aN (kN (xC (.int 1))) (aN (xC (.int 14)) (aN (kN (xC (.int 12))) bn))))))) ba))))) (aN (xV 3) bn))))))
noncomputable def oQ:FM:=bL 3 6 yb
noncomputable def yc:SM:=(aU (fF (aW ip (aq (xV 0) ba)))
  (aU (fF (aW ka (aq (xV 1) ba)))
  (ca (cJ kQ (aN (bE (aW lM (aq (xV 0) (aq (xV 1) ba)))) (aN (xC (.int (24))) bn))))))
noncomputable def oR:FM:=bL 2 2 yc
noncomputable def yd:SM:=(aU (fF (aW ip (aq (xV 0) ba)))
  (aU (da (gc (bB (bE (aW fR (aq (xV 1) (aq (xC (.int (-1))) (aq (xC (.int (9999))) ba))))))) (iR "NoMoment") cZ)
  (aU (da (gc (bB (bE (aW fR (aq (xV 2) (aq (xC (.int 0)) (aq (xC (.int (23))) ba))))))) (iR "NoMoment") cZ)
  (kS (aW lO (aq (xV 0) (aq (ao di (ao jP (xV 1) (xC (.int (24)))) (xV 2)) ba)))))))
noncomputable def kb:FM:=bL 3 3 yd
noncomputable def lS:XM Bool:=(bB (sh true 1 (xV 0)))
noncomputable def lT:XM PyData:=(cJ kQ (aN (xV 0) (aN (xC (.int (24))) bn)))
noncomputable def ye:SM:=(aU (fF (aW ip (aq (xV 0) ba)))
  (aU (fF (aW lQ (aq (xV 1) (aq (xV 2) ba))))
  (aU (jL 3 (aW lP (aq (xV 0) (aq (xV 1) (aq (xV 2) ba)))))
  (aU (bY (cJ ig (aN (lD 3) bn)) (al 4))
  (aU (bY (cJ gJ (aN (lD 3) bn)) (al 5))
  (ca (ik 1 [3] (gO cQ (aN (xV 4) (aN (xV 5) bn))) (al 0) lS lT)))))))
noncomputable def oS:FM:=bL 3 6 ye
noncomputable def lU:XM Bool:=(bB (ao rO (jX 1 (xV 0)) (xC (.int 1))))
noncomputable def lV:XM PyData:=(iM (aN (cJ kQ (aN (xV 0) (aN (xC (.int (24))) bn))) (aN (jX 1 (xV 0)) bn)))
noncomputable def yf:SM:=(aU (fF (aW ip (aq (xV 0) ba)))
  (aU (fF (aW lQ (aq (xV 1) (aq (xV 2) ba))))
  (aU (jL 3 (aW lP (aq (xV 0) (aq (xV 1) (aq (xV 2) ba)))))
  (ca (ik 1 [3] (dt (lE 3)) (al 0) lU lV)))))
noncomputable def lW:FM:=bL 3 4 yf
noncomputable def oU:XM PyData:=(cJ ea (aN (bE (aW lO (aq (xV 1) (aq (ao di (ao jP (xV 2) (xC (.int (24)))) (xV 0)) ba)))) bn))
noncomputable def yg:SM:=(aU (fF (aW ip (aq (xV 0) ba)))
  (aU (da (gc (bB (bE (aW fR (aq (xV 1) (aq (xC (.int 0)) (aq (xC (.int (400))) ba))))))) (iR "NoMoment") cZ)
  (ca (cJ ie (aN (df 1 [0,1] (gO dc (aN (xC (.int (24))) bn)) (al 0) dg oU) bn)))))
noncomputable def oV:FM:=bL 2 2 yg
noncomputable def yh:SM:=(jL 1 (rB bn))
noncomputable def yi:SM:=(bY (bE (aW oQ (cY 0 (cY 1 (aq (xC (.int 40)) ba))))) (al 2))
noncomputable def yj:SM:=(bY (ao di (xC (.int 30)) (bE (aW iY (cY 0 (cY 1 (aq (xC (.int 170)) ba)))))) (al 3))
noncomputable def kc:XM Bool:=(bB (ao nF (xV 0) (xV 1)))
noncomputable def gl:XM PyData:=(xV 0)
noncomputable def oW:SM:=(da (bB (ao (aO true) (df 1 [3] (dt (bE (aW kb (aq (xV 2) (aq (xV 4) (aq (xV 5) ba)))))) (al 0) kc gl) (gH bn))) (ca (xC (.bool false))) cZ)
noncomputable def JZ:SM:=(gM (dt (bE (aW oS (aq (xV 2) (aq (xC (.int 0)) (aq (xV 3) ba)))))) (ck 2 (bj (al 4) (bj (al 5) cj))) oW)
noncomputable def iq:XM PyData:=(bE (aW oR (aq (xV 1) (aq (xV 0) ba))))
noncomputable def oX:SM:=(aU (bY (df 1 [3] (dt (bE (aW kb (aq (xV 2) (aq (ao cy (xV 6) (xC (.int 0))) (aq (ao cy (xV 6) (xC (.int 1))) ba)))))) (al 0) kc gl) (al 8))
  (da (kP (bB (ao (aO true) (cJ ea (aN (xV 8) bn)) (xV 7))) (bB (ao (aO true) (df 1 [2] (dt (xV 8)) (al 0) dg iq) (ao jF (gH (aN (xV 6) bn)) (xV 7))))) (ca (xC (.bool false))) cZ))
noncomputable def Ka:SM:=(gM (dt (bE (aW lW (aq (xV 2) (aq (xC (.int 0)) (aq (xV 3) ba)))))) (ck 2 (bj (al 6) (bj (al 7) cj))) oX)
noncomputable def Kb:SM:=(bY (df 1 [2] (gO dc (aN (ao di (xV 3) (xC (.int 1))) bn)) (al 0) dg iq) (al 8))
noncomputable def oY:XM PyData:=(ao rN (xV 1) (xC (.int 1)))
noncomputable def Kc:SM:=(bY (cJ ie (aN (df 2 [] (dt (bE (aW lW (aq (xV 2) (aq (xC (.int 0)) (aq (xV 3) ba)))))) (ck 2 (bj (al 0) (bj (al 1) cj))) dg oY) bn)) (al 9))
noncomputable def Kd:SM:=(da (bB (ao (aO true) (ao di (cJ lK (aN (xV 8) bn)) (xV 9)) (ao di (xV 3) (xC (.int 1))))) (ca (xC (.bool false))) cZ)
noncomputable def oZ:XM Bool:=(bB (ao kZ (xV 0) (xC (.int 0))))
noncomputable def Ke:SM:=(bY (cJ lG (aN (df 2 [] (dt (xV 8)) (ck 2 (bj (al 0) (bj (al 1) cj))) oZ gl) bn)) (al 10))
noncomputable def pc:XM Bool:=(bB (ao (aO false) (xV 0) (ao cy (xV 2) (xC (.int 0)))))
noncomputable def pd:XM PyData:=(xC (.int 1))
noncomputable def Kf:SM:=(ca (ao kZ (bE (aW oV (aq (xV 2) (aq (ao cy (xV 10) (xC (.int 0))) ba)))) (cJ ea (aN (df 2 [10] (dt (xV 8)) (ck 2 (bj (al 0) (bj (al 1) cj))) pc pd) bn))))
noncomputable def yk:SM:=(aU yh
  (aU yi
  (aU yj
  (aU JZ
  (aU Ka
  (aU Kb
  (aU Kc
  (aU Kd
  (aU Ke
  Kf)))))))))
noncomputable def yl:FM:=bL 1 11 yk
end K3
namespace K3
open PySem PySem.Spec L2 L2.L3 PyProof.Rows
noncomputable def top(i:Nat):Stmt:=PySem.Challenge.pw_duehall_k38_whole_shown_moments.main.body.getD i (.Pass ⟨0,0,0,0⟩)
noncomputable abbrev pf:Stmt:=top 10
noncomputable abbrev ph:Stmt:=top 11
noncomputable abbrev pj:Stmt:=top 12
noncomputable abbrev pp:Stmt:=top 13
noncomputable abbrev pq:Stmt:=top 14
noncomputable abbrev px:Stmt:=top 15
noncomputable abbrev pz:Stmt:=top 16
noncomputable abbrev pA:Stmt:=top 17
noncomputable abbrev pB:Stmt:=top 18
noncomputable abbrev pC:Stmt:=top 23
noncomputable abbrev pD:Stmt:=top 24
noncomputable abbrev pE:Stmt:=top 25
noncomputable abbrev pF:Stmt:=top 26
noncomputable abbrev pG:Stmt:=top 27
noncomputable abbrev pH:Stmt:=top 28
noncomputable abbrev pI:Stmt:=top 31
noncomputable abbrev pJ:Stmt:=top 32
noncomputable abbrev pK:Stmt:=top 33
noncomputable abbrev pL:Stmt:=top 34
noncomputable abbrev pM:Stmt:=top 36
noncomputable abbrev pN:Stmt:=top 37
noncomputable abbrev pO:Stmt:=top 38
noncomputable abbrev pP:Stmt:=top 39
noncomputable abbrev pQ:Stmt:=top 40
noncomputable abbrev ir:Stmt:=top 44
theorem Kg:bI ["_law_script","_law_town","_law_zone_here","_law_last","_law_day","_law_hour","_law_pair","_law_many","_law_some","_law_often","_law_days"] ["_law_script"] (dS ir):=cD
structure Tx (K:Frag) (mg:Str->Option Value):Prop where
 d00:∃g fd,FD K mg "is_whole" pf ["thing","least","most"] g fd
 d01:∃g fd,FD K mg "is_tuple_of" ph ["thing","length"] g fd
 d02:∃g fd,FD K mg "is_ahead" pj ["thing"] g fd
 d03:∃g fd,FD K mg "is_moment" pp ["thing"] g fd
 d04:∃g fd,FD K mg "are_shifts" pq ["thing"] g fd
 d05:∃g fd,FD K mg "is_zone" px ["thing"] g fd
 d06:∃g fd,FD K mg "check_zone" pz ["thing"] g fd
 d07:∃g fd,FD K mg "check_moment" pA ["thing"] g fd
 d08:∃g fd,FD K mg "check_stretch" pB ["first","last"] g fd
 d09:∃g fd,FD K mg "shown" pC ["zone","moment"] g fd
 d0a:∃g fd,FD K mg "stretches" pD ["zone"] g fd
 d0b:∃g fd,FD K mg "is_ahead_of" pE ["moment","end"] g fd
 d0c:∃g fd,FD K mg "moments_showing" pF ["zone","hours"] g fd
 d0d:∃g fd,FD K mg "wall" pG ["zone","moment"] g fd
 d0e:∃g fd,FD K mg "moments" pH ["zone","day","hour"] g fd
 d0f:∃g fd,FD K mg "how_often" pI ["zone","first","last"] g fd
 d0g:∃g fd,FD K mg "never_shown" pJ ["zone","first","last"] g fd
 d0h:∃g fd,FD K mg "shown_often" pK ["zone","first","last"] g fd
 d0i:∃g fd,FD K mg "long_day" pL ["zone","day"] g fd
 d0j:∃g fd,FD K mg "_law_cell_at" pM ["_law_script","_law_k"] g fd
 d0k:∃g fd,FD K mg "_law_mixed" pN ["_law_script","_law_k","_law_many"] g fd
 d0l:∃g fd,FD K mg "_law_draw" pO ["_law_script","_law_town","_law_many"] g fd
 d0m:∃g fd,FD K mg "_law_pick" pP ["_law_script","_law_town","_law_some"] g fd
 d0n:∃g fd,FD K mg "_law_zone" pQ ["_law_script","_law_town","_law_wide"] g fd
 d0o:∃t,mg "LAST_MOMENT" = some (.int (9999) t)
 d0p:∃t,mg "LAST_HOUR" = some (.int (23) t)
 d0q:∃t,mg "LEAST_AHEAD" = some (.int (-12) t)
 d0r:∃t,mg "MOST_AHEAD" = some (.int (14) t)
 d0s:∃t,mg "MOST_SHIFTS" = some (.int (6) t)
 d0t:∃t,mg "DAY_HOURS" = some (.int (24) t)
 d0u:∃t,mg "FIRST_DAY" = some (.int (-1) t)
 d0v:∃t,mg "LAST_DAY" = some (.int (9999) t)
 d0w:∃t,mg "LAST_LONG_DAY" = some (.int (400) t)
 d0x:mg "bool" = none
 d0y:mg "divmod" = none
 d0z:mg "int" = none
 d10:mg "isinstance" = none
 d11:mg "len" = none
 d12:mg "list" = none
 d13:mg "max" = none
 d14:mg "min" = none
 d15:mg "range" = none
 d16:mg "set" = none
 d17:mg "sorted" = none
 d18:mg "sum" = none
 d19:mg "tuple" = none
 d1a:mg "zip" = none
 xt0:∃D,XT K mg xJ D
theorem Kh:bootBuiltins "int" = some (.type "int"):=by decide +kernel
theorem Ki:bootBuiltins "bool" = some (.type "bool"):=by decide +kernel
theorem LP:bootBuiltins "str" = some (.type "str"):=by decide +kernel
theorem ym:bootBuiltins "tuple" = some (.type "tuple"):=by decide +kernel
theorem LQ:bootBuiltins "list" = some (.type "list"):=by decide +kernel
theorem Kj:bootBuiltins "max" = some (.builtin "max"):=by decide +kernel
theorem sP:bootBuiltins "divmod" = some (.builtin "divmod"):=by decide +kernel
theorem LR:bootBuiltins "all" = some (.builtin "all"):=by decide +kernel
theorem LS:bootBuiltins "any" = some (.builtin "any"):=by decide +kernel
theorem yn:bootBuiltins "sum" = some (.builtin "sum"):=by decide +kernel
theorem Kk:bootBuiltins "min" = some (.builtin "min"):=by decide +kernel
theorem LU:bootBuiltins "sorted" = some (.builtin "sorted"):=by decide +kernel
theorem iZ{X:Cx}{F:Fx}(a:GF X.mg F):gB X F fG:=⟨a,fun _ _ _ _ _ _ _ _ _ _ z=>z.elim⟩
end K3
namespace K3
open PySem PySem.Spec L2 L2.L3 PyProof.Rows
local macro_rules | `(tactic| walk_at "z")=>`(tactic| first | exact xc (by kernel_rfl) | exact PassesOwn.leaving)
local macro_rules | `(tactic| walk_at "a")=>`(tactic| (refine ez ?_;refine Hf ?_))
local macro_rules | `(tactic| walk_at "c")=>`(tactic| (refine gL ?_ ?_;(refine vB ?_ ?_ ?_ ?_ ?_ ?_<;>try walk_at "z")))
local macro_rules | `(tactic| walk_at "d")=>`(tactic| (refine gL ?_ ?_;refine Hh ?_))
local macro_rules | `(tactic| walk_at "e")=>`(tactic| (refine gL ?_ ?_;refine vC ?_ ?_ ?_))
local macro_rules | `(tactic| walk_at "f")=>`(tactic| (refine gL ?_ ?_;(refine Hj ?_ ?_ ?_ ?_ ?_ ?_<;>try walk_at "z")))
local macro_rules | `(tactic| walk_at "g")=>`(tactic| (refine ez ?_;refine vC ?_ ?_ ?_))
local macro_rules | `(tactic| walk_at "h")=>`(tactic| (refine gL ?_ ?_;(refine He ?_ ?_ ?_ ?_ ?_ ?_<;>try walk_at "z")))
local macro_rules | `(tactic| walk_at "i")=>`(tactic| (refine ez ?_;refine Hg ?_))
local macro_rules | `(tactic| walk_at "j")=>`(tactic| (refine ez ?_;(refine vB ?_ ?_ ?_ ?_ ?_ ?_<;>try walk_at "z")))
local macro_rules | `(tactic| walk_at "z")=>`(tactic| first|rfl|exact .inl rfl|exact .inr rfl|assumption|exact fun _=>rfl)
local macro_rules | `(tactic| walk_at "z")=>`(tactic| first|rfl|exact .inl rfl|exact .inr rfl|assumption|exact fun _=>rfl)
section
variable{P:Program}{w:World}{K:Frag}{mg:Str->Option Value}{base:Heap}
theorem kd(T:Tx K mg):CK P w K mg base 1 "is_whole" fR:=by
 refine cG ["thing","least","most"] T.d00 cD fun a b=>?_
 walk_at "a"
 exact(kO (nn (mO rfl T.d10 (fv 0) (mq rfl T.d0z Kh rfl))) (kO (GG (nn (mO rfl T.d10 (fv 0) (mq rfl T.d0x Ki rfl)))) (mY (HG (fv 1) (fv 0) (fv 2)))))
theorem yo(T:Tx K mg):CK P w K mg base 1 "is_tuple_of" jY:=by
 refine cG ["thing","length"] T.d01 cD fun a b=>?_
 walk_at "a"
 exact(kO (nn (mO rfl T.d10 (fv 0) (mq rfl T.d19 ym rfl))) (mY (HD a.units (dZ jI (eQ gW jB rfl T.d11 PySem.boot_len (aX (fv 0) bD))) (fv 1))))
theorem yp(T:Tx K mg):CK P w K mg base 1 "shown" lM:=by
 refine cG ["zone","moment","ahead","shift"] T.d09 cD fun a b=>?_
 walk_at "c"
 exact(dj (fv 0) (az aL))
 walk_at "f"
 exact(nq (dj (fv 0) (az aL)));exact(cf 3)
 walk_at "g"
 exact(nG (dj (fv 3) (az aL)) (fv 1))
 walk_at "j"
 exact(dj (fv 3) (az aL));exact dL
 walk_at "a"
 exact(ee (fv 1) (fv 2))
theorem Kl(T:Tx K mg):CK P w K mg base 1 "stretches" oF:=by
 refine cG ["zone","starts","ends","aheads"] T.d0a cD fun c a=>?_
 walk_at "c"
 exact(rP (iN (aX (az aL) bD)) (ij a.1 (ae.of (own:=["shift"]) (capN:=[]) (caps:=[])) rfl rfl (nq (dj (fv 0) (az aL))) (fun _ _ _ _ _ _ b=>⟨(cf 0),jM,(dj (fv 0) (az aL))⟩)))
 walk_at "c"
 exact(rP (Hv (FC (k:=1) (fv 1))) (iN (aX (az uk) bD)))
 walk_at "c"
 exact(rP (iN (aX (dj (fv 0) (az aL)) bD)) (ij a.1 (ae.of (own:=["shift"]) (capN:=[]) (caps:=[])) rfl rfl (nq (dj (fv 0) (az aL))) (fun _ _ _ _ _ _ b=>⟨(cf 0),jM,(dj (fv 0) (az aL))⟩)))
 walk_at "a"
 exact(Hu (Fz rfl rfl T.d12 rfl T.d1a (aX (fv 1) (aX (fv 2) (aX (fv 3) bD)))))
theorem Km(T:Tx K mg):CK P w K mg base 1 "is_ahead_of" oG:=by
 refine cG ["moment","end"] T.d0b cD fun a b=>?_
 walk_at "a"
 exact(GI (HF (fv 1) (az uk)) (mY (HA (fv 0) (fv 1))))
theorem Kn(T:Tx K mg):CK P w K mg base 1 "_law_cell_at" jZ:=by
 refine cG ["_law_script","_law_k"] T.d0j cD fun a b=>?_
 walk_at "e"
 exact(vU (fv 1) (vu (uV rfl T.d11 (pv 0))))
 walk_at "a"
 exact(vv (uX (pv 0) (fv 1) (by intro _ _;rfl)));exact dL
 walk_at "e"
 exact(GW (FK a.units (pv 0)))
 walk_at "a"
 exact(az aL);exact dL
 walk_at "a"
 exact(ee (lb (vv (uX (pv 0) (lg (fv 1) (vu (uV rfl T.d11 (pv 0)))) (by intro _ _;rfl))) (az aL)) (fv 1))
theorem yq(T:Tx K mg):CK P w K mg base 2 "is_ahead" lN:=by
 obtain⟨c,a⟩:=T.d0q;obtain⟨d,b⟩:=T.d0r;refine cG ["thing"] T.d02 cD fun e f=>?_
 walk_at "i"
 exact(bo f (kd T) e (aB (fv 0) (aB (az (dY rfl a)) (aB (az (dY rfl b)) bf))))
theorem Ko(T:Tx K mg):CK P w K mg base 2 "is_moment" oI:=by
 obtain⟨b,a⟩:=T.d0o;refine cG ["thing"] T.d03 cD fun c d=>?_
 walk_at "i"
 exact(bo d (kd T) c (aB (fv 0) (aB (az aL) (aB (az (dY rfl a)) bf))))
theorem yr(T:Tx K mg):CK P w K mg base 2 "moments_showing" lO:=by
 refine cG ["zone","hours","found","start","end","ahead","moment"] T.d0c cD fun a b=>?_
 walk_at "h"
 exact(vH bD)
 walk_at "f"
 exact(gf (bN (bo b (Kl T) a (aB (fv 0) bf))));exact(iP (n:=3) rfl (ec (cf 3) (ec (cf 4) (ec (cf 5) iO))))
 walk_at "c"
 exact(vT (fv 1) (fv 5))
 walk_at "g"
 exact(mZ (GL (nG (fv 3) (fv 6)) (GK (fZ (fW (bN (bo b (Km T) a (aB (fv 6) (aB (fv 4) bf)))))))));refine ez ?_;(refine vI ?_ ?_ ?_ ?_ ?_ ?_ ?_ ?_<;>try walk_at "z");exact(pv 2);exact(fv 6);exact dL;refine ez ?_;refine vD ?_;exact(pv 2)
theorem yt(T:Tx K mg):CK P w K mg base 2 "how_often" lP:=by
 refine cG ["zone","first","last","often","moment","hours"] T.d0f cD fun a b=>?_
 walk_at "h"
 exact(Hr false)
 walk_at "f"
 exact(wa (vZ rfl T.d15 (aX (fv 1) (aX (ee (fv 2) (az aL)) bD))));exact(cf 4)
 walk_at "c"
 exact(bN (bo b (yp T) a (aB (fv 0) (aB (fv 4) bf))));refine ez ?_;refine Ht ?_ ?_ ?_ ?_ ?_;exact(kq a);exact(pv 3);exact(fv 5);exact(ee (Hs (kq a) (pv 3) (fv 5) (az aL)) (az aL));rfl;refine ez ?_;refine vD ?_;exact(pv 3)
theorem Kp(T:Tx K mg):CK P w K mg base 2 "_law_mixed" oK:=by
 refine cG ["_law_script","_law_k","_law_many","_law_drawn"] T.d0k cD fun a b=>?_
 walk_at "c"
 exact(lg (ee (ee (lb (bN (bo b (Kn T) a (dM (pv 0) (aB (fv 1) bf)))) (az aL)) (lb (az aL) (fv 1))) (az aL)) (az aL))
 walk_at "a"
 exact(lg (lg (lg (HK (fv 3) (az aL)) (az aL)) (az aL)) (fv 2))
theorem Kq(T:Tx K mg):CK P w K mg base 3 "are_shifts" oN:=by
 obtain⟨c,a⟩:=T.d0o;obtain⟨d,b⟩:=T.d0s;refine cG ["thing","earliest","shift"] T.d04 cD fun e f=>?_
 walk_at "e"
 exact(mZ (rj (gG (fZ (fW (nn (mO rfl T.d10 (fv 0) (mq rfl T.d19 ym rfl)))))) (ri (vV (dZ jI (eQ gW jB rfl T.d11 PySem.boot_len (aX (fv 0) bD))) (az (dY rfl b))))))
 walk_at "a"
 exact(az iG);exact dL
 walk_at "c"
 exact(az aL)
 walk_at "f"
 exact(nq (fv 0));exact(cf 2)
 walk_at "e"
 exact(mZ (rj (gG (fZ (fW (bN (bo f (yo T) e (aB (fv 2) (aB (az aL) bf))))))) (ri (gG (fZ (fW (bN (bo f (yq T) e (aB (dj (fv 2) (az aL)) bf)))))))))
 walk_at "a"
 exact(az iG);exact dL
 walk_at "e"
 exact(gG (fZ (fW (bN (bo f (kd T) e (aB (dj (fv 2) (az aL)) (aB (fv 1) (aB (az (dY rfl a)) bf))))))))
 walk_at "a"
 exact(az iG);exact dL
 walk_at "j"
 exact(ee (dj (fv 2) (az aL)) (az aL))
 walk_at "a"
 exact(az iG)
theorem sQ(T:Tx K mg):CK P w K mg base 3 "check_moment" ka:=by
 obtain⟨f,g⟩:=T.xt0;obtain⟨b,a,_⟩:=g.at_ (c:="NoMoment") (by decide +kernel);refine cG ["thing"] T.d07 cD fun d e=>?_
 walk_at "g"
 exact(gG (fZ (fW (bN (bo e (Ko T) d (aB (fv 0) bf))))));refine ez ?_;exact(jO e d.hd rfl a);exact dL
theorem pR(T:Tx K mg):CK P w K mg base 3 "_law_draw" iY:=by
 refine cG ["_law_script","_law_town","_law_many"] T.d0l cD fun a b=>?_;refine gL ?_ ?_;(refine vI ?_ ?_ ?_ ?_ ?_ ?_ ?_ ?_<;>try walk_at "z");exact(pv 1);exact(az aL)
 walk_at "i"
 exact(bo b (Kp T) a (dM (pv 0) (aB (Hn rfl T.d11 (pv 1)) (aB (fv 2) bf))))
theorem Kr(T:Tx K mg):CK P w K mg base 4 "is_zone" oO:=by
 refine cG ["thing"] T.d05 cD fun a b=>?_
 walk_at "a"
 exact(kO (bN (bo b (yo T) a (aB (fv 0) (aB (az aL) bf)))) (kO (bN (bo b (yq T) a (aB (dj (fv 0) (az aL)) bf))) (mY (bN (bo b (Kq T) a (aB (dj (fv 0) (az aL)) bf))))))
theorem yu(T:Tx K mg):CK P w K mg base 4 "check_stretch" lQ:=by
 obtain⟨f,g⟩:=T.xt0;obtain⟨b,a,_⟩:=g.at_ (c:="NoMoment") (by decide +kernel);refine cG ["first","last"] T.d08 cD fun d e=>?_
 walk_at "d"
 exact(bo e (sQ T) d (aB (fv 0) bf))
 walk_at "d"
 exact(bo e (sQ T) d (aB (fv 1) bf))
 walk_at "g"
 exact(vU (fv 1) (fv 0));refine ez ?_;exact(jO e d.hd rfl a);exact dL
theorem yv(T:Tx K mg):CK P w K mg base 4 "_law_pick" lR:=by
 refine cG ["_law_script","_law_town","_law_some"] T.d0m cD fun a b=>?_
 walk_at "a"
 exact(dj (fv 2) (bN (bo b (pR T) a (dM (pv 0) (dM (pv 1) (aB (dZ jI (eQ gW jB rfl T.d11 PySem.boot_len (aX (fv 2) bD))) bf))))))
theorem lZ(T:Tx K mg):CK P w K mg base 5 "check_zone" ip:=by
 obtain⟨f,g⟩:=T.xt0;obtain⟨b,a,_⟩:=g.at_ (c:="NoZone") (by decide +kernel);refine cG ["thing"] T.d06 cD fun d e=>?_
 walk_at "g"
 exact(gG (fZ (fW (bN (bo e (Kr T) d (aB (fv 0) bf))))));refine ez ?_;exact(jO e d.hd rfl a);exact dL
theorem Ks(T:Tx K mg):CK P w K mg base 5 "_law_zone" oQ:=by
 refine cG ["_law_script","_law_town","_law_wide","_law_made","_law_at","_law_k"] T.d0n cD fun a b=>?_;refine gL ?_ ?_;(refine Hc ?_ ?_ ?_ ?_ ?_<;>try walk_at "z");exact(jH (aX (jH bD) (aX (az aL) bD)));exact(iP (n:=2) rfl (ec (cf 3) (ec (cf 4) iO)))
 walk_at "f"
 exact(rA (qW rfl T.d15 (aX (bN (bo b (pR T) a (dM (pv 0) (dM (pv 1) (aB (az aL) bf))))) bD)));exact(cf 5)
 walk_at "c"
 exact(ee (ee (fv 4) (az aL)) (bN (bo b (pR T) a (dM (pv 0) (dM (pv 1) (aB (fv 2) bf))))))
 walk_at "j"
 exact(Hy (fv 3) (jH (aX (jH (aX (fv 4) (aX (bN (bo b (yv T) a (dM (pv 0) (dM (pv 1) (aB (iN (aX (az aL) (aX (az aL) (aX (az aL) (aX (mW (az aL)) (aX (az aL) (aX (mW (az aL)) (aX (az aL) bD)))))))) bf))))) bD))) bD)))
 walk_at "a"
 exact(jH (aX (bN (bo b (yv T) a (dM (pv 0) (dM (pv 1) (aB (iN (aX (az aL) (aX (az aL) (aX (az aL) (aX (mW (az aL)) (aX (az aL) (aX (mW (az aL)) bD))))))) bf))))) (aX (fv 3) bD)))
theorem Kt(T:Tx K mg):CK P w K mg base 6 "wall" oR:=by
 obtain⟨b,a⟩:=T.d0t;refine cG ["zone","moment"] T.d0d cD fun c d=>?_
 walk_at "d"
 exact(bo d (lZ T) c (aB (fv 0) bf))
 walk_at "d"
 exact(bo d (sQ T) c (aB (fv 1) bf))
 walk_at "a"
 exact(dZ rm (eQ qj qZ rfl T.d0y sP (aX (bN (bo d (yp T) c (aB (fv 0) (aB (fv 1) bf)))) (aX (az (dY rfl a)) bD))))
theorem yw(T:Tx K mg):CK P w K mg base 6 "moments" kb:=by
 obtain⟨g,b⟩:=T.d0p;obtain⟨h,d⟩:=T.d0t;obtain⟨i,e⟩:=T.d0u;obtain⟨j,f⟩:=T.d0v;obtain⟨n,o⟩:=T.xt0;obtain⟨k,a,_⟩:=o.at_ (c:="NoMoment") (by decide +kernel);refine cG ["zone","day","hour"] T.d0e cD fun l m=>?_
 walk_at "d"
 exact(bo m (lZ T) l (aB (fv 0) bf))
 walk_at "e"
 exact(gG (fZ (fW (bN (bo m (kd T) l (aB (fv 1) (aB (az (dY rfl e)) (aB (az (dY rfl f)) bf))))))));refine ez ?_;exact(jO m l.hd rfl a);exact dL
 walk_at "e"
 exact(gG (fZ (fW (bN (bo m (kd T) l (aB (fv 2) (aB (az aL) (aB (az (dY rfl b)) bf))))))));refine ez ?_;exact(jO m l.hd rfl a);exact dL
 walk_at "i"
 exact(bo m (yr T) l (aB (fv 0) (aB (ee (lb (fv 1) (az (dY rfl d))) (fv 2)) bf)))
theorem Ku(T:Tx K mg):CK P w K mg base 6 "never_shown" oS:=by
 obtain⟨b,a⟩:=T.d0t;refine cG ["zone","first","last","often","least","greatest"] T.d0g cD fun c d=>?_
 walk_at "d"
 exact(bo d (lZ T) c (aB (fv 0) bf))
 walk_at "d"
 exact(bo d (yu T) c (aB (fv 1) (aB (fv 2) bf)))
 walk_at "h"
 exact(bo d (yt T) c (aB (fv 0) (aB (fv 1) (aB (fv 2) bf))))
 walk_at "c"
 exact(dZ GV (eQ (Gr rfl) Gu rfl T.d14 Kk (aX (wL rfl rfl T.d12 (pv 3)) bD)))
 walk_at "c"
 exact(dZ GU (eQ (Gq rfl) Gs rfl T.d13 Kj (aX (wL rfl rfl T.d12 (pv 3)) bD)))
 walk_at "a"
 exact(wh d.1 (ae.of (own:=["hours"]) (capN:=["often"]) (caps:=[3])) rfl rfl (DI.S (wa (vZ rfl T.d15 (aX (fv 4) (aX (fv 5) bD))))) (fun _ _ _ _ _ _ e=>⟨(cf 0),(jN (ID (kq c) (fv 0) (pv 1))),(dZ rm (eQ qj qZ rfl T.d0y sP (aX (fv 0) (aX (az (dY rfl a)) bD))))⟩))
theorem yx(T:Tx K mg):CK P w K mg base 6 "shown_often" lW:=by
 obtain⟨b,a⟩:=T.d0t;refine cG ["zone","first","last","often"] T.d0h cD fun c d=>?_
 walk_at "d"
 exact(bo d (lZ T) c (aB (fv 0) bf))
 walk_at "d"
 exact(bo d (yu T) c (aB (fv 1) (aB (fv 2) bf)))
 walk_at "h"
 exact(bo d (yt T) c (aB (fv 0) (aB (fv 1) (aB (fv 2) bf))))
 walk_at "a"
 exact(wh d.1 (ae.of (own:=["hours"]) (capN:=["often"]) (caps:=[3])) rfl rfl (DI.S (gf (II rfl rfl T.d17 (pv 3)))) (fun _ _ _ _ _ _ e=>⟨(cf 0),(jN (vV (wH (kq c) (pv 1) (fv 0)) (az aL))),(jH (aX (dZ rm (eQ qj qZ rfl T.d0y sP (aX (fv 0) (aX (az (dY rfl a)) bD)))) (aX (wH (kq c) (pv 1) (fv 0)) bD)))⟩))
theorem Kv(T:Tx K mg):CK P w K mg base 6 "long_day" oV:=by
 obtain⟨_,_,h,g,a,b⟩:=yr (P:=P) (w:=w) (base:=base) T;obtain⟨j,d⟩:=T.d0t;obtain⟨i,e⟩:=T.d0w;obtain⟨n,o⟩:=T.xt0;obtain⟨k,f,_⟩:=o.at_ (c:="NoMoment") (by decide +kernel);refine cG ["zone","day"] T.d0i cD fun l m=>?_
 walk_at "d"
 exact(bo m (lZ T) l (aB (fv 0) bf))
 walk_at "e"
 exact(gG (fZ (fW (bN (bo m (kd T) l (aB (fv 1) (aB (az aL) (aB (az (dY rfl e)) bf))))))));refine ez ?_;exact(jO m l.hd rfl f);exact dL
 walk_at "a"
 exact(dZ vt (eQ (ve rfl) vg rfl T.d18 yn (aX (ij m.1 (ae.of (own:=["hour"]) (capN:=["zone","day"]) (caps:=[0,1])) rfl rfl (rA (qW rfl T.d15 (aX (az (dY rfl d)) bD))) (fun _ _ _ _ _ _ p=>⟨(cf 0),jM,(dZ jI (eQ gW jB rfl T.d11 PySem.boot_len (aX (bN (nK (iZ p) b a l (aB (fv 1) (aB (ee (lb (fv 2) (az (dY rfl d))) (fv 0)) bf)))) bD)))⟩)) bD)))
variable(P w)(base) in
theorem Kw{g:Addr}{fd:FuncData}(T:Tx K mg)(D:FD K mg "law" ir ["_law_script"] g fd):bV P w K mg base (dX P w) 7 g fd ["_law_script"] (gE K mg yl):=by
 obtain⟨_,_,h,f,c,d⟩:=Kt (P:=P) (w:=w) (base:=base) T;refine uG D.fn Kg (by decide) ?_;intro j A i s H E F k a b
 walk_at "h"
 exact(vH bD)
 walk_at "c"
 exact(bN (bo b (Ks T) a (dM (pv 0) (dM (pv 1) (aB (az aL) bf)))))
 walk_at "c"
 exact(ee (az aL) (bN (bo b (pR T) a (dM (pv 0) (dM (pv 1) (aB (az aL) bf))))))
 walk_at "f"
 exact(gf (bN (bo b (Ku T) a (aB (fv 2) (aB (az aL) (aB (fv 3) bf))))));exact(iP (n:=2) rfl (ec (cf 4) (ec (cf 5) iO)))
 walk_at "g"
 exact(nH a.units (ij b.1 (ae.of (own:=["_law_moment"]) (capN:=["_law_last"]) (caps:=[3])) rfl rfl (gf (bN (bo b (yw T) a (aB (fv 2) (aB (fv 4) (aB (fv 5) bf)))))) (fun _ _ _ _ _ _ e=>⟨(cf 0),(jN (nG (fv 0) (fv 1))),(fv 0)⟩)) (iN bD))
 walk_at "a"
 exact(az iG);exact dL
 walk_at "f"
 exact(gf (bN (bo b (yx T) a (aB (fv 2) (aB (az aL) (aB (fv 3) bf))))));exact(iP (n:=2) rfl (ec (cf 6) (ec (cf 7) iO)));refine gL ?_ ?_;(refine vG (own:=["_law_moment"]) (capN:=["_law_last"]) (caps:=[3]) ?_ ?_ ?_ ?_ ?_ ?_ ?_ ?_ ?_ ?_ ?_ ?_<;>try walk_at "z");exact b.1;exact(ae.of (own:=["_law_moment"]) (capN:=["_law_last"]) (caps:=[3]));exact(gf (bN (bo b (yw T) a (aB (fv 2) (aB (dj (fv 6) (az aL)) (aB (dj (fv 6) (az aL)) bf))))));exact(fun _ _ _ _ _ _ e=>⟨(cf 0),(jN (nG (fv 0) (fv 1))),(fv 0)⟩)
 walk_at "g"
 exact(mZ (rj (nH a.units (dZ jI (eQ gW jB rfl T.d11 PySem.boot_len (aX (fv 8) bD))) (fv 7)) (ri (nH a.units (ij b.1 (ae.of (own:=["_law_moment"]) (capN:=["_law_zone_here"]) (caps:=[2])) rfl rfl (gf (fv 8)) (fun _ _ _ _ _ _ e=>⟨(cf 0),jM,(bN (nK (iZ e) d c a (aB (fv 1) (aB (fv 0) bf))))⟩)) (Hz (iN (aX (fv 6) bD)) (fv 7))))))
 walk_at "a"
 exact(az iG);exact dL;refine gL ?_ ?_;(refine vG (own:=["_law_moment"]) (capN:=["_law_zone_here"]) (caps:=[2]) ?_ ?_ ?_ ?_ ?_ ?_ ?_ ?_ ?_ ?_ ?_ ?_<;>try walk_at "z");exact b.1;exact(ae.of (own:=["_law_moment"]) (capN:=["_law_zone_here"]) (caps:=[2]));exact(rA (qW rfl T.d15 (aX (ee (fv 3) (az aL)) bD)));exact(fun _ _ _ _ _ _ e=>⟨(cf 0),jM,(bN (nK (iZ e) d c a (aB (fv 1) (aB (fv 0) bf))))⟩)
 walk_at "c"
 exact(dZ vt (eQ (ve rfl) vg rfl T.d18 yn (aX (ij b.1 (ae.of (own:=["_law_pair","_law_many"]) (capN:=[]) (caps:=[])) rfl rfl (gf (bN (bo b (yx T) a (aB (fv 2) (aB (az aL) (aB (fv 3) bf)))))) (fun _ _ _ _ _ _ e=>⟨(iP (n:=2) rfl (ec (cf 0) (ec (cf 1) iO))),jM,(vT (fv 1) (az aL))⟩)) bD)))
 walk_at "e"
 exact(nH a.units (ee (dZ JW (JX a.units rfl rfl T.d11 rfl T.d16 (aX (fv 8) bD))) (fv 9)) (ee (fv 3) (az aL)))
 walk_at "a"
 exact(az iG);exact dL
 walk_at "c"
 exact(dZ Jt (Ju rfl rfl T.d17 rfl T.d16 (aX (ij b.1 (ae.of (own:=["_law_day","_law_hour"]) (capN:=[]) (caps:=[])) rfl rfl (gf (fv 8)) (fun _ _ _ _ _ _ e=>⟨(iP (n:=2) rfl (ec (cf 0) (ec (cf 1) iO))),(jN (HC (fv 0) (az aL))),(fv 0)⟩)) bD)))
 walk_at "a"
 exact(HB (bN (bo b (Kv T) a (aB (fv 2) (aB (dj (fv 10) (az aL)) bf)))) (dZ jI (eQ gW jB rfl T.d11 PySem.boot_len (aX (ij b.1 (ae.of (own:=["_law_day","_law_hour"]) (capN:=["_law_days"]) (caps:=[10])) rfl rfl (gf (fv 8)) (fun _ _ _ _ _ _ e=>⟨(iP (n:=2) rfl (ec (cf 0) (ec (cf 1) iO))),(jN (HE a.units (fv 0) (dj (fv 2) (az aL)))),(az aL)⟩)) bD))))
end
end K3
namespace K3
open PySem L2 L2.L3 Due
noncomputable def eh(d:PyData)(lo a:Int):Bool:=match d with
 | .int i=>decide (lo<=i)&&decide (i<=a)
 | _=>false
noncomputable def md:PyData->Bool
 | .dict _=>false
 | _=>true
@[simp] theorem LV:dr "int" "int" = some true:=by decide
@[simp] theorem LW:dr "int" "bool" = some false:=by decide
@[simp] theorem LX:dr "bool" "int" = some true:=by decide
@[simp] theorem LY:dr "bool" "bool" = some true:=by decide
@[simp] theorem LZ:dr "NoneType" "int" = some false:=by decide
@[simp] theorem Ma:dr "str" "int" = some false:=by decide
@[simp] theorem Mb:dr "list" "int" = some false:=by decide
@[simp] theorem Mc:dr "tuple" "int" = some false:=by decide
@[simp] theorem Md:dr "int" "tuple" = some false:=by decide
@[simp] theorem Me:dr "bool" "tuple" = some false:=by decide
@[simp] theorem Mf:dr "NoneType" "tuple" = some false:=by decide
@[simp] theorem Mg:dr "str" "tuple" = some false:=by decide
@[simp] theorem Mh:dr "list" "tuple" = some false:=by decide
@[simp] theorem Mi:dr "tuple" "tuple" = some true:=by decide
theorem yy(i j:Int):PyData.eqv (.int i) (.int j)=(i==j):=by rw[PyData.eqv]
theorem sR(i:Int):SeqAt.shaped (.int i)=true:=by rfl
theorem ke{d:PyData}{lo hi:Int}(h:md d=true):fR [.dat d,.dat (.int lo),.dat (.int hi)]=.rt (.dat (.bool (eh d lo hi))) []:=by
 cases d with
 | dict _=>cases h
 | int i=>
  by_cases h1:lo<=i
  .simp[aO,fR,oE,eh,h1]
  .simp[aO,fR,oE,eh,h1]
 | _=>simp[aO,fR,oE,eh]
noncomputable def fA(d:PyData)(n:Int):Bool:=match d with
 | .tuple a=>decide ((a.length:Int)=n)
 | _=>false
theorem yz{d:PyData}{n:Int}(h:md d=true):jY [.dat d,.dat (.int n)]=.rt (.dat (.bool (fA d n))) []:=by
 cases d with
 | dict _=>cases h
 | tuple a=>simp[aO,jY,sL,fA,sR,yy];rfl
 | _=>simp[aO,jY,sL,fA]
theorem yA{d:PyData}(h:md d=true):lN [.dat d]=.rt (.dat (.bool (eh d (-12) 14))) []:=by simp[aO,lN,xN,ke h]
theorem Kx{d:PyData}(h:md d=true):oI [.dat d]=.rt (.dat (.bool (eh d 0 9999))) []:=by simp[aO,oI,xO,ke h]
theorem sS{d:PyData}(h:md d=true):ka [.dat d]=if eh d 0 9999=true then .rt (.dat .none) [] else .ex "NoMoment" []:=by simp only[ka,xT];cases a:eh d 0 9999<;>simp[aO,Kx h,a]
noncomputable abbrev dG(p:Int×Int):PyData:=.tuple [.int p.1,.int p.2]
noncomputable abbrev aY(a:Int)(b:Sh):PyData:=.tuple [.int a,.tuple (b.map dG)]
@[simp] theorem me{x:PyData}{l:List PyData}:bR (x::l) 0=some x:=by unfold bR eM;rw[if_pos (by lia),if_pos (by simp<;>lia)];rfl
@[simp] theorem jb{x y:PyData}{l:List PyData}:bR (x::y::l) 1=some y:=by unfold bR eM;rw[if_pos (by lia),if_pos (by simp<;>lia)];rfl
@[simp] theorem iu{x:PyData}{l:List PyData}:bR (l++[x]) (-1)=some x:=by unfold bR eM;rw[if_neg (by lia),if_pos (by simp;lia)];simp;rw[show(-1+((l.length:Int)+1)).toNat=l.length by lia];simp
theorem yB{c:Option af}:∀{a:Sh}{lo:Int}{x:Option af},eV lo a->(∀p∈a,p.1<=9999/\-12<=p.2/\p.2<=14)->∃e y,cm (al 2) oM (a.map dG) [c,some (.dat (.int (lo+1))),x]=.nx [c,e,y]
 | [],_,_,_,_=>⟨_,_,rfl⟩
 | (b,k)::r,lo,x,⟨h1,h2⟩,g=>by
  obtain⟨e,y,h⟩:=yB (lo:=b) (c:=c) (x:=some (.dat (dG (b,k)))) h2 fun p i=>g p (bh _ i);have f:=g (b,k) List.mem_cons_self;refine⟨e,y,?_⟩;rw[List.map_cons,cm,<-h];have:oM [c,some (.dat (.int (lo+1))),some (.dat (dG (b,k)))]=.nx [c,some (.dat (.int (b+1))),some (.dat (dG (b,k)))]:=by simp[aO,oM,yz (d:=.tuple [.int b,.int k]) rfl,fA,yA (d:=.int k) rfl,ke (d:=.int b) rfl,eh,f.2.1,f.2.2,f.1,show lo+1<=b by lia]
  simp[aO,this]
theorem Ky{a:Sh}(f:a.length<=6)(b:eV 0 a)(d:∀p∈a,p.1<=9999/\-12<=p.2/\p.2<=14):oN [.dat (.tuple (a.map dG))]=.rt (.dat (.bool true)) []:=by obtain⟨e,y,h⟩:=yB (lo:=0) (c:=some (.dat (.tuple (a.map dG)))) (x:=none) b d;simp[aO,oN,xS,show ¬ (6:Int)<a.length by lia] at h ⊢;rw[h];simp
theorem Kz{a:Int}{b:Sh}(z:ef a b):oO [.dat (aY a b)]=.rt (.dat (.bool true)) []:=by have h1:=z.ah.1;simp[aO,oO,xX,yz (d:=aY a b) rfl,fA,yA (d:=.int a) rfl,eh,h1.1,h1.2,Ky z.len z.rise fun p c=>⟨z.top p c,z.ah.2 p c⟩]
theorem mf{a:Int}{b:Sh}(z:ef a b):ip [.dat (aY a b)]=.rt (.dat .none) []:=by simp[aO,ip,ya,Kz z]
theorem yC{m:Int}{z:Option af}:∀{ss:Sh}{a:Int}{x:Option af},∃y,cm (al 3) sM (ss.map dG) [z,some (.dat (.int m)),some (.dat (.int a)),x]=.nx [z,some (.dat (.int m)),some (.dat (.int (ft a ss m))),y]
 | [],_,_=>⟨_,rfl⟩
 | (b,c)::r,a,x=>by
  obtain⟨y,d⟩:=yC (m:=m) (z:=z) (ss:=r) (a:=if b<=m then c else a) (x:=some (.dat (dG (b,c))));refine⟨y,?_⟩;rw[List.map_cons,cm];unfold ft;rw[<-d]
  by_cases h:b<=m<;>simp[aO,sM,h]
theorem yD{a m:Int}{ss:Sh}:lM [.dat (aY a ss),.dat (.int m)]=.rt (.dat (.int (bP a ss m))) []:=by obtain⟨y,h⟩:=yC (m:=m) (z:=some (.dat (aY a ss))) (ss:=ss) (a:=a) (x:=none);simp[aO,lM,xK] at h ⊢;rw[h];simp[aO,bP]
theorem jc{e:XM PyData}{g:GM}{f:PyData->PyData}{P:ag->Prop}:∀{its ys:List PyData}{U:ag},P U->(∀d∈its,∀U,P U->∃a b,g d U=some a/\e a=.ok (f d) b/\P b)->ys.length+its.length<=sizeLine->bJ g dg e its ys U=some (ys++its.map f)
 | [],ys,U,_,_,_=>by simp[aO,bJ]
 | d::r,ys,U,c,h,i=>by obtain⟨a,b,h1,h2,h3⟩:=h d List.mem_cons_self U c;simp only[List.length_cons] at i;unfold bJ;rw[h1];simp only[dg,h2];rw[if_pos (by lia),jc h3 (fun d hd=>h d (bh _ hd)) (by simp;lia)];simp
theorem jd{t:XM Bool}{e:XM PyData}{g:GM}{p:PyData->Bool}{f:PyData->PyData}{P:ag->Prop}:∀{its ys:List PyData}{U:ag},P U->(∀d∈its,∀U,P U->∃b a c,g d U=some b/\t b=.ok (p d) a/\P a/\(p d=true->e a=.ok (f d) c/\P c))->ys.length+its.length<=sizeLine->bJ g t e its ys U=some (ys++(its.filter p).map f)
 | [],ys,U,_,_,_=>by simp[aO,bJ]
 | d::r,ys,U,j,h,k=>by
  obtain⟨b,a,c,h1,h2,h3,l⟩:=h d List.mem_cons_self U j;simp only[List.length_cons] at k;unfold bJ;rw[h1];simp only[h2];cases i:p d with
  | true=>obtain⟨m,n⟩:=l i;simp only[m];rw[if_pos (by lia),jd n (fun d hd=>h d (bh _ hd)) (by simp;lia)];simp[aO,i]
  | false=>simp only;rw[jd h3 (fun d hd=>h d (bh _ hd)) (by lia)];simp[aO,i]
@[simp] theorem Mj:(0:Nat)<=sizeLine:=by decide
@[simp] theorem yE:(1:Nat)<=sizeLine:=by decide
@[simp] theorem yF:(2:Nat)<=sizeLine:=by decide
@[simp] theorem Mk:(3:Nat)<=sizeLine:=by decide
@[simp] theorem Ml:(4:Nat)<=sizeLine:=by decide
@[simp] theorem Mm:(5:Nat)<=sizeLine:=by decide
@[simp] theorem Mo:(6:Nat)<=sizeLine:=by decide
@[simp] theorem Mp:(7:Nat)<=sizeLine:=by decide
@[simp] theorem Mq:(8:Nat)<=sizeLine:=by decide
@[simp] theorem Mr:(9:Nat)<=sizeLine:=by decide
@[simp] theorem KA:(10:Nat)<=sizeLine:=by decide
@[simp] theorem KB:(11:Nat)<=sizeLine:=by decide
@[simp] theorem KC:(12:Nat)<=sizeLine:=by decide
@[simp] theorem KD:(13:Nat)<=sizeLine:=by decide
@[simp] theorem KE:(14:Nat)<=sizeLine:=by decide
noncomputable def gU:Option Int->PyData
 | none=>.none
 | some e=>.int e
noncomputable def mh(p:Int×Option Int×Int):PyData:=.tuple [.int p.1,gU p.2.1,.int p.2.2]
theorem yG:∀(d:Sh) (s a:Int),kJ (.int s::d.map fun p=>.int p.1) ((d.map fun p=>PyData.int p.1)++[.none]) (.int a::d.map fun p=>.int p.2)=(ak s a d).map mh
 | [],s,a=>rfl
 | (b,c)::r,s,a=>by have e:=yG r b c;simp only[List.map_cons,List.cons_append,ak];rw[<-e];rfl
theorem KF{a:Int}{b:Sh}(l:b.length<=6):oF [.dat (aY a b)]=.rt (.dat (.list ((ak 0 a b).map mh))) []:=by
 have sz:1000<sizeLine:=by decide
 have c:=jc (e:=sN) (g:=al 0) (f:=fun d=>match d with | .tuple (x::_)=>x | _=>.none) (P:=fun U=>U.length=1) (its:=b.map dG) (ys:=[]) (U:=[none]) rfl (fun d hd U h=>by
  obtain⟨p,_,rfl⟩:=List.mem_map.mp hd
  match U,h with
  | [y],_=>exact⟨_,_,rfl,by simp[aO,sN];rfl,rfl⟩) (by simp;lia)
 have i:=jc (e:=sO) (g:=al 0) (f:=fun d=>match d with | .tuple (_::x::_)=>x | _=>.none) (P:=fun U=>U.length=1) (its:=b.map dG) (ys:=[]) (U:=[none]) rfl (fun d hd U h=>by
  obtain⟨p,_,rfl⟩:=List.mem_map.mp hd
  match U,h with
  | [y],_=>exact⟨_,_,rfl,by simp[aO,sO];rfl,rfl⟩) (by simp;lia)
 simp only[List.nil_append,List.map_map] at c i;have j:List.map ((fun d=>match d with | .tuple (x::_)=>x | _=>PyData.none)∘dG) b=b.map fun p=>PyData.int p.1:=by apply List.map_congr_left;intro p _;rfl
 have k:List.map ((fun d=>match d with | .tuple (_::x::_)=>x | _=>PyData.none)∘dG) b=b.map fun p=>PyData.int p.2:=by apply List.map_congr_left;intro p _;rfl
 rw[j] at c;rw[k] at i;have z:=yG b 0 a;simp[aO,oF,xL,c,i,show b.length<=sizeLine by lia,show b.length+1<=sizeLine by lia,show 1+b.length<=sizeLine by lia,z]
theorem yH{m:Int}{e:Option Int}:oG [.dat (.int m),.dat (gU e)]=.rt (.dat (.bool (im m e))) []:=by cases e<;>simp[aO,oG,xM,gU,im]
theorem sT{z:Option af}{g:Int}:∀{l:List (Int×Option Int×Int)}{ds:List PyData}{x y k u:Option af},ds.length+l.length<=100->∃c d f i,cm (ck 3 (bj (al 3) (bj (al 4) (bj (al 5) cj)))) iX (l.map mh) [z,some (.dat (.int g)),some (.own false (.l ds)),x,y,k,u]=.nx [z,some (.dat (.int g)),some (.own false (.l (ds++(bx g l).map .int))),c,d,f,i]
 | [],ds,x,y,k,u,_=>⟨x,y,k,u,by simp[aO,cm,bx]⟩
 | (s,e,a)::r,ds,x,y,k,u,n=>by
  have sz:1000<sizeLine:=by decide
  simp only[List.length_cons] at n
  by_cases h:(decide (s<=g - a)&&im (g - a) e)=true
  .obtain⟨c,d,f,i,j⟩:=sT (z:=z) (g:=g) (l:=r) (ds:=ds++[.int (g - a)]) (x:=some (.dat (.int s))) (y:=some (.dat (gU e))) (k:=some (.dat (.int a))) (u:=some (.dat (.int (g - a)))) (by simp;lia);refine⟨c,d,f,i,?_⟩;have st:bx g ((s,e,a)::r)=(g - a)::bx g r:=by simp[aO,bx,List.filter_cons,h]
   rw[List.map_cons,cm,st];have m:=Bool.and_eq_true_iff.mp h;have b:iX [z,some (.dat (.int g)),some (.own false (.l ds)),some (.dat (.int s)),some (.dat (gU e)),some (.dat (.int a)),u]=.nx [z,some (.dat (.int g)),some (.own false (.l (ds++[.int (g - a)]))),some (.dat (.int s)),some (.dat (gU e)),some (.dat (.int a)),some (.dat (.int (g - a)))]:=by simp[aO,iX,yH,of_decide_eq_true m.1,m.2,show ds.length<sizeLine by lia]
   simp only[mh,ck,bj,al,cj,List.length_cons,List.length_nil,if_true,Option.bind,List.set_cons_succ,List.set_cons_zero,b];rw[j];simp
  .obtain⟨c,d,f,i,j⟩:=sT (z:=z) (g:=g) (l:=r) (ds:=ds) (x:=some (.dat (.int s))) (y:=some (.dat (gU e))) (k:=some (.dat (.int a))) (u:=some (.dat (.int (g - a)))) (by lia);refine⟨c,d,f,i,?_⟩;have st:bx g ((s,e,a)::r)=bx g r:=by simp[aO,bx,List.filter_cons,h]
   rw[List.map_cons,cm,st];have b:iX [z,some (.dat (.int g)),some (.own false (.l ds)),some (.dat (.int s)),some (.dat (gU e)),some (.dat (.int a)),u]=.nx [z,some (.dat (.int g)),some (.own false (.l ds)),some (.dat (.int s)),some (.dat (gU e)),some (.dat (.int a)),some (.dat (.int (g - a)))]:=by
    by_cases h1:s<=g - a
    .have h2:im (g - a) e=false:=by
      cases q:im (g - a) e with
      | false=>rfl
      | true=>exact absurd (by rw[decide_eq_true h1,q];rfl) h
     simp[aO,iX,yH,h1,h2]
    .simp[aO,iX,h1]
   simp only[mh,ck,bj,al,cj,List.length_cons,List.length_nil,if_true,Option.bind,List.set_cons_succ,List.set_cons_zero,b];rw[j]
theorem yI:∀(d:Sh) (s a:Int),(ak s a d).length=d.length+1
 | [],s,a=>rfl
 | (b,c)::r,s,a=>by simp[aO,ak,yI r b c]
theorem yJ{a g:Int}{ss:Sh}(b:ss.length<=6):lO [.dat (aY a ss),.dat (.int g)]=.rt (.own false (.l ((bx g (ak 0 a ss)).map .int))) []:=by obtain⟨c,d,e,f,h⟩:=sT (z:=some (.dat (aY a ss))) (g:=g) (l:=ak 0 a ss) (ds:=[]) (x:=none) (y:=none) (k:=none) (u:=none) (by rw[yI];simp;lia);simp[aO,lO,xP,KF b] at h ⊢;rw[h];simp
theorem KG{a:List Int}{k:Int}(d:a.length<=63)(e:0<=k):∃v,jZ [.scr a,.dat (.int k)]=.rt (.dat (.int v)) []:=by
 by_cases h:k<a.length
 .have:∃v,bR a k=some v:=by unfold bR eM;rw[if_pos e,if_pos h];exact⟨a[k.toNat]'(by lia),by simp⟩
  obtain⟨v,c⟩:=this;exact⟨v,by simp[aO,jZ,oH,d,h,c]⟩
 .by_cases b:a=[]
  .subst b;exact⟨0,by simp[aO,jZ,oH] at h ⊢;simp[aO,show ¬ k<0 by lia]⟩
  .have f:0<(a.length:Int):=by have:=List.length_pos_iff.mpr b;lia
   have:∃v,bR a (k % a.length)=some v:=by have h1:=Int.emod_nonneg k (show(a.length:Int)≠0 by lia);have h2:=Int.emod_lt_of_pos k f;unfold bR eM;rw[if_pos h1,if_pos h2];exact⟨a[(k % a.length).toNat]'(by lia),by simp⟩
   obtain⟨v,c⟩:=this;exact⟨v * 31+k,by simp[aO,jZ,oH,d,h,b,c,kM,ic,List.length_pos_iff.mpr b]⟩
theorem KH{c:List Int}{k many:Int}(d:c.length<=63)(e:0<=k)(b:0<many):∃v,0<=v/\v<many/\oK [.scr c,.dat (.int k),.dat (.int many)]=.rt (.dat (.int v)) []:=by
 obtain⟨v,f⟩:=KG (k:=k) d e;generalize hd:(v * 1103515245+7919 * k+12345) % 2147483647=a;have g:0<=a:=by lia
 have h:a<2147483647:=by lia
 refine⟨a ^ 5 % 2147483647 % 999983 % many,Int.emod_nonneg _ (by lia),Int.emod_lt_of_pos _ b,?_⟩;simp[aO,oK,xR,f,ic,kM,mT,hd,b,show a.natAbs<18446744073709551616 by lia]
theorem pS{ns:List Int}{many:Int}{t:List PyData}(a:ns.length<=63)(c:t.length<1000000)(b:0<many):∃v,0<=v/\v<many/\iY [.scr ns,.own true (.l t),.dat (.int many)]=.rt (.dat (.int v)) [.l (t++[.int 0])]:=by
 have sz:1000000<sizeLine:=by decide
 obtain⟨v,h1,h2,h3⟩:=KH (k:=((t++[PyData.int 0]).length:Int)) a (by lia) b;refine⟨v,h1,h2,?_⟩;simp at h3;simp[aO,iY,xW,show t.length<sizeLine by lia,h3]
theorem yK{ns:List Int}{ds t:List PyData}(a:ns.length<=63)(b:t.length<1000000)(hd:ds≠[])(c:ds.length<=1000):∃d∈ds,lR [.scr ns,.own true (.l t),.dat (.list ds)]=.rt (.dat d) [.l (t++[.int 0])]:=by
 have e:=List.length_pos_iff.mpr hd;obtain⟨v,h1,h2,h3⟩:=pS (many:=ds.length) a b (by lia);have:bR ds v=some (ds[v.toNat]'(by lia)):=by unfold bR eM;rw[if_pos h1,if_pos h2];simp
 refine⟨ds[v.toNat]'(by lia),List.getElem_mem _,?_⟩;simp[aO,lR,xZ,h3,this]
theorem KJ{ns:List Int}{t:List PyData}{ss:Sh}{m wd:Int}{k:Option af}(b:ns.length<=63)(h:t.length<900)(j:ss.length<=100)(a:0<wd):∃d c,0<=d/\d<wd/\-12<=c/\c<=14/\
  oP [some (.scr ns),some (.own true (.l t)),some (.dat (.int wd)),some (.dat (.tuple (ss.map dG))),some (.dat (.int m)),k]=.nx [some (.scr ns),some (.own true (.l (t++[.int 0]++[.int 0]))),some (.dat (.int wd)),some (.dat (.tuple ((ss++[(m+1+d,c)]).map dG))),some (.dat (.int (m+1+d))),k]:=by
 have sz:1000<sizeLine:=by decide
 obtain⟨d,e,n,h2⟩:=pS (ns:=ns) (t:=t) (many:=wd) b (by lia) a;obtain⟨w,a,h1⟩:=yK (ns:=ns) (t:=t++[.int 0]) (ds:=[.int 0,.int 1,.int 2,.int (-1),.int 14,.int (-12),.int 3]) b (by simp;lia) (by simp) (by simp);have:∃i:Int,w=.int i/\-12<=i/\i<=14:=by simp only[List.mem_cons,List.not_mem_nil,or_false] at a;rcases a with rfl | rfl | rfl | rfl | rfl | rfl | rfl<;>exact⟨_,rfl,by lia,by lia⟩
 obtain⟨i,rfl,f,g⟩:=this;refine⟨d,i,e,by lia,f,g,?_⟩;simp only[List.append_assoc,List.cons_append,List.nil_append] at h1 h2;simp[aO,oP,h1,h2,show ss.length+1<=sizeLine by lia]
theorem yL{ns:List Int}{wd:Int}(g:ns.length<=63)(h:0<wd):∀{its t:List PyData}{ss:Sh}{m:Int}{k:Option af},t.length+2 * its.length<900->ss.length+its.length<=100->∃new t' b f,cm (al 5) oP its [some (.scr ns),some (.own true (.l t)),some (.dat (.int wd)),some (.dat (.tuple (ss.map dG))),some (.dat (.int m)),k]=.nx [some (.scr ns),some (.own true (.l t')),some (.dat (.int wd)),some (.dat (.tuple ((ss++new).map dG))),some (.dat (.int b)),f]/\
  eV m new/\(∀p∈new,p.1<=m+wd * its.length/\-12<=p.2/\p.2<=14)/\new.length=its.length/\t'.length=t.length+2 * its.length
 | [],t,ss,m,k,_,_=>⟨[],t,m,k,by simp[aO,cm],trivial,fun p a=>(by cases a),rfl,rfl⟩
 | x::r,t,ss,m,k,h1,h2=>by
  simp only[List.length_cons] at h1 h2;obtain⟨d,c,s,u,i,j,e⟩:=KJ (ns:=ns) (t:=t) (ss:=ss) (m:=m) (wd:=wd) (k:=some (.dat x)) g (by lia) (by lia) h;obtain⟨new,t',b,f,g1,g2,g3,n,o⟩:=yL g h (its:=r) (t:=t++[.int 0]++[.int 0]) (ss:=ss++[(m+1+d,c)]) (m:=m+1+d) (k:=some (.dat x)) (by simp;lia) (by simp;lia);have q:wd * ((r.length+1:Nat):Int)=wd * r.length+wd:=by rw[Int.natCast_add,Int.mul_add];simp
  have v:0<=wd * (r.length:Int):=Int.mul_nonneg (by lia) (by lia);refine⟨(m+1+d,c)::new,t',b,f,?_,⟨by lia,g2⟩,fun p a=>?_,by simp[aO,n],by rw[o];simp;lia⟩
  .rw[cm];simp only[al,List.set_cons_succ,List.set_cons_zero,e];rw[g1];simp
  .rw[List.length_cons,q];rcases List.mem_cons.mp a with rfl | a
   .exact⟨by simp;lia,i,j⟩
   .have:=g3 p a;exact⟨by lia,this.2⟩
theorem KL{ns:List Int}{t:List PyData}{wd:Int}(d:ns.length<=63)(s:t.length<=100)(h:0<wd):∃a b t',oQ [.scr ns,.own true (.l t),.dat (.int wd)]=.rt (.dat (aY a b)) [.l t']/\b.length<=4/\eV 0 b/\oD a b/\(∀p∈b,p.1<=4 * wd)/\t'.length<=t.length+12:=by
 have sz:1000<sizeLine:=by decide
 obtain⟨n,j,u,h1⟩:=pS (ns:=ns) (t:=t) (many:=5) d (by lia) (by lia);obtain⟨new,f,v,x,g1,g2,g3,o,g⟩:=yL (ns:=ns) (wd:=wd) d h (its:=intsFrom 0 n.toNat) (t:=t++[.int 0]) (ss:=[]) (m:=0) (k:=none) (by simp[aO,mR];lia) (by simp[aO,mR];lia);rw[mR] at g3 o g;simp only[List.length_append,List.length_cons,List.length_nil] at g;obtain⟨w,c,h2⟩:=yK (ns:=ns) (t:=f) (ds:=[.int 0,.int 1,.int 2,.int (-1),.int 14,.int (-12)]) d (by lia) (by simp) (by simp);have:∃i:Int,w=.int i/\-12<=i/\i<=14:=by simp only[List.mem_cons,List.not_mem_nil,or_false] at c;rcases c with rfl | rfl | rfl | rfl | rfl | rfl<;>exact⟨_,rfl,by lia,by lia⟩
 obtain⟨i,rfl,q,r⟩:=this;simp only[List.map_nil,List.nil_append] at g1;have y:wd * ((n.toNat:Nat):Int)<=4 * wd:=by rw[Int.mul_comm 4];exact Int.mul_le_mul_of_nonneg_left (by lia) (by lia)
 refine⟨i,new,f++[.int 0],?_,by lia,g2,⟨⟨q,r⟩,fun p e=>(g3 p e).2⟩,fun p e=>by have:=(g3 p e).1;lia,by simp;lia⟩;simp[aO,oQ,yb,h1,j,show n<4611686018427387904 by lia,show -4611686018427387904<=n by lia,g1,h2]
theorem KM{d:PyData}(h:SeqAt.shaped d=true):aO false d d=some (.bool true):=by simp[aO,h,vb h]
theorem pT{d:PyData}(h:SeqAt.shaped d=true):aO true d d=some (.bool false):=by simp[aO,h,vb h]
theorem KN(i j:Int):aO false (.int i) (.int j)=some (.bool (decide (i=j))):=by
 by_cases h:i=j
 .subst h;simp[KM (sR i)]
 .simp[aO,sR,yy,h]
theorem yM{a m:Int}{b:Sh}(z:ef a b)(c:0<=m)(e:m<=9999):oR [.dat (aY a b),.dat (.int m)]=.rt (.dat (.tuple [.int (bP a b m / 24),.int (bP a b m % 24)])) []:=by simp[oR,yc,mf z,sS (d:=.int m) rfl,eh,c,e,yD,jD]
theorem KP{a d h:Int}{b:Sh}(z:ef a b)(c:-1<=d)(e:d<=9999)(f:0<=h)(g:h<=23):kb [.dat (aY a b),.dat (.int d),.dat (.int h)]=.rt (.own false (.l ((bx (d * 24+h) (ak 0 a b)).map .int))) []:=by simp[kb,yd,mf z,ke (d:=.int d) rfl,ke (d:=.int h) rfl,eh,c,e,f,g,yJ z.len,ic]
theorem KQ{m k:SM}{U a:ag}(h:m U=.nx a):aU m k U=k a:=by simp[h]
@[simp] theorem Ms:dr "str" "str" = some true:=by decide
@[simp] theorem pU{x y w:PyData}{l:List PyData}:bR (x::y::w::l) 2=some w:=by unfold bR eM;rw[if_pos (by lia),if_pos (by simp<;>lia)];rfl
theorem KR{i j:Int}(a:-1000000<=j)(b:j<=1000000):ic i j=true:=by unfold ic;rw[decide_eq_true (show -(2 ^ 64)<j by lia),decide_eq_true (show j<2 ^ 64 by lia)];simp
theorem yN{l:List Int}(h:l≠[]):∃M,M∈l/\(∀x∈l,x<=M)/\gJ [.list (l.map PyData.int)]=some (.int M):=by
 have key:∀(r:List Int) (i:Int),(∀x∈i::r,x<=r.foldl max i)/\r.foldl max i∈i::r:=fun r=>by
  induction r with
  | nil=>intro i;simp
  | cons j r c=>
   intro i;obtain⟨b,h2⟩:=c (max i j);have h3:=b (max i j) List.mem_cons_self;refine⟨fun x a=>?_,?_⟩
   .simp only[List.foldl_cons];rcases List.mem_cons.mp a with rfl | a
    .omega
    .rcases List.mem_cons.mp a with rfl | a
     .omega
     .exact b x (bh _ a)
   .simp only[List.foldl_cons];rcases List.mem_cons.mp h2 with e | e
    .rw[e];rcases Int.le_total i j with q | q
     .rw[Int.max_eq_right q];simp
     .rw[Int.max_eq_left q];simp
    .exact bh _ (bh _ e)
 cases l with
 | nil=>exact absurd rfl h
 | cons i r=>obtain⟨b,h2⟩:=key r i;exact⟨_,h2,b,by unfold gJ;simp only[jJ];rfl⟩
theorem yO{k b:List aA}{v:PyData}:∀a:bU,(bF false a k).isSome=true->bF false (fH false k v a) b = if b = k then some v else bF false a b
 | [],h=>by cases h
 | p::r,h=>by
  unfold fH bF;unfold bF at h
  by_cases e:du false p.1=some k
  .rw[if_pos e]
   by_cases c:b = k
   .subst c;simp[e]
   .have d:¬ k=b:=fun z=>c z.symm;have this:∀a:bU,bF false (fH false k v a) b = bF false a b:=fun a=>by
     induction a with
     | nil=>rfl
     | cons q s f=>
      unfold fH bF
      by_cases g:du false q.1=some k
      .simp[g,d,f]
      .simp[g,f]
    simp[e,c,d,this]
  .rw[if_neg e] at h ⊢;rw[yO r h]
   by_cases c:b = k
   .subst c;simp[e]
   .simp[c]
theorem KS{k b:List aA}{v d:PyData}{a:bU}(hd:du false d=some k):bF false (eF false a d k v) b = if b = k then some v else bF false a b:=by
 unfold eF
 by_cases h:(bF false a k).isSome=true
 .rw[if_pos h,yO a h]
 .rw[if_neg h];have f:bF false a k=none:=by simpa using h
  have:∀a:bU,bF false (a++[(d,v)]) b = (bF false a b).or (if b = k then some v else none):=fun a=>by
   induction a with
   | nil=>
    show(if du false d=some b then some v else none)=_;rw[hd]
    by_cases e:b = k
    .subst e;simp[bF]
    .rw[if_neg (by simpa using fun z=>e z.symm),if_neg e];rfl
   | cons q s g=>
    rw[List.cons_append];unfold bF
    by_cases c:du false q.1=some b
    .simp[c]
    .simp[c,g]
  rw[this]
  by_cases e:b = k
  .subst e;simp[f]
  .simp[e]
theorem yP{k:List aA}{v:PyData}:∀a:bU,(fH false k v a).length=a.length
 | []=>rfl
 | p::r=>by unfold fH;simp[yP r]
theorem KU{k:List aA}{v d:PyData}{kvs:bU}:(eF false kvs d k v).length<=kvs.length+1:=by
 unfold eF;split
 .rw[yP];lia
 .simp
def IsT(o:fB):Prop:=∃x r,o=.rt (.dat (.bool true)) (x::r)
theorem gV{m k:SM}{U a:ag}(h:m U=.nx a)(q:IsT (k a)):IsT (aU m k U):=by rw[KQ h];exact q
theorem KW{m:SM}{n:Nat}{a:List Int}(h:IsT (m (some (.scr a)::List.replicate n none))):bL 1 (n+1) m [.scr a]=.rt (.dat (.bool true)) []:=by obtain⟨x,r,e⟩:=h;simp[e]
theorem pV(i:Int)(r:Nat):L3.intsFrom i (r+1)=.int i::L3.intsFrom (i+1) r:=by
 unfold L3.intsFrom;rw[List.range_succ_eq_map,List.map_cons,List.map_map]
 congr 1
 .simp
 .apply List.map_congr_left;intro k _;simp;lia
theorem KY{j:Int}(a:-4611686018427387904<=j)(b:j<4611686018427387904):dc [.int j]=some (L3.intsFrom 0 j.toNat):=by show(if _ then _ else _)=_;rw[if_pos (by rw[decide_eq_true (show -(2 ^ 62)<=j by lia),decide_eq_true (show j<2 ^ 62 by lia)];rfl)]
theorem yQ{first last:Int}(a:0<=first/\first<=last)(b:last<=9999):lQ [.dat (.int first),.dat (.int last)]=.rt (.dat .none) []:=by simp[lQ,xY,sS (d:=.int first) rfl,sS (d:=.int last) rfl,eh,a.1,show first<=9999 by lia,show 0<=last by lia,b,show ¬ last<first by lia]
def CN(a:bU)(T:List Int):Prop:=∀t:Int,bF false a [.inl t]=if T.count t=0 then none else some (.int (T.count t))
theorem CN.get{a:bU}{T:List Int}(h:CN a T)(t:Int):(bF false a [.inl t]).getD (.int 0)=.int (T.count t):=by
 rw[h t];split
 .rename_i e;rw[e];rfl
 .rfl
theorem CN.put{a:bU}{T:List Int}(h:CN a T)(t:Int):CN (eF false a (.int t) [.inl t] (.int ((T.count t:Int)+1))) (T++[t]):=fun t'=>by
 rw[KS rfl,h t',List.count_append,List.count_singleton]
 by_cases e:t' = t
 .subst e;rw[if_pos rfl,if_neg (by simp)];simp[Int.natCast_add]
 .have b:¬ ([Sum.inl t']:List aA)=[Sum.inl t]:=fun z=>e (by injection z with z;injection z);rw[if_neg b];have c:(t==t')=false:=by simp;exact fun z=>e z.symm
  simp[c]
noncomputable def cs(T:List Int):Int->Nat->List Int
 | _,0=>[]
 | b,n+1=>(T.count b:Int)::cs T (b+1) n
theorem jJ:∀a:List Int,ints? (a.map PyData.int)=some a
 | []=>rfl
 | n::a=>by rw[List.map_cons,ints?,jJ a];rfl
theorem sU:∀(n:Nat) (b:Int),∀d∈L3.intsFrom b n,∃t:Int,d=.int t
 | 0,b,d,h=>by simp[L3.intsFrom] at h
 | n+1,b,d,h=>by
  rw[pV] at h;rcases List.mem_cons.mp h with rfl | h
  .exact⟨b,rfl⟩
  .exact sU n (b+1) d h
theorem mi:∀(n:Nat) (b:Int),(L3.intsFrom b n).length=n
 | 0,b=>rfl
 | n+1,b=>by rw[pV,List.length_cons,mi n (b+1)]
theorem yR{i j:Int}(b:-1000000<=i)(c:i<=1000000)(d:-1000000<=j)(a:j<=1000000):cQ [.int i,.int j]=some (L3.intsFrom i (j - i).toNat):=by simp only[cQ];rw[if_pos (by simp;lia)]
noncomputable def wl(a:Int)(b:Sh):Int->Nat->List Int
 | _,0=>[]
 | i,n+1=>bP a b i::wl a b (i+1) n
theorem sV(a:Int)(b:Sh):∀(n:Nat) (i:Int),(wl a b i n).length=n
 | 0,_=>rfl
 | n+1,i=>by simp[wl,sV a b n]
theorem yS{a:Int}{b:Sh}(c:oD a b):∀(n:Nat) (i:Int),∀x∈wl a b i n,i - 12<=x/\x<=i+n+14
 | 0,_,x,h=>by cases h
 | n+1,i,x,h=>by
  rcases List.mem_cons.mp h with rfl | h
  .have:=sJ (m:=i) c;unfold bP;lia
  .have:=yS c n (i+1) x h;lia
theorem yT(t:Int):∀(T Y:List Int),t∈T.foldl TS.addI Y↔t∈Y\/t∈T
 | [],Y=>by simp
 | k::T,Y=>by
  rw[List.foldl_cons,yT t T];unfold TS.addI;split
  .rename_i h;constructor
   .rintro(a | a)
    .exact .inl a
    .exact .inr (.tail _ a)
   .rintro(a | a)
    .exact .inl a
    .rcases List.mem_cons.mp a with rfl | a
     .exact .inl h
     .exact .inr a
  .simp only[List.mem_append,List.mem_cons,List.not_mem_nil,or_false];constructor
   .rintro((a | a) | a)
    .exact .inl a
    .exact .inr (.inl a)
    .exact .inr (.inr a)
   .rintro(a | a | a)
    .exact .inl (.inl a)
    .exact .inl (.inr a)
    .exact .inr a
theorem eW(t:Int)(T:List Int):t∈TS.onceI T↔t∈T:=by unfold TS.onceI;rw[yT];simp
theorem KZ(T:List Int)(t:Int):TS.onceI (T++[t])=TS.addI (TS.onceI T) t:=by unfold TS.onceI;rw[List.foldl_append];rfl
def KO(a:bU)(T:List Int):Prop:=CN a T/\a.map (·.1)=(TS.onceI T).map PyData.int
theorem yU(k:List aA)(v:PyData):∀a:bU,(fH false k v a).map (·.1)=a.map (·.1)
 | []=>rfl
 | p::r=>by rw[fH,List.map_cons,List.map_cons,yU k v r];split<;>rfl
theorem KO.put{a:bU}{T:List Int}(h:KO a T)(t:Int):KO (eF false a (.int t) [.inl t] (.int ((T.count t:Int)+1))) (T++[t]):=by
 refine⟨h.1.put t,?_⟩;have c:=h.1 t;rw[KZ];unfold eF TS.addI
 by_cases q:T.count t=0
 .rw[if_pos q] at c;have b:t∉TS.onceI T:=fun z=>List.count_eq_zero.mp q ((eW t T).mp z);rw[c,if_neg (by simp),if_neg b,List.map_append,List.map_append,h.2];rfl
 .rw[if_neg q] at c;have b:t∈TS.onceI T:=(eW t T).mpr (List.count_pos_iff.mp (Nat.pos_of_ne_zero q));rw[c,if_pos (by simp),if_pos b,yU,h.2]
theorem KO.in_{a:bU}{T:List Int}(h:KO a T)(t:Int):(bF false a [.inl t]).isSome=decide (t∈T):=by
 rw[h.1 t]
 by_cases q:T.count t=0
 .rw[if_pos q,decide_eq_false (List.count_eq_zero.mp q)];rfl
 .rw[if_neg q,decide_eq_true (List.count_pos_iff.mp (Nat.pos_of_ne_zero q))];rfl
theorem yV{a:Int}{ss:Sh}{z1 z2:Option af}:∀(n:Nat) (i:Int) (f:bU) (T:List Int) (o l:Option af),KO f T->f.length+n<=500000->
  ∃j p q,cm (al 4) oJ (L3.intsFrom i n) [some (.dat (aY a ss)),z1,z2,some (.own false (.m false f)),o,l]=.nx [some (.dat (aY a ss)),z1,z2,some (.own false (.m false j)),p,q]/\KO j (T++wl a ss i n)
 | 0,i,f,T,o,l,h,_=>⟨f,o,l,by simp[cm,L3.intsFrom],by simpa[wl] using h⟩
 | n+1,i,f,T,o,l,h,s=>by
  have sz:1000000<sizeLine:=by decide
  have t:=KU (kvs:=f) (k:=[.inl (bP a ss i)]) (d:=.int (bP a ss i)) (v:=.int ((T.count (bP a ss i):Int)+1));obtain⟨j,p,q,e,c⟩:=yV (a:=a) (ss:=ss) (z1:=z1) (z2:=z2) n (i+1) _ (T++[bP a ss i]) (some (.dat (.int i))) (some (.dat (.int (bP a ss i)))) (h.put _) (by lia);refine⟨j,p,q,?_,by simpa[wl] using c⟩;have g:=h.1.get (bP a ss i);have b:oJ [some (.dat (aY a ss)),z1,z2,some (.own false (.m false f)),some (.dat (.int i)),l]=.nx [some (.dat (aY a ss)),z1,z2,some (.own false (.m false (eF false f (.int (bP a ss i)) [.inl (bP a ss i)] (.int ((T.count (bP a ss i):Int)+1))))),some (.dat (.int i)),some (.dat (.int (bP a ss i)))]:=by have r:=yD (a:=a) (m:=i) (ss:=ss);generalize aY a ss=Z at *;generalize bP a ss i=v at *;simp[oJ,r,rL,nE,nC,fk,du,eE,nB,nA,g,show f.length<sizeLine by lia]
  rw[pV,cm,<-e];simp only[al,List.length_cons,List.set_cons_succ,List.set_cons_zero,b]
theorem yW{a first last:Int}{ss:Sh}(f:0<=first/\first<=last)(g:last<=9999) :
  ∃b,lP [.dat (aY a ss),.dat (.int first),.dat (.int last)]=.rt (.own false (.m false b)) []/\KO b (wl a ss first (last+1 - first).toNat):=by
 obtain⟨b,h,k,e,c⟩:=yV (a:=a) (ss:=ss) (z1:=some (.dat (.int first))) (z2:=some (.dat (.int last))) (last+1 - first).toNat first [] [] none none ⟨fun t=>by simp[bF],rfl⟩ (by simp;lia)
 have d:=yR (i:=first) (j:=last+1) (by lia) (by lia) (by lia) (by lia);refine⟨b,?_,by simpa using c⟩;generalize aY a ss=Z at *;simp[-cQ,lP,xQ,rK,d,e]
theorem yX{l:List Int}(h:l≠[]):∃M,M∈l/\(∀x∈l,M<=x)/\ig [.list (l.map PyData.int)]=some (.int M):=by
 have key:∀(r:List Int) (i:Int),(∀x∈i::r,r.foldl min i<=x)/\r.foldl min i∈i::r:=fun r=>by
  induction r with
  | nil=>intro i;simp
  | cons j r d=>
   intro i;obtain⟨b,h2⟩:=d (min i j);have h3:=b (min i j) List.mem_cons_self;simp only[List.foldl_cons];refine⟨fun x a=>?_,?_⟩
   .rcases List.mem_cons.mp a with rfl | a
    .omega
    .rcases List.mem_cons.mp a with rfl | a
     .omega
     .exact b x (bh _ a)
   .rcases List.mem_cons.mp h2 with h2 | h2
    .rw[h2];rcases Int.le_total i j with c | c
     .rw[Int.min_eq_left c];exact List.mem_cons_self
     .rw[Int.min_eq_right c];exact bh _ List.mem_cons_self
    .exact bh _ (bh _ h2)
 cases l with
 | nil=>exact absurd rfl h
 | cons i r=>obtain⟨b,h2⟩:=key r i;refine⟨r.foldl min i,h2,b,?_⟩;show((ints? ((i::r).map PyData.int)).bind kR).map PyData.int=_;rw[jJ];rfl
theorem La{T:List Int}(h:T≠[]):∃m M,(∀x∈T,m<=x/\x<=M)/\m∈T/\M∈T/\ig [.list ((TS.onceI T).map PyData.int)]=some (.int m)/\gJ [.list ((TS.onceI T).map PyData.int)]=some (.int M)/\ig [.list (T.map PyData.int)]=some (.int m)/\gJ [.list (T.map PyData.int)]=some (.int M):=by
 have c:TS.onceI T≠[]:=fun z=>by
  cases T with
  | nil=>exact h rfl
  | cons t T=>have:=(eW t (t::T)).mpr List.mem_cons_self;rw[z] at this;cases this
 obtain⟨a,k,l,n⟩:=yX c;obtain⟨b,o,p,q⟩:=yN c;obtain⟨d,e,f,r⟩:=yX h;obtain⟨M2,g,i,s⟩:=yN h;have u:a=d:=Int.le_antisymm (l d ((eW _ _).mpr e)) (f a ((eW _ _).mp k));have v:b=M2:=Int.le_antisymm (i b ((eW _ _).mp o)) (p M2 ((eW _ _).mpr g));subst u v;exact⟨a,b,fun x j=>⟨f x j,i x j⟩,e,g,n,q,r,s⟩
noncomputable def sW(T:List Int)(d:PyData):Bool:=match d with
 | .int t=>!decide (t∈T)
 | _=>false
noncomputable def sX(d:PyData):PyData:=match d with
 | .int t=>.tuple [.int (t / 24),.int (t % 24)]
 | _=>d
noncomputable def iw(T:List Int)(m M:Int):List PyData:=((L3.intsFrom m (M - m).toNat).filter (sW T)).map sX
theorem Lb(T:List Int)(m M:Int):(iw T m M).length<=(M - m).toNat:=by unfold iw;rw[List.length_map];exact Nat.le_trans (List.length_filter_le _ _) (by rw[mi];exact aE _)
theorem Lc(T:List Int)(m M:Int):(iw T m M).all fJ=true:=by rw[List.all_eq_true];intro d hd;obtain⟨x,a,rfl⟩:=List.mem_map.mp hd;obtain⟨t,rfl⟩:=sU _ _ x (List.mem_filter.mp a).1;rfl
theorem Ld{a first last:Int}{c:Sh}(z:ef a c)(k:0<=first/\first<=last)(n:last<=9999){m M:Int}
  (q:ig [.list ((TS.onceI (wl a c first (last+1 - first).toNat)).map PyData.int)]=some (.int m)) (r:gJ [.list ((TS.onceI (wl a c first (last+1 - first).toNat)).map PyData.int)]=some (.int M)) (C:-100<=m/\m<=20000/\-100<=M/\M<=20000) :
  oS [.dat (aY a c),.dat (.int first),.dat (.int last)]=.rt (.dat (.list (iw (wl a c first (last+1 - first).toNat) m M))) []:=by
 have sz:1000000<sizeLine:=by decide
 obtain⟨b,s,o⟩:=yW (a:=a) (ss:=c) k n;have u:=mf z;have cs:=yQ k n;generalize wl a c first (last+1 - first).toNat=T at *
 have v:=yR (i:=m) (j:=M) (by lia) (by lia) (by lia) (by lia);have w:bJ (al 0) lS lT (L3.intsFrom m (M - m).toNat) [] [none,some (.vw (.m false b))]=some (iw T m M):=by
  have:=jd (t:=lS) (e:=lT) (g:=al 0) (p:=sW T) (f:=sX) (P:=fun U=>∃x,U=[x,some (.vw (.m false b))]) (its:=L3.intsFrom m (M - m).toNat) (ys:=[]) (U:=[none,some (.vw (.m false b))]) ⟨none,rfl⟩ (fun d h U y=>?_) (by simp[mi];lia)
  .exact this
  .obtain⟨x,rfl⟩:=y;obtain⟨t,rfl⟩:=sU _ _ d h;refine⟨[some (.dat (.int t)),some (.vw (.m false b))],[some (.dat (.int t)),some (.vw (.m false b))],[some (.dat (.int t)),some (.vw (.m false b))],rfl,?_,⟨_,rfl⟩,fun _=>⟨?_,⟨_,rfl⟩⟩⟩
   .have i:(bF false b [.inl t]).isNone = !decide (t∈T):=by rw[<-Option.not_isSome,o.in_ t]
    simp[lS,sh,oj,cS,ed,du,eE,i,sW]
   .simp[lT,sX,jD]
 have A:(ik 1 [3] (gO cQ (aN (xV 4) (aN (xV 5) bn))) (al 0) lS lT) [some (.dat (aY a c)),some (.dat (.int first)),some (.dat (.int last)),some (.own false (.m false b)),some (.dat (.int m)),some (.dat (.int M))]=.ok (.list (iw T m M)) [some (.dat (aY a c)),some (.dat (.int first)),some (.dat (.int last)),some (.own false (.m false b)),some (.dat (.int m)),some (.dat (.int M))]:=by have l:=Lb T m M;simp[-cQ,v];simp only[w,Option.bind_some];rw[if_pos ⟨by lia,by simpa using Lc T m M⟩]
 have B:∀U,lD 3 (some (.dat (aY a c))::some (.dat (.int first))::some (.dat (.int last))::some (.own false (.m false b))::U)=.ok (.list ((TS.onceI T).map PyData.int)) (some (.dat (aY a c))::some (.dat (.int first))::some (.dat (.int last))::some (.own false (.m false b))::U):=fun U=>by simp[lD,cS,<-o.2]
 generalize aY a c=Z at *;simp[-cQ,-ik,oS,ye,u,cs,s,B,q,r,A]
noncomputable def sY(T:List Int)(d:PyData):Bool:=match d with
 | .int t=>decide ((T.count t:Int)>1)
 | _=>false
noncomputable def sZ(T:List Int)(d:PyData):PyData:=match d with
 | .int t=>.tuple [.tuple [.int (t / 24),.int (t % 24)],.int (T.count t)]
 | _=>d
noncomputable def ix(T:List Int):List PyData:=(((bO (TS.onceI T)).map PyData.int).filter (sY T)).map (sZ T)
theorem pW(a:List Int):(bO a).length=a.length:=List.length_mergeSort a
theorem Le(T:List Int):(ix T).length<=T.length:=by unfold ix;rw[List.length_map];refine Nat.le_trans (List.length_filter_le _ _) ?_;rw[List.length_map,pW];exact TS.onceI_len T
theorem Lf(T:List Int):(ix T).all fJ=true:=by rw[List.all_eq_true];intro d hd;obtain⟨x,a,rfl⟩:=List.mem_map.mp hd;obtain⟨t,_,rfl⟩:=List.mem_map.mp (List.mem_filter.mp a).1;rfl
theorem yY(a:List Int):fm (a.map PyData.int)=some a:=by
 induction a with
 | nil=>rfl
 | cons n a b=>rw[List.map_cons,fm,b];rfl
theorem Lg{a first last:Int}{ss:Sh}(z:ef a ss)(h:0<=first/\first<=last)(i:last<=9999) :
  lW [.dat (aY a ss),.dat (.int first),.dat (.int last)]=.rt (.dat (.list (ix (wl a ss first (last+1 - first).toNat)))) []:=by
 have sz:1000000<sizeLine:=by decide
 obtain⟨b,k,j⟩:=yW (a:=a) (ss:=ss) h i;have n:=mf z;have cs:=yQ h i;have w:=sV a ss (last+1 - first).toNat first
 generalize wl a ss first (last+1 - first).toNat=T at *
 have l:=Le T;have ol:=TS.onceI_len T;have o:bJ (al 0) lU lV ((bO (TS.onceI T)).map PyData.int) [] [none,some (.vw (.m false b))]=some (ix T):=by
  have:=jd (t:=lU) (e:=lV) (g:=al 0) (p:=sY T) (f:=sZ T) (P:=fun U=>∃x,U=[x,some (.vw (.m false b))]) (its:=(bO (TS.onceI T)).map PyData.int) (ys:=[]) (U:=[none,some (.vw (.m false b))]) ⟨none,rfl⟩ (fun d c U q=>?_) (by simp[pW];lia)
  .exact this
  .obtain⟨x,rfl⟩:=q;obtain⟨t,r,rfl⟩:=List.mem_map.mp c;have s:t∈T:=(eW t T).mp ((List.mergeSort_perm _ _).mem_iff.mp r);have fd:bF false b [.inl t]=some (.int (T.count t)):=by rw[j.1 t,if_neg (fun z=>List.count_eq_zero.mp z s)]
   refine⟨[some (.dat (.int t)),some (.vw (.m false b))],[some (.dat (.int t)),some (.vw (.m false b))],[some (.dat (.int t)),some (.vw (.m false b))],rfl,?_,⟨_,rfl⟩,fun _=>⟨?_,⟨_,rfl⟩⟩⟩
   .simp[lU,jX,om,cS,ed,du,eE,fd,sY]
   .simp[lV,jX,om,cS,ed,du,eE,fd,sZ,jD]
 have u:lE 3 [some (.dat (aY a ss)),some (.dat (.int first)),some (.dat (.int last)),some (.own false (.m false b))]=.ok (.list ((bO (TS.onceI T)).map PyData.int)) [some (.dat (aY a ss)),some (.dat (.int first)),some (.dat (.int last)),some (.own false (.m false b))]:=by simp[lE,cS,j.2,yY]
 have v:(ik 1 [3] (dt (lE 3)) (al 0) lU lV) [some (.dat (aY a ss)),some (.dat (.int first)),some (.dat (.int last)),some (.own false (.m false b))]=.ok (.list (ix T)) [some (.dat (aY a ss)),some (.dat (.int first)),some (.dat (.int last)),some (.own false (.m false b))]:=by simp[u];simp only[o,Option.bind_some];rw[if_pos ⟨by lia,by simpa using Lf T⟩]
 generalize aY a ss=Z at *;simp[-ik,lW,yf,n,cs,k,v]
theorem Lh{l:List PyData}(h:∀d∈l,PyData.canLay0 d=true/\PyData.depth d<=3):SeqAt.shaped (.list l)=true:=by
 have key:∀l:List PyData,(∀d∈l,PyData.canLay0 d=true/\PyData.depth d<=3)->PyData.canLayAll0 l=true/\PyData.depthAll l<=3:=fun l=>by
  induction l with
  | nil=>intro _;exact⟨rfl,Nat.zero_le _⟩
  | cons d r b=>intro h;obtain⟨a,h2⟩:=b fun x c=>h x (bh _ c);obtain⟨e,f⟩:=h d List.mem_cons_self;refine⟨by simp[PyData.canLayAll0,a,e],?_⟩;simp only[PyData.depthAll];lia
 obtain⟨a,h2⟩:=key l h;unfold SeqAt.shaped;rw[show PyData.canLay0 (.list l)=true by simp[PyData.canLay0,a],Bool.true_and,decide_eq_true_eq,PyData.depth];lia
theorem Li{T:List Int}(h:T.length<4000):lG [.list (T.map PyData.int)]=some (.list ((bO (TS.onceI T)).map PyData.int)):=by unfold lG ow;simp[yY,h]
noncomputable def up:Int->Nat->List Int
 | _,0=>[]
 | i,n+1=>i::up (i+1) n
theorem kf:∀(n:Nat) (i m:Int),m∈up i n↔i<=m/\m<i+n
 | 0,i,m=>by simp[up]
 | n+1,i,m=>by rw[up,List.mem_cons,kf n (i+1) m];lia
theorem yZ:∀(n:Nat) (i:Int),(up i n).Pairwise (·<·)
 | 0,_=>.nil
 | n+1,i=>.cons (fun m a=>by have:=(kf n (i+1) m).mp a;lia) (yZ n (i+1))
theorem za:∀(n:Nat) (i:Int),(up i n).length=n
 | 0,_=>rfl
 | n+1,i=>by rw[up,List.length_cons,za n]
theorem kg:∀(n:Nat) (i:Int),L3.intsFrom i n=(up i n).map PyData.int
 | 0,i=>rfl
 | n+1,i=>by rw[pV,up,List.map_cons,kg n (i+1)]
theorem pX(a:Int)(b:Sh):∀(n:Nat) (i:Int),wl a b i n=(up i n).map (bP a b)
 | 0,_=>rfl
 | n+1,i=>by rw[wl,up,List.map_cons,pX a b n (i+1)]
theorem zb{a g:Int}{b:Sh}(c:eV 0 b)(n:Nat):(bx g (ak 0 a b)).filter (fun m=>decide (m<(n:Int)))=(up 0 n).filter fun m=>decide (bP a b m=g):=by obtain⟨d,h2⟩:=sK g b 0 a c;refine xI (h2.filter _) ((yZ n 0).filter _) fun m=>?_;rw[List.mem_filter,List.mem_filter,d m,kf];simp only[decide_eq_true_eq];lia
theorem zc{a g:Int}{b:Sh}(n:Nat):(wl a b 0 n).count g=((up 0 n).filter fun m=>decide (bP a b m=g)).length:=by
 rw[pX,List.count,List.countP_map,List.countP_eq_length_filter]
 congr 1
theorem Lj{a g:Int}{b:Sh}(c:eV 0 b)(n:Nat):(wl a b 0 n).count g<=(bx g (ak 0 a b)).length:=by rw[zc,<-zb c];exact List.length_filter_le _ _
theorem zd(x:Int)(f:Int->Nat):∀L:List Int,L.Nodup->x∈L->(L.map fun t=>f t+if x=t then 1 else 0).sum=(L.map f).sum+1
 | [],_,h=>by cases h
 | t::L,nd,h=>by
  obtain⟨a,b⟩:=List.nodup_cons.mp nd
  by_cases c:x=t
  .subst c;have e:(L.map fun t=>f t+if x=t then 1 else 0)=L.map f:=List.map_congr_left fun t d=>by rw[if_neg (fun z:x=t=>a (z▸d)),Nat.add_zero]
   simp only[List.map_cons,List.sum_cons,e,if_true];lia
  .have g:x∈L:=by
    rcases List.mem_cons.mp h with z | z
    .exact absurd z c
    .exact z
   have i:=zd x f L b g;simp only[List.map_cons,List.sum_cons,i,if_neg c];lia
theorem iy:∀L:List Int,(L.map fun _=>0).sum=0
 | []=>rfl
 | x::L=>by rw[List.map_cons,List.sum_cons,iy L]
theorem ze:∀(T L:List Int),L.Nodup->(∀t∈T,t∈L)->(L.map fun t=>T.count t).sum=T.length
 | [],L,_,_=>by
  have:(L.map fun t=>([]:List Int).count t)=L.map fun _=>0:=List.map_congr_left fun _ _=>by simp
  rw[this];exact iy L
 | x::T,L,nd,h=>by
  have e:(L.map fun t=>(x::T).count t)=L.map fun t=>T.count t+if x=t then 1 else 0:=List.map_congr_left fun t _=>by
   rw[List.count_cons]
   by_cases c:x=t
   .subst c;simp
   .simp[c]
  rw[e,zd x _ L nd (h x (.head _)),ze T L nd fun t a=>h t (.tail _ a)];rfl
theorem Lk{Y:List Int}(h:Y.Nodup)(k:Int):(TS.addI Y k).Nodup:=by
 unfold TS.addI;split
 .exact h
 .rename_i c;rw[List.nodup_append];exact⟨h,by simp,fun a e b d=>by simp at d;subst d;exact fun z=>c (z▸e)⟩
theorem zf:∀(T Y:List Int),Y.Nodup->(T.foldl TS.addI Y).Nodup
 | [],Y,h=>h
 | k::T,Y,h=>zf T _ (Lk h k)
theorem Ll(T:List Int):(TS.onceI T).Nodup:=zf T [] .nil
theorem zg(T:List Int):∀L:List Int,(∀t∈L,t∈T)->((L.filter fun t=>decide ((T.count t:Int)>1)).map fun t=>T.count t - 1).sum+L.length=(L.map fun t=>T.count t).sum
 | [],_=>rfl
 | t::L,h=>by
  have b:=zg T L fun x a=>h x (.tail _ a);have pos:0<T.count t:=List.count_pos_iff.mpr (h t (.head _));rw[List.filter_cons]
  by_cases c:(T.count t:Int)>1
  .rw[if_pos (by simpa using c)];simp only[List.map_cons,List.sum_cons,List.length_cons];lia
  .rw[if_neg (by simpa using c)];simp only[List.map_cons,List.sum_cons,List.length_cons];lia
theorem Lm(T:List Int):(((bO (TS.onceI T)).filter fun t=>decide ((T.count t:Int)>1)).map fun t=>T.count t - 1).sum+(TS.onceI T).length=T.length:=by have pm:(bO (TS.onceI T)).Perm (TS.onceI T):=List.mergeSort_perm _ _;have h:=zg T (bO (TS.onceI T)) fun t a=>(eW t T).mp (pm.mem_iff.mp a);rw[pW,ze T _ (pm.nodup_iff.mpr (Ll T)) fun t a=>pm.mem_iff.mpr ((eW t T).mpr a)] at h;exact h
noncomputable def dm(t:Int):List Int:=[t / 24,t % 24]
theorem Ln{s t:Int}(h:dm s=dm t):s=t:=by unfold dm at h;simp only[List.cons.injEq,and_true] at h;lia
theorem Lo(Y:List Int)(k:Int):TS.addL (Y.map dm) (dm k)=(TS.addI Y k).map dm:=by
 unfold TS.addL TS.addI
 by_cases h:k∈Y
 .rw[if_pos h,if_pos (List.mem_map.mpr ⟨k,h,rfl⟩)]
 .rw[if_neg h,if_neg fun z=>by
   obtain⟨x,a,e⟩:=List.mem_map.mp z;exact h (Ln e▸a)]
  rw[List.map_append];rfl
theorem zh:∀(T Y:List Int),(T.map dm).foldl TS.addL (Y.map dm)=(T.foldl TS.addI Y).map dm
 | [],Y=>rfl
 | k::T,Y=>by rw[List.map_cons,List.foldl_cons,List.foldl_cons,Lo,zh T]
theorem Lp(T:List Int):(TS.onceL (T.map dm)).length=(TS.onceI T).length:=by have:=zh T [];unfold TS.onceL TS.onceI;rw[show([]:List (List Int))=([]:List Int).map dm from rfl,this,List.length_map]
noncomputable def je(T:List Int)(d:Int):Nat->Nat
 | 0=>0
 | k+1=>je T d k+T.count (d * 24+k)
theorem zi(d:Int):∀(k:Nat) (T:List Int),je T d k=T.countP fun t=>decide (d * 24<=t/\t<d * 24+k)
 | 0,T=>by rw[je,eq_comm,List.countP_eq_zero];intro t _;simp
 | k+1,T=>by
  rw[je,zi d k T,List.count]
  induction T with
  | nil=>rfl
  | cons x T a=>
   simp only[List.countP_cons];have:(if decide (d * 24<=x/\x<d * 24+(k:Int))=true then 1 else 0)+(if (x==d * 24+(k:Int))=true then 1 else 0)=if decide (d * 24<=x/\x<d * 24+((k+1:Nat):Int))=true then 1 else 0:=by simp only[decide_eq_true_eq,beq_iff_eq];split<;>split<;>split<;>lia
   lia
theorem Lq(T:List Int)(d:Int):je T d 24=T.countP fun t=>decide (t / 24=d):=by rw[zi];apply List.countP_congr;intro t _;simp only[decide_eq_true_eq];lia
noncomputable def fS(a:Int)(b:Sh)(d:Int):Nat->Nat
 | 0=>0
 | k+1=>fS a b d k+(bx (d * 24+k) (ak 0 a b)).length
theorem zj{a:Int}{b:Sh}(c:eV 0 b)(n:Nat)(d:Int):∀k:Nat,je (wl a b 0 n) d k<=fS a b d k
 | 0=>aE _
 | k+1=>by have h1:=zj (a:=a) c n d k;have h2:=Lj (a:=a) (g:=d * 24+k) c n;simp only[je,fS];lia
noncomputable def dO(a:Int)(b:Sh)(g last:Int):List Int:=(bx g (ak 0 a b)).filter fun m=>decide (m<=last)
noncomputable def zk(last:Int)(d:PyData):Bool:=match d with
 | .int m=>decide (m<=last)
 | _=>false
theorem zl{a g:Int}{ss:Sh}:(bx g (ak 0 a ss)).length<=ss.length+1:=by
 unfold bx;rw[List.length_map];refine Nat.le_trans (List.length_filter_le _ _) ?_;have:∀(ss:Sh) (s a:Int),(ak s a ss).length=ss.length+1:=by
  intro ss
  induction ss with
  | nil=>intro s a;rfl
  | cons p ss b=>intro s a;simp[ak,b]
 rw[this];exact aE _
theorem jf{α:Type}{p:PyData->Bool}{q:α->Bool}{f:α->PyData}(h:∀x,p (f x)=q x):∀l:List α,(l.map f).filter p=(l.filter q).map f
 | []=>rfl
 | x::l=>by
  rw[List.map_cons,List.filter_cons,List.filter_cons,h x];split
  .rw[List.map_cons,jf h l]
  .exact jf h l
theorem zm{l:List Int}{last:Int}(c:l.length<=1000):bJ (al 0) kc gl (l.map PyData.int) [] [none,some (.dat (.int last))]=some ((l.filter fun m=>decide (m<=last)).map PyData.int):=by
 have sz:1000000<sizeLine:=by decide
 have:=jd (t:=kc) (e:=gl) (g:=al 0) (p:=zk last) (f:=id) (P:=fun U=>∃x,U=[x,some (.dat (.int last))]) (its:=l.map PyData.int) (ys:=[]) (U:=[none,some (.dat (.int last))]) ⟨none,rfl⟩ (fun d a U b=>by
  obtain⟨x,rfl⟩:=b;obtain⟨t,_,rfl⟩:=List.mem_map.mp a;exact⟨[some (.dat (.int t)),some (.dat (.int last))],[some (.dat (.int t)),some (.dat (.int last))],[some (.dat (.int t)),some (.dat (.int last))],rfl,by simp[kc,zk],⟨_,rfl⟩,fun _=>⟨by simp[gl],⟨_,rfl⟩⟩⟩) (by simp;lia)
 rw[this,List.nil_append,jf (q:=fun m=>decide (m<=last)) (fun x=>rfl),List.map_id]
theorem Lr(t:Int):t / 24 * 24+t % 24=t:=by lia
section
variable{a:Int}{ss:Sh}{last:Int}{x0 x1 x6 x7 x8 x9 x10:Option af}
noncomputable abbrev aT(Z:PyData)(last:Int)(x0 x1 b c x6 x7 x8 x9 x10:Option af):ag:=[x0,x1,some (.dat Z),some (.dat (.int last)),b,c,x6,x7,x8,x9,x10]
theorem zn(z:ef a ss){t:Int}(b:-24<=t)(c:t<=9000):kb [.dat (aY a ss),.dat (.int (t / 24)),.dat (.int (t % 24))]=.rt (.own false (.l ((bx t (ak 0 a ss)).map .int))) []:=by have:=KP z (d:=t / 24) (h:=t % 24) (by lia) (by lia) (by lia) (by lia);rw[Lr] at this;exact this
theorem Ls(z:ef a ss){t:Int}(f:-24<=t)(i:t<=9000)(b:dO a ss t last=[]):oW (aT (aY a ss) last x0 x1 (some (.dat (.int (t / 24)))) (some (.dat (.int (t % 24)))) x6 x7 x8 x9 x10)=.nx (aT (aY a ss) last x0 x1 (some (.dat (.int (t / 24)))) (some (.dat (.int (t % 24)))) x6 x7 x8 x9 x10):=by
 have sz:1000000<sizeLine:=by decide
 have e:=zn z f i;have j:=zl (a:=a) (g:=t) (ss:=ss);have k:=z.1;have c:=zm (l:=bx t (ak 0 a ss)) (last:=last) (by lia);unfold dO at b;rw[b] at c;simp only[aT];generalize t / 24=d at *;generalize t % 24=h at *;generalize bx t (ak 0 a ss)=L at *;generalize aY a ss=Z at *;have ne:=pT (d:=.list []) rfl;simp[oW,e,c,ne]
theorem zo(z:ef a ss):∀(L:List Int) (b c:Option af),(∀t∈L,-24<=t/\t<=9000/\dO a ss t last=[])->∃d e,cm (ck 2 (bj (al 4) (bj (al 5) cj))) oW (L.map fun t=>PyData.tuple [.int (t / 24),.int (t % 24)]) (aT (aY a ss) last x0 x1 b c x6 x7 x8 x9 x10)=.nx (aT (aY a ss) last x0 x1 d e x6 x7 x8 x9 x10)
 | [],b,c,_=>⟨b,c,by simp[cm]⟩
 | t::L,b,c,h=>by obtain⟨i,h2,h3⟩:=h t (.head _);have st:=Ls (x0:=x0) (x1:=x1) (x6:=x6) (x7:=x7) (x8:=x8) (x9:=x9) (x10:=x10) z i h2 h3;obtain⟨d,e,f⟩:=zo z L (some (.dat (.int (t / 24)))) (some (.dat (.int (t % 24)))) fun x g=>h x (.tail _ g);refine⟨d,e,?_⟩;rw[List.map_cons,cm,<-f];simp only[aT] at st ⊢;simp[ck,bj,cj,al,st]
theorem Lu(z:ef a ss){l:List Int}{t:Int}(o:l.length<=1000)(h:∀m∈l,0<=m/\m<=9999/\bP a ss m=t):bJ (al 0) dg iq (l.map PyData.int) [] [none,some (.dat (aY a ss))]=some (List.replicate l.length (.tuple [.int (t / 24),.int (t % 24)])):=by
 have sz:1000000<sizeLine:=by decide
 have:=jc (e:=iq) (g:=al 0) (f:=fun _=>.tuple [.int (t / 24),.int (t % 24)]) (P:=fun U=>∃x,U=[x,some (.dat (aY a ss))]) (its:=l.map PyData.int) (ys:=[]) (U:=[none,some (.dat (aY a ss))]) ⟨none,rfl⟩ (fun d b U i=>by
  obtain⟨x,rfl⟩:=i;obtain⟨m,c,rfl⟩:=List.mem_map.mp b;obtain⟨j,k,n⟩:=h m c;have w:=yM z j k;rw[n] at w;generalize aY a ss=Z at *;exact⟨[some (.dat (.int m)),some (.dat Z)],[some (.dat (.int m)),some (.dat Z)],rfl,by simp[iq,w],⟨_,rfl⟩⟩) (by simp;lia)
 rw[this,List.nil_append,List.map_map]
 congr 1
 exact List.map_const' ..
theorem iz{α:Type}(x:α):∀n:Nat,(List.replicate n [x]).flatten=List.replicate n x
 | 0=>rfl
 | n+1=>by rw[List.replicate_succ,List.flatten_cons,iz x n];rfl
theorem Lv{p:PyData}{n:Nat}(h:n<=1000):jF (.list [p]) (.int n)=some (.list (List.replicate n p)):=by
 have sz:1000000<sizeLine:=by decide
 unfold jF;dsimp only;rw[if_pos (by simp;lia)];rw[show(n:Int).toNat=n by lia,iz]
theorem Lw{t:Int}(n:Nat):SeqAt.shaped (.list (List.replicate n (.tuple [.int (t / 24),.int (t % 24)])))=true:=Lh fun d hd=>by rw[List.eq_of_mem_replicate hd];exact⟨rfl,by simp[PyData.depth,PyData.depthAll]⟩
theorem Lx{nl:List PyData->Option PyData}{f ge b:PyData->PyData->Option PyData}{g:FM}{h:XM Bool}{i j:XM PyData}{Z P N D H l:PyData}{M R L:List PyData}{k m:Option af}(n:g [.dat Z,.dat D,.dat H]=.rt (.own false (.l L)) [])(o:bJ (al 0) h i L [] [none,some (.dat l)]=some M)(p:bJ (al 0) dg j M [] [none,some (.dat Z)]=some R)
  (q:f (.list [P]) N=some (.list R)) (u:ge (.list R) (.list R)=some (.bool false)) (r:ge N N=some (.bool false)) (c:nl [.list M]=some N) (s:M.length<=sizeLine) (t:R.length<=sizeLine) (v:(1:Nat)<=sizeLine) (d:b P (.int 0)=some D) (e:b P (.int 1)=some H) :
  (aU (bY (df 1 [3] (dt (bE (aW g (aq (xV 2) (aq (ao b (xV 6) (xC (.int 0))) (aq (ao b (xV 6) (xC (.int 1))) ba)))))) (al 0) h i) (al 8))
   (da (kP (bB (ao ge (cJ nl (aN (xV 8) bn)) (xV 7))) (bB (ao ge (df 1 [2] (dt (xV 8)) (al 0) dg j) (ao f (gH (aN (xV 6) bn)) (xV 7))))) (ca (xC (.bool false))) cZ)) [x0,x1,some (.dat Z),some (.dat l),k,m,some (.dat P),some (.dat N),x8,x9,x10] =
   .nx [x0,x1,some (.dat Z),some (.dat l),k,m,some (.dat P),some (.dat N),some (.dat (.list M)),x9,x10]:=by
 simp[n,o,p,q,u,r,c,s,t,v,d,e]
theorem Ly(z:ef a ss){t:Int}{n:Nat}{x4 x5:Option af}(v:-24<=t)(w:t<=9000)(x:last<=9000)(c:(dO a ss t last).length=n):oX (aT (aY a ss) last x0 x1 x4 x5 (some (.dat (.tuple [.int (t / 24),.int (t % 24)]))) (some (.dat (.int n))) x8 x9 x10) =
  .nx (aT (aY a ss) last x0 x1 x4 x5 (some (.dat (.tuple [.int (t / 24),.int (t % 24)]))) (some (.dat (.int n))) (some (.dat (.list ((dO a ss t last).map PyData.int)))) x9 x10):=by
 have sz:1000000<sizeLine:=by decide
 have f:=zn z v w;have y:=zl (a:=a) (g:=t) (ss:=ss);have A:=z.1;have h:=zm (l:=bx t (ak 0 a ss)) (last:=last) (by lia);have i:(dO a ss t last).length<=1000:=by have:=List.length_filter_le (fun m=>decide (m<=last)) (bx t (ak 0 a ss));unfold dO;lia
 have j:=sK t ss 0 a z.2;have e:=Lu z (l:=dO a ss t last) (t:=t) i fun m k=>by obtain⟨o,q⟩:=List.mem_filter.mp k;have:=(j.1 m).mp o;simp only[decide_eq_true_eq] at q;lia
 have b:bJ (al 0) kc gl ((bx t (ak 0 a ss)).map PyData.int) [] [none,some (.dat (.int last))]=some ((dO a ss t last).map PyData.int):=h;have r:=Lv (p:=.tuple [.int (t / 24),.int (t % 24)]) (n:=n) (by lia);have ns:=pT (Lw (t:=t) n);have s:=pT (d:=.int n) rfl;rw[c] at e;have len:((dO a ss t last).map PyData.int).length=n:=by rw[List.length_map,c]
 have nl:ea [.list ((dO a ss t last).map PyData.int)]=some (.int n):=by simp[ea,len]
 have B:n<=1000:=by lia
 have u:(List.replicate n (PyData.tuple [.int (t / 24),.int (t % 24)])).length<=sizeLine:=by rw[List.length_replicate];lia
 have l1:(1:Nat)<=sizeLine:=by lia
 unfold oX;exact Lx f b e r ns s nl (by lia) u l1 rfl rfl
end
noncomputable def dq(t:Int):PyData:=.tuple [.int (t / 24),.int (t % 24)]
noncomputable def oT(c:Int->Nat)(t:Int):PyData:=.tuple [dq t,.int (c t)]
section
variable{a:Int}{ss:Sh}{last:Int}{x0 x1 x4 x5 x9 x10:Option af}
theorem zp(z:ef a ss)(j:last<=9000)(c:Int->Nat):∀(L:List Int) (d e b:Option af),(∀t∈L,-24<=t/\t<=9000/\(dO a ss t last).length=c t)->∃f g i,cm (ck 2 (bj (al 6) (bj (al 7) cj))) oX (L.map (oT c)) (aT (aY a ss) last x0 x1 x4 x5 d e b x9 x10)=.nx (aT (aY a ss) last x0 x1 x4 x5 f g i x9 x10)
 | [],d,e,b,_=>⟨d,e,b,by simp[cm]⟩
 | t::L,d,e,b,h=>by obtain⟨m,h2,h3⟩:=h t (.head _);have st:=Ly (x0:=x0) (x1:=x1) (x4:=x4) (x5:=x5) (x8:=b) (x9:=x9) (x10:=x10) z m h2 j h3;obtain⟨f,g,i,k⟩:=zp z j c L (some (.dat (dq t))) (some (.dat (.int (c t)))) (some (.dat (.list ((dO a ss t last).map PyData.int)))) fun x l=>h x (.tail _ l);refine⟨f,g,i,?_⟩;rw[List.map_cons,cm,<-k];unfold oT dq;simp only[aT] at st ⊢;generalize c t=N at *;simp[ck,bj,cj,al,st]
end
theorem Lz(T:List Int):ix T=((bO (TS.onceI T)).filter fun t=>decide ((T.count t:Int)>1)).map (oT fun t=>T.count t):=by unfold ix;rw[jf (q:=fun t=>decide ((T.count t:Int)>1)) (fun t=>rfl),List.map_map];rfl
theorem LA(T:List Int)(m M:Int):iw T m M=((up m (M - m).toNat).filter fun t=>!decide (t∈T)).map dq:=by unfold iw;rw[kg,jf (q:=fun t=>!decide (t∈T)) (fun t=>rfl),List.map_map];rfl
theorem LB{a:Int}{b:Sh}(z:ef a b)(n:Nat)(j:n<=9000):bJ (al 0) dg iq (L3.intsFrom 0 n) [] [none,some (.dat (aY a b))]=some ((wl a b 0 n).map dq):=by
 have sz:1000000<sizeLine:=by decide
 have:=jc (e:=iq) (g:=al 0) (f:=fun d=>match d with | .int m=>dq (bP a b m) | _=>d) (P:=fun U=>∃x,U=[x,some (.dat (aY a b))]) (its:=L3.intsFrom 0 n) (ys:=[]) (U:=[none,some (.dat (aY a b))]) ⟨none,rfl⟩ (fun d c U i=>by
  obtain⟨x,rfl⟩:=i;rw[kg] at c;obtain⟨m,h,rfl⟩:=List.mem_map.mp c;have k:=(kf n 0 m).mp h;have w:=yM z (m:=m) (by lia) (by lia);generalize aY a b=Z at *;exact⟨[some (.dat (.int m)),some (.dat Z)],[some (.dat (.int m)),some (.dat Z)],rfl,by simp[iq,w,dq],⟨_,rfl⟩⟩) (by rw[mi];simp;lia)
 rw[this,List.nil_append,kg,List.map_map,pX,List.map_map];rfl
theorem LC(c:Int->Nat)(L:List Int)(h:L.length<=9000):bJ (ck 2 (bj (al 0) (bj (al 1) cj))) dg oY (L.map (oT c)) [] [none,none]=some ((L.map fun t=>(c t:Int) - 1).map PyData.int):=by
 have sz:1000000<sizeLine:=by decide
 have:=jc (e:=oY) (g:=ck 2 (bj (al 0) (bj (al 1) cj))) (f:=fun d=>match d with | .tuple [_,.int n]=>.int (n - 1) | _=>d) (P:=fun U=>∃x y,U=[x,y]) (its:=L.map (oT c)) (ys:=[]) (U:=[none,none]) ⟨none,none,rfl⟩ (fun d a U b=>by
  obtain⟨x,y,rfl⟩:=b;obtain⟨t,_,rfl⟩:=List.mem_map.mp a;unfold oT;generalize dq t=D;generalize (c t:Int)=N;exact⟨[some (.dat D),some (.dat (.int N))],[some (.dat D),some (.dat (.int N))],by simp[ck,bj,cj,al],by simp[oY],⟨_,_,rfl⟩⟩) (by simp;lia)
 rw[this,List.nil_append,List.map_map,List.map_map];rfl
theorem zq:∀T:List Int,iS (T.map dq)=some (T.map dm)
 | []=>rfl
 | t::T=>by rw[List.map_cons,List.map_cons];unfold dq;rw[iS];have:=zq T;unfold dq at this;simp only[this,fm,Option.map_some];rfl
theorem LD{T:List Int}(h:T.length<=300):lK [.list (T.map dq)]=some (.int (TS.onceI T).length):=by unfold lK oC;dsimp only;rw[zq];simp only[Option.bind_some,List.length_map];rw[if_pos h,Option.map_some,Lp]
noncomputable def zr(d:PyData):Bool:=match d with
 | .tuple [.int x,_]=>decide (x≥0)
 | _=>false
noncomputable def zt(d:PyData):PyData:=match d with
 | .tuple [x,_]=>x
 | _=>d
noncomputable def cq(T:List Int):List Int:=(T.filter fun t=>decide (t / 24≥0)).map fun t=>t / 24
theorem LF(T:List Int)(c:T.length<=9000):bJ (ck 2 (bj (al 0) (bj (al 1) cj))) oZ gl (T.map dq) [] [none,none]=some ((cq T).map PyData.int):=by
 have sz:1000000<sizeLine:=by decide
 have:=jd (t:=oZ) (e:=gl) (g:=ck 2 (bj (al 0) (bj (al 1) cj))) (p:=zr) (f:=zt) (P:=fun U=>∃x y,U=[x,y]) (its:=T.map dq) (ys:=[]) (U:=[none,none]) ⟨none,none,rfl⟩ (fun d a U b=>by
  obtain⟨x,y,rfl⟩:=b;obtain⟨t,_,rfl⟩:=List.mem_map.mp a;unfold dq;generalize t / 24=D;generalize t % 24=H;exact⟨[some (.dat (.int D)),some (.dat (.int H))],[some (.dat (.int D)),some (.dat (.int H))],[some (.dat (.int D)),some (.dat (.int H))],by simp[ck,bj,cj,al],by simp[oZ,zr],⟨_,_,rfl⟩,fun _=>⟨by simp[gl,zt],⟨_,_,rfl⟩⟩⟩) (by simp;lia)
 rw[this,List.nil_append,jf (q:=fun t=>decide (t / 24≥0)) (fun t=>rfl),List.map_map];unfold cq;rw[List.map_map];rfl
noncomputable def zu(g:Int)(d:PyData):Bool:=match d with
 | .tuple [.int x,_]=>decide (x=g)
 | _=>false
theorem LG{g:Int}{a:PyData}(c:cy a (.int 0)=some (.int g))(T:List Int)(i:T.length<=9000):bJ (ck 2 (bj (al 0) (bj (al 1) cj))) pc pd (T.map dq) [] [none,none,some (.dat a)]=some ((T.filter fun t=>decide (t / 24=g)).map fun _=>.int 1):=by
 have sz:1000000<sizeLine:=by decide
 have:=jd (t:=pc) (e:=pd) (g:=ck 2 (bj (al 0) (bj (al 1) cj))) (p:=zu g) (f:=fun _=>.int 1) (P:=fun U=>∃x y,U=[x,y,some (.dat a)]) (its:=T.map dq) (ys:=[]) (U:=[none,none,some (.dat a)]) ⟨none,none,rfl⟩ (fun d b U h=>by
  obtain⟨x,y,rfl⟩:=h;obtain⟨t,_,rfl⟩:=List.mem_map.mp b;unfold dq;generalize t / 24=D;generalize t % 24=H;refine⟨[some (.dat (.int D)),some (.dat (.int H)),some (.dat a)],[some (.dat (.int D)),some (.dat (.int H)),some (.dat a)],[some (.dat (.int D)),some (.dat (.int H)),some (.dat a)],by simp[ck,bj,cj,al],?_,⟨_,_,rfl⟩,fun _=>⟨by simp[pd],⟨_,_,rfl⟩⟩⟩;simp[-cy,pc,zu,c,KN]) (by simp;lia)
 rw[this,List.nil_append,jf (q:=fun t=>decide (t / 24=g)) (fun t=>rfl),List.map_map];rfl
theorem LH(a:Int)(b:Sh)(d:Int):∀k:Nat,((up 0 k).map fun h=>((bx (d * 24+h) (ak 0 a b)).length:Int)).sum=(fS a b d k:Int):=by
 intro k;have key:∀k i:Nat,((up i k).map fun h=>((bx (d * 24+h) (ak 0 a b)).length:Int)).sum+(fS a b d i:Int)=(fS a b d (i+k):Int):=by
  intro k
  induction k with
  | zero=>intro i;simp[up]
  | succ k c=>intro i;have:=c (i+1);rw[up,List.map_cons,List.sum_cons];rw[show((i+1:Nat):Int)=(i:Int)+1 by lia] at this;rw[show i+(k+1)=i+1+k by lia,<-this,fS];lia
 have:=key k 0;simp only[fS,Nat.zero_add] at this;simpa using this
theorem LI{a d:Int}{ss:Sh}(c:ss.length<=6):bJ (al 0) dg oU (L3.intsFrom 0 24) [] [none,some (.dat (aY a ss)),some (.dat (.int d))]=some (((up 0 24).map fun h=>((bx (d * 24+h) (ak 0 a ss)).length:Int)).map PyData.int):=by
 have sz:1000000<sizeLine:=by decide
 have:=jc (e:=oU) (g:=al 0) (f:=fun x=>match x with | .int h=>.int ((bx (d * 24+h) (ak 0 a ss)).length:Int) | _=>x) (P:=fun U=>∃x,U=[x,some (.dat (aY a ss)),some (.dat (.int d))]) (its:=L3.intsFrom 0 24) (ys:=[]) (U:=[none,some (.dat (aY a ss)),some (.dat (.int d))]) ⟨none,rfl⟩ (fun x b U k=>by
  obtain⟨y,rfl⟩:=k;rw[kg] at b;obtain⟨h,_,rfl⟩:=List.mem_map.mp b;have l:=yJ (a:=a) (g:=d * 24+h) (ss:=ss) c;have nl:ea [.list ((bx (d * 24+h) (ak 0 a ss)).map PyData.int)]=some (.int ((bx (d * 24+h) (ak 0 a ss)).length:Int)):=by simp[ea]
  generalize m:((bx (d * 24+h) (ak 0 a ss)).length:Int)=N at nl;generalize (bx (d * 24+h) (ak 0 a ss)).map PyData.int=L at *;generalize aY a ss=Z at *;exact⟨[some (.dat (.int h)),some (.dat Z),some (.dat (.int d))],[some (.dat (.int h)),some (.dat Z),some (.dat (.int d))],rfl,by simp[-ea,oU,l,nl,KR (i:=d) (j:=24) (by lia) (by lia)];exact m.symm,⟨_,rfl⟩⟩) (by rw[mi];simp;lia)
 rw[this,List.nil_append,kg,List.map_map,List.map_map];rfl
theorem LJ{a d:Int}{b:Sh}(z:ef a b)(j:0<=d)(k:d<=400):oV [.dat (aY a b),.dat (.int d)]=.rt (.dat (.int (fS a b d 24:Int))) []:=by
 have sz:1000000<sizeLine:=by decide
 have e:=mf z;have c:=ke (d:=.int d) (lo:=0) (hi:=400) rfl;have f:eh (.int d) 0 400=true:=by simp[eh];lia
 rw[f] at c;have cl:=LI (a:=a) (d:=d) (ss:=b) z.1;have g:dc [.int 24]=some (L3.intsFrom 0 24):=rfl;have i:ie [.list (((up 0 24).map fun h=>((bx (d * 24+h) (ak 0 a b)).length:Int)).map PyData.int)]=some (.int (fS a b d 24:Int)):=by unfold ie;dsimp only;rw[jJ,Option.map_some,LH]
 have ll:(((up 0 24).map fun h=>((bx (d * 24+h) (ak 0 a b)).length:Int)).map PyData.int).length<=sizeLine:=by rw[List.length_map,List.length_map,za];lia
 generalize ((up 0 24).map fun h=>((bx (d * 24+h) (ak 0 a b)).length:Int)).map PyData.int=L at *;generalize (fS a b d 24:Int)=N at *;generalize aY a b=Z at *;simp[-dc,oV,yg,e,c,cl,g,i,ll]
theorem zv{a t:Int}{b:Sh}(c:eV 0 b)(n:Nat){last:Int}(d:last+1=n):(dO a b t last).length=(wl a b 0 n).count t:=by
 rw[zc,<-zb c];unfold dO
 congr 1
 apply List.filter_congr;intro m _;rw[decide_eq_decide];lia
theorem LL{a t:Int}{b:Sh}(c:eV 0 b)(n:Nat){last:Int}(d:last+1=n)(h:t∉wl a b 0 n):dO a b t last=[]:=by have:=zv (a:=a) (t:=t) c n d;rw[List.count_eq_zero.mpr h] at this;exact List.eq_nil_of_length_eq_zero this
theorem zw(f:Int->Nat):∀L:List Int,(∀t∈L,0<f t)->(L.map fun t=>(f t:Int) - 1).sum=((L.map fun t=>f t - 1).sum:Nat)
 | [],_=>rfl
 | t::L,h=>by have:=zw f L fun x a=>h x (.tail _ a);have b:=h t (.head _);simp only[List.map_cons,List.sum_cons,this];lia
theorem LM{T:List Int}(h:cq T≠[]):∃g r,bO (TS.onceI (cq T))=g::r/\g∈cq T:=by
 have pm:(bO (TS.onceI (cq T))).Perm (TS.onceI (cq T)):=List.mergeSort_perm _ _;cases e:bO (TS.onceI (cq T)) with
 | nil=>rw[e] at pm;obtain⟨x,a⟩:=List.exists_mem_of_ne_nil _ h;have:=pm.symm.mem_iff.mp ((eW x _).mpr a);cases this
 | cons g r=>refine⟨g,r,rfl,(eW g _).mp (pm.mem_iff.mp ?_)⟩;rw[e];exact .head _
theorem jg{nl:List PyData->Option PyData}{Z S:PyData}{last c s:Int}{b f g i j k a:Option af}(h:nl [S]=some (.int c))(e:c+s=last+1):(da (bB (ao (aO true) (ao di (cJ nl (aN (xV 8) bn)) (xV 9)) (ao di (xV 3) (xC (.int 1))))) (ca (xC (.bool false))) cZ) (aT Z last b f g i j k (some (.dat S)) (some (.dat (.int s))) a)=.nx (aT Z last b f g i j k (some (.dat S)) (some (.dat (.int s))) a):=by have l:=pT (d:=.int (last+1)) rfl;simp only[aT];simp[h,e,l]
theorem jh{nl:List PyData->Option PyData}{d:PyData->PyData->Option PyData}{e:FM}{f:XM Bool}{h:XM PyData}{Z a:PyData}{b c:List PyData}{g u v last:Int}{i j k l m n o:Option af}(p:d a (.int 0)=some (.int g))(q:e [.dat Z,.dat (.int g)]=.rt (.dat (.int u)) [])(r:bJ (ck 2 (bj (al 0) (bj (al 1) cj))) f h b [] [none,none,some (.dat a)]=some c)(s:c.length<=sizeLine)(t:nl [.list c]=some (.int v))(le:v<=u) :
  IsT ((ca (ao kZ (bE (aW e (aq (xV 2) (aq (ao d (xV 10) (xC (.int 0))) ba)))) (cJ nl (aN (df 2 [10] (dt (xV 8)) (ck 2 (bj (al 0) (bj (al 1) cj))) f h) bn)))) (aT Z last i j k l m n (some (.dat (.list b))) o (some (.dat a)))):=by
 simp only[aT];refine⟨i,[j,some (.dat Z),some (.dat (.int last)),k,l,m,n,some (.dat (.list b)),o,some (.dat a)],?_⟩;simp[p,q,r,s,t,le]
section
variable{Z:PyData}{last:Int}{x0 x1 x4 x5 x6 x7 x8 x9 x10:Option af}
theorem zx{f:FM}{b:SM}{g:GM}{L:List PyData}{a:ag}(h:f [.dat Z,.dat (.int 0),.dat (.int last)]=.rt (.dat (.list L)) [])(q:cm g b L (aT Z last x0 x1 x4 x5 x6 x7 x8 x9 x10)=.nx a):(gM (dt (bE (aW f (aq (xV 2) (aq (xC (.int 0)) (aq (xV 3) ba)))))) g b) (aT Z last x0 x1 x4 x5 x6 x7 x8 x9 x10)=.nx a:=by simp only[aT] at q ⊢;simp[h,q]
theorem ji{a:List PyData->Option (List PyData)}{b:XM PyData}{L W:List PyData}(r:a [.int (last+1)]=some L)(c:bJ (al 0) dg b L [] [none,some (.dat Z)]=some W)(d:W.length<=sizeLine):(bY (df 1 [2] (gO a (aN (ao di (xV 3) (xC (.int 1))) bn)) (al 0) dg b) (al 8)) (aT Z last x0 x1 x4 x5 x6 x7 x8 x9 x10)=.nx (aT Z last x0 x1 x4 x5 x6 x7 (some (.dat (.list W))) x9 x10):=by simp only[aT];simp[r,c,d]
theorem jj{nl:List PyData->Option PyData}{f:FM}{g:GM}{a:XM PyData}{L W:List PyData}{N:PyData}(h:f [.dat Z,.dat (.int 0),.dat (.int last)]=.rt (.dat (.list L)) [])(b:bJ g dg a L [] [none,none]=some W)(d:W.length<=sizeLine)(c:nl [.list W]=some N):(bY (cJ nl (aN (df 2 [] (dt (bE (aW f (aq (xV 2) (aq (xC (.int 0)) (aq (xV 3) ba)))))) g dg a) bn)) (al 9)) (aT Z last x0 x1 x4 x5 x6 x7 x8 x9 x10)=.nx (aT Z last x0 x1 x4 x5 x6 x7 x8 (some (.dat N)) x10):=by simp only[aT];simp[h,b,d,c]
theorem jk{nl:List PyData->Option PyData}{g:GM}{a:XM Bool}{b:XM PyData}{S W:List PyData}{N:PyData}(c:bJ g a b S [] [none,none]=some W)(e:W.length<=sizeLine)(d:nl [.list W]=some N):(bY (cJ nl (aN (df 2 [] (dt (xV 8)) g a b) bn)) (al 10)) (aT Z last x0 x1 x4 x5 x6 x7 (some (.dat (.list S))) x9 x10)=.nx (aT Z last x0 x1 x4 x5 x6 x7 (some (.dat (.list S))) x9 (some (.dat N))):=by simp only[aT];simp[c,e,d]
end
theorem LN{h:List Int}(J:h.length<=63):yl [.scr h]=.rt (.dat (.bool true)) []:=by
 have sz:1000000<sizeLine:=by decide
 obtain⟨a,b,u,h1,s1,o,v,R,S⟩:=KL (ns:=h) (t:=[]) (wd:=40) J (by simp) (by lia);simp only[List.length_nil] at S;have z:ef a b:=⟨by lia,o,v,fun p U=>by have:=R p U;lia⟩
 obtain⟨d,d1,d2,h2⟩:=pS (ns:=h) (t:=u) (many:=170) J (by lia) (by lia);obtain⟨n,L⟩:∃n:Nat,30+d+1=n:=⟨(30+d+1).toNat,by lia⟩
 have X:n<=200:=by lia
 have Y:31<=n:=by lia
 have N:=sV a b n 0;have tb:=yS v n 0;have w:wl a b 0 n≠[]:=fun q=>by rw[q] at N;simp at N;lia
 have x:(30+d+1 - 0).toNat=n:=by lia
 obtain⟨m,M,mm,Z,M0,q1,q2,q3,q4⟩:=La w;have bm:=tb m Z;have bM:=tb M M0;have y:=Ld z (first:=0) (last:=30+d) ⟨by lia,by lia⟩ (by lia) (by rw[x];exact q1) (by rw[x];exact q2) (by lia);have s:=Lg (a:=a) (ss:=b) z (first:=0) (last:=30+d) ⟨by lia,by lia⟩ (by lia);rw[x] at y s;rw[LA] at y;rw[Lz] at s;have g1:=zo (a:=a) (ss:=b) (last:=30+d) (x0:=some (.scr h)) (x1:=some (.own false (.l (u++[.int 0])))) (x6:=none) (x7:=none) (x8:=none) (x9:=none) (x10:=none) z ((up m (M - m).toNat).filter fun t=>!decide (t∈wl a b 0 n)) none none fun t e=>by
  obtain⟨f,A⟩:=List.mem_filter.mp e;have:=(kf _ _ _).mp f;have i:t∉wl a b 0 n:=by simpa using A
  exact⟨by lia,by lia,LL o n L i⟩
 obtain⟨y4,y5,g1⟩:=g1;have pm:(bO (TS.onceI (wl a b 0 n))).Perm (TS.onceI (wl a b 0 n)):=List.mergeSort_perm _ _;have k:∀t∈(bO (TS.onceI (wl a b 0 n))).filter (fun t=>decide (((wl a b 0 n).count t:Int)>1)),t∈wl a b 0 n:=fun t e=>(eW t _).mp (pm.mem_iff.mp (List.mem_filter.mp e).1);have lL:((bO (TS.onceI (wl a b 0 n))).filter (fun t=>decide (((wl a b 0 n).count t:Int)>1))).length<=9000:=by have f:=List.length_filter_le (fun t=>decide (((wl a b 0 n).count t:Int)>1)) (bO (TS.onceI (wl a b 0 n)));have A:=pW (TS.onceI (wl a b 0 n));have i:=TS.onceI_len (wl a b 0 n);lia
 obtain⟨y6,y7,y8,g2⟩:=zp (a:=a) (ss:=b) (last:=30+d) (x0:=some (.scr h)) (x1:=some (.own false (.l (u++[.int 0])))) (x4:=y4) (x5:=y5) (x9:=none) (x10:=none) z (by lia) (fun t=>(wl a b 0 n).count t) _ none none none fun t e=>by have:=tb t (k t e);exact⟨by lia,by lia,zv o n L⟩
 have cw:=LB z n (by lia);have cs:=LC (fun t=>(wl a b 0 n).count t) _ lL;have sm:=Lm (wl a b 0 n);have fd:=LD (T:=wl a b 0 n) (by lia);have si:=zw (fun t=>(wl a b 0 n).count t) _ fun t e=>List.count_pos_iff.mpr (k t e);have su:ie [.list ((((bO (TS.onceI (wl a b 0 n))).filter (fun t=>decide (((wl a b 0 n).count t:Int)>1))).map fun t=>((wl a b 0 n).count t:Int) - 1).map PyData.int)]=some (.int (((((bO (TS.onceI (wl a b 0 n))).filter (fun t=>decide (((wl a b 0 n).count t:Int)>1))).map fun t=>(wl a b 0 n).count t - 1).sum:Nat):Int)):=by unfold ie;dsimp only;rw[jJ,Option.map_some,si]
 have cd:=LF (wl a b 0 n) (by lia);have dl:(cq (wl a b 0 n)).length<4000:=by have:=List.length_filter_le (fun t:Int=>decide (t / 24≥0)) (wl a b 0 n);unfold cq;rw[List.length_map];lia
 have dn:cq (wl a b 0 n)≠[]:=by
  have f:bP a b 12∈wl a b 0 n:=by rw[pX];exact List.mem_map.mpr ⟨12,(kf _ _ _).mpr ⟨by lia,by lia⟩,rfl⟩
  have A:=sJ (m:=12) v;have i:bP a b 12 / 24∈cq (wl a b 0 n):=List.mem_map.mpr ⟨_,List.mem_filter.mpr ⟨f,by unfold bP;simp;lia⟩,rfl⟩;intro q;rw[q] at i;cases i
 have O:=Li dl;obtain⟨g,r,eg,hg⟩:=LM dn;obtain⟨c,B,rfl⟩:=List.mem_map.mp hg;obtain⟨C,D⟩:=List.mem_filter.mp B;have bt:=tb c C;have E:c / 24≥0:=by simpa using D
 have rl:=LJ z (d:=c / 24) E (by lia);rw[eg] at O;have Q:cy (.list ((c / 24::r).map PyData.int)) (.int 0)=some (.int (c / 24)):=by simp[cy]
 have cc:=LG Q (wl a b 0 n) (by lia);have ge:=zj (a:=a) o n (c / 24) 24;rw[Lq,List.countP_eq_length_filter] at ge;have nc:ea [.list (((wl a b 0 n).filter fun t=>decide (t / 24=c / 24)).map fun _=>PyData.int 1)]=some (.int (((wl a b 0 n).filter fun t=>decide (t / 24=c / 24)).length:Int)):=by simp[ea]
 have lc:(((wl a b 0 n).filter fun t=>decide (t / 24=c / 24)).map fun _=>PyData.int 1).length<=sizeLine:=by have:=List.length_filter_le (fun t:Int=>decide (t / 24=c / 24)) (wl a b 0 n);rw[List.length_map];lia
 have rg:dc [.int (30+d+1)]=some (L3.intsFrom 0 n):=by have f:=KY (j:=30+d+1) (by lia) (by lia);rw[show(30+d+1).toNat=n by lia] at f;exact f
 have G:((wl a b 0 n).map dq).length<=sizeLine:=by rw[List.length_map];lia
 have H:((((bO (TS.onceI (wl a b 0 n))).filter (fun t=>decide (((wl a b 0 n).count t:Int)>1))).map fun t=>((wl a b 0 n).count t:Int) - 1).map PyData.int).length<=sizeLine:=by rw[List.length_map,List.length_map];lia
 have I:((cq (wl a b 0 n)).map PyData.int).length<=sizeLine:=by rw[List.length_map];lia
 refine KW (n:=10) ?_;unfold yk;simp only[List.replicate];refine gV (by simp[yh]<;>rfl) ?_;refine gV (by simp[yi,h1]<;>rfl) ?_;refine gV (by simp[yj,h2]<;>rfl) ?_;refine gV (zx y g1) ?_;refine gV (zx s g2) ?_;refine gV (ji rg cw G) ?_;refine gV (jj s cs H su) ?_;refine gV (jg fd (by lia)) ?_;refine gV (jk cd I O) ?_;exact jh Q rl cc lc nc (by lia)
end K3
namespace K3
open PySem PySem.Spec L2 L2.L3 PyProof.Rows
theorem LO{K:Frag}{mg:Str->Option Value}{f:FM}{e:List V}{H:Hp}{Q:VK}{E:XK}(j:GH mg H)(k:∀c:List Int,c.length<=63->f [.scr c]=.rt (.dat (.bool true)) [])(h:∃a c,e=[.ref a]/\fV K H a c/\∀d,Q (.bl true) d):gE K mg f e H Q E:=by obtain⟨a,c,rfl,g,q⟩:=h;refine⟨j,[.scr c],[[]],[],.oth (fun _ z=>by cases z) (fun _ _ z=>by cases z) ⟨a,rfl,g⟩ .nil,List.nodup_nil,fun b l=>by simp at l,?_⟩;rw[k c g.1];intro v d n i m _ _;rw[show v=.bl true from DV.bl_inv m];exact q d
noncomputable def tf(K:Frag):Sp:=fun b H Q _=>∃a d,b=[.ref a]/\fV K H a d/\∀c,Q (.bl true) c
abbrev LK(K:Frag)(f:Addr)(a:Value)(b:Option Addr)(n q:Str)(s:Stmt)(k d p:Value)(e:Option Addr)(c t:Value)(l:Array (Option Value)):Prop:=K.lookup f=some ⟨a,b,.func (fnOf n q (jn s) (gX s) (dS s) .none k d p e c t),l⟩
abbrev NI(K:Frag)(n:Str)(f:Addr):Prop:=nsIn K mainGlobals n=some (some (.ref f))
abbrev NV(K:Frag)(n:Str)(i:Int)(t:Tok):Prop:=nsIn K mainGlobals n=some (some (.int i t))
abbrev NZ(K:Frag)(n:Str):Prop:=nsIn K mainGlobals n=some none
abbrev KI(K:Frag)(f:Addr):Prop:=PySem.W.keepIn K (.ref f)=true
local macro_rules | `(tactic| walk_at "b")=>`(tactic| first|(exact(fun _ _ _ _ _ _ us hl=>match us,hl with | [_],_=>rfl))|(exact(fun _ _ _ _ _ _ us hl=>match us,hl with | [_,_],_=>rfl))|(exact(fun _ _ _ _ _ _ us hl=>match us,hl with | [_,_,_],_=>rfl))|(exact(fun _ _ _ _ _ _ us hl=>match us,hl with | [_,_,_,_],_=>rfl))|(exact(fun _ _ _ _ _ _ us hl=>match us,hl with | [_,_,_,_,_],_=>rfl)))
theorem all_mk{l:PySem.W.OpenLaw}{w:World}{K:Frag}{h:Heap}{mg:Str->Option Value}{fa:Addr}(X:K.In h)(G:h.Ns mainGlobals mg)(L6:mg "law" = some (.ref fa))
  {J:Addr}{w7 w8:Option Addr}{w9:Array (Option Value)}{x0 x1 x2 x3 d0 x4:Value}
  {g:Addr}{h4 h5:Option Addr}{h6:Array (Option Value)}{h7 h8 h9 i0 N i1:Value}
  {L:Addr}{x5 x6:Option Addr}{x7:Array (Option Value)}{x8 x9 y0 y1 d1 y2:Value}
  {t:Addr}{q3 q4:Option Addr}{q5:Array (Option Value)}{q6 q7 q8 q9 b6 r0:Value}
  {n:Addr}{l6 l7:Option Addr}{l8:Array (Option Value)}{l9 m0 m1 m2 Z m3:Value}
  {a0:Addr}{C3 C4:Option Addr}{C5:Array (Option Value)}{C6 C7 C8 C9 g9 D0:Value}
  {o:Addr}{m4 m5:Option Addr}{m6:Array (Option Value)}{m7 m8 m9 n0 a1 n1:Value}
  {d:Addr}{e7 e8:Option Addr}{e9:Array (Option Value)}{f0 f1 f2 f3 B f4:Value}
  {b:Addr}{d2 d3:Option Addr}{d4:Array (Option Value)}{d5 d6 d7 d8 r d9:Value}
  {f5:Addr}{H2 H3:Option Addr}{H4:Array (Option Value)}{H5 H6 H7 H8 w6 H9:Value}
  {u:Addr}{r1 r2:Option Addr}{r3:Array (Option Value)}{r4 r5 r6 r7 b7 r8:Value}
  {i:Addr}{i2 i3:Option Addr}{i4:Array (Option Value)}{i5 i6 i7 i8 O i9:Value}
  {a:Addr}{a8 a9:Option Addr}{b0:Array (Option Value)}{b1 b2 b3 b4 m b5:Value}
  {n2:Addr}{I0 I1:Option Addr}{I2:Array (Option Value)}{I3 I4 I5 I6 D1 I7:Value}
  {a2:Addr}{D2 D3:Option Addr}{D4:Array (Option Value)}{D5 D6 D7 D8 h0 D9:Value}
  {x:Addr}{r9 s0:Option Addr}{s1:Array (Option Value)}{s2 s3 s4 s5 b8 s6:Value}
  {j:Addr}{j0 j1:Option Addr}{j2:Array (Option Value)}{j3 j4 j5 j6 R j7:Value}
  {k:Addr}{j8 j9:Option Addr}{k0:Array (Option Value)}{k1 k2 k3 k4 S k5:Value}
  {M:Addr}{y3 y4:Option Addr}{y5:Array (Option Value)}{y6 y7 y8 y9 e0 z0:Value}
  {f:Addr}{f6 f7:Option Addr}{f8:Array (Option Value)}{f9 g0 g1 g2 D g3:Value}
  {p:Addr}{n3 n4:Option Addr}{n5:Array (Option Value)}{n6 n7 n8 n9 a3 o0:Value}
  {y:Addr}{s7 s8:Option Addr}{s9:Array (Option Value)}{t0 t1 t2 t3 b9 t4:Value}
  {z:Addr}{t5 t6:Option Addr}{t7:Array (Option Value)}{t8 t9 u0 u1 c0 u2:Value}
  {A:Addr}{u3 u4:Option Addr}{u5:Array (Option Value)}{u6 u7 u8 u9 c1 v0:Value}
  {z1:Addr}{J6 G6:Option Addr}{J7:Array (Option Value)}{J8 G7 G8 G9 z2 H0:Value}
  {L7 L8 L9 M0 M1 M2 M3 M4 M5:Tok}
  {D_:Addr}
  (E0:NI K "is_whole" J)
  (E1:LK K J x0 w7 "is_whole" "is_whole" pf x1 x2 x3 w8 d0 x4 w9)
  (E2:codeIn K d0 "is_whole" = true)
  (E3:KI K J)
  (o1:NI K "is_tuple_of" g)
  (o2:LK K g h7 h4 "is_tuple_of" "is_tuple_of" ph h8 h9 i0 h5 N i1 h6)
  (o3:codeIn K N "is_tuple_of" = true)
  (o4:KI K g)
  (E4:NI K "is_ahead" L)
  (E5:LK K L x8 x5 "is_ahead" "is_ahead" pj x9 y0 y1 x6 d1 y2 x7)
  (E6:codeIn K d1 "is_ahead" = true)
  (E7:KI K L)
  (z3:NI K "is_moment" t)
  (z4:LK K t q6 q3 "is_moment" "is_moment" pp q7 q8 q9 q4 b6 r0 q5)
  (z5:codeIn K b6 "is_moment" = true)
  (z6:KI K t)
  (v1:NI K "are_shifts" n)
  (v2:LK K n l9 l6 "are_shifts" "are_shifts" pq m0 m1 m2 l7 Z m3 l8)
  (v3:codeIn K Z "are_shifts" = true)
  (v4:KI K n)
  (F6:NI K "is_zone" a0)
  (F7:LK K a0 C6 C3 "is_zone" "is_zone" px C7 C8 C9 C4 g9 D0 C5)
  (F8:codeIn K g9 "is_zone" = true)
  (F9:KI K a0)
  (v5:NI K "check_zone" o)
  (v6:LK K o m7 m4 "check_zone" "check_zone" pz m8 m9 n0 m5 a1 n1 m6)
  (v7:codeIn K a1 "check_zone" = true)
  (v8:KI K o)
  (k6:NI K "check_moment" d)
  (k7:LK K d f0 e7 "check_moment" "check_moment" pA f1 f2 f3 e8 B f4 e9)
  (k8:codeIn K B "check_moment" = true)
  (k9:KI K d)
  (g4:NI K "check_stretch" b)
  (g5:LK K b d5 d2 "check_stretch" "check_stretch" pB d6 d7 d8 d3 r d9 d4)
  (g6:codeIn K r "check_stretch" = true)
  (g7:KI K b)
  (I8:NI K "shown" f5)
  (I9:LK K f5 H5 H2 "shown" "shown" pC H6 H7 H8 H3 w6 H9 H4)
  (J0:codeIn K w6 "shown" = true)
  (J1:KI K f5)
  (z7:NI K "stretches" u)
  (z8:LK K u r4 r1 "stretches" "stretches" pD r5 r6 r7 r2 b7 r8 r3)
  (z9:codeIn K b7 "stretches" = true)
  (A0:KI K u)
  (o5:NI K "is_ahead_of" i)
  (o6:LK K i i5 i2 "is_ahead_of" "is_ahead_of" pE i6 i7 i8 i3 O i9 i4)
  (o7:codeIn K O "is_ahead_of" = true)
  (o8:KI K i)
  (c5:NI K "moments_showing" a)
  (c6:LK K a b1 a8 "moments_showing" "moments_showing" pF b2 b3 b4 a9 m b5 b0)
  (c7:codeIn K m "moments_showing" = true)
  (c8:KI K a)
  (J9:NI K "wall" n2)
  (K0:LK K n2 I3 I0 "wall" "wall" pG I4 I5 I6 I1 D1 I7 I2)
  (K1:codeIn K D1 "wall" = true)
  (K2:KI K n2)
  (G0:NI K "moments" a2)
  (G1:LK K a2 D5 D2 "moments" "moments" pH D6 D7 D8 D3 h0 D9 D4)
  (G2:codeIn K h0 "moments" = true)
  (G3:KI K a2)
  (A1:NI K "how_often" x)
  (A2:LK K x s2 r9 "how_often" "how_often" pI s3 s4 s5 s0 b8 s6 s1)
  (A3:codeIn K b8 "how_often" = true)
  (A4:KI K x)
  (o9:NI K "never_shown" j)
  (p0:LK K j j3 j0 "never_shown" "never_shown" pJ j4 j5 j6 j1 R j7 j2)
  (p1:codeIn K R "never_shown" = true)
  (p2:KI K j)
  (p3:NI K "shown_often" k)
  (p4:LK K k k1 j8 "shown_often" "shown_often" pK k2 k3 k4 j9 S k5 k0)
  (p5:codeIn K S "shown_often" = true)
  (p6:KI K k)
  (E8:NI K "long_day" M)
  (E9:LK K M y6 y3 "long_day" "long_day" pL y7 y8 y9 y4 e0 z0 y5)
  (F0:codeIn K e0 "long_day" = true)
  (F1:KI K M)
  (l0:NI K "_law_cell_at" f)
  (l1:LK K f f9 f6 "_law_cell_at" "_law_cell_at" pM g0 g1 g2 f7 D g3 f8)
  (l2:codeIn K D "_law_cell_at" = true)
  (l3:KI K f)
  (v9:NI K "_law_mixed" p)
  (w0:LK K p n6 n3 "_law_mixed" "_law_mixed" pN n7 n8 n9 n4 a3 o0 n5)
  (w1:codeIn K a3 "_law_mixed" = true)
  (w2:KI K p)
  (A5:NI K "_law_draw" y)
  (A6:LK K y t0 s7 "_law_draw" "_law_draw" pO t1 t2 t3 s8 b9 t4 s9)
  (A7:codeIn K b9 "_law_draw" = true)
  (A8:KI K y)
  (A9:NI K "_law_pick" z)
  (B0:LK K z t8 t5 "_law_pick" "_law_pick" pP t9 u0 u1 t6 c0 u2 t7)
  (B1:codeIn K c0 "_law_pick" = true)
  (B2:KI K z)
  (B3:NI K "_law_zone" A)
  (B4:LK K A u6 u3 "_law_zone" "_law_zone" pQ u7 u8 u9 u4 c1 v0 u5)
  (B5:codeIn K c1 "_law_zone" = true)
  (B6:KI K A)
  (J2:NI K "law" z1)
  (K4:LK K z1 J8 J6 "law" "law" ir G7 G8 G9 G6 z2 H0 J7)
  (K5:codeIn K z2 "law" = true)
  (K6:KI K z1)
  (M6:NV K "LAST_MOMENT" (9999) L7)
  (M7:NV K "LAST_HOUR" (23) L8)
  (M8:NV K "LEAST_AHEAD" (-12) L9)
  (M9:NV K "MOST_AHEAD" (14) M0)
  (N0:NV K "MOST_SHIFTS" (6) M1)
  (N1:NV K "DAY_HOURS" (24) M2)
  (N2:NV K "FIRST_DAY" (-1) M3)
  (N3:NV K "LAST_DAY" (9999) M4)
  (N4:NV K "LAST_LONG_DAY" (400) M5)
  (N5:NZ K "ANY_ZONE")
  (N6:NZ K "NO_DEEDS")
  (N7:NZ K "bool")
  (N8:NZ K "divmod")
  (L0:NZ K "int")
  (N9:NZ K "isinstance")
  (L1:NZ K "len")
  (O0:NZ K "list")
  (O1:NZ K "max")
  (L2:NZ K "min")
  (O2:NZ K "range")
  (L3:NZ K "set")
  (O3:NZ K "sorted")
  (L4:NZ K "sum")
  (O4:NZ K "tuple")
  (L5:NZ K "zip")
  (J3:NI K "DueError" D_)
  (K7:excIn K D_ kX "ValueError.__new__" = true)
  (K8:vS K D_ xJ=true) :
  ∃fd:FuncData,(∀(s:Shared) (v:Value),BindsTo s fd ⟨[v],[]⟩ [("_law_script",v)])/\∀base:Heap,K.In base->base.Ns mainGlobals mg->bV l.prog w K mg base (dX l.prog w) 7 fa fd ["_law_script"] (tf K):=by
 have e:=L6.symm.trans (mg_of X G J2);cases e;have h1:=cC (st:=pf) E1 E2 E3;have F2:FD K mg "is_whole" pf ["thing","least","most"] _ _:=⟨h1,mg_of X G E0,h1.binds (by walk_at "b")⟩;have a4:=cC (st:=ph) o2 o3 o4;have p7:FD K mg "is_tuple_of" ph ["thing","length"] _ _:=⟨a4,mg_of X G o1,a4.binds (by walk_at "b")⟩;have h2:=cC (st:=pj) E5 E6 E7;have F3:FD K mg "is_ahead" pj ["thing"] _ _:=⟨h2,mg_of X G E4,h2.binds (by walk_at "b")⟩;have e1:=cC (st:=pp) z4 z5 z6;have B7:FD K mg "is_moment" pp ["thing"] _ _:=⟨e1,mg_of X G z3,e1.binds (by walk_at "b")⟩;have c2:=cC (st:=pq) v2 v3 v4;have w3:FD K mg "are_shifts" pq ["thing"] _ _:=⟨c2,mg_of X G v1,c2.binds (by walk_at "b")⟩;have p8:=cC (st:=px) F7 F8 F9;have G4:FD K mg "is_zone" px ["thing"] _ _:=⟨p8,mg_of X G F6,p8.binds (by walk_at "b")⟩;have c3:=cC (st:=pz) v6 v7 v8;have w4:FD K mg "check_zone" pz ["thing"] _ _:=⟨c3,mg_of X G v5,c3.binds (by walk_at "b")⟩;have U:=cC (st:=pA) k7 k8 k9;have l4:FD K mg "check_moment" pA ["thing"] _ _:=⟨U,mg_of X G k6,U.binds (by walk_at "b")⟩;have I:=cC (st:=pB) g5 g6 g7;have g8:FD K mg "check_stretch" pB ["first","last"] _ _:=⟨I,mg_of X G g4,I.binds (by walk_at "b")⟩;have F4:=cC (st:=pC) I9 J0 J1;have J4:FD K mg "shown" pC ["zone","moment"] _ _:=⟨F4,mg_of X G I8,F4.binds (by walk_at "b")⟩;have e2:=cC (st:=pD) z8 z9 A0;have B8:FD K mg "stretches" pD ["zone"] _ _:=⟨e2,mg_of X G z7,e2.binds (by walk_at "b")⟩;have a5:=cC (st:=pE) o6 o7 o8;have p9:FD K mg "is_ahead_of" pE ["moment","end"] _ _:=⟨a5,mg_of X G o5,a5.binds (by walk_at "b")⟩;have q:=cC (st:=pF) c6 c7 c8;have c9:FD K mg "moments_showing" pF ["zone","hours"] _ _:=⟨q,mg_of X G c5,q.binds (by walk_at "b")⟩;have H1:=cC (st:=pG) K0 K1 K2;have K3:FD K mg "wall" pG ["zone","moment"] _ _:=⟨H1,mg_of X G J9,H1.binds (by walk_at "b")⟩;have q0:=cC (st:=pH) G1 G2 G3;have G5:FD K mg "moments" pH ["zone","day","hour"] _ _:=⟨q0,mg_of X G G0,q0.binds (by walk_at "b")⟩;have e3:=cC (st:=pI) A2 A3 A4;have B9:FD K mg "how_often" pI ["zone","first","last"] _ _:=⟨e3,mg_of X G A1,e3.binds (by walk_at "b")⟩;have a6:=cC (st:=pJ) p0 p1 p2;have q1:FD K mg "never_shown" pJ ["zone","first","last"] _ _:=⟨a6,mg_of X G o9,a6.binds (by walk_at "b")⟩;have a7:=cC (st:=pK) p4 p5 p6;have q2:FD K mg "shown_often" pK ["zone","first","last"] _ _:=⟨a7,mg_of X G p3,a7.binds (by walk_at "b")⟩;have h3:=cC (st:=pL) E9 F0 F1;have F5:FD K mg "long_day" pL ["zone","day"] _ _:=⟨h3,mg_of X G E8,h3.binds (by walk_at "b")⟩;have Y:=cC (st:=pM) l1 l2 l3;have l5:FD K mg "_law_cell_at" pM ["_law_script","_law_k"] _ _:=⟨Y,mg_of X G l0,Y.binds (by walk_at "b")⟩;have c4:=cC (st:=pN) w0 w1 w2;have w5:FD K mg "_law_mixed" pN ["_law_script","_law_k","_law_many"] _ _:=⟨c4,mg_of X G v9,c4.binds (by walk_at "b")⟩;have e4:=cC (st:=pO) A6 A7 A8;have C0:FD K mg "_law_draw" pO ["_law_script","_law_town","_law_many"] _ _:=⟨e4,mg_of X G A5,e4.binds (by walk_at "b")⟩;have e5:=cC (st:=pP) B0 B1 B2;have C1:FD K mg "_law_pick" pP ["_law_script","_law_town","_law_some"] _ _:=⟨e5,mg_of X G A9,e5.binds (by walk_at "b")⟩;have e6:=cC (st:=pQ) B4 B5 B6;have C2:FD K mg "_law_zone" pQ ["_law_script","_law_town","_law_wide"] _ _:=⟨e6,mg_of X G B3,e6.binds (by walk_at "b")⟩;have J5:=cC (st:=ir) K4 K5 K6;have K9:FD K mg "law" ir ["_law_script"] _ _:=⟨J5,mg_of X G J2,J5.binds (by walk_at "b")⟩;have T:Tx K mg:={
  d00:=⟨_,_,F2⟩
  d01:=⟨_,_,p7⟩
  d02:=⟨_,_,F3⟩
  d03:=⟨_,_,B7⟩
  d04:=⟨_,_,w3⟩
  d05:=⟨_,_,G4⟩
  d06:=⟨_,_,w4⟩
  d07:=⟨_,_,l4⟩
  d08:=⟨_,_,g8⟩
  d09:=⟨_,_,J4⟩
  d0a:=⟨_,_,B8⟩
  d0b:=⟨_,_,p9⟩
  d0c:=⟨_,_,c9⟩
  d0d:=⟨_,_,K3⟩
  d0e:=⟨_,_,G5⟩
  d0f:=⟨_,_,B9⟩
  d0g:=⟨_,_,q1⟩
  d0h:=⟨_,_,q2⟩
  d0i:=⟨_,_,F5⟩
  d0j:=⟨_,_,l5⟩
  d0k:=⟨_,_,w5⟩
  d0l:=⟨_,_,C0⟩
  d0m:=⟨_,_,C1⟩
  d0n:=⟨_,_,C2⟩
  d0o:=⟨_,mg_of X G M6⟩
  d0p:=⟨_,mg_of X G M7⟩
  d0q:=⟨_,mg_of X G M8⟩
  d0r:=⟨_,mg_of X G M9⟩
  d0s:=⟨_,mg_of X G N0⟩
  d0t:=⟨_,mg_of X G N1⟩
  d0u:=⟨_,mg_of X G N2⟩
  d0v:=⟨_,mg_of X G N3⟩
  d0w:=⟨_,mg_of X G N4⟩
  d0x:=mg_none_of X G N7
  d0y:=mg_none_of X G N8
  d0z:=mg_none_of X G L0
  d10:=mg_none_of X G N9
  d11:=mg_none_of X G L1
  d12:=mg_none_of X G O0
  d13:=mg_none_of X G O1
  d14:=mg_none_of X G L2
  d15:=mg_none_of X G O2
  d16:=mg_none_of X G L3
  d17:=mg_none_of X G O3
  d18:=mg_none_of X G L4
  d19:=mg_none_of X G O4
  d1a:=mg_none_of X G L5
  xt0:=⟨D_,⟨⟨mg_of X G J3,J3,K7⟩,K8,fun c C e=>mg_of X G e⟩⟩
 }
 exact⟨fnOf "law" "law" (jn ir) (gX ir) (dS ir) .none G7 G8 G9 G6 z2 H0,fun s v=>.of_eq rfl,fun base _ _=>(Kw _ _ _ T K9).imp fun vs H Q E h=>LO (IJ (mg_none_of X G N5) (mg_none_of X G N6) H) (fun ns hn=>LN hn) h⟩
theorem law_walk{l:PySem.W.OpenLaw}{q:Program}{b:List Str}{i:(Str->Option Value)->Heap->Prop}{e:World->Heap->Prop}{d:DefRec}{K:Params->Frag}(j:l.most=some 63)(c:d.params.defaults=[])
  (m:∀(w:World) (h:Heap),e w h->(K w.params).In h)
  (F:∀(w:World) (mg:Str->Option Value) (g:Addr) (h:Heap),(K w.params).In h->h.Ns mainGlobals mg->mg d.name=some (.ref g)->
   ∃fd:FuncData,(∀(s:Shared) (u:Value),BindsTo s fd ⟨[u],[]⟩ [("_law_script",u)])/\∀base:Heap,(K w.params).In base->base.Ns mainGlobals mg->bV l.prog w (K w.params) mg base (dX l.prog w) 7 g fd ["_law_script"] (tf (K w.params))) :
  PySem.W.WalkO q b i e l.row.toRowW d [] (fun f p=>PySem.call f p):=by
 refine L2.walk_of (n:=63) (k:=7) (x:="_law_script") (CX:=fun w=>dX l.prog w) (sp:=fun w=>tf (K w.params)) j (by decide) c ⟨rfl,by decide,by decide⟩ m F (fun w H a y r t v=>?hsp) fun _ _ _ _ _ ⟨_,_,_,_,_,_,_,_,_,z⟩=>z;refine⟨a,y,rfl,⟨r,?_⟩,fun _=>rfl⟩;rcases v with(h1 | h1) | h1
 .rcases t a with h2 | ⟨o,A,h2⟩
  .rw[h2] at h1;cases h1
  .rw[h2] at h1;cases h1
 .exact .inl h1
 .exact .inr h1
end K3
namespace PySem.W.Fast
def tw10361082290225281678:=()
def tw10414212238931143674:=()
def tw11352679600480848413:=()
def tw11694639614975025447:=()
def tw12039174089567031617:=()
def tw12425112014145977726:=()
def tw13159131881388768154:=()
def tw13509160066526332760:=()
def tw13926520560946416647:=()
def tw1498744777079697783:=()
def tw15554221486680917490:=()
def tw15960518239614247830:=()
def tw17070204386144977096:=()
def tw17482817193566134078:=()
def tw17806977105596328838:=()
def tw18241355281646862181:=()
def tw18302235844496117173:=()
def tw2340196469987294858:=()
def tw3033918616870027132:=()
def tw3995028403452473334:=()
def tw407228003295719990:=()
def tw4632977936375287972:=()
def tw5005006087399443094:=()
def tw5189020275664198141:=()
def tw5292678465387500498:=()
def tw5940195877193229728:=()
def tw7497325550247063975:=()
def tw7509815519955889380:=()
def tw869765167207744842:=()
def tw9347085730410833184:=()
def tw9501329675018311920:=()
end PySem.W.Fast
open PySem PySem.W PyProof.Rows
set_option maxRecDepth 100000 in
set_option maxHeartbeats 0 in
theorem PySem.Challenge.cw_duehall_k38_whole_shown_moments_holds : PySem.Challenge.rw_duehall_k38_whole_shown_moments.Holds := by
  w_on;o_law;k_head;(case hw => w_witness2)
  k_fill
  refine K3.law_walk (l := PySem.Challenge.rw_duehall_k38_whole_shown_moments) rfl rfl (fun w h Y => PySem.W.kIn_of Y) ?F
  case F =>
    intro w mg fa h KX G hmg
    refine' K3.all_mk KX G hmg ?a_is_whole ?l_is_whole ?c_is_whole ?k_is_whole ?a_is_tuple_of ?l_is_tuple_of ?c_is_tuple_of ?k_is_tuple_of ?a_is_ahead ?l_is_ahead ?c_is_ahead ?k_is_ahead ?a_is_moment ?l_is_moment ?c_is_moment ?k_is_moment ?a_are_shifts ?l_are_shifts ?c_are_shifts ?k_are_shifts ?a_is_zone ?l_is_zone ?c_is_zone ?k_is_zone ?a_check_zone ?l_check_zone ?c_check_zone ?k_check_zone ?a_check_moment ?l_check_moment ?c_check_moment ?k_check_moment ?a_check_stretch ?l_check_stretch ?c_check_stretch ?k_check_stretch ?a_shown ?l_shown ?c_shown ?k_shown ?a_stretches ?l_stretches ?c_stretches ?k_stretches ?a_is_ahead_of ?l_is_ahead_of ?c_is_ahead_of ?k_is_ahead_of ?a_moments_showing ?l_moments_showing ?c_moments_showing ?k_moments_showing ?a_wall ?l_wall ?c_wall ?k_wall ?a_moments ?l_moments ?c_moments ?k_moments ?a_how_often ?l_how_often ?c_how_often ?k_how_often ?a_never_shown ?l_never_shown ?c_never_shown ?k_never_shown ?a_shown_often ?l_shown_often ?c_shown_often ?k_shown_often ?a_long_day ?l_long_day ?c_long_day ?k_long_day ?a__law_cell_at ?l__law_cell_at ?c__law_cell_at ?k__law_cell_at ?a__law_mixed ?l__law_mixed ?c__law_mixed ?k__law_mixed ?a__law_draw ?l__law_draw ?c__law_draw ?k__law_draw ?a__law_pick ?l__law_pick ?c__law_pick ?k__law_pick ?a__law_zone ?l__law_zone ?c__law_zone ?k__law_zone ?a_law ?l_law ?c_law ?k_law ?v3_ ?v5_ ?v2_ ?v4_ ?v1_ ?v7_ ?v6_ ?v8_ ?v0_ ?z1_ ?z2_ ?z8_ ?z3_ ?z13_ ?z0_ ?z14_ ?z7_ ?z9_ ?z15_ ?z5_ ?z12_ ?z4_ ?z10_ ?z6_ ?z11_ ?a_Due ?x_Due ?x_tab
    (case a_is_whole|l_is_whole|c_is_whole|k_is_whole|a_is_tuple_of|l_is_tuple_of|c_is_tuple_of|k_is_tuple_of|a_is_ahead|l_is_ahead|c_is_ahead|k_is_ahead|a_is_moment|l_is_moment|c_is_moment|k_is_moment|a_are_shifts|l_are_shifts|c_are_shifts|k_are_shifts|a_is_zone|l_is_zone|c_is_zone|k_is_zone|a_check_zone|l_check_zone|c_check_zone|k_check_zone|a_check_moment|l_check_moment|c_check_moment|k_check_moment|a_check_stretch|l_check_stretch|c_check_stretch|k_check_stretch|a_shown|l_shown|c_shown|k_shown|a_stretches|l_stretches|c_stretches|k_stretches|a_is_ahead_of|l_is_ahead_of|c_is_ahead_of|k_is_ahead_of|a_moments_showing|l_moments_showing|c_moments_showing|k_moments_showing|a_wall|l_wall|c_wall|k_wall|a_moments|l_moments|c_moments|k_moments|a_how_often|l_how_often|c_how_often|k_how_often|a_never_shown|l_never_shown|c_never_shown|k_never_shown|a_shown_often|l_shown_often|c_shown_often|k_shown_often|a_long_day|l_long_day|c_long_day|k_long_day|a__law_cell_at|l__law_cell_at|c__law_cell_at|k__law_cell_at|a__law_mixed|l__law_mixed|c__law_mixed|k__law_mixed|a__law_draw|l__law_draw|c__law_draw|k__law_draw|a__law_pick|l__law_pick|c__law_pick|k__law_pick|a__law_zone|l__law_zone|c__law_zone|k__law_zone|a_law|l_law|c_law|k_law|v3_|v5_|v2_|v4_|v1_|v7_|v6_|v8_|v0_|z1_|z2_|z8_|z3_|z13_|z0_|z14_|z7_|z9_|z15_|z5_|z12_|z4_|z10_|z6_|z11_|a_Due => (first | unfold K3.LK | unfold K3.NI | unfold K3.NV | unfold K3.NZ | unfold K3.KI | skip);k_is)
    (case x_Due|x_tab => first | kernel_rfl | rfl)
