import PyProof.Rows.All
import Wide.All
import OpenK.AllK
import Wide.FinOn
import Lean
import PyProof.EqAt
import PyProof.EqKinds
import PyProof.TupleCall
import PySem.Challenge.RW_duehall_k04_whole_model
abbrev q0a:=@List.getElem?_eq_some_iff
abbrev q0b:=@List.mem_append
abbrev q0c:=@List.mem_cons
abbrev q0d:=@List.length_map
abbrev q0e:=@List.flatten_cons
abbrev q0f:=@List.nodup_append
abbrev q0g:=@List.mem_cons_self
abbrev q0h:=@List.map_cons
abbrev q0i:=@Option.map_eq_some_iff
abbrev q0j:=@List.getElem?_eq_getElem
abbrev q0k:=@Nat.lt_of_lt_of_le
abbrev q0l:=@List.mem_singleton
abbrev q0m:=@List.append_assoc
abbrev q0n:=@List.lookup_cons
abbrev q0o:=@List.getElem?_set_ne
abbrev q0p:=@List.getElem?_set_self
abbrev q0q:=@List.getElem?_map
abbrev q0r:=@List.nil_append
abbrev q0s:=@Nat.ne_of_lt
abbrev q0t:=@List.length_cons
abbrev q0u:=@List.length_set
abbrev q0v:=@List.nodup_cons
abbrev q0w:=@List.mem_of_getElem?
abbrev q0x:=@Option.some.inj
abbrev q0y:=@List.size_toArray
abbrev q0z:=@List.not_mem_nil
abbrev q0A:=@Nat.lt_irrefl
abbrev q0B:=@Bool.and_eq_true
abbrev q0C:=@Nat.le_trans
abbrev q0D:=@List.append_nil
abbrev q0E:=@List.drop_eq_getElem_cons
abbrev q0F:=@List.replicate_succ
abbrev q0G:=@List.getElem_mem
abbrev q0H:=@Bool.false_ne_true
abbrev q0I:=@List.length_append
abbrev q0J:=@List.getElem?_append_right
abbrev q0K:=@Nat.zero_le
abbrev q0L:=@Option.some.injEq
abbrev q0M:=@Int.le_refl
abbrev q0N:=@List.set_cons_zero
abbrev q0O:=@Option.isSome_iff_exists
abbrev q0P:=@PySem.mem_of_lookup
abbrev q0Q:=@List.mem_map
abbrev q0R:=@Option.bind_eq_some_iff
abbrev q0S:=@List.getElem?_append_left
abbrev q0T:=@List.length_nil
abbrev q0U:=@List.cons_append
abbrev q0V:=@List.length_replicate
abbrev q0W:=@List.map_map
abbrev q0X:=@List.length_pos_iff
abbrev q0Y:=@PySem.F.plainAttrs_list
abbrev q0Z:=@Array.getD_eq_getD_getElem?
abbrev q00:=@Nat.lt_succ_self
abbrev q01:=@List.ext_getElem?
abbrev q02:=@List.all_eq_true
abbrev q03:=@Int.mul_le_mul_of_nonneg_right
abbrev q04:=@List.singleton_append
abbrev q05:=@Array.getElem?_eq_some_iff
abbrev q06:=@Nat.ne_of_gt
abbrev q07:=@List.map_nil
abbrev q08:=@Bool.false_eq_true
abbrev q09:=@List.set_cons_succ
abbrev q1a:=@Nat.le_of_succ_le
abbrev q1b:=@Nat.not_lt_zero
abbrev q1c:=@PySem.F.slot_list_append
abbrev q1d:=@PySem.F.type_list_append
abbrev q1e:=@List.getElem?_replicate
abbrev q1f:=@List.mem_map_of_mem
abbrev q1g:=@Bool.and_eq_true_iff
abbrev q1h:=@List.pairwise_mergeSort
abbrev q1i:=@List.map_congr_left
abbrev q1j:=@List.filter_cons
abbrev q1k:=@List.nodup_nil
abbrev q1l:=@List.drop_eq_nil_of_le
abbrev q1m:=@Nat.eq_zero_of_not_pos
abbrev q1n:=@List.getElem?_zip_eq_some
abbrev q1o:=@List.map_append
abbrev q1p:=@List.sublist_flatten_of_mem
abbrev q1q:=@List.length_filter_le
abbrev q1r:=@Nat.lt_or_ge
abbrev q1s:=@Int.toNat_natCast
abbrev q1t:=@List.length_range
abbrev q1u:=@PySem.W.looks_findIn
abbrev q1v:=@List.exists_cons_of_length_eq_add_one
abbrev q1w:=@List.length_eq_one_iff
abbrev q1x:=@List.drop_length
abbrev q1y:=@List.filterMap_cons
abbrev q1z:=@Array.length_toList
abbrev q1A:=@List.flatten_append
abbrev q1B:=@List.getElem_of_mem
abbrev q1C:=@Nat.le_of_lt
abbrev q1D:=@PySem.F.args_tuple_add_2
abbrev q1E:=@List.mem_filter
abbrev q1F:=@PySem.F.entry_tuple_add
abbrev q1G:=@List.foldl_cons
abbrev q1H:=@Option.map_some
abbrev q1I:=@List.drop_eq_nil_iff
abbrev q1J:=@PySem.W.callWith_K
abbrev q1K:=@List.map_const'
abbrev q1L:=@List.getElem?_cons_zero
abbrev q1M:=@Nat.lt_or_eq_of_le
abbrev q1N:=@PySem.F.slot_tuple_add
abbrev q1O:=@List.take_of_length_le
abbrev q1P:=@Nat.lt_succ_of_lt
abbrev q1Q:=@Nat.le_succ
abbrev q1R:=@List.Sublist.refl
abbrev q1S:=@List.pairwise_map
abbrev q1T:=@Nat.not_lt
abbrev q1U:=@PySem.F.slot_dict_get
abbrev q1V:=@List.getElem?_eq_none
abbrev q1W:=@Nat.succ.inj
abbrev q1X:=@Nat.zero_add
abbrev q1Y:=@Int.le_trans
abbrev q1Z:=@Nat.le_of_not_lt
abbrev q12:=@Nat.le_add_right
abbrev q14:=@PySem.W.hideAll_none
abbrev q15:=@List.getElem?_of_mem
abbrev q16:=@List.mem_flatten
abbrev q17:=@PySem.W.hideAll_get
abbrev q18:=@PySem.W.plainGet_of
abbrev q19:=@Nat.lt_succ_iff_lt_or_eq
abbrev q2a:=@List.Sublist.append
abbrev q2b:=@List.mergeSort_perm
abbrev q2c:=@List.cons.injEq
abbrev q2d:=@PySem.F.excBase_ValueError
abbrev q2e:=@List.getD_eq_getElem?_getD
abbrev q2f:=@List.mem_range
abbrev q2g:=@List.zip_cons_cons
abbrev q2h:=@List.sublist_append_right
abbrev q2i:=@PySem.boot_len
abbrev q2j:=@List.Perm.eq_of_pairwise
abbrev q2k:=@List.Pairwise.imp_of_mem
abbrev q2l:=@PySem.F.slot_dict_update
abbrev q2m:=@Nat.lt_trichotomy
abbrev q2n:=@List.eq_of_mem_replicate
abbrev q2o:=@PySem.F.args_dict_get_3
abbrev q2p:=@PySem.F.plainAttrs_dict
abbrev q2q:=@Int.not_lt
abbrev q2r:=@List.length_take
abbrev q2s:=@List.length_drop
abbrev q2t:=@List.flatten_nil
abbrev q2u:=@Array.toList_map
abbrev q2v:=@List.mem_filterMap
abbrev q2w:=@PySem.W.cellsFrom_some
abbrev q2x:=@PySem.F.entry_dict_get
abbrev q2y:=@List.drop_of_length_le
abbrev q2z:=@List.range_succ_eq_map
abbrev q2A:=@List.zipWith_cons_cons
abbrev q2B:=@Nat.le_of_eq
abbrev q2C:=@List.of_mem_zip
abbrev q2D:=@List.head?_drop
abbrev q2E:=@List.length_zip
abbrev q2F:=@PySem.W.KF.type_class
abbrev q2G:=@PySem.W.methodCall_KW
abbrev q2H:=@Int.le_antisymm
abbrev q2I:=@List.filter_map
abbrev q2J:=@List.drop_zero
abbrev q2K:=@List.all_cons
noncomputable section
set_option Elab.async false
set_option linter.all false
set_option maxRecDepth 100000
set_option compiler.extract_closed false
set_option genSizeOf false
set_option genInjectivity false
local macro_rules | `(tactic|lia)=>`(tactic|first|lia(splits:=9)|omega)
theorem aA:type_of% @PySem.wpAny_bind:=@PySem.wpAny_bind
theorem bb:type_of% @PySem.wpAny_pure:=@PySem.wpAny_pure
theorem ca:type_of% @PySem.Heap.get?_push_of_some:=@PySem.Heap.get?_push_of_some
theorem bS:type_of% @PySem.Heap.lt_size:=@PySem.Heap.lt_size
theorem bu:type_of% @Nat.le_refl:=@Nat.le_refl
theorem bq:type_of% @List.mem_append_right:=@List.mem_append_right
theorem bB:type_of% @List.mem_append_left:=@List.mem_append_left
theorem bK:type_of% @List.mem_cons_of_mem:=@List.mem_cons_of_mem
open PySem.W (instObj Frag plainGet findIn emptyDict keepIn mroIn kitOne kia_one fnOf codeIn nsIn excIn clsIn mg_of mg_none_of)
theorem Zqa(_:0=0:=by first |exact .inl rfl |exact .inr rfl |assumption):0=0:=rfl
theorem Zqb(_:0=0:=by intro _ _;rfl):0=0:=rfl
theorem Zqc(_:0=0:=by with_unfolding_all rfl):0=0:=rfl
theorem Zqd(_:0=0:=by decide +kernel):0=0:=rfl
theorem Zqe(_:0=0:=by first |exact Or.inl rfl |exact Or.inr (Or.inl rfl) |exact Or.inr (Or.inr rfl)):0=0:=rfl
theorem Zqf(_:0=0:=by first |exact Or.inl rfl |exact Or.inr rfl):0=0:=rfl
theorem Zq(_:0=0:=by rfl):0=0:=rfl
theorem Zr(_:0=0:=by decide):0=0:=rfl
theorem Zs(_:Nat->0=0:=by intro _;rfl):0=0:=rfl
section
local macro_rules | `(!$x)=>`(some $x)
local macro_rules | `(#[$x,$y])=>`(⟨$x,$y⟩) |`(#[$x,$y,$z,*])=>`(⟨$x,$y,$z,*⟩)
local macro_rules | `(tactic|let ⟨$xs,*⟩:=$e)=>do
 let ps<-xs.getElems.mapM fun x=>match x with |`($i:ident)=>`(rcasesPat|$i:ident) |_=>`(rcasesPat|_)
 `(tactic|obtain⟨$[$ps:rcasesPat],*⟩:=$e)
local macro_rules | `('a')=>`(by lia) |`('d')=>`(by simp) |`('f')=>`(by decide) |`('g')=>`(by decide +kernel) |`('h')=>`(by simp_all) |`('k')=>`(by kernel_rfl) |`('l')=>`(by intro _ _;rfl)
namespace L2
open PySem PySem.Spec PyProof.Rows
abbrev aX:=Sum Int Str
noncomputable def pF:aX->Value->Bool
 |.inl k,v=>Value.isInt k v
 |.inr x,v=>Value.isStrOf x v
noncomputable def MA(w:World):aX->Int
 |.inl k=>hashInt k
 |.inr x=>hashStr w x
def lr:∀{k v},pF k v=true->(∃i t,k=Sum.inl i/\v=Value.int i t)\/(∃x t,k=Sum.inr x/\v=Value.str x t)
 |.inl i,v,h=>by let⟨t,e⟩:=Value.isInt_shape h;exact .inl #[i,t,rfl,e]
 |.inr x,v,h=>by let⟨t,e⟩:=Value.isStrOf_shape h;exact .inr #[x,t,rfl,e]
def MB(i t):pF (.inl i) (.int i t)=true:=by simp[pF,Value.isInt]
def MC(x t):pF (.inr x) (.str x t)=true:=by simp[pF,Value.isStrOf]
def ME(a b):decide ((Sum.inl a:aX)=Sum.inl b)=(a==b):=by
 lia
def MG(a b):decide ((Sum.inr a:aX)=Sum.inr b)=decide (a=b):=by
 lia
def MH(a b):decide ((Sum.inl a:aX)=Sum.inr b)=false:=by grind
def MI(a b):decide ((Sum.inr a:aX)=Sum.inl b)=false:=by grind
def fM(prog:Program)(w:World):PySem.KeyKind prog w aX where
 is:=pF
 hash:=MA w
 inj:=λv a b ha hb=>by
  rcases lr ha with⟨i,t,rfl,rfl⟩ |⟨x,t,rfl,rfl⟩
  .rcases lr hb with⟨j,u,rfl,e⟩ |⟨y,u,rfl,e⟩
   .injection e with e1 _;rw[e1]
   .exact nomatch e
  .rcases lr hb with⟨j,u,rfl,e⟩ |⟨y,u,rfl,e⟩
   .exact nomatch e
   .injection e with e1 _;rw[e1]
 byValue:=λk v h=>by rcases lr h with⟨i,t,rfl,rfl⟩ |⟨x,t,rfl,rfl⟩<;>rfl
 pyHash:=λhv h=>by
  rcases lr hv with⟨i,t,rfl,rfl⟩ |⟨x,t,rfl,rfl⟩
  .exact wpAny_pyHash_int h
  .exact wpAny_pyHash_str h
 eqBool:=λhu hv h=>by
  rcases lr hu with⟨i,t,rfl,rfl⟩ |⟨x,t,rfl,rfl⟩
  .rcases lr hv with⟨j,u,rfl,rfl⟩ |⟨y,u,rfl,rfl⟩
   .rw[ME]at h;exact wpAny_eqBool_int h
   .rw[MH]at h;exact SeqAt.EqAt.int_str i t y u _ _ _ _ h
  .rcases lr hv with⟨j,u,rfl,rfl⟩ |⟨y,u,rfl,rfl⟩
   .rw[MI]at h;exact SeqAt.EqAt.str_int x t j u _ _ _ _ h
   .rw[MG]at h;exact wpAny_eqBool_str h
 «strs»:=λk x t v h=>by
  rcases lr h with⟨i,u,rfl,e⟩ |⟨y,u,rfl,e⟩
  .exact nomatch e
  .injection e with e1 _
   subst e1;cases v<;>rfl
inductive V where
 |non |bl (b:Bool) |int (i:Int) |str (x:Str) |byt (b:Array UInt8) |flt (b:UInt64) |ref (a:Addr) |ty (n:String)
 deriving DecidableEq
def bj:V->Value->Prop
 |.non,u=>u=Value.none
 |.bl b,u=>u=Value.bool b
 |.int i,u=>∃t,u=Value.int i t
 |.str x,u=>∃t,u=Value.str x t
 |.byt b,u=>∃t,u=Value.bytes b t
 |.flt b,u=>∃t,u=Value.float b t
 |.ref a,u=>u=Value.ref a
 |.ty n,u=>u=Value.type n
abbrev bv:List V->List Value->Prop:=Paired bj
theorem bv.length(r:bv a b):a.length=b.length:=Paired.length r
def bv.get:∀{a b}{i:Nat}{x},bv a b->a[i]? = !x->∃u,b[i]? = !u/\bj x u:=λ{a b i x} w=>by
 induction w generalizing i with
 |nil=>intro e;simp at e
 |cons r t j=>
  intro e;cases i with
  |zero=>simp_all
  |succ i=>let⟨u,c,d⟩:=j (i:=i) (by simpa using e);exact#[u,by simpa using c,d]
theorem bv.set(r:bj x u):∀{a b} i,bv a b->bv (a.set i x) (b.set i u):=λ{a b} i w=>by
 induction w generalizing i with
 |nil=>exact .nil
 |cons q t j=>cases i with
  |zero=>exact .cons r t
  |succ i=>exact .cons q (j i)
def bv.append:∀{a b c d},bv a c->bv b d->bv (a++b) (c++d):=by
 intro a b c d h s
 induction h with
 |nil=>exact s
 |cons r _ e=>exact .cons r e
theorem bv.take:∀{a b} n,bv a b->bv (a.take n) (b.take n)
 |_,_,0,_=>.nil
 |_,_,_+1,.nil=>.nil
 |_,_,n+1,.cons r t=>.cons r (bv.take n t)
theorem bv.drop:∀{a b} n,bv a b->bv (a.drop n) (b.drop n)
 |_,_,0,r=>r
 |_,_,_+1,.nil=>.nil
 |_,_,n+1,.cons _ t=>bv.drop n t
def gj:Option V->Option Value->Prop
 |some v,!u=>bj v u
 |none,none=>True
 |_,_=>False
def KV{κ:Type}:List (κ×V)->List (κ×Value)->Prop:=Paired λ(p:κ×V) (q:κ×Value)=>p.1=q.1/\bj p.2 q.2
noncomputable def kV:aX->V
 |.inl i=>.int i
 |.inr x=>.str x
inductive HO where
 |lst (xs:List V)
 |tup (xs:List V)
 |dK (kvs:List (aX×V)) |dT (kvs:List (List aX×V))
 |set (S:Int->Bool) (n:Nat)
 |ins (C dx:Addr) (fs:List (Str×V))
 |own (x:Addr)
 |xd (fs:List (Str×V))
 |met (f x:Addr)
 |rng (lo hi:Int)
 |frz (o:Obj) (u:HO)
 |tbl (ps:Array Value)
 |ext (φ:Heap->Prop)
abbrev Hp:=Addr->Option HO
noncomputable def aM(H:Hp)(a:Addr)(o:HO):Hp:=λb=>if b=a then some o else H b
def cI:aM H a o a=!o:=by unfold aM;rw[if_pos rfl]
def bt(h:b≠a):aM H a o b=H b:=by unfold aM;rw[if_neg h]
def jJ{H:Hp}(h:H a=!o)(c:H b=none):a≠b:=by lia
section
variable(P:Program)(w:World)
def dh(H:Hp)(h:Heap)(a:Addr):HO->Prop
 |.lst d=>d.length<=sizeLine/\∃(b:List Value) (n:Nat),bv d b/\h.get? a=some { cls:=.type "list",data:=.seq b.toArray n }
 |.tup d=>d.length<=sizeLine/\∃b:List Value,bv d b/\IsTup h a b.toArray
 |.dK c=>c.length<=sizeLine/\(a==sysModules)=false/\∃vs,KV c vs/\h.DictOf (fM P w) a vs
 |.dT c=>c.length<=sizeLine/\(a==sysModules)=false/\∃d:List (List aX×Addr×Value),
   Paired (λ(p:List aX×V) (q:List aX×Addr×Value)=>p.1=q.1/\H q.2.1=!.tup (p.1.map kV)/\bj p.2 q.2.2) c d/\
   ∃o i l,h.get? a=!o/\o.ExactDict/\o.data=.dict i l/\i.toList=d.map (entryOfKey (tupleKind (fM P w)))/\(d.map (·.1)).Nodup
 |.set S n=>h.SetOf (intKind P w) a S n
 |.ins C g fs=>H g=!.own a/\fs.length<=1000/\g≠a/\h.get? a=!instObj C g/\
   ∃e,h.Ns1 g e/\(∀f,gj (fs.lookup f) (e f))/\PySem.Within e (fs.map (·.1))
 |.own _=>∃o,h.get? a=some o
 |.xd fs=>∃e,h.Ns1 a e/\∀f,gj (fs.lookup f) (e f)
 |.rng lo m=>∃t u v,h.get? a=some { cls:=.type "range",data:=.fields [.int lo t,.int m u,.int 1 v].toArray }
 |.frz o u=>h.get? a=!o/\dh H h a u
 |.tbl r=>h.get? a=some { cls:=.none,data:=.fields r }
 |.met f x=>h.get? a=some (PySem.W.methodObj (.ref f) (.ref x))
 |.ext φ=>φ h/\(∃o,h.get? a=!o)/\∀j k:Heap,φ j->(∀o,j.get? a=!o->k.get? a=!o)->φ k
def bL(H:Hp)(h:Heap):Prop:=∀a o,H a=!o->dh P w H h a o
end
theorem dh.lt(x:dh P w H h a o):a<h.objs.size:=by
 cases o with
 |lst c=>let⟨_,_,_,_,e⟩:=x;exact bS e
 |tup c=>let⟨_,_,_,p⟩:=x;exact p.lt
 |dK b=>let⟨_,_,_,_,o,_,_,e,_⟩:=x;exact bS e
 |dT b=>let⟨_,_,_,_,o,_,_,e,_⟩:=x;exact bS e
 |set S n=>let⟨o,_,_,_,e,_⟩:=x;exact bS e
 |ins C d fs=>let⟨_,_,_,e,_⟩:=x;exact bS e
 |own y=>let⟨_,e⟩:=x;exact bS e
 |xd fs=>obtain⟨_,⟨_,_,_,e,_⟩,_⟩:=x;exact bS e
 |rng lo g=>let⟨_,_,_,e⟩:=x;exact bS e
 |frz ob u=>let⟨e,_⟩:=x;exact bS e
 |tbl i=>exact bS (x)
 |met f y=>exact bS (x)
 |ext φ=>obtain⟨_,⟨_,e⟩,_⟩:=x;exact bS e
def Paired.mapP:∀{c:List α}{d},Paired F c d->(∀a b,F a b->G a b)->Paired G c d:=by
 intro c d h f
 induction h with
 |nil=>exact .nil
 |cons r _ e=>exact .cons (f _ _ r) e
def dh.stay(x:dh P w H h a o)(k:∀b u,(b=a\/H b=!.own a)->h.get? b=!u->h'.get? b=!u)
  (I:∀b,H b=!.own a->Z b=!.own a) (J:∀b m,H b=!.tup m->Z b=!.tup m):dh P w Z h' a o:=by
 induction o with
 |lst m=>let⟨z,l,n,r,e⟩:=x;exact#[z,l,n,r,k _ _ (.inl rfl) e]
 |tup m=>let⟨z,l,r,g,e,c⟩:=x;exact#[z,l,r,g,k _ _ (.inl rfl) e,c]
 |dK s=>let⟨z,y,vs,r,g,i,j,e,c⟩:=x;exact#[z,y,vs,r,g,i,j,k _ _ (.inl rfl) e,c]
 |dT s=>let⟨z,y,m,r,g,i,j,e,c⟩:=x;exact#[z,y,m,Paired.mapP r λp q z=>#[z.1,J _ _ z.2.1,z.2.2],g,i,j,k _ _ (.inl rfl) e,c]
 |set S n=>let⟨g,i,j,t,e,c⟩:=x;exact#[g,i,j,t,k _ _ (.inl rfl) e,c]
 |ins C L fs=>obtain⟨d,z,ne,e,A,⟨B,i,j,E,c⟩,r⟩:=x;exact#[I _ d,z,ne,k _ _ (.inl rfl) e,A,#[B,i,j,k _ _ (.inr d) E,c],r]
 |own y=>let⟨g,e⟩:=x;exact#[g,k _ _ (.inl rfl) e]
 |xd fs=>obtain⟨A,⟨B,i,j,e,c⟩,r⟩:=x;exact#[A,#[B,i,j,k _ _ (.inl rfl) e,c],r]
 |rng lo M=>let⟨t,u,v,e⟩:=x;exact#[t,u,v,k _ _ (.inl rfl) e]
 |frz g u G=>let⟨e,q⟩:=x;exact#[k _ _ (.inl rfl) e,G q]
 |tbl D=>exact k a _ (.inl rfl) x
 |met f y=>exact k a _ (.inl rfl) x
 |ext φ=>obtain⟨p,⟨o,e⟩,st⟩:=x;exact#[st _ _ p λo q=>k _ _ (.inl rfl) q,#[o,k _ _ (.inl rfl) e],st]
theorem bL.lt(x:bL P w H h)(e:H a=!o):a<h.objs.size:=(x a o e).lt
def bL.fresh{a:Addr}(x:bL P w H h)(e:h.objs.size<=a):H a=none:=by
 cases q:H a with
 |none=>rfl
 |some u=>exact absurd (q0k (x.lt q) e) (q0A _)
def bL.kept(x:bL P w H h)(k:∀b u,h.get? b=!u->h'.get? b=!u):bL P w H h':=λa o e=>(x a o e).stay (λb u _ q=>k b u q) (λ_ q=>q) λ_ _ q=>q
def bL.laid{a:Addr}(x:bL P w H h)(k:∀b u,h.get? b=!u->h'.get? b=!u)(f:h.objs.size<=a)(new:dh P w (aM H a o) h' a o):bL P w (aM H a o) h':=λb u e=>by
 have d:=x.fresh f
 by_cases hb:b=a
 .subst hb;rw[cI]at e;lia
 .rw[bt hb]at e;exact(x b u e).stay (λc v _ q=>k c v q) (λc q=>by rw[bt (jJ q d)];exact q) λc g q=>by rw[bt (jJ q d)];exact q
def Rd(H:Hp)(a:Addr)(u:HO):Prop:=H a=!u\/∃o,H a=!.frz o u
def Rd.of(h:H a=!u):Rd H a u:=.inl h
def Rd.ok(r:Rd H a u)(x:bL P w H h):dh P w H h a u:=by
 rcases r with r |⟨o,r⟩
 .exact x a u r
 .let⟨_,q⟩:=x a _ r;exact q
def qP:Option HO->Prop
 |some (.lst _)=>True
 |some (.dK _)=>True
 |some (.dT _)=>True
 |some (.set _ _)=>True
 |some (.ins _ _ _)=>True
 |some (.ext _)=>True
 |_=>False
def bL.write(ok:bL P w H h)(g:qP (H x))(m:e=x\/H e=!.own x)(k:∀b u,b≠e->h.get? b=!u->Y.get? b=!u)(l:∃u,Y.get? e=!u)
  (new:dh P w (aM H x X) Y x X):bL P w (aM H x X) Y:=λb u q=>by
 have d:∀c y,H c=!.own y->c≠x:=λc y r z=>by subst z;rw[r]at g;exact g
 have f:∀c i,H c=!.tup i->c≠x:=λc i r z=>by subst z;rw[r]at g;exact g
 by_cases hb:b=x
 .subst hb;rw[cI]at q;cases q;exact new
 .rw[bt hb]at q
  by_cases a:b=e
  .have n:H b=!.own x:=by
    simp_all
   rw[q]at n;cases n;let⟨v,hv⟩:=l;exact#[v,by rw[a];exact hv]
  .refine(ok b u q).stay (λc v j r=>k c v ?_ r) (λc r=>by rw[bt (d c b r)];exact r) λc i r=>by rw[bt (f c i r)];exact r
   rcases j with rfl |j
   .exact a
   .rintro rfl;rcases m with z |z
    .exact d c b j z
    .rw[j]at z;cases z;exact hb rfl
structure Un (fs ex:List Addr) (H H':Hp) (h h':Heap):Prop where
 keep:∀b o,h.get? b=!o->H b=none->b∉fs->b∉ex->h'.get? b=some o
 slot:∀b o,h.get? b=!o->H b=none->b∈fs->b∉ex->∃sl,h'.get? b=some { o with slots:=sl }
 free:∀b o,h.get? b=!o->H b=none->b∉ex->H' b=none
 there:∀b o,h.get? b=!o->b∉ex->∃o',h'.get? b=some o'
 tups:∀b xs,H b=!.tup xs->H' b=some (.tup xs)
 frzs:∀b o u,H b=!.frz o u->H' b=some (.frz o u)
 tbls:∀b ps,H b=!.tbl ps->∃more,H' b=!.tbl (ps++more)
def Un.any(u:Un fs ex H R h U)(q:h.get? b=!c)(n:H b=none)(d:b∉ex):∃f,U.get? b=some { c with slots:=f }:=by
 by_cases hb:b∈fs
 .exact u.slot b c q n hb d
 .exact#[c.slots,u.keep b c q n hb d]
def Un.kept(k:∀b u,h.get? b=!u->h'.get? b=!u):Un fs ex H H h h':=
 #[λb c q _ _ _=>k b c q,λb c q _ _ _=>#[c.slots,k b c q],λ_ _ _ n _=>n,λb c q _=>#[c,k b c q],λ_ _ q=>q,λ_ _ _ q=>q,λ_ d q=>#[#[],by rw[q];simp]]
def Un.refl:Un fs ex H H h h:=Un.kept λ_ _ q=>q
def Un.laid{h:Heap}{a:Addr}(k:∀b u,h.get? b=!u->h'.get? b=!u)(hp:h.objs.size<=a)(hn:H a=none):Un fs ex H (aM H a o) h h' where
 keep:=λb u q _ _ _=>k b u q
 slot:=λb u q _ _ _=>#[u.slots,k b u q]
 free:=λb u q n _=>by rw[bt (q0s (q0k (bS q) hp))];exact n
 there:=λb u q _=>#[u,k b u q]
 tups:=λb xs q=>by rw[bt (jJ q hn)];exact q
 frzs:=λb u xs q=>by rw[bt (jJ q hn)];exact q
 tbls:=λb ps q=>#[#[],by rw[bt (jJ q hn),q];simp]
def Un.write(d:qP (H x))(i:e=x\/H e=!.own x)(k:∀b u,b≠e->h.get? b=!u->h'.get? b=!u)(f:∃u,h'.get? e=!u):Un fs ex H (aM H x o) h h':=by
 have hx:∀b,H b=none->b≠x:=λb n z=>by subst z;rw[n]at d;exact d
 have hb:∀b,H b=none->b≠e:=λb n z=>by
  lia
 have g:∀b u,H b=!u->¬ qP (!u)->b≠x:=λb u q j z=>by simp_all
 refine#[λb u q n _ _=>k b u (hb b n) q,λb u q n _ _=>#[u.slots,k b u (hb b n) q],λb u q n _=>by rw[bt (hx b n)];exact n,λb u q _=>?_,
  λb l q=>by rw[bt (g b _ q λz=>z)];exact q,λb u l q=>by rw[bt (g b _ q λz=>z)];exact q,λb m q=>#[#[],by rw[bt (g b _ q λz=>z),q];simp]]
 by_cases c:b=e
 .subst c;exact f
 .exact#[u,k b u c q]
noncomputable def uo(h:Heap)(H:Hp):List Addr:=(List.range h.objs.size).filter λa=>(H a).isSome
def lu(h:Heap)(H:Hp):Heap:=PySem.W.hideAll h (uo h H)
def MN(e:h.get? b=!o)(n:H b=none):(lu h H).get? b=!o:=
 q17 _ e λa=>by have q:=(q1E.mp a).2;simp_all
def MO(e:(lu h H).get? b=!o):h.get? b=!o/\H b=none:=by
 have e':=PySem.W.of_hideAll (uo h H) e;refine#[e',?_];cases q:H b with
 |none=>rfl
 |some x=>have z:(lu h H).get? b=none:=q14 (uo h H) (q1E.mpr #[q2f.mpr (bS e'),by simp[q]]);lia
structure Mod (K:Frag) (mg:Str->Option Value) (base:Heap):Prop where
 kin:K.In base
 glob:base.Ns mainGlobals mg
 blt:∃mb,base.Ns builtinsNs mb/\∀x:Str,x≠"__name__"->mb x=bootBuiltins x
 nolimit:base.NoLimit
structure Cx where
 prog:Program
 w:World
 K:Frag
 mg:Str->Option Value
 base:Heap
 A:Around
 N:List Str
 s₀:Shared
 H₀:Hp
 env:Env
 outer:List Env
 stack:List Env
 ex:List Addr
 fn:Str->Bool
 calm:Bool
 pn:List (Addr×Obj)
 xe:Value->Shared->Prop
noncomputable def cu(l:List Env):List Addr:=l.filterMap (·.frame)
abbrev Cx.fs(X:Cx):List Addr:=cu X.outer
def uq(a:Scope)(x:Str):Prop:=a.names.lookup x=!.local\/a.names.lookup x=!.cell\/a.names.lookup x=!.free
def Loc(a:Scope)(x:Str):Prop:=a.names.lookup x=!.local\/a.names.lookup x=!.cell
def MP(a:Env)(h:Heap)(m:Str->Option Value)(x:Str)(u:Value):Prop:=
 (a.kindOf x=!.local/\m x=!u)\/((a.kindOf x=!.cell\/a.kindOf x=!.free)/\∃c,a.cells.lookup x=!c/\h.IsCell c (!u))
structure Cx.Ok (X:Cx):Prop where
 mod:Mod X.K X.mg X.base
 kind:X.env.scope.kind=.function
 glob:X.env.globals=mainGlobals
 blt:X.env.builtins=builtinsNs
 above:X.s₀.heap.objs.size<=X.env.locals
 inj:∀x y c,X.env.cells.lookup x=!c->X.env.cells.lookup y=!c->x=y
 has:∀x,(X.env.kindOf x=!.cell\/X.env.kindOf x=!.free)->∃c,X.env.cells.lookup x=some c
 cab:∀x c,X.fn x=true->X.env.cells.lookup x=!c->X.s₀.heap.objs.size<=c
 hd:X.calm=true->X.A.handled=none
 frames:X.A.frames=some X.stack
 stk:X.stack=X.outer\/(X.stack=X.env::X.outer/\X.env.frame=!X.env.locals)
 exf:∀b∈X.ex,b≠X.env.locals/\∀x c,X.env.cells.lookup x=!c->c≠b
 bs:∀b o,X.base.get? b=!o->X.s₀.heap.get? b=!o/\X.H₀ b=none
 bsz:X.base.objs.size<=X.s₀.heap.objs.size
 noex:∀b o,X.base.get? b=!o->b∉X.ex
 exfs:∀b∈X.ex,b∉X.fs
 funs:X.s₀.heap.FunFrames X.base X.outer
 frf:∀b∈X.fs,X.H₀ b=none
structure Inv (X:Cx) (pins:List (Addr×Obj)) (Y:List (Option V)) (H:Hp) (s:Shared):Prop where
 ok:X.Ok
 os:s.os=X.s₀.os
 bare:AllBare s.gens
 base:Un X.fs X.ex X.H₀ H X.s₀.heap s.heap
 loc:∃m,s.heap.Ns X.env.locals m/\∀(i:Nat) (x:Str) (v:V),X.N[i]? = !x->Y[i]? = !!v->uq X.env.scope x->∃u,bj v u/\MP X.env s.heap m x u
 cell:∀x c,X.env.cells.lookup x=!c->∃v,s.heap.IsCell c v
 free:H X.env.locals=none
 freeC:∀x c,X.env.cells.lookup x=!c->H c=none
 pin:∀p∈X.pn++pins,s.heap.get? p.1=!p.2/\H p.1=none/\p.1≠X.env.locals/\p.1∉X.fs/\∀v,p.2.data≠.cell v
 hok:bL X.prog X.w H s.heap
 len:Y.length=X.N.length
def Cx.Ok.nofr{X:Cx}(ok:X.Ok)(e:X.base.get? b=!o):b∉X.fs:=λa=>by have:=(ok.funs.mem a).1;lia
theorem Inv.bs(I:Inv X J Y H s):∀b o,X.base.get? b=!o->s.heap.get? b=!o/\H b=none:=λb o e=>#[I.base.keep b o (I.ok.bs b o e).1 (I.ok.bs b o e).2 (I.ok.nofr e) (I.ok.noex b o e),I.base.free b o (I.ok.bs b o e).1 (I.ok.bs b o e).2 (I.ok.noex b o e)]
def Inv.bk(I:Inv X J Y H s):∀b o,X.base.get? b=!o->s.heap.get? b=!o:=λb o e=>(I.bs b o e).1
theorem Inv.mod(I:Inv X J Y H s):Mod X.K X.mg X.base:=I.ok.mod
def Inv.kIn(I:Inv X J Y H s):X.K.In s.heap:=I.ok.mod.kin.keeps I.bk
theorem Inv.lt(I:Inv X J Y H s):X.env.locals<s.heap.objs.size:=(by let⟨_,a,_⟩:=I.loc;exact a.lt)
def Inv.sz(I:Inv X J Y H s):X.s₀.heap.objs.size<=s.heap.objs.size:=q0C I.ok.above (q1C I.lt)
def Inv.nofs(I:Inv X J Y H s){a:Addr}(h:s.heap.objs.size<=a):a∉X.fs:=λb=>by let⟨_,o,c,_⟩:=I.ok.funs.mem b;exact absurd (q0k (bS c) (q0C I.sz h)) (q0A _)
def Inv.cne(I:Inv X J Y H s):∀x c,X.env.cells.lookup x=!c->c≠X.env.locals:=λx c e z=>by let⟨v,o,ho,hd⟩:=I.cell x c e;obtain⟨m,⟨d,f,g,a,b,_⟩,_⟩:=I.loc;lia
theorem Inv.funs(I:Inv X J Y H s):s.heap.FunFrames X.base X.outer:=by
 have all:∀(l:List Env),(∀b∈cu l,b∈X.fs)->X.s₀.heap.FunFrames X.base l->s.heap.FunFrames X.base l:=by
  intro l
  induction l with
  |nil=>intro _ _;trivial
  |cons env r g=>intro f h;obtain⟨i,⟨L,o,a,j,ho,hd⟩,k⟩:=h;have c:=f L (by unfold cu;simp_all);let⟨m,e⟩:=I.base.slot L o ho (I.ok.frf L c) c λz=>I.ok.exfs L z c;exact#[i,#[L,_,a,j,e,hd],g (λb d=>f b (by unfold cu;rw[q1y,a];exact bK _ d)) k]
 exact all X.outer (λ_ d=>d) I.ok.funs
theorem Inv.stack(I:Inv X J Y H s):s.heap.FunFrames X.base X.stack:=by
 rcases I.ok.stk with e |⟨e,a⟩
 .rw[e];exact I.funs
 .rw[e];let⟨m,b,_⟩:=I.loc;refine .cons (by rw[I.ok.kind];decide) a b ?_ I.funs;exact Heap.get?_none_of_le (q0C I.ok.bsz I.ok.above)
def Inv.stkSub(I:Inv X J Y H s):∀b∈cu X.stack,b∈X.env.locals::X.fs:=λb a=>by
 rcases I.ok.stk with e |⟨e,c⟩
 .rw[e]at a;exact bK _ a
 .rw[e]at a;unfold cu at a;rw[q1y,c]at a;exact a
def Inv.stkFree(I:Inv X J Y H s):∀b∈cu X.stack,H b=none:=λb a=>by
 rcases q0c.mp (I.stkSub b a) with e |a
 .rw[e];exact I.free
 .let⟨_,o,c,_⟩:=I.ok.funs.mem a;exact I.base.free b o c (I.ok.frf b a) λz=>I.ok.exfs b z a
def Inv.step{ch:List Addr}(I:Inv X J Y H s)
  (f:∀b∈ch,(b∈X.ex\/X.s₀.heap.objs.size<=b)/\b≠X.env.locals/\(∀x c,X.env.cells.lookup x=!c->c≠b)/\∀p∈X.pn++J,p.1≠b)
  (keep:∀b o,b≠X.env.locals->b∉X.fs->b∉ch->s.heap.get? b=!o->H b=none->h'.get? b=!o)
  (slot:∀b o,b≠X.env.locals->b∈X.fs->b∉ch->s.heap.get? b=!o->H b=none->∃Q,h'.get? b=some { o with slots:=Q }) (free:∀b o,b∉ch->s.heap.get? b=!o->H b=none->G b=none)
  (there:∀b o,b∉ch->s.heap.get? b=!o->∃B,h'.get? b=!B)
  (E:∀b y,H b=!.tup y->G b=!.tup y) (L:∀b o u,H b=!.frz o u->G b=!.frz o u) (M:∀b N,H b=!.tbl N->∃more,G b=!.tbl (N++more))
  (ns:∀m,s.heap.Ns X.env.locals m->h'.Ns X.env.locals m) (R:bL X.prog X.w G h') (Z:AllBare g') :
  Inv X J Y G { s with heap:=h',gens:=g',drawn:=d',toks:=t' }:=by
 have C:∀b o,X.s₀.heap.get? b=!o->b≠X.env.locals:=λb o e=>q0s (q0k (bS e) I.ok.above);have j:∀b o,X.s₀.heap.get? b=!o->b∉X.ex->b∉ch:=λb o e a A=>by
  rcases(f b A).1 with z |z
  .exact a z
  .exact absurd (q0k (bS e) z) (q0A _)
 have g:∀x c,X.env.cells.lookup x=!c->∀v,s.heap.IsCell c v->h'.IsCell c v:=λx c e v ⟨o,ho,hd⟩=>by
  have h:c∉ch:=λz=>(f c z).2.2.1 x c e rfl
  by_cases S:c∈X.fs
  .let⟨Q,q⟩:=slot c o (I.cne x c e) S h ho (I.freeC x c e);exact#[_,q,hd]
  .exact#[o,keep c o (I.cne x c e) S h ho (I.freeC x c e),hd]
 refine#[I.ok,I.os,Z,#[λb o e n A a=>?_,λb o e n A a=>?_,λb o e n a=>?_,λb o e a=>?_,λb y e=>E b y (I.base.tups b y e),λb o y e=>L b o y (I.base.frzs b o y e),λb N e=>?_],?_,λx c e=>?_,?_,λx c e=>?_,λp T=>?_,R,I.len]
 .exact keep b o (C b o e) A (j b o e a) (I.base.keep b o e n A a) (I.base.free b o e n a)
 .let⟨Q,t⟩:=I.base.slot b o e n A a;let⟨O,D⟩:=slot b _ (C b o e) A (j b o e a) t (I.base.free b o e n a);exact#[O,D]
 .let⟨B,t⟩:=I.base.there b o e a;exact free b B (j b o e a) t (I.base.free b o e n a)
 .let⟨B,t⟩:=I.base.there b o e a;exact there b B (j b o e a) t
 .let⟨m1,t⟩:=I.base.tbls b N e;let⟨m2,D⟩:=M b _ t;exact#[m1++m2,by rw[D,Array.append_assoc]]
 .let⟨m,hn,hl⟩:=I.loc;refine#[m,ns m hn,λi x v t D e3=>?_];let⟨u,r,l⟩:=hl i x v t D e3;refine#[u,r,?_];rcases l with l |⟨k,c,e,z⟩
  .exact .inl l
  .exact .inr #[k,c,e,g x c e _ z]
 .let⟨v,z⟩:=I.cell x c e;exact#[v,g x c e v z]
 .obtain⟨m,⟨o,_,_,ho,_⟩,_⟩:=I.loc;exact free _ o (λz=>(f _ z).2.1 rfl) ho I.free
 .let⟨v,o,ho,hd⟩:=I.cell x c e;exact free c o (λz=>(f c z).2.2.1 x c e rfl) ho (I.freeC x c e)
 .let⟨e,n,ne,U,d⟩:=I.pin p T;have h:p.1∉ch:=λz=>(f p.1 z).2.2.2 p T rfl;exact#[keep p.1 p.2 ne U h e n,free p.1 p.2 h e n,ne,U,d]
def Inv.un(I:Inv X J Y H s)(u:Un X.fs [] H G s.heap h')(f:bL X.prog X.w G h'):Inv X J Y G { s with heap:=h',toks:=t' }:=by
 obtain⟨m,⟨o,k,l,ho,r⟩,_⟩:=id I.loc;let⟨t,h⟩:=u.any ho I.free 'd';exact I.step (ch:=[]) (λ_ z=>nomatch z) (λb o _ g _ e n=>u.keep b o e n g 'd') (λb o _ g _ e n=>u.slot b o e n g 'd') (λb o _ e n=>u.free b o e n 'd') (λb o _ e=>u.there b o e 'd') u.tups u.frzs u.tbls (λp i=>by
  let⟨q,c,d,a,j⟩:=i;rw[ho]at a;cases a;exact#[_,c,d,h,j]) f I.bare
def Inv.call(I:Inv X J Y H s)(u:Un (cu X.stack) ch H G s.heap h')(j:bL X.prog X.w G h')(k:AllBare g')
  (d:∀b∈ch,(b∈X.ex\/X.s₀.heap.objs.size<=b)/\b≠X.env.locals/\(∀x c,X.env.cells.lookup x=!c->c≠b)/\∀p∈X.pn++J,p.1≠b) :
  Inv X J Y G { s with heap:=h',gens:=g',drawn:=d',toks:=t' }:=by
 obtain⟨m,⟨o,v,y,ho,r⟩,_⟩:=id I.loc;let⟨C,g⟩:=u.any ho I.free λz=>(d _ z).2.1 rfl;exact I.step d (λb o g t a e n=>u.keep b o e n (λz=>(q0c.mp (I.stkSub b z)).elim g t) a) (λb o _ _ a e n=>u.any e n a) (λb o a e n=>u.free b o e n a) (λb o a e=>u.there b o e a) u.tups u.frzs u.tbls (λA l=>by
  let⟨B,h,i,f,q⟩:=l;rw[ho]at f;cases f;exact#[_,h,i,g,q]) j k
def Inv.turned(I:Inv X J Y H s)(k:∀b o,b≠it->s.heap.get? b=!o->h'.get? b=!o)(g:H it=none)(f:it≠X.env.locals)
  (h:it∈X.ex\/X.s₀.heap.objs.size<=it) (i:∀x c,X.env.cells.lookup x=!c->c≠it) (j:∀p∈X.pn++J,p.1≠it):Inv X J Y H { s with heap:=h',toks:=t' }:=by
 have d:∀b u,H b=!u->b≠it:=λb u e z=>by lia
 refine I.step (g':=s.gens) (d':=s.drawn) (ch:=[it]) (λb y=>?_) (λb o _ _ a e _=>k b o (λz=>a (by simp[z])) e) (λb o _ _ a e _=>#[o.slots,k b o (λz=>a (by simp[z])) e]) (λ_ _ _ _ n=>n)
  (λb o a e=>#[o,k b o (λz=>a (by simp[z])) e]) (λ_ _ e=>e) (λ_ _ _ e=>e) (λb A e=>#[#[],by rw[e];simp]) (λm l=>?_) (λb u e=>?_) I.bare
 .have e:b=it:=by simpa using y
  subst e;exact#[h,f,i,j]
 .let⟨o,t,w,ho,r⟩:=l;exact#[o,t,w,k _ o (Ne.symm f) ho,r]
 .refine(I.hok b u e).stay (λc v a q=>k c v ?_ q) (λ_ q=>q) λ_ _ q=>q;rcases a with z |z
  .rw[z];exact d b u e
  .exact d c _ z
def Inv.tok(I:Inv X J Y H s)(t):Inv X J Y H { s with toks:=t }:=I.un Un.refl I.hok
theorem Inv.kept(I:Inv X J Y H s)(k:∀b u,s.heap.get? b=!u->h'.get? b=!u):Inv X J Y H { s with heap:=h',toks:=t' }:=I.un (Un.kept k) (I.hok.kept k)
theorem Inv.laid{a:Addr}(I:Inv X J Y H s)(k:∀b u,s.heap.get? b=!u->h'.get? b=!u)(c:s.heap.objs.size<=a)(new:dh X.prog X.w (aM H a o) h' a o) :
  Inv X J Y (aM H a o) { s with heap:=h',toks:=t' }:=I.un (Un.laid k c (I.hok.fresh c)) (I.hok.laid k c new)
theorem Inv.write(I:Inv X J Y H s)(c:qP (H x))(d:e=x\/H e=!.own x)(k:∀b u,b≠e->s.heap.get? b=!u->h'.get? b=!u)(a:∃u,h'.get? e=!u)
  (new:dh X.prog X.w (aM H x o) h' x o):Inv X J Y (aM H x o) { s with heap:=h',toks:=t' }:=I.un (Un.write c d k a) (I.hok.write c d k a new)
def Inv.pins_of(I:Inv X J Y H s)(h:∀p∈pins',s.heap.get? p.1=!p.2/\H p.1=none/\p.1≠X.env.locals/\p.1∉X.fs/\∀v,p.2.data≠.cell v):Inv X pins' Y H s:=
 #[I.ok,I.os,I.bare,I.base,I.loc,I.cell,I.free,I.freeC,λp a=>(q0b.mp a).elim (λz=>I.pin p (bB _ z)) (h p),I.hok,I.len]
def yf{N:List Str}(c:N.Nodup){j:Nat}(a:N[i]? = !x)(b:N[j]? = !x):i=j:=by let⟨f,d⟩:=q0a.mp a;let⟨g,e⟩:=q0a.mp b;exact(List.getElem_inj c).mp (d.trans e.symm)
def CJ(I:Inv X J Y H s)(hN:X.N.Nodup)(T:X.N[i]? = !x)(B:Loc X.env.scope x)(r:bj v u)
  (h:∀s',Inv X J (Y.set i (!v)) H s'->(∃a,Heap.SameBut a s.heap s'.heap/\(a=X.env.locals\/X.env.cells.lookup x=!a))->Q () s') (hf:autoParam (X.fn x=true\/X.env.scope.names.lookup x=!.local) Zqa._auto_1):wpAny M A (storeName X.env x u) Q E s:=by
 let⟨m,hn,hl⟩:=id I.loc;have U:(X.env.scope.kind==.class||(X.env.scope.kind==.module&&X.env.locals != X.env.globals))=false:=by rw[I.ok.kind];rfl
 have Z:i<Y.length:=by rw[I.len];exact(q0a.mp T).1
 have cne:=I.cne;have g:∀{a:Addr}{h':Heap},(∃o,s.heap.get? a=!o/\H a=none)->Heap.SameBut a s.heap h'->bL X.prog X.w H h':=λ{a h'} ha f b ob e=>by
  let⟨_,_,C⟩:=ha;refine(I.hok b ob e).stay (λc w' t q=>(f.2 c ?_).trans q) (λ_ q=>q) λ_ _ q=>q;rintro rfl;rcases t with rfl |t
  .rw[C]at e;cases e
  .rw[C]at t;cases t
 rcases B with L |L
 .refine wpAny_storeName_local L hn (λh' a4 f=>?_) U;let⟨oL,_,_,a5,_⟩:=id hn;refine h _ #[I.ok,I.os,I.bare,#[λb o e n S B=>?_,λb o e n S B=>?_,I.base.free,λb o e B=>?_,I.base.tups,I.base.frzs,I.base.tbls],#[_,a4,λj y v' l D e3=>?_],λy c e=>?_,I.free,I.freeC,λp hp=>?_,g #[oL,a5,I.free] f,by simpa using I.len] #[_,f,.inl rfl]
  .exact(f.2 b (q0s (q0k (bS e) I.ok.above))).trans (I.base.keep b o e n S B)
  .let⟨sl,l⟩:=I.base.slot b o e n S B;exact#[sl,(f.2 b (q0s (q0k (bS e) I.ok.above))).trans l]
  .let⟨o',l⟩:=I.base.there b o e B;exact#[o',(f.2 b (q0s (q0k (bS e) I.ok.above))).trans l]
  .by_cases O:j=i
   .subst O;rw[T]at l;cases l;rw[q0p Z]at D;cases D;exact#[u,r,.inl #[L,by simp]]
   .rw[q0o (Ne.symm O)]at D;let⟨u',r',q⟩:=hl j y v' l D e3;refine#[u',r',?_];rcases q with⟨k,e⟩ |⟨k,c,e,z⟩
    .refine .inl #[k,?_];have:y≠x:=λe=>O (yf hN l (e▸T));simp[this,e]
    .exact .inr #[k,c,e,z.sameBut f (cne y c e)]
  .let⟨w',z⟩:=I.cell y c e;exact#[w',z.sameBut f (cne y c e)]
  .let⟨e,n,ne,nf,d⟩:=I.pin p hp;exact#[(f.2 p.1 ne).trans e,n,ne,nf,d]
 .have R:X.fn x=true:=by
   rcases hf with z |z
   .exact z
   .rw[z]at L;cases L
  let⟨c,t⟩:=I.ok.has x (.inl L);let⟨w',z⟩:=I.cell x c t;refine wpAny_storeName_cell I.ok.kind L t z (λh' a0 f=>?_);let⟨oc,a1,a2⟩:=id z;refine h { s with heap:=h' } #[I.ok,I.os,I.bare,#[λb o e n S B=>?_,λb o e n S B=>?_,I.base.free,λb o e B=>?_,I.base.tups,I.base.frzs,I.base.tbls],#[m,hn.sameBut f (Ne.symm (cne x c t)),λj y v' l D e3=>?_],λy c' e=>?_,I.free,I.freeC,λp hp=>?_,g #[oc,a1,I.freeC x c t] f,by simpa using I.len] #[c,f,.inr t]
  .exact(f.2 b (q0s (q0k (bS e) (I.ok.cab x c R t)))).trans (I.base.keep b o e n S B)
  .let⟨sl,l⟩:=I.base.slot b o e n S B;exact#[sl,(f.2 b (q0s (q0k (bS e) (I.ok.cab x c R t)))).trans l]
  .let⟨o',l⟩:=I.base.there b o e B;exact#[o',(f.2 b (q0s (q0k (bS e) (I.ok.cab x c R t)))).trans l]
  .by_cases O:j=i
   .subst O;rw[T]at l;cases l;rw[q0p Z]at D;cases D;exact#[u,r,.inr #[.inl L,c,t,a0]]
   .rw[q0o (Ne.symm O)]at D;let⟨u',r',q⟩:=hl j y v' l D e3;refine#[u',r',?_];rcases q with q |⟨k,c',e,z'⟩
    .exact .inl q
    .refine .inr #[k,c',e,z'.sameBut f ?_];rintro rfl;exact O (yf hN l (I.ok.inj _ _ _ e t▸T))
  .by_cases a3:c' = c
   .subst a3;exact#[_,a0]
   .let⟨w2,z2⟩:=I.cell y c' e;exact#[w2,z2.sameBut f a3]
  .let⟨e,n,ne,nf,d⟩:=I.pin p hp;refine#[(f.2 p.1 ?_).trans e,n,ne,nf,d];intro q;rw[q,a1]at e;have q':oc=p.2:=q0x e;exact d w' (by rw[<-q'];exact a2)
def yg(I:Inv X J Y H s)(b:X.N.Nodup)(c:X.N[i]? = !x)(f:Loc X.env.scope x)(r:bj v u)
  (h:∀a,Inv X J (Y.set i (!v)) H a->Q () a) (d:autoParam (X.fn x=true\/X.env.scope.names.lookup x=!.local) Zqa._auto_1):wpAny M A (storeName X.env x u) Q E s:=
 CJ I b c f r (λa e _=>h a e) d
def Inv.call'(I:Inv X J Y H s)(k:a.os=s.os)(u:Un (cu X.stack) ch H G s.heap a.heap)(f:bL X.prog X.w G a.heap)(g:AllBare a.gens)
  (d:∀b∈ch,(b∈X.ex\/X.s₀.heap.objs.size<=b)/\b≠X.env.locals/\(∀x c,X.env.cells.lookup x=!c->c≠b)/\∀p∈X.pn++J,p.1≠b):Inv X J Y G a:=by
 let⟨h',h,i,t',j⟩:=a;subst k;exact I.call u f g d
abbrev XK:=Value->Option Addr->Hp->Prop
abbrev St:=List (Option V)
abbrev VK:=V->Hp->Prop
abbrev TE:=St->Hp->VK->Prop
abbrev TT:=St->Hp->(Bool->Hp->Prop)->Prop
abbrev TA:=St->Hp->(List V->Hp->Prop)->Prop
structure gy where
 nx:St->Hp->Prop
 rt:VK
 bk:St->Hp->Prop:=λ_ _=>False
 ct:St->Hp->Prop:=λ_ _=>False
abbrev TS:=gy->St->Hp->Prop
def EP(X:Cx)(a:List (Addr×Obj))(Y:St)(Q:VK)(u:Value)(c:Shared):Prop:=∃v b,Inv X a Y b c/\bj v u/\Q v b
def TP(X:Cx)(a:List (Addr×Obj))(Y:St)(Q:Bool->Hp->Prop)(b:Bool)(d:Shared):Prop:=∃c,Inv X a Y c d/\Q b c
def AP(X:Cx)(a:List (Addr×Obj))(Y:St)(Q:List V->Hp->Prop)(c:List Value)(d:Shared):Prop:=∃vs b,Inv X a Y b d/\bv vs c/\Q vs b
def SP(X:Cx)(a:List (Addr×Obj))(D:gy)(f:Flow)(d:Shared):Prop:=
 match f with
 |.next=>∃c b,Inv X a c b d/\D.nx c b
 |.brk=>∃c b,Inv X a c b d/\D.bk c b
 |.cont=>∃c b,Inv X a c b d/\D.ct c b
 |.ret u=>∃v c b,Inv X a c b d/\bj v u/\D.rt v b
def PE(X:Cx)(e:Expr)(t:TE):Prop:=
 ∀(a:List (Addr×Obj)) (s:Shared) (Y:St) (H:Hp) (Q:VK),Inv X a Y H s->t Y H Q->wpAny (model X.prog X.w) X.A (eval e X.env) (EP X a Y Q) X.xe s
def PT(X:Cx)(e:Expr)(t:TT):Prop:=
 ∀(a:List (Addr×Obj)) (s:Shared) (Y:St) (H:Hp) (Q:Bool->Hp->Prop),Inv X a Y H s->t Y H Q->wpAny (model X.prog X.w) X.A (isTrue e X.env (eval e X.env)) (TP X a Y Q) X.xe s
def PW(X:Cx)(e:Expr)(t:TT):Prop:=
 ∀(whole:Sem Value) (a:List (Addr×Obj)) (s:Shared) (Y:St) (H:Hp) (Q:Bool->Hp->Prop),Inv X a Y H s->t Y H Q->wpAny (model X.prog X.w) X.A (isTrue e X.env whole) (TP X a Y Q) X.xe s
def PW.pt(h:PW X e t):PT X e t:=h _
def PA(X:Cx)(b:List Expr)(t:TA):Prop:=
 ∀(pos:Pos) (a:List (Addr×Obj)) (s:Shared) (Y:St) (H:Hp) (Q:List V->Hp->Prop),Inv X a Y H s->t Y H Q->wpAny (model X.prog X.w) X.A (spliced (backTo pos (starEach b X.env))) (AP X a Y Q) X.xe s
def PS(X:Cx)(st:Stmt)(t:TS):Prop:=
 ∀(a:List (Addr×Obj)) (s:Shared) (Y:St) (H:Hp) (D:gy),Inv X a Y H s->t D Y H->wpAny (model X.prog X.w) X.A (exec st X.env) (SP X a D) X.xe s
def PSs(X:Cx)(st:List Stmt)(t:TS):Prop:=
 ∀(a:List (Addr×Obj)) (s:Shared) (Y:St) (H:Hp) (D:gy),Inv X a Y H s->t D Y H->wpAny (model X.prog X.w) X.A (execs st X.env) (SP X a D) X.xe s
def aS{t:Sem α}{Q b}(h:wpAny M A t Q E s)(c:∀a s,Q a s->b a s):wpAny M A t b E s:=wpAny_mono h c λ_ _ x=>x
def bQ(i:Nat):TE:=λY H Q=>∃v,Y[i]? = !!v/\Q v H
def tC(v:V):TE:=λ_ H Q=>Q v H
def nQ:PE X (.Constant (.int i) j pos) (tC (.int i)):=λ_ _ _ H _ I h=>wpAny_Constant_int #[.int i,H,I.tok _,#[_,rfl],h]
def MR:PE X (.Constant (.bool b) j pos) (tC (.bl b)):=λ_ _ _ H _ I h=>Constant_bool #[.bl b,H,I,rfl,h]
def ur:PE X (.Constant .none j pos) (tC .non):=λ_ _ _ H _ I h=>Constant_none #[.non,H,I,rfl,h]
def nR:PE X (.Constant (.str x) j pos) (tC (.str x)):=λ_ _ _ H _ I h=>Calls.Constant_str #[.str x,H,I.tok _,#[_,rfl],h]
def Gl(X:Cx)(x:Str):Prop:=X.env.kindOf x=!.globalImplicit
def pG{Y:St}(I:Inv X a Y H s)(b:Gl X x)(c:X.mg x=!u)(h:Q u s)
  (hd:autoParam ((x==("__debug__":Str))=false) Zr._auto_1):wpAny (model X.prog X.w) X.A (eval (.Name x pos) X.env) Q E s:=
 Calls.Name_function_global I.ok.kind b (Calls.loadGlobal_global (by rw[I.ok.glob];exact I.mod.glob.keeps I.bk) c h) hd
def jK{E}{Y:St}{pos}(I:Inv X a Y H s)(b:Gl X x)(c:X.mg x=none)(g:bootBuiltins x=!u)(h:Q u s)
  (d:autoParam (x≠"__name__") Zr._auto_1) (hd:autoParam ((x==("__debug__":Str))=false) Zr._auto_1):wpAny (model X.prog X.w) X.A (eval (.Name x pos) X.env) Q E s:=by
 let⟨i,e,f⟩:=I.mod.blt;exact Calls.Name_function_global I.ok.kind b (Calls.loadGlobal_builtin (by rw[I.ok.glob];exact I.mod.glob.keeps I.bk) c (by rw[I.ok.blt];exact e.keeps I.bk) ((f x d).trans g) h) hd
def CL(a:Gl X x)(b:X.mg x=!u)(r:bj v u)(hd:autoParam ((x==("__debug__":Str))=false) Zr._auto_1):PE X (.Name x pos) (tC v):=
 λ_ _ _ H _ I h=>pG I a b #[v,H,I,r,h] hd
def kv{pos}(a:Gl X x)(b:X.mg x=none)(d:bootBuiltins x=!u)(r:bj v u)(c:autoParam (x≠"__name__") Zr._auto_1)(hd:autoParam ((x==("__debug__":Str))=false) Zr._auto_1):PE X (.Name x pos) (tC v):=
 λ_ _ _ H _ I h=>jK I a b d #[v,H,I,r,h] c hd
def PC(X:Cx)(op:CmpOp)(a b:Expr)(t:TE):Prop:=
 ∀(c:List (Addr×Obj)) (s:Shared) (Y:St) (H:Hp) (Q:VK),Inv X c Y H s->t Y H Q->
  wpAny (model X.prog X.w) X.A (eval a X.env) (λv d=>wpAny (model X.prog X.w) X.A (eval b X.env) (λu e=>wpAny (model X.prog X.w) X.A (compareOp op v u) (EP X c Y Q) X.xe e) X.xe d) X.xe s
def tB(t:TE):TT:=λY H Q=>t Y H λx d=>∃c,x=.bl c/\Q c d
def MS(h:PC X op a b t)(i:behindInMarks op b=false:=by first |exact e _ 'f' 'f' |rfl):PT X (.Compare a [op] [b] pos) (tB t):=by intro f s Y H Q I j;refine wpAny_isTrue_Compare1 (aS (h f s Y H _ I j) λv n i=>aS i λu o k=>aS k λc p g=>?_) i;let⟨x,l,I1,m,q1⟩:=g;let⟨d,rfl,q⟩:=q1;cases m;exact wpAny_truthy_bool #[l,I1,q]
def MT(h:PE X e t)(f:autoParam (∀whole,isTrue e X.env whole=(do let v <-whole;standAt e.pos;holding [v] (truthy v))) Zs._auto_1):PT X e (tB t):=by intro c s Y H Q I g;refine isTrue_plain (aS (h c s Y H _ I g) λv l i=>?_) (f _);let⟨x,j,I1,k,q1⟩:=i;let⟨d,rfl,q⟩:=q1;cases k;exact wpAny_truthy_bool #[j,I1,q]
def MU(t u:TT):TT:=λY H Q=>t Y H λc d=>if c=true then u Y d Q else Q false d
def MV(t u:TT):TT:=λY H Q=>t Y H λc d=>if c=true then Q true d else u Y d Q
def MW(t:TT):TT:=λY H Q=>t Y H λc d=>Q (not c) d
def MX(f:PT X a L):PW X (.BoolOp .And [a] pos) L:=by
 intro g d s Y H Q I h;refine isTrue_and (aS (f d s Y H Q I h) λc i e=>?_);cases c with
 |true=>exact isTrue_and_nil e
 |false=>exact e
def MY(f:PT X a L):PW X (.BoolOp .Or [a] pos) L:=by
 intro g d s Y H Q I h;refine isTrue_or (aS (f d s Y H Q I h) λc i e=>?_);cases c with
 |false=>exact isTrue_or_nil e
 |true=>exact e
def MZ(f:PT X a L)(k:PW X (.BoolOp .And (b::rest) pos) D):PW X (.BoolOp .And (a::b::rest) pos) (MU L D):=by
 intro g d s Y H Q I h;refine isTrue_and (aS (f d s Y H _ I h) λc i j=>?_);let⟨e,I1,q1⟩:=j;cases c with
 |true=>exact k g d i Y e Q I1 q1
 |false=>exact#[e,I1,q1]
def Na(f:PT X a L)(k:PW X (.BoolOp .Or (b::rest) pos) D):PW X (.BoolOp .Or (a::b::rest) pos) (MV L D):=by
 intro g d s Y H Q I h;refine isTrue_or (aS (f d s Y H _ I h) λc i j=>?_);let⟨e,I1,q1⟩:=j;cases c with
 |true=>exact#[e,I1,q1]
 |false=>exact k g d i Y e Q I1 q1
def Nb(e:PT X a L):PT X (.UnaryOp .Not a pos) (MW L):=by intro d s Y H Q I h;exact isTrue_not (e d s Y H (λc f=>Q (not c) f) I h)
def Nc(ta M:TE):TE:=λY H Q=>ta Y H λx d=>∃c,x=.bl c/\if c=true then M Y d Q else Q (.bl false) d
def Nd(ta M:TE):TE:=λY H Q=>ta Y H λx d=>∃c,x=.bl c/\if c=true then Q (.bl true) d else M Y d Q
def Nf(ta:TE):TE:=λY H Q=>ta Y H λx d=>∃c,x=.bl c/\Q (.bl (not c)) d
def Ng(h:PE X a t):PE X (.BoolOp op [a] pos) t:=λc s Y H Q I d=>BoolOp_one (h c s Y H Q I d)
def Nh(g:PE X a ta)(k:PE X (.BoolOp .And (b::rest) pos) M):PE X (.BoolOp .And (a::b::rest) pos) (Nc ta M):=by
 intro d s Y H Q I h;refine BoolOp_and (aS (g d s Y H _ I h) λv i e=>?_);let⟨x,f,I1,j,q1⟩:=e;let⟨c,rfl,q1⟩:=q1;cases j;apply wpAny_truthy_bool;cases c with
 |true=>exact k d i Y f Q I1 q1
 |false=>exact#[.bl false,f,I1,rfl,q1]
def Ni(g:PE X a ta)(k:PE X (.BoolOp .Or (b::rest) pos) M):PE X (.BoolOp .Or (a::b::rest) pos) (Nd ta M):=by
 intro d s Y H Q I h;refine BoolOp_or (aS (g d s Y H _ I h) λv i e=>?_);let⟨x,f,I1,j,q1⟩:=e;let⟨c,rfl,q1⟩:=q1;cases j;apply wpAny_truthy_bool;cases c with
 |false=>exact k d i Y f Q I1 q1
 |true=>exact#[.bl true,f,I1,rfl,q1]
def Nj(f:PE X a ta):PE X (.UnaryOp .Not a pos) (Nf ta):=by intro d s Y H Q I h;refine UnaryOp_ (aS (f d s Y H _ I h) λv j e=>?_);let⟨x,g,I1,i,q1⟩:=e;let⟨c,rfl,q1⟩:=q1;cases i;exact not_of (wpAny_truthy_bool #[.bl (not c),g,I1,rfl,q1])
def Nk(t:TT)(ta M:TE):TE:=λY H Q=>t Y H λc d=>if c=true then ta Y d Q else M Y d Q
def Nl(i:PT X c L)(j:PE X a ta)(l:PE X b M):PE X (.IfExp c a b pos) (Nk L ta M):=by
 intro e s Y H Q I h;refine wpAny_IfExp (aS (i e s Y H _ I h) λd f k=>?_);let⟨g,I1,q1⟩:=k;cases d with
 |true=>exact j e f Y g Q I1 q1
 |false=>exact l e f Y g Q I1 q1
def dO(K:Frag)(H:Hp)(a:Addr)(c:List V):Prop:=
 Rd H a (.lst c)\/
  ∃(o:Obj) (b:Array Value) (n:Nat),K.lookup a=!o/\o.cls=.type "list"/\o.dict=none/\o.data=.seq b n/\b.size<=sizeLine/\bv c b.toList
def fq(K:Frag)(H:Hp)(a:Addr)(c:List V):Prop:=
 Rd H a (.tup c)\/
  ∃(o:Obj) (b:Array Value) (n:Nat),K.lookup a=!o/\o.cls=.type "tuple"/\o.data=.seq b n/\b.size<=sizeLine/\bv c b.toList
noncomputable def Nm:Value->Option V
 |.none=>some .non
 |.bool b=>some (.bl b)
 |.int i _=>some (.int i)
 |.str x _=>some (.str x)
 |.bytes b _=>some (.byt b)
 |.float b _=>some (.flt b)
 |.ref a=>some (.ref a)
 |.type n=>some (.ty n)
 |_=>none
def bj.abs(r:bj x u):Nm u=!x:=by
 cases x with
 |non=>cases r;rfl
 |bl _=>cases r;rfl
 |int _=>let⟨t,rfl⟩:=r;rfl
 |str _=>let⟨t,rfl⟩:=r;rfl
 |byt _=>let⟨t,rfl⟩:=r;rfl
 |flt _=>let⟨t,rfl⟩:=r;rfl
 |ref _=>cases r;rfl
 |ty _=>cases r;rfl
theorem bj.inj(r:bj x u)(q:bj y u):x=y:=q0x (r.abs.symm.trans q.abs)
theorem bv.inj:∀{b a c},bv b c->bv a c->b=a:=by
 intro b a c h
 induction h generalizing a with
 |nil=>intro g;cases g;rfl
 |cons r _ d=>intro g;cases g with
  |cons e t'=>rw[r.inj e,d t']
def dO.of{K}(h:H a=!.lst E):dO K H a E:=.inl (.inl h)
def Inv.list{Y:St}(I:Inv X N Y H s)(h:dO X.K H a E):∃b,bv E b/\PlainL s.heap a b.toArray/\E.length<=sizeLine:=by
 rcases h with h |⟨o,b,n,c,d,hd,hs,f,r⟩
 .let⟨z,b,n,r,e⟩:=h.ok I.hok;exact#[b,r,#[_,n,e,rfl,rfl,rfl],z]
 .refine#[b.toList,r,#[o,n,I.kIn a o c,d,hd,by simpa using hs],?_];have e:=r.length;grind
def Inv.tuple{Y:St}(I:Inv X N Y H s)(h:fq X.K H a E):∃b,bv E b/\IsTup s.heap a b.toArray/\E.length<=sizeLine:=by
 rcases h with h |⟨o,b,n,c,d,hs,f,r⟩
 .let⟨z,b,r,p⟩:=h.ok I.hok;exact#[b,r,p,z]
 .refine#[b.toList,r,#[o,I.kIn a o c,d,n,by simpa using hs],?_];have e:=r.length;grind
def Inv.list_inj{Y:St}(I:Inv X N Y H s)(h:dO X.K H a E)(g:dO X.K H a C):E=C:=by
 obtain⟨c,r,⟨o,n,e,_,_,d⟩,_⟩:=I.list h;obtain⟨b,i,⟨k,l,e',_,_,f⟩,_⟩:=I.list g;rw[e]at e';cases e';rw[d]at f;injection f with j _
 have:c=b:=by simp_all
 subst this;exact r.inj i
def Inv.tuple_inj{Y:St}(I:Inv X N Y H s)(h:fq X.K H a E)(g:fq X.K H a C):E=C:=by
 obtain⟨c,r,⟨o,e,_,n,d⟩,_⟩:=I.tuple h;obtain⟨b,i,⟨k,e',_,l,f⟩,_⟩:=I.tuple g;rw[e]at e';cases e';rw[d]at f;injection f with j _
 have:c=b:=by simp_all
 subst this;exact r.inj i
def Nn:TS:=λD Y H=>D.nx Y H
def No(t u:TS):TS:=λD Y H=>t { D with nx:=u D } Y H
def Np:PSs X [] Nn:=λ_ _ Y H _ I h=>wpAny_execs_nil #[Y,H,I,h]
def Nq{st:Stmt}(b:PS X st t)(c:PSs X rest u):PSs X (st::rest) (No t u):=by
 intro a s Y H D I h;refine wpAny_execs_cons (aS (b a s Y H { D with nx:=u D } I h) λf d q=>?_);cases f with
 |next=>let⟨g,i,j,q⟩:=q;exact c a d g i D j q
 |ret v=>exact q
 |brk=>exact q
 |cont=>exact q
def Nr{st:Stmt}(b:PS X st t):PSs X [st] t:=by
 intro a s Y H D I h;refine wpAny_execs_cons (aS (b a s Y H D I h) λf c q=>?_);cases f with
 |next=>exact wpAny_execs_nil q
 |ret v=>exact q
 |brk=>exact q
 |cont=>exact q
def Inv.quiet{Y:St}(I:Inv X a Y H s):interactive X.env=false:=by simp[interactive,I.ok.kind]
def Nt(B:TE):TS:=λD Y H=>B Y H λ_ a=>D.nx Y a
def nT(c:PE X e B)(f:autoParam (swapsWith e none pos.line X.env=pure false) Zq._auto_1):PS X (.Expr e pos) (Nt B):=by intro a s Y H D I h;exact wpAny_Expr_any (aS (c a s Y H _ I h) λv g b=>by let⟨x,d,I1,i,q1⟩:=b;exact#[Y,d,I1,q1]) I.quiet f
def Nu(B:TE):TS:=λD Y H=>B Y H D.rt
def yh(b:PE X e B):PS X (.Return (!e) pos) (Nu B):=by intro a s Y H D I h;exact wpAny_Return_some (aS (b a s Y H _ I h) λv f k1=>(by let⟨x,c,I1,d,q1⟩:=k1;exact#[x,Y,c,I1,d,q1]))
def Nv(c:TT)(t u:TS):TS:=λD Y H=>c Y H λb a=>if b=true then t D Y a else u D Y a
def Nw(k:PT X c g)(l:PSs X a t)(n:PSs X b u):PS X (.If c a b pos) (Nv g t u):=by
 intro f s Y H D I h;refine wpAny_If (aS (k f s Y H _ I h) λd i m=>?_);let⟨j,I1,q1⟩:=m;cases d with
 |true=>exact l f i Y j D I1 q1
 |false=>exact n f i Y j D I1 q1
abbrev TG:=V->St->Hp->(St->Hp->Prop)->Prop
abbrev lv:=List V->St->Hp->(St->Hp->Prop)->Prop
def PG(X:Cx)(target:Expr)(t:TG):Prop:=
 ∀(a:List (Addr×Obj)) (s:Shared) (Y:St) (H:Hp) (v:V) (u:Value) (Q:St->Hp->Prop),Inv X a Y H s->bj v u->t v Y H Q->
  wpAny (model X.prog X.w) X.A (assign target X.env u) (λ_ d=>∃b c,Inv X a b c d/\Q b c) X.xe s
def PGs(X:Cx)(e:List Expr)(t:lv):Prop:=
 ∀(a:List (Addr×Obj)) (s:Shared) (Y:St) (H:Hp) (vs:List V) (b:List Value) (Q:St->Hp->Prop),Inv X a Y H s->bv vs b->t vs Y H Q->
  wpAny (model X.prog X.w) X.A (assignInOrder ((assignEach e X.env).map (·.2)) b) (λ_ f=>∃c d,Inv X a c d f/\Q c d) X.xe s
abbrev yi:=V->V->V->Hp->(Hp->Prop)->Prop
def CN(X:Cx)(t:yi):Prop:=
 ∀(a:List (Addr×Obj)) (s:Shared) (Y:St) (H:Hp) (o i v:V) (b c u:Value) (Q:Hp->Prop),Inv X a Y H s->bj o b->bj i c->bj v u->t o i v H Q->
  wpAny (model X.prog X.w) X.A (setItem b c u) (λ_ e=>∃d,Inv X a Y d e/\Q d) X.xe s
section
variable{X:Cx}{pos:Pos}
def uu(i:Nat):TG:=λv Y H Q=>Q (Y.set i (!v)) H
def Nx(b:X.N.Nodup)(c:X.N[i]? = !x)(f:Loc X.env.scope x)(d:autoParam (X.fn x=true\/X.env.scope.names.lookup x=!.local) Zqa._auto_1):PG X (.Name x pos) (uu i):=by intro a s Y H v u Q I r h;exact wpAny_assign_Name (yg I b c f r (λg e=>#[_,H,e,h]) d)
def gNil:lv:=λvs Y H Q=>vs=[]/\Q Y H
def gCons(t:TG)(u:lv):lv:=λvs Y H Q=>∃v r,vs=v::r/\t v Y H λa b=>u r a b Q
def Ny:PGs X [] gNil:=by intro a s Y H vs b Q I r h;let⟨e,h⟩:=h;subst e;cases r;exact assignInOrder_nil #[Y,H,I,h]
def Nz(c:PG X e t)(d:PGs X b u)
  (m:autoParam ((assignEach (e::b) X.env).map (·.2)=assign e X.env::(assignEach b X.env).map (·.2)) Zq._auto_1):PGs X (e::b) (gCons t u):=by
 intro a s Y H vs n Q I r h;let⟨v,o,f,h⟩:=h;subst f;cases r with
 |cons r g=>rw[m];refine assignInOrder_cons (aS (c a s Y H _ _ _ I r h) λ_ i j=>?_);let⟨k,l,I1,q1⟩:=j;exact d a i k l _ _ Q I1 g q1
def NA(K:Frag)(n:Nat)(t:lv):TG:=λv Y H Q=>∃a b,v=.ref a/\fq K H a b/\b.length=n/\t b Y H Q
def NB{k}(j:X.calm=true)(h:PGs X d t)
  (l:autoParam ((assignEach d X.env).length=n) Zq._auto_1) (f:autoParam ((assignEach d X.env).findIdx? (·.1)=none) Zq._auto_1):PG X (.Tuple d k pos) (NA X.K n t):=by
 intro c s Y H v u Q I r g;let⟨a,m,p,q,w,g⟩:=g;subst p;cases r;let⟨x,i,ht,A⟩:=I.tuple q;exact assign_Tuple_tuple (I.ok.hd j) ht (by simp[l,<-w,i.length]) f λy z=>h c _ Y H m _ Q (I.kept λb o e=>z b o (q0s (bS e)) e) (by simpa using i) g
def fc(d e:TE)(t:yi):TG:=λv Y H Q=>d Y H λo a=>e Y a λi b=>t o i v b λc=>Q Y c
def CO(D:PE X o g)(k:PE X i j)(E:CN X t)
  (l:autoParam (∀v,assign (.Subscript o i pos) X.env v=(do
   let b <-holding [v] (eval o X.env);let c <-holding [v,b] (eval i X.env)
   standAt pos
   holding [v,b,c] (setItem b c v)
   release [v,b,c] [])) Zs._auto_1):PG X (.Subscript o i pos) (fc g j t):=by
 intro a s Y H v u Q I r h;rw[l];refine aA (wpAny_holding (aS (D a s Y H _ I h) λb m d=>?_));let⟨x,n,I1,p,q1⟩:=d;refine aA (wpAny_holding (aS (k a m Y n _ I1 q1) λc q e=>?_));let⟨y,w,z,A,q2⟩:=e;refine aA (wpAny_standAt (aA (wpAny_holding (aS (E a q Y w x y v b c u _ z p A r q2) λ_ G f=>?_))));let⟨B,C,q3⟩:=f;exact wpAny_release #[Y,B,C,q3]
def yj(a:TE)(g:TG):TS:=λD Y H=>a Y H λx b=>g x Y b D.nx
def yk(f:PE X e d)(i:PG X b g)(o:autoParam (swapsWithSole [b] e pos.line X.env=pure false) Zq._auto_1)(j:autoParam (swappedStores [b] e X.env=pure none) Zq._auto_1)
  (k:autoParam ((assignEach [b] X.env).map (·.2)=[assign b X.env]) Zq._auto_1):PS X (.Assign [b] e pos) (yj d g):=by
 intro a s Y H D I h;refine wpAny_Assign_stores (aS (f a s Y H _ I h) λv l c=>?_) o j;let⟨x,m,I1,n,q1⟩:=c;rw[k];exact aS (i a l Y m x v _ I1 n q1) λ_ p q=>q
def CP(f:X.N.Nodup)(g:X.N[i]? = !x)(o:Loc X.env.scope x)(j:PE X e d)(p:autoParam (swapsWith e (!.Name x a) pos.line X.env=pure false) Zq._auto_1)(k:autoParam (X.fn x=true\/X.env.scope.names.lookup x=!.local) Zqa._auto_1) :
  PS X (.Assign [.Name x a] e pos) (yj d (uu i)):=by
 intro b s Y H D I h;refine wpAny_Assign_Name (aS (j b s Y H _ I h) λv q c=>?_) p;let⟨y,l,I1,m,q1⟩:=c;exact yg I1 f g o m (λr n=>#[_,l,n,q1]) k
end
def NC(c:TT)(g:TS):TS:=λD Y H=>∃W:Nat->St->Hp->Prop,(∃m,W m Y H)/\∀m Y H,W m Y H->
 c Y H λb a=>if b=true then ∃N:St->Hp->Prop,(∀d e,N d e->∃f,f<m/\W f d e)/\g { D with nx:=N,ct:=N,bk:=D.nx } Y a else D.nx Y a
def ND(t:PassesOwn (model X.prog X.w) X.A X.env X.xe)(E:PT X c q)(O:PSs X body r):PS X (.While c body [] pos) (NC q r):=by
 intro a s Y H D I h;obtain⟨W,⟨m0,G⟩,d⟩:=h;refine wpAny_While (codeAny_whileLoop (λn J=>∃u x,Inv X a u x J/\W n u x) ?_ m0 #[Y,H,I,G]);rintro n L ⟨j,y,I1,w1⟩;refine wpAny_passesOwn t (aS (E a L j y _ I1 (d n j y w1)) λb M e=>?_);let⟨z,B,q2⟩:=e;cases b with
 |true=>
  let⟨N,C,q2⟩:=q2;rw[if_pos rfl];refine wpAny_passesOwn t (aS (O a M j z _ B q2) λf Q q3=>?_);cases f with
  |next=>let⟨g,i,k,l⟩:=q3;let⟨m,o,p⟩:=C g i l;exact#[m,o,g,i,k,p]
  |cont=>let⟨g,i,k,l⟩:=q3;let⟨m,o,p⟩:=C g i l;exact#[m,o,g,i,k,p]
  |brk=>exact q3
  |ret v=>exact q3
 |false=>rw[if_neg q0H];exact wpAny_execs_nil #[j,z,B,q2]
structure It where
 go:Nat->Hp->Prop
 yld:Nat->Hp->V->Hp->Prop
 stop:Nat->Hp->Prop
def iU(X:Cx)(a:List (Addr×Obj))(H:Hp)(b:Addr):Prop:=
 H b=none/\b≠X.env.locals/\b∉X.fs/\(b∈X.ex\/X.s₀.heap.objs.size<=b)/\(∀x c,X.env.cells.lookup x=!c->c≠b)/\∀p∈X.pn++a,p.1≠b
def Inv.fpOk{Y:St}{b:Addr}(I:Inv X a Y H s)(d:s.heap.objs.size<=b)(g:f b=none):iU X a f b:=by
 refine#[g,q06 (q0k I.lt d),I.nofs d,.inr (q0C I.sz d),λx c e z=>?_,λp h z=>?_]
 .let⟨v,q⟩:=I.cell x c e;exact absurd (q0k q.lt (by rw[z];exact d)) (q0A _)
 .exact absurd (q0k (bS (I.pin p h).1) (by rw[z];exact d)) (q0A _)
structure iV (P:Program) (w:World) (K:Frag) (tg:Expr) (J:It) (fp:List Addr) (it:Addr) (tn:Nat->Heap->Prop):Prop where
 mem:it∈fp
 obj:∀i h,tn i h->∀b∈fp,∃o,h.get? b=!o/\∀v,o.data≠.cell v
 keep:∀i h h',tn i h->(∀b∈fp,∀o,h.get? b=!o->h'.get? b=!o)->tn i h'
 item:∀(X:Cx),X.prog=P->X.w=w->X.K=K->X.calm=true->∀(i:Nat) (pins:List (Addr×Obj)) (s:Shared) (Y:St) (H:Hp) (E:Value->Shared->Prop),Inv X pins Y H s->(∀b∈fp,iU X pins H b)->tn i s.heap->J.go i H->
  wpAny (model P w) X.A (pyNext (.ref it)) (λr s1=>∃u,r=!u/\
   wpAny (model P w) X.A (letOwnedTupleGo tg (.ref it) u) (λ_ s2=>∃x H',Inv X pins Y H' s2/\bj x u/\J.yld i H x H'/\tn (i+1) s2.heap/\∀b∈fp,H' b=none) E s1) E s
 done:∀(X:Cx),X.prog=P->X.w=w->X.K=K->X.calm=true->∀(i:Nat) (pins:List (Addr×Obj)) (s:Shared) (Y:St) (H:Hp) (E:Value->Shared->Prop),Inv X pins Y H s->(∀b∈fp,iU X pins H b)->tn i s.heap->J.stop i H->
  wpAny (model P w) X.A (pyNext (.ref it)) (λr s1=>r=none/\Inv X pins Y H s1) E s
 self:∀(A:Around) (i:Nat) (s:Shared) (Q:Value->Shared->Prop) (E:Value->Shared->Prop),tn i s.heap->Q (.ref it) s->wpAny (model P w) A (pyIter (.ref it)) Q E s
abbrev TI:=St->Hp->(It->Hp->Prop)->Prop
def CQ(X:Cx)(a:List (Addr×Obj))(Y:St)(g:Expr)(R:It->Hp->Prop)(c:Value)(e:Shared):Prop:=
 ∃(it:Addr) (fp:List Addr) (f:Nat->Heap->Prop) (J:It) (d:Hp),c=.ref it/\Inv X a Y d e/\iV X.prog X.w X.K g J fp it f/\f 0 e.heap/\(∀b∈fp,iU X a d b)/\R J d
def PI(X:Cx)(b iter:Expr)(c:TI):Prop:=
 ∀(a:List (Addr×Obj)) (s:Shared) (Y:St) (H:Hp) (R:It->Hp->Prop),Inv X a Y H s->c Y H R->
  wpAny (model X.prog X.w) X.A (eval iter X.env) (λv d=>wpAny (model X.prog X.w) X.A (pyIter v) (CQ X a Y b R) X.xe d) X.xe s
def yl(e:s.heap.get? it=!o)(c:o.cls=.type n)(hd:o.data=.fields vs)
    (d:["enumerate","zip","dict_itemiterator","dict_reverseitemiterator","odict_iterator","itertools.zip_longest","itertools.pairwise"].contains n=false) (a:Q () s):wpAny M A (letOwnedTupleGo b (.ref it) u) Q E s:=by
  unfold letOwnedTupleGo;cases b<;>first
    |exact bb a
    | (cases u<;>first
        |exact bb a
        | (refine aA (wpAny_load e ?_)
           rw[c,hd];show wpAny M A (if (["enumerate","zip","dict_itemiterator","dict_reverseitemiterator","odict_iterator","itertools.zip_longest","itertools.pairwise"].contains n&&vs[0]?==!rawInt _)=true then _ else _) Q E s;rw[if_neg (by intro h;rw[d,Bool.false_and]at h;cases h)];exact bb a))
noncomputable def ym(K:Frag)(a:Addr):It:=
 ⟨λi H=>∃b x,dO K H a b/\b[i]? = !x,λi H x c=>c = H/\∀b,dO K H a b->b[i]? = !x,λi H=>∃b,dO K H a b/\b.length<=i⟩
noncomputable def yn(K:Frag)(a:Addr):It:=
 ⟨λi H=>∃b x,fq K H a b/\b[i]? = !x,λi H x c=>c = H/\∀b,fq K H a b->b[i]? = !x,λi H=>∃b,fq K H a b/\b.length<=i⟩
noncomputable def uv(lo:Int)(n:Nat):It:=#[λi _=>i<n,λi H x a=>a = H/\x=.int (lo+i),λi _=>n<=i]
def NE{K}(a it):iV P w K tg (ym K a) [it] it (λi h=>h.IsListIter it a i) where
 mem:=by simp
 obj:=λi h st b hb=>by
  have e:b=it:=by simpa using hb
  subst e;let⟨o,e,c,d⟩:=st;exact#[o,e,λv z=>by rw[d]at z;cases z]
 keep:=λi h h' st k=>st.at λo e=>k it 'd' o e
 item:=by intro X hP hw hK hc i pins s Y H E I hf st hg;subst hP hw hK;let⟨xs,x,hq,hx⟩:=hg;let⟨its,rv,p,hz⟩:=I.list hq;let⟨u,hu,ru⟩:=rv.get hx;let⟨f0,f1,f2,f3,f4,f5⟩:=hf it 'd';refine wpAny_pyNext_list_item st p.isList (x:=u) (by simpa using hu) λh' st' sb=>?_;have I1:Inv X pins Y H { s with heap:=h' }:=I.turned (t':=s.toks) (λb o hb e=>(sb.2 b hb).trans e) f0 f1 f3 f4 f5;let⟨o,e,c,d⟩:=id st';exact#[u,rfl,yl (s:={ s with heap:=h' }) e c d 'f' #[x,H,I1,ru,#[rfl,λys hy=>by rw[I.list_inj hy hq];exact hx],st',λb hb=>(hf b hb).1]]
 done:=by intro X hP hw hK hc i pins s Y H E I hf st hg;subst hP hw hK;let⟨xs,hq,hx⟩:=hg;let⟨its,rv,p,hz⟩:=I.list hq;let⟨f0,f1,f2,f3,f4,f5⟩:=hf it 'd';have hl:=rv.length;exact wpAny_pyNext_list_end (I.ok.hd hc) st p.isList (by simp;lia) λh' eb=>#[rfl,I.turned (t':=s.toks) (λb o hb e=>eb b o hb e) f0 f1 f3 f4 f5]
 self:=λ_ _ _ _ _ st h=>wpAny_pyIter_listiter st h
def NF{K}(a it):iV P w K tg (yn K a) [it] it (λi h=>h.IsTupleIter it a i) where
 mem:=by simp
 obj:=λi h st b hb=>by
  have e:b=it:=by simpa using hb
  subst e;let⟨o,e,c,d⟩:=st;exact#[o,e,λv z=>by rw[d]at z;cases z]
 keep:=λi h h' st k=>st.at λo e=>k it 'd' o e
 item:=by intro X hP hw hK hc i pins s Y H E I hf st hg;subst hP hw hK;let⟨xs,x,hq,hx⟩:=hg;let⟨its,rv,p,hz⟩:=I.tuple hq;let⟨u,hu,ru⟩:=rv.get hx;let⟨f0,f1,f2,f3,f4,f5⟩:=hf it 'd';refine wpAny_pyNext_tuple_item st (show s.heap.IsTuple a its.toArray from p) (x:=u) (by simpa using hu) λh' st' sb=>?_;have I1:Inv X pins Y H { s with heap:=h' }:=I.turned (t':=s.toks) (λb o hb e=>(sb.2 b hb).trans e) f0 f1 f3 f4 f5;let⟨o,e,c,d⟩:=id st';exact#[u,rfl,yl (s:={ s with heap:=h' }) e c d 'f' #[x,H,I1,ru,#[rfl,λys hy=>by rw[I.tuple_inj hy hq];exact hx],st',λb hb=>(hf b hb).1]]
 done:=by intro X hP hw hK hc i pins s Y H E I hf st hg;subst hP hw hK;let⟨xs,hq,hx⟩:=hg;let⟨its,rv,p,hz⟩:=I.tuple hq;let⟨f0,f1,f2,f3,f4,f5⟩:=hf it 'd';have hl:=rv.length;exact wpAny_pyNext_tuple_end (I.ok.hd hc) st (show s.heap.IsTuple a its.toArray from p) (by simp;lia) λh' eb=>#[rfl,I.turned (t':=s.toks) (λb o hb e=>eb b o hb e) f0 f1 f3 f4 f5]
 self:=λ_ _ _ _ _ st h=>wpAny_pyIter_tupleiter st h
def NG{K}(it lo n):iV P w K tg (uv lo n) [it] it (λi h=>IsRangeIter h it (lo+(i:Nat) * 1) ((n:Int) - (i:Nat)) 1) where
 mem:=by simp
 obj:=λi h st b hb=>by
  have e:b=it:=by simpa using hb
  subst e;exact#[_,st,λv z=>by
   have z':Data.fields _=Data.cell v:=z;cases z']
 keep:=λi h h' st k=>k it 'd' _ st
 item:=by intro X hP hw hK hc i pins s Y H E I hf st hg;subst hP hw hK;let⟨f0,f1,f2,f3,f4,f5⟩:=hf it 'd';have W:=Walks.range (prog:=X.prog) (w:=X.w) (I.ok.hd hc) it lo 1 n;refine W.item i s _ _ hg st λv h' tk hv st' kk=>?_;let⟨t,rfl⟩:=hv;have I1:Inv X pins Y H { s with heap:=h',toks:=tk }:=I.turned (λb o hb e=>kk b o (by simpa using hb) e) f0 f1 f3 f4 f5;refine#[_,rfl,yl (s:={ s with heap:=h',toks:=tk }) (n:="range_iterator") st' rfl rfl 'f' #[.int (lo+i),H,I1,#[t,?_],#[rfl,rfl],st',λb hb=>(hf b hb).1]];rw[Int.mul_one]
 done:=by intro X hP hw hK hc i pins s Y H E I hf st hg;subst hP hw hK;let⟨f0,f1,f2,f3,f4,f5⟩:=hf it 'd';exact wpAny_pyNext_range_end (I.ok.hd hc) st (by have:n<=i:=hg;lia) λh' eb=>#[rfl,I.turned (t':=s.toks) (λb o hb e=>eb b o hb e) f0 f1 f3 f4 f5]
 self:=λ_ _ _ _ _ st h=>wpAny_pyIter_rangeiter st h
def NH(K:Frag)(c:TE):TI:=λY H R=>c Y H λx b=>∃a,x=.ref a/\(∃d,dO K b a d)/\R (ym K a) b
def NJ(K:Frag)(c:TE):TI:=λY H R=>c Y H λx b=>∃a,x=.ref a/\(∃d,fq K b a d)/\R (yn K a) b
def NK(i:PE X l g):PI X y l (NH X.K g):=by
 intro c s Y H R I h;refine aS (i c s Y H _ I h) λv f d=>?_;let⟨x,j,I1,k,q1⟩:=d;obtain⟨a,e,⟨t,m⟩,q⟩:=q1;subst e;cases k;let⟨n,u,p,w⟩:=I1.list m;apply wpAny_pyIter_list p.isList;refine#[f.heap.objs.size,[f.heap.objs.size],_,_,j,rfl,I1.kept λb o e=>ca _ e,NE a _,#[_,Heap.get?_push_size _ rfl,rfl,rfl],λb r=>?_,q];have e:=by simpa using r
 subst e;exact I1.fpOk (bu _) (I1.hok.fresh (bu _))
def NL(j:PE X l i):PI X y l (NJ X.K i):=by
 intro c s Y H R I h;refine aS (j c s Y H _ I h) λv d f=>?_;let⟨x,k,I1,m,q1⟩:=f;obtain⟨a,e,⟨t,n⟩,q⟩:=q1;subst e;cases m;let⟨g,u,p,w⟩:=I1.tuple n;apply wpAny_pyIter_tuple (p);refine#[d.heap.objs.size,[d.heap.objs.size],_,_,k,rfl,I1.kept λb o e=>ca _ e,NF a _,#[_,Heap.get?_push_size _ rfl,rfl,rfl],λb r=>?_,q];have e:=by simpa using r
 subst e;exact I1.fpOk (bu _) (I1.hok.fresh (bu _))
def NM{Y:St}{lo }(I:Inv X c Y H s)(f:-(2 ^ 62)<=lo)(g:lo<2 ^ 62)(h:-(2 ^ 62)<=a)(i:a<2 ^ 62)
  (q:R (uv lo (a - lo).toNat) H):wpAny (model X.prog X.w) X.A (pyIter (.ref s.heap.objs.size)) (CQ X c Y y R) E { s with heap:=s.heap.push { cls:=.type "range",data:=.fields [.int lo t,.int a u,.int 1 v].toArray },toks:=d }:=by
 refine wpAny_pyIter_range (IsRange.new ..) (small_one f g h i) ?_;have I1:Inv X c Y H { s with heap:=s.heap.push { cls:=.type "range",data:=.fields [.int lo t,.int a u,.int 1 v].toArray },toks:=d }:=I.kept λb o e=>ca _ e;refine#[(s.heap.push { cls:=.type "range",data:=.fields [.int lo t,.int a u,.int 1 v].toArray }).objs.size,[(s.heap.push { cls:=.type "range",data:=.fields [.int lo t,.int a u,.int 1 v].toArray }).objs.size],_,_,H,rfl,
  I1.kept (t':=d) λb o e=>ca _ e,NG _ lo (a - lo).toNat,?_,λb l=>?_,q]
 .have j:lo+((0:Nat):Int) * 1=lo:=by simp
  have k:(((a - lo).toNat:Nat):Int) - ((0:Nat):Int)=Builtin.Range.rangeSize lo a 1:=by rw[rangeSize_one];split<;>lia
  rw[j,k];exact Heap.get?_push_size _ rfl
 .have e:b=(s.heap.push { cls:=.type "range",data:=.fields [.int lo t,.int a u,.int 1 v].toArray }).objs.size:=by simpa using l
  subst e;exact I1.fpOk (bu _) (I1.hok.fresh (bu _))
def NN(b:TA):TI:=λY H R=>b Y H λvs a=>∃j:Int,vs=[.int j]/\-(2 ^ 62)<=j/\j<2 ^ 62/\R (uv 0 j.toNat) a
abbrev qSa(X:Cx)(e:Expr)(es:List Expr):Prop:=starEach (e::es) X.env=(false,eval e X.env)::starEach es X.env
abbrev qSb(X:Cx)(p:Pos)(es:List Expr):Prop:=(backTo p (starEach es X.env)).any (·.1)=false
abbrev qSc(X:Cx)(e:Expr)(f:Str):Prop:=attributeBase e f X.env (eval e X.env)=eval e X.env
abbrev qSd(X:Cx)(e:Expr):Prop:=starEach [e] X.env=[(false,eval e X.env)]
def NO(f:Gl X "range")(g:X.mg "range" = none)(i:PA X [a] d)(m:autoParam (qSd X a) Zq._auto_1):PI X y (.Call (.Name "range" p) [a] [] pos) (NN d):=by
 intro b s Y H R I h;refine Call_ (jK I f g boot_range (PyProof.Rows.callWith_type1 (aS (i pos b s Y H _ I h) λn o c=>?_) m rfl));let⟨vs,u,I1,k,q1⟩:=c;let⟨j,e,q1,q2,q⟩:=q1;subst e;cases k with
 |cons r l=>cases l;let⟨t,rfl⟩:=r;exact call_range_1 (NM I1 'a' 'a' q1 q2 (by simpa using q))
def NP(d:TI)(g:TG)(e:TS):TS:=λD Y H=>d Y H λJ f=>∃W:Nat->Nat->St->Hp->Prop,(∃m,W 0 m Y f)/\∀i m Y H,W i m Y H->
 (J.stop i H/\D.nx Y H)\/(J.go i H/\∃N:St->Hp->Prop,(∀b a,N b a->∃c,c<m/\W (i+1) c b a)/\∀x a,J.yld i H x a->g x Y a λh j=>e { D with nx:=N,ct:=N,bk:=D.nx } h j)
noncomputable def qQ(fp:List Addr)(h:Heap):List (Addr×Obj):=fp.filterMap λb=>(h.get? b).map λo=>(b,o)
def uw(a:b∈fp)(e:h.get? b=!o):(b,o)∈qQ fp h:=q2v.mpr #[b,a,by rw[e];rfl]
def NQ(a:p∈qQ fp h):p.1∈fp/\h.get? p.1=!p.2:=by
 let⟨b,hb,e⟩:=q2v.mp a;cases q:h.get? b with
 |none=>simp_all
 |some o=>rw[q]at e;have e':=q0x e;subst e';exact#[hb,q]
def Inv.pinned{Y:St}(I:Inv X a Y H s)(f:∀b∈fp,iU X a H b)(i:∀b∈fp,∃o,s.heap.get? b=!o/\∀v,o.data≠.cell v):Inv X (a++qQ fp s.heap) Y H s:=
 I.pins_of λp g=>(q0b.mp g).elim (λz=>I.pin p (bq _ z)) λz=>by let⟨c,e⟩:=NQ z;let⟨h,f1,f2,_⟩:=f p.1 c;let⟨o,e',d⟩:=i p.1 c;simp_all
def Inv.unpinned{Y:St}(I:Inv X (a++c) Y H s):Inv X a Y H s:=I.pins_of λp b=>I.pin p (bq _ (bB _ b))
def NR(z:PassesOwn (model X.prog X.w) X.A X.env X.xe)(hc:X.calm=true)(hi:PI X y iter wi)(hg:PG X y g)(p:PSs X body tb)
  (hs:autoParam (∀x,foldedSetIterable iter X.env x=pure x) Zs._auto_1):PS X (.For y iter body [] pos) (NP wi g tb):=by
 intro a s Y H D I h;refine wpAny_For (aS (hi a s Y H _ I h) λv s1 h1=>aS h1 λa2 s2 h2=>?_) hs;obtain⟨it,fp,tn,J,H2,e,I2,T,Z,f2,W,⟨m0,w0⟩,B⟩:=h2;subst e;have c:∀{q:Hp},(∀b∈fp,q b=none)->∀b∈fp,iU X a q b:=λhn b p=>#[hn b p,(f2 b p).2]
 refine codeAny_forLoop_any (λn s'=>∃i C q,Inv X a C q s'/\tn i s'.heap/\(∀b∈fp,q b=none)/\W i n C q) ?_ m0 ⟨0,Y,H2,I2,Z,λb p=>(f2 b p).1,w0⟩;rintro n s3 ⟨i,E,U,I3,G,L,w3⟩;rcases B i n E U w3 with⟨stop,qn⟩ |⟨go,N,hN,step⟩
 .refine wpAny_passesOwn z (aS (T.done X rfl rfl rfl hc i a s3 E U X.xe I3 (c L) G stop) λr s4 M=>?_);let⟨hr,I4⟩:=M;subst hr;exact wpAny_execs_nil #[E,U,I4,qn]
 .refine wpAny_passesOwn z (aS (T.item X rfl rfl rfl hc i a s3 E U X.xe I3 (c L) G go) λr s4 O=>?_);let⟨u,hr,h4⟩:=O;subst hr;refine wpAny_passesOwn z (aS h4 λ_ s5 Q=>?_);let⟨x,H5,I5,r5,y5,t,a0⟩:=Q;have a1:=I5.pinned (c a0) (T.obj _ _ t);refine wpAny_passesOwn z (aS (hg _ s5 E H5 x u _ a1 r5 (step x H5 y5)) λ_ s6 R=>?_);let⟨Y6,H6,I6,q6⟩:=R;refine wpAny_passesOwn z (aS (p _ s6 Y6 H6 _ I6 q6) λf s7 q7=>?_);have again:∀{j:St}{k:Hp},Inv X (a++qQ fp s5.heap) j k s7->N j k->∃m,m<n/\∃i C q,Inv X a C q s7/\tn i s7.heap/\(∀b∈fp,q b=none)/\W i m C q:=λ{j k} l S=>by let⟨m',hm,w7⟩:=hN j k S;refine#[m',hm,i+1,j,k,l.unpinned,T.keep _ _ _ t λb p o e=>(l.pin (b,o) (bq _ (bq _ (uw p e)))).1,λb p=>?_,w7];let⟨o,e,d⟩:=T.obj _ _ t b p;exact(l.pin (b,o) (bq _ (bq _ (uw p e)))).2.1
  cases f with
  |next=>let⟨j,k,l,S⟩:=q7;exact again l S
  |cont=>let⟨j,k,l,S⟩:=q7;exact again l S
  |brk=>let⟨j,k,l,q7⟩:=q7;exact#[j,k,l.unpinned,q7]
  |ret v=>let⟨x7,j,k,l,r7,q7⟩:=q7;exact#[x7,j,k,l.unpinned,r7,q7]
abbrev R2:=V->V->Hp->VK->Prop
def dF(X:Cx)(f:Value->Value->Sem Value)(r:R2):Prop:=
 ∀(a:List (Addr×Obj)) (s:Shared) (Y:St) (H:Hp) (x y:V) (v u:Value) (Q:VK),Inv X a Y H s->bj x v->bj y u->r x y H Q->
  wpAny (model X.prog X.w) X.A (f v u) (EP X a Y Q) X.xe s
def yo(X:Cx)(f:Value->Sem Value)(r:V->Hp->VK->Prop):Prop:=
 ∀(a:List (Addr×Obj)) (s:Shared) (Y:St) (H:Hp) (x:V) (v:Value) (Q:VK),Inv X a Y H s->bj x v->r x H Q->
  wpAny (model X.prog X.w) X.A (f v) (EP X a Y Q) X.xe s
def hU(X:Cx)(f:Value)(r:List V->Hp->VK->Prop):Prop:=
 ∀(a:List (Addr×Obj)) (s:Shared) (Y:St) (H:Hp) (b:List V) (c:List Value) (Q:VK),Inv X a Y H s->bv b c->r b H Q->
  wpAny (model X.prog X.w) X.A (call f c) (EP X a Y Q) X.xe s
def qR(r:R2)(d a:TE):TE:=λY H Q=>d Y H λx b=>a Y b λy c=>r x y c Q
def NS(r:V->Hp->VK->Prop)(b:TE):TE:=λY H Q=>b Y H λx a=>r x a Q
def rI(C:Int->Int->Prop)(g:Int->Int->V):R2:=λx y H Q=>∃i j,x=.int i/\y=.int j/\C i j/\Q (g i j) H
def jL(g:Int->Int->V):R2:=λx y H Q=>∃i j,x=.int i/\y=.int j/\Q (g i j) H
def rU(g:Int->V):V->Hp->VK->Prop:=λx H Q=>∃i,x=.int i/\Q (g i) H
def yp(k:PE X a ta)(B:PE X b z){Y:St}{R:V->V->Hp->Prop}(I:Inv X d Y H s)
  (h:ta Y H λx i=>z Y i λy e=>R x y e) {f:Value->Value->Sem Value}
  (l:∀v u g x y e,Inv X d Y e g->bj x v->bj y u->R x y e->wpAny (model X.prog X.w) X.A (f v u) Q X.xe g) :
  wpAny (model X.prog X.w) X.A (eval a X.env) (λv m=>wpAny (model X.prog X.w) X.A (eval b X.env) (λu n=>wpAny (model X.prog X.w) X.A (f v u) Q X.xe n) X.xe m) X.xe s:=by
 refine aS (k d s Y H _ I h) λv o j=>?_;let⟨x,i,I1,q,q1⟩:=j;refine aS (B d o Y i _ I1 q1) λu g j=>?_;let⟨y,e,r,t,q2⟩:=j;exact l v u g x y e r q t q2
def CS(l:dF X (binaryOp op) r)(e:PE X a ta)(m:PE X b z):PE X (.BinOp a op b pos) (qR r ta z):=by intro d s Y H Q I h;exact wpAny_BinOp (yp e m I h λv u f x y g i j k q=>l d f Y g x y v u Q i j k q)
def CT(k:yo X (unaryOp op) r)(f:PE X a ta):PE X (.UnaryOp op a pos) (NS r ta):=by intro d s Y H Q I h;exact UnaryOp_ (aS (f d s Y H _ I h) λv g e=>by let⟨x,i,I1,j,q1⟩:=e;exact k d g Y i x v Q I1 j q1)
def yq{g:Int->Int->Int}
  (rule:∀i j  t u  s  Q  E,C i j->Q (.int (g i j) s.toks) { s with toks:=s.toks+1 }->wpAny (model X.prog X.w) X.A (f (.int i t) (.int j u)) Q E s) :
  dF X f (rI C λi j=>.int (g i j)):=by
 intro d s Y H x y v u Q I e k h;let⟨i,j,rfl,rfl,l,q⟩:=h;let⟨t,rfl⟩:=e;let⟨t',rfl⟩:=k;exact rule i j t t' s _ _ l #[.int (g i j),H,I.tok _,#[_,rfl],q]
def CU{g:Int->Int->Int}
  (rule:∀i j  t u  s  Q  E,Q (.int (g i j) s.toks) { s with toks:=s.toks+1 }->wpAny (model X.prog X.w) X.A (f (.int i t) (.int j u)) Q E s) :
  dF X f (jL λi j=>.int (g i j)):=by
 intro d s Y H x y v u Q I e k h;let⟨i,j,rfl,rfl,q⟩:=h;let⟨t,rfl⟩:=e;let⟨t',rfl⟩:=k;exact rule i j t t' s _ _ #[.int (g i j),H,I.tok _,#[_,rfl],q]
def ux{g:Int->Int->Bool}
  (rule:∀i j  t u  s  Q  E,Q (.bool (g i j)) s->wpAny (model X.prog X.w) X.A (f (.int i t) (.int j u)) Q E s) :
  dF X f (jL λi j=>.bl (g i j)):=by
 intro d s Y H x y v u Q I e k h;let⟨i,j,rfl,rfl,q⟩:=h;let⟨t,rfl⟩:=e;let⟨t',rfl⟩:=k;exact rule i j t t' s _ _ #[.bl (g i j),H,I,rfl,q]
def yr(i j:Int):Prop:=0<j/\j<1073741824
def qS(i j:Int):Prop:=(-(2 ^ 64)<i/\i<2 ^ 64)\/(-(2 ^ 64)<j/\j<2 ^ 64)
def qS.ok(h:qS i j):IntMulOk i j:=by
 rcases h with⟨d,e⟩ |⟨d,e⟩
 .exact .of_left (intBits_le_64 d e)
 .exact .of_right (intBits_le_64 d e)
def NT:dF X (binaryOp .Add) (jL λi j=>.int (i+j)):=CU λ_ _ _ _ _ _ _ q=>add_int q
def NU:dF X (binaryOp .Sub) (jL λi j=>.int (i - j)):=CU λ_ _ _ _ _ _ _ q=>sub_int q
def NW:dF X (binaryOp .Mult) (rI qS λi j=>.int (i * j)):=yq λ_ _ _ _ _ _ _ d q=>mul_int q d.ok
def NX:dF X (binaryOp .FloorDiv) (rI yr λi j=>.int (i / j)):=yq λi j _ _ _ _ _ d q=>by have e:=d.1;have f:=d.2;exact floordiv_int 'a' (by rw[Int.fdiv_eq_ediv_of_nonneg i 'a'];exact q) (.inl (PyProof.noPylong_small 'a'))
def NY:dF X (binaryOp .Mod) (rI (λ_ j=>0<j) λi j=>.int (i % j)):=yq λi j _ _ _ _ _ d q=>mod_int' 'a' (by rw[Int.fmod_eq_emod_of_nonneg i 'a'];exact q)
def Oa{g:Int->Int}
  (rule:∀i  t  s  Q  E,Q (.int (g i) s.toks) { s with toks:=s.toks+1 }->wpAny (model X.prog X.w) X.A (f (.int i t)) Q E s) :
  yo X f (rU λi=>.int (g i)):=by
 intro d s Y H x v Q I e h;let⟨i,rfl,q⟩:=h;let⟨t,rfl⟩:=e;exact rule i t s _ _ #[.int (g i),H,I.tok _,#[_,rfl],q]
def CW{Y:St}(I:Inv X d Y H s)(q:Q (.bl k) H)(e:k=f):EP X d Y Q (.bool f) s:=by subst e;exact#[.bl k,H,I,rfl,q]
def CY:dF X (compareOp .Lt) (jL λi j=>.bl (decide (i<j))):=ux λ_ _ _ _ _ _ _ q=>lt_int q
def uy:dF X (compareOp .LtE) (jL λi j=>.bl (decide (i<=j))):=ux λ_ _ _ _ _ _ _ q=>le_int q
def CZ:dF X (compareOp .Gt) (jL λi j=>.bl (decide (j<i))):=ux λ_ _ _ _ _ _ _ q=>gt_int q
def Ob:dF X (compareOp .GtE) (jL λi j=>.bl (decide (j<=i))):=ux λ_ _ _ _ _ _ _ q=>ge_int q
def Db:dF X (compareOp .Is) (λx y H Q=>y=.non/\Q (.bl (decide (x=.non))) H):=by
 intro d s Y H x y v u Q I e f h;let⟨rfl,q⟩:=h;cases f;refine is_none_gen (CW I q ?_);cases x<;>first
  |(cases e;rfl)
  |(let⟨t,rfl⟩:=e;rfl)
def Dc:dF X (compareOp .IsNot) (λx y H Q=>y=.non/\Q (.bl (not (decide (x=.non)))) H):=by
 intro d s Y H x y v u Q I e f h;let⟨rfl,q⟩:=h;cases f;refine isnot_none_gen (CW I q ?_);cases x<;>first
  |(cases e;rfl)
  |(let⟨t,rfl⟩:=e;rfl)
def bG(b)(h:autoParam (op≠.In) Zr._auto_1)(d:autoParam (op≠.NotIn) Zr._auto_1):behindInMarks op b=false:=by
 have e:(op==CmpOp.In)=false:=by lia
 have f:(op==CmpOp.NotIn)=false:=by lia
 cases b<;>simp[behindInMarks,e,f]
def Oc(m:dF X (compareOp op) r)(e:PE X a ta)(o:PE X b A)(f:behindInMarks op b=false):PE X (.Compare a [op] [b] pos) (qR r ta A):=by intro d s Y H Q I h;exact wpAny_Compare1 (yp e o I h λv u g x y i j k l q=>m d g Y i x y v u Q j k l q) f
def Od(t:TE):TT:=λY H Q=>t Y H λx d=>∃k,x=.bl k/\Q k d
def yt(C:dF X (compareOp op) r)(f:PE X a ta)(D:PE X b A)(g:behindInMarks op b=false):PT X (.Compare a [op] [b] pos) (Od (qR r ta A)):=by
 intro d s Y H Q I h;refine wpAny_isTrue_Compare1 (aS (f d s Y H _ I h) λv i k1=>?_) g;let⟨x,j,I1,l,q1⟩:=k1;refine aS (D d i Y j _ I1 q1) λu m k1=>?_;let⟨y,o,p,q,q2⟩:=k1;refine aS (C d m Y o x y v u _ p l q q2) λc E k1=>?_;let⟨z,t,w,B,k,e,q3⟩:=k1
 subst e;cases B;exact wpAny_truthy_bool #[t,w,q3]
def Oe(r e:R2)(ta A n:TE):TE:=λY H Q=>ta Y H λx f=>A Y f λy g=>r x y g λz d=>∃k,z=.bl k/\
 (if k=true then n Y d λh i=>e y h i Q else Q (.bl false) d)
def Of(T:dF X (compareOp op) r)(i:dF X (compareOp g) j)(p:PE X a ta)(U:PE X b A)(q:PE X c n)
  (t:autoParam (lastMarks [op,g] [b,c]=false) Zqc._auto_1):PE X (.Compare a [op,g] [b,c] pos) (Oe r j ta A n):=by
 intro f s Y H Q I h;refine Compare_chain (aS (p f s Y H _ I h) λv w k1=>?_) t;let⟨x,B,I1,C,q1⟩:=k1;refine chain_link (aS (U f w Y B _ I1 q1) λu D k1=>?_);let⟨y,E,G,l,q2⟩:=k1;refine aS (T f D Y E x y v u _ G C l q2) λd J k1=>?_;let⟨z,m,o,L,k,e,q3⟩:=k1
 subst e;cases L;apply wpAny_truthy_bool;cases k with
 |false=>exact ite_ff #[.bl false,m,o,rfl,q3]
 |true=>exact ite_tt (chain_last (aS (q f J Y m _ o q3) λM N k1=>by let⟨Z,O,R,S,q4⟩:=k1;exact i f N Y O y Z u M Q R l S q4))
def fN:(sizeLine:Nat)<2 ^ 63:=by rw[sizeLine_eq];decide
def vals1(r:bv [x] d):∃u,d=[u]/\bj x u:=by
 cases r with
 |cons e f=>cases f;exact#[_,rfl,e]
def vals2(r:bv [x,y] d):∃u e,d=[u,e]/\bj x u/\bj y e:=by
 cases r with
 |cons f g=>
  cases g with
  |cons h i=>cases i;exact#[_,_,rfl,f,h]
def uz(g:X.calm=true):hU X (.builtin "max") (λe H Q=>∃i j,e=[.int i,.int j]/\Q (.int (if j>i then j else i)) H):=by
 intro f s Y H e l Q I r h;let⟨i,j,rfl,q⟩:=h;obtain⟨u,m,rfl,⟨t,rfl⟩,⟨t',rfl⟩⟩:=vals2 r;refine max_two_ints (I.ok.hd g) λo p k=>#[_,H,I.kept k,?_,q]
 by_cases d:j>i
 .rw[if_pos d,if_pos d];exact#[_,rfl]
 .rw[if_neg d,if_neg d];exact#[_,rfl]
def Dd:hU X (.type "int") (λd H Q=>(∃i,d=[.int i]/\Q (.int i) H)\/∃k,d=[.bl k]/\Q (.int (if k then 1 else 0)) H):=by
 intro e s Y H d g Q I r h;rcases h with⟨i,rfl,q⟩ |⟨k,rfl,q⟩
 .let⟨u,rfl,t,rfl⟩:=vals1 r;exact call_int_int #[.int i,H,I,#[_,rfl],q]
 .let⟨u,rfl,f⟩:=vals1 r;cases f;exact call_int_bool #[.int (if k then 1 else 0),H,I.tok _,#[_,rfl],q]
structure hV (h:Heap) (x dx C:Addr) (mA:Str->Option Value):Prop where
 obj:h.get? x=some (instObj C dx)
 ns:h.Ns1 dx mA
 ne:dx≠x
def Og{h:Heap}(n:h.Ns1 c d):∃f,h.get? c=!f/\∀name,PySem.W.lookIn name f=!d name:=by
 let⟨o,g,m,ho,hd,i,_,j⟩:=n;refine#[o,ho,λname=>?_];have e:=j name;unfold nsFind findBy at e;rw[<-Array.find?_toList]at e;unfold PySem.W.lookIn;rw[hd];dsimp only;split
 .simp_all
 .rename_i q;rw[q]at e;have a:g.toList.any (·.refKey)=false:=by rw[List.any_eq_false];intro y k;let⟨z,t,b⟩:=i y (Array.mem_toList_iff.mp k);simp[DictEntry.refKey,b]
  grind
def hV.look(I:hV h x b C c):∃a,PySem.W.InstAt h x (instObj C b) C (!a)/\∀name,PySem.W.lookIn name a=!c name:=
 let⟨a,ho,d⟩:=Og I.ns
 #[a,#[I.obj,rfl,rfl,ho],d]
def Oh{K:Frag}(X:K.In s.heap)(I:hV s.heap x q C m)(b:plainGet K C name=true)(c:PySem.W.hasDictIn K C=true)
  (d:findIn K (.ref C) name=!none) (g:m name=!v) (a:PySem.W.handedIn v=true) (h:Q v { s with toks:=s.toks+1 }) :
  wpAny (model prog w) A (getAttr (.ref x) name expr) Q E s:=by
 let⟨i,J,e⟩:=I.look;exact PySem.W.get_value X J (q18 b).1 (PySem.W.findObj_own c d rfl (by rw[e,g])) a h
def Oi{K:Frag}(X:K.In s.heap)(I:hV s.heap x q C m)(a:plainGet K C name=true)
  (b:findIn K (.ref C) name=!!.ref f) (g:PySem.W.isFn K (.ref f)=true) (i:m name=none) (h:Q (.ref f,[.ref x]) s) :
  wpAny (model prog w) A (getMethod (.ref x) name e) Q E s:=by
 let⟨c,J,d⟩:=I.look;exact PySem.W.method_fn X J (q18 a).1 (q18 a).2 b (beq_iff_eq.mp g) (by show(PySem.W.lookIn name c).map (·.isSome)=!false;rw[d,i];rfl) h
def Oj{K:Frag}(X:K.In s.heap)(I:hV s.heap x q C m)
  (D:findIn K (.ref C) "__setattr__" = !!.builtin "object.__setattr__") (n:PySem.W.plainOver K C=true) (G:PySem.W.takerIn K C name=!none) (o:PySem.W.hasDictIn K C=true)
  (p:PySem.Within m l) (t:l.length<=sizeLine)
  (h:∀e,hV e x q C (λy=>if y=name then some v else m y)->Heap.SameBut q s.heap e->Q () { s with heap:=e,toks:=s.toks+2 }) :
  wpAny (model prog w) A (setAttr (.ref x) name v) Q E s:=by
 let⟨H,J,L⟩:=I.look;refine PySem.W.set_plain X J D (PySem.W.osa_open (r:=none) X J n G λb=>?_);let⟨M,u,g⟩:=PySem.W.any_some o;refine aA (bb (aA (aA (wpAny_loadPart I.obj (aA (PySem.W.Looks.here (PySem.W.looks_clsIn X u) ?_))))));rw[g];refine bb (a:=!q) (aA (bb (aA ?_)));refine wpAny_nsSet1 I.ns λe c d=>?_;let⟨N,z,B,i,j,k⟩:=c.count (PySem.Within.cons name v p);refine aA (wpAny_lookBehind i (by rw[j];exact pastItsLine_dict (q0C k (by rw[q0t];lia))) ?_);exact bb (h _ #[(d.2 _ (Ne.symm I.ne)).trans I.obj,c,I.ne] d)
def Ol{s:Shared}{K:Frag}(X:K.In s.heap)(b:PySem.W.makesIn K C=true)
  (c:findIn K (.ref C) "__init__" = !!.ref f) (e:PySem.W.typeIn K (.ref f)=!.type "function")
  (h:codeAny (model prog w) (A.under (.builtin "type.__call__" #[.ref C::vs,a])) (.call (.ref f) #[.ref (s.heap.objs.size+1)::vs,a]) (PySem.W.InitBack (s.heap.objs.size+1) R)
   { s with heap:=(s.heap.push emptyDict).push (instObj C s.heap.objs.size) }) :
  codeAny (model prog w) A (.call (.ref C) #[vs,a]) R s:=by
 let⟨i,g,d,t,os⟩:=s;exact PySem.W.make_core (PySem.W.makes_of X b) (q1u X c) (λself=>PySem.W.bind_fn X self e) (.inl rfl) h
noncomputable def cS(f:Str)(v:V):List (Str×V)->List (Str×V)
 |[]=>[(f,v)]
 |(g,x)::r=>if g=f then(g,v)::r else(g,x)::cS f v r
theorem De(f g v):∀fs,(cS f v fs).lookup g=if g=f then some v else fs.lookup g
 |[]=>by
  show List.lookup g [(f,v)]=_
  grind
 | (k,x)::r=>by
  have b:=De f g v r;rw[show cS f v ((k,x)::r)=(if k=f then(k,v)::r else(k,x)::cS f v r) from rfl]
  grind
theorem yu(f v):∀fs,f∈(cS f v fs).map (·.1)/\∀g,g∈fs.map (·.1)->g∈(cS f v fs).map (·.1)
 |[]=>#[by simp[cS],λg h=>by simp at h]
 | (k,x)::r=>by
  let⟨b,c⟩:=yu f v r;rw[show cS f v ((k,x)::r)=(if k=f then(k,v)::r else(k,x)::cS f v r) from rfl]
  grind
theorem Df(f v):∀fs,(cS f v fs).length<=fs.length+1
 |[]=>by simp[cS]
 | (k,x)::r=>by
  have b:=Df f v r;rw[show cS f v ((k,x)::r)=(if k=f then(k,v)::r else(k,x)::cS f v r) from rfl]
  by_cases a:k=f
  .simp_all
  simp_all
def gj.some_of(r:gj (!v) o):∃u,o=!u/\bj v u:=by
 cases o with
 |none=>exact(r).elim
 |some u=>exact#[u,rfl,r]
def gj.none_of(r:gj none o):o=none:=by
 cases o with
 |none=>rfl
 |some u=>exact(r).elim
def uA(c:bL P w H h)(e:H a=!.ins C I fs):∃b,hV h a I C b/\(∀f,gj (fs.lookup f) (b f))/\PySem.Within b (fs.map (·.1))/\fs.length<=1000/\H I=!.own a:=by
 let⟨d,z,ne,ob,b,n,r,q⟩:=(c a _ e)
 exact#[b,#[ob,n,ne],r,q,z,d]
structure dP (K:Frag) (C:Addr):Prop where
 pg:plainGet K C Str.empty=true
 hd:PySem.W.hasDictIn K C=true
 po:PySem.W.plainOver K C=true
 sa:findIn K (.ref C) "__setattr__" = !some (.builtin "object.__setattr__")
def dP.get{K}(c:dP K C)(f):plainGet K C f=true:=c.pg
def di(K:Frag)(C:Addr)(f:Str):Prop:=findIn K (.ref C) f=!none
def di.taker{K}(n:di K C f):PySem.W.takerIn K C f=!none:=by unfold PySem.W.takerIn;rw[n];rfl
structure jM (K:Frag) (C:Addr) (m:Str) (f:Addr):Prop where
 at_:findIn K (.ref C) m=some (!.ref f)
 fn:PySem.W.isFn K (.ref f)=true
 kp:keepIn K (.ref f)=true
def Dg{Y:St}(I:Inv X i Y H s)(e:H a=!.ins C d fs)(c:dP X.K C)(n:di X.K C f)(l:fs.lookup f=!v)
  (h:∀u g,Inv X i Y H g->bj v u->Q u g):wpAny (model X.prog X.w) A (getAttr (.ref a) f b) Q E s:=by
 let⟨j,O,r,_,_,_⟩:=uA I.hok e;let⟨u,k,ru⟩:=gj.some_of (by rw[<-l];exact r f);exact Oh I.kIn O (c.get f) c.hd n k (by
    cases v with
    |non=>cases(ru);rfl
    |bl b=>cases(ru);rfl
    |int i=>let⟨t,e⟩:=(ru);cases e;rfl
    |str x=>let⟨t,e⟩:=(ru);cases e;rfl
    |byt b=>let⟨t,e⟩:=(ru);cases e;rfl
    |flt b=>let⟨t,e⟩:=(ru);cases e;rfl
    |ref a=>cases(ru);rfl
    |ty n=>cases(ru);rfl) (h u _ (I.tok _) ru)
def Dh{Y:St}(I:Inv X i Y H s)(e:H a=!.ins C d fs)(c:dP X.K C)(k:jM X.K C m g)(l:fs.lookup m=none)
  (h:Q (.ref g,[.ref a]) s):wpAny (model X.prog X.w) A (getMethod (.ref a) m n) Q E s:=by
 let⟨b,O,r,_,_,_⟩:=uA I.hok e;exact Oi I.kIn O (c.get m) k.at_ k.fn (gj.none_of (by rw[<-l];exact r m)) h
def Di{Y:St}(I:Inv X i Y H s)(e:H a=!.ins C d fs)(c:dP X.K C)(n:di X.K C f)(M:fs.length<1000)(t:bj y u)
  (h:∀k,Inv X i Y (aM H a (.ins C d (cS f y fs))) k->Q () k):wpAny (model X.prog X.w) A (setAttr (.ref a) f u) Q E s:=by
 let⟨l,O,r,m,_,p⟩:=uA I.hok e;have B:(fs.map (·.1)).length<=sizeLine:=by rw[q0d,sizeLine_eq];lia
 refine Oj I.kIn O c.sa c.po n.taker c.hd m B λD j J=>h _ ?_;have hd:∃o,D.get? d=!o:=(by let⟨o,_,_,e',_⟩:=j.ns;exact#[o,e']);refine I.write (x:=a) (e:=d) (by rw[e];exact True.intro) (.inr p) (λb q L z=>(J.2 b L).trans z) hd ?_;refine#[by rw[bt O.ne];exact p,?_,O.ne,j.obj,_,j.ns,λg=>?_,λg G=>?_]
 .have:=Df f y fs;lia
 .show gj ((cS f y fs).lookup g) (if g=f then some u else l g);rw[De]
  by_cases q:g=f
  .rw[if_pos q,if_pos q];exact t
  .rw[if_neg q,if_neg q];exact r g
 .by_cases q:g=f
  .rw[q];exact(yu f y fs).1
  .refine(yu f y fs).2 g (m g λz=>G ?_);show(if g=f then some u else l g)=none;rw[if_neg q];exact z
def Inv.made{Y:St}(I:Inv X i Y H s):Inv X i Y (aM (aM H s.heap.objs.size (.own (s.heap.objs.size+1))) (s.heap.objs.size+1) (.ins C s.heap.objs.size []))
  { s with heap:=(s.heap.push emptyDict).push (instObj C s.heap.objs.size) }:=by
 have c:(s.heap.push emptyDict).get? s.heap.objs.size=!emptyDict:=Heap.get?_push_size s.heap rfl;have g:=by
  have:=Heap.get?_push_size (s.heap.push emptyDict) (o:=instObj C s.heap.objs.size) rfl
  rwa [Heap.size_push]at this
 refine (I.laid (o:=.own (s.heap.objs.size+1)) (t':=s.toks) (λb u q=>ca _ q) (bu _) #[_,c]).laid (λb u q=>ca _ q) (q2B (Heap.size_push _ _)) ?_;have ne:s.heap.objs.size≠s.heap.objs.size+1:=q0s (q00 _);refine#[by rw[bt ne,cI],q0K _,ne,g,λ_=>none,(Heap.Ns1.of_empty (#[emptyDict,#[],_,c,rfl,(λe j=>absurd j 'd'),λ_=>rfl])).at λo q=>ca _ q,λ_=>True.intro,λy k=>absurd rfl k]
def Op(K:Frag)(d:TE)(f:Str):TE:=λY H Q=>d Y H λx b=>∃a C c fs v,x=.ref a/\b a=!.ins C c fs/\dP K C/\di K C f/\fs.lookup f=!v/\Q v b
def Oq(K:Frag)(g d:TE)(f:Str):TS:=λD Y H=>d Y H λy e=>g Y e λx b=>∃a C c fs,x=.ref a/\b a=!.ins C c fs/\dP K C/\di K C f/\fs.length<1000/\
 D.nx Y (aM b a (.ins C c (cS f y fs)))
def Dj(X:Cx)(op:Operator)(rd:V->V->Hp->VK->Prop):Prop:=
 ∀(a:List (Addr×Obj)) (s:Shared) (Y:St) (H:Hp) (x y:V) (u v:Value) (Q:VK),Inv X a Y H s->bj x u->bj y v->rd x y H Q->wpAny (model X.prog X.w) X.A (inplaceOp op u v) (EP X a Y Q) X.xe s
def Ot(K:Frag)(j g:TE)(rd:V->V->Hp->VK->Prop)(f:Str):TS:=λD Y H=>j Y H λx d=>∃a C h fs v,x=.ref a/\d a=!.ins C h fs/\dP K C/\di K C f/\fs.lookup f=!v/\
 g Y d λy i=>rd v y i λz e=>∃c b,e a=!.ins C c b/\b.length<1000/\D.nx Y (aM e a (.ins C c (cS f z b)))
def jN(i:PE X e ta)(t:qSc X e f):PE X (.Attribute e f pos) (Op X.K ta f):=by intro b s Y H Q I h;refine Attribute_any_ (aS (i b s Y H _ I h) λu w d=>?_) (by rw[arm_eval_Attribute,t]);let⟨x,j,I1,k,a,C,y,fs,v,ex,m,c,n,l,q⟩:=d;subst ex;obtain rfl:u=Value.ref a:=k;exact Dg I1 m c n l λz A p ru=>#[v,j,p,ru,q]
def uB(i:PE X o ta)(A:PE X value tv)(B:swapsWith value (!.Attribute o f r) pos.line X.env=pure false):PS X (.Assign [.Attribute o f r] value pos) (Oq X.K ta tv f):=by intro b s Y H D I h;refine plainObj_wpAny_Assign_Attribute (aS (A b s Y H _ I h) λu j k1=>?_) B;let⟨y,k,I1,m,q⟩:=k1;refine aS (i b j Y k _ I1 q) λp E d=>?_;let⟨x,G,t,v,a,C,J,fs,ex,w,c,n,l,q2⟩:=d;subst ex;obtain rfl:p=Value.ref a:=v;exact Di t w c n l m λL z=>#[Y,_,z,q2]
def Ou(m:PE X o ta)(Z:PE X value tv)(j:Dj X op rd):PS X (.AugAssign (.Attribute o f g) op value pos) (Ot X.K ta tv rd f):=by intro b s Y H D I h;refine wpAny_AugAssign_AttributeAny (aS (m b s Y H _ I h) λp s1 d=>?_);let⟨x,t,I1,w,a,C,dx,fs,v,ex,A,c,n,l,q⟩:=d;subst ex;obtain rfl:p=Value.ref a:=w;refine Dg I1 A c n l λu B E ru=>aS (Z b B Y t _ E q) λG J k1=>?_;let⟨y,L,M,N,q3⟩:=k1;refine aS (j b J Y L v y u G _ M ru N q3) λw4 s4 i=>?_;let⟨z,H3,O,Q,R,S,k,T,q4⟩:=i;exact Di O k c n T Q λs5 U=>#[Y,_,U,q4]
def Ov:V->V->Hp->VK->Prop:=λx y H Q=>∃i j,x=.int i/\y=.int j/\Q (.int (i+j)) H
def Ow:Dj X .Add Ov:=by
 rintro a s Y H x y u v Q I b c ⟨i,j,rfl,rfl,q⟩;let⟨t,rfl⟩:=(b)
 let⟨t',rfl⟩:=(c)
 exact PyProof.Rows.iadd_int #[.int (i+j),H,I.tok _,#[_,rfl],q]
inductive eA (K:Frag) (H:Hp):V->Value->Prop where
 |non:eA K H .non (.type "NoneType")
 |bl (x:Bool):eA K H (.bl x) (.type "bool")
 |int (i:Int):eA K H (.int i) (.type "int")
 |str (x:Str):eA K H (.str x) (.type "str")
 |flt (x:UInt64):eA K H (.flt x) (.type "float")
 |lst {a:Addr}{xs:List V}(e:H a=!.lst xs):eA K H (.ref a) (.type "list")
 |frz {a:Addr}{o:Obj}{xs:List V}(e:H a=!.frz o (.lst xs)):eA K H (.ref a) (.type "list")
 |tup {a:Addr}{xs:List V}(e:H a=!.tup xs):eA K H (.ref a) (.type "tuple")
 |dK {a:Addr}{kvs:List (aX×V)}(e:H a=!.dK kvs):eA K H (.ref a) (.type "dict")
 |dT {a:Addr}{kvs:List (List aX×V)}(e:H a=!.dT kvs):eA K H (.ref a) (.type "dict")
 |ins {a C dx:Addr}{fs:List (Str×V)}(e:H a=!.ins C dx fs) (cl:dP K C) (ha:findIn K (.ref C) "__class__" = !!.builtin "object.__class__")
   (hn:PySem.W.specialIn K (.builtin "object.__class__") "__get__" = !!.builtin "getset_descriptor.__get__") (htk:PySem.W.takesIn K (.builtin "object.__class__")=!true)
   (hm:mroIn K C (.type "object")=!true):eA K H (.ref a) (.ref C)
def qT{Y:St}(I:Inv X pins Y H s)(d:bj x u)(M:eA X.K H x t)(e:kitOne X.K t c=!b)(h:∀r,Q (.bool b) { s with toks:=r }) :
  wpAny (model X.prog X.w) A (call (.builtin "isinstance") [u,c]) Q E s:=by
 cases M with
 |non=>cases(show u=Value.none from d);exact kia_one PySem.W.kitx_none I.kIn True.intro e (λz=>nomatch z) h
 |bl y=>cases(show u=Value.bool y from d);exact kia_one PySem.W.kitx_bool I.kIn True.intro e (λz=>nomatch z) h
 |int i=>let⟨t,q⟩:=(show ∃t,u=Value.int i t from d);cases q;exact kia_one PySem.W.kitx_int I.kIn True.intro e (λz=>nomatch z) h
 |str y=>let⟨t,q⟩:=(show ∃t,u=Value.str y t from d);cases q;exact kia_one PySem.W.kitx_str I.kIn True.intro e (λz=>nomatch z) h
 |flt y=>let⟨t,q⟩:=(show ∃t,u=Value.float y t from d);cases q;exact kia_one PySem.W.kitx_float I.kIn True.intro e (λz=>nomatch z) h
 | @lst a k f=>
  cases(show u=Value.ref a from d);let⟨_,_,n,_,g⟩:=(show dh X.prog X.w H s.heap a (.lst k) from I.hok a _ f)
  exact kia_one PySem.W.kitx_list I.kIn #[_,g,rfl] e (λz=>nomatch z) h
 | @frz a ob k f=>
  cases(show u=Value.ref a from d);let⟨_,_,_,n,_,g⟩:=(show dh X.prog X.w H s.heap a (.frz ob (.lst k)) from I.hok a _ f)
  exact kia_one PySem.W.kitx_list I.kIn #[_,g,rfl] e (λz=>nomatch z) h
 | @tup a k f=>
  cases(show u=Value.ref a from d);let⟨_,_,_,p⟩:=(show dh X.prog X.w H s.heap a (.tup k) from I.hok a _ f)
  let⟨o,g,l,_⟩:=p;exact kia_one PySem.W.kitx_tuple I.kIn #[o,g,l] e (λz=>nomatch z) h
 | @dK a j f=>
  cases(show u=Value.ref a from d);let⟨_,_,vs,_,p⟩:=(show dh X.prog X.w H s.heap a (.dK j) from I.hok a _ f)
  let⟨o,v,B,g,l,_⟩:=p;exact kia_one PySem.W.kitx_dict I.kIn #[o,g,l.1] e (λz=>nomatch z) h
 | @dT a j f=>
  cases(show u=Value.ref a from d);let⟨_,_,k,_,o,v,B,g,l,_⟩:=(show dh X.prog X.w H s.heap a (.dT j) from I.hok a _ f)
  exact kia_one PySem.W.kitx_dict I.kIn #[o,g,l.1] e (λz=>nomatch z) h
 | @ins a C N fs f cl D G m L=>cases(show u=Value.ref a from d);let⟨R,O,_⟩:=uA I.hok f;let⟨S,J,_⟩:=O.look;exact kia_one (PySem.W.kitx_own (cl.get _) cl.hd D G m L) I.kIn J e (λz=>nomatch z) h
structure bH (k:Nat) (A:Around):Prop where
 hd:A.handled=none
 dp:A.depth+3 * k+5<recursionLimit
 un:A.units+16 * k+200<cLine
def bH.mono(r:bH k A)(h:j<=k):bH j A:=#[r.hd,by have:=r.dp;lia,by have:=r.un;lia]
theorem bH.deeper(r:bH (k+1) A)(a):bH k (A.deeper a):=
 #[r.hd,by have:=r.dp;show A.depth+1+3 * k+5<_;lia,by have:=r.un;show A.units+3+16 * k+200<_;lia]
def Ox{A:Around}:(A.under (.builtin "type.__call__" #[.ref C::a,b])).depth=A.depth+1:=by first |rfl |lia
def Oy{A:Around}:(A.under (.builtin "type.__call__" #[.ref C::a,b])).units=A.units+1:=by first |rfl |lia
def bH.make(r:bH (k+1) A)(C a b):bH k (A.under (.builtin "type.__call__" #[.ref C::a,b])):=
 #[r.hd,by have:=r.dp;rw[Ox];lia,by have:=r.un;rw[Oy];lia]
theorem bH.depth(r:bH k A):A.depth<recursionLimit:=by have:=r.dp;lia
theorem bH.units(r:bH k A):A.units+64<cLine:=by have:=r.un;lia
def Dk:TA:=λ_ H Q=>Q [] H
def Dl(d:TE)(e:TA):TA:=λY H Q=>d Y H λx a=>e Y a λb c=>Q (x::b) c
def eK:PA X [] Dk:=λ_ _ _ _ H Q I h=>Calls.spliced_nil #[[],H,I,.nil,h]
def dQ(d:PE X e te)(f:PA X es t)(o:autoParam (qSa X e es) Zq._auto_1):PA X (e::es) (Dl te t):=by intro pos a s Y H Q I h;rw[o];show wpAny _ _ (spliced ((false,eval e X.env)::backTo pos (starEach es X.env))) _ _ s;refine Calls.spliced_cons (aS (d a s Y H _ I h) λu g b=>?_);let⟨x,i,I1,j,q1⟩:=b;exact aS (f pos a g Y i _ I1 q1) λp q c=>by let⟨k,l,m,n,q2⟩:=c;exact#[x::k,l,m,.cons j n,q2]
def Oz(t:TA):TE:=λY H Q=>t Y H λa b=>a.length<=sizeLine/\∀p,b p=none->Q (.ref p) (aM b p (.tup a))
def OA(t:TA):TE:=λY H Q=>t Y H λa b=>a.length<=sizeLine/\∀p,b p=none->Q (.ref p) (aM b p (.lst a))
def qU(h:PA X es t):PE X (.Tuple es f pos) (Oz t):=by intro a s Y H Q I g;refine wpAny_Tuple_spliced (aS (h pos a s Y H _ I g) λi c k1=>?_);let⟨j,d,I1,r,z,q⟩:=k1;refine#[by rw[<-r.length];exact z,#[.ref c.heap.objs.size,aM d c.heap.objs.size (.tup j),I1.laid (λb u e=>ca _ e) (bu _) ?_,rfl,q _ (I1.hok.fresh (bu _))]];exact#[z,i,r,#[_,Heap.get?_push_size _ rfl,rfl,_,rfl]]
def uC(h:PA X es t):PE X (.List es pos) (OA t):=by intro a s Y H Q I f;refine wpAny_List_spliced (aS (h pos a s Y H _ I f) λg c k1=>?_);let⟨i,d,I1,r,z,q⟩:=k1;refine#[by rw[<-r.length];exact z,#[.ref c.heap.objs.size,aM d c.heap.objs.size (.lst i),I1.laid (λb u e=>ca _ e) (bu _) ?_,rfl,q _ (I1.hok.fresh (bu _))]];exact#[z,g,0,r,Heap.get?_push_size _ rfl]
abbrev Sp:=List V->Hp->VK->XK->Prop
abbrev iy:=List Env->Hp->Shared->XK->Value->Shared->Prop
structure eB (P:Program) (w:World) (K:Frag) (mg:Str->Option Value) (base:Heap) (A:Around) (outer:List Env) (s:Shared) (H:Hp):Prop where
 frames:A.frames=some outer
 mod:Mod K mg base
 bs:∀b o,base.get? b=!o->s.heap.get? b=!o/\H b=none
 bsz:base.objs.size<=s.heap.objs.size
 funs:s.heap.FunFrames base outer
 frf:∀b∈cu outer,H b=none
 hok:bL P w H s.heap
 bare:AllBare s.gens
def CE(a:List Env)(P:Program)(w:World)(H:Hp)(s:Shared)(Q:VK)(u:Value)(b:Shared):Prop:=
 ∃v c,b.os=s.os/\AllBare b.gens/\Un (cu a) [] H c s.heap b.heap/\bL P w c b.heap/\bj v u/\Q v c
def CR(c:iy)(a:List Env)(P:Program)(w:World)(H:Hp)(s:Shared)(Q:VK)(E:XK)(r:Result)(b:Shared):Prop:=
 match r with
 |.ok (.ret u)=>CE a P w H s Q u b
 |.ok _=>False
 |.error e=>c a H s E e b
structure cR (P:Program) (w:World) (K:Frag) (mg:Str->Option Value) (base:Heap) (CX:iy) (k:Nat) (f:Addr) (fd:FuncData) (ps:List Str) (sp:Sp):Prop where
 len:∀vs H Q E,sp vs H Q E->vs.length=ps.length
 run:∀(A:Around) (outer:List Env) (s:Shared) (H:Hp) (args:Args) (us:List Value) (vs:List V) (Q:VK) (E:XK),bH k A->eB P w K mg base A outer s H->BindsTo s fd args (ps.zip us)->bv vs us->sp vs H Q E->
  codeAny (model P w) A (.call (.ref f) args) (CR CX outer P w H s Q E) s
def cR.imp{K}(F:cR P w K g base c k f fd d e)
  (h:∀vs H Q E,b vs H Q E->e vs H Q E):cR P w K g base c k f fd d b:=
 #[λvs H Q E q=>F.len vs H Q E (h _ _ _ _ q),λA a s H args i vs Q E j l m n o=>F.run A a s H args i vs Q E j l m n (h _ _ _ _ o)]
def eB.make{K}(e:eB P w K b base A a s H)(C c)(d) :
  eB P w K b base (A.under (.builtin "type.__call__" #[.ref C::c,d])) a s H:=#[by first |exact e.frames |lia,e.mod,e.bs,e.bsz,e.funs,e.frf,e.hok,e.bare]
def Inv.env0{Y:St}(I:Inv X pins Y H s):eB X.prog X.w X.K X.mg X.base X.A X.stack s H:=
 #[I.ok.frames,I.ok.mod,I.bs,q0C I.ok.bsz I.sz,I.stack,I.stkFree,I.hok,I.bare]
def Inv.after{Y:St}(I:Inv X pins Y H s)(h:CE X.stack X.prog X.w H s Q u s'):EP X pins Y Q u s':=by let⟨v,c,os,bare,un,hok,r,q⟩:=h;let⟨e,g,d,t,a⟩:=s';obtain rfl:a = s.os:=os;exact#[v,c,I.call un hok bare (λb z=>absurd z 'd'),r,q]
def iW(K:Frag)(fd:FuncData)(b:List Str)(c:List Value):Prop:=
 ∀(s:Shared) (a:List Value),K.In s.heap->(a++c).length=b.length->BindsTo s fd #[a,[]] (b.zip (a++c))
def iW.all{K}(h:∀a,a.length=b.length->bindArgs fd #[a,[]]=pure (b.zip a)):iW K fd b []:=λs a _ c=>by rw[q0D]at c ⊢;exact .of_eq (h a c)
structure Mk (K:Frag) (C f:Addr):Prop where
 makes:PySem.W.makesIn K C=true
 init:findIn K (.ref C) "__init__" = some (!.ref f)
 fn:PySem.W.isFn K (.ref f)=true
 kp:keepIn K (.ref C)=true
def PK(X:Cx)(b:List Keyword)(t:TA):Prop:=
 ∀(pos:Pos) (a:List (Addr×Obj)) (s:Shared) (Y:St) (H:Hp) (Q:List V->Hp->Prop),Inv X a Y H s->t Y H Q->wpAny (model X.prog X.w) X.A (evalAll ((backToKw pos (keywordEach b X.env)).map (·.2))) (AP X a Y Q) X.xe s
def OB:PK X [] Dk:=λ_ _ _ _ H Q I h=>wpAny_evalAll_nil #[[],H,I,.nil,h]
def OC(b:PE X e te)(c:PK X kws t):PK X (#[nm,e,kpos]::kws) (Dl te t):=by intro pos a s Y H Q I h;exact wpAny_evalAll_cons (aA (aS (b a s Y H _ I h) λu d k1=>(by let⟨x,g,I1,i,q1⟩:=k1;exact aA (wpAny_standAt (bb (aS (c pos a d Y g _ I1 q1) λr w k2=>(by let⟨j,l,n,q,q2⟩:=k2;exact#[x::j,l,n,.cons i q,q2])))))))
structure cb (N P:List Str) (sc:Scope):Prop where
 kind:sc.kind=.function
 co:sc.isCoroutine=false
 gen:sc.isGenerator=false
 nd:N.Nodup
 pre:N.take P.length=P
 par:∀x∈P,sc.names.lookup x=!.local\/sc.names.lookup x=some .cell
 nofree:∀y∈sc.names,y.2≠.free
theorem Dm{kindOf}:∀{binds m},(∀v,(x,v)∉binds)->bindL kindOf binds m x=m x
 |[],_,_=>rfl
 | (n,v)::r,m,h=>by
  unfold bindL;rw[Dm λw a=>h w (bK _ a)];split
  .have:x≠n:=by rintro rfl;exact h v q0g
   simp[this]
  .rfl
theorem Dn{kindOf}:∀{binds m},(∀v,(x,v)∉binds)->bindC kindOf binds m x=m x
 |[],_,_=>rfl
 | (n,v)::r,m,h=>by
  unfold bindC;rw[Dn λw a=>h w (bK _ a)];split
  .rfl
  .have:x≠n:=by rintro rfl;exact h v q0g
   simp[this]
theorem Do{kindOf}:∀{P:List Str}{vs}{i:Nat}{m},P.Nodup->P[i]? = !x->vs[i]? = !v->kindOf x=!.local->
  bindL kindOf (P.zip vs) m x=some v
 |[],_,_,_,_,h,_,_=>by simp at h
 |_::_,[],_,_,_,_,h,_=>by simp at h
 |p::P,w::vs,0,m,nd,a,b,c=>by simp at a b;subst a;subst b;show bindL kindOf ((p,w)::P.zip vs) m p=_;unfold bindL;rw[Dm λv d=>(q0v.mp nd).1 (q2C d).1,if_pos c];simp
 |p::P,w::vs,i+1,m,nd,a,b,c=>by unfold bindL;exact Do (q0v.mp nd).2 (by simpa using a) (by simpa using b) c
theorem Dp{kindOf}:∀{P:List Str}{vs}{i:Nat}{m},P.Nodup->P[i]? = !x->vs[i]? = !v->kindOf x≠!.local->
  bindC kindOf (P.zip vs) m x=some v
 |[],_,_,_,_,h,_,_=>by simp at h
 |_::_,[],_,_,_,_,h,_=>by simp at h
 |p::P,w::vs,0,m,nd,a,b,c=>by simp at a b;subst a;subst b;show bindC kindOf ((p,w)::P.zip vs) m p=_;unfold bindC;rw[Dn λv d=>(q0v.mp nd).1 (q2C d).1,if_neg c];simp
 |p::P,w::vs,i+1,m,nd,a,b,c=>by unfold bindC;exact Dp (q0v.mp nd).2 (by simpa using a) (by simpa using b) c
noncomputable def start(N:List Str)(vs:List V):St:=vs.map some++List.replicate (N.length - vs.length) none
noncomputable def iz(CX:iy)(P:Program)(w:World)(K:Frag)(mg:Str->Option Value)(base:Heap)(N:List Str)(qual:Str)(scope:Scope)(f:Addr)(cd:Value)(A:Around)(outer:List Env)(s:Shared)(H:Hp)(E:XK):Cx where
 prog:=P
 w:=w
 K:=K
 mg:=mg
 base:=base
 A:=A.deeper (envOfC qual scope s.heap.objs.size f cd)
 N:=N
 s₀:=s
 H₀:=H
 env:=envOfC qual scope s.heap.objs.size f cd
 outer:=outer
 stack:=envOfC qual scope s.heap.objs.size f cd::outer
 ex:=[]
 calm:=true
 fn:=λ_=>true
 pn:=[]
 xe:=λe s'=>wpAny (model P w) (A.deeper (envOfC qual scope s.heap.objs.size f cd)) (leaving (envOfC qual scope s.heap.objs.size f cd) e) (λ_ s''=>CX outer H s E e s'') (λe' s''=>CX outer H s E e' s'') s'
def Dq{a:Scope}(h:a.names.lookup x=!.cell):∃c,(cellsFrom n a.names []).lookup x=!c:=q0O.mp (q2w a.names n [] (.inl h))
def Dr{K}
  (S:cb N m d) (hd:A.handled=none) (l:eB P w K J base A g s H) (U:vs.length=m.length) (r:bv vs I)
  (x:InCallC s s.heap.objs.size (bindL (envOfC qual d s.heap.objs.size f cd).kindOf (m.zip I) λ_=>none) (cellsFrom (s.heap.objs.size+1) d.names []) (bindC (envOfC qual d s.heap.objs.size f cd).kindOf (m.zip I) λ_=>none) L) :
  Inv (iz CX P w K J base N qual d f cd A g s H E) [] (start N vs) H L:=by
 have Q:m.length<=N.length:=by have:=congrArg List.length S.pre;rw[q2r]at this;lia
 let⟨D,X,rfl,M⟩:=x.done;have o:∀b:Addr,b∉(iz CX P w K J base N qual d f cd A g s H E).ex:=λb z=>absurd (show b∈([]:List Addr) from z) 'd';refine#[#[l.mod,S.kind,rfl,rfl,bu _,λy z c D j=>?_,λy t=>?_,λy c _ h=>?_,λ_=>hd,Around.frames_deeper l.frames,.inr #[rfl,rfl],λb z=>absurd z (o b),l.bs,l.bsz,λb _ _=>o b,λb z=>absurd z (o b),l.funs,l.frf],
  rfl,l.bare,Un.kept M,#[_,x.toInCall.ns,λi y v D j Y=>?_],λy c h=>#[_,x.cell y c h],l.hok.fresh (bu _),λy c h=>?_,λp B=>absurd (show p∈([]:List (Addr×Obj)) from B) 'd',l.hok.kept M,?_]
 .exact name_of_addr x.apart (q0P D) (q0P j)
 .have t:d.names.lookup y=!.cell\/d.names.lookup y=!.free:=t;rcases t with t |t
  .exact Dq t
  .exact absurd rfl (S.nofree _ (q0P t))
 .exact q1C (x.above y c (q0P h))
 .have G:i<vs.length:=by
   unfold start at j
   by_cases G:i<vs.length
   .exact G
   .rw[q0J (by simpa using G)]at j;rw[q1e]at j;split at j<;>cases j
  have R:vs[i]? = !v:=by
   unfold start at j;rw[q0S (by simpa using G),q0q]at j;cases e:vs[i]? with
   |none=>rw[e]at j;cases j
   |some a=>rw[e]at j;cases j;rfl
  let⟨u,O,T⟩:=r.get R;have B:m[i]? = !y:=by rw[<-S.pre,List.getElem?_take_of_lt 'a'];exact D
  have C:m.Nodup:=by rw[<-S.pre];exact S.nd.sublist (List.take_sublist _ _)
  refine#[u,T,?_];rcases S.par y (q0w B) with k |k
  .exact .inl #[k,Do C B O k]
  .let⟨c,e⟩:=Dq (n:=s.heap.objs.size+1) k;refine .inr #[.inl k,c,e,?_];have q:=x.cell y c e;rw[Dp C B O (by show d.names.lookup y≠_;rw[k];decide)]at q;exact q
 .exact l.hok.fresh (q1C (x.above y c (q0P h)))
 .unfold start;show _=N.length;rw[q0I,q0d,q0V];lia
def yv(r:List V->Hp->VK->Prop)(t:TA):TE:=λY H Q=>t Y H λvs a=>r vs a Q
def pH{p:Pos}{pos:Pos}{id:String}(f:hU X (.builtin id) r)(g:Gl X x)(i:X.mg x=none)(u:bootBuiltins x=!.builtin id)(j:PA X (e::es) t)(k:autoParam (x≠"__name__") Zr._auto_1)(c:autoParam ((x==("__debug__":Str))=false) Zr._auto_1)
  (l:autoParam (qSa X e es) Zq._auto_1) (d:autoParam (qSb X pos es) Zq._auto_1):PE X (.Call (.Name x p) (e::es) [] pos) (yv r t):=by
 intro a s Y H Q I h;refine wpAny_Call_Name_kw (jK I g i u ?_ k c);exact PyProof.Rows.callWith_builtin1 (aS (j pos a s Y H _ I h) λm n b=>by let⟨vs,o,I1,q,q1⟩:=b;exact f a n Y o vs m Q I1 q q1) l d
def Ds{p:Pos}{pos:Pos}(d:hU X (.type T) r)(f:Gl X x)(g:X.mg x=none)(q:bootBuiltins x=!.type T)(i:PA X (e::es) t)(j:autoParam (x≠"__name__") Zr._auto_1)(b:autoParam ((x==("__debug__":Str))=false) Zr._auto_1)
  (k:autoParam (qSa X e es) Zq._auto_1) (c:autoParam (qSb X pos es) Zq._auto_1):PE X (.Call (.Name x p) (e::es) [] pos) (yv r t):=by
 intro a s Y H Q I h;refine wpAny_Call_Name_kw (jK I f g q ?_ j b);exact PyProof.Rows.callWith_type1 (aS (i pos a s Y H _ I h) λl m k1=>(by let⟨vs,n,I1,o,q1⟩:=k1;exact d a m Y n vs l Q I1 o q1)) k c
end L2
namespace HT
open PySem PyProof.Rows
noncomputable def lexLt:List Int->List Int->Bool
 |[],[]=>false
 |[],_::_=>true
 |_::_,[]=>false
 |x::a,y::b=>if x=y then lexLt a b else decide (x<y)
def lexLt_cons(x y a b):lexLt (x::a) (y::b)=if x=y then lexLt a b else decide (x<y):=rfl
def lexLt_nil_nil:lexLt [] []=false:=rfl
def OD(y a):lexLt [] (y::a)=true:=rfl
def OE(x a):lexLt (x::a) []=false:=rfl
def OF(A s a t c u):∃e,SeqAt.EqAt A s (.int a t) (.int c u) e/\(e=true↔a=c):=
 #[(a==c),SeqAt.EqAt.int_int a t c u,by simp]
def OG(A s a t c u b w E Q)(h:Q (.bool (decide (a<c))) s) :
  wpAny (model b w) A (richCompare .Lt (.int a t) (.int c u)) Q E s:=
 (PyProof.Rows.lt_int h)
section
open PySem.SeqAt
open PySem.AutoSeq1 (wpAny_loadPart')
open PySem.MeetsSeq PySem.MeetsSeq2 PySem.MeetsSeq3
def OH(l b)(items f)(n U dd M sl lZ L G)(S:IntsAre items.toList L)(T:IntsAre f.toList G) :
  Meets (Builtin.«tuple.__lt__» #[[.ref l,.ref b],[]])
   (λ_ R s=>s.heap.get? l=some { cls:=.type "tuple",dict:=dd,data:=.seq items n,slots:=sl }/\s.heap.get? b=some { cls:=.type "tuple",dict:=M,data:=.seq f U,slots:=lZ }/\
    R (.ok (.ret (.bool (lexLt L G)))) s):=
 .of_wp λv w A R s h=>by
  let⟨H,g,d,I,os⟩:=s;let⟨X,hb,h⟩:=h;have f2:=AutoSeq1.sub_tuple_tuple;have z1:items.size=L.length:=by rw[<-S.length];simp
  have z2:f.size=G.length:=by rw[<-T.length];simp
  wp_walk using wpAny_loadPart' X,wpAny_loadPart' hb,wpAny_forIn_list _ (λrest b N=>b.1=none/\N = #[H,g,d,I,os]/\∃(vs J:List Value) (j k:List Int),rest=vs.zip J/\
   IntsAre vs j/\IntsAre J k/\j.length+f.size=k.length+items.size/\R (.ok (.ret (.bool (lexLt j k)))) #[H,g,d,I,os]) _
  case turn=>
   rintro⟨y,x⟩ rest b N ⟨z,rfl,vs,J,j,k,m,B,o,i,p⟩;cases B with
   |nil=>rw[List.zip_nil_left]at m;cases m
   |cons a t D=>
    cases o with
    |nil=>rw[List.zip_nil_right]at m;cases m
    |cons c u E=>
     rw[q2g]at m;injection m with O C
     injection O with Y hx
     subst Y hx;rw[lexLt_cons]at p;simp only[q0t]at i;let⟨e,Z,r⟩:=OF A.in1 #[H,g,d,I,os] a t c u;refine aA (Z v w _ _ ?_);cases e with
     |true=>
      rw[if_pos (r.mp rfl)]at p
      wp_walk
      exact#[rfl,rfl,_,_,_,_,C,D,E,by lia,p]
     |false=>
      rw[if_neg (λq=>absurd (r.mpr q) q0H)]at p;have Q:=OG A.in1 #[H,g,d,I,os] a t c u v w
      wp_walk using Q
      exact#[_,rfl,by simpa using p]
  case fin=>
   rintro⟨b1,b2⟩ N ⟨z,rfl,vs,J,j,k,m,B,o,i,p⟩;simp only at z;subst z;have hv:lexLt j k = decide (items.size<f.size):=by
    cases B with
    |nil=>
     cases o with
     |nil=>simp only[q0T]at i;rw[lexLt_nil_nil];exact(decide_eq_false 'a').symm
     |cons c u hw=>simp only[q0T,q0t]at i;rw[OD];exact(decide_eq_true 'a').symm
    |cons a t hv=>
     cases o with
     |nil=>simp only[q0T,q0t]at i;rw[OE];exact(decide_eq_false 'a').symm
     |cons c u hw=>rw[q2g]at m;cases m
   rw[hv]at p
   wp_walk
   exact#[_,rfl,by simpa[Builtin.Tuple.tupleCompareSizes] using p]
  case h=>exact#[rfl,rfl,items.toList,f.toList,L,G,rfl,S,T,by lia,h]
end
def lt_tupInts(m:IsTup s.heap l items)(t:IsTup s.heap b a)(o:IntsAre items.toList g)(p:IntsAre a.toList c)
  (q:A.units<cLine) (h:Q (.bool (lexLt g c)) s):wpAny (model prog w) A (compareOp .Lt (.ref l) (.ref b)) Q E s:=by
 obtain⟨⟨cls,dd,data,sl⟩,ho,j,n,hd⟩:=id m;obtain⟨⟨k,i,data2,lZ⟩,d,e,r,f⟩:=id t;simp only at j hd e f;subst j hd e f;exact richCompare_meets_room (op:=.Lt) #[_,ho,rfl] #[_,d,rfl] PySem.F.slot_tuple_lt PySem.F.entry_tuple_lt (PySem.F.args_tuple_lt_2 _ _) (OH l b items a n r dd i sl lZ g c o p)
  #[ho,d,#[(λx=>nomatch x),h]] q
def cat_tup(q:IsTup s.heap t vs.toArray)(r:IsTup s.heap b a.toArray)(m:vs≠[])
  (o:a=[]->Q (.ref t) s) (p:a≠[]->Q (.ref s.heap.objs.size) { s with heap:=s.heap.push { cls:=.type "tuple",data:=.seq (vs++a).toArray } })
  (i:vs.length+a.length<=sizeLine):wpAny (model prog w) A (binaryOp .Add (.ref t) (.ref b)) Q E s:=by
 obtain⟨⟨cls,dd,data,sl⟩,ho,j,n,hd⟩:=id q;obtain⟨⟨k,d,data2,lZ⟩,c,f,l,g⟩:=id r;simp only at j hd f g;subst j hd f g;have e:vs.toArray++a.toArray=(vs++a).toArray:=by simp
 by_cases h:a=[]
 .exact concat_meets #[_,ho,rfl] #[_,c,rfl] noFill_tuple_add seq_tuple_add q1N q1F (q1D _ _)
   (tuple_addW1 t b vs.toArray a.toArray n l dd d sl lZ (by simpa using m) (by simp[h])) #[ho,c,o h]
 .refine concat_meets #[_,ho,rfl] #[_,c,rfl] noFill_tuple_add seq_tuple_add q1N q1F (q1D _ _)
   (tuple_addW2 t b vs.toArray a.toArray n l dd d sl lZ (by simpa using m) (by simpa using h) 'a') #[ho,c,?_]
  rw[e];exact p h
noncomputable def sIx(n d:Nat):Option Int->Nat
 |none=>d
 |some v=>if v<0 then(v+(n:Int)).toNat else min v.toNat n
def sIx_none(n d):sIx n d none=d:=rfl
def sIx_nat(n d k:Nat):sIx n d (!(k:Int))=min k n:=by show(if k<0 then(k+(n:Int)).toNat else min (k:Int).toNat n)=min k n;simp_all
def Dt(v)(n d:Nat):(if v<0 then max (v+(n:Int)) 0 else min v (n:Int))=((sIx n d (!v):Nat):Int):=by
 show(if v<0 then max (v+n) 0 else min v n)=(((if v<0 then(v+n).toNat else min v.toNat n)))
 grind
def OJ(lo a)(n:Nat):Builtin.Slice.sliceAdjust lo a 1 (n:Int)=(((sIx n 0 lo:Nat):Int),((sIx n n a:Nat):Int)):=by
 refine Prod.ext ?_ ?_
 .cases lo with
  |none=>rfl
  |some v=>exact Dt v n 0
 .cases a with
  |none=>rfl
  |some v=>exact Dt v n n
def OK(i j:Nat):Builtin.Slice.slicePlaces (i:Int) (j:Int) 1=j - i:=by
 unfold Builtin.Slice.slicePlaces;have a:(1:Int)>0:=by lia
 simp only[a,if_true,Int.ediv_one];split<;>lia
def Du(p:IsPart v o)(h:Q o s):wpAny (model prog w) A (Builtin.Slice.slicePartIndex v) Q E s:=by
 cases p with
 |none=>exact slicePart_none h
 |int i t=>exact slicePart_int h
def Dv{lo }{n:Nat}(j:s.heap.IsSliceOf f d e .none)(k:IsPart d lo)(g:IsPart e a)
  (h:Q (((sIx n 0 lo:Nat):Int),1,sIx n n a - sIx n 0 lo) s):wpAny (model prog w) A (Builtin.Slice.sliceApplied (.ref f) (pure (n:Int))) Q E s:=by
 let⟨os,b,i,c⟩:=id j;refine aA (aA (wpAny_field b c (x:=d) rfl (aA (wpAny_field b c (x:=e) rfl (aA (wpAny_field b c (x:=.none) rfl (bb (aA (slicePart_none ?_)))))))));rw[if_neg 'f'];refine aA (Du k (aA (Du g (aA (bb ?_)))));show wpAny _ _ (match Builtin.Slice.sliceAdjust lo a 1 n with |(lo,a)=>pure (lo,(1:Int),Builtin.Slice.slicePlaces lo a 1)) _ _ s;rw[OJ lo a n];show wpAny _ _ (pure (((sIx n 0 lo):Int),(1),Builtin.Slice.slicePlaces ((sIx n 0 lo:Nat)) ((sIx n n a):Int) 1)) _ _ s;rw[OK];exact bb h
def OL(a:Array Value)(i k:Nat):((List.range k).filterMap λ(m:Nat)=>a[((i:Int)+(m:Int) * 1).toNat]?).toArray=((a.toList.drop i).take k).toArray:=by
 have e:(λ(m:Nat)=>a[((i:Int)+(m:Int) * 1).toNat]?)=λm=>a[i+m]?:=by
  grind
 rw[e];have:=pick_run a i k;rw[List.filterMap_map]at this;have b:((λx=>a[x]?)∘λx=>i+x)=λm=>a[i+m]?:=rfl;simp_all
def getItem_tuple_cut{lo }(c:IsTup s.heap t items)(l:s.heap.IsSliceOf i j k .none)(u:IsPart j lo)(n:IsPart k b)
  (o:¬ (sIx items.size 0 lo=0/\sIx items.size items.size b=items.size))
  (h:Q (.ref s.heap.objs.size) { s with heap:=s.heap.push { cls:=.type "tuple",data:=.seq ((items.toList.drop (sIx items.size 0 lo)).take (sIx items.size items.size b - sIx items.size 0 lo)).toArray } })
  (p:items.size<=sizeLine):wpAny (model prog w) A (getItem (.ref t) (.ref i)) Q E s:=by
 have a:sizeOk (.seq ((items.toList.drop (sIx items.size 0 lo)).take (sIx items.size items.size b - sIx items.size 0 lo)).toArray):=by show((items.toList.drop (sIx items.size 0 lo)).take (sIx items.size items.size b - sIx items.size 0 lo)).toArray.size<=sizeLine;rw[q0y,q2r,q2s,q1z];lia
 have v:sIx items.size items.size b<=items.size:=(by
    cases b with
    |none=>exact (bu _)
    |some v=>
     show(if v<0 then(v+(_:Int)).toNat else min v.toNat _)<=_
     by_cases hv:v<0
     .rw[if_pos hv];lia
     .rw[if_neg hv];exact Nat.min_le_right _ _);let⟨os,d,e,r⟩:=id l;have f:s.TypeIs (.ref i) "slice":=#[os,d,e]
 unfold getItem
 try with_reducible refine wpAny_holding ?_
 first |refine aA (bb ?_) |skip
 refine aA (wpAny_sequenceKey c.typeIs 'f' ?_);refine aA (wpAny_callSpecial?_slot (name:=Str.ofString "__getitem__") c.typeIs PyProof.Rows.slot_tuple_getitem
  (wpAny_call_entry PyProof.Rows.slot_tuple_getitem c.typeIs entry_tuple_getitem ?_ (args_tuple_getitem _ _)))
 show wpAny _ _ (Builtin.Tuple.tupleItemsOf (.ref t) >>= _) _ _ s;refine aA (tupleItemsOf_ c ?_);refine aA (wpAny_typeOf f ?_);rw[if_pos 'f'];refine aA (Dv l u n ?_);have g:¬ ((((sIx items.size 0 lo:Nat):Int)==0&&(1:Int)==1&&(sIx items.size items.size b - sIx items.size 0 lo)==items.size)=true):=by intro q;rw[q0B,q0B]at q;have q1:((sIx items.size 0 lo:Nat):Int)=0:=eq_of_beq q.1.1;have q2:sIx items.size items.size b - sIx items.size 0 lo=items.size:=eq_of_beq q.2;exact o #[by lia,by lia]
 show wpAny _ _ (if (((sIx items.size 0 lo:Nat):Int)==0&&(1:Int)==1&&(sIx items.size items.size b - sIx items.size 0 lo)==items.size)=true then _ else _) _ _ s;rw[if_neg g,OL]
 first
  |exact aA (m:=Builtin.Tuple.tupleExact _) (wpAny_newObj_type (bb #[_,rfl,bb h]) a)
  |exact aA (m:=Builtin.Tuple.tupleExact _) (wpAny_newObj_type (aA (bb (bb #[_,rfl,bb h]))) a)
  |exact aA (aA (m:=Builtin.Tuple.tupleExact _) (wpAny_newObj_type (bb (bb #[_,rfl,bb h])) a))
  |exact aA (aA (m:=Builtin.Tuple.tupleExact _) (wpAny_newObj_type (bb #[_,rfl,bb h]) a))
end HT
namespace L2
open PySem PySem.Spec PyProof.Rows
abbrev TO:=St->Hp->(Option Int->Hp->Prop)->Prop
def PO(X:Cx)(e:Option Expr)(t:TO):Prop:=
 ∀(a:List (Addr×Obj)) (s:Shared) (Y:St) (H:Hp) (Q:Option Int->Hp->Prop),Inv X a Y H s->t Y H Q->
  wpAny (model X.prog X.w) X.A (evalPart e X.env) (λu c=>∃o b,Inv X a Y b c/\IsPart u o/\Q o b) X.xe s
def OM:TO:=λ_ H Q=>Q none H
def ON(t:TE):TO:=λY H Q=>t Y H λx a=>∃i,x=.int i/\Q (!i) a
def Dw:PO X none OM:=by intro a s Y H Q I h;rw[evalPart_none];exact bb #[none,H,I,.none,h]
def Dx(h:PE X e te):PO X (!e) (ON te):=by intro a s Y H Q I c;rw[evalPart_some];refine aS (h a s Y H _ I c) λu g b=>?_;let⟨x,d,I1,f,q1⟩:=b;let⟨i,rfl,q⟩:=q1;let⟨t,rfl⟩:=f;exact#[!i,d,I1,.int i t,q]
def kw(X:Cx)(r:V->Option Int->Option Int->Hp->VK->Prop):Prop:=
 ∀(a:List (Addr×Obj)) (s:Shared) (Y:St) (H:Hp) (x:V) (v b c:Value) (lo hi:Option Int) (d:Addr) (Q:VK),Inv X a Y H s->bj x v->s.heap.IsSliceOf d b c .none->IsPart b lo->IsPart c hi->r x lo hi H Q->
  ∃T id,typeLookup (.type T) "__getitem__" = pure (!.builtin id)/\s.TypeIs v T/\wpAny (model X.prog X.w) X.A (getItem v (.ref d)) (EP X a Y Q) X.xe s
def kw.or(h:kw X r)(l:kw X b):kw X (λx lo hi H Q=>r x lo hi H Q\/b x lo hi H Q):=by
 intro a s Y H x v c d lo hi i Q I f j k g q;rcases q with q |q
 .exact h a s Y H x v c d lo hi i Q I f j k g q
 .exact l a s Y H x v c d lo hi i Q I f j k g q
def OO(r:V->Option Int->Option Int->Hp->VK->Prop)(te:TE)(tl th:TO):TE:=λY H Q=>te Y H λx a=>tl Y a λl b=>th Y b λu c=>r x l u c Q
def Dy{lo:Option Expr}(k:kw X r)(m:PE X e te)(n:PO X lo tl)(o:PO X hi th):PE X (.Subscript e (.Slice lo hi none p2) pos) (OO r te tl th):=by intro a s Y H Q I h;refine Subscript_ (aS (m a s Y H _ I h) λv p d=>?_);let⟨x,t,I1,y,q1⟩:=d;refine wpAny_Slice (aS (n a p Y t _ I1 q1) λg z k1=>?_);let⟨l,B,C,pl,q2⟩:=k1;refine aS (o a z Y B _ C q2) λi c f=>?_;let⟨u,j,D,E,q3⟩:=f;rw[evalPart_none];apply bb;let⟨T,id,J,ht,L⟩:=k a { c with heap:=c.heap.push { cls:=.type "slice",data:=.fields [g,i,.none].toArray } } Y j x v g i l u c.heap.objs.size Q (D.kept λb M q=>ca _ q) y (Heap.IsSliceOf.new ..) pl E q3;exact tail_any ht J L (by with_unfolding_all rfl)
def ky(a:List V)(lo hi:Option Int):List V:=(a.drop (HT.sIx a.length 0 lo)).take (HT.sIx a.length a.length hi - HT.sIx a.length 0 lo)
def Dz(a lo hi):(ky a lo hi).length<=a.length:=by unfold ky;rw[q2r,q2s];lia
def OP(K:Frag):V->Option Int->Option Int->Hp->VK->Prop:=λx lo hi H Q=>∃a b,x=.ref a/\fq K H a b/\
 ¬ (HT.sIx b.length 0 lo=0/\HT.sIx b.length b.length hi=b.length)/\∀p,H p=none->Q (.ref p) (aM H p (.tup (ky b lo hi)))
def OQ:kw X (OP X.K):=by
 intro g s Y H x v p t lo hi u Q I j m n k h;let⟨a,d,rfl,hx,l,q⟩:=h;cases j;let⟨f,r,ht,i⟩:=I.tuple hx;have c:f.toArray.size=d.length:=by rw[q0y];exact r.length.symm
 refine#["tuple",_,PyProof.Rows.slot_tuple_getitem.lookup,ht.typeIs,HT.getItem_tuple_cut ht m n k (by rw[c];exact l) ?_ (by rw[c];exact i)];rw[c];refine#[.ref s.heap.objs.size,_,I.laid (λb w q=>ca _ q) (bu _) ?_,rfl,q _ (I.hok.fresh (bu _))];exact#[q0C (Dz d lo hi) i,_,(r.drop (HT.sIx d.length 0 lo)).take (HT.sIx d.length d.length hi - HT.sIx d.length 0 lo),IsTup.new _ _]
def OR(K:Frag):R2:=λx y H Q=>∃a b d c,x=.ref a/\y=.ref b/\fq K H a d/\fq K H b c/\d≠[]/\d.length+c.length<=sizeLine/\
 (c=[]->Q (.ref a) H)/\(c≠[]->∀p,H p=none->Q (.ref p) (aM H p (.tup (d++c))))
def bv.nil_iff(r:bv a b):b=[]↔a=[]:=by
 cases r with
 |nil=>simp
 |cons _ _=>simp
def OS:dF X (binaryOp .Add) (OR X.K):=by intro f s Y H x y v u Q I j k h;let⟨a,b,l,m,rfl,rfl,n,hb,hx,g,q1,q2⟩:=h;cases j;cases k;let⟨p,d,r,_⟩:=I.tuple n;let⟨i,c,p2,_⟩:=I.tuple hb;refine HT.cat_tup r p2 (λz=>hx (d.nil_iff.mp z)) (λz=>#[.ref a,H,I,rfl,q1 (c.nil_iff.mp z)]) (λz=>?_) (by rw[<-d.length,<-c.length];exact g);refine#[.ref s.heap.objs.size,_,I.laid (λb t q=>ca _ q) (bu _) ?_,rfl,q2 (λw=>z (c.nil_iff.mpr w)) _ (I.hok.fresh (bu _))];exact#[by simp_all,_,d.append c,IsTup.new _ _]
noncomputable def dR(n:Nat)(i:Int):Option Nat:=if 0<=i then(if i<n then some i.toNat else none) else if -(n:Int)<=i then some (i+n).toNat else none
def bT{α:Type}(a:List α)(i:Int):Option α:=(dR a.length i).bind λj=>a[j]?
def DC(h:dR n i=!j):seqIndex? i n=!j/\j<n/\-(n:Int)<=i/\i<n:=by
 unfold dR at h
 by_cases b:0<=i
 .rw[if_pos b]at h
  by_cases a:i<n
  .rw[if_pos a]at h;exact#[by rw[seqIndex_of b a,(q0x h)],by lia,by lia,a]
  simp_all
 .rw[if_neg b]at h
  by_cases a:-n<=i
  .rw[if_pos a]at h;exact#[by rw[seqIndex_neg 'a' a,(q0x h)],by lia,a,by lia]
  simp_all
def DH(h:bT a i=!v):∃j,seqIndex? i a.length=!j/\a[j]? = !v/\j<a.length/\-(a.length:Int)<=i/\i<a.length:=by
 unfold bT at h;cases e:dR a.length i with
 |none=>simp_all
 |some j=>rw[e]at h;let⟨b,c,d,f⟩:=DC e;exact#[j,b,h,c,d,f]
def nU(b:Expr):Prop:=∀o i,subscripted b false o i=operate [o,i] (getItem o i)
def kz(X:Cx)(r:R2):Prop:=
 ∀(value slice:Expr) (a:List (Addr×Obj)) (s:Shared) (Y:St) (H:Hp) (x y:V) (v u:Value) (Q:VK),Inv X a Y H s->bj x v->bj y u->r x y H Q->
  subscripted slice false v u=operate [v,u] (getItem v u)->wpAny (model X.prog X.w) X.A (subscriptTail value slice v u) (EP X a Y Q) X.xe s
def qV(X:Cx)(id:String)(r:V->List V->Hp->VK->Prop):Prop:=
 ∀(a:List (Addr×Obj)) (s:Shared) (Y:St) (H:Hp) (x:V) (b:List V) (v:Value) (c:List Value) (Q:VK),Inv X a Y H s->bj x v->bv b c->r x b H Q->
  wpAny (model X.prog X.w) X.A (call (.builtin id) (v::c)) (EP X a Y Q) X.xe s
def kz.or(h:kz X r)(i:kz X d):kz X (λx y H Q=>r x y H Q\/d x y H Q):=by
 intro value slice c s Y H x y v u Q I e f q g;rcases q with q |q
 .exact h value slice c s Y H x y v u Q I e f q g
 .exact i value slice c s Y H x y v u Q I e f q g
def qW(d:kz X r)(e:PE X a ta)(l:PE X b tb)(m:nU b):PE X (.Subscript a b pos) (qR r ta tb):=by intro c s Y H Q I h;exact Subscript_ (yp e l I h λv u f x y g i j k q=>d a b c f Y g x y v u Q i j k q (m _ _))
def yw(K:Frag):R2:=λx y H Q=>∃p c i v,x=.ref p/\y=.int i/\dO K H p c/\bT c i=!v/\Q v H
def yx(K:Frag):R2:=λx y H Q=>∃p c i v,x=.ref p/\y=.int i/\fq K H p c/\bT c i=!v/\Q v H
def qX:kz X (yw X.K):=by
 intro value slice c s Y H x y v u Q I n o h m;let⟨p,L,i,z,rfl,rfl,A,B,q⟩:=h;cases n;let⟨t,rfl⟩:=o;let⟨e,r,pl,M⟩:=I.list A;let⟨j,d,C,N,D,E⟩:=DH B;let⟨w,k,f⟩:=r.get C;have G:=r.length;have O:=fN;have fin:EP X c Y Q w s:=#[z,H,I,f,q]
 by_cases l:0<=i
 .have g:i.toNat=j:=by rw[seqIndex_of l E]at d;exact q0x d
  exact item_listR pl.isList l 'a' (by rw[g];simpa using k) fin m
 .have g:(i+(e.toArray.size:Int)).toNat=j:=by rw[seqIndex_neg 'a' D]at d;simp_all
  exact subscriptTail_builtinR (x:=w) pl.isList.typeIs slot_list_getitem.lookup
   (wpAny_getItem_list_neg pl.isList 'a' (by rw[q0y]<;>lia) 'a' (by rw[g];simpa using k) #[rfl,fin]) m
def DJ:kz X (yx X.K):=by
 intro value slice c s Y H x y v u Q I e f h C;let⟨p,D,i,z,rfl,rfl,g,k,q⟩:=h;cases e;let⟨t,rfl⟩:=f;let⟨l,r,pl,E⟩:=I.tuple g;let⟨j,m,n,G,J,L⟩:=DH k;let⟨w,o,d⟩:=r.get n;have A:=r.length;have M:=fN;exact subscriptTail_builtinR pl.typeIs slot_tuple_getitem.lookup
  (getItem_tuple (j:=j) pl 'a' 'a' 'h' (by simpa using o) #[rfl,(#[z,H,I,d,q])]) C
def OT(c:List Value)(n j u):Obj.mapSeq (·.setIfInBounds j u) { cls:=.type "list",data:=.seq c.toArray n } = { cls:=.type "list",data:=.seq (c.set j u).toArray n }:=by simp[Obj.mapSeq]
theorem Inv.lst{Y:St}(I:Inv X d Y H s)(h:H p=!.lst f) :
  ∃(c:List Value) (n:Nat),bv f c/\s.heap.get? p=some { cls:=.type "list",data:=.seq c.toArray n }/\f.length<=sizeLine:=by
 let⟨z,c,n,r,e⟩:=I.hok p _ h;exact#[c,n,r,e,z]
def Inv.lstUpd{Y:St}{g :List Value}(I:Inv X d Y H s)(h:H p=!.lst l)
  (o:s.heap.get? p=some { cls:=.type "list",data:=.seq g.toArray n }) (k:f { cls:=.type "list",data:=.seq g.toArray n } = { cls:=.type "list",data:=.seq c.toArray j }) (r:bv i c) (m:i.length<=sizeLine) (t) :
  Inv X d Y (aM H p (.lst i)) { s with heap:=s.heap.update p f,toks:=t }:=by
 have e:(s.heap.update p f).get? p=some { cls:=.type "list",data:=.seq c.toArray j }:=by rw[Heap.get?_update_self f o (by rw[k]<;>rfl),k]
 exact I.write (by rw[h];trivial) (.inl rfl) (λb u v q=>(Heap.get?_update_other _ _ v.symm).trans q) #[_,e] (#[m,c,j,r,e])
def OU:V->V->V->Hp->(Hp->Prop)->Prop:=λo i v H Q=>∃p c k j,o=.ref p/\i=.int k/\H p=!.lst c/\dR c.length k=!j/\Q (aM H p (.lst (c.set j v)))
def DK:CN X OU:=by
 intro c s Y H o i v G J u Q I z A B h;let⟨p,C,k,j,rfl,rfl,l,D,q⟩:=h;cases z;let⟨t,rfl⟩:=A;let⟨d,n,r,ho,E⟩:=I.lst l;let⟨e,L,m,w⟩:=DC D;have f:=r.length;have M:=fN;have x:=
  I.lstUpd l ho (OT d n j u) (r.set B j) (by rw[q0u];exact E) s.toks
 by_cases y:0<=k
 .have g:k.toNat=j:=by rw[seqIndex_of y w]at e;exact q0x e
  exact PySem.W.ki_setAt ho y 'a' 'h' (by rw[g];exact#[_,x,q])
 .have g:(k+(d.toArray.size:Int)).toNat=j:=by rw[seqIndex_neg 'a' m]at e;simp_all
  exact PySem.W.ki_setBack ho 'a' (by rw[q0y,<-f];exact m) 'a' (by rw[g];exact#[_,x,q])
def OV(lo c n):(sliceBounds lo c none n).1=((HT.sIx n 0 lo:Nat):Int)/\(sliceBounds lo c none n).2.1=((HT.sIx n n c:Nat):Int)/\(sliceBounds lo c none n).2.2=1:=by
 refine#[?_,?_,rfl]
 .cases lo with
  |none=>simp[sliceBounds,HT.sIx]
  |some i=>
   simp only[sliceBounds,HT.sIx,Option.getD_none,show(1:Int)>0 by decide,if_true]
   by_cases h:i<0
   .simp only[h,if_true]<;>lia
   .simp only[h,if_false]<;>lia
 .cases c with
  |none=>simp[sliceBounds,HT.sIx]
  |some i=>
   simp only[sliceBounds,HT.sIx,Option.getD_none,show(1:Int)>0 by decide,if_true]
   by_cases h:i<0
   .simp only[h,if_true]<;>lia
   .simp only[h,if_false]<;>lia
def OW(c:List Value)(lo d):slicePick c.toArray lo d none=((c.drop (HT.sIx c.length 0 lo)).take (HT.sIx c.length c.length d - HT.sIx c.length 0 lo)).toArray:=by let⟨e,f,g⟩:=OV lo d c.toArray.size;unfold slicePick;rw[e,f,g];simp only[sliceRange_one,pick_run]<;>rfl
def OX(K:Frag):V->Option Int->Option Int->Hp->VK->Prop:=λx lo d H Q=>∃a c,x=.ref a/\dO K H a c/\∀p,H p=none->Q (.ref p) (aM H p (.lst (ky c lo d)))
def DL:kw X (OX X.K):=by intro f s Y H x v n p lo e t Q I g l m i h;let⟨a,c,rfl,hx,q⟩:=h;cases g;let⟨j,r,ht,k⟩:=I.list hx;have d:=r.length;refine#["list",_,slot_list_getitem.lookup,ht.isList.typeIs,wpAny_getItem_list_slice ht.isList l m i .none 'd' ?_ 'h'];rw[OW,<-d];refine#[.ref s.heap.objs.size,_,I.laid (λb u q=>ca _ q) (bu _) ?_,rfl,q _ (I.hok.fresh (bu _))];exact#[q0C (Dz c lo e) k,_,0,(r.drop (HT.sIx c.length 0 lo)).take (HT.sIx c.length c.length e - HT.sIx c.length 0 lo),Heap.get?_push_size _ rfl]
noncomputable def jO:V->Bool
 |.non=>true
 |.bl _=>true
 |.int _=>true
 |.str _=>true
 |_=>false
noncomputable def fO:V->V->Bool
 |.non,.non=>true
 |.bl a,.bl b=>a==b
 |.bl a,.int b=>(if a then 1 else 0)==b
 |.int a,.bl b=>a==(if b then 1 else 0)
 |.int a,.int b=>a==b
 |.str a,.str b=>a==b
 |_,_=>false
def OY(d:bj y u)(c:bj x v)(f:jO y=true)(e:jO x=true):SeqAt.EqAt A s u v (fO y x):=by
 cases y with
 |non=>
  cases d;cases x with
  |non=>cases c;exact SeqAt.EqAt.same _
  |bl b=>cases c;exact SeqAt.EqAt.none_bool b
  |int b=>let⟨t,rfl⟩:=c;exact SeqAt.EqAt.none_int b t
  |str b=>let⟨t,rfl⟩:=c;exact SeqAt.EqAt.none_str b t
  |_=>exact absurd (show false=true from e) q0H
 |bl a=>
  cases d;cases x with
  |non=>cases c;exact SeqAt.EqAt.bool_none a
  |bl b=>cases c;exact SeqAt.EqAt.bool_bool a b
  |int b=>let⟨t,rfl⟩:=c;exact SeqAt.EqAt.bool_int a b t
  |str b=>let⟨t,rfl⟩:=c;exact SeqAt.EqAt.bool_str a b t
  |_=>exact absurd (show false=true from e) q0H
 |int a=>
  let⟨t',rfl⟩:=d;cases x with
  |non=>cases c;exact SeqAt.EqAt.int_none a t'
  |bl b=>cases c;exact SeqAt.EqAt.int_bool a t' b
  |int b=>let⟨t,rfl⟩:=c;exact SeqAt.EqAt.int_int a t' b t
  |str b=>let⟨t,rfl⟩:=c;exact SeqAt.EqAt.int_str a t' b t
  |_=>exact absurd (show false=true from e) q0H
 |str a=>
  let⟨t',rfl⟩:=d;cases x with
  |non=>cases c;exact SeqAt.EqAt.str_none a t'
  |bl b=>cases c;exact SeqAt.EqAt.str_bool a t' b
  |int b=>let⟨t,rfl⟩:=c;exact SeqAt.EqAt.str_int a t' b t
  |str b=>let⟨t,rfl⟩:=c;exact SeqAt.EqAt.str_str a t' b t
  |_=>exact absurd (show false=true from e) q0H
 |_=>exact absurd (show false=true from f) q0H
def iX:hU X (.builtin "len") (λi H Q=>∃p d,i=[.ref p]/\(dO X.K H p d\/fq X.K H p d)/\Q (.int d.length) H):=by
 intro j s Y H i m Q I r h;let⟨p,d,rfl,e,q⟩:=h;let⟨u,rfl,k⟩:=vals1 r;cases k;have n:=fN;rcases e with e |e
 .let⟨f,g,pl,l⟩:=I.list e;have c:=g.length;exact Calls.call_len_list pl.isList (by simp only[q0y]<;>lia) #[.int d.length,H,I.tok _,#[s.toks+1,by rw[q0y,c]],q]
 .let⟨f,g,pl,l⟩:=I.tuple e;have c:=g.length;exact len_tuple pl (by simp only[q0y]<;>lia) #[.int d.length,H,I.tok _,#[s.toks+1,by rw[q0y,c]],q]
def OZ:hU X (.type "list") (λy H Q=>∃p f,y=[.ref p]/\(dO X.K H p f\/fq X.K H p f)/\∀l,H l=none->Q (.ref l) (aM H l (.lst f))):=by
 intro j s Y H y B Q I r h;let⟨p,f,rfl,k,q⟩:=h;let⟨u,rfl,A⟩:=vals1 r;cases A;have fin:∀(c:List Value),bv f c->f.length<=sizeLine->∀(d:Heap) (g:Nat),(∀b z,s.heap.get? b=!z->d.get? b=!z)->
   d.get? s.heap.objs.size=some { cls:=.type "list",dict:=none,data:=.seq c.toArray g,slots:=#[] }->EP X j Y Q (.ref s.heap.objs.size) { s with heap:=d }:=λc i m d g v e=>
  #[.ref s.heap.objs.size,_,I.laid (t':=s.toks) v (bu _) (show dh X.prog X.w _ d _ (.lst f) from#[m,c,g,i,e]),rfl,q _ (I.hok.fresh (bu _))]
 rcases k with k |k
 .let⟨c,i,pl,m⟩:=I.list k;have t:=i.length;let⟨o,ho,x,n,hd⟩:=pl.isList;exact call_list_seq p (.inl rfl) ho x hd (λd g v e=>fin c i m d g v e) 'h'
 .let⟨c,i,pl,m⟩:=I.tuple k;have t:=i.length;let⟨o,ho,x,n,hd⟩:=pl;exact call_list_seq p (.inr rfl) ho x hd (λd g v e=>fin c i m d g v e) 'h'
def DM:hU X (.type "tuple") (λk H Q=>∃p f,k=[.ref p]/\((dO X.K H p f/\∀l,H l=none->Q (.ref l) (aM H l (.tup f)))\/(fq X.K H p f/\Q (.ref p) H))):=by
 intro c s Y H k y Q I r h;let⟨p,f,rfl,h⟩:=h;let⟨u,rfl,t⟩:=vals1 r;cases t;rcases h with⟨i,q⟩ |⟨i,q⟩
 .let⟨d,j,pl,m⟩:=I.list i;have n:=j.length;refine call_tuple_list pl.isList (λg x=>?_) (by grind);have I1:=I.kept (t':=s.toks) x;exact#[.ref g.objs.size,_,(I1.laid (λb o e=>ca _ e) (bu _) (show dh X.prog X.w _ _ _ (.tup f) from#[m,d,j,IsTup.new _ _])),rfl,q _ (I1.hok.fresh (bu _))]
 .let⟨d,j,pl,m⟩:=I.tuple i;exact call_tuple_same pl #[.ref p,H,I,rfl,q]
def DP(K:Frag)(T:String)(x:V)(H:Hp):Prop:=match x with
 |.str _=>T="str"
 |.int _=>T="int"
 |.ref p=>(T="list"/\∃d,dO K H p d)\/(T="tuple"/\∃o,K.lookup p=!o/\o.cls=.type "tuple"/\o.dict=none)\/
   (T="dict"/\((∃c,H p=!.dK c)\/∃c,H p=!.dT c))\/(T="set"/\∃S n,H p=!.set S n)
 |_=>False
def Pa{Y:St}(I:Inv X f Y H s)(r:bj x v)(g:DP X.K T x H) :
  s.TypeIs v T/\∀a,v=.ref a->∃k,s.heap.get? a=!k/\k.dict=none:=by
 cases x with
 |str z=>let⟨t,rfl⟩:=r;cases(show T="str" from g);exact#[typeIs_str s z t,λ_ e=>nomatch e]
 |int i=>let⟨t,rfl⟩:=r;cases(show T="int" from g);exact#[typeIs_int s i t,λ_ e=>nomatch e]
 |ref p=>
  cases r;rcases g with⟨rfl,u,l⟩ |⟨rfl,o,d,m,hd⟩ |⟨rfl,d⟩ |⟨rfl,S,n,d⟩
  .let⟨q,_,pl,_⟩:=I.list l;refine#[pl.isList.typeIs,λa e=>?_];cases e;let⟨o,n,e,c,hd,_⟩:=pl;exact#[o,e,hd]
  .refine#[#[o,I.kIn p o d,m],λa e=>?_];cases e;exact#[o,I.kIn _ o d,hd]
  .have z:∃o,s.heap.get? p=!o/\o.ExactDict:=by
    rcases d with⟨h,d⟩ |⟨h,d⟩
    .let⟨_,_,_,_,o,_,_,e,ex,_⟩:=I.hok p _ d;exact#[o,e,ex]
    .let⟨_,_,_,_,o,_,_,e,ex,_⟩:=I.hok p _ d;exact#[o,e,ex]
   let⟨o,e,ex⟩:=z;refine#[#[o,e,ex.1],λa j=>?_];cases j;exact#[o,e,ex.2.1]
  .let⟨o,_,_,_,e,ex,_⟩:=I.hok p _ d;refine#[#[o,e,ex.1],λa j=>?_];cases j;exact#[o,e,ex.2.1]
 |_=>exact False.elim g
def Pb(K:Frag)(T:String)(r:V->List V->Hp->VK->Prop)(f:TE)(t:TA):TE:=λY H Q=>f Y H λx c=>DP K T x c/\t Y c λd e=>r x d e Q
def nV{apos:Pos}{cpos:Pos}{id:String}(G:PlainAttrs T)(slot:Slot T name id)(l:typeOf (.builtin id)=pure (.type "method_descriptor"))(p:qV X id r)(J:PE X o to)(q:PA X (e::es) t)
  (f:autoParam (qSc X o name) Zq._auto_1)
  (i:autoParam (((backTo cpos (starEach (e::es) X.env)).all (λx=>not x.1)&&(backToKw cpos (keywordEach [] X.env)).all (λx=>x.1.isSome)
   && decide ((e::es).length+([]:List Keyword).length+(if ([]:List Keyword).isEmpty then 0 else 1)<30))=true) Zq._auto_1)
  (g:autoParam ((apos.endLine==cpos.line)=true) Zq._auto_1) (L:autoParam (qSa X e es) Zq._auto_1) (d:autoParam (qSb X cpos es) Zq._auto_1) :
  PE X (.Call (.Attribute o name apos) (e::es) [] cpos) (Pb X.K T r to t):=by
 intro c s Y H Q I h;refine wpAny_Call_method_late f i g rfl (aS (J c s Y H _ I h) λv u j=>?_);let⟨x,w,I1,m,ty,q1⟩:=j;let⟨y,z⟩:=Pa I1 m ty;refine#[T,id,G,slot,l,y,z,?_];have n:=q cpos c u Y w _ I1 q1;rw[L]at n ⊢;exact Calls.callWith_builtin (by show(false||(backTo cpos (starEach es X.env)).any (·.1))=false;rw[d]<;>rfl) (Calls.evalArgs_plain (aS n λA B k=>by let⟨vs,C,D,E,q2⟩:=k;exact p c B Y C x vs v A Q D m E q2))
def DQ(X:Cx)(id:String)(r:V->List V->Hp->VK->Prop):Prop:=
 ∀(a:List (Addr×Obj)) (s:Shared) (Y:St) (H:Hp) (x:V) (b:List V) (v:Value) (c:List Value) (Q:VK),Inv X a Y H s->bj x v->bv b c->r x b H Q->
  wpAny (model X.prog X.w) X.A (call (.builtin id) (v::c)) (EP X a Y Q) X.xe s
def bv.one:∀{x a},bv [x] a->∃u,a=[u]/\bj x u:=by
 intro x a h;cases h with
 |cons r t=>cases t;exact#[_,rfl,r]
theorem bv.rep(h:bv a b):∀k,bv (List.replicate k a).flatten (List.replicate k b).flatten
 |0=>.nil
 |k+1=>by rw[q0F,q0F,q0e,q0e];exact bv.append h (bv.rep h k)
theorem DR(a):∀k (b:List Value),
  List.foldl (λc d=>c++d) b.toArray (List.replicate k a.toArray)=(b++(List.replicate k a).flatten).toArray
 |0,b=>by simp
 |k+1,b=>by
  have e:b.toArray++a.toArray=(b++a).toArray:=by simp
  have f:(b++a)++(List.replicate k a).flatten=b++(List.replicate (k+1) a).flatten:=by grind
  rw[<-f,<-DR a k (b++a),<-e,q0F,q1G]
def Inv.lset{Y:St}{a :List Value}(I:Inv X pins Y H s)(c:H l=!.lst xs)
  (e:s.heap.get? l=some { cls:=.type "list",data:=.seq a.toArray n }) (d:f a.toArray=its'.toArray) (i:bv ys its') (g:ys.length<=sizeLine) :
  Inv X pins Y (aM H l (.lst ys)) { s with heap:=s.heap.update l (Obj.mapSeq f),toks:=t' }:=by
 have q:=PySem.IsL.update e f;rw[d]at q;exact I.write (by rw[c];exact trivial) (.inl rfl) (λk u j h=>(Heap.get?_update_other s.heap (Obj.mapSeq f) j.symm).trans h) #[_,q] (#[g,its',_,i,q])
def Inv.lnew{Y:St}(I:Inv X pins Y H s)(d:bv ys a)(c:ys.length<=sizeLine) :
  Inv X pins Y (aM H s.heap.objs.size (.lst ys)) { s with heap:=s.heap.push { cls:=.type "list",data:=.seq a.toArray },toks:=t' }:=
 I.laid (λ_ _ q=>ca _ q) (bu _) #[c,a,0,d,Heap.get?_push_size _ rfl]
theorem Inv.fresh{Y:St}(I:Inv X pins Y H s):H s.heap.objs.size=none:=I.hok.fresh (bu _)
def Inv.lstM{Y:St}(I:Inv X pins Y H s)(c:H l=!.lst xs):xs.length<=sizeLine/\∃(a:List Value) (n:Nat),bv xs a/\xs.length=a.length/\s.heap.get? l=some { cls:=.type "list",data:=.seq a.toArray n }:=by let⟨z,a,n,r,e⟩:=I.hok l _ c;exact#[z,a,n,r,r.length,e]
def DU(h:n<=sizeLine):Builtin.List.listTooLong n=false:=decide_eq_false 'a'
def Pc:V->List V->Hp->VK->Prop:=λx vs H Q=>∃l a y,x=.ref l/\vs=[y]/\H l=!.lst a/\a.length<sizeLine/\Q .non (aM H l (.lst (a++[y])))
def uD:DQ X "list.append" Pc:=by intro b s Y H x vs v g Q I d f h;let⟨l,i,y,rfl,rfl,c,j,q⟩:=h;cases d;let⟨u,rfl,ru⟩:=f.one;let⟨z,a,n,r,k,e⟩:=I.lstM c;refine call_meets F.slot_list_append #[_,e,rfl] F.entry_list_append (F.args_list_append_2 _ _) (PySem.list_append l a.toArray n u 'h') #[e,#[.non,_,I.lset c e 'd' (r.append (.cons ru .nil)) ?_,rfl,q]];rw[q0I,List.length_singleton];lia
def Pd:V->List V->Hp->VK->Prop:=λx vs H Q=>∃l b a c,x=.ref l/\vs=[.ref b]/\H l=!.lst a/\H b=!.lst c/\a.length+c.length<=sizeLine/\Q .non (aM H l (.lst (a++c)))
def Pe:DQ X "list.extend" Pd:=by
 intro g s Y H x vs v w Q I j k h;let⟨l,b,y,A,rfl,rfl,i,hB,B,q⟩:=h;cases j;let⟨u,rfl,ru⟩:=k.one;cases ru;let⟨z,c,n,r,C,e⟩:=I.lstM i;let⟨D,a,m,o,p,t⟩:=I.lstM hB;have f:c.toArray.size+a.toArray.size<=sizeLine:=by grind
 refine call_meets F.slot_list_extend #[_,e,rfl] F.entry_list_extend (F.args_list_extend_2 _ _)
  (AutoSeq1.list_extend_list_list_0 l c.toArray n b a.toArray m (by rw[DU f,Bool.and_false];simp_all) 'a' 'a') #[e,t,?_]
 refine#[.non,_,I.lset i e 'd' (r.append o) ?_,rfl,q];simp_all
def DY:R2:=λx y H Q=>∃l b a c,x=.ref l/\y=.ref b/\H l=!.lst a/\H b=!.lst c/\a.length+c.length<=sizeLine/\∀p,H p=none->Q (.ref p) (aM H p (.lst (a++c)))
def Pf:dF X (binaryOp .Add) DY:=by
 intro d s Y H x y v u Q I f g h;let⟨l,b,p,t,rfl,rfl,i,hB,w,q⟩:=h;cases f;cases g;let⟨z,c,n,r,A,e⟩:=I.lstM i;let⟨B,a,C,j,k,m⟩:=I.lstM hB;refine PySem.P.add_list e m ?_ (by grind);have o:c.toArray++a.toArray=(c++a).toArray:=by simp
 rw[o];exact#[.ref _,_,I.lnew (r.append j) 'h',rfl,q _ I.fresh]
def DZ:R2:=λx y H Q=>∃l k a,x=.ref l/\y=.int k/\H l=!.lst a/\-(2 ^ 63)<=k/\k<2 ^ 63/\a.length * k.toNat<=sizeLine/\
 ∀p,H p=none->Q (.ref p) (aM H p (.lst (List.replicate k.toNat a).flatten))
def Pg{α:Type}(a:List α)(k):(List.replicate k a).flatten.length=k * a.length:=by
 simp_all
def Ea:dF X (binaryOp .Mult) DZ:=by
 intro p s Y H x y v u Q I A B h;let⟨l,k,M,rfl,rfl,C,D,E,w,q⟩:=h;cases A;let⟨t,rfl⟩:=B;let⟨z,b,n,r,G,e⟩:=I.lstM C;have d:b.toArray.size * k.toNat<=sizeLine:=by rw[q0y,<-G];exact w
 have f:¬ b.toArray.size * k.toNat>(2 ^ 63 - 1) / 8:=by
  have:(sizeLine:Nat)<=(2 ^ 63 - 1) / 8:=by decide
  lia
 have g:¬ (not (Builtin.List.listFitsIndex k))=true:=by rw[fitsIndex_both D E];exact q0H
 have i:List.foldl (λj o=>j++o) #[] (List.replicate (if b.toArray.isEmpty=true then 0 else k.toNat) b.toArray)=(List.replicate k.toNat b).flatten.toArray:=by
  have J:=λm=>by have:=DR b m [];rw[q0r]at this;exact this
  rw[J];cases b with
  |nil=>simp
  |cons a N=>rw[if_neg 'd']
 refine wpAny_binaryOp_repeat_ref (T:="list") (U:="int") 'f' #[_,e,rfl] (λL=>typeIs_int L k t) noFill_list_mul F.fills_int_mul F.slot_int_rmul repeat_list F.slot_int_index.lookup
  (call_meets F.slot_int_rmul (typeIs_int s k t) F.entry_int_rmul (F.args_int_rmul_2 _ _) (int___rmul___int_list k t l b.toArray n)
   #[e,rfl,#[_,e,rfl],call_meets F.slot_list_mul #[_,e,rfl] F.entry_list_mul (F.args_list_mul_2 _ _) (AutoListH.list___mul___list_int_3 l b.toArray n k t g f (by rw[DU d];exact q0H)) #[e,?_]])
 rw[i];exact#[.ref _,_,I.lnew (t':=s.toks) (r.rep k.toNat) (by rw[Pg,Nat.mul_comm];exact w),rfl,q _ I.fresh]
end L2
namespace Att
open PySem PySem.W PySem.Calls PyProof.Rows
def Ph:∀c  vs,WellAll P h vs (c.map WData.int)->IntsAre vs c:=by
 intro c
 induction c with
 |nil=>intro vs w;rw[q07]at w;cases w;exact .nil
 |cons n c d=>
  intro vs w;rw[q0h]at w;cases w with
  |cons a b=>cases a;exact .cons _ _ (d _ b)
def Pj{l:OpenLaw}(p:l.most=!n)
  (e:l.row.toRowW.claim.pre args=true) (k:WellAll P h c args) :
  ∃a vs b,c=[Value.ref a]/\args=[WData.list (b.map WData.int)]/\h.get? a=some { cls:=.type "list",data:=.seq vs.toArray }/\IntsAre vs b/\b.length<=n:=by
 have o:l.pre.holds [] { args:=args }=true:=(pre_splitW e).2;let⟨d,r,rfl,s,t⟩:=hasAllW_cons ((pre_splitW e).1);obtain rfl:=hasAllW_nil t;let⟨w,rfl,u⟩:=hasW_list s;let⟨b,rfl⟩:=items_int u;have f:b.length<=n:=by
  have j:=condW_of (by have i:=(holds_andW o).1;rw[p]at i;exact i) (w_not (w_lt w_lit (w_len_list (w_arg rfl))));grind
 cases k with
 |cons w1 w2=>
  cases w2;cases w1 with
  |list ho g=>exact#[_,_,b,rfl,rfl,ho,Ph b _ g,f]
def Pk(l:OpenLaw)(args):l.row.toRowW.claim.post args (.bool true) args=true:=
 postW_of
  (by first |rfl |decide |lia)
  (w_eq_bool (w_res rfl) w_lit) rfl
def attach_call{l:OpenLaw}
  (I:l.most=!n) (u:d.params.defaults=[])
  (call:∀w  A c  s v  h  o  pm m e  a  vs  t,
   Ground q b [] B w A s v c.heap->C w c.heap->
   c.heap.get? h=!o->o.data=.func (docDef d.name d.params d.body d.scope pm m e)->c.heap.CodeRec m d.name->s d.name=!.ref h->
   c.heap.get? a=some { cls:=.type "list",data:=.seq vs.toArray }->IntsAre vs t->t.length<=n->c.gens = #[]->
   codeAny (model l.prog w) callerA (.call (.ref h) #[[.ref a],[]]) (λr p=>r=.ok (.ret (.bool true))/\OldK c.heap p.heap/\p.os=c.os/\AllBare p.gens) c) :
  WalkO q b B C l.row.toRowW d [] (λf vs=>PySem.call f vs):=by
 intro w A c s v G J h o pm m e dV kV ho hd x D y L args E as i H M z N;obtain rfl:dV=.none:=Dflts.none D u;obtain rfl:kV=.none:=Dflts.noKw D;let⟨a,vs,t,rfl,rfl,j,g,k⟩:=Pj I i z;refine enter_call (codeAny_mono (call w A c s v h o pm m e a vs t G J ho (fd_plain hd) x y j g k L) λr p O=>?_);let⟨rfl,Q,T,U⟩:=O;exact#[.inl #[.bool true,.bool true,[],rfl,λ_=>rfl,.bool true,Pk l _,λ_=>#[List.Pairwise.nil,λ_ Y=>(nomatch Y)]],Q,T,U]
end Att
namespace L2
open PySem PySem.Spec PyProof.Rows
def Pl:∀{vs a},IntsAre vs a->bv (a.map V.int) vs:=by
 intro vs a h
 induction h with
 |nil=>exact .nil
 |cons n t _ b=>exact .cons #[t,rfl] b
def yy(H:Hp):Prop:=∀b,H b=none\/∃o a,H b=!.frz o (.lst a)
def Pn{K}
  (X:K.In c.heap) (p:c.heap.Ns mainGlobals G) (g:c.heap.Ns builtinsNs M) (O:∀x:Str,x≠"__name__"->M x=bootBuiltins x) (t:c.heap.NoLimit) (hg:c.gens = #[])
  (L:c.heap.get? a=some { cls:=.type "list",data:=.seq vs.toArray }) (Y:IntsAre vs I) (Z:I.length<=sizeLine) (hr:bH k callerA)
  (F:∀base,K.In base->base.Ns mainGlobals G->cR P w K G base T k N fd [x] U) (l:∀s  u,BindsTo s fd #[[u],[]] [(x,u)])
  (hsp:∀H,yy H->dO K H a (I.map V.int)->U [.ref a] H (λv _=>v=.bl true) λ_ _ _=>False)
  (Q:∀H e i,T [] H c (λ_ _ _=>False) e i->False) :
  codeAny (model P w) callerA (.call (.ref N) #[[.ref a],[]]) (λr i=>r=.ok (.ret (.bool true))/\OldK c.heap i.heap/\i.os=c.os/\AllBare i.gens) c:=by
 have rv:=Pl Y;have y:=Y.length;have core:∀H:Hp,yy H->dO K H a (I.map V.int)->bL P w H c.heap->(∀b,H b≠none->b=a)->(H a≠none->K.lookup a=none)->
   codeAny (model P w) callerA (.call (.ref N) #[[.ref a],[]]) (λr i=>r=.ok (.ret (.bool true))/\OldK c.heap i.heap/\i.os=c.os/\AllBare i.gens) c:=by
  intro H hO hS J hA hK;have f:∀{b:Addr}{o:Obj},c.heap.get? b=!o->H b=none->(lu c.heap H).get? b=!o:=λe n=>MN e n;have R:∀{b:Addr}{o:Obj}{A:Array DictEntry}{B:Nat},c.heap.get? b=!o->o.data=.dict A B->H b=none:=λ{b o A B} e d=>by
   cases q:H b with
   |none=>rfl
   |some u=>have e':b=a:=hA b (by rw[q];simp);subst e';rw[L]at e;cases e;have d':Data.seq vs.toArray _=Data.dict A B:=d;cases d'
  have j:∀{b:Addr}{m:Str->Option Value},c.heap.Ns b m->(lu c.heap H).Ns b m:=λ{b m} C=>by let⟨o,A,B,e,d,r⟩:=C;exact#[o,A,B,f e (R e d),d,r]
  have D:K.In (lu c.heap H):=λb o e=>f (X b o e) (by
   cases q:H b with
   |none=>rfl
   |some u=>
    have e':b=a:=hA b (by rw[q];simp);subst e';rw[hK (by rw[q];simp)]at e;cases e)
  have hM:Mod K G (lu c.heap H):=#[D,j p,#[M,j g,O],(by let⟨mc,h1,h2⟩:=t;exact#[mc,j h1,h2])]
  have e0:eB P w K G (lu c.heap H) callerA [] c H:=#[rfl,hM,λb o e=>MO e,q2B (PySem.W.hideAll_size _ _),trivial,λb g=>absurd (show b∈([]:List Addr) from g) 'd',J,.of_eq hg]
  refine codeAny_mono ((F _ D (j p)).run callerA [] c H #[[.ref a],[]] [.ref a] [.ref a] _ _ hr e0 (l c (.ref a)) (.cons rfl .nil) (hsp H hO hS)) λr i h=>?_;cases r with
  |error e=>exact(Q H e i h).elim
  |ok fl=>
   cases fl with
   |next=>exact False.elim h
   |brk=>exact False.elim h
   |cont=>exact False.elim h
   |ret u=>
    let⟨v,H',os,bare,un,E,r',q⟩:=h;have q':v=.bl true:=q;subst q';obtain rfl:u=Value.bool true:=r';refine#[rfl,OldK.of_keep λb o e=>?_,os,bare];cases q:H b with
    |none=>exact un.keep b o e q (by intro z;exact absurd (show b∈([]:List Addr) from z) 'd') 'd'
    |some u=>
     rcases hO b with z |⟨ob,xs,z⟩
     .rw[q]at z;cases z
     .have z2:=un.frzs b ob _ z;let⟨e1,_⟩:=J b _ z;let⟨e2,_⟩:=E b _ z2;rw[e]at e1;cases e1;exact e2
 cases S:K.lookup a with
 |some o=>have e:=X a o S;rw[L]at e;cases e;refine core (λ_=>none) (λ_=>.inl rfl) (.inr #[_,vs.toArray,_,S,rfl,rfl,rfl,by rw[q0y,y];exact Z,by simpa using rv]) (λb u z=>by have z':(none:Option HO)=!u:=z;cases z') (λb z=>absurd rfl z) λz=>absurd rfl z
 |none=>
  refine core (λb=>if b=a then some (.frz { cls:=.type "list",data:=.seq vs.toArray } (.lst (I.map V.int))) else none) (λb=>?_) (.inl (.inr #[{ cls:=.type "list",data:=.seq vs.toArray },if_pos rfl])) (λb u z=>?_) (λb z=>?_) λ_=>S
  .by_cases g:b=a
   .exact .inr #[_,_,if_pos g]
   .exact .inl (if_neg g)
  .by_cases g:b=a
   .have z':=(if_pos g).symm.trans z;cases z';subst g;exact#[L,by rw[q0d];exact Z,vs,_,rv,L]
   .have z':=(if_neg g).symm.trans z;cases z'
  .by_cases g:b=a
   .exact g
   .exact absurd (if_neg g) z
def walk_of{l:PySem.W.OpenLaw}{K:Params->Frag}{CX:World->iy}{sp:World->Sp}
  (J:l.most=!n) (y:n<=sizeLine) (z:d.params.defaults=[]) (L:bH k callerA)
  (M:∀w  h,D w h->(K w.params).In h)
  (F:∀w  m  r  h,(K w.params).In h->h.Ns mainGlobals m->m d.name=!.ref r->
   ∃fd,(∀s  u,BindsTo s fd #[[u],[]] [(x,u)])/\
    ∀base,(K w.params).In base->base.Ns mainGlobals m->cR l.prog w (K w.params) m base (CX w) k r fd [x] (sp w))
  (hsp:∀w  H  a (t:List Int),t.length<=n->yy H->dO (K w.params) H a (t.map V.int)->sp w [.ref a] H (λv _=>v=.bl true) λ_ _ _=>False)
  (A:∀w  H  s  e  B,CX w [] H s (λ_ _ _=>False) e B->False) :
  PySem.W.WalkO q i I D l.row.toRowW d [] (λf vs=>PySem.call f vs):=by
 refine Att.attach_call J z λw s₀ N m Z r o pm cd O a vs t G Q ho hd R C p j c S=>?_;have E:=M w _ Q;let⟨fd,hb,U⟩:=F w m r _ E G.T.g C;exact Pn E G.T.g G.T.b G.T.builtins G.T.nolimit S p j (q0C c y) L U hb (λH X Y=>hsp w H a t c X Y) λH e B=>A w H N e B
noncomputable def gz(s:Stmt)(j:Nat):Stmt:=match s with
 |.ClassDef _ _ _ body _ _ _ _ _ _ _=>body.getD j (.Pass ⟨0,0,0,0⟩)
 |_=>.Pass ⟨0,0,0,0⟩
noncomputable def lx(s:Stmt):Arguments:=match s with
 |.FunctionDef _ a _ _ _ _ _ _ _ _=>a
 |_=>{ posonlyargs:=[],args:=[],vararg:=none,kwonlyargs:=[],kw_defaults:=[],kwarg:=none,defaults:=[] }
noncomputable def iY(s:Stmt):List Stmt:=match s with
 |.FunctionDef _ _ b _ _ _ _ _ _ _=>b
 |_=>[]
noncomputable def dS(s:Stmt):Scope:=match s with
 |.FunctionDef _ _ _ _ _ _ a _ _ _=>a
 |_=>{ kind:=.function,names:=[],isGenerator:=false,isCoroutine:=false }
structure nW (K:Frag) (x qual:Str) (st:Stmt) (f:Addr) (fd:FuncData):Prop where
 ex:∃(oc:Value) (od:Option Addr) (kV doc pm:Value) (an:Option Addr) (cdv ct:Value) (osl:Array (Option Value)),
  fd=fnOf x qual (lx st) (iY st) (dS st) .none kV doc pm an cdv ct/\K.lookup f=!#[oc,od,.func fd,osl]/\codeIn K cdv qual=true
 kp:keepIn K (.ref f)=true
def nW.binds{K:Frag}{st}(F:nW K x a st f fd)
  (h:∀kV b pm  e  c i  g,g.length=d.length->bindArgs (fnOf x a (lx st) (iY st) (dS st) .none kV b pm e c i) #[g,[]]=pure (d.zip g)):iW K fd d []:=by
 let⟨l,m,kV,b,pm,e,c,i,j,rfl,lk,k⟩:=F.ex;exact .all (h kV b pm e c i)
def qY{K:Frag}{st}{kV }(l:K.lookup f=!#[i,j,.func (fnOf x a (lx st) (iY st) (dS st) .none kV d pm g b h),e])
  (c:codeIn K b a=true) (k:keepIn K (.ref f)=true):nW K x a st f (fnOf x a (lx st) (iY st) (dS st) .none kV d pm g b h):=#[#[i,j,kV,d,pm,g,b,h,e,rfl,l,c],k]
def bU(a:bH k A):A.units+1<cLine:=Nat.lt_of_le_of_lt (Nat.add_le_add_left 'f' _) a.units
section
variable{X:Cx}
def pv(i){pos}(b:autoParam (X.N[i]? = !x) Zq._auto_1)(c:autoParam (uq X.env.scope x) Zqe._auto_1)(hd:autoParam ((x==("__debug__":Str))=false) Zr._auto_1)
  (a:autoParam ((x==("__classdict__":Str))=false) Zr._auto_1):PE X (.Name x pos) (bQ i):=(by
     have j:=b;have p:=c;have f:=a
     intro d s Y H Q I h;let⟨v,e,h⟩:=h;let⟨m,k,n⟩:=I.loc;let⟨u,r,l⟩:=n i x v j e p;have fin:EP X d Y Q u s:=#[v,H,I,r,h]
     rcases l with⟨b,o⟩ |⟨b,c,g,a⟩
     .exact wpAny_Name (wpAny_loadName_local I.ok.kind b k o fin) hd
     .rcases b with b |b
      .exact wpAny_Name (wpAny_loadName_cell I.ok.kind b g a fin) hd
      .exact wpAny_Name (wpAny_loadName_free I.ok.kind b g a fin f) hd)
end
def fP{B:Prop}(h:B):if false=true then A else B:=by lia
def fQ{B:Prop}(h:A):if true=true then A else B:=by simp_all
def bO(H a:Hp):Prop:=∀b o,H b=!o->a b=!o
def bO.refl(H):bO H H:=λ_ _ h=>h
def bO.trans(a:bO H d)(b:bO d e):bO H e:=λc o h=>b c o (a c o h)
def bO.seq{K}(e:bO H b)(h:dO K H a c):dO K b a c:=by
 rcases h with(h |⟨o,h⟩) |h
 .exact .inl (.inl (e _ _ h))
 .exact .inl (.inr #[o,e _ _ h])
 .exact .inr h
end L2
set_option maxHeartbeats 4000000
namespace L2
open PySem PySem.Spec PyProof.Rows
section
variable{κ:Type}[DecidableEq κ]
noncomputable def gk(a:List (κ×V))(k:κ):Option V:=(a.find? λb=>decide (b.1=k)).map (·.2)
noncomputable def eE(a:List (κ×V))(k:κ)(v:V):List (κ×V):=
 if (a.any λb=>decide (b.1=k))=true then a.map (λb=>if b.1=k then(b.1,v) else b) else a++[(k,v)]
def qZ{p:κ×V}(e:p.1=k):gk (p::r) k=!p.2:=by simp[gk,e]
def ra{p:κ×V}(e:¬ p.1=k):gk (p::r) k=gk r k:=by simp[gk,e]
theorem uE(k):∀a:List (κ×V),(a.any λb=>decide (b.1=k))=(gk a k).isSome
 |[]=>rfl
 |p::r=>by
  rw[List.any_cons]
  by_cases e:p.1=k
  .simp only[qZ e,decide_eq_true e,Bool.true_or,Option.isSome_some]
  .rw[ra e,decide_eq_false e,Bool.false_or];exact uE k r
def yz(a)(k:κ)(v):(eE a k v).length<=a.length+1:=by
 unfold eE;split
 .simp_all
 simp_all
def uF{a:List (κ×V)}(v)(h:gk a k=none):eE a k v=a++[(k,v)]:=by unfold eE;rw[uE,h];simp_all
def gj.isSome_eq(r:gj o u):o.isSome=u.isSome:=by
 cases o with
 |none=>cases u with
  |none=>rfl
  |some _=>exact(r).elim
 |some _=>cases u with
  |none=>exact(r).elim
  |some _=>rfl
theorem gj.getD(r:gj o u)(rd:bj d a):bj (o.getD d) (u.getD a):=by
 cases o with
 |none=>cases u with
  |none=>exact rd
  |some _=>exact(r).elim
 |some _=>cases u with
  |none=>exact(r).elim
  |some _=>exact r
def KV.val(r:KV a vs)(k:κ):gj (gk a k) (valueAt vs k):=by
 induction r with
 |nil=>exact True.intro
 | @cons p q i c h t f=>
  let⟨d,g⟩:=h
  by_cases e:p.1=k
  .have e':=d.symm.trans e;have b:valueAt (q::c) k=!q.2:=by simp[valueAt,e']
   rw[qZ e,b];exact g
  .have e':¬ q.1=k:=λz=>e (d.trans z);have b:valueAt (q::c) k=valueAt c k:=by simp[valueAt,e']
   rw[ra e,b];exact f
theorem KV.any(r:KV a vs)(k:κ):(a.any λb=>decide (b.1=k))=vs.any λb=>decide (b.1=k):=by
 induction r with
 |nil=>rfl
 |cons h t c=>simp_all
def KV.repl(r:KV b vs)(k:κ)(d:bj y u) :
  KV (b.map λa=>if a.1=k then(a.1,y) else a) (vs.map λa=>if a.1=k then(a.1,u) else a):=by
 induction r with
 |nil=>exact .nil
 | @cons p q i j h t f=>
  rw[q0h,q0h];refine .cons ?_ f;let⟨c,g⟩:=h
  by_cases e:p.1=k
  .simp_all
  simp_all
def KV.put(r:KV a vs)(k:κ)(b:bj y u):KV (eE a k y) (stored vs k u):=by
 unfold eE stored;rw[r.any k]
 by_cases e:(vs.any λc=>decide (c.1=k))=true
 .rw[if_pos e,if_pos e];exact r.repl k b
 .rw[if_neg e,if_neg e];exact Paired.snoc r #[rfl,b]
theorem KV.length{a:List (κ×V)}(r:KV a vs):a.length=vs.length:=Paired.length r
end
def pI(r:bj (kV k) u):(fM P w).is k u=true:=by
 cases k with
 |inl i=>let⟨t,e⟩:=(r);subst e;exact MB i t
 |inr x=>let⟨t,e⟩:=(r);subst e;exact MC x t
theorem Eb:∀{a b},bv (a.map kV) b->ItemsAre (fM P w) a b
 |[],_,r=>by rw[q07]at r;cases r;exact .nil
 |k::a,_,r=>by
  rw[q0h]at r;cases r with
  |cons h t=>exact .cons (pI h) (Eb t)
abbrev KT(H:Hp):List (List aX×V)->List (List aX×Addr×Value)->Prop:=Paired λp q=>p.1=q.1/\H q.2.1=!.tup (p.1.map kV)/\bj p.2 q.2.2
def KT.val(r:KT H a d)(k):gj (gk a k) ((atKey d k).map (·.2)):=by
 induction r with
 |nil=>exact True.intro
 | @cons p q j c h t g=>
  let⟨f,_,i⟩:=h
  by_cases e:p.1=k
  .have e':=f.symm.trans e;have b:atKey (q::c) k=!q.2:=by simp[atKey,e']
   rw[qZ e,b];exact i
  .have e':¬ q.1=k:=λz=>e (f.trans z);have b:atKey (q::c) k=atKey c k:=by simp[atKey,e']
   rw[ra e,b];exact g
def KT.repl(r:KT H a d)(k)(g:bj y u) :
  KT H (a.map λc=>if c.1=k then(c.1,y) else c) (d.map (putAt k u)):=by
 induction r with
 |nil=>exact .nil
 | @cons p q l m h t i=>
  rw[q0h,q0h];refine .cons ?_ i;let⟨b,f,j⟩:=h;unfold putAt
  by_cases e:p.1=k
  .rw[if_pos e,if_pos (b.symm.trans e)];exact#[b,f,g]
  .rw[if_neg e,if_neg (λz=>e (b.trans z))];exact#[b,f,j]
def KT.put(r:KT H a c)(k)(g:H b=!.tup (k.map kV))(d:bj y u) :
  KT H (eE a k y) (storedH c k b u):=by
 have e:(a.any λf=>decide (f.1=k))=(atKey c k).isSome:=by rw[uE,(r.val k).isSome_eq,Option.isSome_map]
 unfold eE storedH;rw[e]
 by_cases q:(atKey c k).isSome=true
 .rw[if_pos q,if_pos q];exact r.repl k d
 .rw[if_neg q,if_neg q];exact Paired.snoc r #[rfl,g,d]
def KT.keeps(r:KT H a d)(f:∀b e,H b=!.tup e->c b=!.tup e):KT c a d:=
 Paired.mapP r λ_ _ z=>#[z.1,f _ _ z.2.1,z.2.2]
def pJ(ok:bL P w H h)(e:Rd H a (.dK b)):b.length<=sizeLine/\(a==sysModules)=false/\∃vs,KV b vs/\h.DictOf (fM P w) a vs:=
 e.ok ok
def rb(ok:bL P w H h)(e:H a=!.tup (b.map kV)):(tupleKind (fM P w)).is h b a:=by
 let⟨_,c,r,o,d,f,n,g⟩:=(ok a _ e)
 exact#[o,c.toArray,n,d,f,g,by simpa using Eb r]
def pK(ok:bL P w H h)(e:Rd H a (.dT b)):b.length<=sizeLine/\(a==sysModules)=false/\
  ∃d,KT H b d/\h.DictOfH (tupleKind (fM P w)) a d:=by
 let⟨z,y,d,r,o,g,i,j,k,n,s,u⟩:=(e.ok ok)
 refine#[z,y,d,r,o,g,i,j,k,n,s,λx c=>?_,u];have all:∀{l:List (List aX×V)}{m:List (List aX×Addr×Value)},KT H l m->∀x∈m,(tupleKind (fM P w)).is h x.1 x.2.1:=by
  intro l m q
  induction q with
  |nil=>simp_all
  | @cons p q A B f t v=>
   intro x c;rcases q0c.mp c with e |c
   .subst e;exact rb ok 'h'
   .exact v x c
 exact all r x c
def iZ(H:Hp)(a:Addr)(y:V)(r:Option V):Prop:=
 (∃c k,Rd H a (.dK c)/\y=kV k/\r=gk c k)\/∃c k b,Rd H a (.dT c)/\y=.ref b/\H b=!.tup (k.map kV)/\r=gk c k
def mx(H:Hp)(a:Addr)(y v:V)(d:Hp):Prop:=
 (∃c k,H a=!.dK c/\y=kV k/\c.length<sizeLine/\d = aM H a (.dK (eE c k v)))\/
 ∃c k b,H a=!.dT c/\y=.ref b/\H b=!.tup (k.map kV)/\c.length<sizeLine/\d = aM H a (.dT (eE c k v))
theorem iZ.k{k}(e:H a=!.dK b):iZ H a (kV k) (gk b k):=.inl #[b,k,.inl e,rfl,rfl]
def iZ.t{k}(e:H a=!.dT c)(d:H b=!.tup (k.map kV)):iZ H a (.ref b) (gk c k):=.inr #[c,k,b,.inl e,rfl,d,rfl]
theorem mx.k{k}(e:H a=!.dK b)(c:b.length<sizeLine):mx H a (kV k) v (aM H a (.dK (eE b k v))):=.inl #[b,k,e,rfl,c,rfl]
def mx.t{k}(e:H a=!.dT c)(d:H b=!.tup (k.map kV))(f:c.length<sizeLine) :
  mx H a (.ref b) v (aM H a (.dT (eE c k v))):=.inr #[c,k,b,e,rfl,d,f,rfl]
def Inv.big{Y:St}(I:Inv X pins Y H s):sysModules<s.heap.objs.size:=Nat.lt_trans 'f' ((I.mod.glob.keeps I.bk).lt)
def Pp{Y:St}(t:A.units+1<cLine)(I:Inv X pins Y H s)(g:iZ H a y (!v))(n:bj y u)(h:∀d q,Inv X pins Y H q->bj v d->Q d q) :
  wpAny (model X.prog X.w) A (getItem (.ref a) u) Q E s:=by
 rcases g with⟨f,k,e,i,l⟩ |⟨f,k,b,e,i,x,l⟩
 .subst i;let⟨z,hd,vs,rel,dd⟩:=pJ I.hok e;let⟨d,j,c⟩:=gj.some_of (by rw[l];exact rel.val k);exact wpAny_getItem_of (pI n) dd.mapOf j (h d _ (I.tok _) c)
 .subst i;cases(n);let⟨z,hd,B,rel,dd⟩:=pK I.hok e;let⟨d,j,c⟩:=gj.some_of (by rw[l];exact rel.val k);let⟨p,C,m⟩:=q0i.mp j;apply wpAny_getItem_heap (tupleKind_room_in1 t) (rb I.hok x) dd C;rw[m];exact h d _ (I.tok _) c
def Pq{Y:St}(j:A.units+1<cLine)(I:Inv X pins Y H s)(g:iZ H a y o)(f:bj y u)(h:∀i,Inv X pins Y H i->Q (.bool o.isSome) i) :
  wpAny (model X.prog X.w) A (compareOp .In u (.ref a)) Q E s:=by
 rcases g with⟨c,k,e,d,l⟩ |⟨c,k,b,e,d,m,l⟩
 .subst d;let⟨z,hd,vs,rel,dd⟩:=pJ I.hok e;refine wpAny_in_of (pI f) hd dd.mapOf ?_;rw[<-(rel.val k).isSome_eq,<-l];exact h _ (I.tok _)
 .subst d;cases(f);let⟨z,hd,n,rel,dd⟩:=pK I.hok e;refine wpAny_in_heap (tupleKind_room_in1 j) (rb I.hok m) hd dd ?_;have q:=(rel.val k).isSome_eq;rw[Option.isSome_map]at q;rw[<-q,<-l];exact h _ (I.tok _)
def yB{Y:St}(I:Inv X pins Y H s)(f:qP (H a))(h:Heap.SameBut a s.heap c)(g:∃q,c.get? a=!q)(new:dh X.prog X.w (aM H a d) c a d) :
  Inv X pins Y (aM H a d) { s with heap:=c,toks:=t' }:=
 I.write f (.inl rfl) (λb q i z=>(h.2 b i).trans z) g new
def yC(z:b.length<=sizeLine)(hd:(a==sysModules)=false)(rel:KV b vs)(e:c.DictOf (fM P w) a vs) :
  dh P w d c a (.dK b):=#[z,hd,vs,rel,e]
def Pr{Y:St}(M:A.units+1<cLine)(I:Inv X pins Y H s)(g:mx H a y v x)(B:bj y u)(C:bj v r)(h:∀D,Inv X pins Y x D->Q () D) :
  wpAny (model X.prog X.w) A (setItem (.ref a) u r) Q E s:=by
 rcases g with⟨d,k,e,j,l,m⟩ |⟨d,k,b,e,j,G,l,m⟩
 .subst j m;let⟨z,hd,vs,rel,dd⟩:=pJ I.hok (.inl e);have n:vs.length<=sizeLine:=by rw[<-rel.length];exact z
  have p:(eE d k v).length<=sizeLine:=by have:=yz d k v;lia
  refine wpAny_setItem_pairs (hsz:=n) (pI B) dd λJ f t=>h _ ?_;have N:∃q,J.get? a=!q:=(by let⟨q,_,_,i,_⟩:=f;exact#[q,i]);exact yB I (by rw[e];exact True.intro) t N (yC p hd (rel.put k C) f)
 .subst j m;cases(show u=Value.ref b from B);let⟨z,hd,O,rel,dd⟩:=pK I.hok (.inl e);have n:O.length<=sizeLine:=by rw[<-Paired.length rel];exact z
  have p:(eE d k v).length<=sizeLine:=by have:=yz d k v;lia
  refine wpAny_setItem_heap (hsz:=n) (tupleKind_room_in1 M) (rb I.hok G) dd λJ f t=>h _ ?_;let⟨q,R,S,i,T,U,Z,_,h5⟩:=f;refine yB I (by rw[e];exact True.intro) t #[q,i] #[p,hd,_,(rel.put k G C).keeps λc ys L=>?_,q,R,S,i,T,U,Z,h5];rw[bt (by intro e;subst e;rw[L]at e;exact (λz=>nomatch z) (q0x e))];exact L
def yD(i:Expr):Prop:=∀a b,subscripted i false a b=operate [a,b] (getItem a b)
def Ps{id}
  (j:typeLookup (.type T) "__getitem__" = pure (!.builtin id)) (m:yD slice)
  (h:wpAny (model a w) A (eval value b) (λo e=>wpAny (model a w) A (eval slice b) (λi c=>c.TypeIs o T/\wpAny (model a w) A (getItem o i) Q E c) E e) E s) :
  wpAny (model a w) A (eval (.Subscript value slice pos) b) Q E s:=by
 refine Subscript_ (wpAny_mono h (λo e k=>wpAny_mono k (λi c d=>?_) λ_ _ x=>x) λ_ _ x=>x);let⟨f,d⟩:=d;apply aA;rw[getitemInPython_of_ne f.not_modules];refine aA (wpAny_specialOf f j ?_);have fin:wpAny (model a w) A (subscripted slice false o i) (λr g=>wpAny (model a w) A (letTemporaryGo value o r >>= λ_=>pure r) Q E g) E c:=by rw[m o i];exact wpAny_operating (wpAny_mono d (λr g l=>aA (wpAny_letTemporaryGo (bb l))) λ_ _ x=>x)
 first
  |exact bb (aA fin)
  |lia
  |exact aA fin
def Pu(c e:TE):TE:=λY H Q=>c Y H λx d=>e Y d λy b=>∃a v,x=.ref a/\iZ b a y (!v)/\Q v b
def Pw(e c:TE):TE:=λY H Q=>e Y H λy d=>c Y d λx b=>∃a o,x=.ref a/\iZ b a y o/\Q (.bl o.isSome) b
def Px(c h d:TE):TS:=λD Y H=>d Y H λv e=>c Y e λx f=>h Y f λy g=>∃a b,x=.ref a/\mx g a y v b/\D.nx Y b
def Ed(j:X.A.units+1<cLine)(t:PE X o td)(k:PE X i ty)(w:yD i):PE X (.Subscript o i pos) (Pu td ty):=by intro b s Y H Q I h;refine Ps PySem.F.slot_dict_getitem.lookup w (aS (t b s Y H _ I h) λu l k1=>?_);let⟨x,m,I1,n,q1⟩:=k1;refine aS (k b l Y m _ I1 q1) λz B c=>?_;let⟨y,p,f,q,a,v,ex,g,q2⟩:=c;subst ex;obtain rfl:u=Value.ref a:=n;exact#[(by
   rcases g with⟨d,k,e,_,_⟩ |⟨d,k,b,e,_,_,_⟩
   .let⟨_,_,vs,_,dd⟩:=pJ f.hok e;exact dd.typeIs
   .let⟨_,_,f,_,dd⟩:=pK f.hok e;exact dd.typeIs),Pp j f g q λC D r d=>#[v,p,r,d,q2]]
def Py(d:X.A.units+1<cLine)(f:PE X i ty)(t:PE X o td):PC X .In i o (Pw ty td):=by intro b s Y H Q I h;refine aS (f b s Y H _ I h) λv j k1=>?_;let⟨y,k,I1,l,q1⟩:=k1;refine aS (t b j Y k _ I1 q1) λu w c=>?_;let⟨x,m,n,p,a,q,ex,g,q2⟩:=c;subst ex;obtain rfl:u=Value.ref a:=p;exact Pq d n g l λz r=>#[.bl q.isSome,m,r,rfl,q2]
def yE(d:X.A.units+1<cLine)(C:PE X o td)(f:PE X i ty)(E:PE X value tv)(G:swapsWith value (!.Subscript o i pos') pos.line X.env=pure false) :
  PS X (.Assign [.Subscript o i pos'] value pos) (Px td ty tv):=by
 intro b s Y H D I h;refine wpAny_Assign_Subscript (aS (E b s Y H _ I h) λr j k1=>?_) G;let⟨v,k,I1,l,q1⟩:=k1;refine aS (C b j Y k _ I1 q1) λu m k1=>?_;let⟨x,n,p,q,q2⟩:=k1;refine aS (f b m Y n _ p q2) λJ L c=>?_;let⟨y,M,t,w,a,z,ex,g,q3⟩:=c;subst ex;obtain rfl:u=Value.ref a:=q;exact Pr d t g w l λN B=>#[Y,z,B,q3]
def PD:TE:=λ_ H Q=>∀p,H p=none->Q (.ref p) (aM H p (.dK []))
def PH:TE:=λ_ H Q=>∀p,H p=none->Q (.ref p) (aM H p (.dT []))
def PJ:PE X (.Dict [] [] pos) PD:=λb s Y H Q I h=>wpAny_Dict_empty #[.ref s.heap.objs.size,_,I.laid (o:=.dK []) (λ_ _ q=>ca _ q) (bu _) (#[q0K _,beq_eq_false_iff_ne.mpr (Ne.symm (q0s I.big)),[],.nil,Heap.DictOf.new s.heap]),rfl,h _ (I.hok.fresh (bu _))]
def Ee:PE X (.Dict [] [] pos) PH:=λb s Y H Q I h=>wpAny_Dict_empty #[.ref s.heap.objs.size,_,I.laid (o:=.dT []) (λ_ _ q=>ca _ q) (bu _) (#[q0K _,beq_eq_false_iff_ne.mpr (Ne.symm (q0s I.big)),[],.nil,_,#[],0,Heap.get?_push_size _ rfl,#[rfl,rfl,rfl],rfl,rfl,q1k]),rfl,h _ (I.hok.fresh (bu _))]
def rc:List (TE×TE)->St->Hp->(List (V×V)->Hp->Prop)->Prop
 |[],_,H,Q=>Q [] H
 |(a,b)::r,Y,H,Q=>a Y H λx c=>b Y c λy d=>rc r Y d λe f=>Q ((x,y)::e) f
abbrev VV:List (V×V)->List (Value×Value)->Prop:=Paired λp q=>bj p.1 q.1/\bj p.2 q.2
def pL(X:Cx)(pos:Pos)(keys:List (Option Expr))(values:List Expr)(b:List (TE×TE)):Prop:=
 ∀(a:List (Addr×Obj)) (s:Shared) (Y:St) (H:Hp) (Q:List (V×V)->Hp->Prop),Inv X a Y H s->rc b Y H Q->
  wpAny (model X.prog X.w) X.A (evalPairs (pairTrees keys values X.env pos)) (λvs e=>∃c d,Inv X a Y d e/\VV c vs/\Q c d) X.xe s
def PL:pL X pos [] [] []:=λa s Y H Q I h=>pairTrees_nil_walk #[[],H,I,.nil,h]
def yF(f:PE X k d)(w:PE X v e)(g:pL X pos c vs b) :
  pL X pos (some k::c) (v::vs) ((d,e)::b):=by
 intro a s Y H Q I h;refine pairTrees_cons_walk (aS (f a s Y H _ I h) λu i k1=>?_);let⟨x,j,I1,l,q1⟩:=k1;refine aS (w a i Y j _ I1 q1) λB m k1=>?_;let⟨y,n,o,p,q2⟩:=k1;refine aS (g a m Y n _ o q2) λz A k1=>?_;let⟨q,r,t,rel,q3⟩:=k1;exact#[(x,y)::q,r,t,.cons #[l,p] rel,q3]
def jP(a more:List (aX×V)):List (aX×V):=more.foldl (λb c=>eE b c.1 c.2) a
def KV.merge:∀{more b a vs},KV more b->KV a vs->KV (jP a more) (merged vs b):=by
 intro more b a vs r;induction r generalizing a vs with
 |nil=>intro q;exact q
 | @cons p q f g h t c=>
  intro d;exact c (by have:=d.put p.1 h.2;simp_all)
theorem yG:∀more a,(jP a more).length<=a.length+more.length
 |[],a=>by show a.length<=a.length+0;lia
 |p::r,a=>by have b:=yG r (eE a p.1 p.2);have c:=yz a p.1 p.2;show(jP (eE a p.1 p.2) r).length<=_;grind
theorem Ef:∀{d f},VV (d.map λg=>(kV g.1,g.2)) f->∃e,Carries (fM P w) f e/\KV d e
 |[],_,r=>by rw[q07]at r;cases r;exact#[[],True.intro,.nil]
 |p::d,_,r=>by
  rw[q0h]at r;cases r with
  | @cons a b as bs h t=>let⟨e,c,q⟩:=Ef (P:=P) (w:=w) t;let⟨j,i⟩:=b;exact#[(p.1,i)::e,#[pI h.1,rfl,c],.cons #[rfl,h.2] q]
structure M2 (X:Cx) (o:Expr) (m:Str) (apos:Pos) (e f:Expr) (cpos:Pos):Prop where
 base:attributeBase o m X.env (eval o X.env)=eval o X.env
 few:((backTo cpos (starEach [e,f] X.env)).all (λx=>not x.1)&&(backToKw cpos (keywordEach [] X.env)).all (λx=>x.1.isSome)
  && decide (([e,f]:List Expr).length+([]:List Keyword).length+(if ([]:List Keyword).isEmpty then 0 else 1)<30))=true
 line:(apos.endLine==cpos.line)=true
 trees:backTo cpos (starEach [e,f] X.env)=[(false,eval e X.env),(false,eval f X.env)]
def yH(H:Hp)(a:Addr):Prop:=(∃b,Rd H a (.dK b))\/∃b,Rd H a (.dT b)
def PM{Y:St}(I:Inv X f Y H s)(d:yH H a) :
  s.TypeIs (.ref a) "dict"/\(∀b,Value.ref a=.ref b->∃c,s.heap.get? b=!c/\c.dict=none)/\(a==sysModules)=false:=by
 rcases d with⟨g,e⟩ |⟨g,e⟩
 .let⟨_,hd,vs,_,dd⟩:=pJ I.hok e;refine#[dd.typeIs,λb q=>?_,hd];cases q;let⟨c,_,_,h,i,_⟩:=dd;exact#[c,h,i.2.1]
 .let⟨_,hd,j,_,dd⟩:=pK I.hok e;refine#[dd.typeIs,λb q=>?_,hd];cases q;let⟨c,_,_,h,i,_⟩:=dd;exact#[c,h,i.2.1]
def PN{Y:St}(n:A.units+1<cLine)(I:Inv X pins Y H s)(g:iZ H a y o)(i:bj y u)(rd:bj d r)(h:∀j m,Inv X pins Y H m->bj (o.getD d) j->Q j m) :
  wpAny (model X.prog X.w) A (call (.builtin "dict.get") [.ref a,u,r]) Q E s:=by
 rcases g with⟨c,k,e,f,l⟩ |⟨c,k,b,e,f,p,l⟩
 .subst f;let⟨z,hd,vs,rel,dd⟩:=pJ I.hok e;refine call_meetsIn q1U dd.typeIs q2x (q2o ..) (meets_dict_get_default (fM X.prog X.w) a (pI i) hd r) #[_,dd.mapOf,h _ _ (I.tok _) ?_];rw[l];exact(rel.val k).getD rd
 .subst f;cases(i);let⟨z,hd,q,rel,dd⟩:=pK I.hok e;refine call_meetsIn q1U dd.typeIs q2x (q2o ..) (meetsH_dict_get_default (tupleKind (fM X.prog X.w)) a b hd r) #[tupleKind_room_in1 n,k,q,rb I.hok p,dd,h _ _ (I.tok _) ?_];rw[l];exact(rel.val k).getD rd
def PP(d g e:TE):TE:=λY H Q=>d Y H λx b=>∃a,x=.ref a/\yH b a/\g Y b λy f=>e Y f λz c=>∃o,iZ c a y o/\Q (o.getD z) c
def PQ(i:X.A.units+1<cLine)(L:PE X o td)(j:PE X e ty)(k:PE X f tx)(m:M2 X o "get" apos e f cpos):PE X (.Call (.Attribute o "get" apos) [e,f] [] cpos) (PP td ty tx):=by
 intro b s Y H Q I h;refine wpAny_Call_method m.base m.few m.line q2p q1U PySem.F.type_dict_get (aS (L b s Y H _ I h) λu l n=>?_);let⟨x,p,I1,q,a,ex,d,q1⟩:=n;subst ex;obtain rfl:u=Value.ref a:=q;let⟨r,t,_⟩:=PM I1 d;refine#[r,t,?_];rw[m.trees];refine Calls.callWith_builtin rfl (Calls.evalArgs_plain (Calls.spliced_cons (aS (j b l Y p _ I1 q1) λM v k1=>?_)));let⟨y,w,B,C,q2⟩:=k1;refine Calls.spliced_cons (aS (k b v Y w _ B q2) λfv N k1=>?_);let⟨z,D,E,G,O,g,q3⟩:=k1;refine Calls.spliced_nil ?_
 exact PN i E g C G λR S J c=>#[_,D,J,c,q3]
noncomputable def eU(b:Env):List (Str×NameKind)->List (Str×Addr)->List (Str×Addr)
 |[],a=>a
 |(n,k)::r,a=>if k==.free then eU b r ((n,(b.cells.lookup n).getD 0)::a) else eU b r a
theorem Eg(b):∀names  d,(∀y∈names,y.2=.free->(b.cells.lookup y.1).isSome=true)->
  (forIn names d λ(x:Str×NameKind) (f:List (Str×Addr))=>if (x.2==NameKind.free)=true then(do let c <-cellOf b x.1;pure (ForInStep.yield ((x.1,c)::f))) else(pure (ForInStep.yield f):Sem (ForInStep (List (Str×Addr)))))=pure (eU b names d)
 |[],d,_=>rfl
 | (n,k)::r,d,h=>by
  have g:=λa=>Eg b r a λy j=>h y (bK _ j);rw[List.forIn_cons];unfold eU
  by_cases e:(k==NameKind.free)=true
  .let⟨c,i⟩:=q0O.mp (h (n,k) q0g (by simpa using e));simp only[e,if_true];have:cellOf b n=pure c:=by unfold cellOf;rw[i]
   rw[this,i];exact g _
  .simp only[e];exact g _
def Eh(h:∀y∈a.names,y.2=.free->(b.cells.lookup y.1).isSome=true):closureFor a b=pure (eU b a.names []):=congrArg (λm=>m >>= pure) (Eg b a.names [] h)
theorem yI:∀{names b c},(∀y∈names,y.2=.free->(a.cells.lookup y.1).isSome=true)->
  (∀c,b.lookup x=!c->a.cells.lookup x=!c)->(eU a names b).lookup x=!c->a.cells.lookup x=some c
 |[],_,_,_,f,h=>f _ h
 | (n,k)::r,b,c,g,f,h=>by
  unfold eU at h
  by_cases i:(k==NameKind.free)=true
  .rw[if_pos i]at h;refine yI (λy j=>g y (bK _ j)) (λl e=>?_) h;rw[q0n]at e;cases hx:x==n with
   |true=>
    rw[hx]at e;have:x=n:=by simpa using hx
    subst this;let⟨d,hd⟩:=q0O.mp (g (x,k) q0g (by simpa using i));simp_all
   |false=>rw[hx]at e;exact f _ e
  .rw[if_neg i]at h;exact yI (λy j=>g y (bK _ j)) f h
theorem uG:∀{names acc},((x,NameKind.free)∈names\/(acc.lookup x).isSome=true)->((eU env names acc).lookup x).isSome=true
 |[],_,h=>by rcases h with h |h;cases h;exact h
 | (n,k)::r,acc,h=>by
  unfold eU
  by_cases a:(k==NameKind.free)=true
  .rw[if_pos a];apply uG;rw[q0n];grind
  .rw[if_neg a];apply uG;grind
noncomputable abbrev hZ(a:Env):Str×NameKind->Str×NameKind:=λ(n,k)=>if (k==NameKind.free&&a.scope.kind==.function&&a.kindOf n==!.cell) then(n,NameKind.cell) else(n,k)
theorem yJ:∀{names:List (Str×NameKind)}{x}{k},names.lookup x=!k->
  (names.map (hZ env)).lookup x=!k\/(k=.free/\(names.map (hZ env)).lookup x=!.cell)
 |[],_,_,h=>by simp at h
 | (n,k)::r,x,c,h=>by
  have d:=@yJ env r x c;rw[q0h];have e:hZ env (n,k)=(n,k)\/(k=.free/\hZ env (n,k)=(n,.cell)):=by
   lia
  cases hx:x==n with
  |true=>
   simp only[q0n,hx]at h;cases h;rcases e with e |⟨b,e⟩
   .rw[e];exact .inl (by simp only[q0n,hx])
   .rw[e];exact .inr #[b,by simp only[q0n,hx]]
  |false=>simp only[q0n,hx]at h;rcases e with e |⟨b,e⟩<;>(rw[e];simp only[q0n,hx];exact d h)
theorem Ei:∀{names:List (Str×NameKind)}{x},names.lookup x=none->(names.map (hZ env)).lookup x=none
 |[],_,_=>rfl
 | (n,k)::r,x,h=>by
  have b:=@Ei env r x;rw[q0h];have e:hZ env (n,k)=(n,k)\/hZ env (n,k)=(n,.cell):=by
   by_cases a:(k==NameKind.free&&env.scope.kind==.function&&env.kindOf n==!.cell)=true
   .exact .inr (if_pos a)
   .exact .inl (if_neg a)
  cases hx:x==n with
  |true=>simp only[q0n,hx]at h;cases h
  |false=>simp only[q0n,hx]at h;rcases e with e |e<;>(rw[e];simp only[q0n,hx];exact b h)
def PR(I:Nat->Shared->Prop)
  (turn:∀n s,I n s->wpAny (model prog w) A (pyNext it) (λr j=>match r with
   |none=>R (.ok .next) j
   |some v=>wpAny (model prog w) A (letOwnedTupleGo target it v) (λ_ i=>wpAny (model prog w) A (assign target a v) (λ_ o=>
     wpAny (model prog w) A (forIn f true λc r=>if r=true then do let ok <-isTrue c a (eval c a);pure (ForInStep.yield ok) else pure (ForInStep.yield r)) (λok k=>
      if ok=true then wpAny (model prog w) A (eval e a) (λx p=>
       wpAny (model prog w) A (call (.builtin "list.append") [g,x]) (λ_ q=>∃m,m<n/\I m q) (λ_ _=>False) p) (λ_ _=>False) k
      else ∃m,m<n/\I m k) (λ_ _=>False) o) (λ_ _=>False) i) (λ_ _=>False) j) (λ_ _=>False) s)
  (n) (h:I n s) :
  codeAny (model prog w) A (.compLoop (.ListComp e [#[target,iter,f,0]] d pos) 0 it g a) R s:=by
 refine codeAny_loop rfl I (λn s C=>?_) n h;show wpAny _ A ((compTurn (.ListComp e [#[target,iter,f,0]] d pos) 0 it g a).onRaise (λx=>do noteFrame x a;theTreesLotGoes x)) _ _ s;refine wpAny_noted (wpAny_noRaise ?_);rw[compTurn_list];refine aA (wpAny_standAt (aA (wpAny_mono (turn n s C) (λr j t=>?_) λ_ _ b=>b)));cases r with
 |none=>exact bb t
 |some v=>
  refine aA (wpAny_mono t (λ_ i l=>?_) λ_ _ b=>b);refine aA (wpAny_mono l (λ_ o y=>aA (wpAny_mono y (λok k u=>?_) λ_ _ b=>b)) λ_ _ b=>b);cases ok with
  |false=>exact bb #[rfl,u]
  |true=>exact aA (aA (wpAny_mono u (λx p z=>aA (wpAny_mono z (λ_ q B=>bb (bb #[rfl,B])) λ_ _ b=>b)) λ_ _ b=>b))
theorem uH:∀names  n  a,((x,NameKind.cell)∉names)->(cellsFrom n names a).lookup x=a.lookup x
 |[],_,_,_=>rfl
 | (y,k)::r,n,a,h=>by
  unfold cellsFrom;have b:=λz=>h (bK _ z);split
  .rename_i c;rw[uH r _ _ b,q0n];grind
  .exact uH r _ _ b
theorem yK:∀names (h:Heap)  a,(cellsFrom h.objs.size names a).lookup x=!c->a.lookup x=!c\/(h.objs.size<=c/\(x,NameKind.cell)∈names/\(pushCells h names).IsCell c none)
 |[],_,_,e=>.inl e
 | (y,k)::r,h,a,e=>by
  unfold cellsFrom at e;unfold pushCells;split at e
  .rename_i b;rw[if_pos b];have sz:(h.push { cls:=.type "cell",data:=.cell none }).objs.size=h.objs.size+1:=Heap.size_push ..;rw[<-sz]at e;rcases yK r _ _ e with z |⟨d,f,g⟩
   .rw[q0n]at z;split at z
    .rename_i hx;cases z;refine .inr #[bu _,?_,#[_,pushCells_keeps r _ _ _ (Heap.get?_push_size _ rfl),rfl]];simp_all
    .exact .inl z
   .exact .inr #[by rw[sz]at d;lia,bK _ f,g]
  .rename_i b;rw[if_neg b];rcases yK r _ _ e with z |⟨d,f,g⟩
   .exact .inl z
   .exact .inr #[d,bK _ f,g]
theorem yL:∀names  n  a,(x,NameKind.cell)∈names->(cellsFrom n names a).lookup x=!c->n<=c
 | (y,k)::r,n,a,d,e=>by
  unfold cellsFrom at e
  by_cases b:(x,NameKind.cell)∈r
  .split at e
   .have:=yL r _ _ b e;lia
   .exact yL r _ _ b e
  .rcases q0c.mp d with z |z
   .cases z;rw[if_pos (by rfl),uH r _ _ b,q0n,beq_self_eq_true]at e;lia
   .exact absurd z b
theorem yM:∀names  n  a,((x,NameKind.cell)∈names\/(a.lookup x).isSome=true)->((cellsFrom n names a).lookup x).isSome=true
 |[],_,_,h=>by rcases h with h |h;cases h;exact h
 | (y,k)::r,n,a,h=>by
  unfold cellsFrom;split
  .rename_i b;apply yM r _ _;rcases h with h |h
   .grind
   .right;rw[q0n];split
    .rfl
    .exact h
  .rename_i b;apply yM r _ _;grind
theorem yN{c:Addr}{lo:Nat}:∀names (n:Nat) (d:List (Str×Addr)),(∀x y c,lo<=c->d.lookup x=!c->d.lookup y=!c->x=y)->(∀x c,d.lookup x=!c->c<n)->lo<=c->(cellsFrom n names d).lookup x=!c->(cellsFrom n names d).lookup y=!c->x=y
 |[],_,_,h,_,l,g,f=>h _ _ _ l g f
 | (z,k)::r,n,d,h,hb,l,g,f=>by
  unfold cellsFrom at g f;split at g
  .rename_i i;rw[if_pos i]at f;refine yN r (n+1) ((z,n)::d) (λx y c l g f=>?_) (λx c e=>?_) l g f
   .rw[q0n]at g f;split at g<;>split at f
    .rename_i a _ b;rw[eq_of_beq a,eq_of_beq b]
    .cases g;exact absurd (hb _ _ f) (q0A _)
    .cases f;exact absurd (hb _ _ g) (q0A _)
    .exact h _ _ _ l g f
   .rw[q0n]at e;split at e
    .cases e;exact q00 _
    .exact q1P (hb _ _ e)
  .rename_i i;rw[if_neg i]at f;exact yN r n d h hb l g f
def PU
  (h:Q { scope,locals:=s.heap.objs.size,globals,cells:=cellsFrom (s.heap.objs.size+1) scope.names cl,qual,func:=none,code:=a.code,frame:=a.frame,builtins:=a.builtins } { s with heap:=pushCells (s.heap.push { cls:=.type "dict",data:=.dict #[] }) scope.names }) :
  wpAny M A (newFunctionEnv scope globals cl [] qual none .none (!a)) Q E s:=by
 refine aA (wpAny_alloc (aA (wpAny_layCells _ (λname kind cells=>by simp_all) _ _ _ _ ?_)));rw[Heap.size_push ..];exact aA (bb (bb h))
abbrev cy(X:Cx)(scope:Scope)(N':List Str)(C:Addr)(fp:List Addr)(s₂:Shared)(H₂:Hp)(pl:List (Addr×Obj)):Cx where
 prog:=X.prog
 w:=X.w
 K:=X.K
 mg:=X.mg
 base:=X.base
 A:=X.A
 N:=N'
 s₀:=s₂
 H₀:=H₂
 env:=compEnvC scope (cellsFrom (C+1) scope.names (eU X.env scope.names [])) C X.env
 outer:=X.stack
 stack:=X.stack
 ex:=fp
 fn:=λy=>scope.names.lookup y==some .cell
 calm:=X.calm
 pn:=X.pn++pl
 xe:=λ_ _=>False
structure al (X:Cx) (scope:Scope) (own capN:List Str) (caps:List Nat):Prop where
 kind:scope.kind=.function
 one:∀y∈scope.names,scope.names.lookup y.1=some y.2
 free:∀y∈scope.names,y.2=.free->X.env.kindOf y.1=!.cell\/X.env.kindOf y.1=some .free
 loc:∀y∈scope.names,y.2=.local->scope.names.lookup y.1=some .local
 caps:caps.map (λj=>X.N[j]?)=capN.map some
 capf:∀x∈capN,scope.names.lookup x=!.free
noncomputable def ib(own:List Str)(a:List Nat)(Y:St):St:=own.map (λ_=>none)++a.map (λj=>(Y[j]?).getD none)
theorem al.cells{caps:List Nat}(S:al X scope own capN caps)(ok:X.Ok):∀y∈scope.names,y.2=.free->(X.env.cells.lookup y.1).isSome=true:=λy a b=>by let⟨c,d⟩:=ok.has y.1 (S.free y a b);rw[d];rfl
def al.cl{caps:List Nat}(S:al X scope own capN caps)(ok:X.Ok)(h:(eU X.env scope.names []).lookup x=!c):X.env.cells.lookup x=!c:=
 yI (S.cells ok) (λ_ e=>by simp at e) h
def PV{Y:St}{C:Addr}{fp:List Addr}(S:al X scope own capN caps)(I:Inv X f Y H₂ B)
  (hf:∀b∈fp,iU X f H₂ b) (M:∀b∈fp,b<B.heap.objs.size) (t:B.heap.objs.size<=C) (O:∀b o,B.heap.get? b=!o->L.get? b=!o) (hn:L.Ns C m) (Q:∀x c,(cellsFrom (C+1) scope.names (eU X.env scope.names [])).lookup x=!c->(eU X.env scope.names []).lookup x=!c\/(C+1<=c/\L.IsCell c none)) :
  Inv (cy X scope (own++capN) C fp B H₂ f) [] (ib own caps Y) H₂ { B with heap:=L,toks:=tk }:=by
 have cl:=λ{x:Str}{c:Addr}=>S.cl (x:=x) (c:=c) I.ok;have lt:∀{x:Str}{c:Addr},X.env.cells.lookup x=!c->c<B.heap.objs.size:=λe=>by let⟨v,q⟩:=I.cell _ _ e;exact q.lt
 have D:∀{x:Str}{c:Addr},X.env.cells.lookup x=!c->C+1<=c->False:=λe z=>absurd (q0k (lt e) (q0C t (q1a z))) (q0A _);have a:∀{x:Str}{c:Addr},(cellsFrom (C+1) scope.names (eU X.env scope.names [])).lookup x=!c->X.env.cells.lookup x=!c\/(C+1<=c/\L.IsCell c none):=λ{x c} e=>(Q x c e).imp (λz=>cl z) λz=>z;have r:∀x,((relabel scope X.env).names.lookup x=!.cell\/(relabel scope X.env).names.lookup x=!.free)->scope.names.lookup x=!.free\/scope.names.lookup x=!.cell:=λx J=>by
  cases e:scope.names.lookup x with
  |none=>have z:(relabel scope X.env).names.lookup x=none:=Ei (env:=X.env) e;rw[z]at J;rcases J with q |q<;>cases q
  |some k=>
   rcases yJ (env:=X.env) e with z |⟨z,_⟩
   .have z':(relabel scope X.env).names.lookup x=!k:=z;rw[z']at J;rcases J with q |q
    .cases q;exact .inr rfl
    .cases q;exact .inl rfl
   .rw[z];exact .inl rfl
 have stk:∀b,b≠X.env.locals->b∉X.fs->b∉cu X.stack:=λb H g z=>(q0c.mp (I.stkSub b z)).elim H g;refine#[#[I.ok.mod,S.kind,I.ok.glob,I.ok.blt,t,λx y c H g=>?inj,λx J=>?_,λx c h e=>?cab,I.ok.hd,I.ok.frames,.inl rfl,λb A=>#[?_,λx c h=>?exf],
   I.bs,q0C I.ok.bsz I.sz,λb o e A=>?_,λb A=>stk b (hf b A).2.1 (hf b A).2.2.1,I.stack,I.stkFree],
  rfl,I.bare,Un.kept O,#[m,hn,λi x v H g h3=>?_],λx c h=>?_,I.hok.fresh t,λx c h=>?frc,λp hp=>?_,I.hok.kept O,?_]
 case inj=>
  rcases a H with R |⟨R,_⟩<;>rcases a g with z2 |⟨z2,_⟩
  .exact I.ok.inj x y c R z2
  .exact(D R z2).elim
  .exact(D z2 R).elim
  .exact yN (lo:=C+1) scope.names (C+1) (eU X.env scope.names []) (λx y c l e _=>(D (cl e) l).elim) (λx c e=>Nat.lt_succ_of_le (q0C (q1C (lt (cl e))) t)) R H g
 case cab=>have e1:=eq_of_beq (show(scope.names.lookup x==!NameKind.cell)=true from h);have:=yL scope.names (C+1) (eU X.env scope.names []) (q0P e1) e;exact q0C t (q1a this)
 case exf=>
  rcases a h with z |⟨z,_⟩
  .exact(hf b A).2.2.2.2.1 x c z
  .exact Ne.symm (q0s (q0k (M b A) (q0C t (q1a z))))
 case frc=>
  rcases a h with z |⟨z,_⟩
  .exact I.freeC x c z
  .exact I.hok.fresh (q0C t (q1a z))
 .refine q0O.mp (yM scope.names (C+1) (eU X.env scope.names []) ?_);rcases r x J with q |q
  .exact .inr (uG (env:=X.env) (.inl (q0P q)))
  .exact .inl (q0P q)
 .exact q0s (q0k (M b A) t)
 .rcases(hf b A).2.2.2.1 with z |z
  .exact I.ok.noex b o e z
  .exact absurd (q0k (bS (I.ok.bs b o e).1) z) (q0A _)
 .
  have hi:own.length<=i:=by
   refine q1Z λa1=>?_;unfold ib at g;rw[q0S (by simpa using a1),q0q]at g;cases q:own[i]? with
   |none=>rw[q]at g;cases g
   |some y=>rw[q]at g;cases g
  have T:capN[i - own.length]? = !x:=by
   have:(own++capN)[i]? = !x:=H
   rwa [q0J hi]at this
  have U:(caps.map (λj=>(Y[j]?).getD none))[i - own.length]? = !!v:=by
   unfold ib at g
   rwa [q0J (by simpa using hi),q0d]at g
  rw[q0q]at U;let⟨j,hj,s⟩:=q0i.mp U;have hX:X.N[j]? = !x:=by have q:=congrArg (λl=>l[i - own.length]?) S.caps;simp only[q0q,hj,T,q1H]at q;exact q0x q
  have hY:Y[j]? = !!v:=by
   cases q:Y[j]? with
   |none=>rw[q]at s;cases s
   |some z=>rw[q]at s;simp at s;rw[s]
  have E:=S.capf x (q0w T);have w:(x,NameKind.free)∈scope.names:=q0P E;have Z:=S.free _ w rfl;let⟨m',a3,hl⟩:=I.loc;let⟨u,ru,l⟩:=hl j x v hX hY (Z.elim (λq=>.inr (.inl q)) λq=>.inr (.inr q));refine#[u,ru,.inr #[?_,?_]]
  .rcases yJ (env:=X.env) E with z |⟨_,z⟩
   .exact .inr z
   .exact .inl z
  .rcases l with⟨l,_⟩ |⟨_,c,hc,G⟩
   .have l':X.env.kindOf x=!.local:=l;rcases Z with q |q<;>(rw[l']at q;cases q)
   .let⟨c',a0⟩:=q0O.mp (uG (env:=X.env) (acc:=[]) (.inl w));have:=cl a0;rw[hc]at this;cases this;let⟨o,ho,hd⟩:=G;have nc:(x,NameKind.cell)∉scope.names:=λz=>by have:=S.one _ z;rw[E]at this;cases this
    exact#[c,(uH scope.names (C+1) (eU X.env scope.names []) nc).trans a0,o,O c o ho,hd]
 .rcases a h with z |⟨_,z⟩
  .let⟨v,o,ho,hd⟩:=I.cell x c z;exact#[v,o,O c o ho,hd]
  .exact#[_,z]
 .have a2:p∈X.pn++f:=by simpa using hp
  let⟨e,n,ne,nf,d⟩:=I.pin p a2;exact#[O _ _ e,n,q0s (q0k (bS e) t),stk p.1 ne nf,d]
 .unfold ib;have hl:=congrArg List.length S.caps;simp only[q0d]at hl;show(own.map (λ_=>(none:Option V))++caps.map (λj=>(Y[j]?).getD none)).length=(own++capN).length;rw[q0I,q0I,q0d,q0d,hl]
def pM(X:Cx)(b:List Expr)(t:TT):Prop:=
 ∀(a:List (Addr×Obj)) (s:Shared) (Y:St) (H:Hp) (Q:Bool->Hp->Prop),Inv X a Y H s->t Y H Q->
  wpAny (model X.prog X.w) X.A (forIn b true λc r=>if r=true then do let ok <-isTrue c X.env (eval c X.env);pure (ForInStep.yield ok) else pure (ForInStep.yield r)) (TP X a Y Q) X.xe s
def PX:TT:=λ_ H Q=>Q true H
def PY:pM X [] PX:=λ_ _ _ H _ I h=>wpAny_tests_nil #[H,I,h]
def PZ(h:PT X c t):pM X [c] t:=λa s Y H Q I q=>wpAny_tests_one (h a s Y H Q I q)
def my(own:List Str)(d:List Nat)(k:TI)(g:TG)(l:TT)(n:TE):TE:=λY H Q=>k Y H λJ o=>∃W:Nat->Nat->List V->St->Hp->Prop,(∃m,W 0 m [] (ib own d Y) o)/\∀i m a f H,W i m a f H->
 (J.stop i H/\a.length<=sizeLine/\∀p,H p=none->Q (.ref p) (aM H p (.lst a)))\/
 (J.go i H/\∀x h,J.yld i H x h->g x f h λe q=>l e q λb j=>if b=true then n e j λy r=>a.length<sizeLine/\∃c,c<m/\W (i+1) c (a++[y]) e r else ∃c,c<m/\W (i+1) c a e j)
def Ej{Y:St}{RR:Value->Addr->Result->Shared->Prop}(S:al X scope own capN caps)(hc:X.calm=true)(hi:PI X tg iter wi)
  (c6:∀C fp s₂ H₂ pl,PG (cy X scope (own++capN) C fp s₂ H₂ pl) tg g/\pM (cy X scope (own++capN) C fp s₂ H₂ pl) ifs tc/\PE (cy X scope (own++capN) C fp s₂ H₂ pl) elt te)
  (I:Inv X f Y H s) (h:my own caps wi g tc te Y H Q)
  (c7:∀D C  s'  L  m,Inv X f Y L s'->iU X f L C->s'.heap.Ns C m->Q (.ref D) L->RR (.ref D) C (.ok .next) s') :
  wpAny (model X.prog X.w) X.A (eval iter X.env) (λx s₁=>wpAny (model X.prog X.w) X.A (pyIter x) (λit s₂=>wpAny (model X.prog X.w) X.A (newList []) (λb4 s₃=>
   wpAny (model X.prog X.w) X.A (newFunctionEnv scope X.env.globals (eU X.env scope.names []) [] X.env.qual none .none (!X.env)) (λa8 s₄=>
    codeAny (model X.prog X.w) X.A (.compStart (.ListComp elt [#[tg,iter,ifs,0]] scope pos) 0 it b4 { a8 with scope:=relabel scope X.env }) (RR b4 a8.locals) s₄) X.xe s₃) X.xe s₂) X.xe s₁) X.xe s:=by
 refine aS (hi f s Y H _ I h) λv s1 h1=>aS h1 λd4 B h2=>?_;obtain⟨it,fp,tn,J,U,e,Z,T,b1,f2,W,⟨m0,w0⟩,b5⟩:=h2;subst e;have a0:∀b∈fp,b<B.heap.objs.size:=λb t=>by let⟨o,e,_⟩:=T.obj _ _ b1 b t;exact bS e
 refine wpAny_newObj_type (PU ?_);dsimp only;generalize a4:B.heap.push { cls:=.type "list",dict:=none,data:=.seq ([]:List Value).toArray }=E;have hC:E.objs.size=B.heap.objs.size+1:=by rw[<-a4,Heap.size_push]
 have l:B.heap.objs.size<=E.objs.size:=by rw[hC];exact q1Q _
 have a5:B.heap.objs.size≠E.objs.size:=by rw[hC];exact q0s (q00 _)
 have below:∀b,b<B.heap.objs.size->b≠E.objs.size:=λb t=>by rw[hC];exact q0s (q1P t)
 have b6:(E.push { cls:=.type "dict",data:=.dict #[] }).objs.size=E.objs.size+1:=Heap.size_push ..;have G:∀x c,(cellsFrom (E.objs.size+1) scope.names (eU X.env scope.names [])).lookup x=!c->(eU X.env scope.names []).lookup x=!c\/(E.objs.size+1<=c/\(pushCells (E.push { cls:=.type "dict",data:=.dict #[] }) scope.names).IsCell c none):=λx c e=>by rw[<-b6]at e ⊢;exact(yK scope.names _ _ e).imp (λz=>z) λb7=>by let⟨z1,_,z2⟩:=b7;exact#[z1,z2]
 have a1:(pushCells (E.push { cls:=.type "dict",data:=.dict #[] }) scope.names).Ns E.objs.size (λ_=>none):=(Heap.Ns.new E (.type "dict")).keeps (pushCells_keeps _ _);have old:∀b o,B.heap.get? b=!o->(pushCells (E.push { cls:=.type "dict",data:=.dict #[] }) scope.names).get? b=!o:=λb o e=>pushCells_keeps _ _ b o (ca _ (a4▸ca _ e));have a2:(pushCells (E.push { cls:=.type "dict",data:=.dict #[] }) scope.names).get? B.heap.objs.size=some { cls:=.type "list",dict:=none,data:=.seq ([]:List Value).toArray }:=pushCells_keeps _ _ _ _ (ca _ (a4▸Heap.get?_push_size _ rfl));generalize pushCells (E.push { cls:=.type "dict",data:=.dict #[] }) scope.names=h₁ at G a1 old a2 ⊢;generalize c8:E.objs.size=C at a1 a5 l below G ⊢;generalize j:B.heap.objs.size=D at a2 a5 ⊢;clear a4 hC c8 b6 E;let⟨hg,ht,he⟩:=c6 C fp B U f;have Ic:Inv (cy X scope (own++capN) C fp B U f) [] (ib own caps Y) U { B with heap:=h₁,toks:=B.toks }:=PV S Z f2 a0 (by rw[j];rw[j]at l;exact l) old a1 G;have a6:∀x c,(cellsFrom (C+1) scope.names (eU X.env scope.names [])).lookup x=!c->c≠D:=λx c e z=>by
  rcases G x c e with e |⟨e,_⟩
  .let⟨v,q⟩:=Z.cell x c (S.cl Z.ok e);exact absurd q.lt (by rw[z,j];exact q0A _)
  .rw[j]at l;exact absurd (Nat.lt_of_le_of_lt l (q0k (q00 C) e)) (by rw[z];exact q0A _)
 have a7:D∉cu X.stack:=λz=>by
  rcases q0c.mp (Z.stkSub D z) with q |q
  .exact absurd Z.lt (by rw[<-q,j];exact q0A _)
  .exact Z.nofs (by rw[j];exact bu _) q
 have a3:∀p∈X.pn++f,p.1≠D:=λp M z=>absurd (bS (Z.pin p M).1) (by rw[z,j];exact q0A _);have a9:∀{Y':St}{L:Hp}{s':Shared}{N:List Value}{k:Nat},Inv (cy X scope (own++capN) C fp B U f) [] Y' L s'->s'.heap.get? D=some { cls:=.type "list",data:=.seq N.toArray k }->L D=none->
   Inv (cy X scope (own++capN) C fp B U f) [(D,{ cls:=.type "list",data:=.seq N.toArray k })] Y' L s':=λJ e n=>J.pins_of λp M=>by
  obtain rfl:=q0l.mp M;exact#[e,n,a5,a7,λv z=>by cases z]
 have b2:∀{L:Hp}{o:Obj},(∀b∈fp,L b=none)->∀b∈fp,iU (cy X scope (own++capN) C fp B U f) [(D,o)] L b:=λhn b t=>by
  let⟨f0,f1,c9,f3,f4,f5⟩:=f2 b t;refine#[hn b t,q0s (q0k (a0 b t) (by rw[j];rw[j]at l;exact l)),λz=>(q0c.mp (Z.stkSub b z)).elim f1 c9,.inl t,λx c e=>?cl,λp M=>?_]
  case cl=>
   rcases G x c e with e |⟨e,_⟩
   .exact f4 x c (S.cl Z.ok e)
   .exact Ne.symm (q0s (q0k (a0 b t) (q0C (by rw[j];rw[j]at l;exact l) (q1a e))))
  rcases q0b.mp M with M |M
  .exact f5 p M
  .obtain rfl:=q0l.mp M;intro z;have z':D=b:=z;exact absurd (a0 b t) (by rw[<-z',j];exact q0A _)
 have b0:codeAny (model X.prog X.w) X.A (.compLoop (.ListComp elt [#[tg,iter,ifs,0]] scope pos) 0 (.ref it) (.ref D) (compEnvC scope (cellsFrom (C+1) scope.names (eU X.env scope.names [])) C X.env)) (RR (.ref D) C) { B with heap:=h₁,toks:=B.toks }:=by
  refine PR (λn s'=>∃i ys N k Y' L,Inv (cy X scope (own++capN) C fp B U f) [(D,{ cls:=.type "list",data:=.seq N.toArray k })] Y' L s'/\tn i s'.heap/\(∀b∈fp,L b=none)/\bv ys N/\W i n ys Y' L) ?_ m0
   ⟨0,[],[],0,_,U,a9 Ic a2 (Z.hok.fresh (by rw[j];exact bu _)),T.keep _ _ _ b1 λb _ o e=>old b o e,λb t=>(f2 b t).1,.nil,w0⟩
  rintro n s3 ⟨i,ys,N,k,Y3,H3,I3,b8,b9,r3,w3⟩;rcases b5 i n ys Y3 H3 w3 with⟨stop,hz,qn⟩ |⟨go,step⟩
  .refine aS (T.done (cy X scope (own++capN) C fp B U f) rfl rfl rfl hc i _ s3 Y3 H3 _ I3 (b2 b9) b8 stop) λr s4 c0=>?_;let⟨hr,O⟩:=c0;subst hr;let⟨eD,nD,_⟩:=O.pin (D,_) (bq _ (q0l.mpr rfl));have R:H3 D=none:=nD;have I5:Inv X f Y (aM H3 D (.lst ys)) s4:=by
    refine Z.call' (ch:=fp) O.os #[O.base.keep,O.base.slot,λb o e n hx=>?_,O.base.there,λb xs e=>?_,λb o u e=>?_,λb ps e=>?_] (λb u e=>?_) O.bare λb t=>#[(f2 b t).2.2.2.1,(f2 b t).2.1,(f2 b t).2.2.2.2.1,(f2 b t).2.2.2.2.2]
    .rw[bt (by intro z;exact absurd (bS e) (by rw[z,j];exact q0A _))];exact O.base.free b o e n hx
    .have q:=O.base.tups b xs e;rw[bt (jJ q R)];exact q
    .have q:=O.base.frzs b o u e;rw[bt (jJ q R)];exact q
    .let⟨more,q⟩:=O.base.tbls b ps e;exact#[more,by rw[bt (jJ q R)];exact q]
    .by_cases t:b=D
     .subst t;rw[cI]at e;cases e;exact#[hz,N,k,r3,eD]
     .rw[bt t]at e;exact(O.hok b u e).stay (λ_ _ _ q=>q) (λc q=>by rw[bt (jJ q R)];exact q) λc xs q=>by rw[bt (jJ q R)];exact q
   let⟨m,hm,_⟩:=O.loc;exact c7 D C s4 _ m I5 (Z.fpOk (by rw[j];rw[j]at l;exact l) (by rw[bt (Ne.symm a5)];exact O.free)) hm (qn D R)
  .refine aS (T.item (cy X scope (own++capN) C fp B U f) rfl rfl rfl hc i _ s3 Y3 H3 _ I3 (b2 b9) b8 go) λr s4 c1=>?_;let⟨u,hr,h4⟩:=c1;subst hr;refine aS h4 λ_ s5 c2=>?_;let⟨x,H5,I5,r5,y5,b3,d0⟩:=c2;have d1:=I5.pinned (b2 d0) (T.obj _ _ b3);refine aS (hg _ s5 Y3 H5 x u _ d1 r5 (step x H5 y5)) λ_ s6 c3=>?_;let⟨Y6,H6,I6,q6⟩:=c3;refine aS (ht _ s6 Y6 H6 _ I6 q6) λok s7 c4=>?_;let⟨H7,I7,q7⟩:=c4;have ft:∀{Y8:St}{H8:Hp}{s8:Shared},Inv (cy X scope (own++capN) C fp B U f) ([(D,{ cls:=.type "list",data:=.seq N.toArray k })]++qQ fp s5.heap) Y8 H8 s8->tn (i+1) s8.heap/\(∀b∈fp,H8 b=none):=λ{Y8 H8 s8} I8=>by refine#[T.keep _ _ _ b3 λb t o e=>(I8.pin (b,o) (bq _ (bq _ (uw t e)))).1,λb t=>?_];let⟨o,e,d⟩:=T.obj _ _ b3 b t;exact(I8.pin (b,o) (bq _ (bq _ (uw t e)))).2.1
   cases ok with
   |false=>let⟨m',hm,w7⟩:=q7;let⟨t7,n7⟩:=ft I7;exact#[m',hm,i+1,ys,N,k,Y6,H7,I7.unpinned,t7,n7,r3,w7]
   |true=>
    refine aS (he _ s7 Y6 H7 _ I7 q7) λu8 s8 c5=>?_;let⟨y,H8,I8,r8,hz,m',hm,w8⟩:=c5;let⟨t8,n8⟩:=ft I8;have I9:=I8.unpinned;let⟨eD,nD,d2,d5,_⟩:=I9.pin (D,_) (bq _ (q0l.mpr rfl));have hl:=r3.length;refine call_meets F.slot_list_append #[_,eD,rfl] F.entry_list_append (F.args_list_append_2 _ _) (PySem.list_append D N.toArray k u8 (by rw[q0y];lia)) #[eD,?_];have q:=PySem.IsL.update eD (λa=>a.push u8);have e2:N.toArray.push u8=(N++[u8]).toArray:=by simp
    rw[e2]at q;have keep:∀b o,b≠D->s8.heap.get? b=!o->(s8.heap.update D (Obj.mapSeq λa=>a.push u8)).get? b=!o:=λb o t e=>(Heap.get?_update_other s8.heap _ (Ne.symm t)).trans e;have d3:Inv (cy X scope (own++capN) C fp B U f) [] Y6 H8 { s8 with heap:=s8.heap.update D (Obj.mapSeq λa=>a.push u8) }:=by refine(I9.pins_of (pins':=[]) λp M=>absurd M 'd').turned (t':=s8.toks) (it:=D) keep nD d2 (.inr (by rw[j];exact bu _)) a6 λp M=>?_;exact a3 p (by simpa using M)
    exact#[m',hm,i+1,ys++[y],N++[u8],_,Y6,H8,a9 d3 q nD,T.keep _ _ _ t8 λb t o e=>keep b o (by intro z;exact absurd (a0 b t) (by rw[z,j];exact q0A _)) e,n8,r3.append (.cons r8 .nil),w8]
 exact codeAny_compStart_list b0 (wpAny_noRaise (T.self _ 0 _ _ _ (T.keep _ _ _ b1 λb _ o e=>old b o e) b0))
def uI(S:al X scope own capN caps)(l:X.calm=true)(n:PI X tg iter wi)
  (a:∀C fp c d j,PG (cy X scope (own++capN) C fp c d j) tg g/\pM (cy X scope (own++capN) C fp c d j) ifs tc/\PE (cy X scope (own++capN) C fp c d j) elt te)
  (v:autoParam (∀x,foldedSetIterable iter X.env x=pure x) Zs._auto_1):PE X (.ListComp elt [#[tg,iter,ifs,0]] scope pos) (my own caps wi g tc te):=by
 intro k s Y H Q I h;rw[eval_ListComp];exact wpAny_comprehension_free rfl v (Eh (S.cells I.ok)) S.kind S.loc (Ej S l n a I h λD C p r m t f u q=>#[m,u,λy i=>#[.ref D,r,t.turned (λb o w e=>(i.2 b w).trans e) f.1 f.2.1 f.2.2.2.1 f.2.2.2.2.1 f.2.2.2.2.2,rfl,q]])
def Ek{c}(w:X.N.Nodup)(j:X.N[i]? = !y)(Z:Loc X.env.scope y)(S:al X scope own capN caps)(B:X.calm=true)(E:PI X tg iter wi)
  (k:∀C fp l n u,PG (cy X scope (own++capN) C fp l n u) tg g/\pM (cy X scope (own++capN) C fp l n u) ifs tc/\PE (cy X scope (own++capN) C fp l n u) elt te)
  (p:autoParam (swapsWith (.ListComp elt [#[tg,iter,ifs,0]] scope pos) (!.Name y py) c.line X.env=pure true) Zq._auto_1)
  (hs:autoParam (∀x,foldedSetIterable iter X.env x=pure x) Zs._auto_1) (G:autoParam (X.fn y=true\/X.env.scope.names.lookup y=!.local) Zqa._auto_1) :
  PS X (.Assign [.Name y py] (.ListComp elt [#[tg,iter,ifs,0]] scope pos) c) (yj (my own caps wi g tc te) (uu i)):=by
 intro d s Y H D I h;rw[exec_Assign_Name_used _ _ _ _ p];refine aA (wpAny_standAt (aA ?_));refine aA (wpAny_mono (wpAny_comprehension_free (use:=!assign (.Name y py) X.env) (Q:=λ_ r=>SP X d D .next r) rfl hs (Eh (S.cells I.ok)) S.kind S.loc ?_) (λ_ r J=>bb (bb J)) λ_ _ e=>e);refine Ej S B E k I h λDa C r L m M f O q=>?_;show wpAny _ X.A (assign (.Name y py) X.env (.ref Da)) _ _ _;refine wpAny_assign_Name (CJ M w j Z (v:=.ref Da) rfl (λR T k1=>?_) G);let⟨a,sb,U⟩:=k1;refine#[m,?_,λh' t=>?_]
 .refine O.sameBut sb ?_;rcases U with z |z
  .rw[z];exact f.2.1
  .exact Ne.symm (f.2.2.2.2.1 y a z)
 .exact#[_,L,T.turned (t':=R.toks) (it:=C) (λb o hb e=>(t.2 b hb).trans e) f.1 f.2.1 f.2.2.2.1 f.2.2.2.2.1 f.2.2.2.2.2,q]
end L2
namespace L2
open PySem
def Qa(h:Q (s.heap.get? a) s):wpAny M A (loadIfAlive a) Q E s:=by intro Γ p b;unfold loadIfAlive;simp_all
abbrev rg(h:Heap)(z TI TO:Addr)(a f1:Value):Prop:=
 h.get? z=some { cls:=.type "zip",dict:=none,data:=.fields [a,f1,.bool false,.ref TI,.ref TO].toArray,slots:=#[] }
noncomputable abbrev bI(a:Array Value)(v:Value)(c:Nat):Nat:=if (a.push v).size==a.size then c else c+1
abbrev Zp:=Addr×Addr×Bool
def mz(h:Heap)(p:Zp)(k:Nat):Prop:=∃o,h.get? p.1=!o/\o.cls=.type (bif p.2.2 then "list_iterator" else "tuple_iterator")/\o.data=.fields [.ref p.2.1,.int k 0].toArray
def Ct(h:Heap)(p:Zp)(a:List Value):Prop:=∃o,h.get? p.2.1=!o/\o.cls=.type (bif p.2.2 then "list" else "tuple")/\∃n,o.data=.seq a.toArray n
def mz.at(x:mz h p k)(e:∀o,h.get? p.1=!o->a.get? p.1=!o):mz a p k:=(by let⟨o,ho,r⟩:=x;exact#[o,e _ ho,r])
def Ct.at(x:Ct h p b)(e:∀o,h.get? p.2.1=!o->a.get? p.2.1=!o):Ct a p b:=(by let⟨o,ho,r⟩:=x;exact#[o,e _ ho,r])
section
variable{prog:Program}{w:World}{A:Around}{E:Value->Shared->Prop}{s:Shared}
def Qb(f:A.handled=none)(hit:s.heap.IsTupleIter it t i)(k:s.heap.IsTuple t items)
  (g:∀b x,items[i]? = !x->b.IsTupleIter it t (i+1)->Heap.SameBut it s.heap b->Q x { s with heap:=b })
  (h:items[i]? = none->∀b e,Heap.ExtBut it s.heap b->(∃o,b.get? e=!o/\o.cls=.type "StopIteration")->E (.ref e) { s with heap:=b }):wpAny (model prog w) A (Builtin.SmallTypes.nextOf (.ref it)) Q E s:=by
 let⟨o,ho,j,hd⟩:=id hit;let⟨ol,c,_,nl,d⟩:=k;unfold Builtin.SmallTypes.nextOf;refine aA (wpAny_callSpecial?_slot (name:=Str.ofString "__next__") hit.typeIs F.slot_tuple_iterator_next (wpAny_call_entry F.slot_tuple_iterator_next hit.typeIs F.entry_tuple_iterator_next ?_ (F.args_tuple_iterator_next_1 _)));show wpAny _ _ (field (.ref it) 0 >>= _) _ _ s;refine aA (wpAny_field ho hd (x:=.ref t) rfl ?_);show wpAny _ _ (if (Value.ref t==Value.none)=true then _ else _) _ _ s;rw[if_neg (by exact q0H)];show wpAny _ _ (field (.ref it) 1 >>= _) _ _ s;refine aA (wpAny_field ho hd (x:=.int i 0) rfl ?_);show wpAny _ _ (seqItems? (.ref t) >>= _) _ _ s;refine aA (wpAny_seqItems c d ?_);simp only[q1s];cases hx:items[i]? with
 |some x=>refine aA (wpAny_setField ho hd 'd' (bb #[x,rfl,bb (g _ x hx #[_,Heap.get?_update_self _ ho (Obj.isFreed_of_fields (Obj.data_mapFields hd _)),(Obj.cls_mapFields ..).trans j,?_] (Heap.SameBut.update ..))]));rw[Obj.data_mapFields hd];simp[rawInt]
 |none=>
  refine aA (wpAny_rule (aA (wpAny_setField ho hd 'd' ?_)));show wpAny _ _ (newExc (.type "StopIteration") [] >>= _) _ _ _;refine aA ?_;simp only[newExc,newTuple];refine aA (wpAny_newObj_type ?_ (by size_fits));refine aA (m:=firstArgMember _ _) (wpAny_of_eq (a:=Value.none) (by first |rfl |(simp only[firstArgMember];rfl)) ?_);refine wpAny_newObj_type ?_ (by size_fits);simp only[raiseNew];refine aA (wpAny_handled ?_)
  first |rw[show A.in1.handled=none from f] |rw[f]
  exact aA (bb (wpAny_throw (h hx _ _ (((Heap.SameBut.update ..).extBut.push _).push _) #[_,Heap.get?_push_size _ rfl,rfl])))
def mz.next(g:A.handled=none)(a:mz s.heap p k)(b:Ct s.heap p f)
  (h:∀c x,f[k]? = !x->mz c p (k+1)->Heap.SameBut p.1 s.heap c->Q x { s with heap:=c })
  (j:f[k]? = none->∀c e,Heap.ExtBut p.1 s.heap c->(∃o,c.get? e=!o/\o.cls=.type "StopIteration")->E (.ref e) { s with heap:=c }):wpAny (model prog w) A (Builtin.SmallTypes.nextOf (.ref p.1)) Q E s:=by
 let⟨i,l,m⟩:=p;cases m with
 |true=>
  cases d:f[k]? with
  |some x=>exact wpAny_nextOf_list_item a b (by simpa using d) λc n q=>h c x d n q
  |none=>exact wpAny_nextOf_list_end g a b (by simpa using d) (j d)
 |false=>exact Qb g a b (λc x d=>h c x (by simpa using d)) λd=>j (by simpa using d)
def pN(a:List Zp)(k j:Nat)(h:Heap):Prop:=∀m p,a[m]? = !p->mz h p (if m<j then k+1 else k)
noncomputable abbrev fps(z TO:Addr)(a:List Zp):List Addr:=[z,TO]++a.map (·.1)
abbrev Kp(z TO:Addr)(a:List Zp)(h b:Heap):Prop:=∀c o,c∉fps z TO a->h.get? c=!o->b.get? c=!o
noncomputable abbrev yO(vs:List Value)(c:Nat):Obj:={ cls:=.type "list",dict:=none,data:=.seq vs.toArray c,slots:=#[] }
noncomputable abbrev gl(vs:List Value):Obj:={ cls:=.type "tuple",data:=.seq vs.toArray }
structure iA (z TI TO:Addr) (ps:List Zp):Prop where
 nd:(TI::fps z TO ps).Nodup
 ap:∀p∈ps,p.2.1∉TI::fps z TO ps
 ne:ps≠[]
 lt:ps.length<9
def pN.ext(I:pN b k j h)(e:Heap.ExtBut a h c)(n:∀p∈b,p.1≠a):pN b k j c:=λm p d=>(I m p d).at λo q=>e _ o (n p (q0w d)) q
structure ZW (h:Heap) (z TI TO:Addr) (ps:List Zp) (k j:Nat) (f0 f1:Value) (a:List Value) (h':Heap):Prop where
 zr:rg h' z TI TO f0 f1
 ta:a.length=ps.length
 to:h'.get? TO=some (gl a)
 it:pN ps k j h'
 sz:h'.objs.size=h.objs.size
 kp:Kp z TO ps h h'
structure ZS (h:Heap) (z TI TO:Addr) (ps:List Zp) (k:Nat) (f0 f1:Value):Prop where
 ti:h.get? TI=some (gl (ps.map λp=>Value.ref p.1))
 w:∃a,ZW h z TI TO ps k 0 f0 f1 a h
def dG(h:Heap)(a:List Zp)(k:Nat)(vs:List Value):Prop:=vs.length=a.length/\∀(m:Nat) p,a[m]? = !p->∃b,Ct h p b/\b[k]? = vs[m]?
def rh(h:Heap)(b:List Zp)(k:Nat):Prop:=∃p a,b[0]? = !p/\Ct h p a/\a[k]? = none
def El(h:Heap)(z TI TO:Addr)(b:List Zp)(k:Nat)(c:Value)(vs:List Value)(a:Heap):Prop:=∃(T:Addr) (f:Value),(c=.none/\T=h.objs.size/\f=.bool false\/c=rawInt T)/\ZS a z TI TO b (k+1) (rawInt T) f/\a.get? h.objs.size=!gl vs/\a.objs.size=h.objs.size+1/\Kp z TO b h a
section
variable{z TI TO:Addr}{ps:List Zp}{k j:Nat}{f0 f1 g0 g1:Value}{a b:List Value}{h h' h'':Heap}
def iA.n1(D:iA z TI TO ps)(d:c∈[z,TO]):∀p∈ps,p.1≠c:=λp f e=>(q0f.mp (q0v.mp D.nd).2).2.2 c d p.1 (q1f f) e.symm
def iA.nz(D:iA z TI TO ps):TO≠z:=λe=>by have:=(q0v.mp D.nd).2;rw[e]at this;exact(q0v.mp this).1 (.head _)
def ZW.chg(D:iA z TI TO ps)(W:ZW h z TI TO ps k j f0 f1 a h')(g:c∈[z,TO])(f:Heap.SameBut c h' h'')(i:rg h'' z TI TO g0 g1)(l:b.length=ps.length)(m:h''.get? TO=!gl b):ZW h z TI TO ps k j g0 g1 b h'':=
 #[i,l,m,W.it.ext f.extBut (D.n1 g),by rw[f.1,W.sz],λd o hd e=>f.extBut _ _ (λq=>by subst q;exact hd (bB _ g)) (W.kp d o hd e)]
theorem ZW.next(y:A.handled=none)(D:iA z TI TO ps)(W:ZW h z TI TO ps k j f0 f1 a s.heap)(g:ps[j]? = !p)(i:Ct h p n)
  (B:∀h' x,n[k]? = !x->ZW h z TI TO ps k (j+1) f0 f1 a h'->Q x { s with heap:=h' })
  (C:n[k]? = none->∀h' e,rg h' z TI TO f0 f1->Kp z TO ps h h'->(∃o,h'.get? e=!o/\o.cls=.type "StopIteration")->E (.ref e) { s with heap:=h' }):wpAny (model prog w) A (Builtin.SmallTypes.nextOf (.ref p.1)) Q E s:=by
 have mp:=q0w g;have r:∀{h'},Heap.ExtBut p.1 s.heap h'->Kp z TO ps h h':=λe c o i q=>e _ _ (λq=>i (by rw[q];exact bq _ (q1f mp))) (W.kp c o i q);have t:=λq=>D.n1 (c:=z) 'd' p mp (Eq.symm q);have u:=W.it j p g;rw[if_neg (q0A _)]at u;refine u.next y (i.at λo=>W.kp _ o λz=>D.ap p mp (.tail _ z)) (λh' x I st f=>B h' x I #[f.extBut _ _ t W.zr,W.ta,f.extBut _ _ (λq=>D.n1 (c:=TO) 'd' p mp q.symm) W.to,λm q d=>?_,by rw[f.1,W.sz],r f.extBut]) λG h' e v H=>C G h' e (v _ _ t W.zr) (r v) H
 by_cases e:m=j
 .subst e;rw[g]at d;cases d;rw[if_pos (q00 _)];exact st
 .rw[show(if m<j+1 then k+1 else k)=if m<j then k+1 else k from by split<;>split<;>lia];exact(W.it m q d).at λo=>f.extBut _ _ λz=>e ((List.getElem?_inj (l:=ps.map (·.1)) (by rw[q0d];exact(q0a.mp d).1) (q0f.mp (q0v.mp D.nd).2).2.1).mp (by rw[q0q,q0q,d,g];exact congrArg some z))
def ZW.done(D:iA z TI TO ps)(c:h.get? TI=!gl (ps.map λp=>Value.ref p.1))(W:ZW h z TI TO ps k ps.length f0 f1 a h')(up:Heap.ExtBut z h' h'')(f:rg h'' z TI TO g0 g1):ZS h'' z TI TO ps (k+1) g0 g1:=
 have t:=(q0v.mp D.nd).1
 #[up _ _ (λe=>t (by rw[e];exact .head _)) (W.kp _ _ t c),a,f,W.ta,up _ _ D.nz W.to,(λm p d=>by
  have:=W.it.ext up (D.n1 'd') m p d;rw[if_pos (q0a.mp d).1]at this;exact this),rfl,λ_ _ _ e=>e]
end
def nX{α:Type}{l r:List α}{x}(h:x::r=l.drop j):l[j]? = !x/\r=l.drop (j+1):=
 #[by rw[<-q2D,<-h];rfl,by rw[<-List.tail_drop,<-h];rfl]
def Qc{c}[Decidable c]{a b:Sem α}{M}{Q}(h:¬c)(k:wpAny M A b Q E s):wpAny M A (if c then a else b) Q E s:=by simp_all
def Qd{TI TO T:Addr}(D:iA z TI TO c)(W:ZW s.heap z TI TO c k 0 (rawInt T) f1 a s.heap)(j:s.heap.get? T=!i)
  (g:∀h f,ZW s.heap z TI TO c k 0 (rawInt T) f a h->Q false { s with heap:=h }):wpAny (model prog w) A (Builtin.SmallTypes.ownedTupleIsFree (.ref z)) Q E s:=by
 have d:=W.zr;refine aA (wpAny_field d rfl (x:=rawInt T) rfl ?_);refine aA (Qa ?_);rw[q1s,j];refine aA (wpAny_field d rfl (x:=f1) rfl (wpAny_ite ?_));split
 .exact aA (wpAny_setField_rec d 'd' λl e b=>bb (g l _ (W.chg D 'd' b e W.ta (b.extBut _ _ (D.nz) W.to))))
 .exact bb (g s.heap f1 W)
def uJ{TI TO}(hh:A.handled=none)(D:iA z TI TO d)(st:ZS s.heap z TI TO d k Y f1)
  (hf:Y=.none\/∃(T:Addr) (oT:Obj),Y=rawInt T/\s.heap.get? T=!oT) 
  (hv:(dG s.heap d k vs/\∀i,El s.heap z TI TO d k Y vs i->Q (!.ref s.heap.objs.size) { s with heap:=i })\/(rh s.heap d k/\∀i,Kp z TO d s.heap i->Q none { s with heap:=i })) :
  wpAny (model prog w) A (pyNext (.ref z)) Q E s:=by
 let⟨I,a0,W⟩:=st;have J:=W.zr;have sz:9<sizeLine:=by decide
 have lt:=D.lt;have hT:s.TypeIs (.ref z) "zip":=#[_,J,rfl]
 unfold pyNext;refine aA (wpAny_attempt (wpAny_callSpecial?_slot (name:=Str.ofString "__next__") hT F.slot_zip_next (wpAny_call_entry F.slot_zip_next hT F.entry_zip_next ?_ (F.args_zip_next_1 _))));show wpAny _ _ (field (.ref z) 2 >>= _) _ _ _;refine aA (wpAny_field J rfl (x:=.bool false) rfl ?_);show wpAny _ _ (field (.ref z) 3 >>= _) _ _ _;refine aA (wpAny_field J rfl (x:=.ref TI) rfl ?_);refine aA (wpAny_seqItems I rfl ?_);have e0:((d.map λp=>Value.ref p.1).toArray).isEmpty=false:=by have:=D.ne;cases d;exact absurd rfl this;rfl
 refine Qc (c:=Array.isEmpty _=true) (by rw[e0];exact q0H) ?_;show wpAny _ _ (Builtin.SmallTypes.ownedTupleIsFree (.ref z) >>= _) _ _ _;obtain⟨G,X,hv,hG,hW⟩:∃G X:Prop,(dG s.heap d k vs/\G\/rh s.heap d k/\X)/\(G->∀i,El s.heap z TI TO d k Y vs i->Q (!.ref s.heap.objs.size) { s with heap:=i })/\(X->∀i,Kp z TO d s.heap i->Q none { s with heap:=i }):=#[_,_,hv,id,id]
 have C:∀{j p},d[j]? = !p->(0<j->dG s.heap d k vs/\G)->∃n,Ct s.heap p n/\(∀x,n[k]? = !x->(dG s.heap d k vs/\G)/\vs[j]? = !x)/\(n[k]? = none->X):=λ{j p} g B=>by
  have go:dG s.heap d k vs/\G->∃n,Ct s.heap p n/\(∀x,n[k]? = !x->(dG s.heap d k vs/\G)/\vs[j]? = !x)/\(n[k]? = none->X):=λr=>by
   let⟨n,c,e⟩:=r.1.2 j p g;exact#[n,c,λx H=>#[r,by rw[<-e,H]],λL=>by
    have:=(q0a.mp g).1;rw[e,List.getElem?_eq_none_iff,r.1.1]at L;lia]
  rcases hv with r |⟨⟨q,n,hq,c,L⟩,t⟩
  .exact go r
  .rcases Nat.eq_zero_or_pos j with e |e
   .subst e;rw[g]at hq;cases hq;exact#[n,c,(λx H=>by rw[L]at H;cases H),λ_=>t]
   .exact go (B e)
 refine wpAny_mono (E:=λe v=>∃i x o,e=.ref x/\v = { s with heap:=i }/\X/\Kp z TO d s.heap i/\i.get? x=!o/\o.cls=.type "StopIteration") ?_ (λ_ _ h=>h) λe v q=>by let⟨i,x,o,rfl,rfl,M,Z,e3,e4⟩:=q;exact aA (wpAny_isInstance (T:="StopIteration") (b:=true) #[o,e3,e4] isSubtype_stop (bb (hW M _ Z)))
 refine aA ?_;rcases hf with e |⟨T,oT,e,hT⟩<;>rw[e]at J W hG
 .unfold Builtin.SmallTypes.ownedTupleIsFree;refine aA (wpAny_field J rfl (x:=.none) rfl (bb ?_));show wpAny _ _ (rule _ >>= _) _ _ _;refine aA (wpAny_rule ?_);refine aA (wpAny_field J rfl (x:=.ref TO) rfl ?_);refine aA (wpAny_setField_rec J 'd' λhA a4 a1=>?_);refine aA (wpAny_forIn_list _ (λrest b v=>b=(none,())/\∃j g a,v = { s with heap:=g }/\rest=((d.map λp=>Value.ref p.1).zipIdx).drop j/\j<=d.length/\(0<j->dG s.heap d k vs/\G)/\ZW s.heap z TI TO d k j .ellipsis f1 a g/\∀m,m<j->a[m]? = vs[m]?) _ ?_ ?_ _ _
   #[rfl,0,hA,a0,rfl,rfl,q0K _,λe=>absurd e 'a',W.chg D 'd' a1 a4 W.ta (a1.extBut _ _ D.nz W.to),λm e=>absurd e 'a'])
  .rintro x rest b v ⟨rfl,j,g,a,rfl,B,N,O,W,ha⟩;let⟨M,Z⟩:=nX B;rw[List.getElem?_zipIdx,q0q]at M;let⟨y,ey,rfl⟩:=q0i.mp M;let⟨p,g,rfl⟩:=q0i.mp ey;let⟨n,l,t1,t2⟩:=C g O;have a2:=(q0a.mp g).1;refine aA (wpAny_onRaise ?_);show wpAny _ _ (Builtin.SmallTypes.nextOf (.ref p.1) >>= _) _ _ _;refine aA (W.next hh D g l (λi x H u=>bb ?_) λL i e R kp he=>?_)
   .let⟨r,ev⟩:=t1 x H;refine aA (wpAny_seqItems u.to rfl ?_);refine aA (wpAny_updateSeq u.to rfl ?_ (by rw[q0y,u.ta];lia) (by rw[Array.size_setIfInBounds,q0y,u.ta];lia));refine aA (wpAny_letGo (bb ?_));refine#[rfl,j+1,_,a.set j x,rfl,Z,a2,λ_=>r,u.chg D (c:=TO) 'd' (Heap.SameBut.update ..) ((Heap.get?_update_other _ _ D.nz).trans u.zr) (by rw[q0u,u.ta]) ?_,λm hm=>?_]
    .rw[Heap.get?_update_self _ u.to rfl];simp[Obj.mapSeq]
    .rw[List.getElem?_set];split
     .rename_i e;subst e;rw[if_pos (by rw[u.ta];exact a2),ev]
     .exact ha m 'a'
   .let⟨o,ho,l⟩:=he;refine wpAny_setField_rec R 'd' λhC _ a3=>#[hC,e,o,rfl,rfl,t2 L,λc o l q=>a3.extBut _ _ (λw=>l (by rw[w];exact .head _)) (kp c o l q),a3.extBut _ _ (λw=>?_) ho,l]
    rw[w,R]at ho;cases ho;simp at l
  .rintro b v ⟨rfl,j,g,a,rfl,B,N,O,W,ha⟩;have N:d.length=j:=by have:=q1I.mp B.symm;rw[List.length_zipIdx,q0d]at this;lia
   subst N;let⟨r,q⟩:=O (q0X.mpr D.ne);have ea:a=vs:=q01 λm=>by
    by_cases e:m<d.length
    .exact ha m e
    .rw[q1V (by rw[W.ta];lia),q1V (by rw[r.1];lia)]
   subst ea;refine aA (wpAny_seqItems W.to rfl ?_);refine aA (wpAny_newTuple ?_ (by have:=r.1;show a.length<=_;lia));show wpAny _ _ (Builtin.SmallTypes.ownedTupleHandOut (.ref z) (.ref g.objs.size) >>= _) _ _ _;refine aA ?_;unfold Builtin.SmallTypes.ownedTupleHandOut;refine aA (wpAny_setField_rec (ca _ W.zr) 'd' λhI a5 S=>?_);refine wpAny_setField_rec a5 'd' λhJ a6 U=>bb #[_,rfl,bb ?_];have up:Heap.ExtBut z g hJ:=λc o c1 e=>U.extBut _ _ c1 (S.extBut _ _ c1 (ca _ e));show Q (!.ref g.objs.size) _;have nz:=q06 (bS W.zr);have q:=hG q hJ;rw[<-W.sz]at q;refine q #[g.objs.size,.bool false,.inl #[rfl,W.sz,rfl],W.done D I up a6,?_,?_,λc o l e=>up c o (λw=>l (by rw[w];exact .head _)) (W.kp c o l e)]<;>rw[<-W.sz]
   .exact U.extBut _ _ nz (S.extBut _ _ nz (Heap.get?_push_size _ rfl))
   .rw[U.1,S.1,Heap.size_push]
 .refine Qd D W hT λhA f WA=>?_;show wpAny _ _ (forIn _ _ _ >>= _) _ _ _;refine aA (wpAny_forIn_array' _ (λrest b v=>b.1=none/\∃j g,v = { s with heap:=g }/\rest=(d.map λp=>Value.ref p.1).drop j/\j<=d.length/\(0<j->dG s.heap d k vs/\G)/\ZW s.heap z TI TO d k j (rawInt T) f a0 g/\b.2.toList=vs.take j) _ ?_ ?_ _ _
   #[rfl,0,hA,rfl,rfl,q0K _,λe=>absurd e 'a',WA,rfl])
  .rintro x rest ⟨b1,b2⟩ v ⟨rfl,j,g,rfl,B,N,O,W,hb⟩;let⟨M,Z⟩:=nX B;rw[q0q]at M;let⟨p,g,rfl⟩:=q0i.mp M;let⟨n,l,t1,t2⟩:=C g O;refine aA (wpAny_holding ?_);show wpAny _ _ (Builtin.SmallTypes.nextOf (.ref p.1) >>= _) _ _ _;refine aA (W.next hh D g l (λi x H u=>bb (bb ?_)) λL i e R kp he=>?_)
   .let⟨r,ev⟩:=t1 x H;exact#[rfl,j+1,i,rfl,Z,(q0a.mp g).1,λ_=>r,u,by rw[Array.toList_push,hb,List.take_add_one,ev];rfl]
   .let⟨o,ho,l⟩:=he;exact#[i,e,o,rfl,rfl,t2 L,kp,ho,l]
  .rintro⟨b1,b2⟩ v ⟨rfl,j,g,rfl,B,N,O,W,hb⟩;have N:d.length=j:=by have:=q1I.mp B.symm;rw[q0d]at this;lia
   subst N;let⟨r,q⟩:=O (q0X.mpr D.ne);rw[q1O (by rw[r.1];exact bu _)]at hb;refine aA (wpAny_newTuple ?_ (by show b2.toList.length<=_;rw[hb,r.1];lia));rw[hb];refine bb #[_,rfl,bb ?_];have q:=hG q (g.push (gl vs));rw[<-W.sz]at q;refine q #[T,f,.inr rfl,W.done D I (λc o _ e=>ca _ e) (ca _ W.zr),?_,?_,λc o l e=>ca _ (W.kp c o l e)]<;>rw[<-W.sz]
   .exact Heap.get?_push_size _ rfl
   .exact Heap.size_push ..
inductive jb (h:Heap):List (Addr×Bool)->List (List Value)->Prop where
 |nil:jb h [] []
 |cons {q xs ls xss}:Ct h (0,q) xs->jb h ls xss->jb h (q::ls) (xs::xss)
def jb.head(c:jb h (q::d) (b::a)):Ct h (0,q) b:=by cases c;assumption
def jb.mem(c:jb h d b):∀q∈d,∃e,Ct h (0,q) e:=by
 induction c with
 |nil=>simp_all
 |cons a _ f=>
  intro q m;rcases q0c.mp m with rfl |m
  .exact#[_,a]
  .exact f q m
def jb.row(c:jb h g b):∀{d},d.map (·.2)=g->(∀f∈b,k<f.length)->dG h d k (b.map λf=>f.getD k .none):=by
 induction c with
 |nil=>intro d e _;cases d with
  |nil=>exact#[rfl,λm p h=>by cases h]
  |cons _ _=>cases e
 |cons a c l=>intro d e i;cases d with
  |nil=>cases e
  |cons p d=>
   cases e;let⟨n,o⟩:=l rfl λf m=>i f (.tail _ m);refine#[congrArg (·+1) n,λm q j=>?_];cases m with
   |zero=>cases j;exact#[_,a,by simp[List.getD,i _ (.head _)]]
   |succ m=>exact o m q j
def Em(a:Ct h (0,q) c)(e:b.map (·.2)=q::d)(f:c.length=k):rh h b k:=by
 cases b with
 |nil=>cases e
 |cons p b=>cases e;exact#[p,c,rfl,a,q1V (q2B f)]
noncomputable abbrev mB(S:Addr)(n:Nat):List Value:=(List.range n).map λj=>Value.ref (S+1+j)
abbrev yP(h:Heap)(S:Addr)(row:Nat->List Value)(n:Nat):Prop:=∀j,j<n->h.get? (S+1+j)=!gl (row j)
theorem dG.at(r:dG h a k vs)(e:∀p∈a,∀o,h.get? p.2.1=!o->b.get? p.2.1=!o):dG b a k vs:=
 #[r.1,λm p d=>(by let⟨f,c,x⟩:=r.2 m p d;exact#[f,c.at (e p (q0w d)),x])]
section
variable{h h':Heap}{z TI TO:Addr}{ps:List Zp}{k:Nat}{f0 f1 g0 g1:Value}
def ZS.kept(st:ZS h z TI TO ps k f0 f1)(e:∀c∈TI::fps z TO ps,∀o,h.get? c=!o->h'.get? c=!o):ZS h' z TI TO ps k f0 f1:=by let⟨d,a,W⟩:=st;exact#[e _ (.head _) _ d,a,e _ 'd' _ W.zr,W.ta,e _ 'd' _ W.to,λm p b=>(W.it m p b).at (e _ (.tail _ (bq _ (q1f (q0w b))))),rfl,λ_ _ _ e=>e]
def ZS.fld(D:iA z TI TO ps)(st:ZS h z TI TO ps k f0 f1)(up:Heap.ExtBut z h h')(b:rg h' z TI TO g0 g1):ZS h' z TI TO ps k g0 g1:=by let⟨c,a,W⟩:=st;exact#[up _ _ (λe=>(q0v.mp D.nd).1 (by rw[e];exact .head _)) c,a,b,W.ta,up _ _ D.nz W.to,W.it.ext up (D.n1 'd'),rfl,λ_ _ _ e=>e]
def ZS.live(st:ZS h z TI TO ps k f0 f1):∀c∈TI::fps z TO ps,∃o,h.get? c=!o/\∀v,o.data≠.cell v:=λc b=>by
 let⟨i,a,W⟩:=st;simp only[q0c,q0b,q0z,or_false,q0Q]at b;rcases b with rfl |(rfl |rfl) |⟨p,f,rfl⟩
 .simp_all
 .exact#[_,W.zr,λv z=>by cases z]
 .exact#[_,W.to,λv z=>by cases z]
 .let⟨m,g⟩:=List.mem_iff_getElem?.mp f;let⟨o,e,_,d⟩:=W.it m p g;simp_all
end
section
variable{R:Result->Shared->Prop}
def Qe{TI TO }(Z:A.handled=none)(D:iA z TI TO l)(B:∀c∈TI::fps z TO l,c<S)(H:∀p∈l,p.2.1<S)(hr:∀i,i<N->dG G l i (row i))(he:rh G l N)(hn:N<=sizeLine)(res) :
  ∀k i (s:Shared)  c  v f1,N - i=k->i<=N->ZS s.heap z TI TO l i v f1->(v=.none\/∃(T:Addr) (oT:Obj),v=rawInt T/\S<T/\s.heap.get? T=!oT)->(∀p∈l,∀o,G.get? p.2.1=!o->s.heap.get? p.2.1=!o)->
  s.heap.get? S=!yO (mB S i) c->s.heap.objs.size=S+1+i->yP s.heap S row i->
  (∀n I,(∀b o,b∉S::fps z TO l->s.heap.get? b=!o->n.get? b=!o)->n.get? S=!yO (mB S N) I->yP n S row N->R (.ok (.ret res)) { s with heap:=n })->
  codeAny (model prog w) A (.builtin "list.extend.loop" #[[.ref S,.ref z,res],[]]) R s:=by
 have ge:∀{T},S<T->T∉fps z TO l:=λh m=>absurd (B _ (.tail _ m)) (q1T.mpr (q1C h));have mw:∀j:Nat,S<S+1+j:=λj=>q0k (q00 S) (q12 _ _);have nS:S∉fps z TO l:=λm=>q0A _ (B _ (.tail _ m));intro k
 induction k with
 |zero=>
  intro i s c v f1 hk hi st C r u d Y J;have L:i=N:=by lia
  subst L;refine codeAny_builtin F.entry_extend_loop ?_;rw[Around.under_plainId F.plain_extend_loop _];show wpAny _ A.in1 (pyNext (.ref z) >>= _) _ _ s;have hE:rh s.heap l i:=(by let⟨p,xs,a,b,c⟩:=he;exact#[p,xs,a,b.at (r p (q0w a)),c]);exact aA (uJ (vs:=[]) Z D st (C.imp id λk1=>(by let⟨T,o,a,_,b⟩:=k1;exact#[T,o,a,b])) (.inr #[hE,λn t=>bb (J n c (λb o q=>t b o λm=>q (.tail _ m)) (t _ _ nS u) λj q=>t _ _ (ge (mw j)) (Y j q))]))
 |succ k ih=>
  intro i s c v f1 hk hi st C r u d Y J;have x:i<N:=by lia
  refine codeAny_builtin F.entry_extend_loop ?_;rw[Around.under_plainId F.plain_extend_loop _];show wpAny _ A.in1 (pyNext (.ref z) >>= _) _ _ s;refine aA (uJ Z D st (C.imp id λk3=>(by let⟨T,o,a,_,b⟩:=k3;exact#[T,o,a,b])) (.inl #[(hr i x).at r,λn q=>?_]));let⟨T,f,hT,M,O,sz,t⟩:=q;rw[d]at O sz;have y:=t S _ nS u;have ha:(mB S i).toArray.size=i:=by simp
  show wpAny _ A.in1 (updateSeq S (·.push (.ref s.heap.objs.size)) >>= _) _ _ _;rw[d];refine aA ?_;have old:Heap.ExtBut S n (n.update S (Obj.mapSeq (·.push (.ref (S+1+i))))):=λb o B e=>(Heap.get?_update_other _ _ (Ne.symm B)).trans e;refine wpAny_updateSeq y rfl (bb #[plainId_quiet F.plain_extend_loop _,ih (i+1) _ (bI (mB S i).toArray (.ref (S+1+i)) c) _ _ 'a' x (M.kept λc hc o=>old c o (q0s (B c hc))) (.inr ?_) (λp Q o e=>old _ _ (q0s (H p Q)) (t _ _ (λm=>D.ap p Q (.tail _ m)) (r p Q o e))) ?_ ((Heap.SameBut.update ..).1.trans sz) (λj U=>?_) λX I k2=>J X I λb o m e=>k2 b o m (old b o (λz=>m (by simp[z])) (t b o (λz=>m (.tail _ z)) e))])
   (by rw[ha];lia) (by rw[Array.size_push,ha];lia)
  .rcases hT with⟨_,rfl,_⟩ |e
   .exact#[_,_,rfl,by rw[d];exact mw i,old _ _ (q06 (by rw[d];exact mw i)) (by rw[d];exact O)]
   .rcases C with rfl |⟨T',oT,rfl,b,g⟩
    .cases e
    .cases e;exact#[_,_,rfl,b,old _ _ (q06 b) (t _ _ (ge b) g)]
  .refine(Heap.get?_update_self (Obj.mapSeq (·.push (Value.ref (S+1+i)))) y rfl).trans (congrArg some ?_);show Obj.mk _ _ (.seq ((mB S i).toArray.push _) (bI _ _ c)) _=_;rw[List.push_toArray,mB,mB,List.range_succ,q1o];rfl
  .refine old _ _ (q06 (mw j)) ?_;rcases q19.mp U with U |rfl
   .exact t _ _ (ge (mw j)) (Y j U)
   .exact O
end
def Qf{TI TO}(Y:A.handled=none)(D:iA z TI TO n)(st:ZS s.heap z TI TO n 0 .none (.bool false))(C:jb s.heap (q::S) (B::g))(e:n.map (·.2)=q::S)(T:∀t∈B::g,t.length=N)(Z:N<=sizeLine)
  (hQ:∀d c,Kp z TO n s.heap d->d.get? s.heap.objs.size=!yO (mB s.heap.objs.size N) c->yP d s.heap.objs.size (λi=>(B::g).map λt=>t.getD i .none) N->Q (.ref s.heap.objs.size) { s with heap:=d }):wpAny (model prog w) A (call (.type "list") [.ref z]) Q E s:=by
 have y:∀c∈TI::fps z TO n,c<s.heap.objs.size:=λc hc=>(by let⟨_,e,_⟩:=st.live c hc;exact bS e);have G:s.heap.objs.size≠z:=λe=>q0A _ (y _ (by simp[e]));have H:∀{d:Heap} {f},(∀b o,s.heap.get? b=!o->d.get? b=!o)->∀b o,s.heap.get? b=!o->(d.update s.heap.objs.size f).get? b=!o:=λk b o e=>(Heap.get?_update_other _ _ (q06 (bS e))).trans (k b o e);refine callType_codes (Q₁:=λobj U=>obj=.ref s.heap.objs.size/\U = { s with heap:=s.heap.push { cls:=.type "list",data:=.seq #[] } }) F.called_list (F.typeCall_list_1 _) F.entry_list_init
  (code_list_new _ #[rfl,rfl]) λobj U h₁=>?_
 let⟨rfl,rfl⟩:=h₁;have x:(s.heap.push { cls:=.type "list",data:=.seq #[] }).get? s.heap.objs.size=some { cls:=.type "list",data:=.seq #[] }:=Heap.get?_push_size _ rfl;have I:∀b o,s.heap.get? b=!o->(s.heap.push { cls:=.type "list",data:=.seq #[] }).get? b=!o:=λb o e=>ca _ e;have X:=st.w.choose_spec.zr;refine#[#[_,x,rfl],F.args_list_init_2 _ _,?_];show wpAny _ A.in1.in1 (do let old <-Builtin.List.listItems (.ref s.heap.objs.size);Builtin.List.listUpdate (.ref s.heap.objs.size) (λ_=>#[]);letGo old.toList.reverse;Builtin.List.listExtendWith (.ref s.heap.objs.size) (.ref z) .none) _ _ _;refine aA ?_;unfold Builtin.List.listItems;refine aA (wpAny_seqItems x rfl (bb ?_));show wpAny _ _ (updateSeq s.heap.objs.size (λ_=>#[]) >>= λ_=>letGo (#[]:Array Value).toList.reverse >>= λ_=>Builtin.List.listExtendWith (.ref s.heap.objs.size) (.ref z) .none) _ _ _;refine aA (wpAny_updateSeq x rfl ?_);have u:=Heap.get?_update_self (Obj.mapSeq (λ_=>(#[]:Array Value))) x rfl;have l:=H (f:=Obj.mapSeq (λ_=>(#[]:Array Value))) I;refine aA (wpAny_letGo ?_);unfold Builtin.List.listExtendWith;have J:Shared.TypeIs { s with heap:=(s.heap.push { cls:=.type "list",data:=.seq #[] }).update s.heap.objs.size (Obj.mapSeq (λ_=>(#[]:Array Value))) } (.ref z) "zip":=#[_,l _ _ X,rfl]
 refine aA (wpAny_typeOf J ?_);have g1:Builtin.List.listSameRef (.ref s.heap.objs.size) (.ref z)=false:=by simp[Builtin.List.listSameRef,G]
 have g2:(Value.type "zip"==Value.type "list")=false:=by decide
 have g3:(Value.type "zip"==Value.type "tuple")=false:=by decide
 simp only[g1,g2,g3,Bool.or_false,q08,if_false];refine aA (wpAny_pyIter_zip (l _ _ X) ?_);refine aA (wpAny_holding ?_);unfold Builtin.List.listLengthHint;refine aA (wpAny_specialOf J (r:=none) (by rw[typeLookup_type,builtinLookup_eq_fast];kernel_rfl) ?_);show wpAny _ _ (specialOf (Value.ref z) (Str.ofString "__length_hint__") >>= _) _ _ _;refine aA (wpAny_specialOf J (r:=none) (by rw[typeLookup_type,builtinLookup_eq_fast];kernel_rfl) ?_);refine bb ?_;show wpAny _ _ (rule "list.extend.makes-room" >>= λ_=>Builtin.List.listTouch (.ref s.heap.objs.size) >>= λ_=>
  again (.builtin "list.extend.loop" #[[.ref s.heap.objs.size,.ref z,.none],[]])) _ _ _
 refine aA (wpAny_rule ?_);refine aA ?_;show wpAny _ _ (updateSeq s.heap.objs.size (·.push .none) >>= λ_=>updateSeq s.heap.objs.size (·.pop)) _ _ _;refine aA (wpAny_updateSeq u rfl ?_);have v:=Heap.get?_update_self (Obj.mapSeq (·.push Value.none)) u rfl;refine wpAny_updateSeq (hz:=by seq_fits) v rfl ?_;have L:=Heap.get?_update_self (Obj.mapSeq (·.pop)) v rfl;have kp:=H (f:=Obj.mapSeq (·.pop)) (H (f:=Obj.mapSeq (·.push Value.none)) l);refine bb #[plainId_quiet F.plain_extend_loop _,Qe (A:=A.in1) Y D y (λp hp=>(by let⟨_,_,a,_⟩:=C.mem p.2 (e▸q1f hp);exact bS a)) (λi hi=>C.row e λt m=>by rw[T t m];exact hi) (Em C.head e (T _ (.head _))) Z _ N 0 _ _ _ _ rfl (q0K _) (st.kept λ_ _=>kp _) (.inl rfl) (λ_ _=>kp _) L ?_ (λj h=>absurd h (q1b _)) λd c' M O R=>
  #[rfl,hQ d c' (λb o y e=>M b o (λm=>?_) (kp b o e)) O R]]
 .exact(Heap.SameBut.update ..).1.trans ((Heap.SameBut.update ..).1.trans ((Heap.SameBut.update ..).1.trans (Heap.size_push ..)))
 rcases q0c.mp m with q |q
 .exact absurd (bS e) (by rw[q];exact q0A _)
 .exact y q
def Qg(c:Ct s.heap p d)(a:Q (.ref s.heap.objs.size) { s with heap:=s.heap.push { cls:=.type (bif p.2.2 then "list_iterator" else "tuple_iterator"),data:=.fields [.ref p.2.1,.int 0 0].toArray } }):wpAny (model prog w) A (pyIter (.ref p.2.1)) Q E s:=by
 let⟨i,l,b⟩:=p;cases b
 .exact wpAny_pyIter_tuple c a
 .exact wpAny_pyIter_list c a
noncomputable abbrev nY(a:List (Addr×Bool)):List Value:=a.map λq=>Value.ref q.1
def Qh(z:∀q∈f,∃y,Ct s.heap (0,q) y)
  (B:∀i (a:List Zp),a.map (·.2)=f->a.map (·.1)=List.range' s.heap.objs.size f.length->pN a 0 0 i->i.objs.size=s.heap.objs.size+f.length->(∀c o,s.heap.get? c=!o->i.get? c=!o)->Q (a.map λp=>.ref p.1) { s with heap:=i }) :
  wpAny (model prog w) A (Builtin.SmallTypes.iterAll (nY f)) Q E s:=by
 unfold Builtin.SmallTypes.iterAll;refine aA (wpAny_forIn_list _ (λrest b l=>∃j d a,l = { s with heap:=d }/\rest=(nY f).drop j/\j<=f.length/\a.map (·.2)=f.take j/\a.map (·.1)=List.range' s.heap.objs.size j/\(∀p∈a,mz d p 0)/\d.objs.size=s.heap.objs.size+j/\(∀c o,s.heap.get? c=!o->d.get? c=!o)/\b.toList=a.map λp:Zp=>Value.ref p.1) _ ?_ ?_ _ _
  ⟨0,s.heap,[],rfl,rfl,q0K _,rfl,rfl,λp h=>absurd h 'd',rfl,λ_ _ e=>e,rfl⟩)
 .rintro x rest b l ⟨j,d,a,rfl,n,r,k,t,u,sz,kp,hb⟩;let⟨f1,f2⟩:=nX n;rw[q0q]at f1;let⟨q,v,rfl⟩:=q0i.mp f1;let⟨y,c⟩:=z q (q0w v);refine aA (wpAny_holding (Qg (p:=(0,q)) (c.at λo=>kp _ o) (bb ?_)));refine#[j+1,_,a++[(d.objs.size,q)],rfl,f2,(q0a.mp v).1,?_,?_,λp g=>?_,?_,λc o e=>ca _ (kp c o e),?_]
  .rw[q1o,k,List.take_add_one,v];rfl
  .rw[q1o,t,List.range'_concat,sz];simp
  .rcases q0b.mp g with g |g
   .exact(u p g).at λo e=>ca _ e
   .rw[q0l.mp g];exact#[_,Heap.get?_push_size _ rfl,rfl,rfl]
  .show(d.push _).objs.size=_;rw[Heap.size_push,sz];rfl
  .rw[Array.toList_push,hb,q1o];rfl
 .rintro b l ⟨j,d,a,rfl,n,r,k,t,u,sz,kp,hb⟩;have r:j=f.length:=by have:=q1I.mp n.symm;rw[q0d]at this;lia
  subst r;rw[List.take_length]at k;refine bb ?_;rw[hb];exact B d a k t (λm p d=>by rw[if_neg (q1b _)];exact u p (q0w d)) sz kp
def yQ(h:Heap)(d:List (Addr×Bool))(P:Addr->Heap->Prop):Prop:=∀b z TI TO a,iA z TI TO a->ZS b z TI TO a 0 .none (.bool false)->a.map (·.2)=d->(∀c o,h.get? c=!o->b.get? c=!o)->(∀c∈TI::fps z TO a,h.objs.size<=c)->P z b
def Qi(n N):((n+N)::(n+N+2)::(n+N+1)::List.range' n N).Nodup:=by simp only[q0v,q0c,List.mem_range'_1,not_or];exact#[#[by lia,by lia,by lia],#[by lia,by lia],by lia,List.nodup_range']
def Qj{a:List Zp}(r:∀q∈d,∃k,Ct h (0,q) k)(ne:d≠[])(lt:d.length<9)(q:yQ h d P)(g:a.map (·.2)=d)(l:a.map (·.1)=List.range' h.objs.size d.length)(it:pN a 0 0 b)(f:b.objs.size=h.objs.size+d.length)(t:∀c o,h.get? c=!o->b.get? c=!o) :
  P ((b.push (gl (a.map λp=>.ref p.1))).push (gl ((a.map λp=>Value.ref p.1).map λ_=>.none))).objs.size (((b.push (gl (a.map λp=>.ref p.1))).push (gl ((a.map λp=>Value.ref p.1).map λ_=>.none))).push { cls:=.type "zip",data:=.fields [.none,.bool false,.bool false,.ref b.objs.size,.ref (b.push (gl (a.map λp=>.ref p.1))).objs.size].toArray }):=by
 have i:(b.push (gl (a.map λp=>.ref p.1))).objs.size=h.objs.size+d.length+1:=by rw[Heap.size_push,f]
 have n:((b.push (gl (a.map λp=>.ref p.1))).push (gl ((a.map λp=>Value.ref p.1).map λ_=>.none))).objs.size=h.objs.size+d.length+2:=by rw[Heap.size_push,i]
 have u:a.length=d.length:=by rw[<-g,q0d]
 have ge:∀c∈b.objs.size::fps ((b.push (gl (a.map λp=>.ref p.1))).push (gl ((a.map λp=>Value.ref p.1).map λ_=>.none))).objs.size (b.push (gl (a.map λp=>.ref p.1))).objs.size a,h.objs.size<=c:=by
  rw[i,n,f];simp only[fps,l,q0c,q0b,q0z,or_false,List.mem_range'_1];rintro c (rfl |(rfl |rfl) |⟨e,_⟩)
  .exact q12 _ _
  .exact q12 _ (d.length+2)
  .exact q12 _ (d.length+1)
  .exact e
 refine q _ _ _ _ a #[?_,λp j m=>?_,λe=>?_,by lia] #[ca _ (ca _ (Heap.get?_push_size _ rfl)),_,Heap.get?_push_size _ rfl,?_,ca _ (Heap.get?_push_size _ rfl),λm p j=>(it m p j).at λo e=>ca _ (ca _ (ca _ e)),rfl,λ_ _ _ e=>e] g (λc o e=>ca _ (ca _ (ca _ (t c o e)))) ge
 .rw[i,n,f];simp only[fps,l];exact Qi _ _
 .let⟨k,o,e,_⟩:=r p.2 (by rw[<-g];exact q1f j);exact absurd (bS e) (q1T.mpr (ge _ m))
 .rw[e]at g;exact ne g.symm
 .rw[q0d,q0d]
def Qk(a)(ne:a≠[])(lt:a.length<9) :
  Meets (Builtin.«zip.__new__» #[.type "zip"::nY a,[]]) (λ_ R s=>(∀q∈a,∃g,Ct s.heap (0,q) g)/\yQ s.heap a λz c=>R (.ok (.ret (.ref z))) { s with heap:=c }):=
 .of_wp λprog w A R s h=>by
  let⟨d,h⟩:=h;have e:=sub_zip;have sz:9<sizeLine:=by decide
  wp_walk using Qh d
  intro c i f j it b k;have l:i.length=a.length:=by rw[<-f,q0d]
  refine aA (wpAny_newTuple ?_ (by rw[q0d];lia));refine aA (wpAny_newTuple ?_ (by rw[q0d,q0d];lia))
  wp_walk
  exact#[_,rfl,Qj d ne lt h f j it b k]
def En(b:∀q∈ls,∃c,Ct s.heap (0,q) c)(ne:ls≠[])(lt:ls.length<9)(d:checkTypeCall "zip" #[nY ls,[]]=pure ())(f:checkBuiltinCall "zip.__new__" #[.type "zip"::nY ls,[]]=pure ())(g:∀obj,argsOk "object.__init__" #[obj::nY ls,[]])
  (h:yQ s.heap ls λz a=>Q (.ref z) { s with heap:=a }):wpAny (model prog w) A (call (.type "zip") (nY ls)) Q E s:=
 callType_new F.called_zip 'f' d f g F.entry_zip_new (Qk ls ne lt) #[b,λa z TI TO i D st e j ge=>#[#[_,st.w.choose_spec.zr,rfl],h a z TI TO i D st e j ge]]
end
end L2
namespace L2
open PySem PySem.Spec PyProof.Rows
def Ql(s:bO H c)(h:Rd H a u):Rd c a u:=h.imp (λe=>s _ _ e) λb=>by let⟨o,e⟩:=b;exact#[o,s _ _ e]
def Qm(h:Rd H a (.tup c))(b:Rd H a (.tup d)):c=d:=by rcases h with h |⟨o,h⟩<;>rcases b with b |⟨e,b⟩<;>(rw[h]at b;cases b<;>rfl)
noncomputable def dU:List PyData->Bool
 |[]=>true
 |.tuple _::_=>true
 |_::ds=>not ds.isEmpty&&dU ds
def pO(H:Hp)(a:Addr)(b:List V)(c:List PyData):Prop:=H a=!.tup b\/(∃o,H a=!.frz o (.tup b))/\dU c=true
def pO.mono(s:bO H c)(h:pO H a d f):pO c a d f:=h.imp (λe=>s _ _ e) λb=>by obtain⟨⟨o,e⟩,k⟩:=b;exact#[#[o,s _ _ e],k]
def pO.rd(h:pO H a b c):Rd H a (.tup b):=h.imp id λz=>z.1
mutual
inductive DV (H:Hp):V->PyData->Prop where
 |non:DV H .non .none
 |bl (b:Bool):DV H (.bl b) (.bool b)
 |int (i:Int):DV H (.int i) (.int i)
 |str (x:Str):DV H (.str x) (.str x)
 |lst {a:Addr}{xs:List V}{ds:List PyData}:H a=!.lst xs->aK H xs ds->DV H (.ref a) (.list ds)
 |tup {a:Addr}{xs:List V}{ds:List PyData}:pO H a xs ds->aK H xs ds->DV H (.ref a) (.tuple ds)
inductive aK (H:Hp):List V->List PyData->Prop where
 |nil:aK H [] []
 |cons {x:V}{xs:List V}{d:PyData}{ds:List PyData}:DV H x d->aK H xs ds->aK H (x::xs) (d::ds)
end
theorem DV.mono(s:bO H H'):∀{v d},DV H v d->DV H' v d:=λh=>DV.rec .non .bl .int .str (λh _ k=>.lst (s _ _ h) k) (λh _ k=>.tup (h.mono s) k) .nil (λ_ _ a b=>.cons a b) h
theorem aK.mono(s:bO H H'):∀{vs c},aK H vs c->aK H' vs c:=λh=>aK.rec .non .bl .int .str (λh _ k=>.lst (s _ _ h) k) (λh _ k=>.tup (h.mono s) k) .nil (λ_ _ a b=>.cons a b) h
theorem aK.length:∀{vs a},aK H vs a->vs.length=a.length:=by
 intro vs a
 induction a generalizing vs with
 |nil=>intro h;cases h;rfl
 |cons d a b=>intro h;cases h with
  |cons _ r=>simp_all
def aK.append:∀{vs b a c},aK H vs a->aK H b c->aK H (vs++b) (a++c):=by
 intro vs b a c
 induction a generalizing vs with
 |nil=>intro h s;cases h;exact s
 |cons d a e=>intro h s;cases h with
  |cons h r=>exact .cons h (e r s)
theorem aK.get:∀{vs a}{i:Nat}{d},aK H vs a->a[i]? = !d->∃v,vs[i]? = !v/\DV H v d
 |_,_,_,_,.nil,e=>by simp at e
 |_,_,0,_,.cons h _,e=>by simp_all
 |_,_,i+1,d,.cons _ r,e=>by let⟨v,b,c⟩:=r.get (by simpa using e);exact#[v,by simpa using b,c]
theorem aK.get':∀{vs a}{i:Nat}{v},aK H vs a->vs[i]? = !v->∃d,a[i]? = !d/\DV H v d
 |_,_,_,_,.nil,e=>by simp at e
 |_,_,0,_,.cons h _,e=>by simp at e;subst e;exact#[_,rfl,h]
 |_,_,i+1,d,.cons _ r,e=>by let⟨v,b,c⟩:=r.get' (by simpa using e);exact#[v,by simpa using b,c]
theorem aK.drop:∀{vs a} n,aK H vs a->aK H (vs.drop n) (a.drop n)
 |_,_,0,r=>r
 |_,_,_+1,.nil=>.nil
 |_,_,n+1,.cons _ r=>r.drop n
def cp(h:H a=none):bO H (aM H a o):=λb u e=>by rw[bt (jJ e h)];exact e
def DV.tup_inv(h:DV H v (.tuple c)):∃a b,v=.ref a/\Rd H a (.tup b)/\aK H b c:=by cases h with |tup h r=>exact#[_,_,rfl,h.rd,r]
def DV.tup_invK(h:DV H v (.tuple b))(d:dU b=false):∃a c,v=.ref a/\H a=!.tup c/\aK H c b:=by cases h with |tup h r=>exact#[_,_,rfl,h.elim id (λz=>by lia),r]
def DV.lst_inv(h:DV H v (.list c)):∃a b,v=.ref a/\H a=!.lst b/\aK H b c:=by cases h with |lst h r=>exact#[_,_,rfl,h,r]
def DV.int_inv(h:DV H v (.int i)):v=.int i:=by cases h;rfl
def DV.str_inv(h:DV H v (.str x)):v=.str x:=by cases h;rfl
def DV.bl_inv(h:DV H v (.bool b)):v=.bl b:=by cases h;rfl
def DV.non_inv(h:DV H v .none):v=.non:=by cases h;rfl
def Inv.reads{Y:St}(I:Inv X pins Y H s)(h:DV H v d):bj v u->∃as,Reads s.heap u d as:=
 DV.rec (motive_2:=λvs p _=>∀a,bv vs a->∃as,ReadsAll s.heap a p as)
  (λu r=>by cases r;exact#[_,.none]) (λb u r=>by cases r;exact#[_,.bool b]) (λi u r=>by let⟨t,rfl⟩:=r;exact#[_,.int i t]) (λx u r=>by let⟨t,rfl⟩:=r;exact#[_,.str x t])
  (λh q k u r=>by
   cases r;let⟨_,f,n,g,e⟩:=I.hok _ _ h;let⟨as,z⟩:=k _ g;exact#[_,reads_list_at e rfl rfl (by simpa using z)])
  (λh q k u r=>by
   cases r;let⟨_,f,g,o,e,c,n,d⟩:=h.rd.ok I.hok;let⟨as,z⟩:=k _ g;exact#[_,reads_tuple_at e c d (by simpa using z)])
  (λa r=>by cases r;exact#[_,.nil])
  (λh q j l a r=>by
   cases r with
   |cons r m=>
   let⟨as,z⟩:=j _ r;let⟨bs,z'⟩:=l _ m;exact#[_,.cons z z']) h u
def yR(neg:Bool):R2:=λx y H Q=>∃d e,DV H x d/\DV H y e/\SeqAt.shaped d=true/\SeqAt.shaped e=true/\Q (.bl (PyData.eqv d e != neg)) H
def Eo(b:X.A.units+64<cLine):dF X (compareOp .Eq) (yR false):=by intro a s Y H x y v u Q I c f h;let⟨d,e,g,i,j,k,q⟩:=h;let⟨as,l⟩:=I.reads g c;let⟨bs,m⟩:=I.reads i f;exact eq_dataH l m j k b #[_,H,I,by show Value.bool (PyData.eqv d e)=Value.bool (PyData.eqv d e != false);simp_all,q]
def Ep(b:X.A.units+64<cLine):dF X (compareOp .NotEq) (yR true):=by intro a s Y H x y v u Q I c f h;let⟨d,e,g,i,j,k,q⟩:=h;let⟨as,l⟩:=I.reads g c;let⟨bs,m⟩:=I.reads i f;exact ne_dataH l m j k b #[_,H,I,by show Value.bool (not (PyData.eqv d e))=Value.bool (PyData.eqv d e != true);simp_all,q]
@[simp]noncomputable def yS:PyData->String
 |.none=>"NoneType"
 |.bool _=>"bool"
 |.int _=>"int"
 |.str _=>"str"
 |.list _=>"list"
 |.tuple _=>"tuple"
 |.dict _=>"dict"
def Qn:List V->Hp->VK->Prop:=λa H Q=>∃x d n b,a=[x,.ty n]/\DV H x d/\(∀K:Frag,kitOne K (.type (yS d)) (.type n)=!b)/\Q (.bl b) H
def Qo:hU X (.builtin "isinstance") Qn:=by
 intro g s Y H k v Q I r h;let⟨x,d,n,b,rfl,hd,e,q⟩:=h;let⟨u,w,rfl,f,l⟩:=vals2 r;cases l;have fin:∀j,EP X g Y Q (.bool b) { s with toks:=j }:=λj=>#[.bl b,H,I.tok j,rfl,q]
 cases hd with
 |non=>exact qT I f .non (e _) fin
 |bl c=>exact qT I f (.bl c) (e _) fin
 |int i=>exact qT I f (.int i) (e _) fin
 |str z=>exact qT I f (.str z) (e _) fin
 |lst h r=>exact qT I f (.lst h) (e _) fin
 | @tup a k ds h r=>cases(f);let⟨_,_,_,p⟩:=h.rd.ok I.hok;let⟨o,m,t,_⟩:=p;exact kia_one PySem.W.kitx_tuple I.kIn #[o,m,t] (e _) (λz=>nomatch z) fin
def Inv.turnedNew{Y:St}{ch:List Addr}{a:Addr}(I:Inv X pins Y H s)(f:∀b∈ch,iU X pins H b)(k:∀b d,b∉ch->s.heap.get? b=!d->h'.get? b=!d)(p:s.heap.objs.size<=a)
  (there:∀b∈ch,∀d,s.heap.get? b=!d->∃l,h'.get? b=!l) (new:dh X.prog X.w (aM H a o) h' a o):Inv X pins Y (aM H a o) { s with heap:=h',toks:=t' }:=by
 have i:=I.hok.fresh p;have j:∀b u,H b=!u->b∉ch:=λb u e z=>by rw[(f b z).1]at e;cases e
 refine I.step (g':=s.gens) (d':=s.drawn) (ch:=ch) (λb h=>#[(f b h).2.2.2.1,(f b h).2.1,(f b h).2.2.2.2.1,(f b h).2.2.2.2.2]) (λb d _ _ g e _=>k b d g e) (λb d _ _ g e _=>#[d.slots,k b d g e])
  (λb d _ e n=>by rw[bt (q0s (q0k (bS e) p))];exact n) (λb d g e=>#[d,k b d g e]) (λb x e=>cp i b _ e) (λb d u e=>cp i b _ e) (λb C e=>#[#[],by rw[cp i b _ e];simp]) (λm y=>?_) (λb u e=>?_) I.bare
 .let⟨t,A,B,ho,r⟩:=y;exact#[t,A,B,k _ t (λz=>(f _ z).2.1 rfl) ho,r]
 .by_cases h:b=a
  .subst h;rw[cI]at e;cases e;exact new
  .rw[bt h]at e;refine(I.hok b u e).stay (λc v g q=>k c v ?_ q) (λc q=>cp i c _ q) λc x q=>cp i c _ q;rcases g with z |z
   .rw[z];exact j b u e
   .exact j c _ z
def Er(K:Frag)(a:Addr):It:=
 ⟨λi H=>∃b x,dO K H a b/\b[i]? = !x,λi H v c=>∃T x,v=.ref T/\H T=none/\c = aM H T (.tup [.int i,x])/\∀b,dO K H a b->b[i]? = !x,λi H=>∃b,dO K H a b/\b.length<=i⟩
def Qp{K}(a e it)(hne:e≠it):iV P w K (.Tuple elts kk tpos) (Er K a) [e,it] e (λi h=>(∃old,IsEnum h e it i old)/\h.IsListIter it a i) where
 mem:=by simp
 obj:=λi h st b hb=>by
  obtain⟨⟨old,he⟩,o,e1,c,d⟩:=st;rcases q0c.mp hb with rfl |hb
  .exact#[_,he,λv z=>by cases z]
  .obtain rfl:=q0l.mp hb;exact#[o,e1,λv z=>by rw[d]at z;cases z]
 keep:=λi h h' st k=>#[st.1.elim λold he=>#[old,k e 'd' _ he],st.2.at λo e'=>k it 'd' o e']
 item:=by
  intro X hP hw hK hc i pins s Y H E I hf st hg;subst hP hw hK;obtain⟨⟨old,he⟩,hit⟩:=st;let⟨xs,x,hq,hx⟩:=hg;let⟨its,rv,p,hz⟩:=I.list hq;let⟨u,hu,ru⟩:=rv.get hx;refine wpAny_pyNext_enum_item he hit p.isList (x:=u) (by simpa using hu) hne λh' ho hi' hT hsz hk=>#[_,rfl,?_]
  refine wpAny_letOwnedTupleGo_enum (s:={ s with heap:=h',toks:=s.toks+1 }) ho λh2 he2 hs2=>?_;have hel:s.heap.objs.size≠e:=q06 (bS he);have k2:∀b ob,b∉[e,it]->s.heap.get? b=!ob->h2.get? b=!ob:=λb ob hb q=>by simp only[q0c,q0z,or_false,not_or]at hb;exact(hs2.2 b hb.1).trans (hk b ob hb.1 hb.2 q)
  have I1:Inv X pins Y (aM H s.heap.objs.size (.tup [.int i,x])) { s with heap:=h2,toks:=s.toks+1 }:=by
   refine I.turnedNew (ch:=[e,it]) hf k2 (bu _) (λb hb ob q=>?_) ?_
   .rcases q0c.mp hb with rfl |hb
    .exact#[_,he2]
    .obtain rfl:=q0l.mp hb;let⟨o,e1,_⟩:=hi';exact#[o,(hs2.2 b (Ne.symm hne)).trans e1]
   .exact#[by show 2<=sizeLine;decide,[.int i s.toks,u],.cons #[_,rfl] (.cons ru .nil),#[_,(hs2.2 _ hel).trans hT,rfl,_,rfl]]
  refine#[.ref s.heap.objs.size,_,I1,rfl,#[_,x,rfl,I.hok.fresh (bu _),rfl,λys hy=>by rw[I.list_inj hy hq];exact hx],#[#[_,by simpa using he2],hi'.at λo e1=>(hs2.2 it (Ne.symm hne)).trans e1],λb hb=>?_];have hb':b<s.heap.objs.size:=by
   rcases q0c.mp hb with rfl |hb
   .exact bS he
   .obtain rfl:=q0l.mp hb;let⟨o,e1,_⟩:=hit;exact bS e1
  rw[bt (q0s hb')];exact(hf b hb).1
 done:=by intro X hP hw hK hc i pins s Y H E I hf st hg;subst hP hw hK;obtain⟨⟨old,he⟩,hit⟩:=st;let⟨xs,hq,hx⟩:=hg;let⟨its,rv,p,hz⟩:=I.list hq;let⟨f0,f1,f2,f3,f4,f5⟩:=hf it 'd';have hl:=rv.length;exact wpAny_pyNext_enum_end (I.ok.hd hc) he hit p.isList (by simp;lia) λh' eb=>#[rfl,I.turned (t':=s.toks) (λb o hb e=>eb b o hb e) f0 f1 f3 f4 f5]
 self:=λ_ _ _ _ _ st h=>st.1.elim λ_ he=>wpAny_pyIter_enum he h
def Qq(K:Frag)(d:TA):TI:=λY H R=>d Y H λvs b=>∃a c,vs=[.ref a]/\dO K b a c/\R (Er K a) b
def Qr(k:Gl X "enumerate")(m:X.mg "enumerate" = none)(n:PA X [a] j)(A:autoParam (qSd X a) Zq._auto_1):PI X (.Tuple elts kk tpos) (.Call (.Name "enumerate" p) [a] [] pos) (Qq X.K j):=by
 intro d s Y H R I h;refine Call_ (jK I k m (show bootBuiltins "enumerate" = some (.type "enumerate") by decide +kernel) (PyProof.Rows.callWith_type1 (aS (n pos d s Y H _ I h) λB c e=>?_) A rfl));let⟨vs,o,I1,r,q1⟩:=e;let⟨l,C,rfl,t,q⟩:=q1;let⟨u,rfl,ru⟩:=vals1 r;cases ru;let⟨v,D,p,E⟩:=I1.list t;refine call_enumerate_list p.isList λw i x y z=>?_;refine wpAny_pyIter_enum (s:={ c with heap:=w }) i ?_;refine#[c.heap.objs.size+1,[c.heap.objs.size+1,c.heap.objs.size],_,_,o,rfl,I1.kept (t':=c.toks) z,Qp l _ _ (Nat.succ_ne_self _),#[#[_,i],x],λb g=>?_,q];have f:c.heap.objs.size<=b:=by
  rcases q0c.mp g with rfl |g
  .exact q1Q _
  .obtain rfl:=q0l.mp g;exact bu _
 exact I1.fpOk f (I1.hok.fresh f)
end L2
namespace L2.L3
open PySem PySem.Spec PyProof.Rows
noncomputable def aB(O:List Addr)(H:Hp):Hp:=λb=>if b∈O then none else H b
def jc(h:H b=!o)(n:b∉O):aB O H b=!o:=by unfold aB;simp_all
def cZ(h:aB O H b=!o):H b=!o/\b∉O:=by
 unfold aB at h
 lia
def iB(h:Rd (aB O H) a u):Rd H a u/\a∉O:=by
 rcases h with h |⟨o,h⟩
 .let⟨e,n⟩:=cZ h;exact#[.inl e,n]
 .let⟨e,n⟩:=cZ h;exact#[.inr #[o,e],n]
def kA:bO (aB O H) H:=λb o h=>(cZ h).1
structure aR (O:List Addr) (H:Hp) (O':List Addr) (H':Hp):Prop where
 keep:∀b o,b∉O->H b=!o->H' b=some o
 new:∀a∈O',a∈O\/H a=none
def aR.refl:aR O H O H:=#[λ_ _ _ h=>h,λ_ h=>.inl h]
def aR.trans(a:aR f H1 g H2)(b:aR g H2 i j):aR f H1 i j:=by
 have k:∀c o,c∉f->H1 c=!o->c∉g:=λc o d e z=>(a.new c z).elim d λn=>by lia
 refine#[λc o d e=>b.keep c o (k c o d e) (a.keep c o d e),λc h=>?_]
 by_cases d:c∈f
 .exact .inl d
 .refine .inr ?_;cases e:H1 c with
  |none=>rfl
  |some o=>
   rcases b.new c h with z |z
   .exact absurd z (k c o d e)
   .rw[a.keep c o d e]at z;cases z
def aR.same(s:bO H H'):aR O H O H':=#[λb o _ e=>s b o e,λ_ h=>.inl h]
def aR.hid(s:aR O H O' H'):bO (aB O H) (aB O' H'):=λb o e=>by
 let⟨a,n⟩:=cZ e;refine jc (s.keep b o n a) λz=>?_;rcases s.new b z with q |q
 .exact n q
 lia
def kB(s:bO H H'):bO (aB O H) (aB O H'):=(aR.same s).hid
def uK(s:∀a∈O',a∈O):bO (aB O H) (aB O' H):=λb o e=>by let⟨c,n⟩:=cZ e;exact jc c λz=>n (s b z)
set_option genInjectivity true in
inductive Fl where
 |d (x:PyData) |l (ds:List PyData) |m (tk:Bool) (kvs:List (PyData×PyData))
set_option genInjectivity true in
inductive Bx where
 |l (ds:List PyData) |m (tk:Bool) (kvs:List (PyData×PyData)) |o (C:Addr) (fs:List (Str×Fl)) |sd (fs:List (Str×Fl)) |ll (xs:List (List PyData)) |pr (C:Addr) (fs:List (Str×Fl)) (d:PyData) |oo (C:Addr) (fss:List (List (Str×Fl)))
set_option genInjectivity true in
inductive af where
 |dat (d:PyData)
 |own (io:Bool) (b:Bx)
 |scr (ns:List Int)
 |exc (c:Str)
 |vw (b:Bx)
abbrev ag:=List (Option af)
structure Fx where
 H₀:Hp
 A₀:List Addr
 O₀:List Addr
 I₀:Nat->Addr
def kC(K:Frag)(H:Hp)(a:Addr)(c:List Int):Prop:=c.length<=63/\((∃o,H a=!.frz o (.lst (c.map V.int)))\/
 ∃(o:Obj) (b:Array Value) (n:Nat),K.lookup a=!o/\o.cls=.type "list"/\o.dict=none/\o.data=.seq b n/\b.size<=sizeLine/\bv (c.map V.int) b.toList)
def kC.sq{K}(h:kC K H a c):dO K H a (c.map V.int):=h.2.elim (λb=>by let⟨o,e⟩:=b;exact .inl (.inr #[o,e])) .inr
def kC.mono{K}(h:kC K H a d)(k:∀o u,H a=!.frz o u->c a=!.frz o u):kC K c a d:=#[h.1,h.2.imp (λb=>by let⟨o,e⟩:=b;exact#[o,k _ _ e]) id]
def Qs(K:Frag)(a:Addr)(c:Str)(h:Heap):Prop:=∃C o,nsIn K mainGlobals c=!!.ref C/\h.get? a=!o/\o.cls=.ref C
noncomputable def jQ:aX->PyData
 |.inl i=>.int i
 |.inr x=>.str x
def uL(a:List aX):PyData:=.tuple (a.map jQ)
def jR(G H:Hp)(a:Addr):Bool->List (PyData×PyData)->Prop
 |false,b=>∃c:List (aX×V),H a=!.dK c/\Paired (λ(p:aX×V) (q:PyData×PyData)=>jQ p.1=q.1/\DV G p.2 q.2) c b
 |true,b=>∃c:List (List aX×V),H a=!.dT c/\Paired (λ(p:List aX×V) (q:PyData×PyData)=>uL p.1=q.1/\DV G p.2 q.2) c b
def gA(G H:Hp)(v:V):Fl->List Addr->Prop
 |.d x,fp=>fp=[]/\DV G v x
 |.l ds,fp=>∃a c,v=.ref a/\fp=[a]/\H a=!.lst c/\aK G c ds
 |.m e b,fp=>∃a,v=.ref a/\fp=[a]/\jR G H a e b
inductive aP (G H:Hp):List (Str×V)->List (Str×Fl)->List (List Addr)->Prop where
 |nil:aP G H [] [] []
 |cons {n:Str}{v:V}{f:Fl}{fp:List Addr}{gs:List (Str×V)}{fs:List (Str×Fl)}{fps:List (List Addr)}:gA G H v f fp->aP G H gs fs fps->aP G H ((n,v)::gs) ((n,f)::fs) (fp::fps)
def uM(G H:Hp)(b:Addr)(a:List PyData):Prop:=∃vs,H b=!.lst vs/\aK G vs a
def Qt(G H:Hp)(C b:Addr)(fs:List (Str×Fl))(fp:List Addr):Prop:=∃a gs fps,fp=b::a::fps.flatten/\H b=!.ins C a gs/\H a=!.own b/\aP G H gs fs fps
inductive cw (G H:Hp) (C:Addr):List Addr->List (List (Str×Fl))->List (List Addr)->Prop where
 |nil:cw G H C [] [] []
 |cons {b:Addr}{fs:List (Str×Fl)}{fp:List Addr}{bs:List Addr}{fss:List (List (Str×Fl))}{fps:List (List Addr)}:Qt G H C b fs fp->cw G H C bs fss fps->cw G H C (b::bs) (fs::fss) (fp::fps)
def gO(G H:Hp)(a:Addr):Bx->List Addr->Prop
 |.l ds,fp=>fp=[a]/\∃c,H a=!.lst c/\aK G c ds
 |.m g e,fp=>fp=[a]/\jR G H a g e
 |.o C fs,fp=>∃b gs fps,fp=a::b::fps.flatten/\H a=!.ins C b gs/\H b=!.own a/\aP G H gs fs fps
 |.sd fs,fp=>∃gs fps,fp=a::fps.flatten/\H a=!.dK (gs.map λp=>(Sum.inr p.1,p.2))/\aP G H gs fs fps
 |.ll c,fp=>∃bs:List Addr,fp=a::bs/\H a=!.lst (bs.map V.ref)/\Paired (uM G H) bs c
 |.pr C fs d,fp=>∃h v b gs fps,G a=!.tup [.ref h,v]/\fp=h::b::fps.flatten/\H h=!.ins C b gs/\H b=!.own h/\aP G H gs fs fps/\DV G v d
 |.oo C f,fp=>∃bs fps,fp=a::fps.flatten/\H a=!.lst (bs.map V.ref)/\cw G H C bs f fps
def Mv:HO->Prop
 |.lst _=>True
 |.dK _=>True
 |.dT _=>True
 |.ins _ _ _=>True
 |.own _=>True
 |_=>False
def fr(K:Frag)(H:Hp)(O:List Addr)(v:V):af->List Addr->Prop
 |.dat d,_=>DV (aB O H) v d
 |.own _ b,fp=>∃a,v=.ref a/\gO (aB O H) H a b fp
 |.scr ns,_=>∃a,v=.ref a/\kC K H a ns
 |.exc c,_=>∃a φ,v=.ref a/\aB O H a=!.ext φ/\∀h,φ h->Qs K a c h
 |.vw b,_=>∃a fp,v=.ref a/\gO (aB O H) (aB O H) a b fp
def jR.keep(h:jR G H a c b)(k:H' a=H a)(g:bO G G'):jR G' H' a c b:=by
 cases c with
 |false=>let⟨d,e,p⟩:=h;exact#[d,k.trans e,Paired.mapP p λ_ _ z=>#[z.1,DV.mono g z.2]]
 |true=>let⟨d,e,p⟩:=h;exact#[d,k.trans e,Paired.mapP p λ_ _ z=>#[z.1,DV.mono g z.2]]
def jR.live(h:jR G H a c b):∃o,H a=!o/\Mv o:=by
 cases c with
 |false=>let⟨d,e,p⟩:=h;exact#[_,e,trivial]
 |true=>let⟨d,e,p⟩:=h;exact#[_,e,trivial]
theorem gA.keep(h:gA G H v f fp)(k:∀c∈fp,H' c=H c)(g:bO G G'):gA G' H' v f fp:=by
 cases f with
 |d x=>exact#[h.1,DV.mono g h.2]
 |l ds=>let⟨a,j,e,b,i,n⟩:=h;exact#[a,j,e,b,(k a (by simp[b])).trans i,aK.mono g n]
 |m p o=>let⟨a,e,b,i⟩:=h;exact#[a,e,b,i.keep (k a (by simp[b])) g]
theorem gA.live(h:gA G H v f fp):∀c∈fp,∃o,H c=!o/\Mv o:=by
 cases f with
 |d x=>let⟨rfl,_⟩:=h;simp_all
 |l ds=>let⟨a,j,g,rfl,e,k⟩:=h;intro c b;obtain rfl:=q0l.mp b;exact#[_,e,trivial]
 |m n i=>let⟨a,g,rfl,e⟩:=h;intro c b;obtain rfl:=q0l.mp b;exact e.live
theorem aP.keep{fps}(h:aP G H gs fs fps)(k:∀c∈fps.flatten,H' c=H c)(g:bO G G'):aP G' H' gs fs fps:=by
 induction h with
 |nil=>exact .nil
 |cons a b e=>exact .cons (a.keep (λc d=>k c (by simp[d])) g) (e λc d=>k c 'h')
theorem aP.live{fps}(h:aP G H gs fs fps):∀c∈fps.flatten,∃o,H c=!o/\Mv o:=by
 induction h with
 |nil=>simp_all
 |cons a b e=>
  intro c d;rw[q0e]at d;rcases q0b.mp d with d |d
  .exact a.live c d
  .exact e c d
def Lls.keep(h:Paired (uM G H) bs f)(k:∀c∈bs,H' c=H c)(g:bO G G'):Paired (uM G' H') bs f:=by
 induction h with
 |nil=>exact .nil
 |cons a b i=>let⟨vs,e,d⟩:=a;exact .cons #[vs,(k _ q0g).trans e,aK.mono g d] (i λc j=>k c (bK _ j))
def Lls.live(h:Paired (uM G H) bs g):∀c∈bs,∃o,H c=!o/\Mv o:=by
 induction h with
 |nil=>simp_all
 |cons a b i=>
  intro c f;let⟨vs,e,d⟩:=a;rcases q0c.mp f with rfl |f
  .exact#[_,e,trivial]
  .exact i c f
theorem cw.keep{fps}(h:cw G H C bs b fps)(k:∀c∈fps.flatten,H' c=H c)(g:bO G G'):cw G' H' C bs b fps:=by
 induction h with
 |nil=>exact .nil
 |cons o _ i=>let⟨e,gs,fps,rfl,j,l,f⟩:=o;exact .cons #[e,gs,fps,rfl,(k _ 'd').trans j,(k e 'd').trans l,f.keep (λc d=>k c (by simp[d])) g] (i λc d=>k c 'h')
theorem cw.live{fps}(h:cw G H C bs d fps):∀c∈fps.flatten,∃o,H c=!o/\Mv o:=by
 induction h with
 |nil=>simp_all
 |cons o _ e=>
  let⟨j,gs,fps,rfl,g,i,f⟩:=o;intro c b;rw[q0e]at b;rcases q0b.mp b with b |b
  .rcases q0c.mp b with rfl |b
   .exact#[_,g,trivial]
   .rcases q0c.mp b with rfl |b
    .exact#[_,i,trivial]
    .exact f.live c b
  .exact e c b
theorem gO.keep(h:gO G H a b fp)(k:∀c∈fp,H' c=H c)(g:bO G G'):gO G' H' a b fp:=by
 cases b with
 |l ds=>let⟨rfl,q,e,d⟩:=h;exact#[rfl,q,(k a 'd').trans e,aK.mono g d]
 |m x s=>let⟨rfl,d⟩:=h;exact#[rfl,d.keep (k a 'd') g]
 |o C fs=>let⟨n,gs,fps,rfl,i,p,f⟩:=h;exact#[n,gs,fps,rfl,(k a 'd').trans i,(k n 'd').trans p,f.keep (λc j=>k c (by simp[j])) g]
 |sd fs=>let⟨gs,fps,rfl,i,f⟩:=h;exact#[gs,fps,rfl,(k a 'd').trans i,f.keep (λc j=>k c (by simp[j])) g]
 |ll q=>let⟨bs,rfl,i,f⟩:=h;exact#[bs,rfl,(k a 'd').trans i,Lls.keep f (λc j=>k c (by simp[j])) g]
 |pr C fs d=>let⟨r,v,n,gs,fps,t,rfl,i,p,f,u⟩:=h;exact#[r,v,n,gs,fps,g _ _ t,rfl,(k r 'd').trans i,(k n 'd').trans p,f.keep (λc j=>k c (by simp[j])) g,DV.mono g u]
 |oo C w=>let⟨bs,fps,rfl,i,f⟩:=h;exact#[bs,fps,rfl,(k a 'd').trans i,cw.keep f (λc j=>k c (bK _ j)) g]
theorem gO.live(h:gO G H a b fp):∀c∈fp,∃o,H c=!o/\Mv o:=by
 cases b with
 |l ds=>let⟨rfl,k,e,d⟩:=h;intro c g;obtain rfl:=q0l.mp g;exact#[_,e,trivial]
 |m r n=>let⟨rfl,d⟩:=h;intro c g;obtain rfl:=q0l.mp g;exact d.live
 |o C fs=>
  let⟨p,gs,fps,rfl,i,j,f⟩:=h;intro c g;rcases q0c.mp g with rfl |g
  .exact#[_,i,trivial]
  .rcases q0c.mp g with rfl |g
   .exact#[_,j,trivial]
   .exact f.live c g
 |sd fs=>
  let⟨gs,fps,rfl,i,f⟩:=h;intro c g;rcases q0c.mp g with rfl |g
  .exact#[_,i,trivial]
  .exact f.live c g
 |ll k=>
  let⟨bs,rfl,i,f⟩:=h;intro c g;rcases q0c.mp g with rfl |g
  .exact#[_,i,trivial]
  .exact Lls.live f c g
 |pr C fs d=>
  let⟨s,v,p,gs,fps,t,rfl,i,j,f,u⟩:=h;intro c g;rcases q0c.mp g with rfl |g
  .exact#[_,i,trivial]
  .rcases q0c.mp g with rfl |g
   .exact#[_,j,trivial]
   .exact f.live c g
 |oo C q=>
  let⟨bs,fps,rfl,i,f⟩:=h;intro c g;rcases q0c.mp g with rfl |g
  .exact#[_,i,trivial]
  .exact cw.live f c g
theorem fr.keep{K}(h:fr K H O v c fp)(s:aR O H j H')(k:∀b∈fp,H' b=H b)(z:∀b o u,H b=!.frz o u->H' b=!.frz o u):fr K H' j v c fp:=by
 cases c with
 |dat d=>exact DV.mono s.hid h
 |own io b=>let⟨a,e,q⟩:=h;exact#[a,e,q.keep k s.hid]
 |scr ns=>let⟨a,f,q⟩:=h;exact#[a,f,q.mono λo u w=>z _ _ _ w]
 |exc c=>let⟨a,φ,f,g,q⟩:=h;exact#[a,φ,f,s.hid _ _ g,q]
 |vw b=>let⟨a,i,f,q⟩:=h;exact#[a,i,f,q.keep (λc l=>by let⟨o,g,_⟩:=q.live c l;rw[g];exact s.hid _ _ g) s.hid]
structure cH (K:Frag) (F:Fx) (H:Hp) (Y:St) (U:ag) (W:List (List Addr)):Prop where
 at_:∀(i:Nat) (c:af),U[i]? = !!c->∃v fp,Y[i]? = !!v/\W[i]? = !fp/\fr K H (W.flatten++F.O₀) v c fp
 nd:(W.flatten++F.O₀).Nodup
 kept:∀b o,b∉F.A₀->F.H₀ b=!o->H b=some o
 new:∀a∈W.flatten,a∈F.A₀\/F.H₀ a=none
 live:∀a∈W.flatten++F.O₀,∃o,H a=!o/\Mv o
 len:U.length=Y.length
 lw:W.length=U.length
 io:∀(i:Nat) (b:Bx),U[i]? = !!.own true b->Y[i]? = !some (.ref (F.I₀ i))
def aF(K:Frag)(F:Fx)(H:Hp)(Y:St)(U:ag)(O:List Addr):Prop:=∃W,cH K F H Y U W/\O=W.flatten++F.O₀
def iC{α:Type}{l:List α}{x y}(e:(l.set i x)[j]? = !y):(j=i/\y=x/\i<l.length)\/(j≠i/\l[j]? = !y):=by
 by_cases b:j=i
 .subst b;have a:j<l.length:=by
   have:=(q0a.mp e).1
   simp_all
  simp_all
 .rw[q0o (Ne.symm b)]at e;exact .inr #[b,e]
def gP{α:Type}{W:List (List α)}{fp}{a}(h:a∈(W.set i fp).flatten):a∈fp\/∃j l,j≠i/\W[j]? = !l/\a∈l:=by
 let⟨l,d,c⟩:=q16.mp h;let⟨j,f⟩:=q15 d;rcases iC f with⟨_,rfl,_⟩ |⟨b,e⟩
 .exact .inl c
 .exact .inr #[j,l,b,e,c]
def cD{α:Type}{W:List (List α)}{j:Nat}{l}{a}(h:W[j]? = !l)(b:a∈l):a∈W.flatten:=q16.mpr #[l,q0w h,b]
def mC{α:Type}:∀{W:List (List α)}{i j:Nat}{l m}{a},W.flatten.Nodup->W[i]? = !l->W[j]? = !m->i≠j->a∈l->a∉m:=λ{W i j l m a}=>by
 induction W generalizing i j with
 |nil=>intro _ h;simp at h
 |cons w W k=>
  intro nd b c g d f;cases i with
  |zero=>cases j with
   |zero=>exact g rfl
   |succ j=>
    have e:w=l:=by simpa using b
    subst e;rw[q0e]at nd;exact(q0f.mp nd).2.2 a d a (cD (j:=j) (by simpa using c) f) rfl
  |succ i=>cases j with
   |zero=>
    have e:w=m:=by simpa using c
    subst e;rw[q0e]at nd;exact(q0f.mp nd).2.2 a f a (cD (j:=i) (by simpa using b) d) rfl
   |succ j=>exact k (i:=i) (j:=j) (by rw[q0e]at nd;exact(q0f.mp nd).2.1) (by simpa using b) (by simpa using c) 'a' d f
def ri{α:Type}[DecidableEq α]:∀{W:List (List α)}{i}{fp O},(W.flatten++O).Nodup->fp.Nodup->(∀a∈fp,(∀j l,j≠i->W[j]? = !l->a∉l)/\a∉O)->((W.set i fp).flatten++O).Nodup:=λ{W i fp O}=>by
 induction W generalizing i with
 |nil=>intro h _ _;simpa using h
 |cons w W k1=>
 intro h f hd;cases i with
 |zero=>
  rw[q0N,q0e,q0m];rw[q0e,q0m]at h;refine q0f.mpr #[f,(q0f.mp h).2.1,λa d b c e=>?_];subst e;rcases q0b.mp c with c |c
  .let⟨l,g,k⟩:=q16.mp c;let⟨j,m⟩:=q15 g;exact(hd a d).1 (j+1) l 'a' (by simpa using m) k
  .exact(hd a d).2 c
 |succ i=>
  rw[q09,q0e,q0m];rw[q0e,q0m]at h;let⟨o,p,n⟩:=q0f.mp h;have q:=k1 (i:=i) p f λa d=>#[λj l m e=>(hd a d).1 (j+1) l 'a' (by simpa using e),(hd a d).2]
  refine q0f.mpr #[o,q,λa d b c e=>?_];subst e;rcases q0b.mp c with c |c
  .rcases gP c with c |⟨j,l,m,e,g⟩
   .exact(hd a c).1 0 w 'a' 'd' d
   .exact n a d a (bB _ (cD e g)) rfl
  .exact n a d a (bq _ c) rfl
section
variable{K:Frag}{F:Fx}{H H':Hp}{Y:St}{U:ag}{O O':List Addr}{W:List (List Addr)}
def cH.nofrz(st:cH K F H Y U W)(h:b∈W.flatten++F.O₀):H b≠!.frz o u:=λz=>by let⟨a,e,m⟩:=st.live b h;rw[z]at e;cases e;exact m
def cH.put(st:cH K F H Y U W)(t:i<U.length)
  (keep:∀j l b,j≠i->W[j]? = !l->b∈l->H' b=H b) (f:∀b∈F.O₀,H' b=H b) (frz:∀b o,b∉W.flatten++F.O₀->H b=!o->H' b=!o)
  (G:fp.Nodup) (ap:∀a∈fp,(∀j l,j≠i->W[j]? = !l->a∉l)/\a∉F.O₀) (new:∀a∈fp,a∈W.flatten\/H a=none) (x:∀a∈fp,∃o,H' a=!o/\Mv o)
  (C:aR (W.flatten++F.O₀) H ((W.set i fp).flatten++F.O₀) H'->fr K H' ((W.set i fp).flatten++F.O₀) v c fp) (y:∀b,c=.own true b->v=.ref (F.I₀ i)) :
  cH K F H' (Y.set i (!v)) (U.set i (!c)) (W.set i fp)/\aR (W.flatten++F.O₀) H ((W.set i fp).flatten++F.O₀) H':=by
 have k:aR (W.flatten++F.O₀) H ((W.set i fp).flatten++F.O₀) H':=#[frz,λa h=>by
  rcases q0b.mp h with h |h
  .rcases gP h with h |⟨j,l,_,e,n⟩
   .exact(new a h).imp (bB _) id
   .exact .inl (bB _ (cD e n))
  .exact .inl (bq _ h)]
 have D:∀b o u,H b=!.frz o u->H' b=!.frz o u:=λb o u e=>frz b _ (λz=>st.nofrz z e) e;have A:i<W.length:=by rw[st.lw];exact t
 refine#[#[λj d e=>?_,ri st.nd G ap,λb o r e=>?_,λa h=>?_,λa h=>?_,by rw[q0u,q0u,st.len],by rw[q0u,q0u,st.lw],λj b e=>?_],k]
 .rcases iC e with⟨rfl,g,_⟩ |⟨m,g⟩
  .cases g;exact#[v,fp,q0p (by rw[<-st.len];exact t),q0p A,C k]
  .let⟨w,l,s,p,E⟩:=st.at_ j d g;exact#[w,l,by rw[q0o (Ne.symm m)];exact s,by rw[q0o (Ne.symm m)];exact p,E.keep k (λb I=>keep j l b m p I) D]
 .have g:=st.kept b o r e
  by_cases B:b∈F.O₀
  .rw[f b B];exact g
  .refine frz b o (λz=>?_) g;rcases q0b.mp z with z |z
   .rcases st.new b z with q |q
    .exact r q
    .rw[q]at e;cases e
   .exact B z
 .rcases gP h with h |⟨j,l,_,e,n⟩
  .rcases new a h with q |q
   .exact st.new a q
   .by_cases r:a∈F.A₀
    .exact .inl r
    .refine .inr ?_;cases e:F.H₀ a with
     |none=>rfl
     |some o=>rw[st.kept a o r e]at q;cases q
  .exact st.new a (cD e n)
 .rcases q0b.mp h with h |h
  .rcases gP h with h |⟨j,l,m,e,n⟩
   .exact x a h
   .let⟨o,s,p⟩:=st.live a (bB _ (cD e n));exact#[o,by rw[keep j l a m e n];exact s,p]
  .let⟨o,s,p⟩:=st.live a (bq _ h);exact#[o,by rw[f a h];exact s,p]
 .rcases iC e with⟨rfl,g,_⟩ |⟨m,g⟩
  .rw[q0p (by rw[<-st.len];exact t),y b (q0x g).symm]
  .rw[q0o (Ne.symm m)];exact st.io j b g
def cH.grow(st:cH K F H Y U W)(s:bO H H'):cH K F H' Y U W where
 at_:=λi c e=>let⟨v,fp,h1,h2,h3⟩:=st.at_ i c e;#[v,fp,h1,h2,h3.keep (.same s) (λb hb=>by
  let⟨o,e1,_⟩:=st.live b (bB _ (cD h2 hb));rw[e1];exact s _ _ e1) λb o u e=>s _ _ e]
 nd:=st.nd
 kept:=λb o n e=>s b o (st.kept b o n e)
 new:=st.new
 live:=λa h=>(by let⟨o,e,m⟩:=st.live a h;exact#[o,s _ _ e,m])
 len:=st.len
 lw:=st.lw
 io:=st.io
theorem aF.grow(st:aF K F H Y U O)(s:bO H H'):aF K F H' Y U O:=(by let⟨W,h,e⟩:=st;exact#[W,h.grow s,e])
def aF.nofree(st:aF K F H Y U O):∀p,H p=none->p∉O:=λp a z=>by let⟨W,h,rfl⟩:=st;let⟨o,e,_⟩:=h.live p z;lia
def aF.lenE(st:aF K F H Y U O):U.length=Y.length:=(by let⟨_,h,_⟩:=st;exact h.len)
theorem aF.dat(st:aF K F H Y U O){i:Nat}(e:U[i]? = !!.dat d):∃v,Y[i]? = !!v/\DV (aB O H) v d:=by let⟨W,h,rfl⟩:=st;let⟨v,fp,a,c,b⟩:=h.at_ i _ e;exact#[v,a,b]
theorem aF.scr(st:aF K F H Y U O){i:Nat}(e:U[i]? = !!.scr b):∃a,Y[i]? = !!.ref a/\kC K H a b:=by let⟨W,h,rfl⟩:=st;let⟨v,fp,c,f,a,rfl,d⟩:=h.at_ i _ e;exact#[a,c,d]
theorem aF.set(st:aF K F H Y U O)(h:DV (aB O H) v d):aF K F H (Y.set i (!v)) (U.set i (!.dat d)) O:=by
 let⟨W,st,rfl⟩:=st;refine#[W,#[λj c e=>?_,st.nd,st.kept,st.new,st.live,by rw[q0u,q0u,st.len],by rw[q0u,st.lw],λj b e=>?_],rfl]
 rotate_left
 .rcases iC e with⟨rfl,a,_⟩ |⟨g,a⟩
  .cases a
  .rw[q0o (Ne.symm g)];exact st.io j b a
 rcases iC e with⟨rfl,a,f⟩ |⟨g,a⟩
 .cases a;obtain⟨fp,k⟩:∃fp,W[j]? = !fp:=#[W[j]'(by rw[st.lw];exact f),q0j _]
  exact#[v,fp,q0p (by rw[<-st.len];exact f),k,h]
 .let⟨w,l,m,n,o⟩:=st.at_ j c a;exact#[w,l,by rw[q0o (Ne.symm g)];exact m,n,o]
def aF.box(st:aF K F H Y U O)(e:U[i]? = !!.own io b):∃a fp,Y[i]? = !!.ref a/\gO (aB O H) H a b fp/\(∀c∈fp,c∈O)/\
  ∀H'  t  f,(∀c o,c∉fp->H c=!o->H' c=!o)->f.Nodup->(∀c∈f,c∈fp\/H c=none)->(∀G,(∀O',aR O H O' H'->G=aB O' H'->(∀c∈f,c∈O')->bO (aB O H) G/\gO G H' a t f))->
   ∃O',aF K F H' Y (U.set i (!.own io t)) O'/\aR O H O' H'/\(∀c∈O',c∈f\/c∈O):=by
 let⟨W,st,rfl⟩:=st;let⟨v,fp,u,m,a,rfl,E⟩:=st.at_ i _ e;have B:i<U.length:=(q0a.mp e).1;have w:i<W.length:=by rw[st.lw];exact B
 refine#[a,fp,u,E,λc d=>bB _ (cD m d),λH' t f keep Q x R=>?_];have p:W.flatten.Nodup:=(q0f.mp st.nd).1;have C:∀c∈fp,c∉F.O₀:=λc d z=>(q0f.mp st.nd).2.2 c (cD m d) c z rfl;have I:∀j l c,j≠i->W[j]? = !l->c∈l->H' c=H c:=λj l c n k d=>by let⟨o,g,_⟩:=st.live c (bB _ (cD k d));rw[g];exact keep c o (λz=>mC p k m n d z) g
 have J:∀c∈F.O₀,H' c=H c:=λc d=>by let⟨o,g,_⟩:=st.live c (bq _ d);rw[g];exact keep c o (λz=>C c z d) g
 have ap:∀c∈f,(∀j l,j≠i->W[j]? = !l->c∉l)/\c∉F.O₀:=λc d=>by
  rcases x c d with q |q
  .exact#[λj l n k z=>mC p m k (Ne.symm n) q z,C c q]
  .refine#[λj l _ k z=>?_,λz=>?_]
   .let⟨o,g,_⟩:=st.live c (bB _ (cD k z));rw[q]at g;cases g
   .let⟨o,g,_⟩:=st.live c (bq _ z);rw[q]at g;cases g
 have frz:∀c o,c∉W.flatten++F.O₀->H c=!o->H' c=!o:=λc o d L=>keep c o (λz=>d (bB _ (cD m z))) L;have y:aR (W.flatten++F.O₀) H ((W.set i f).flatten++F.O₀) H':=#[frz,λc h=>by
  rcases q0b.mp h with h |h
  .rcases gP h with h |⟨j,l,_,k,A⟩
   .exact(x c h).imp (λz=>bB _ (cD m z)) id
   .exact .inl (bB _ (cD k A))
  .exact .inl (bq _ h)]
 have r:∀c∈f,c∈(W.set i f).flatten++F.O₀:=λc d=>bB _ (cD (j:=i) (q0p w) d);have s:=(R _ _ y rfl r).2;let⟨D,M⟩:=st.put (H':=H') (i:=i) (v:=.ref a) (c:=.own io t) (fp:=f) B I J frz Q ap (λc d=>(x c d).imp (λz=>cD m z) id) (λc d=>s.live c d) (λ_=>#[a,rfl,s]) (λS z=>by cases z;have:=st.io i b e;rw[u]at this;exact(q0x (q0x this)));have N:Y.set i (!.ref a)=Y:=by
  apply q01;intro j
  by_cases n:j=i
  .subst n;rw[q0p (q0a.mp u).1,u]
  .rw[q0o (Ne.symm n)]
 rw[N]at D;refine#[_,#[_,D,rfl],M,λc d=>?_];rcases q0b.mp d with d |d
 .rcases gP d with d |⟨j,l,_,k,A⟩
  .exact .inl d
  .exact .inr (bB _ (cD k A))
 .exact .inr (bq _ d)
def aF.freeze(st:aF K F H Y U O)(e:U[i]? = !!.own false (.l b)) :
  ∃v O',Y[i]? = !!v/\aF K F H Y (U.set i (!.dat (.list b))) O'/\aR O H O' H/\DV (aB O' H) v (.list b):=by
 let⟨W,st,rfl⟩:=st;let⟨v,fp,f,m,a,rfl,rfl,y,q,r⟩:=st.at_ i _ e;have t:i<U.length:=(q0a.mp e).1;have g:W.flatten.Nodup:=(q0f.mp st.nd).1;have k:a∉(W.set i []).flatten++F.O₀:=λz=>by
  rcases q0b.mp z with z |z
  .rcases gP z with z |⟨j,l,d,u,w⟩
   .cases z
   .exact mC g m u (Ne.symm d) q0g w
  .exact(q0f.mp st.nd).2.2 a (cD m q0g) a z rfl
 have n:aR (W.flatten++F.O₀) H ((W.set i []).flatten++F.O₀) H->DV (aB ((W.set i []).flatten++F.O₀) H) (.ref a) (.list b):=λs=>.lst (jc q k) (aK.mono s.hid r);let⟨o,p⟩:=st.put (H':=H) (i:=i) (v:=.ref a) (c:=.dat (.list b)) (fp:=[]) t (λ_ _ _ _ _ _=>rfl) (λ_ _=>rfl) (λ_ _ _ e=>e) q1k (λa h=>by cases h) (λa h=>by cases h) (λa h=>by cases h) (λs=>n s) (λ_ z=>by cases z);have x:Y.set i (!.ref a)=Y:=by
  apply q01;intro j
  by_cases d:j=i
  .subst d;rw[q0p (q0a.mp f).1,f]
  .rw[q0o (Ne.symm d)]
 rw[x]at o;exact#[_,_,f,#[_,o,rfl],p,n p]
end
abbrev DT:=ag->(PyData->ag->Prop)->Prop
def Mn(t:DT):Prop:=∀U Q a,(∀d b,Q d b->a d b)->t U Q->t U a
def iD(K:Frag)(F:Fx)(t:DT):TE:=λY H Q=>∃U O,aF K F H Y U O/\t U λd c=>∀v a b,aF K F a Y c b->aR O H b a->DV (aB b a) v d->Q v a
structure DE (X:Cx) (F:Fx) (e:Expr) (t:DT):Prop where
 mn:Mn t
 pe:PE X e (iD X.K F t)
def _root_.L2.PE.imp(h:PE X e t)(k:∀Y H Q,t' Y H Q->t Y H Q):PE X e t':=λa s Y H Q I q=>h a s Y H Q I (k Y H Q q)
def _root_.L2.PT.imp(h:PT X e t)(k:∀Y H Q,t' Y H Q->t Y H Q):PT X e t':=λa s Y H Q I q=>h a s Y H Q I (k Y H Q q)
def _root_.L2.PS.imp(h:PS X e t)(k:∀D Y H,t' D Y H->t D Y H):PS X e t':=λa s Y H D I q=>h a s Y H D I (k D Y H q)
def _root_.L2.PSs.imp(h:PSs X e t)(k:∀D Y H,t' D Y H->t D Y H):PSs X e t':=λa s Y H D I q=>h a s Y H D I (k D Y H q)
def dC(d:PyData):DT:=λU Q=>Q d U
def dV(i:Nat):DT:=λU Q=>(∃d,U[i]? = !!.dat d/\Q d U)\/∃c,U[i]? = !!.own false (.l c)/\Q (.list c) (U.set i (!.dat (.list c)))
def rm(h:PE X e (tC v))(hd:∀H,DV H v d):DE X F e (dC d):=
 #[λ_ _ _ h q=>h _ _ q,h.imp λY H Q c=>by let⟨U,O,st,q⟩:=c;exact q v H O st .refl (hd _)]
def aq:DE X F (.Constant (.int i) j pos) (dC (.int i)):=rm nQ λ_=>.int i
def gQ:DE X F (.Constant (.bool i) j pos) (dC (.bool i)):=rm MR λ_=>.bl i
def dq:DE X F (.Constant .none j pos) (dC .none):=rm ur λ_=>.non
def bM:DE X F (.Constant (.str x) j pos) (dC (.str x)):=rm nR λ_=>.str x
def Et(i)(h:PE X (.Name x pos) (bQ i)):DE X F (.Name x pos) (dV i):=
 #[λ_ _ _ k q=>q.imp (λc=>by let⟨d,e,q⟩:=c;exact#[d,e,k _ _ q]) λf=>by let⟨d,e,q⟩:=f;exact#[d,e,k _ _ q],h.imp λY H Q g=>by
  let⟨U,O,st,q⟩:=g;rcases q with⟨d,e,q⟩ |⟨ds,e,q⟩
  .let⟨v,j,l⟩:=st.dat e;exact#[v,j,q v H O st .refl l]
  .let⟨v,m,j,l,n,o⟩:=st.freeze e;exact#[v,j,q v H m l n o]]
abbrev D2:=PyData->PyData->(PyData->Prop)->Prop
def dW(f:D2)(ta tb:DT):DT:=λU Q=>ta U λx c=>tb c λy g=>f x y λd=>Q d g
structure gB (r:R2) (f:D2):Prop where
 mn:∀x y Q Q',(∀d,Q d->Q' d)->f x y Q->f x y Q'
 ok:∀(O:List Addr) (H:Hp) (u v:V) (x y:PyData) (Q:VK),(∀p,H p=none->p∉O)->DV (aB O H) u x->DV (aB O H) v y->f x y (λd=>∀w H',bO H H'->DV (aB O H') w d->Q w H')->r u v H Q
def uN(o:gB r f)(l:Mn ta)(B:Mn tb){K}:∀Y H Q,iD K F (dW f ta tb) Y H Q->qR r (iD K F ta) (iD K F tb) Y H Q:=λY H Q c=>by let⟨U,O,st,q⟩:=c;refine#[U,O,st,l _ _ _ (λx m q1 v1 C n h p s=>?_) q];refine#[m,n,h,B _ _ _ (λy D q2 t u i g j v=>?_) q1];refine o.ok i u v1 t x y Q g.nofree (DV.mono j.hid s) v (o.mn _ _ _ _ (λd q3 w z k A=>?_) q2);exact q3 w z i (g.grow k) (p.trans (j.trans (.same k))) A
def rn(o:gB r f)(c:Mn ta)(d:Mn tb):Mn (dW f ta tb):=λ_ _ _ k q=>c _ _ _ (λ_ _ q1=>d _ _ _ (λ_ _ q2=>o.mn _ _ _ _ (λ_ q3=>k _ _ q3) q2) q1) q
def mD(g:dF X (binaryOp op) r)(o:gB r f)(c:DE X F a ta)(d:DE X F b tb):DE X F (.BinOp a op b pos) (dW f ta tb):=
 #[rn o c.mn d.mn,(CS g c.pe d.pe).imp (uN o c.mn d.mn)]
def nZ(h:dF X (compareOp op) r)(o:gB r f)(c:DE X F a ta)(d:DE X F b tb)(g:behindInMarks op b=false):DE X F (.Compare a [op] [b] pos) (dW f ta tb):=
 #[rn o c.mn d.mn,(Oc h c.pe d.pe g).imp (uN o c.mn d.mn)]
def Qw(g:kz X r)(o:gB r f)(c:DE X F a ta)(d:DE X F b tb)(h:nU b):DE X F (.Subscript a b pos) (dW f ta tb):=
 #[rn o c.mn d.mn,(qW g c.pe d.pe h).imp (uN o c.mn d.mn)]
def fI(C:Int->Int->Prop)(g:Int->Int->PyData):D2:=λx y Q=>∃i j,x=.int i/\y=.int j/\C i j/\Q (g i j)
def yT(hg:∀i j H,DV H (g i j) (g' i j)):gB (rI C g) (fI C g') where
 mn:=λ_ _ _ _ k zq1a=>by let⟨i,j,e1,e2,c,q⟩:=zq1a;exact#[i,j,e1,e2,c,k _ q]
 ok:=λO H u v x y Q hO h1 h2 zq2a=>by let⟨i,j,e1,e2,c,q⟩:=zq2a;subst e1 e2;exact#[i,j,h1.int_inv,h2.int_inv,c,q _ H (λ_ _ h=>h) (hg i j _)]
def lA(hg:∀i j H,DV H (g i j) (g' i j)):gB (jL g) (fI (λ_ _=>True) g') where
 mn:=λ_ _ _ _ k zq1a=>by let⟨i,j,e1,e2,c,q⟩:=zq1a;exact#[i,j,e1,e2,c,k _ q]
 ok:=λO H u v x y Q hO h1 h2 zq2a=>by let⟨i,j,e1,e2,_,q⟩:=zq2a;subst e1 e2;exact#[i,j,h1.int_inv,h2.int_inv,q _ H (λ_ _ h=>h) (hg i j _)]
def ro(neg:Bool):D2:=λx y Q=>SeqAt.shaped x=true/\SeqAt.shaped y=true/\Q (.bool (PyData.eqv x y != neg))
def yU:gB (yR neg) (ro neg) where
 mn:=λ_ _ _ _ k zq1a=>by let⟨e1,e2,q⟩:=zq1a;exact#[e1,e2,k _ q]
 ok:=λO H u v x y Q hO h1 h2 zq2a=>by let⟨e1,e2,q⟩:=zq2a;exact#[x,y,DV.mono kA h1,DV.mono kA h2,e1,e2,q _ H (λ_ _ h=>h) (.bl _)]
@[simp]noncomputable def bR:PyData->Bool
 |.none=>true
 |_=>false
def uO:D2:=λx y Q=>y=.none/\Q (.bool (bR x))
def yV:D2:=λx y Q=>y=.none/\Q (.bool (not (bR x)))
def Eu(h:DV H v d):decide (v=.non)=bR d:=by cases h<;>first |rfl |lia
def Ev:gB (λx y H Q=>y=.non/\Q (.bl (decide (x=.non))) H) uO where
 mn:=λ_ _ _ _ k zq1a=>by let⟨e,q⟩:=zq1a;exact#[e,k _ q]
 ok:=λO H u v x y Q hO h1 h2 zq2a=>by let⟨e,q⟩:=zq2a;subst e;exact#[h2.non_inv,by rw[Eu h1];exact q _ H (λ_ _ h=>h) (.bl _)]
def Ew:gB (λx y H Q=>y=.non/\Q (.bl (not (decide (x=.non)))) H) yV where
 mn:=λ_ _ _ _ k zq1a=>by let⟨e,q⟩:=zq1a;exact#[e,k _ q]
 ok:=λO H u v x y Q hO h1 h2 zq2a=>by let⟨e,q⟩:=zq2a;subst e;exact#[h2.non_inv,by rw[Eu h1];exact q _ H (λ_ _ h=>h) (.bl _)]
def Ex:D2:=λx y Q=>∃c i d,x=.tuple c/\y=.int i/\bT c i=!d/\Q d
def Ey:D2:=λx y Q=>∃c i d,x=.list c/\y=.int i/\bT c i=!d/\Q d
def Ez(h:aK H vs c)(e:bT c i=!d):∃v,bT vs i=!v/\DV H v d:=by
 unfold bT at e ⊢;rw[h.length];cases q:dR c.length i with
 |none=>simp_all
 |some j=>rw[q]at e;exact h.get e
def EA{K}:gB (yx K) Ex where
 mn:=λ_ _ _ _ k zq1a=>by let⟨ds,i,d,e1,e2,e3,q⟩:=zq1a;exact#[ds,i,d,e1,e2,e3,k _ q]
 ok:=λO H u v x y Q hO h1 h2 zq2a=>by let⟨ds,i,d,e1,e2,e3,q⟩:=zq2a;subst e1 e2;let⟨a,xs,rfl,ha,hd⟩:=h1.tup_inv;let⟨w,ew,hw⟩:=Ez hd e3;exact#[a,xs,i,w,rfl,h2.int_inv,.inl (iB ha).1,ew,q w H (λ_ _ h=>h) hw]
def EB{K}:gB (yw K) Ey where
 mn:=λ_ _ _ _ k zq1a=>by let⟨ds,i,d,e1,e2,e3,q⟩:=zq1a;exact#[ds,i,d,e1,e2,e3,k _ q]
 ok:=λO H u v x y Q hO h1 h2 zq2a=>by let⟨ds,i,d,e1,e2,e3,q⟩:=zq2a;subst e1 e2;let⟨a,xs,rfl,ha,hd⟩:=h1.lst_inv;let⟨w,ew,hw⟩:=Ez hd e3;exact#[a,xs,i,w,rfl,h2.int_inv,.of (cZ ha).1,ew,q w H (λ_ _ h=>h) hw]
def lB(f:H p=none)(g:p∉O)(h:aK (aB O H) c d):DV (aB O (aM H p (.lst c))) (.ref p) (.list d):=
 .lst (jc cI g) (aK.mono (kB (cp f)) h)
def kD(f:H p=none)(g:p∉O)(h:aK (aB O H) c d):DV (aB O (aM H p (.tup c))) (.ref p) (.tuple d):=
 .tup (.inl (jc cI g)) (aK.mono (kB (cp f)) h)
def yW:D2:=λx y Q=>∃d c,x=.list d/\y=.list c/\d.length+c.length<=sizeLine/\Q (.list (d++c))
def Qx:gB DY yW where
 mn:=λ_ _ _ _ k zq1a=>by let⟨ds,es,e1,e2,e3,q⟩:=zq1a;exact#[ds,es,e1,e2,e3,k _ q]
 ok:=λO H u v x y Q hO h1 h2 zq2a=>by let⟨ds,es,e1,e2,e3,q⟩:=zq2a;subst e1 e2;let⟨a,xs,rfl,ha,hd⟩:=h1.lst_inv;let⟨b,ys,rfl,hb,he⟩:=h2.lst_inv;refine#[a,b,xs,ys,rfl,rfl,(cZ ha).1,(cZ hb).1,by rw[hd.length,he.length];exact e3,λp hp=>q _ _ (cp hp) (lB hp (hO p hp) (hd.append he))]
def yX:D2:=λx y Q=>∃d c,x=.tuple d/\y=.tuple c/\d.length+c.length<=sizeLine/\Q (.tuple (d++c))
def mE{B:Prop}(h:if true=true then A else B):A:=by simp_all
def mF{B:Prop}(h:if false=true then A else B):B:=by lia
abbrev eV:=ag->(List PyData->ag->Prop)->Prop
def uP(t:eV):Prop:=∀U Q a,(∀d b,Q d b->a d b)->t U Q->t U a
def ED(K:Frag)(F:Fx)(t:eV):TA:=λY H Q=>∃U O,aF K F H Y U O/\t U λd c=>∀vs a b,aF K F a Y c b->aR O H b a->aK (aB b a) vs d->Q vs a
structure DA (X:Cx) (F:Fx) (es:List Expr) (t:eV):Prop where
 mn:uP t
 pa:PA X es (ED X.K F t)
def _root_.L2.PA.imp(h:PA X e t)(k:∀Y H Q,t' Y H Q->t Y H Q):PA X e t':=λpos a s Y H Q I q=>h pos a s Y H Q I (k Y H Q q)
def Qy:eV:=λU Q=>Q [] U
def Qz(ta:DT)(h:eV):eV:=λU Q=>ta U λd f=>h f λi g=>Q (d::i) g
def QA:DA X F [] Qy:=#[λ_ _ _ k q=>k _ _ q,eK.imp λY H Q d=>by let⟨U,O,st,q⟩:=d;exact q [] H O st .refl .nil]
def QB(g:DE X F e ta)(h:DA X F es tA)(u:autoParam (qSa X e es) Zq._auto_1):DA X F (e::es) (Qz ta tA):=
 #[λ_ _ _ k q=>g.mn _ _ _ (λ_ _ q1=>h.mn _ _ _ (λ_ _ q2=>k _ _ q2) q1) q,(dQ g.pe h.pa u).imp λY H Q f=>by let⟨U,O,st,q⟩:=f;exact 
  #[U,O,st,g.mn _ _ _ (λd m q1 v w n i o p=>#[m,n,i,h.mn _ _ _ (λy x q2 vs r s j l t=>q2 (v::vs) r s j (o.trans l) (.cons (DV.mono l.hid p) t)) q1]) q]]
def QD(t:eV):DT:=λU Q=>t U λd f=>d.length<=sizeLine/\Q (.tuple d) f
def QE(t:eV):DT:=λU Q=>t U λd f=>d.length<=sizeLine/\Q (.list d) f
def QF(h:DA X F es tA):DE X F (.Tuple es j pos) (QD tA):=
 #[λ_ _ _ k q=>h.mn _ _ _ (λ_ _ q1=>#[q1.1,k _ _ q1.2]) q,(qU h.pa).imp λY H Q d=>by let⟨U,O,st,q⟩:=d;exact 
  #[U,O,st,h.mn _ _ _ (λr n q1 vs o l f m i=>#[by rw[i.length];exact q1.1,λp g=>q1.2 _ _ l (f.grow (cp g)) (m.trans (.same (cp g))) (kD g (f.nofree p g) i)]) q]]
def QG(h:DA X F es tA):DE X F (.List es pos) (QE tA):=
 #[λ_ _ _ k q=>h.mn _ _ _ (λ_ _ q1=>#[q1.1,k _ _ q1.2]) q,(uC h.pa).imp λY H Q d=>by let⟨U,O,st,q⟩:=d;exact 
  #[U,O,st,h.mn _ _ _ (λo m q1 vs n j f l i=>#[by rw[i.length];exact q1.1,λp g=>q1.2 _ _ j (f.grow (cp g)) (l.trans (.same (cp g))) (lB g (f.nofree p g) i)]) q]]
def QH(ta:DT):DT:=λU Q=>ta U λd f=>∃i,d=.int i/\Q (.int (-i)) f
def QI(j:DE X F a ta):DE X F (.UnaryOp .USub a pos) (QH ta):=
 #[λ_ _ _ k q=>j.mn _ _ _ (λ_ _ f=>by let⟨i,e,q⟩:=f;exact#[i,e,k _ _ q]) q,(CT (Oa λ_ _ _ _ _ q=>neg_int q) j.pe).imp λY H Q g=>by let⟨U,O,st,q⟩:=g;exact 
  #[U,O,st,j.mn _ _ _ (λd r h v m n l o p=>by let⟨i,e,q1⟩:=h;subst e;exact#[i,p.int_inv,q1 _ m n l o (.int _)]) q]]
def QJ(ta:DT):DT:=λU Q=>ta U λd f=>∃b,d=.bool b/\Q (.bool (not b)) f
def QK(j:DE X F a ta):DE X F (.UnaryOp .Not a pos) (QJ ta):=
 #[λ_ _ _ k q=>j.mn _ _ _ (λ_ _ f=>by let⟨i,e,q⟩:=f;exact#[i,e,k _ _ q]) q,(Nj j.pe).imp λY H Q g=>by let⟨U,O,st,q⟩:=g;exact 
  #[U,O,st,j.mn _ _ _ (λd r h v m n l o p=>by let⟨i,e,q1⟩:=h;subst e;exact#[i,p.bl_inv,q1 _ m n l o (.bl _)]) q]]
def QL(ta tb:DT):DT:=λU Q=>ta U λd f=>∃b,d=.bool b/\if b=true then tb f Q else Q (.bool false) f
def QM(ta tb:DT):DT:=λU Q=>ta U λd f=>∃b,d=.bool b/\if b=true then Q (.bool true) f else tb f Q
def QO(l:DE X F a ta)(n:DE X F (.BoolOp .And (b::rest) pos) tb):DE X F (.BoolOp .And (a::b::rest) pos) (QL ta tb):=
 #[λ_ _ _ k q=>l.mn _ _ _ (λ_ _ f=>by let⟨i,e,q⟩:=f;exact#[i,e,by cases i<;>first |exact k _ _ q |exact n.mn _ _ _ k q]) q,(Nh l.pe n.pe).imp λY H Q g=>by let⟨U,O,st,q⟩:=g;exact 
  #[U,O,st,l.mn _ _ _ (λd r h v s o j p t=>by
   let⟨i,e,q1⟩:=h;subst e;refine#[i,t.bl_inv,?_];cases i with
   |true=>exact fQ #[r,o,j,n.mn _ _ _ (λd A q2 w u x m y z=>q2 w u x m (p.trans y) z) (mE q1)]
   |false=>exact fP (mF q1 _ s o j p (.bl _))) q]]
def QP(l:DE X F a ta)(n:DE X F (.BoolOp .Or (b::rest) pos) tb):DE X F (.BoolOp .Or (a::b::rest) pos) (QM ta tb):=
 #[λ_ _ _ k q=>l.mn _ _ _ (λ_ _ f=>by let⟨i,e,q⟩:=f;exact#[i,e,by cases i<;>first |exact k _ _ q |exact n.mn _ _ _ k q]) q,(Ni l.pe n.pe).imp λY H Q g=>by let⟨U,O,st,q⟩:=g;exact 
  #[U,O,st,l.mn _ _ _ (λd r h v s o j p t=>by
   let⟨i,e,q1⟩:=h;subst e;refine#[i,t.bl_inv,?_];cases i with
   |false=>exact fP #[r,o,j,n.mn _ _ _ (λd A q2 w u x m y z=>q2 w u x m (p.trans y) z) (mF q1)]
   |true=>exact fQ (mE q1 _ s o j p (.bl _))) q]]
def yY(p f:Int->Int->Bool)(ta tb tc:DT):DT:=λU Q=>ta U λx g=>tb g λy d=>∃i j,x=.int i/\y=.int j/\if p i j=true then tc d (λz h=>∃k,z=.int k/\Q (.bool (f j k)) h) else Q (.bool false) d
def QQ(ho:dF X (compareOp op) (jL λi j=>.bl (p i j)))(r:dF X (compareOp d) (jL λi j=>.bl (I i j)))(s:DE X F a ta)(G:DE X F b tb)(t:DE X F c tc)
  (R:autoParam (lastMarks [op,d] [b,c]=false) Zqc._auto_1):DE X F (.Compare a [op,d] [b,c] pos) (yY p I ta tb tc):=
 #[λ_ _ _ k q=>s.mn _ _ _ (λ_ _ q1=>G.mn _ _ _ (λ_ _ ⟨i,j,A,B,q2⟩=>#[i,j,A,B,by
   by_cases h:p i j=true
   .rw[if_pos h]at q2 ⊢;exact t.mn _ _ _ (λ_ _ f=>by let⟨l,e,q3⟩:=f;exact#[l,e,k _ _ q3]) q2
   .rw[if_neg h]at q2 ⊢;exact k _ _ q2]) q1) q,
  (Of ho r s.pe G.pe t.pe R).imp λY H Q g=>by let⟨U,O,st,q⟩:=g;exact 
  #[U,O,st,s.mn _ _ _ (λx S q1 v H1 T C J Z=>#[S,T,C,G.mn _ _ _ (λy U2 m w H2 L n D M=>by
   let⟨i,j,A,B,q2⟩:=m;subst A B;refine#[i,j,(DV.mono D.hid Z).int_inv,M.int_inv,p i j,rfl,?_]
   by_cases h:p i j=true
   .rw[if_pos h]at q2 ⊢;exact#[U2,L,n,t.mn _ _ _ (λz U3 o u H3 O3 E N d3=>by let⟨l,e,q3⟩:=o;subst e;exact#[j,l,(DV.mono N.hid M).int_inv,d3.int_inv,q3 _ H3 O3 E (J.trans (D.trans N)) (.bl _)]) q2]
   .rw[if_neg h]at q2 ⊢;exact q2 _ H2 L n (J.trans D) (.bl _)) q1]) q]]
abbrev dt:=ag->(Bool->ag->Prop)->Prop
def jS(t:dt):Prop:=∀U Q a,(∀d b,Q d b->a d b)->t U Q->t U a
def kE(K:Frag)(F:Fx)(t:dt):TT:=λY H Q=>∃U O,aF K F H Y U O/\t U λb d=>∀a c,aF K F a Y d c->aR O H c a->Q b a
structure DB (X:Cx) (F:Fx) (e:Expr) (t:dt):Prop where
 mn:jS t
 pt:PT X e (kE X.K F t)
def ic(ta:DT):dt:=λU Q=>ta U λd f=>∃b,d=.bool b/\Q b f
def yZ(h:Mn ta):jS (ic ta):=λ_ _ _ k q=>h _ _ _ (λ_ _ d=>by let⟨b,e,q1⟩:=d;exact#[b,e,k _ _ q1]) q
def za{K}(h:Mn ta):∀Y H Q,kE K F (ic ta) Y H Q->iD K F ta Y H λx j=>∃k,x=.bl k/\Q k j:=λY H Q f=>by let⟨U,O,st,q⟩:=f;exact 
 #[U,O,st,h _ _ _ (λd p g v l m i n o=>by let⟨b,e,q1⟩:=g;subst e;exact#[b,o.bl_inv,q1 l m i n]) q]
def dH(h:DE X F e ta)(d:autoParam (∀whole,isTrue e X.env whole=(do let v <-whole;standAt e.pos;holding [v] (truthy v))) Zs._auto_1):DB X F e (ic ta):=#[yZ h.mn,(MT h.pe d).imp (za h.mn)]
def oa(i:dF X (compareOp op) r)(o:gB r f)(d:DE X F a ta)(g:DE X F b tb)(h:behindInMarks op b=false):DB X F (.Compare a [op] [b] pos) (ic (dW f ta tb)):=
 #[yZ (rn o d.mn g.mn),(yt i d.pe g.pe h).imp λY H Q q=>uN o d.mn g.mn Y H _ (za (rn o d.mn g.mn) Y H Q q)]
def QR(t:dt):dt:=λU Q=>t U λb d=>Q (not b) d
def QS(h:DB X F a tA):DB X F (.UnaryOp .Not a pos) (QR tA):=#[λ_ _ _ k q=>h.mn _ _ _ (λ_ _ q=>k _ _ q) q,(Nb h.pt).imp λY H Q d=>by let⟨U,O,st,q⟩:=d;exact#[U,O,st,h.mn _ _ _ (λb l q1 g i f j=>q1 g i f j) q]]
structure DW (X:Cx) (F:Fx) (e:Expr) (t:dt):Prop where
 mn:jS t
 pw:PW X e (kE X.K F t)
def _root_.L2.PW.imp(h:PW X e t)(k:∀Y H Q,t' Y H Q->t Y H Q):PW X e t':=λf d s Y H Q I q=>h f d s Y H Q I (k Y H Q q)
def DW.db(h:DW X F e t):DB X F e t:=#[h.mn,h.pw.pt]
def QT(t u:dt):dt:=λU Q=>t U λb d=>if b=true then u d Q else Q false d
def QU(t u:dt):dt:=λU Q=>t U λb d=>if b=true then Q true d else u d Q
def QX{tB:dt}(g:DB X F a tA)(i:DW X F (.BoolOp .And (b::rest) pos) tB):DW X F (.BoolOp .And (a::b::rest) pos) (QT tA tB):=
 #[λ_ _ _ k q=>g.mn _ _ _ (λb _ q=>by cases b<;>first |exact k _ _ q |exact i.mn _ _ _ k q) q,(MZ g.pt i.pw).imp λY H Q d=>by let⟨U,O,st,q⟩:=d;exact 
  #[U,O,st,g.mn _ _ _ (λb m q1 n j f l=>by
   cases b with
   |true=>exact fQ #[m,j,f,i.mn _ _ _ (λb s q2 o p h r=>q2 o p h (l.trans r)) (mE q1)]
   |false=>exact fP (mF q1 n j f l)) q]]
def QY{tB:dt}(g:DB X F a tA)(i:DW X F (.BoolOp .Or (b::rest) pos) tB):DW X F (.BoolOp .Or (a::b::rest) pos) (QU tA tB):=
 #[λ_ _ _ k q=>g.mn _ _ _ (λb _ q=>by cases b<;>first |exact k _ _ q |exact i.mn _ _ _ k q) q,(Na g.pt i.pw).imp λY H Q d=>by let⟨U,O,st,q⟩:=d;exact 
  #[U,O,st,g.mn _ _ _ (λb m q1 n j f l=>by
   cases b with
   |false=>exact fP #[m,j,f,i.mn _ _ _ (λb s q2 o p h r=>q2 o p h (l.trans r)) (mF q1)]
   |true=>exact fQ (mE q1 n j f l)) q]]
def QZ(t:dt)(ta tb:DT):DT:=λU Q=>t U λb d=>if b=true then ta d Q else tb d Q
def Ra(i:DB X F c tA)(j:DE X F a ta)(p:DE X F b tb):DE X F (.IfExp c a b pos) (QZ tA ta tb):=
 #[λ_ _ _ k q=>i.mn _ _ _ (λb _ q=>by cases b<;>first |exact j.mn _ _ _ k q |exact p.mn _ _ _ k q) q,(Nl i.pt j.pe p.pe).imp λY H Q g=>by let⟨U,O,st,q⟩:=g;exact 
  #[U,O,st,i.mn _ _ _ (λb r q1 w s h t=>by
   cases b with
   |true=>exact fQ #[r,s,h,j.mn _ _ _ (λd u q2 v l m f n o=>q2 v l m f (t.trans n) o) (mE q1)]
   |false=>exact fP #[r,s,h,p.mn _ _ _ (λd u q2 v l m f n o=>q2 v l m f (t.trans n) o) (mF q1)]) q]]
abbrev DN:=List PyData->(PyData->Prop)->Prop
structure jT (r:List V->Hp->VK->Prop) (f:DN):Prop where
 mn:∀xs Q Q',(∀d,Q d->Q' d)->f xs Q->f xs Q'
 ok:∀(O:List Addr) (H:Hp) (vs:List V) (xs:List PyData) (Q:VK),(∀p,H p=none->p∉O)->aK (aB O H) vs xs->f xs (λd=>∀w H',bO H H'->DV (aB O H') w d->Q w H')->r vs H Q
def rp(f:DN)(t:eV):DT:=λU Q=>t U λb a=>f b λd=>Q d a
def EE{K}(o:jT r f)(h:uP tA):∀Y H Q,iD K F (rp f tA) Y H Q->yv r (ED K F tA) Y H Q:=λY H Q a=>by let⟨U,O,st,q⟩:=a;exact 
 #[U,O,st,h _ _ _ (λn s q1 vs i c b j k=>o.ok c i vs n Q b.nofree k (o.mn _ _ _ (λd q2 w l g m=>q2 w l c (b.grow g) (j.trans (.same g)) m) q1)) q]
def EF(o:jT r f)(h:uP tA):Mn (rp f tA):=λ_ _ _ k q=>h _ _ _ (λ_ _ q1=>o.mn _ _ _ (λ_ q2=>k _ _ q2) q1) q
def gm{pos:Pos}{p:Pos}{id:String}(d:hU X (.builtin id) r)(o:jT r f)(g:Gl X x)(h:X.mg x=none)(k:bootBuiltins x=!.builtin id)(a:DA X F (e::es) tA)(i:autoParam (x≠"__name__") Zr._auto_1)(b:autoParam ((x==("__debug__":Str))=false) Zr._auto_1)
  (j:autoParam (qSa X e es) Zq._auto_1) (c:autoParam (qSb X pos es) Zq._auto_1):DE X F (.Call (.Name x p) (e::es) [] pos) (rp f tA):=
 #[EF o a.mn,(pH d g h k a.pa i b j c).imp (EE o a.mn)]
def uQ{pos:Pos}{p:Pos}(d:hU X (.type T) r)(o:jT r f)(g:Gl X x)(h:X.mg x=none)(k:bootBuiltins x=!.type T)(a:DA X F (e::es) tA)(i:autoParam (x≠"__name__") Zr._auto_1)(b:autoParam ((x==("__debug__":Str))=false) Zr._auto_1)
  (j:autoParam (qSa X e es) Zq._auto_1) (c:autoParam (qSb X pos es) Zq._auto_1):DE X F (.Call (.Name x p) (e::es) [] pos) (rp f tA):=
 #[EF o a.mn,(Ds d g h k a.pa i b j c).imp (EE o a.mn)]
def EG(n:String)(c:DT):DT:=λU Q=>c U λd a=>∃b,(∀K:Frag,kitOne K (.type (yS d)) (.type n)=!b)/\Q (.bool b) a
def lC{pos:Pos}{p:Pos}(m:Gl X "isinstance")(n:X.mg "isinstance" = none)(h:DE X F e ta)(u:PE X (.Name x p2) (tC (.ty T)))
  (l:autoParam (qSa X e [.Name x p2]) Zq._auto_1) (g:autoParam (qSa X (.Name x p2) []) Zq._auto_1) (i:autoParam (qSb X pos [.Name x p2]) Zq._auto_1) :
  DE X F (.Call (.Name "isinstance" p) [e,.Name x p2] [] pos) (EG T ta):=
 #[λ_ _ _ k q=>h.mn _ _ _ (λ_ _ a=>by let⟨b,e,q⟩:=a;exact#[b,e,k _ _ q]) q,
  (pH Qo m n 'g' (dQ h.pe (dQ u eK g) l) 'f' 'f' l i).imp λY H Q c=>by let⟨U,O,st,q⟩:=c;exact 
  #[U,O,st,h.mn _ _ _ (λd w f v o r j s t=>by let⟨b,e,q1⟩:=f;exact#[v,d,T,b,rfl,DV.mono kA t,e,q1 _ o r j s (.bl b)]) q]]
structure gC (g:Heap) (H:Hp) (h:Heap) (a:Addr) (C:Value) (fl:Option Value):Prop where
 gh:∀b o,g.get? b=!o->∃o',h.get? b=some o'
 lo:g.get? a=none
 un:H a=none
 ob:∃oe vs a0,h.get? a=!oe/\oe.cls=C/\oe.data=.fields vs/\vs[0]? = !a0/\
  ((fl=none/\vs[1]? = !.none)\/∃T oT ts f,fl=!f/\vs[1]? = !.ref T/\g.get? T=none/\H T=none/\T≠a/\h.get? T=!oT/\oT.data=.fields ts/\ts[3]? = !f)
structure Ch (g:Heap) (H:Hp) (fs:List Addr) (h h':Heap):Prop where
 keep:∀b o,h.get? b=!o->((∃o',g.get? b=!o')\/H b≠none)->b∉fs->h'.get? b=some o
 slot:∀b o,b∈fs->h.get? b=!o->∃sl,h'.get? b=some { o with slots:=sl }
 there:∀b o,h.get? b=!o->∃o',h'.get? b=!o'
def Ch.refl:Ch g H fs h h:=#[λ_ _ e _ _=>e,λb o _ e=>#[o.slots,e],λb o e=>#[o,e]]
def Ch.trans(x:Ch g H fs h h1)(y:Ch g H fs h1 h2):Ch g H fs h h2 where
 keep:=λb o e q n=>y.keep b o (x.keep b o e q n) q n
 slot:=λb o m e=>(by let⟨_,e1⟩:=x.slot b o m e;let⟨sl,e2⟩:=y.slot b _ m e1;exact#[sl,e2])
 there:=λb o e=>(by let⟨o1,e1⟩:=x.there b o e;exact y.there b o1 e1)
def bL.some_of(k:bL P w H h)(e:h.get? b=none):H b=none:=by
 cases q:H b with
 |none=>rfl
 |some u=>
  exfalso;have x:=k b u q;have:∀(u:HO),dh P w H h b u->∃o,h.get? b=!o:=by
   intro u
   induction u with
   |lst z=>exactλd=>by let⟨_,_,_,_,e⟩:=d;exact#[_,e]
   |tup z=>exactλg=>by let⟨_,_,_,o,e,_⟩:=g;exact#[_,e]
   |dK t=>exactλi=>by let⟨_,_,_,_,o,_,_,e,_⟩:=i;exact#[_,e]
   |dT t=>exactλj=>by let⟨_,_,_,_,o,_,_,e,_⟩:=j;exact#[_,e]
   |set S n=>exactλl=>by let⟨o,_,_,_,e,_⟩:=l;exact#[_,e]
   |ins C A fs=>exactλm=>by let⟨_,_,_,e,_⟩:=m;exact#[_,e]
   |own y=>exactλp=>by let⟨_,e⟩:=p;exact#[_,e]
   |xd fs=>exactλr=>by obtain⟨_,⟨_,_,_,e,_⟩,_⟩:=r;exact#[_,e]
   |rng lo B=>exactλs=>by let⟨_,_,_,e⟩:=s;exact#[_,e]
   |frz ob u _=>exactλa=>by let⟨e,_⟩:=a;exact#[_,e]
   |tbl D=>exactλe=>#[_,e]
   |met f y=>exactλe=>#[_,e]
   |ext φ=>exactλc=>by obtain⟨_,⟨_,e⟩,_⟩:=c;exact#[_,e]
  simp_all
theorem EH{h :Heap}:∀{l},(∀b∈cu l,a.get? b=none)->h.FunFrames base l->h.FunFrames a l
 |[],_,_=>trivial
 |c::r,hb,k1=>by
  obtain⟨f,⟨L,o,d,_,ho,hd⟩,g⟩:=k1
  have e:cu (c::r)=L::cu r:=by unfold cu;simp_all
  exact#[f,#[L,o,d,hb L 'h',ho,hd],EH (λb h=>hb b (by rw[e];exact bK _ h)) g]
def EI{L:Addr}(t:A.frames=!env::outer)(u:s.heap.FunFrames base (env::outer))(hf:env.frame=!L)(hk:∀b,s.heap.get? b=none->H b=none)
  (Z:∀b o,g.get? b=!o->∃f,s.heap.get? b=!f) (lo:g.get? a=none) (un:H a=none) (he:s.heap.get? a=!r) (hc:r.cls=C) (hd:r.data=.fields vs) (v:1<vs.size) (h0:vs[0]? = !J)
  (h:∀d,Ch g H (cu (env::outer)) s.heap d->gC g H d a C (!rawInt L)->Q () { s with heap:=d }) :
  wpAny M A (do let x <-frameOf env;let pl <-entryPlaceOf L c;let b <-EntryCells.newEntry head x .none (rawInt L) .none pl;setField (.ref a) 1 b) Q E s:=by
 refine wpAny_entryW (base:=PySem.W.hideAll s.heap (a::cu (env::outer))) t (EH (λb l=>q14 _ (bK _ l)) u) hf he (λb o e=>PySem.W.of_hideAll _ e) (q14 _ q0g) hd v h0 λd j=>?_;let⟨k1,k2,k3,k4⟩:=j;obtain⟨y,B,T,oT,N,O,⟨e2,D⟩,e3,e4,R,S,U,X,e9⟩:=k3;have m:∀b o,b∈cu (env::outer)->s.heap.get? b=!o->∃m,d.get? b=some { o with slots:=m }:=λb o l e=>by let⟨_,f,e',G⟩:=u.mem l;rw[e]at e';cases e';exact k4 b o e G
 have kp:∀b o,s.heap.get? b=!o->b≠a->b∉cu (env::outer)->d.get? b=!o:=λb o e n1 p=>k1 b o (q17 _ e λz=>(q0c.mp z).elim n1 p);have Y:g.get? T=none/\H T=none:=by
  cases q:s.heap.get? T with
  |some o=>
   exfalso
   by_cases i:T∈cu (env::outer)
   .let⟨_,f,e',G⟩:=u.mem i;rw[q]at e';cases e';let⟨I,k⟩:=m T o i q;rw[U]at k;cases k;exact G N X
   .rw[q17 _ q (λz=>(q0c.mp z).elim S i)]at R;cases R
  |none=>
   refine#[?_,hk T q];cases q2:g.get? T with
   |none=>rfl
   |some o=>let⟨f,e'⟩:=Z T o q2;rw[q]at e';cases e'
 have ch:Ch g H (cu (env::outer)) s.heap d:=#[λb o e q n=>kp b o e (λz=>?_) n,λb o l e=>m b o l e,λb o e=>?_]
 .refine h d ch #[λb o e=>?_,lo,un,y,B,J,O,e2.trans hc,e3,D,.inr #[T,oT,N,_,rfl,e4,Y.1,Y.2,S,U,X,e9]];let⟨f,e'⟩:=Z b o e;exact ch.there b f e'
 .subst z;rcases q with⟨f,q⟩ |q
  .rw[lo]at q;cases q
  .exact q un
 .by_cases p:b∈cu (env::outer)
  .let⟨I,e'⟩:=m b o p e;exact#[_,e']
  .by_cases n1:b=a
   .subst n1;exact#[_,O]
   .exact#[o,kp b o e n1 p]
def Rb{h:Heap}(i:h.FunFrames base l)(j:h.get? T=!d)(hd:d.data=.fields e):(h.update T f).FunFrames base l:=
 i.of_keeps λb o c k=>#[o,by rw[Heap.get?_update_other _ _ (λz=>k e 'a')];exact c,rfl]
def EJ(j:h.get? T=!c)(hd:c.data=.fields i)(k:g.get? T=none)(l:H T=none)(d:T∉fs):Ch g H fs h (h.update T (Obj.mapFields f)):=by
 refine#[λb o e q n=>?_,λb o m e=>#[o.slots,?_],λb o e=>?_]
 .rw[Heap.get?_update_other _ _ (λz=>?_)]
  .exact e
  lia
 .rw[Heap.get?_update_other _ _ (λz=>d (by rw[z];exact m))];exact e
 .by_cases z:b=T
  .subst z;exact#[_,(Heap.get?_update_self _ j (Obj.isFreed_of_fields (Obj.data_mapFields hd f)))]
  .exact#[o,by rw[Heap.get?_update_other _ _ (Ne.symm z)];exact e]
def EK{L:Addr}(k:A.frames=!env::outer)(t:s.heap.FunFrames base (env::outer))(u:env.frame=!L)(N:∀b,s.heap.get? b=none->H b=none)(x:gC g H s.heap a C fl)
  (h:∀l,Ch g H (cu (env::outer)) s.heap l->gC g H l a C (!rawInt L)->Q () { s with heap:=l }):wpAny M A (noteFrame (.ref a) env) Q E s:=by
 let⟨J,lo,un,O,vs,S,m,v,hd,y,hx⟩:=x;unfold noteFrame;simp only[u];rcases hx with⟨_,i⟩ |⟨T,U,R,f,_,i,n,p,r,j,c,B⟩
 .refine aA (wpAny_field m hd i ?_);rw[if_neg 'f'];exact EI k t u N J lo un m v hd (q05.mp i).1 y h
 .refine aA (wpAny_field m hd i ?_);rw[if_pos (show(Value.ref T != Value.none)=true from by simp)];refine aA (wpAny_field j c B ?_)
  by_cases d:(f==rawInt L)=true
  .rw[if_pos d];have e:f=rawInt L:=by simpa using d
   subst e;exact bb (h s.heap .refl #[J,lo,un,O,vs,S,m,v,hd,y,.inr #[T,U,R,_,rfl,i,n,p,r,j,c,B]])
  .rw[if_neg d];refine aA (wpAny_setField j c (q05.mp B).1 ?_);have D:T∉cu (env::outer):=λz=>by let⟨_,G,e',X⟩:=t.mem z;rw[j]at e';cases e';exact X R c
   have I:=EJ (g:=g) (H:=H) (f:=(·.setIfInBounds 3 Value.none)) j c n p D;refine EI (s:={ s with heap:=s.heap.update T (Obj.mapFields (·.setIfInBounds 3 Value.none)) }) k (Rb t j c) u (λb e=>?_) (λb o e=>?_) lo un ?_ v hd (q05.mp i).1 y λl ch Y=>h l (I.trans ch) Y
   .refine N b ?_;cases q:s.heap.get? b with
    |none=>rfl
    |some o=>let⟨G,e'⟩:=I.there b o q;rw[show({ s with heap:=s.heap.update T (Obj.mapFields (·.setIfInBounds 3 Value.none)) }:Shared).heap=s.heap.update T (Obj.mapFields (·.setIfInBounds 3 Value.none)) from rfl]at e;rw[e]at e';cases e'
   .let⟨G,e'⟩:=J b o e;exact I.there b G e'
   .show(s.heap.update T _).get? a=!O;rw[Heap.get?_update_other _ _ r];exact m
def zb(m)(n:∀b∈fs,∃o,s.heap.get? b=!o/\∀vs,o.data≠.fields vs)(x:gC g H s.heap a C (!fv))
  (h:∀p,Ch g H fs s.heap p->gC g H p a C (!(m.elim Value.none λf=>rawInt f))->Q () { s with heap:=p }):wpAny M A (setFlight (.ref a) m) Q E s:=by
 let⟨R,lo,un,y,vs,B,r,D,hd,G,hx⟩:=x;rcases hx with⟨z,_⟩ |⟨T,S,I,f,_,t,d,i,j,l,c,J⟩
 .cases z
 .unfold setFlight;refine aA (wpAny_field r hd t ?_);rw[if_pos (show(Value.ref T != Value.none)=true from by simp)];have q:T∉fs:=λz=>by let⟨o,u,N⟩:=n T z;rw[l]at u;cases u;exact N I c
  have k:=(q05.mp J).1;have v:=EJ (g:=g) (H:=H) (f:=(·.setIfInBounds 3 (m.elim Value.none λf=>rawInt f))) l c d i q;refine wpAny_setField l c k (h _ v #[λb o e=>?_,lo,un,y,vs,B,?_,D,hd,G,.inr #[T,_,_,_,rfl,t,d,i,j,Heap.get?_update_self _ l (Obj.isFreed_of_fields (Obj.data_mapFields c _)),Obj.data_mapFields c _,?_]])
  .let⟨O,e'⟩:=R b o e;exact v.there b O e'
  .rw[Heap.get?_update_other _ _ j];exact r
  .simp[k]
def Ch.frames(c:Ch g H fs h d)(i:∀b∈cu l,b∈fs)(j:h.FunFrames base l):d.FunFrames base l:=by
 induction l with
 |nil=>trivial
 |cons env r k=>
  obtain⟨m,⟨L,o,f,n,ho,hd⟩,p⟩:=j;have e:cu (env::r)=L::cu r:=by unfold cu;simp_all
  let⟨t,e'⟩:=c.slot L o (i L 'h') ho;exact#[m,#[L,_,f,n,e',hd],k (λb q=>i b 'h') p]
def EL(c:A.frames=!env::outer)(e:s.heap.FunFrames base (env::outer))(i:env.frame=!L)(j:∀b,s.heap.get? b=none->H b=none)(x:gC g H s.heap a C fl)
  (h:∀d,Ch g H (cu (env::outer)) s.heap d->gC g H d a C (!.none)->Q () { s with heap:=d }):wpAny M A (leaving env (.ref a)) Q E s:=by
 refine aA (EK c e i j x λk f l=>zb none (λb d=>(by let⟨_,o,e,n⟩:=((f.frames (λ_ h=>h) e)).mem d;exact#[o,e,n])) l λm n o=>h m (f.trans n) o)
structure mG (X:Cx) (pins:List (Addr×Obj)) (g:Heap):Prop where
 s0:∀b o,X.s₀.heap.get? b=!o->b∉X.ex->∃o',g.get? b=some o'
 loc:∃o,g.get? X.env.locals=some o
 cell:∀x c,X.env.cells.lookup x=!c->∃o,g.get? c=some o
 pin:∀p∈X.pn++pins,∃o,g.get? p.1=!o
def _root_.L2.Inv.cov{Y:St}(I:Inv X pins Y H s):mG X pins s.heap:=by
 refine#[λb o e n=>I.base.there b o e n,?_,λx c e=>?_,λp a=>#[_,(I.pin p a).1]]
 .obtain⟨m,⟨o,d,f,ho,_⟩,_⟩:=I.loc;exact#[o,ho]
 .let⟨v,o,ho,_⟩:=I.cell x c e;exact#[o,ho]
def _root_.L2.Inv.stkIn{Y:St}(I:Inv X pins Y H s)(h:b∉cu X.stack):b∉X.fs:=by
 rcases I.ok.stk with e |⟨e,a⟩
 .rw[e]at h;exact h
 .rw[e]at h;unfold cu at h;rw[q1y,a]at h;exactλz=>h (bK _ z)
def _root_.L2.Inv.stkOut{Y:St}(I:Inv X pins Y H s)(h:b∉X.fs)(a:b≠X.env.locals):b∉cu X.stack:=λz=>(q0c.mp (I.stkSub b z)).elim a h
def Rc{h h':Heap}(k:∀o,h.get? a=!o->∃b,h'.get? a=some { o with slots:=b })(c:h.Ns a m):h'.Ns a m:=by let⟨o,d,e,ho,hd,r⟩:=c;let⟨b,hs⟩:=k o ho;exact#[_,d,e,hs,hd,r]
def _root_.L2.Inv.ch{Y:St}(I:Inv X pins Y H s)(B:mG X pins g)(c:Ch g H (cu X.stack) s.heap h'):Inv X pins Y H { s with heap:=h' }:=by
 have ht:∀b o,s.heap.get? b=!o->H b≠none->h'.get? b=!o:=λb o e n=>c.keep b o e (.inr n) λz=>n (I.stkFree b z);have E:∀x a,X.env.cells.lookup x=!a->∀o,s.heap.get? a=!o->∃y,h'.get? a=!y/\y.data=o.data:=λx a e o j=>by
  by_cases hs:a∈cu X.stack
  .let⟨R,w⟩:=c.slot a o hs j;exact#[_,w,rfl]
  .exact#[o,c.keep a o j (.inl (B.cell x a e)) hs,rfl]
 refine#[I.ok,I.os,I.bare,#[λb o e n A t=>?_,λb o e n A t=>?_,λb o e n t=>I.base.free b o e n t,λb o e t=>?_,I.base.tups,I.base.frzs,I.base.tbls],?_,λx a e=>?_,I.free,I.freeC,λp G=>?_,λb u e=>?_,I.len]
 .have w:=I.base.keep b o e n A t;refine c.keep b o w (.inl (B.s0 b o e t)) (I.stkOut A λz=>?_);have h:=I.ok.above;have f:b<X.s₀.heap.objs.size:=bS e;rw[z]at f;exact q0A _ (q0k f h)
 .let⟨R,w⟩:=I.base.slot b o e n A t
  by_cases hs:b∈cu X.stack
  .let⟨D,L⟩:=c.slot b _ hs w;exact#[D,L]
  .exact absurd A (I.stkIn hs)
 .let⟨M,w⟩:=I.base.there b o e t;exact c.there b M w
 .let⟨m,N,O⟩:=I.loc;refine#[m,Rc (λo j=>?_) N,λi x v h f C=>?_]
  .by_cases hs:X.env.locals∈cu X.stack
   .exact c.slot _ o hs j
   .exact#[o.slots,c.keep _ o j (.inl B.loc) hs]
  .let⟨u,r,l⟩:=O i x v h f C;refine#[u,r,?_];rcases l with l |⟨k,a,e,o,j,hd⟩
   .exact .inl l
   .let⟨y,h,f⟩:=E x a e o j;exact .inr #[k,a,e,y,h,f.trans hd]
 .let⟨v,o,j,hd⟩:=I.cell x a e;let⟨y,h,f⟩:=E x a e o j;exact#[v,y,h,f.trans hd]
 .let⟨h,f,C,J,Q⟩:=I.pin p G;exact#[c.keep _ _ h (.inl (B.pin p G)) (I.stkOut J C),f,C,J,Q]
 .refine(I.hok b u e).stay (λd v hd q=>ht d v q ?_) (λ_ q=>q) λ_ _ q=>q;rcases hd with rfl |hd
  .rw[e];exactλz=>by cases z
  .rw[hd];exactλz=>by cases z
def du(P:Program)(w:World):iy:=λb H s E e c=>∃a C d,e=.ref a/\c.os=s.os/\AllBare c.gens/\Un (cu b) [] H d s.heap c.heap/\bL P w d c.heap/\gC s.heap d c.heap a C (!.none)/\E C none d
structure Re (X:Cx) (pins:List (Addr×Obj)) (Y:St) (H:Hp) (s:Shared) (e:Value) (c:Str):Prop where
 inv:Inv X pins Y H s
 ex:∃a C g fl,e=.ref a/\mG X pins g/\gC g H s.heap a C fl/\X.mg c=!C
noncomputable def glob(x:Str):Option PyData:=if x="ANY_ZONE" then some (.tuple [.int 0,.tuple []]) else if x="NO_DEEDS" then some (.tuple []) else none
noncomputable def iF:HO->Bool
 |.tup _=>true
 |.frz _ (.tup _)=>true
 |_=>false
def Rf(h:iF u=true):¬ Mv u:=λm=>by
 cases u with
 |tup _=>exact m
 |frz _ _=>exact m
 |_=>cases h
def rq(H:Hp):Hp:=λb=>match H b with
 |some u=>if iF u=true then some u else none
 |none=>none
def Rg(h:rq H b=!o):iF o=true/\H b=!o:=by
 unfold rq at h;lia
def GH(a:Str->Option Value)(H:Hp):Prop:=∀x d u,glob x=!d->a x=!u->∃v,bj v u/\DV (rq H) v d
def GF(a:Str->Option Value)(F:Fx):Prop:=GH a λb=>if b∈F.A₀ then none else F.H₀ b
theorem GH.mono(g:GH c H)(k:∀b u,iF u=true->H b=!u->a b=!u):GH c a:=λx d u f h=>by let⟨v,r,i⟩:=g x d u f h;exact#[v,r,DV.mono (λb o e=>by let⟨t,j⟩:=Rg e;exact (by unfold rq;rw[(k b o t j)];exact if_pos t)) i]
theorem GF.at{K}(g:GF a F)(st:aF K F H Y U O):GH a H:=GH.mono g λb d t e=>by
 let⟨W,st,rfl⟩:=st;split at e
 .cases e
 .rename_i c;exact st.kept b _ c e
def GH.frame(g:GH d H)(h:∀a∈A,∃o,H a=!o/\Mv o):GF d #[H,A,O,io]:=GH.mono g λb f t e=>by show(if b∈A then none else H b)=_;rw[if_neg,e];intro z;let⟨o,c,m⟩:=h b z;rw[e]at c;cases c;exact Rf t m
def GF.into{K}(g:GF b F)(st:aF K F H Y U O):GF b #[H,[],c,io]:=(g.at st).frame λa h=>by cases h
def eL(X:Cx)(F:Fx)(E:Str->ag->Prop):Prop:=GF X.mg F/\∀(pins:List (Addr×Obj)) (Y:St) (H:Hp) (s:Shared) (e:Value) (c:Str) (U:ag) (O:List Addr),Re X pins Y H s e c->aF X.K F H Y U O->E c U->X.xe e s
def gC.weak(x:gC g H h a C i)(k:∀b o,c.get? b=!o->∃d,g.get? b=!d):gC c H h a C i:=by
 have j:∀b,g.get? b=none->c.get? b=none:=λb e=>by
  cases q:c.get? b with
  |none=>rfl
  |some o=>let⟨d,e'⟩:=k b o q;lia
 let⟨A,lo,un,l,vs,m,n,p,hd,r,hx⟩:=x;refine#[λb o e=>(by let⟨d,e'⟩:=k b o e;exact A b d e'),j a lo,un,l,vs,m,n,p,hd,r,hx.imp id ?_];rintro⟨T,t,u,f,v,w,y,z⟩;exact#[T,t,u,f,v,w,j T y,z]
def _root_.L2.Inv.flies{Y:St}(I:Inv X pins Y H s)(h:du X.prog X.w X.stack H s E e f):∃a C c,e=.ref a/\Inv X pins Y c f/\mG X pins s.heap/\gC s.heap c f.heap a C (!.none)/\E C none c:=by let⟨a,C,c,j,os,bare,un,hok,ex,q⟩:=h;let⟨k,g,d,t,i⟩:=f;obtain rfl:i = s.os:=os;exact#[a,C,c,j,I.call un hok bare (λb z=>absurd z 'd'),I.cov,ex,q]
def Ri{K}
  (v:GF m F) (x:∀c C p y r B,m c=!C->aF K F r y p B->n c p->E C none r):eL (iz (du P w) P w K m base N i d f j A h s H E) F n:=by
 refine#[v,?_];rintro t Y k D e c U O ⟨I,a,C,g,R,G,u,ex,L⟩ st q;subst G;refine EL I.ok.frames I.stack rfl (λb z=>bL.some_of I.hok z) ex λS ch l=>?_;have J:=I.ch u ch;refine#[a,C,k,rfl,J.os,J.bare,J.base,J.hok,l.weak λb o Q=>u.s0 b o Q (by intro z;cases z),x c C U Y k O L st q]
noncomputable def Fx.plus(F:Fx)(fp:List Addr):Fx:={ F with O₀:=fp++F.O₀ }
def Fx.plus_plus{F:Fx}:(F.plus l).plus m=F.plus (m++l):=by unfold Fx.plus;simp
structure iG (K:Frag) (F:Fx) (H:Hp) (Y:St) (U:ag) (O:List Addr) (v:V) (c:af) (fp:List Addr):Prop where
 st:aF K (F.plus fp) H Y U O
 at_:fr K H O v c fp
 new:∀a∈fp,a∈F.A₀\/F.H₀ a=none
def jq(h:∀a∈O',a∈O):aR O H O' H:=#[λ_ _ _ e=>e,λa z=>.inl (h a z)]
def cH.less{K:Frag}(st:cH K F H Y U W)(d:b.H₀=F.H₀)(f:b.A₀=F.A₀)(g:b.I₀=F.I₀)(j:b.O₀.Sublist F.O₀):cH K b H Y U W:=by have sub:(W.flatten++b.O₀).Sublist (W.flatten++F.O₀):=q2a (q1R _) j;have mem:∀a∈W.flatten++b.O₀,a∈W.flatten++F.O₀:=λa h=>sub.subset h;refine#[λi c e=>?_,st.nd.sublist sub,by rw[d,f];exact st.kept,by rw[d,f];exact st.new,λa h=>st.live a (mem a h),st.len,st.lw,by rw[g];exact st.io];let⟨v,fp,k,l,m⟩:=st.at_ i c e;exact#[v,fp,k,l,m.keep (jq mem) (λ_ _=>rfl) (λ_ _ _ e=>e)]
def aF.unplus{K:Frag}(st:aF K (F.plus fp) H Y U O):∃O',aF K F H Y U O'/\aR O H O' H/\(∀a∈fp,a∉O'):=by
 let⟨W,st,rfl⟩:=st;refine#[_,#[W,(st.less rfl rfl rfl (q2h _ _)),rfl],jq λa h=>?_,λa d z=>?_]
 .rcases q0b.mp h with h |h
  .exact bB _ h
  .exact bq _ (bq _ h)
 .let⟨_,e,f⟩:=q0f.mp st.nd;rcases q0b.mp z with z |z
  .exact f a z a (bB _ d) rfl
  .exact(q0f.mp e).2.2 a d a z rfl
def iG.drop{K:Frag}(r:iG K F H Y U O v c fp):∃O',aF K F H Y U O'/\aR O H O' H:=(by let⟨O',a,b,_⟩:=r.st.unplus;exact#[O',a,b])
@[simp]noncomputable def frz:af->Option PyData
 |.dat d=>some d
 |.own _ (.l ds)=>some (.list ds)
 |_=>none
theorem iG.frz{K:Frag}(r:iG K F H Y U O v c fp)(e:frz c=!d):∃O',aF K F H Y U O'/\aR O H O' H/\DV (aB O' H) v d:=by
 let⟨O',h,f,i⟩:=r.st.unplus;refine#[O',h,f,?_];have g:=r.at_;cases c with
 |dat x=>cases e;exact DV.mono f.hid g
 |scr ns=>cases e
 |exc c=>cases e
 |vw c=>cases e
 |own io b=>
  cases b with
  |l ds=>cases e;let⟨a,rfl,rfl,n,j,k⟩:=g;exact .lst (jc j (i a 'd')) (aK.mono f.hid k)
  |m _ _=>cases e
  |o _ _=>cases e
  |sd _=>cases e
  |ll _=>cases e
  |pr _ _ _=>cases e
  |oo _ _=>cases e
def aF.put1{K:Frag}{io:Bool}(st:aF K (F.plus fp) H Y U O)(s:fr K H O v c fp)(new:∀a∈fp,a∈F.A₀\/F.H₀ a=none)(n:i<U.length)(o:∀b,c=.own true b->v=.ref (F.I₀ i)) :
  ∃O',aF K F H (Y.set i (!v)) (U.set i (!c)) O'/\aR O H O' H:=by
 let⟨W,st,rfl⟩:=st;have nd:(W.flatten++(fp++F.O₀)).Nodup:=st.nd;let⟨n1,t,r⟩:=q0f.mp nd;let⟨u,x,y⟩:=q0f.mp t;have p:i<W.length:=by rw[st.lw];exact n
 have sub:∀a∈(W.set i fp).flatten++F.O₀,a∈W.flatten++(fp++F.O₀):=λa h=>by
  rcases q0b.mp h with h |h
  .rcases gP h with h |⟨j,l,_,e,q⟩
   .exact bq _ (bB _ h)
   .exact bB _ (cD e q)
  .exact bq _ (bq _ h)
 have f:=jq (H:=H) sub;refine#[_,#[W.set i fp,#[λj d e=>?_,ri (q0f.mpr #[n1,x,λa k b D=>r a k b (bq _ D)]) u λa k=>#[λj l _ e z=>r a (cD e z) a (bB _ k) rfl,λz=>y a k a z rfl],st.kept,λa h=>?_,λa h=>st.live a (sub a h),by rw[q0u,q0u,st.len],by rw[q0u,q0u,st.lw],λj b e=>?_],rfl],f]
 .rcases iC e with⟨rfl,g,_⟩ |⟨m,g⟩
  .cases g;exact#[v,fp,q0p (by rw[<-st.len];exact n),q0p p,s.keep f (λ_ _=>rfl) (λ_ _ _ e=>e)]
  .let⟨w,l,A,B,C⟩:=st.at_ j d g;exact#[w,l,by rw[q0o (Ne.symm m)];exact A,by rw[q0o (Ne.symm m)];exact B,C.keep f (λ_ _=>rfl) (λ_ _ _ e=>e)]
 .rcases gP h with h |⟨j,l,_,e,q⟩
  .exact new a h
  .exact st.new a (cD e q)
 .rcases iC e with⟨rfl,g,_⟩ |⟨m,g⟩
  .rw[q0p (by rw[<-st.len];exact n),o b (q0x g).symm]
  .rw[q0o (Ne.symm m)];exact st.io j b g
def aF.take{K:Frag}(st:aF K F H Y U O)(e:U[i]? = !!.own io b):∃a fp O',Y[i]? = !!.ref a/\aF K (F.plus fp) H Y (U.set i none) O'/\gO (aB O' H) H a b fp/\aR O H O' H/\aR O' H O H/\(∀a∈fp,a∈F.A₀\/F.H₀ a=none)/\(io=true->a=F.I₀ i):=by
 let⟨W,st,rfl⟩:=st;let⟨v,fp,C,s,a,rfl,E⟩:=st.at_ i _ e;have G:i<U.length:=(q0a.mp e).1;have I:i<W.length:=by rw[st.lw];exact G
 let⟨n1,J,L⟩:=q0f.mp st.nd;have D:∀x∈(W.set i []).flatten++(fp++F.O₀),x∈W.flatten++F.O₀:=λx h=>by
  rcases q0b.mp h with h |h
  .rcases gP h with h |⟨j,l,_,g,m⟩
   .cases h
   .exact bB _ (cD g m)
  .rcases q0b.mp h with h |h
   .exact bB _ (cD s h)
   .exact bq _ h
 have M:∀x∈W.flatten++F.O₀,x∈(W.set i []).flatten++(fp++F.O₀):=λx h=>by
  rcases q0b.mp h with h |h
  .let⟨l,m,f⟩:=q16.mp h;let⟨j,n⟩:=q15 m
   by_cases t:j=i
   .subst t;rw[s]at n;cases n;exact bq _ (bB _ f)
   .exact bB _ (cD (j:=j) (by rw[q0o (Ne.symm t)];exact n) f)
  .exact bq _ (bq _ h)
 have u:fp.Nodup:=by
  have:∀{W:List (List Addr)}{i:Nat}{l:List Addr},W.flatten.Nodup->W[i]? = !l->l.Nodup:=λ{W i l} Q m=>Q.sublist (by
   have:=q0w m;exact q1p this)
  exact this n1 s
 have A:((W.set i []).flatten++(fp++F.O₀)).Nodup:=by
  have q:((W.set i []).flatten++([]++F.O₀)).Nodup:=ri (fp:=[]) (O:=F.O₀) st.nd q1k (λa h=>by cases h);let⟨q1,_,q3⟩:=q0f.mp q;refine q0f.mpr #[q1,q0f.mpr #[u,J,λx f y o z=>L x (cD s f) y o z],λx f y o z=>?_];subst z;rcases q0b.mp o with o |o
  .rcases gP f with f |⟨j,l,n,g,m⟩
   .cases f
   .exact mC n1 s g (Ne.symm n) o m
  .exact q3 x f x o rfl
 have p:=jq (H:=H) D;have k:=jq (H:=H) M;refine#[a,fp,_,C,#[W.set i [],#[λj d g=>?_,A,st.kept,λx h=>?_,λx h=>st.live x (D x h),by rw[q0u,st.len],by rw[q0u,q0u,st.lw],λj N g=>?_],rfl],E.keep (λ_ _=>rfl) p.hid,p,k,λx f=>st.new x (cD s f),λB=>?_]
 .rcases iC g with⟨rfl,r,_⟩ |⟨n,r⟩
  .cases r
  .let⟨w,l,q1,q2,q3⟩:=st.at_ j d r;exact#[w,l,q1,by rw[q0o (Ne.symm n)];exact q2,q3.keep p (λ_ _=>rfl) (λ_ _ _ e=>e)]
 .rcases gP h with h |⟨j,l,_,g,m⟩
  .cases h
  .exact st.new x (cD g m)
 .rcases iC g with⟨rfl,r,_⟩ |⟨n,r⟩
  .cases r
  .exact st.io j N r
 .subst B;have:=st.io i b e;rw[C]at this;cases this;rfl
def aF.swap{K:Frag}{F:Fx}(st:aF K (F.plus L) H Y U O)(keep:∀b o,b∉L->H b=!o->H' b=!o)(E:L'.Nodup)(new:∀a∈L',a∈L\/H a=none)(t:∀a∈L,a∈F.A₀\/F.H₀ a=none)(l:∀a∈L',∃o,H' a=!o/\Mv o) :
  ∃O',aF K (F.plus L') H' Y U O'/\aR O H O' H'/\(∀a∈L',a∈O')/\(∀a∈O',a∈L'\/a∈O/\a∉L)/\∀a∈O,a∉L->a∈O':=by
 let⟨W,st,rfl⟩:=st;have m:(W.flatten++(L++F.O₀)).Nodup:=st.nd;let⟨n1,w,p⟩:=q0f.mp m;let⟨G,x,y⟩:=q0f.mp w;have wl:∀a∈W.flatten,a∉L:=λa h z=>p a h a (bB _ z) rfl;have ol:∀a∈F.O₀,a∉L:=λa h z=>y a z a h rfl;have j:∀a∈W.flatten++F.O₀,∃o,H a=!o/\Mv o:=λa h=>st.live a (by
  rcases q0b.mp h with h |h
  .exact bB _ h
  .exact bq _ (bq _ h))
 have kp:∀a∈W.flatten++F.O₀,H' a=H a:=λa h=>by let⟨o,e,_⟩:=j a h;rw[e];exact keep a o ((q0b.mp h).elim (wl a) (ol a)) e
 have ap:∀a∈L',a∉W.flatten++F.O₀:=λa h z=>by
  rcases new a h with q |q
  .rcases q0b.mp z with z |z
   .exact wl a z q
   .exact ol a z q
  .let⟨o,e,_⟩:=j a z;rw[q]at e;cases e
 have f:aR (W.flatten++(L++F.O₀)) H (W.flatten++(L'++F.O₀)) H':=#[λb o d e=>keep b o (λz=>d (bq _ (bB _ z))) e,λa h=>by
  rcases q0b.mp h with h |h
  .exact .inl (bB _ h)
  .rcases q0b.mp h with h |h
   .exact(new a h).imp (λz=>bq _ (bB _ z)) id
   .exact .inl (bq _ (bq _ h))]
 have A:∀b o u,H b=!.frz o u->H' b=!.frz o u:=λb o u e=>keep b _ (λz=>st.nofrz (bq _ (bB _ z)) e) e;refine#[_,#[W,#[λi c e=>?_,?_,λb o d e=>?_,st.new,λa h=>?_,st.len,st.lw,st.io],rfl],f,λa h=>bq _ (bB _ h),λa h=>?_,λa h B=>?_]
 .let⟨v,fp,C,r,D⟩:=st.at_ i c e;exact#[v,fp,C,r,D.keep f (λb d=>kp b (bB _ (cD r d))) A]
 .refine q0f.mpr #[n1,q0f.mpr #[E,x,λa k b d z=>?_],λa k b d z=>?_]
  .subst z;exact ap a k (bq _ d)
  .subst z;rcases q0b.mp d with d |d
   .exact ap a d (bB _ k)
   .exact p a k a (bq _ d) rfl
 .have g:=st.kept b o d e
  by_cases s:b∈L
  .rcases t b s with q |q
   .exact absurd q d
   .have e':F.H₀ b=!o:=e;rw[q]at e';cases e'
  .exact keep b o s g
 .rcases q0b.mp h with h |h
  .let⟨o,g,n⟩:=j a (bB _ h);exact#[o,by rw[kp a (bB _ h)];exact g,n]
  .rcases q0b.mp h with h |h
   .exact l a h
   .let⟨o,g,n⟩:=j a (bq _ h);exact#[o,by rw[kp a (bq _ h)];exact g,n]
 .rcases q0b.mp h with h |h
  .exact .inr #[bB _ h,wl a h]
  .rcases q0b.mp h with h |h
   .exact .inl h
   .exact .inr #[bq _ (bq _ h),ol a h]
 .rcases q0b.mp h with h |h
  .exact bB _ h
  .rcases q0b.mp h with h |h
   .exact absurd h B
   .exact bq _ (bq _ h)
abbrev jr:=ag->(af->ag->Prop)->Prop
def EM(t:jr):Prop:=∀U Q a,(∀c b,Q c b->a c b)->t U Q->t U a
def Rk(K:Frag)(F:Fx)(t:jr):TE:=λY H Q=>∃U O,aF K F H Y U O/\t U λc d=>∀v a b fp,iG K F a Y d b v c fp->aR O H b a->Q v a
structure DO (X:Cx) (F:Fx) (e:Expr) (t:jr):Prop where
 mn:EM t
 pe:PE X e (Rk X.K F t)
def Rl(t:jr):DT:=λU Q=>t U λc a=>∃d,frz c=!d/\Q d a
def DO.de(h:DO X F e to):DE X F e (Rl to):=
 #[λ_ _ _ k q=>h.mn _ _ _ (λ_ _ a=>by let⟨d,e,q⟩:=a;exact#[d,e,k _ _ q]) q,h.pe.imp λY H Q g=>by
 let⟨U,O,st,q⟩:=g;exact#[U,O,st,h.mn _ _ _ (λc n b v i o fp r s=>by
  let⟨d,e,q⟩:=b;let⟨j,f,l,m⟩:=r.frz e;exact q v i j f (s.trans l) m) q]]
abbrev fR:=PyData->ag->(ag->Prop)->Prop
def og(K:Frag)(F:Fx)(t:fR):TG:=λv Y H Q=>∃U O d,aF K F H Y U O/\DV (aB O H) v d/\t d U λe=>∀b a c,aF K F a b e c->aR O H c a->Q b a
structure DG (X:Cx) (F:Fx) (tg:Expr) (t:fR):Prop where
 mn:∀d U Q Q',(∀U',Q U'->Q' U')->t d U Q->t d U Q'
 pg:PG X tg (og X.K F t)
abbrev mH:=List PyData->ag->(ag->Prop)->Prop
def Rm(K:Frag)(F:Fx)(t:mH):lv:=λvs Y H Q=>∃U O d,aF K F H Y U O/\aK (aB O H) vs d/\t d U λe=>∀b a c,aF K F a b e c->aR O H c a->Q b a
structure rr (X:Cx) (F:Fx) (tg:List Expr) (t:mH):Prop where
 mn:∀d U Q Q',(∀U',Q U'->Q' U')->t d U Q->t d U Q'
 pg:PGs X tg (Rm X.K F t)
def _root_.L2.PG.imp(h:PG X e t)(k:∀v Y H Q,t' v Y H Q->t v Y H Q):PG X e t':=λa s Y H v u Q I r q=>h a s Y H v u Q I r (k v Y H Q q)
def _root_.L2.PGs.imp(h:PGs X e t)(k:∀v Y H Q,t' v Y H Q->t v Y H Q):PGs X e t':=λa s Y H v u Q I r q=>h a s Y H v u Q I r (k v Y H Q q)
def gN(i:Nat):fR:=λd U Q=>Q (U.set i (!.dat d))
def Ro:mH:=λa U Q=>a=[]/\Q U
def Rp(t:fR)(u:mH):mH:=λb U Q=>∃d r,b=d::r/\t d U λa=>u r a Q
def Rq:rr X F [] Ro:=#[λ_ _ _ _ k q=>#[q.1,k _ q.2],Ny.imp λvs Y H Q a=>by
 let⟨U,O,ds,st,hd,e,q⟩:=a;subst e;cases hd;exact#[rfl,q _ H O st .refl]]
def Rr(c:DG X F e t)(f:rr X F es ts)(u:autoParam ((assignEach (e::es) X.env).map (·.2)=assign e X.env::(assignEach es X.env).map (·.2)) Zq._auto_1):rr X F (e::es) (Rp t ts):=
 #[λ_ _ _ _ k a=>by let⟨d,r,e,q⟩:=a;exact#[d,r,e,c.mn _ _ _ _ (λ_ q1=>f.mn _ _ _ _ k q1) q],(Nz c.pg f.pg u).imp λvs Y H Q b=>by
  let⟨U,O,ds,st,hd,d,r,e,q⟩:=b;subst e;cases hd with
  |cons hd j=>
   exact#[_,_,rfl,U,O,d,st,hd,c.mn _ _ _ _ (λl q1 v w m g i=>#[l,m,r,g,aK.mono i.hid j,f.mn _ _ _ _ (λy q2 n o p h s=>q2 n o p h (i.trans s)) q1]) q]]
def Rs(n:Nat)(t:mH):fR:=λd U Q=>∃a,d=.tuple a/\a.length=n/\t a U Q
def Rt{pos:Pos}{k }(i:X.calm=true)(h:rr X F es ts)(j:autoParam ((assignEach es X.env).length=n) Zq._auto_1)(f:autoParam ((assignEach es X.env).findIdx? (·.1)=none) Zq._auto_1):DG X F (.Tuple es k pos) (Rs n ts):=
 #[λ_ _ _ _ k b=>by let⟨g,e,l,q⟩:=b;exact#[g,e,l,h.mn _ _ _ _ k q],(NB i h.pg j f).imp λv Y H Q c=>by
  let⟨U,O,d,st,hd,g,e,l,q⟩:=c;subst e;let⟨a,m,rfl,o,hx⟩:=hd.tup_inv;exact#[a,m,rfl,.inl (iB o).1,by rw[hx.length];exact l,U,O,g,st,hx,q]]
structure fG where
 nx:ag->Prop
 rt:af->ag->Prop
 bk:ag->Prop:=λ_=>False
 ct:ag->Prop:=λ_=>False
abbrev eM:=fG->ag->Prop
structure ie (K:Frag) (F:Fx) (O:List Addr) (H:Hp) (D:gy) (DD:fG):Prop where
 nx:∀Y' H' U' O',aF K F H' Y' U' O'->aR O H O' H'->DD.nx U'->D.nx Y' H'
 rt:∀v Y' H' c U' O' fp,iG K F H' Y' U' O' v c fp->aR O H O' H'->DD.rt c U'->D.rt v H'
 bk:∀Y' H' U' O',aF K F H' Y' U' O'->aR O H O' H'->DD.bk U'->D.bk Y' H'
 ct:∀Y' H' U' O',aF K F H' Y' U' O'->aR O H O' H'->DD.ct U'->D.ct Y' H'
def ie.later{K}(f:ie K F O H D e)(s:aR O H b d):ie K F b d D e:=
 #[λY H U O st a q=>f.nx Y H U O st (s.trans a) q,λv Y H c U O fp r a q=>f.rt v Y H c U O fp r (s.trans a) q,λY H U O st a q=>f.bk Y H U O st (s.trans a) q,λY H U O st a q=>f.ct Y H U O st (s.trans a) q]
def EN(K:Frag)(F:Fx)(t:eM):TS:=λD Y H=>∃U O a,aF K F H Y U O/\t a U/\ie K F O H D a
def DS(X:Cx)(F:Fx)(s:Stmt)(t:eM):Prop:=PS X s (EN X.K F t)
def ig(X:Cx)(F:Fx)(s:List Stmt)(t:eM):Prop:=PSs X s (EN X.K F t)
def Ru:eM:=λD U=>D.nx U
def Rv(t u:eM):eM:=λD U=>t { D with nx:=λa=>u D a } U
def Rw:ig X F [] Ru:=Np.imp λD Y H a=>by let⟨U,O,b,st,q,f⟩:=a;exact f.nx Y H U O st .refl q
def Rx{st:Stmt}(c:DS X F st t)(d:ig X F rest u):ig X F (st::rest) (Rv t u):=
 (Nq c d).imp λD Y H a=>by let⟨U,O,g,s,q,f⟩:=a;exact#[U,O,_,s,q,#[λl m h i b j k=>#[h,i,g,b,k,f.later j],f.rt,f.bk,f.ct]]
def uR(te:DT)(tg:fR):eM:=λD U=>te U λd a=>tg d a D.nx
def Rz{pos:Pos}(h:DE X F e te)(i:DG X F a tg)(z:autoParam (swapsWithSole [a] e pos.line X.env=pure false) Zq._auto_1)(j:autoParam (swappedStores [a] e X.env=pure none) Zq._auto_1)
  (k:autoParam ((assignEach [a] X.env).map (·.2)=[assign a X.env]) Zq._auto_1):DS X F (.Assign [a] e pos) (uR te tg):=
 (yk h.pe i.pg z j k).imp λD Y H b=>by let⟨U,O,A,st,q,f⟩:=b;exact#[U,O,st,h.mn _ _ _ (λd l q1 v B m c n o=>#[l,m,d,c,o,i.mn _ _ _ _ (λp q2 r s w g y=>f.nx r s p w g (n.trans y) q2) q1]) q]
def RA{pos:Pos}(h:X.N.Nodup)(j:X.N[i]? = !x)(p:Loc X.env.scope x)(g:DE X F e te)(r:autoParam (swapsWith e (!.Name x a) pos.line X.env=pure false) Zq._auto_1)
  (k:autoParam (X.fn x=true\/X.env.scope.names.lookup x=!.local) Zqa._auto_1):DS X F (.Assign [.Name x a] e pos) (uR te (gN i)):=
 (CP h j p g.pe r k).imp λD Y H b=>by let⟨U,O,s,st,q,f⟩:=b;exact#[U,O,st,g.mn _ _ _ (λd w q1 v l m c n o=>f.nx _ l _ m (c.set o) n q1) q]
def RB(te:DT):eM:=λD U=>te U λd a=>D.rt (.dat d) a
def EO(c:DE X F e te):DS X F (.Return (!e) pos) (RB te):=
 (yh c.pe).imp λD Y H a=>by let⟨U,O,l,st,q,f⟩:=a;exact#[U,O,st,c.mn _ _ _ (λd g q1 v h i b j k=>f.rt v Y h (.dat d) g i [] (#[b,k,λa k=>by cases k]) j q1) q]
def RC(to:jr):eM:=λD U=>to U λc a=>D.rt c a
def RD(b:DO X F e to):DS X F (.Return (!e) pos) (RC to):=
 (yh b.pe).imp λD Y H a=>by let⟨U,O,j,st,q,f⟩:=a;exact#[U,O,st,b.mn _ _ _ (λc d q1 v g h fp r i=>f.rt v Y g c d h fp r i q1) q]
def RE(i:Nat):eM:=λD U=>∃b,U[i]? = !!.own false b/\D.rt (.own false b) (U.set i none)
def RF(n:PE X (.Name x d) (bQ i)):DS X F (.Return (!.Name x d) pos) (RE i):=
 (yh n).imp λD Y H c=>by obtain⟨U,O,o,st,⟨b,e,q⟩,f⟩:=c;let⟨a,fp,g,h,j,k,l,p,m,_⟩:=st.take e;exact#[_,h,f.rt _ Y H (.own false b) _ g fp #[j,#[a,rfl,k],m] l q]
def RG(i:Nat)(to:jr):eM:=λD U=>to U λc a=>i<a.length/\(∀b,c≠.own true b)/\D.nx (a.set i (!c))
def RH{pos:Pos}(j:X.N.Nodup)(k:X.N[i]? = !x)(A:Loc X.env.scope x)(h:DO X F e to)(B:autoParam (swapsWith e (!.Name x a) pos.line X.env=pure false) Zq._auto_1)
  (l:autoParam (X.fn x=true\/X.env.scope.names.lookup x=!.local) Zqa._auto_1):DS X F (.Assign [.Name x a] e pos) (RG i to):=
 (CP j k A h.pe B l).imp λD Y H m=>by
 let⟨U,O,C,st,q,f⟩:=m;exact#[U,O,st,h.mn _ _ _ (λc E d v n G fp r o=>by
  let⟨p,s,q1⟩:=d;let⟨w,g,y⟩:=aF.put1 (io:=true) r.st r.at_ r.new p (λb z=>absurd z (s b));exact f.nx _ n _ w g (o.trans y) q1) q]
def RI(to:jr):eM:=λD U=>to U λ_ a=>D.nx a
def RJ(b:DO X F e to)(i:autoParam (swapsWith e none pos.line X.env=pure false) Zq._auto_1):DS X F (.Expr e pos) (RI to):=
 (nT b.pe i).imp λD Y H d=>by
 let⟨U,O,j,st,q,f⟩:=d;exact#[U,O,st,b.mn _ _ _ (λc k q1 v l m fp r g=>by
  let⟨n,a,h⟩:=r.drop;exact f.nx _ _ _ _ a (g.trans h) q1) q]
def RK(tc:dt)(t u:eM):eM:=λD U=>tc U λb a=>if b=true then t D a else u D a
def RL(g:DB X F c tc)(l:ig X F a t)(n:ig X F b u):DS X F (.If c a b pos) (RK tc t u):=
 (Nw g.pt l n).imp λD Y H m=>by
 let⟨U,O,h,st,q,f⟩:=m;exact#[U,O,st,g.mn _ _ _ (λb i q1 o j d k=>by
  cases b with
  |true=>exact fQ #[i,j,h,d,mE q1,f.later k]
  |false=>exact fP #[i,j,h,d,mF q1,f.later k]) q]
set_option genInjectivity true in
inductive oh where
 |rt (c:af) (outs:List Bx) |ex (c:Str) (outs:List Bx) |bad
abbrev FM:=List af->oh
inductive be (K:Frag) (H:Hp) (O:List Addr):List V->List af->List (List Addr)->Prop where
 |nil:be K H O [] [] []
 |dat {v:V}{d:PyData}{vs:List V}{cs:List af}{fps:List (List Addr)}:DV (aB O H) v d->be K H O vs cs fps->be K H O (v::vs) (.dat d::cs) ([]::fps)
 |oth {v:V}{c:af}{vs:List V}{cs:List af}{fps:List (List Addr)}:(∀d,c≠.dat d)->(∀io b,c≠.own io b)->fr K H O v c []->be K H O vs cs fps->be K H O (v::vs) (c::cs) ([]::fps)
 |own {a:Addr}{b:Bx}{fp:List Addr}{vs:List V}{cs:List af}{fps:List (List Addr)}:gO (aB O H) H a b fp->be K H O vs cs fps->be K H O (.ref a::vs) (.own true b::cs) (fp::fps)
inductive bw (H:Hp) (O:List Addr):List V->List af->List Bx->List (List Addr)->Prop where
 |nil:bw H O [] [] [] []
 |skip {v:V}{c:af}{vs:List V}{cs:List af}{bs:List Bx}{fps:List (List Addr)}:(∀io b,c≠.own io b)->bw H O vs cs bs fps->bw H O (v::vs) (c::cs) bs fps
 |own {a:Addr}{io:Bool}{b b':Bx}{fp:List Addr}{vs:List V}{cs:List af}{bs:List Bx}{fps:List (List Addr)}:gO (aB O H) H a b' fp->bw H O vs cs bs fps->bw H O (.ref a::vs) (.own io b::cs) (b'::bs) (fp::fps)
structure lD (H H':Hp) (L L' O₀:List Addr):Prop where
 nd:(L'++O₀).Nodup
 live:∀a∈L',∃o,H' a=!o/\Mv o
 keep:∀b o,b∉L->H b=!o->H' b=some o
 new:∀a∈L',a∈L\/H a=none
def ff(K:Frag)(i:Str->Option Value)(f:FM):Sp:=λvs H Q E=>GH i H/\∃(h:List af) (fps:List (List Addr)) (g:List Addr),be K H (fps.flatten++g) vs h fps/\(fps.flatten++g).Nodup/\(∀a∈fps.flatten++g,∃o,H a=!o/\Mv o)/\
 match f h with
 |.rt c d=>∀v e fp b,fr K e (b.flatten++fp++g) v c fp->bw e (b.flatten++fp++g) vs h d b->lD H e fps.flatten (b.flatten++fp) g->Q v e
 |.ex c d=>∀C e b,i c=!C->bw e (b.flatten++g) vs h d b->lD H e fps.flatten b.flatten g->E C none e
 |.bad=>False
def be.len{K}{fps}(h:be K H O vs b fps):vs.length=b.length/\fps.length=b.length:=by
 induction h with
 |nil=>simp_all
 |dat _ _ a=>simp_all
 |oth _ _ _ _ a=>simp_all
 |own _ _ a=>simp_all
def be.get{K}{fps}(h:be K H O vs b fps):∀(i:Nat)  c,b[i]? = !c->∃v fp,vs[i]? = !v/\fps[i]? = !fp/\fr K H O v c fp:=by
 induction h with
 |nil=>intro i c e;simp at e
 |dat h _ a=>
  intro i c e;cases i with
  |zero=>simp at e;subst e;exact#[_,_,rfl,rfl,h]
  |succ i=>exact a i c (by simpa using e)
 |oth _ _ h _ a=>
  intro i c e;cases i with
  |zero=>simp at e;subst e;exact#[_,_,rfl,rfl,h]
  |succ i=>exact a i c (by simpa using e)
 |own h _ a=>
  intro i c e;cases i with
  |zero=>simp at e;subst e;exact#[_,_,rfl,rfl,#[_,rfl,h]]
  |succ i=>exact a i c (by simpa using e)
theorem be.mono{K}{fps}(h:be K H O vs c fps)(s:aR O H b H):be K H b vs c fps:=by
 induction h with
 |nil=>exact .nil
 |dat h _ a=>exact .dat (DV.mono s.hid h) a
 |oth d f h _ a=>exact .oth d f (h.keep s (λ_ _=>rfl) (λ_ _ _ e=>e)) a
 |own h _ a=>exact .own (h.keep (λ_ _=>rfl) s.hid) a
def bw.mono{fps}(h:bw H O vs c bs fps)(s:aR O H b H):bw H b vs c bs fps:=by
 induction h with
 |nil=>exact .nil
 |skip d _ a=>exact .skip d a
 |own h _ a=>exact .own (h.keep (λ_ _=>rfl) s.hid) a
set_option genInjectivity true in
inductive eF where
 |nx (U:ag) |rt (c:af) (U:ag) |bk (U:ag) |ct (U:ag) |ex (c:Str) (U:ag) |bad
abbrev SM:=ag->eF
def wpS(E:Str->ag->Prop)(m:SM):eM:=λD U=>match m U with
 |.nx a=>D.nx a
 |.rt c a=>D.rt c a
 |.bk a=>D.bk a
 |.ct a=>D.ct a
 |.ex c a=>E c a
 |.bad=>False
@[simp]noncomputable def dX:List af->ag->Option (List Bx)
 |[],_=>some []
 |.own _ _::a,some (.own true b)::U=>(dX a U).map (b::·)
 |.own _ _::_,_=>none
 |_::a,_::U=>dX a U
 |_::_,[]=>none
@[simp] def bf(n N:Nat)(m:SM):FM:=λa=>if a.length=n then(match m (a.map some++List.replicate (N - n) none) with
 |.nx U=>(match dX a U with |some o=>.rt (.dat .none) o |none=>.bad)
 |.rt c U=>(match dX a U with |some o=>.rt c o |none=>.bad)
 |.ex c U=>(match dX a U with |some o=>.ex c o |none=>.bad)
 |_=>.bad) else .bad
def nX{α:Type}{l:List α}{x}{r}(h:l.drop k=x::r):l[k]? = !x/\l.drop (k+1)=r:=by
 constructor
 .rw[<-q2D,h];rfl
 .rw[<-List.drop_drop,h];rfl
theorem zd{K:Frag}(st:cH K F H Y U W):∀j  vs  k  g,vs.length=j.length->(∀(i:Nat) io b,j[i]? = !.own io b->vs[i]? = !.ref (F.I₀ (k+i)))->dX j (U.drop k)=!g->
  ∃fps,bw H (W.flatten++F.O₀) vs j g fps/\fps.flatten.Sublist (W.drop k).flatten
 |[],[],k,g,_,_,e=>by cases e;exact#[[],.nil,by simp]
 |[],_::_,_,_,l,_,_=>by cases l
 |_::_,[],_,_,l,_,_=>by cases l
 |c::j,v::vs,k,g,l,hI,e=>by
  have m:vs.length=j.length:=q1W l;have p:∀(i:Nat) io b,j[i]? = !.own io b->vs[i]? = !.ref (F.I₀ (k+1+i)):=λi io b h=>by have:=hI (i+1) io b (by simpa using h);rw[show k+1+i=k+(i+1) by lia];simpa using this
  have t:(W.drop (k+1)).flatten.Sublist (W.drop k).flatten:=by
   cases y:W.drop k with
   |nil=>rw[show W.drop (k+1)=[] from by rw[<-List.drop_drop,y];rfl];exact q1R _
   |cons w r=>rw[(nX y).2,q0e];exact q2h _ _
  cases hd:U.drop k with
  |nil=>
   rw[hd]at e;cases c with
   |own io b=>cases e
   |dat d=>cases e
   |scr n=>cases e
   |exc n=>cases e
   |vw n=>cases e
  |cons x r=>
   let⟨D,E⟩:=nX hd;rw[hd]at e;have f:(∀io b,c≠.own io b)->dX j r=!g->∃fps,bw H (W.flatten++F.O₀) (v::vs) (c::j) g fps/\fps.flatten.Sublist (W.drop k).flatten:=λJ L=>by let⟨fps,o,s⟩:=zd st j vs (k+1) g m p (by rw[E];exact L);exact#[fps,.skip J o,s.trans t]
   cases c with
   |dat d=>exact f (λ_ _ z=>by cases z) e
   |scr n=>exact f (λ_ _ z=>by cases z) e
   |exc n=>exact f (λ_ _ z=>by cases z) e
   |vw n=>exact f (λ_ _ z=>by cases z) e
   |own io b=>
    cases x with
    |none=>cases e
    |some x=>
     cases x with
     |dat d=>cases e
     |scr n=>cases e
     |exc n=>cases e
     |vw n=>cases e
     |own A M=>
      cases A with
      |false=>cases e
      |true=>
       cases q:dX j r with
       |none=>simp[dX,q]at e
       |some N=>
        simp[dX,q]at e;subst e;let⟨fps,o,s⟩:=zd st j vs (k+1) N m p (by rw[E];exact q);let⟨u,fp,O,B,a,rfl,Q⟩:=st.at_ k _ D;have G:=st.io k M D;rw[O]at G;have R:a=F.I₀ k:=by cases G;rfl
        have hv:=hI 0 io b rfl;have C:v=.ref a:=by rw[R];simpa using hv
        subst C;refine#[fp::fps,.own Q o,?_];cases y:W.drop k with
        |nil=>rw[<-q2D,y]at B;cases B
        |cons w S=>let⟨I,w2⟩:=nX y;rw[B]at I;cases I;rw[q0e,q0e];rw[w2]at s;exact q2a (q1R _) s
def uS{α:Type}(n):(List.replicate n ([]:List α)).flatten=[]:=by simp_all
noncomputable def lE(N n:Nat)(a:List af):ag:=a.map some++List.replicate (N - n) none
noncomputable def pP(vs:List V)(i:Nat):Addr:=match vs[i]? with
 |some (.ref a)=>a
 |_=>0
def RM{K:Frag}{fps}(q:be K H (fps.flatten++p) vs g fps)(u:(fps.flatten++p).Nodup)(live:∀a∈fps.flatten++p,∃o,H a=!o/\Mv o)(y:g.length<=N.length) :
  cH K #[H,fps.flatten,p,pP vs] H (start N vs) (lE N.length g.length g) (fps++List.replicate (N.length - g.length) []):=by
 have n:(fps++List.replicate (N.length - g.length) ([]:List Addr)).flatten=fps.flatten:=by rw[q1A,uS,q0D]
 let⟨s,t⟩:=q.len;have get:∀(i:Nat) c,(lE N.length g.length g)[i]? = !!c->g[i]? = !c:=λi c e=>by
  unfold lE at e
  by_cases h:i<g.length
  .rw[q0S (by simpa using h),q0q]at e;let⟨d,j,l⟩:=q0i.mp e;cases l;exact j
  .rw[q0J (by simpa using q1Z h),q1e]at e;split at e<;>cases e
 have put:∀(i:Nat) v,vs[i]? = !v->(start N vs)[i]? = !!v:=λi v e=>by unfold start;rw[q0S (by simpa using(q0a.mp e).1),q0q,e];rfl
 refine#[λi c e=>?_,by rw[n];exact u,λ_ _ _ h=>h,λa h=>.inl (by rw[n]at h;exact h),by rw[n];exact live,?_,?_,λi b e=>?_]
 .let⟨v,fp,j,l,r⟩:=q.get i c (get i c e);exact#[v,fp,put i v j,by rw[q0S (q0a.mp l).1];exact l,by rw[n];exact r]
 .unfold lE start;rw[q0I,q0I,q0d,q0d,q0V,q0V,s]
 .unfold lE;rw[q0I,q0I,q0d,q0V,q0V,t]
 .let⟨v,fp,j,l,a,rfl,r⟩:=q.get i _ (get i _ e);rw[put i _ j];show _=!!V.ref (pP vs i);unfold pP;rw[j]
def be.ios{K:Frag}{fps}(h:be K H O vs c fps):∀(i:Nat) io b,c[i]? = !.own io b->vs[i]? = !.ref (pP vs (0+i)):=λi io b e=>by let⟨v,fp,d,_,a,rfl,_⟩:=h.get i _ e;rw[q1X];unfold pP;rw[d]
def rs{K:Frag}{N:List Str}{ps:List Str}(h:ff K mg (bf ps.length N.length m) vs H Q E):vs.length=ps.length:=by
 let⟨_,a,fps,O₀,b,_,_,q⟩:=h;rw[b.len.1];by_cases h:a.length=ps.length
 .exact h
 simp_all
def EQ{K:Frag}{ps:List Str}(S:X.K=K)(hN:ps.length<=N.length)(J:∀F  u,GF mg F->(∀c C l B j y,mg c=!C->aF K F j B l y->u c l->E C none j)->eL X F u)(L:∀F u,eL X F u->ig X F body (wpS u m))(hsp:ff K mg (bf ps.length N.length m) vs H Q E) :
  ∃t,PSs X body t/\t { nx:=λ_ j=>Q .non j,rt:=Q } (start N vs) H:=by
 subst S;have T:=rs hsp;let⟨gh,n,fps,O₀,M,nd,live,q⟩:=hsp;let⟨Y,l2⟩:=M.len;have D:n.length=ps.length:=by lia
 let F:Fx:=#[H,fps.flatten,O₀,pP vs]
 have G:=RM (N:=N) M nd live 'a';have fin:∀{B:St}{j:Hp}{l:ag}{y:List Addr}{fp:List Addr}{g:List Bx},aF X.K (F.plus fp) j B l y->(∀a∈fp,a∈F.A₀\/F.H₀ a=none)->dX n l = !g->∃d,bw j (d.flatten++fp++O₀) vs n g d/\lD H j fps.flatten (d.flatten++fp) O₀/\aR y j (d.flatten++fp++O₀) j:=by
  rintro B j l y fp g ⟨W,p,rfl⟩ O ho;let⟨d,o,sb⟩:=zd p n vs 0 g Y (λi io b e=>M.ios i io b e) ho;have I:d.flatten.Sublist W.flatten:=sb;have sub:(d.flatten++fp++O₀).Sublist (W.flatten++(fp++O₀)):=by rw[q0m];exact q2a I (q1R _)
  have s:aR (W.flatten++(fp++O₀)) j (d.flatten++fp++O₀) j:=jq λa h=>sub.subset h;refine#[d,o.mono s,#[p.nd.sublist sub,λa h=>p.live a (sub.subset (bB _ h)),λb o hb e=>p.kept b o hb e,λa h=>?_],s];rcases q0b.mp h with h |h
  .exact p.new a (I.subset h)
  .exact O a h
 have R:bf ps.length N.length m n=(match m (lE N.length ps.length n) with
  |.nx U=>(match dX n U with |some o=>.rt (.dat .none) o |none=>.bad)
  |.rt c U=>(match dX n U with |some o=>.rt c o |none=>.bad)
  |.ex c U=>(match dX n U with |some o=>.ex c o |none=>.bad)
  |_=>.bad):=by unfold bf lE;rw[if_pos D]
 rw[R]at q;rw[D]at G;let u:Str->ag->Prop:=λc l=>∃g,dX n l = !g/\∀C j d,mg c=!C->bw j (d.flatten++O₀) vs n g d->lD H j fps.flatten d.flatten O₀->E C none j;refine#[_,L F u (J F u (gh.frame λa h=>live a (bB _ h)) λc C l B j y A p Z=>?_),?_]
 .let⟨g,ho,k⟩:=Z;let⟨d,o,b,_⟩:=fin (fp:=[]) p (λa h=>by cases h) ho;rw[q0D]at o b;exact k C j d A o b
 .refine#[lE N.length ps.length n,_,⟨λl=>∃g,dX n l = !g/\∀j d,bw j (d.flatten++[]++O₀) vs n g d->lD H j fps.flatten (d.flatten++[]) O₀->Q .non j,λc l=>∃g,dX n l = !g/\∀v j fp d,fr X.K j (d.flatten++fp++O₀) v c fp->bw j (d.flatten++fp++O₀) vs n g d->lD H j fps.flatten (d.flatten++fp) O₀->Q v j,λ_=>False,λ_=>False⟩,#[_,G,rfl],?_,?_]
  .unfold wpS;cases A:m (lE N.length ps.length n) with
   |nx l=>
    rw[A]at q;cases ho:dX n l with
    |none=>simp[ho]at q
    |some g=>simp only[ho]at q;exact#[g,ho,λj d o b=>q .non j [] d .non o b]
   |rt c l=>
    rw[A]at q;cases ho:dX n l with
    |none=>simp[ho]at q
    |some g=>simp only[ho]at q;exact#[g,ho,q]
   |ex c l=>
    rw[A]at q;cases ho:dX n l with
    |none=>simp[ho]at q
    |some g=>simp only[ho]at q;exact#[g,ho,q]
   |bk l=>rw[A]at q;exact q
   |ct l=>rw[A]at q;exact q
   |bad=>rw[A]at q;exact q
  .refine#[λB j l y p s' ⟨g,ho,k⟩=>?_,λv B j c l y fp r s' ⟨g,ho,k⟩=>?_,λ_ _ _ _ _ _ z=>z.elim,λ_ _ _ _ _ _ z=>z.elim]
   .let⟨d,o,b,_⟩:=fin (fp:=[]) p (λa h=>by cases h) ho;exact k j d o b
   .let⟨d,o,b,s⟩:=fin r.st r.new ho;exact k v j fp d (r.at_.keep s (λ_ _=>rfl) (λ_ _ _ e=>e)) o b
def ER{K}{dV kV }
  (lk:K.lookup f=!#[Z,od,.func (fnOf name qual h body a dV kV p pm U g Y),L]) (M:codeIn K g qual=true) (S:cb N ps a) (hd:A.depth<recursionLimit) (D:eB P w K mg base A d s H) (hb:BindsTo s (fnOf name qual h body a dV kV p pm U g Y) args (ps.zip C))
  (I:∀r,InCallC s s.heap.objs.size (bindL (envOfC qual a s.heap.objs.size f g).kindOf (ps.zip C) λ_=>none) (cellsFrom (s.heap.objs.size+1) a.names []) (bindC (envOfC qual a s.heap.objs.size f g).kindOf (ps.zip C) λ_=>none) r->Inv { iz B P w K mg base N qual a f g A d s H E with calm:=c } [] (start N vs) H r)
  (ht:PSs { iz B P w K mg base N qual a f g A d s H E with calm:=c } body t) (hq:t { nx:=λ_ i=>Q .non i,rt:=Q } (start N vs) H) :
  codeAny (model P w) A (.call (.ref f) args) (CR B d P w H s Q E) s:=by
 have X:K.In s.heap:=D.mod.kin.keeps λb o e=>(D.bs b o e).1;have O:s.heap.NoLimit:=D.mod.nolimit.keeps λb o e=>(D.bs b o e).1;have j:∀y∈ps.zip C,a.names.lookup y.1=!.local\/(a.names.lookup y.1=!.cell/\((cellsFrom (s.heap.objs.size+1) a.names []).lookup y.1).isSome=true):=λz hy=>by
  let⟨n,v⟩:=z;rcases S.par n (q2C hy).1 with q |q
  .exact .inl q
  .exact .inr #[q,q2w _ _ _ (.inl q)]
 refine codeAny_call_function hd (X _ _ lk) rfl S.co S.gen rfl (PySem.W.codeRec_of X M) (hb _ _ _ _ ?_);refine wpAny_newFunctionEnv_cells S.kind j λa0 he r x=>?_;subst he;refine#[O.keeps x.toInCall.keep,codeAny_func ?_];refine wpAny_mono (ht [] r (start N vs) H _ (I r x) hq) (λfl R l=>?_) λe R l=>l;have fin:∀{G:St}{i:Hp}{v:V}{u:Value},Inv { iz B P w K mg base N qual a f g A d s H E with calm:=c } [] G i R->bj v u->Q v i->CE d P w H s Q u R:=λ{G i v u} J T q=>#[v,i,J.os,J.bare,J.base,J.hok,T,q]
 cases fl with
 |ret u=>let⟨v,G,i,J,T,q⟩:=l;exact fin J T q
 |next=>let⟨G,i,J,q⟩:=l;exact fin (v:=V.non) (u:=Value.none) J rfl q
 |brk=>let⟨_,_,_,q⟩:=l;exact False.elim q
 |cont=>let⟨_,_,_,q⟩:=l;exact False.elim q
def ze{K:Frag}{st:Stmt}(o:nW K x qual st f fd)(S:cb N ps (dS st))(p:ps.length<=N.length)
  (i:∀b  A  a  s  H  E  F  d,bH k (A.deeper (envOfC qual (dS st) s.heap.objs.size f b))->eL (iz (du P w) P w K mg base N qual (dS st) f b A a s H E) F d->
   ig (iz (du P w) P w K mg base N qual (dS st) f b A a s H E) F (iY st) (wpS d m)):cR P w K mg base (du P w) (k+1) f fd ps (ff K mg (bf ps.length N.length m)):=by
 let⟨z,B,kV,q,pm,C,b,ct,u,rfl,lk,j⟩:=o.ex;refine#[λ_ _ _ _=>rs,λA a s H args D vs Q E l n y r e=>?_];let⟨t,ht,v⟩:=EQ rfl p (λF d g h=>Ri g h) (λF d h=>i b A a s H E F d (l.deeper _) h) e;exact ER lk j S l.depth n y (λG x=>Dr S l.hd n (rs e) r x) ht v
inductive AX where
 |d (x:PyData) |s (j:Nat)
inductive dI (Y:St) (G:Hp):List V->List AX->Prop where
 |nil:dI Y G [] []
 |d {v:V}{x:PyData}{vs:List V}{as:List AX}:DV G v x->dI Y G vs as->dI Y G (v::vs) (.d x::as)
 |s {v:V}{j:Nat}{vs:List V}{as:List AX}:Y[j]? = !!v->dI Y G vs as->dI Y G (v::vs) (.s j::as)
abbrev jd:=ag->(List AX->ag->Prop)->Prop
def ES(t:jd):Prop:=∀U Q a,(∀d b,Q d b->a d b)->t U Q->t U a
def RN(K:Frag)(F:Fx)(t:jd):TA:=λY H Q=>∃U O,aF K F H Y U O/\t U λas c=>∀vs a b,aF K F a Y c b->aR O H b a->dI Y (aB b a) vs as->Q vs a
structure DX (X:Cx) (F:Fx) (es:List Expr) (t:jd):Prop where
 mn:ES t
 pa:PA X es (RN X.K F t)
def RO:jd:=λU Q=>Q [] U
def RP(te:DT)(t:jd):jd:=λU Q=>te U λd a=>t a λas b=>Q (.d d::as) b
def RQ(j:Nat)(t:jd):jd:=λU Q=>(∃c,U[j]? = !!c)/\t U λas a=>Q (.s j::as) a
def RS:DX X F [] RO:=#[λ_ _ _ k q=>k _ _ q,eK.imp λY H Q a=>by let⟨U,O,st,q⟩:=a;exact q [] H O st .refl .nil]
def RT(b:DE X F e te)(c:DX X F es tX)(t:autoParam (qSa X e es) Zq._auto_1):DX X F (e::es) (RP te tX):=
 #[λ_ _ _ k q=>b.mn _ _ _ (λ_ _ q1=>c.mn _ _ _ (λ_ _ q2=>k _ _ q2) q1) q,(dQ b.pe c.pa t).imp λY H Q a=>by let⟨U,O,st,q⟩:=a;exact 
  #[U,O,st,b.mn _ _ _ (λd i q1 v u l f m n=>#[i,l,f,c.mn _ _ _ (λas w q2 vs o r g h s=>q2 (v::vs) o r g (m.trans h) (.d (DV.mono h.hid n) s)) q1]) q]]
def RU(r:PE X (.Name x p) (bQ j))(d:DX X F es tX)(t:autoParam (qSa X (.Name x p) es) Zq._auto_1):DX X F (.Name x p::es) (RQ j tX):=
 #[λ_ _ _ k a=>by let⟨h,q⟩:=a;exact#[h,d.mn _ _ _ (λ_ _ q2=>k _ _ q2) q],(dQ r d.pa t).imp λY H Q b=>by
  obtain⟨U,O,st,⟨c,i⟩,q⟩:=b;let⟨W,h,rfl⟩:=id st;let⟨v,fp,g,u,w⟩:=h.at_ j c i;exact#[v,g,U,_,st,d.mn _ _ _ (λas y q2 vs l m f n o=>q2 (v::vs) l m f n (.s g o)) q]]
@[simp]noncomputable def jt(U:ag):List AX->Option (List af×List (Nat×Bool))
 |[]=>some ([],[])
 |.d x::as=>(match jt U as with |some (e,a)=>!(.dat x::e,a) |none=>none)
 |.s j::as=>(match jt U as with
  |some (e,a)=>(match U[j]? with
   |some (!.own io b)=>if a.any (λp=>p.1==j) then none else some (.own true b::e,(j,io)::a)
   |some (!c)=>some (c::e,a)
   |_=>none)
  |none=>none)
@[simp]noncomputable def iH:List (Nat×Bool)->ag->ag
 |[],U=>U
 |(j,_)::r,U=>(iH r U).set j none
@[simp]noncomputable def ft:List (Nat×Bool)->List Bx->ag->ag
 |(j,io)::r,b::bs,U=>ft r bs (U.set j (!.own io b))
 |_,_,U=>U
def ET:(iH a U).length=U.length:=by
 induction a with
 |nil=>rfl
 |cons p r b=>simp_all
def RV(h:∀p∈a,p.1≠i):(iH a U)[i]? = U[i]?:=by
 induction a with
 |nil=>rfl
 |cons p r b=>simp_all
inductive gD (Y:St) (F:Fx) (n:Nat):List V->List af->List (Nat×Bool)->Prop where
 |nil:gD Y F n [] [] []
 |skip {v:V}{c:af}{vs:List V}{cs:List af}{js:List (Nat×Bool)}:(∀io b,c≠.own io b)->gD Y F n vs cs js->gD Y F n (v::vs) (c::cs) js
 |own {a:Addr}{io:Bool}{b:Bx}{j:Nat}{vs:List V}{cs:List af}{js:List (Nat×Bool)}:Y[j]? = !!.ref a->(io=true->a=F.I₀ j)->j<n->gD Y F n vs cs js->gD Y F n (.ref a::vs) (.own true b::cs) ((j,io)::js)
section
variable{K:Frag}{F:Fx}{H H':Hp}{Y:St}{U:ag}{O O':List Addr}
theorem zf(st:aF K F H Y U O):∀as  vs  o  r,jt U as=!(o,r)->dI Y (aB O H) vs as->
  ∃fps O',aF K (F.plus fps.flatten) H Y (iH r U) O'/\be K H O' vs o fps/\aR O H O' H/\aR O' H O H/\(∀a∈fps.flatten,a∈F.A₀\/F.H₀ a=none)/\gD Y F U.length vs o r
 |[],vs,o,r,e,h=>by cases e;cases h;refine#[[],O,st,.nil,.refl,.refl,?_,.nil];intro a h;cases h
 |.d x::as,vs,o,r,e,h=>by
  cases h with
  |d hv D=>
   unfold jt at e;cases q:jt U as with
   |none=>rw[q]at e;cases e
   |some p=>let⟨g,f⟩:=p;rw[q]at e;simp only[q0L,Prod.mk.injEq]at e;let⟨T,X⟩:=e;let⟨fps,O',k,m,l,y,A,B⟩:=zf st as _ g f q D;subst T X;exact#[[]::fps,O',k,.dat (DV.mono l.hid hv) m,l,y,A,.skip (λ_ _ z=>by cases z) B]
 |.s j::as,vs,o,r,e,h=>by
  cases h with
  | @s v _ vs _ hv D=>
   unfold jt at e;cases q:jt U as with
   |none=>rw[q]at e;cases e
   |some p=>
    let⟨g,f⟩:=p;rw[q]at e;let⟨fps,O',k,m,l,y,A,B⟩:=zf st as _ g f q D;cases t:U[j]? with
    |none=>rw[t]at e;cases e
    |some Z=>
     cases Z with
     |none=>rw[t]at e;cases e
     |some c=>
      rw[t]at e;let⟨W,E,G⟩:=id st;let⟨C,a0,M,h2,u⟩:=E.at_ j c t;rw[hv]at M;have I:C = v:=by cases M;rfl
      subst I;rw[<-G]at u;have other:(∀io b,c≠.own io b)->∃fps O',aF K (F.plus fps.flatten) H Y (iH f U) O'/\be K H O' (C::vs) (c::g) fps/\aR O H O' H/\aR O' H O H/\(∀a∈fps.flatten,a∈F.A₀\/F.H₀ a=none)/\gD Y F U.length (C::vs) (c::g) f:=λN=>by
       refine#[[]::fps,O',k,?_,l,y,A,.skip N B];cases c with
       |dat d=>exact .dat (DV.mono l.hid u) m
       |own io b=>exact absurd rfl (N io b)
       |scr ns=>exact .oth (λ_ z=>by cases z) (λ_ _ z=>by cases z) (fr.keep (c:=.scr ns) (fp:=[]) u l (λ_ _=>rfl) (λ_ _ _ e=>e)) m
       |exc n=>exact .oth (λ_ z=>by cases z) (λ_ _ z=>by cases z) (fr.keep (c:=.exc n) (fp:=[]) u l (λ_ _=>rfl) (λ_ _ _ e=>e)) m
       |vw n=>exact .oth (λ_ z=>by cases z) (λ_ _ z=>by cases z) (fr.keep (c:=.vw n) (fp:=[]) u l (λ_ _=>rfl) (λ_ _ _ e=>e)) m
      cases c with
      |dat d=>simp only[q0L,Prod.mk.injEq]at e;rw[<-e.1,<-e.2];exact other (λ_ _ z=>by cases z)
      |scr ns=>simp only[q0L,Prod.mk.injEq]at e;rw[<-e.1,<-e.2];exact other (λ_ _ z=>by cases z)
      |exc n=>simp only[q0L,Prod.mk.injEq]at e;rw[<-e.1,<-e.2];exact other (λ_ _ z=>by cases z)
      |vw n=>simp only[q0L,Prod.mk.injEq]at e;rw[<-e.1,<-e.2];exact other (λ_ _ z=>by cases z)
      |own io b=>
       by_cases J:f.any (λp=>p.1==j)=true
       .simp only[if_pos J]at e;cases e
       .simp only[if_neg J,q0L,Prod.mk.injEq]at e;rw[<-e.1,<-e.2];have L:∀p∈f,p.1≠j:=λp hp z=>J (List.any_eq_true.mpr #[p,hp,by simp[z]]);let⟨a,fp,O2,Q,R,t3,S,t5,t6,t7⟩:=k.take (i:=j) (io:=io) (b:=b) (by rw[RV L];exact t);rw[hv]at Q;have I:C = .ref a:=by cases Q;rfl
        subst I;rw[Fx.plus_plus]at R;refine#[fp::fps,O2,R,.own t3 (m.mono S),l.trans S,t5.trans y,λx w=>?_,.own hv t7 (q0a.mp t).1 B];rcases q0b.mp w with w |w
        .exact t6 x w
        .exact A x w
def EU(s:gD Y F n vs l m):∀{d fps U O},U.length=n->aF K (F.plus (fps.flatten++fp)) H Y U O->bw H O vs l d fps->(∀a∈fps.flatten,a∈F.A₀\/F.H₀ a=none)->
  ∃O',aF K (F.plus fp) H Y (ft m d U) O'/\aR O H O' H:=by
 induction s with
 |nil=>intro d fps U O g st e h;cases e;exact#[O,st,.refl]
 |skip f _ o=>
  intro d fps U O g st e h;cases e with
  |skip _ e=>exact o g st e h
  |own _ _=>exact absurd rfl (f _ _)
 | @own a io b j vs l m t y A s o=>
  intro d fps U O g st e h;cases e with
  |skip f _=>exact absurd rfl (f _ _)
  | @own _ _ _ B f1 _ _ bs C hb e=>
   have p:aF K ((F.plus (C.flatten++fp)).plus f1) H Y U O:=by rw[Fx.plus_plus,<-q0m];exact st
   let⟨I,k,u⟩:=aF.put1 (io:=true) (c:=.own io B) (v:=.ref a) (i:=j) p #[a,rfl,hb] (λx r=>h x (by rw[q0e];exact bB _ r)) (by rw[g];exact A) (λb z=>by cases z;rw[y rfl];rfl);have D:Y.set j (!.ref a)=Y:=by
    apply q01;intro i
    by_cases w:i=j
    .subst w;rw[q0p (q0a.mp t).1,t]
    .rw[q0o (Ne.symm w)]
   rw[D]at k;let⟨E,q,G⟩:=o (by rw[q0u];exact g) k (e.mono u) (λx r=>h x (by rw[q0e];exact bq _ r));exact#[E,q,u.trans G]
end
def iI(f:FM)(E:Str->ag->Prop)(Q:af->ag->Prop)(as:List AX)(U:ag):Prop:=match jt U as with
 |some (d,b)=>(match f d with
  |.rt c a=>Q c (ft b a (iH b U))
  |.ex c a=>E c (ft b a (iH b U))
  |.bad=>False)
 |none=>False
def zg(f:FM)(E:Str->ag->Prop)(t:jd):jr:=λU Q=>t U λas a=>iI f E Q as a
def EV(h:∀c d,Q c d->b c d)(q:iI f E Q as U):iI f E b as U:=by
 unfold iI at q ⊢;split
 .rename_i i j e;rw[e]at q;simp only at q;split
  .simp_all
  .simp_all
  simp_all
 simp_all
def EW{Y:St}(hx:eL X F E)(len:∀vs H Q E,ff X.K X.mg f vs H Q E->vs.length=ps.length)(run:∀s  H  m  vs  Q  E,eB X.prog X.w X.K X.mg X.base X.A X.stack s H->BindsTo s fd #[m,[]] (ps.zip m)->bv vs m->ff X.K X.mg f vs H Q E->codeAny (model X.prog X.w) X.A (.call (.ref g) #[m,[]]) (CR (du X.prog X.w) X.stack X.prog X.w H s Q E) s)(hb:iW X.K fd ps [])
  (I:Inv X l Y H s) (r:bv vs m) (st:aF X.K F H Y U O) (ax:dI Y (aB O H) vs as) (q:iI f E QC as U) (hQ:∀c J,QC c J->∀v b N fp,iG X.K F b Y J N v c fp->aR O H N b->Q v b) :
  wpAny (model X.prog X.w) X.A (call (.ref g) m) (EP X l Y Q) X.xe s:=by
 unfold iI at q;cases hc:jt U as with
 |none=>rw[hc]at q;exact q.elim
 |some p=>
  let⟨cs,js⟩:=p;rw[hc]at q;simp only at q;let⟨fps,O2,R,ar,s1,a4,nw,ja⟩:=zf st as vs cs js hc ax;let⟨W,y,S⟩:=id R;have a1:(W.flatten++(fps.flatten++F.O₀)).Nodup:=y.nd;have j:∀a,a∈O2↔a∈fps.flatten++(W.flatten++F.O₀):=λa=>by
   rw[S];show a∈W.flatten++(fps.flatten++F.O₀)↔_;simp only[q0b];constructor
   .rintro(h |h |h)<;>simp[h]
   .rintro(h |h |h)<;>simp[h]
  have perm:(fps.flatten++(W.flatten++F.O₀)).Perm (W.flatten++(fps.flatten++F.O₀)):=by rw[<-q0m,<-q0m];exact List.Perm.append_right _ List.perm_append_comm
  have T:(fps.flatten++(W.flatten++F.O₀)).Nodup:=perm.nodup_iff.mpr a1;have bZ:aR O2 H (fps.flatten++(W.flatten++F.O₀)) H:=jq λa h=>(j a).mpr h;have L:∀(b:Hp) (n:List Addr) (a:Addr),(a∈n++(W.flatten++F.O₀))->a∈n\/(a∈O2/\a∉fps.flatten):=λb n a h=>by
   rcases q0b.mp h with h |h
   .exact .inl h
   .refine .inr #[(j a).mpr (bq _ h),λz=>?_];exact(q0f.mp T).2.2 a z a h rfl
  have i:∀(b:Hp) (n:List Addr),lD H b fps.flatten n (W.flatten++F.O₀)->∃B,aF X.K (F.plus n) b Y (iH js U) B/\aR O2 H B b/\∀a,a∈B↔a∈n++(W.flatten++F.O₀):=λb n t=>by
   let⟨B,Z,t2,t3,t4,t5⟩:=R.swap (H':=b) (L':=n) t.keep (q0f.mp t.nd).1 t.new nw t.live;refine#[B,Z,t2,λa=>#[λh=>?_,λh=>?_]]
   .rcases t4 a h with z |⟨z1,z2⟩
    .exact bB _ z
    .rcases q0b.mp ((j a).mp z1) with z |z
     .exact absurd z z2
     .exact bq _ z
   .rcases L b n a h with z |⟨z1,z2⟩
    .exact t3 a z
    .exact t5 a z1 z2
  have r2:bv (vs++[]) (m++[]):=by rw[q0D,q0D];exact r
  let EX:XK:=λC _ b=>∃c J N,X.mg c=!C/\aF X.K F b Y J N/\E c J;have sp:ff X.K X.mg f vs H Q EX:=by
   refine#[hx.1.at st,cs,fps,W.flatten++F.O₀,ar.mono bZ,T,λa h=>?_,?_]
   .exact y.live a (by have:=(j a).mpr h;rw[S]at this;exact this)
   .cases hf:f cs with
    |bad=>rw[hf]at q;exact q
    |rt c a0=>
     rw[hf]at q;simp only at q ⊢;intro v b fp d a2 M t;let⟨B,Z,t2,t3⟩:=i b (d.flatten++fp) t;have D:aR (d.flatten++fp++(W.flatten++F.O₀)) b B b:=jq λa h=>(t3 a).mp h;have G:∀a∈d.flatten++fp,a∈F.A₀\/F.H₀ a=none:=λa h=>by
      rcases t.new a h with z |z
      .exact nw a z
      .by_cases hA:a∈F.A₀
       .exact .inl hA
       .refine .inr ?_;cases e:F.H₀ a with
        |none=>rfl
        |some o=>have:=y.kept a o hA e;rw[z]at this;cases this
     have lj:(iH js U).length=U.length:=ET;let⟨O4,u1,u2⟩:=EU (fp:=fp) ja lj Z (M.mono D) λa h=>G a (bB _ h);exact hQ c _ q v b O4 fp #[u1,a2.keep (D.trans u2) (λ_ _=>rfl) (λ_ _ _ e=>e),λa h=>G a (bq _ h)] (s1.trans (t2.trans u2))
    |ex c a0=>
     rw[hf]at q;simp only at q ⊢;intro C b d hm M t;let⟨B,Z,t2,t3⟩:=i b d.flatten t;have D:aR (d.flatten++(W.flatten++F.O₀)) b B b:=jq λa h=>(t3 a).mp h;have G:∀a∈d.flatten,a∈F.A₀\/F.H₀ a=none:=λa h=>by
      rcases t.new a h with z |z
      .exact nw a z
      .by_cases hA:a∈F.A₀
       .exact .inl hA
       .refine .inr ?_;cases e:F.H₀ a with
        |none=>rfl
        |some o=>have:=y.kept a o hA e;rw[z]at this;cases this
     have lj:(iH js U).length=U.length:=ET;let⟨O4,u1,u2⟩:=EU (fp:=[]) ja lj (by rw[q0D];exact Z) (M.mono D) G;exact#[c,_,O4,hm,u1,q]
  have hl:(m++[]).length=ps.length:=by rw[q0D,<-r.length];exact len _ _ _ _ sp
  refine wpAny_call (codeAny_mono (run s H m vs Q EX I.env0 (by have:=hb s m I.kIn hl;rw[q0D]at this;exact this) r sp) λr s' hq=>?_);cases r with
  |error e=>let⟨a,C,b,e1,I',cv,ex,c,J,N,hm,a3,hE⟩:=I.flies hq;exact hx.2 l Y b s' e c J N #[I',a,C,s.heap,_,e1,cv,ex,hm] a3 hE
  |ok fl=>
   cases fl with
   |ret u=>exact I.after hq
   |next=>exact False.elim hq
   |brk=>exact False.elim hq
   |cont=>exact False.elim hq
def zh{Y:St}(t:eL X F E)(G:cR X.prog X.w X.K X.mg X.base (du X.prog X.w) k g fd ps (ff X.K X.mg f))(m:bH k X.A)(u:iW X.K fd ps [])
  (I:Inv X a Y H s) (r:bv vs us) (st:aF X.K F H Y U O) (n:dI Y (aB O H) vs as) (q:iI f E i as U) (o:∀c j,i c j->∀v d l fp,iG X.K F d Y j l v c fp->aR O H l d->Q v d) :
  wpAny (model X.prog X.w) X.A (call (.ref g) us) (EP X a Y Q) X.xe s:=
 EW t G.len (λs H us vs Q E e b r h=>G.run X.A X.stack s H #[us,[]] us vs Q E m e b r h) u I r st n q o
def RW{pos:Pos}{p:Pos}(T:eL X F E)(G:cR X.prog X.w X.K X.mg X.base (du X.prog X.w) k g fd ps (ff X.K X.mg f))(J:bH k X.A)(L:Gl X x)(M:X.mg x=!.ref g)(N:keepIn X.K (.ref g)=true)(Z:iW X.K fd ps [])
  (o:DX X F (e::es) tX) (t:autoParam ((x==("__debug__":Str))=false) Zr._auto_1) (R:autoParam (qSa X e es) Zq._auto_1) (u:autoParam (qSb X pos es) Zq._auto_1) :
  DO X F (.Call (.Name x p) (e::es) [] pos) (zg f E tX):=by
 refine#[λU Q Q' k q=>o.mn _ _ _ (λas b q1=>EV k q1) q,λi s Y H Q I j=>?_];let⟨U,O,st,q⟩:=j;refine wpAny_Call_Name_kw (pG I L M ?_ t);refine q1J I.ok.mod.kin N (aS (o.pa pos i s Y H (λvs l=>∃as b d,aF X.K F l Y b d/\aR O H d l/\dI Y (aB d l) vs as/\iI f E (λc B=>∀v m n fp,iG X.K F m Y B n v c fp->aR O H n m->Q v m) as b) I #[U,O,st,o.mn _ _ _ (λas b q1 vs l d a C y=>#[as,b,d,a,C,y,q1]) q]) λus C D=>#[by let⟨_,_,I1,_⟩:=D;exact I1.kIn,?_]) R u;let⟨vs,l,I1,r,as,b,d,a,z,y,q1⟩:=D;exact zh T G J Z I1 r a y q1 λc B h v m n fp res S=>h v m n fp res (z.trans S)
def mI(H:Hp)(O:List Addr):Prop:=∀a∈O,∃o,H a=!o/\Mv o
def mI.nofree(h:mI H O):∀p,H p=none->p∉O:=λp a z=>by let⟨o,e,_⟩:=h p z;lia
theorem aF.live{K}(st:aF K F H Y U O):mI H O:=by let⟨W,h,rfl⟩:=st;exact h.live
abbrev fu:=ag->(List PyData->ag->Prop)->Prop
def Wk(O:List Addr)(H:Hp)(J:It)(c:List PyData):Prop:=∀e b,aR O H e b->mI b e->
 (∀i d,c[i]? = !d->J.go i b/\∀x a,J.yld i b x a->bO b a/\DV (aB e a) x d)/\J.stop c.length b
def ry(K:Frag)(F:Fx)(s:fu):TI:=λY H R=>∃U O,aF K F H Y U O/\s U λb d=>∀J a c,aF K F a Y d c->aR O H c a->Wk c a J b->R J a
structure DI (X:Cx) (F:Fx) (tg iter:Expr) (s:fu):Prop where
 mn:∀U Q Q',(∀d U',Q d U'->Q' d U')->s U Q->s U Q'
 pi:PI X tg iter (ry X.K F s)
def _root_.L2.PI.imp(h:PI X b e t)(k:∀Y H Q,t' Y H Q->t Y H Q):PI X b e t':=λa s Y H Q I q=>h a s Y H Q I (k Y H Q q)
def iL(te:DT):fu:=λU Q=>te U λd f=>∃c,d=.list c/\Q c f
def iT(te:DT):fu:=λU Q=>te U λd f=>∃c,d=.tuple c/\Q c f
def RX{K}(l:aB O H a=!.lst c)(hd:aK (aB O H) c k):Wk O H (ym K a) k:=λt u s ok=>by let⟨m,n1⟩:=cZ l;have g:=s.keep a _ n1 m;refine#[λi d e=>?_,#[c,.of g,by rw[hd.length];exact bu _]];let⟨v,hv,n⟩:=(aK.mono s.hid hd).get e;refine#[#[c,v,.of g,hv],λx o f=>?_];let⟨q,r⟩:=f;subst q;have:=r c (.of g);rw[hv]at this;cases this;exact#[λ_ _ h=>h,n]
def RY{K}(m:Rd (aB O H) a (.tup c))(hd:aK (aB O H) c l):Wk O H (yn K a) l:=λy n s ok=>by
 let⟨q,n1⟩:=iB m;have j:Rd n a (.tup c):=q.imp (λe=>s.keep a _ n1 e) λf=>by let⟨o,e⟩:=f;exact#[o,s.keep a _ n1 e]
 refine#[λi d e=>?_,#[c,.inl j,by rw[hd.length];exact bu _]];let⟨v,hv,r⟩:=(aK.mono s.hid hd).get e;refine#[#[c,v,.inl j,hv],λx t g=>?_];let⟨u,w⟩:=g;subst u;have:=w c (.inl j);rw[hv]at this;cases this;exact#[λ_ _ h=>h,r]
def RZ(h:DE X F e te):DI X F tg e (iL te):=
 #[λ_ _ _ k q=>h.mn _ _ _ (λ_ _ c=>by let⟨l,e,q⟩:=c;exact#[l,e,k _ _ q]) q,(NK h.pe).imp λY H R f=>by let⟨U,O,st,q⟩:=f;exact 
  #[U,O,st,h.mn _ _ _ (λd t g v m n i o r=>by
   let⟨l,e,q1⟩:=g;subst e;let⟨a,s,rfl,j,hd⟩:=r.lst_inv;exact#[a,rfl,#[s,.of (cZ j).1],q1 _ m n i o (RX j hd)]) q]]
def Sa(h:DE X F e te):DI X F tg e (iT te):=
 #[λ_ _ _ k q=>h.mn _ _ _ (λ_ _ c=>by let⟨l,e,q⟩:=c;exact#[l,e,k _ _ q]) q,(NL h.pe).imp λY H R f=>by let⟨U,O,st,q⟩:=f;exact 
  #[U,O,st,h.mn _ _ _ (λd t g v m n i o r=>by
   let⟨l,e,q1⟩:=g;subst e;let⟨a,s,rfl,j,hd⟩:=r.tup_inv;exact#[a,rfl,#[s,.inl (iB j).1],q1 _ m n i o (RY j hd)]) q]]
noncomputable def intsFrom(lo:Int)(n:Nat):List PyData:=(List.range n).map λ(i:Nat)=>PyData.int (lo+i)
def uT(lo n):(intsFrom lo n).length=n:=by unfold intsFrom;grind
def Sb{lo}:Wk O H (uv lo n) (intsFrom lo n):=λo q s ok=>by refine#[λi d e=>?_,by rw[uT];exact bu _];unfold intsFrom at e;rw[q0q]at e;let⟨j,k,l⟩:=q0i.mp e;let⟨c,g⟩:=q0a.mp k;rw[q1t]at c;rw[List.getElem_range]at g;subst g l;exact#[c,λx m f=>by let⟨q1,q2⟩:=f;subst q1 q2;exact#[λ_ _ h=>h,.int _]]
def EY(t:eV):fu:=λU Q=>t U λd c=>∃j:Int,d=[.int j]/\-(2 ^ 62)<=j/\j<2 ^ 62/\Q (intsFrom 0 j.toNat) c
def oi(n:Gl X "range")(o:X.mg "range" = none)(h:DA X F [a] tA)(w:autoParam (qSd X a) Zq._auto_1):DI X F tg (.Call (.Name "range" p) [a] [] pos) (EY tA):=
 #[λ_ _ _ k q=>h.mn _ _ _ (λ_ _ c=>by let⟨j,e,i,l,q⟩:=c;exact#[j,e,i,l,k _ _ q]) q,(NO n o h.pa w).imp λY H R f=>by let⟨U,O,st,q⟩:=f;exact 
  #[U,O,st,h.mn _ _ _ (λy x g vs s t m u v=>by
   let⟨j,e,i,l,q1⟩:=g;subst e;cases v with
   |cons d r=>
    cases r;obtain rfl:=d.int_inv;exact#[j,rfl,i,l,q1 _ s t m u Sb]) q]]
noncomputable def numbered(c:List PyData):List PyData:=c.mapIdx λi d=>PyData.tuple [.int i,d]
def iE(t:eV):fu:=λU Q=>t U λf d=>∃c,f=[.list c]/\Q (numbered c) d
def uU(C:Gl X "enumerate")(D:X.mg "enumerate" = none)(t:DA X F [a] tA)(S:autoParam (qSd X a) Zq._auto_1):DI X F (.Tuple c B f) (.Call (.Name "enumerate" p) [a] [] pos) (iE tA):=
 #[λ_ _ _ k q=>t.mn _ _ _ (λ_ _ g=>by let⟨j,e,q⟩:=g;exact#[j,e,k _ _ q]) q,(Qr C D t.pa S).imp λY H R h=>by let⟨U,O,st,q⟩:=h;exact 
  #[U,O,st,t.mn _ _ _ (λds Z l vs E G u I J=>by
   let⟨es,e,q1⟩:=l;subst e;cases J with
   |cons d r=>
    cases r;let⟨a,o,rfl,hx,hd⟩:=d.lst_inv;let⟨m,w⟩:=cZ hx;refine#[a,o,rfl,.of m,q1 _ E G u I λO' H' s ok=>?_];have z:=s.keep a _ w m;have A:=aK.mono s.hid hd;refine#[λi d e=>?_,#[o,.of z,by unfold numbered;rw[List.length_mapIdx,hd.length];exact bu _]];unfold numbered at e;rw[List.getElem?_mapIdx]at e;let⟨d0,L,M⟩:=q0i.mp e;subst M;let⟨v,hv,N⟩:=A.get L;refine#[#[o,v,.of z,hv],λx Q n=>?_];let⟨T,y,q1,q2,q3,q4⟩:=n;subst q1 q3;have:=q4 o (.of z);rw[hv]at this;cases this;exact#[cp q2,kD q2 (ok.nofree T q2) (.cons (.int _) (.cons N .nil))]) q]]
noncomputable def cN(d c:List PyData):List PyData:=(d.zip c).map λq=>PyData.tuple [q.1,q.2]
def Sc(s:fu)(g:fR)(c:eM):eM:=λD U=>s U λa e=>∃b:Nat->ag->Prop,b 0 e/\(∀i d U,a[i]? = !d->b i U->g d U λf=>c { D with nx:=b (i+1),ct:=b (i+1),bk:=D.nx } f)/\∀U,b a.length U->D.nx U
def Sd(hp:PassesOwn (model X.prog X.w) X.A X.env X.xe)(hc:X.calm=true)(hi:DI X F tg iter s)(hg:DG X F tg g)(hb:ig X F body tb)(hs:autoParam (∀x,foldedSetIterable iter X.env x=pure x) Zs._auto_1):DS X F (.For tg iter body [] pos) (Sc s g tb):=
 (NR hp hc hi.pi hg.pg hb hs).imp λD Y H y=>by
  let⟨U,O,DD,st,q,f⟩:=y;refine#[U,O,st,hi.mn _ _ _ (λa U1 z J M B Q R wk=>?_) q];let⟨N,i0,step,fin⟩:=z;refine⟨λi m S C=>∃l u,aF X.K F C S l u/\aR B M u C/\N i l/\i<=a.length/\m=a.length - i,#[a.length,U1,B,Q,.refl,i0,q0K _,rfl],?_⟩;rintro i m S C ⟨l,u,n,T,iv,a3,rfl⟩;let⟨w1,w2⟩:=wk u C T n.live
  by_cases o:i<a.length
  .let⟨go,yld⟩:=w1 i a[i] (q0j o);refine .inr ⟨go,λY2 E=>∃c p,aF X.K F E Y2 c p/\aR B M p E/\N (i+1) c,λY2 E G=>by let⟨c,p,Z,s2,a0⟩:=G;exact#[a.length - (i+1),by lia,c,p,Z,s2,a0,o,rfl],λx E hy=>?_⟩;let⟨sm,dv⟩:=yld x E hy;refine#[l,u,a[i],n.grow sm,dv,hg.mn _ _ _ _ (λc q2 Y3 H3 O3 a1 s3=>?_) (step i a[i] l (q0j o) iv)];have r:aR B M O3 H3:=T.trans ((aR.same sm).trans s3);have I:∀t h j k,aF X.K F h t j k->aR O3 H3 k h->N (i+1) j->∃c p,aF X.K F h t c p/\aR B M p h/\N (i+1) c:=λt h j k b L q4=>#[j,k,b,r.trans L,q4]
   exact#[c,O3,_,a1,q2,#[I,λv t h d j k a2 b L q4=>f.rt v t h d j k a2 b (R.trans (r.trans L)) q4,λt h j k b L q4=>f.nx t h j k b (R.trans (r.trans L)) q4,I]]
  .have e:i=a.length:=by lia
   subst e;exact .inl #[w2,f.nx S C l u n (R.trans T) (fin l iv)]
def Se(c:dt)(f:eM):eM:=λD U=>∃(d:ag->Prop) (μ:ag->Nat),d U/\∀U,d U->c U λb e=>if b=true then f { D with nx:=λa=>d a/\μ a<μ U,ct:=λa=>d a/\μ a<μ U,bk:=D.nx } e else D.nx e
def Sf(N:PassesOwn (model X.prog X.w) X.A X.env X.xe)(I:DB X F c tc)(hb:ig X F body tb):DS X F (.While c body [] pos) (Se tc tb):=
 (ND N I.pt hb).imp λD Y H n=>by
  obtain⟨U,O,DD,st,⟨s,μ,Q,step⟩,f⟩:=n;refine⟨λm J y=>∃g t,aF X.K F y J g t/\aR O H t y/\s g/\m=μ g,#[μ U,U,O,st,.refl,Q,rfl],?_⟩;rintro m J y ⟨g,t,z,u,R,rfl⟩;refine#[g,t,z,I.mn _ _ _ (λb S q1 T L o x=>?_) (step g R)];cases b with
  |false=>exact fP (f.nx _ _ _ _ o (u.trans x) (mF q1))
  |true=>
   refine fQ ⟨λM B=>∃e k,aF X.K F B M e k/\aR O H k B/\s e/\μ e<μ g,λM B p=>by let⟨e,k,C,Z,E,lt⟩:=p;exact#[μ e,lt,e,k,C,Z,E,rfl],?_⟩;have q:∀l h i j,aF X.K F h l i j->aR L T j h->(s i/\μ i<μ g)->∃e k,aF X.K F h l e k/\aR O H k h/\s e/\μ e<μ g:=λl h i j a r q4=>#[i,j,a,u.trans (x.trans r),q4]
   exact#[S,L,_,o,mE q1,#[q,λv l h d i j G a r q4=>f.rt v l h d i j G a (u.trans (x.trans r)) q4,λl h i j a r q4=>f.nx l h i j a (u.trans (x.trans r)) q4,q]]
@[simp]noncomputable def rz:Option (Option af)->Option af
 |some (!.dat d)=>some (.dat d)
 |some (!.scr ns)=>some (.scr ns)
 |some (!.vw b)=>some (.vw b)
 |_=>none
def gE(own:List Str)(a:List Nat)(U:ag):ag:=own.map (λ_=>none)++a.map λj=>rz U[j]?
def rA(own:List Str)(f:List Nat)(s:fu)(g:fR)(l:dt)(m:DT):DT:=λU Q=>s U λc j=>∃e:Nat->List PyData->ag->Prop,e 0 [] (gE own f j)/\
 (∀i d a h,c[i]? = !d->e i a h->g d h λn=>l n λb k=>if b=true then m k λy o=>a.length<sizeLine/\e (i+1) (a++[y]) o else e (i+1) a k)/\
 ∀a h,e c.length a h->a.length<=sizeLine/\Q (.list a) j
def mJ(s:fu):Prop:=∀U Q a,(∀d b,Q d b->a d b)->s U Q->s U a
def zi(j:mJ s):Mn (rA own caps s g tc te):=λ_ _ _ k q=>j _ _ _ (λ_ _ a=>by let⟨e,f,i,b⟩:=a;exact#[e,f,i,λc d h=>#[(b c d h).1,k _ _ (b c d h).2]]) q
def zj{P:af->V->Prop}(d:∀j∈caps,∀c,f j=!c->∃v,Y[j]? = !!v/\P c v){i:Nat}(e:(own.map (λ_=>none)++caps.map f)[i]? = !!c):∃v,(ib own caps Y)[i]? = !!v/\P c v:=by
 unfold ib
 by_cases a:i<own.length
 .rw[q0S (by simpa using a),q0q]at e;grind
 .rw[q0J 'h',q0d,q0q]at e;rw[q0J 'h',q0d,q0q];let⟨j,b,k⟩:=q0i.mp e;let⟨v,l,m⟩:=d j (q0w b) c k;simp_all
abbrev uV(K:Frag)(H:Hp)(O:List Addr)(c:af)(v:V):Prop:=(∀io b,c≠.own io b)/\fr K H O v c []
def EZ{K:Frag}(h:aF K F m Y f n)(j:Nat)(c)(a:rz f[j]? = !c):∃v,Y[j]? = !!v/\uV K m n c v:=by
 let⟨W,i,rfl⟩:=id h;cases e:f[j]? with
 |none=>simp_all
 |some o=>
  cases o with
  |none=>simp_all
  |some p=>
   rw[e]at a;let⟨v,fp,k,_,l⟩:=i.at_ j p e;cases p with
   |dat d=>cases a;exact#[v,k,(λ_ _ z=>by cases z),l]
   |scr ns=>cases a;exact#[v,k,(λ_ _ z=>by cases z),l]
   |own _ _=>cases a
   |exc _=>cases a
   |vw b=>cases a;exact#[v,k,(λ_ _ z=>by cases z),l]
def Fa{K:Frag}(l:∀j∈caps,∀c,f j=!c->∃v,Y[j]? = !!v/\uV K d L c v)(q:L.Nodup)(m:mI d L):aF K #[d,[],L,λ_=>0] d (ib own caps Y) (own.map (λ_=>none)++caps.map f) L:=by
 have k:(List.replicate (own.map (λ_=>none)++caps.map f).length ([]:List Addr)).flatten++L=L:=by rw[uS];rfl
 refine#[List.replicate (own.map (λ_=>none)++caps.map f).length [],#[λi c e=>?_,by show(_++L).Nodup;rw[k];exact q,λ_ _ _ h=>h,λa h=>?_,by show mI d (_++L);rw[k];exact m,by unfold ib;simp,by simp,λi b e=>?_],k.symm]
 .let⟨v,o,_,p⟩:=zj l e;refine#[v,[],o,?_,by show fr K d (_++L) v c [];rw[k];exact p];rw[q1e,if_pos (q0a.mp e).1]
 .rw[uS]at h;cases h
 .let⟨_,_,n,_⟩:=zj l e;exact absurd rfl (n true b)
abbrev rB(K:Frag)(f:Fx)(a:List PyData)(h:Nat->List PyData->ag->Prop):Nat->Nat->List V->St->Hp->Prop:=λi m j k b=>∃c d e,aF K f b k c d/\h i e c/\aK (aB d b) j e/\i<=a.length/\m=a.length - i
def zk{K:Frag}{r:Fx->Prop}(w:r h)(N:∀d U Q L,(∀c,Q c->L c)->g d U Q->g d U L)(ht:jS tc)(O:Mn te)
  (step:∀i d e c,a[i]? = !d->k i e c->g d c λz=>tc z λb m=>if b=true then te m λy A=>e.length<sizeLine/\k (i+1) (e++[y]) A else k (i+1) e m)
  (j) (C:aF K h B M c t) (R:k i l c) (S:aK (aB t B) e l) (o:bO B n) (T:DV (aB t n) x a[i]) :
  ∃f,r f/\og K f g x M n λu n=>∃f,r f/\kE K f tc u n λb D=>if b=true then ∃f,r f/\iD K f te u D λy E=>e.length<sizeLine/\∃p,p<a.length - i/\rB K h a k (i+1) p (e++[y]) u E else ∃p,p<a.length - i/\rB K h a k (i+1) p e u D:=by
 refine#[h,w,c,t,a[i],C.grow o,T,N _ _ _ _ (λz q2 Y3 D X G Y=>?_) (step i a[i] l c (q0j j) R)];refine#[h,w,z,X,G,ht _ _ _ (λb m q3 E H q Z=>?_) q2];have I:=aK.mono Z.hid (aK.mono Y.hid (aK.mono (kB o) S));cases b with
 |false=>exact fP #[a.length - (i+1),by lia,m,H,l,q,mF q3,I,j,rfl]
 |true=>refine fQ #[h,w,m,H,q,O _ _ _ (λy A q4 v H5 O5 J s5 dy=>?_) (mE q3)];exact#[by rw[I.length];exact q4.1,a.length - (i+1),by lia,A,O5,l++[y],J,q4.2,(aK.mono s5.hid I).append (.cons dy .nil),j,rfl]
def Fb{K:Frag}{M:Fx->Prop}(hP:∀A Y B C O2,aF K F A Y B C->M #[A,[],O2,λ_=>0])(hs:mJ s)(hg:∀d U Q Q',(∀r,Q r->Q' r)->g d U Q->g d U Q')(ht:jS tc)(he:Mn te):∀Y  H  Q,(∃U O,aF K F H Y U O/\s U λf B=>∃u:Nat->List PyData->ag->Prop,u 0 [] (gE own caps B)/\
   (∀i d l r,f[i]? = !d->u i l r->g d r λU2=>tc U2 λb U3=>if b=true then te U3 λy U4=>l.length<sizeLine/\u (i+1) (l++[y]) U4 else u (i+1) l U3)/\
   ∀l r,u f.length l r->l.length<=sizeLine/\∀n D vs p,aF K F n Y B D->aR O H D n->aK (aB D n) vs l->n p=none->Q (.ref p) (aM n p (.lst vs)))->
  my own caps (ry K F s) (λv Y H Q=>∃t,M t/\og K t g v Y H Q) (λY H Q=>∃t,M t/\kE K t tc Y H Q) (λY H Q=>∃t,M t/\iD K t te Y H Q) Y H Q:=λY H Q E=>by
 let⟨U,O,st,q⟩:=E;refine#[U,O,st,hs _ _ _ (λf B G J A C k s1 wk=>?_) q];let⟨u,i0,step,fin⟩:=G;let⟨W,N,R⟩:=id k;refine#[rB K #[A,[],C,λ_=>0] f u,#[f.length,gE own caps B,C,[],Fa (λj _ c h=>EZ k j c h) (by rw[R];exact N.nd) k.live,i0,.nil,q0K _,rfl],?_];rintro i m l Y' n ⟨r,D,ds,w,iv,S,hi,rfl⟩;let⟨W',h',I⟩:=id w;have T:bO A n:=λb o e=>h'.kept b o 'd' e;have X:aR C A D n:=#[λb o _ e=>T b o e,λa h=>by
  rw[I]at h;rcases q0b.mp h with h |h
  .exact(h'.new a h).elim (λz=>absurd z 'd') .inr
  .exact .inl h]
 let⟨w1,w2⟩:=wk D n X w.live
 by_cases L:i<f.length
 .let⟨go,yld⟩:=w1 i f[i] (q0j L);refine .inr #[go,λx H2 hy=>?_];let⟨Z,dx⟩:=yld x H2 hy;exact zk (hP _ _ _ _ _ k) hg ht he step L w iv S Z dx
 .obtain rfl:i=f.length:=by lia
  let⟨hz,q⟩:=fin ds r iv;exact .inl #[w2,by rw[S.length];exact hz,λp hp=>q n C l p (k.grow T) (s1.trans (.same T)) (aK.mono (uK λa h=>by rw[I];exact bq _ h) S) hp]
def Fc{K:Frag}{i:Fx->Prop}(t:∀k Y l u w,aF K F k Y l u->i #[k,[],w,λ_=>0])(r:mJ s)(x:∀d U Q m,(∀c,Q c->m c)->g d U Q->g d U m)(I:jS tc)(y:Mn te):∀Y H Q,iD K F (rA own caps s g tc te) Y H Q->
  my own caps (ry K F s) (λv Y H Q=>∃a,i a/\og K a g v Y H Q) (λY H Q=>∃a,i a/\kE K a tc Y H Q) (λY H Q=>∃a,i a/\iD K a te Y H Q) Y H Q:=λY H Q z=>by
 let⟨U,O,st,q⟩:=z;refine Fb t r x I y Y H Q #[U,O,st,r _ _ _ (λA l z=>?_) q];let⟨B,C,step,fin⟩:=z;exact#[B,C,step,λn c h=>#[(fin n c h).1,λJ D vs p f E G j=>(fin n c h).2 (.ref p) _ D (f.grow λb o e=>cp j _ _ e) (E.trans (.same λb o e=>cp j _ _ e)) (lB j (f.nofree p j) G)]]
def pQ(X:Cx)(F:Fx)(a:List Expr)(t:dt):Prop:=jS t/\pM X a (kE X.K F t)
def Sg:dt:=λU Q=>Q true U
def Si:pQ X F [] Sg:=#[λ_ _ _ k q=>k _ _ q,λa s Y H Q I b=>by let⟨U,O,st,q⟩:=b;exact PY a s Y H Q I (q H O st .refl)]
def Sk(j:GF X.mg F)(S:al X scope own capN caps)(k:X.calm=true)(i:DI X F tg iter s)
  (c:∀C fp d e f b,GF X.mg b->DG (cy X scope (own++capN) C fp d e f) b tg g/\pQ (cy X scope (own++capN) C fp d e f) b ifs tc/\DE (cy X scope (own++capN) C fp d e f) b elt te)
  (n:autoParam (∀x,foldedSetIterable iter X.env x=pure x) Zs._auto_1):DE X F (.ListComp elt [#[tg,iter,ifs,0]] scope pos) (rA own caps s g tc te):=by
 let⟨l,ht,m⟩:=c 0 [] (PySem.start X.prog).1 (λ_=>none) [] F j;refine#[zi i.mn,(uI S k i.pi (λC fp d e f=>#[λa s Y H v u Q I r k1=>(by let⟨b,h,q⟩:=k1;exact(c C fp d e f b h).1.pg a s Y H v u Q I r q),λa s Y H Q I k2=>(by let⟨b,h,q⟩:=k2;exact(c C fp d e f b h).2.1.2 a s Y H Q I q),λa s Y H Q I k3=>(by let⟨b,h,q⟩:=k3;exact(c C fp d e f b h).2.2.pe a s Y H Q I q)]) n).imp (Fc (λ_ _ _ _ _ st=>j.into st) i.mn l.mn ht.1 m.mn)]
def Sl{e}(w:X.N.Nodup)(m:X.N[i]? = !y)(R:Loc X.env.scope y)(t:GF X.mg F)(S:al X scope own capN caps)(z:X.calm=true)(n:DI X F tg iter s)
  (c:∀C fp h j k b,GF X.mg b->DG (cy X scope (own++capN) C fp h j k) b tg g/\pQ (cy X scope (own++capN) C fp h j k) b ifs tc/\DE (cy X scope (own++capN) C fp h j k) b elt te)
  (o:autoParam (swapsWith (.ListComp elt [#[tg,iter,ifs,0]] scope pos) (!.Name y py) e.line X.env=pure true) Zq._auto_1)
  (T:autoParam (∀x,foldedSetIterable iter X.env x=pure x) Zs._auto_1) (A:autoParam (X.fn y=true\/X.env.scope.names.lookup y=!.local) Zqa._auto_1) :
  DS X F (.Assign [.Name y py] (.ListComp elt [#[tg,iter,ifs,0]] scope pos) e) (uR (rA own caps s g tc te) (gN i)):=by
 let⟨B,ht,E⟩:=c 0 [] (PySem.start X.prog).1 (λ_=>none) [] F t;refine(Ek w m R S z n.pi (λC fp h j k=>#[λa s Y H v u Q I r ⟨b,l,q⟩=>(c C fp h j k b l).1.pg a s Y H v u Q I r q,λa s Y H Q I ⟨b,l,q⟩=>(c C fp h j k b l).2.1.2 a s Y H Q I q,λa s Y H Q I ⟨b,l,q⟩=>(c C fp h j k b l).2.2.pe a s Y H Q I q]) o T A).imp
  λD Y H ⟨U,O,Z,st,q,f⟩=>Fc (λ_ _ _ _ _ st=>t.into st) n.mn B.mn ht.1 E.mn Y H _ #[U,O,st,zi n.mn _ _ _ (λd U1 q1 v G J p L M=>f.nx _ G _ J (p.set M) L q1) q]
end L2.L3
namespace L2
open PySem PySem.Spec PyProof.Rows
def Inv.track{Y:St}(I:Inv X pins Y H s)(f:iU X pins H a)(new:dh X.prog X.w (aM H a o) s.heap a o):Inv X pins Y (aM H a o) s:=by
 have g:=f.1;refine I.step (λb h=>by obtain rfl:=q0l.mp h;exact#[f.2.2.2.1,f.2.1,f.2.2.2.2.1,f.2.2.2.2.2]) (λb d _ _ _ e _=>e) (λb d _ _ _ e _=>#[d.slots,e])
  (λb d i _ n=>by rw[bt (λz=>i (by simp[z]))];exact n) (λb d _ e=>#[d,e]) (λb j e=>cp g b _ e) (λb d u e=>cp g b _ e) (λb l e=>#[#[],by rw[cp g b _ e];simp]) (λm k=>k) (λb u e=>?_) I.bare
 by_cases h:b=a
 .subst h;rw[cI]at e;lia
 .rw[bt h]at e;exact(I.hok b u e).stay (λ_ _ _ q=>q) (λc q=>cp g c _ q) λc j q=>cp g c _ q
def vals3(r:bv [x,y,z] a):∃u v w,a=[u,v,w]/\bj x u/\bj y v/\bj z w:=by
 cases r with
 |cons b r=>cases r with
  |cons c r=>cases r with
   |cons d r=>cases r;exact#[_,_,_,rfl,b,c,d]
def Sm(t:TA):TE:=λY H Q=>t Y H λvs d=>∃k l m e g h,vs=[.ref k,.ref l,.ref m]/\d k=!.lst e/\d l=!.lst g/\d m=!.lst h/\g.length=e.length/\h.length=e.length/\0<e.length/\
 ∀p f (j:List Addr),bO d f->d p=none->f p=!.lst (j.map V.ref)->j.length=e.length->(∀(i:Nat) (q:Addr),j[i]? = !q->∃x y z,e[i]? = !x/\g[i]? = !y/\h[i]? = !z/\d q=none/\f q=!.tup [x,y,z])->Q (.ref p) f
def Sn{pos:Pos}{p1:Pos}(hc:X.calm=true)(a0:Gl X "list")(a6:X.mg "list" = none)(a7:Gl X "zip")(a8:X.mg "zip" = none)(ha:PA X [a,b,c] t)
  (he:autoParam (qSd X (.Call (.Name "zip" p2) [a,b,c] [] pos2)) Zq._auto_1)
  (hs:autoParam (qSa X a [b,c]) Zq._auto_1) (a9:autoParam (qSb X pos2 [b,c]) Zq._auto_1) :
  PE X (.Call (.Name "list" p1) [.Call (.Name "zip" p2) [a,b,c] [] pos2] [] pos) (Sm t):=by
 intro d s Y H Q I h;refine wpAny_Call_Name_kw (jK I a0 a6 (show bootBuiltins "list" = some (.type "list") by decide +kernel) ?_ 'f' 'f');refine PyProof.Rows.callWith_type1 ?_ (by rw[he];rfl) rfl;rw[he];show wpAny _ _ (spliced [(false,eval (.Call (.Name "zip" p2) [a,b,c] [] pos2) X.env)]) _ _ s;refine Calls.spliced_cons ?_;refine wpAny_Call_Name_kw (jK I a7 a8 boot_zip ?_ 'f' 'f');refine PyProof.Rows.callWith_type1 (aS (ha pos2 d s Y H _ I h) λus l A=>?_) hs a9;let⟨vs,B,I1,r1,q1⟩:=A;let⟨l1,l2,l3,j,U,Z,rfl,h1,E,h3,e2,e3,b9,q⟩:=q1;let⟨u1,u2,u3,rfl,b0,b1,b2⟩:=vals3 r1;cases b0;cases b1;cases b2;let⟨z1,G,n1,L,g1⟩:=I1.hok _ _ h1;let⟨z2,M,n2,O,g2⟩:=I1.hok _ _ E;let⟨z3,R,n3,S,g3⟩:=I1.hok _ _ h3;have C:∀{u},(∀c o,l.heap.get? c=!o->u.get? c=!o)->jb u [(l1,true),(l2,true),(l3,true)] [G,M,R]:=λk=>.cons #[_,k _ _ g1,rfl,_,rfl] (.cons #[_,k _ _ g2,rfl,_,rfl] (.cons #[_,k _ _ g3,rfl,_,rfl] .nil));refine En (ls:=[(l1,true),(l2,true),(l3,true)]) (C λ_ _ e=>e).mem 'd' (show 3<9 by decide) 'k' 'k' (λ_=>by unfold argsOk;rw[signature?_of (id:="object.__init__") (n:=['_','_','t','i','n','i','_','_']) (o:=['t','c','e','j','b','o']) 'k' F.owner_object];kernel_rfl) λu z TI TO ps D st e kp ge=>?_;refine Calls.spliced_nil ?_;refine Qf (s:={ l with heap:=u }) (N:=j.length) (I1.ok.hd hc) D st (C kp) e (λt m=>?_) z1 λE c pZ hS tr=>?_
 .simp only[q0c,q0z,or_false]at m;rcases m with rfl |rfl |rfl
  .exact L.length.symm
  .exact O.length.symm.trans e2
  .exact S.length.symm.trans e3
 have I2:Inv X d Y B { l with heap:=u }:=I1.kept (t':=l.toks) kp;have I3:Inv X d Y B { l with heap:=E }:=I1.kept (t':=l.toks) λb ob e=>pZ b ob (λm=>absurd (ge b (.tail _ m)) (Nat.not_le.mpr (bS e))) (kp b ob e);have big:∀b,u.objs.size<=b->iU X d B b:=λb p=>I2.fpOk p (I2.hok.fresh p);have vq:∀qs:List Addr,bv (qs.map V.ref) (qs.map Value.ref):=λqs=>by
  induction qs with
  |nil=>exact .nil
  |cons q r ih=>exact .cons rfl ih
 generalize hn:u.objs.size=n at *;have I4:Inv X d Y (aM B n (.lst (((List.range j.length).map (n+1+·)).map V.ref))) { l with heap:=E }:=I3.track (big _ (bu _)) #[by rw[q0d,q0d,q1t];exact z1,_,_,vq _,by rw[q0W];exact hS];have all:∀k,k<=j.length->∃g,bO B g/\Inv X d Y g { l with heap:=E }/\g n=!.lst (((List.range j.length).map (n+1+·)).map V.ref)/\(∀b,n+1+k<=b->g b=none)/\
   ∀i,i<k->∃x y z,j[i]? = !x/\U[i]? = !y/\Z[i]? = !z/\g (n+1+i)=!.tup [x,y,z]:=λk=>by
  induction k with
  |zero=>exactλ_=>#[_,cp (big _ (bu _)).1,I4,cI,λb (p:n<b)=>by rw[bt (q06 p)];exact(big b (q1C p)).1,λi h=>absurd h (q1b _)]
  |succ k ih=>
   intro v;let⟨g,sm,J,hp,T,f⟩:=ih (q1a v);have vx:j[k]? = some j[k]:=q0j v;have vy:U[k]? = !U[k]''a':=q0j 'a';have vz:Z[k]? = !Z[k]''a':=q0j 'a';let⟨w1,b3,b4⟩:=L.get vx;let⟨w2,b5,b6⟩:=O.get vy;let⟨w3,b7,b8⟩:=S.get vz;have tk:=tr k v;simp only[q0h,q07,List.getD,b3,b5,b7,Option.getD_some]at tk;have hn:=T (n+1+k) (bu _);refine#[aM g (n+1+k) (.tup [j[k],U[k]''a',Z[k]''a']),λb o e=>cp hn _ _ (sm b o e),J.track #[hn,(big _ 'a').2] #[by show 3<=sizeLine;decide,_,.cons b4 (.cons b6 (.cons b8 .nil)),#[_,tk,rfl,_,rfl]],
    by rw[bt (q0s 'a')];exact hp,λb p=>by rw[bt (q06 (show n+1+k<b from p))];exact T b (q1C p),λi w=>?_]
   rcases q19.mp w with w |rfl
   .let⟨x,y,z,a1,a2,a3,a5⟩:=f i w;exact#[x,y,z,a1,a2,a3,cp hn _ _ a5]
   .exact#[_,_,_,vx,vy,vz,cI]
 let⟨g,sm,J,hp,_,f⟩:=all j.length (bu _);refine#[.ref n,g,J,rfl,q n g _ sm (big _ (bu _)).1 hp (by rw[q0d,q1t]) λi qq e=>?_];rw[q0q]at e;let⟨i',e1,rfl⟩:=q0i.mp e;let⟨w,rfl⟩:=q0a.mp e1;rw[q1t]at w;rw[List.getElem_range];let⟨x,y,z,a1,a2,a3,a4⟩:=f i w;exact#[x,y,z,a1,a2,a3,(big _ 'a').1,a4]
def So(E:X.calm=true):hU X (.builtin "all") (λp H Q=>∃(l:Addr) (bs:List Bool),p=[.ref l]/\H l=!.lst (bs.map V.bl)/\Q (.bl (bs.all id)) H):=by
 intro y s Y H p U Q I r h;let⟨l,bs,rfl,G,q⟩:=h;let⟨u,rfl,ru⟩:=vals1 r;cases ru;let⟨z,d,n,B,e⟩:=I.hok _ _ G;have L:s.heap.IsList l d.toArray:=#[_,e,rfl,_,rfl]
 have f:l<s.heap.objs.size:=bS e;have len:=B.length;rw[q0d]at len;refine call_all_walk (wpAny_pyIter_list L ?_);refine#[s.heap.objs.size,_,_,_,_,_,λi=>bs.getD i true,rfl,Walks.list (A:=X.A.in1) (show X.A.in1.handled=none from I.ok.hd E) s.heap.objs.size l (q0s f) d.toArray,#[#[_,Heap.get?_push_size _ rfl,rfl,rfl],L.push _],?_,λZ tk J=>?_]
 .intro i v M N E' S k;have g:d[i]? = !v:=by simpa using S
  have f:i<bs.length:=by rw[len];exact(q0a.mp g).1
  let⟨w,C,m⟩:=B.get (i:=i) (x:=.bl bs[i]) (by rw[q0q,q0j f];rfl);rw[g]at C;cases C;cases m;refine wpAny_truthy_bool ?_;have:bs.getD i true=bs[i]:=by simp[List.getD,f]
  have k:N (bs.getD i true) M:=k;rw[this]at k;exact k
 .have O:(List.range d.toArray.size).all (λi=>bs.getD i true)=bs.all id:=by
   rw[q0y,<-len];rw[Bool.eq_iff_iff,q02,q02];constructor
   .intro h b T;let⟨i,g,rfl⟩:=q1B T;have:=h i (q2f.mpr g);simpa[List.getD,g] using this
   .intro h i g;have j:=q2f.mp g;have:=h bs[i] (q0G j);simpa[List.getD,j] using this
  rw[O];exact#[.bl (bs.all id),H,I.kept λb o D=>J b o (λR=>absurd (bS D) (by rw[q0l.mp R];exact q0A _)) (ca _ D),rfl,q]
end L2
namespace L2.L3
open PySem PySem.Spec PyProof.Rows
def Fd:DN:=λb Q=>∃a,(b=[.list a]\/b=[.tuple a])/\Q (.int a.length)
def jU{K}:jT (λxs H Q=>∃p ys,xs=[.ref p]/\(dO K H p ys\/fq K H p ys)/\Q (.int ys.length) H) Fd where
 mn:=λ_ _ _ k zq1a=>by let⟨ds,e,q⟩:=zq1a;exact#[ds,e,k _ q]
 ok:=λO H vs xs Q hO hd zq2a=>by
  let⟨ds,e,q⟩:=zq2a;rcases e with rfl |rfl
  .cases hd with
   |cons d r=>cases r;let⟨a,ys,rfl,ha,hy⟩:=d.lst_inv;exact#[a,ys,rfl,.inl (.of (cZ ha).1),by rw[hy.length];exact q _ H (λ_ _ h=>h) (.int _)]
  .cases hd with
   |cons d r=>cases r;let⟨a,ys,rfl,ha,hy⟩:=d.tup_inv;exact#[a,ys,rfl,.inr (.inl (iB ha).1),by rw[hy.length];exact q _ H (λ_ _ h=>h) (.int _)]
def zl(h:aK H vs [a,b]):∃x y,vs=[x,y]/\DV H x a/\DV H y b:=by cases h with |cons d r=>cases r with |cons c r=>cases r;exact#[_,_,rfl,d,c]
def ij(h:aK H vs [a]):∃x,vs=[x]/\DV H x a:=by cases h with |cons d r=>cases r;exact#[_,rfl,d]
def rC(h:aK H vs [a,b,c]):∃x y z,vs=[x,y,z]/\DV H x a/\DV H y b/\DV H z c:=by cases h with |cons d r=>cases r with |cons f r=>cases r with |cons e r=>cases r;exact#[_,_,_,rfl,d,f,e]
def Fe:DN:=λa Q=>∃i j:Int,a=[.int i,.int j]/\Q (.int (max i j))
def uW:jT (λxs H Q=>∃i j,xs=[.int i,.int j]/\Q (.int (if j>i then j else i)) H) Fe where
 mn:=λ_ _ _ k zq1a=>by let⟨i,j,e,q⟩:=zq1a;exact#[i,j,e,k _ q]
 ok:=λO H vs xs Q hO hd zq2a=>by
  let⟨i,j,e,q⟩:=zq2a;subst e;let⟨x,y,rfl,h1,h2⟩:=zl hd;have e:(if j>i then j else i)=max i j:=by split<;>lia
  exact#[i,j,by rw[h1.int_inv,h2.int_inv],by rw[e];exact q _ H (λ_ _ h=>h) (.int _)]
def Ff:DN:=λa Q=>(∃i,a=[.int i]/\Q (.int i))\/∃b:Bool,a=[.bool b]/\Q (.int (if b then 1 else 0))
def Fg:jT (λxs H Q=>(∃i,xs=[.int i]/\Q (.int i) H)\/∃k,xs=[.bl k]/\Q (.int (if k then 1 else 0)) H) Ff where
 mn:=λ_ _ _ k q=>q.imp (λzq1a=>by let⟨i,e,q⟩:=zq1a;exact#[i,e,k _ q]) λzq2a=>by let⟨i,e,q⟩:=zq2a;exact#[i,e,k _ q]
 ok:=λO H vs xs Q hO hd q=>by
  rcases q with⟨i,e,q⟩ |⟨i,e,q⟩
  .subst e;let⟨x,rfl,h1⟩:=ij hd;exact .inl #[i,by rw[h1.int_inv],q _ H (λ_ _ h=>h) (.int _)]
  .subst e;let⟨x,rfl,h1⟩:=ij hd;exact .inr #[i,by rw[h1.bl_inv],q _ H (λ_ _ h=>h) (.int _)]
def Fh:DN:=λb Q=>(∃a,b=[.list a]/\Q (.tuple a))\/∃a,b=[.tuple a]/\Q (.tuple a)
def Fi{K}:jT (λxs H Q=>∃p ys,xs=[.ref p]/\((dO K H p ys/\∀l,H l=none->Q (.ref l) (aM H l (.tup ys)))\/(fq K H p ys/\Q (.ref p) H))) Fh where
 mn:=λ_ _ _ k q=>q.imp (λzq1a=>by let⟨i,e,q⟩:=zq1a;exact#[i,e,k _ q]) λzq2a=>by let⟨i,e,q⟩:=zq2a;exact#[i,e,k _ q]
 ok:=λO H vs xs Q hO hd q=>by
  rcases q with⟨ds,e,q⟩ |⟨ds,e,q⟩
  .subst e;let⟨x,rfl,h1⟩:=ij hd;let⟨a,ys,rfl,ha,hy⟩:=h1.lst_inv;exact#[a,ys,rfl,.inl #[.of (cZ ha).1,λp hp=>q _ _ (cp hp) (kD hp (hO p hp) hy)]]
  .subst e;let⟨x,rfl,h1⟩:=ij hd;let⟨a,ys,e,ha,hy⟩:=h1.tup_inv;subst e;exact#[a,ys,rfl,.inr #[.inl (iB ha).1,q _ H (λ_ _ h=>h) h1]]
def Fj:DN:=λa Q=>∃bs:List Bool,a=[.list (bs.map .bool)]/\Q (.bool (bs.all id))
theorem Fk:∀{bs:List Bool}{vs},aK H vs (bs.map PyData.bool)->vs=bs.map V.bl
 |[],_,h=>by cases h;rfl
 |b::r,_,h=>by
  cases h with
  |cons d q=>rw[d.bl_inv,Fk q];rfl
def Sq:jT (λxs H Q=>∃(l:Addr) (bs:List Bool),xs=[.ref l]/\H l=!.lst (bs.map V.bl)/\Q (.bl (bs.all id)) H) Fj where
 mn:=λ_ _ _ k zq1a=>by let⟨bs,e,q⟩:=zq1a;exact#[bs,e,k _ q]
 ok:=λO H vs xs Q hO hd zq2a=>by let⟨bs,e,q⟩:=zq2a;subst e;let⟨x,rfl,h1⟩:=ij hd;let⟨a,ys,rfl,ha,hy⟩:=h1.lst_inv;exact#[a,bs,rfl,by rw[(cZ ha).1,Fk hy],q _ H (λ_ _ h=>h) (.bl _)]
noncomputable def rD(as bs a:List PyData):List PyData:=(as.zip (bs.zip a)).map λq=>PyData.tuple [q.1,q.2.1,q.2.2]
def Fm(t:eV):DT:=λU Q=>t U λc b=>∃as bs a,c=[.list as,.list bs,.list a]/\bs.length=as.length/\a.length=as.length/\0<as.length/\Q (.list (rD as bs a)) b
def zm:∀{H vs a},vs.length=a.length->(∀(i:Nat) v d,vs[i]? = !v->a[i]? = !d->DV H v d)->aK H vs a:=λ{H vs a}=>by
 induction vs generalizing a with
 |nil=>intro e _;cases a with |nil=>exact .nil |cons _ _=>cases e
 |cons v vs k=>intro e h;cases a with
  |nil=>cases e
  |cons d a=>exact .cons (h 0 v d rfl rfl) (k (by simpa using e) λi b c f g=>h (i+1) b c (by simpa using f) (by simpa using g))
def Sr{pos:Pos}{p1:Pos}(hc:X.calm=true)(s:Gl X "list")(t:X.mg "list" = none)(u:Gl X "zip")(w:X.mg "zip" = none)(A:DA X F [a,b,c] tA)
  (he:autoParam (qSd X (.Call (.Name "zip" p2) [a,b,c] [] pos2)) Zq._auto_1)
  (hs:autoParam (qSa X a [b,c]) Zq._auto_1) (B:autoParam (qSb X pos2 [b,c]) Zq._auto_1) :
  DE X F (.Call (.Name "list" p1) [.Call (.Name "zip" p2) [a,b,c] [] pos2] [] pos) (Fm tA):=
 ⟨λ_ _ _ k q=>A.mn _ _ _ (λ_ _ g=>by let⟨x,y,z,e,C,D,E,q⟩:=g;exact#[x,y,z,e,C,D,E,k _ _ q]) q,(Sn hc s t u w A.pa he hs B).imp λY H Q h=>by let⟨U,O,st,q⟩:=h;exact 
  ⟨U,O,st,A.mn _ _ _ (λds U1 j vs H1 G l s1 I=>by
   let⟨as,bs,cs,e,l1,l2,l3,q1⟩:=j;subst e;let⟨x,y,z,rfl,C,D,E⟩:=rC I;let⟨a1,xs,rfl,J,hx⟩:=C.lst_inv;let⟨a2,ys,rfl,L,Z⟩:=D.lst_inv;let⟨a3,zs,rfl,M,hz⟩:=E.lst_inv;refine#[a1,a2,a3,xs,ys,zs,rfl,(cZ J).1,(cZ L).1,(cZ M).1,by rw[hx.length,Z.length];exact l1,by rw[hx.length,hz.length];exact l2,by rw[hx.length];exact l3,λp H2 qs N hp R hl n=>?_];have nO:∀b,H1 b=none->b∉G:=l.nofree;refine q1 _ H2 G (l.grow N) (s1.trans (.same N)) (.lst (jc R (nO p hp)) (zm ?_ λi v d e1 S=>?_))
   .unfold rD;rw[q0d,q0d,q2E,q2E,hl,hx.length];lia
   .rw[q0q]at e1;let⟨qq,e3,e4⟩:=q0i.mp e1;subst e4;let⟨x,y,z,g1,g2,g3,g4,g5⟩:=n i qq e3;unfold rD at S;rw[q0q]at S;obtain⟨⟨d0,I,d2⟩,e5,e6⟩:=q0i.mp S;subst e6;let⟨e7,e8⟩:=q1n.mp e5;let⟨e9,T⟩:=q1n.mp e8;let⟨dx,k1,k2⟩:=hx.get' g1;let⟨dy,k3,k4⟩:=Z.get' g2;let⟨dz,k5,k6⟩:=hz.get' g3;have o:as[i]? = !d0:=e7;have r:bs[i]? = !I:=e9;have f:cs[i]? = !d2:=T;rw[k1]at o;rw[k3]at r;rw[k5]at f;cases o;cases r;cases f;have m:=kB (O:=G) N;exact .tup (.inl (jc g5 (nO qq g4))) (.cons (DV.mono m k2) (.cons (DV.mono m k4) (.cons (DV.mono m k6) .nil)))) q⟩⟩
def Fn(te:DT)(k:Nat):DT:=λU Q=>te U λd g=>∃f,d=.list f/\Q (.list (f.drop k)) g
def Ss{k :Nat}(o:DE X F e te):DE X F (.Subscript e (.Slice (!.Constant (.int (k:Int)) j y) none none s) pos) (Fn te k):=
 #[λ_ _ _ k q=>o.mn _ _ _ (λ_ _ f=>by let⟨r,e,q⟩:=f;exact#[r,e,k _ _ q]) q,(Dy DL o.pe (Dx nQ) Dw).imp λY H Q g=>by let⟨U,O,st,q⟩:=g;exact 
  #[U,O,st,o.mn _ _ _ (λd z i v A t l u w=>by
   let⟨r,e,q1⟩:=i;subst e;let⟨a,m,rfl,x,hx⟩:=w.lst_inv;refine#[k,rfl,a,m,rfl,.of (cZ x).1,λp n=>q1 _ _ t (l.grow (cp n)) (u.trans (.same (cp n))) (lB n (l.nofree p n) ?_)];have:ky m (!k) none=m.drop k:=by
    unfold ky;rw[HT.sIx_none,HT.sIx_nat]
    by_cases h:k<=m.length
    .rw[Nat.min_eq_left h,q1O 'h']
    .rw[Nat.min_eq_right 'a',q2y (bu _),q2y 'a'];simp
   rw[this];exact hx.drop k) q]]
def Fo(i:Nat):DT:=λU Q=>∃d,U[i]? = !!.scr d/\(d.length<=63->Q (.int d.length) U)
def Fp{F:Fx}{pos:Pos}{p:Pos}(m:Gl X "len")(n:X.mg "len" = none)(h:PE X (.Name x p1) (bQ i))(l:autoParam (qSa X (.Name x p1) []) Zq._auto_1)(g:autoParam (qSb X pos []) Zq._auto_1) :
  DE X F (.Call (.Name "len" p) [.Name x p1] [] pos) (Fo i):=
 #[λ_ _ _ k d=>by let⟨j,e,q⟩:=d;exact#[j,e,λh=>k _ _ (q h)],(pH iX m n q2i (dQ h eK l) 'f' 'f' l g).imp λY H Q f=>by
  let⟨U,O,st,j,e,q⟩:=f;let⟨o,hv,hs⟩:=st.scr e;refine#[_,hv,o,j.map V.int,rfl,.inl hs.sq,?_];rw[q0d];exact q hs.1 _ H O st .refl (.int _)]
def Fq(i:Nat)(te:DT):DT:=λU Q=>∃f,U[i]? = !!.scr f/\te U λd g=>∃k n,d=.int k/\bT f k=!n/\Q (.int n) g
def Su{g:α->β}{l}{n}(h:bT l k=!n):bT (l.map g) k=!g n:=by
 unfold bT at h ⊢;rw[q0d];cases q:dR l.length k with
 |none=>simp_all
 |some j=>simp_all
def Fs(h:PE X (.Name x p1) (bQ i))(s:DE X F e te)(B:nU e):DE X F (.Subscript (.Name x p1) e pos) (Fq i te):=
 #[λ_ _ _ k f=>by let⟨r,e,q⟩:=f;exact#[r,e,s.mn _ _ _ (λ_ _ g=>by let⟨G,n,t,v,q⟩:=g;exact#[G,n,t,v,k _ _ q]) q],(qW qX h s.pe B).imp λY H Q j=>by
  let⟨U,O,st,r,e,q⟩:=j;let⟨E,hv,B⟩:=st.scr e;refine#[_,hv,U,O,st,s.mn _ _ _ (λd L l w C I y D J=>?_) q];let⟨k,n,t,v,q1⟩:=l;subst t;exact#[E,r.map V.int,k,.int n,rfl,J.int_inv,(B.mono λo u q=>D.keep _ _ (λz=>by let⟨M,e,m⟩:=st.live _ z;rw[q]at e;cases e;exact m) q).sq,Su v,q1 _ C I y D (.int _)]]
def Sv(K:Frag):R2:=λx y H Q=>∃a b d,x=.ref a/\y=.ref b/\dO K H a (d.map V.int)/\H b=!.lst []/\Q (.bl (decide (d=[]))) H
theorem Ft:∀{d:List Int}{f},bv (d.map V.int) f->∃as,ReadsAll h f (d.map PyData.int) as
 |[],_,r=>by cases r;exact#[_,.nil]
 |n::d,_,r=>by
  cases r with
  |cons g r=>let⟨t,rfl⟩:=g;let⟨as,q⟩:=Ft r;exact#[_,.cons (.int n t) q]
def Sw(l:X.A.units+64<cLine):dF X (compareOp .Eq) (Sv X.K):=by
 intro g s Y H x y v u Q I m t h;let⟨a,b,d,rfl,rfl,w,z,q⟩:=h;cases m;cases t;obtain⟨B,C,⟨o,n,e,D,_,E⟩,N⟩:=I.list w;let⟨_,j,O,f,G⟩:=I.hok _ _ z;cases f;let⟨as,J⟩:=Ft (h:=s.heap) C;have L:PyData.eqv (.list (d.map .int)) (.list [])=decide (d=[]):=by cases d<;>rfl
 refine eq_dataH (reads_list_at e D E (by simpa using J)) (reads_list_at (xs:=[]) G rfl rfl .nil) ?_ 'f' l (by rw[L];exact#[.bl _,H,I,rfl,q]);unfold SeqAt.shaped;have M:PyData.canLay0 (.list (d.map .int))=true:=by
  have:∀d:List Int,PyData.canLayAll0 (d.map .int)=true:=λd=>by
   induction d with
   |nil=>rfl
   |cons n r k=>rw[q0h];simp only[PyData.canLayAll0,PyData.canLay0,k,Bool.and_self]
  simp only[PyData.canLay0,this]
 have dp:PyData.depth (.list (d.map .int))<=64:=by
  have:∀d:List Int,PyData.depthAll (d.map .int)<=1:=λd=>by
   induction d with
   |nil=>simp[PyData.depthAll]
   |cons n r k=>rw[q0h];simp only[PyData.depthAll,PyData.depth];lia
  have:=this d;simp only[PyData.depth];lia
 rw[M,Bool.true_and];exact decide_eq_true dp
def Fu(i:Nat):dt:=λU Q=>∃d,U[i]? = !!.scr d/\Q (decide (d=[])) U
def Sx(m:X.A.units+64<cLine)(h:PE X (.Name x p1) (bQ i)):DB X F (.Compare (.Name x p1) [.Eq] [.List [] l] pos) (Fu i):=
 #[λ_ _ _ k d=>by let⟨j,e,q⟩:=d;exact#[j,e,k _ _ q],(yt (Sw m) h (uC eK) (bG _)).imp λY H Q f=>by
  let⟨U,O,st,j,e,q⟩:=f;let⟨n,hv,hs⟩:=st.scr e;refine#[_,hv,q0K _,λp g=>#[n,p,j,rfl,rfl,(cp g).seq hs.sq,cI,_,rfl,q _ O (st.grow (cp g)) (.same (cp g))]]]
structure FD (K:Frag) (mg:Str->Option Value) (x:Str) (st:Stmt) (ps:List Str) (g:Addr) (fd:FuncData):Prop where
 fn:nW K x x st g fd
 mgf:mg x=some (.ref g)
 b:iW K fd ps []
section
variable{X:Cx}{scope:Scope}{own capN:List Str}{caps:List Nat}
def al.of(h1:autoParam (scope.kind=.function) Zq._auto_1)(h2:autoParam ((scope.names.all λy=>scope.names.lookup y.1==!y.2)=true) Zq._auto_1)
  (h3:autoParam ((scope.names.all λy=>y.2 != .free||(X.env.kindOf y.1==some .cell||X.env.kindOf y.1==!.free))=true) Zq._auto_1)
  (h4:autoParam ((scope.names.all λy=>y.2 != .local||scope.names.lookup y.1==!.local)=true) Zq._auto_1) (h5:autoParam (caps.map (λj=>X.N[j]?)=capN.map some) Zq._auto_1)
  (h6:autoParam ((capN.all λx=>scope.names.lookup x==!.free)=true) Zq._auto_1):al X scope own capN caps where
 kind:=h1
 one:=λy hy=>eq_of_beq (q02.mp h2 y hy)
 free:=λy hy e=>by
  have:=q02.mp h3 y hy;lia
 loc:=λy hy e=>by
  have:=q02.mp h4 y hy;lia
 caps:=h5
 capf:=λx hx=>eq_of_beq (q02.mp h6 x hx)
end
abbrev qI(g:Int->Int->Int):D2:=fI (λ_ _=>True) λi j=>.int (g i j)
abbrev qB(g:Int->Int->Bool):D2:=fI (λ_ _=>True) λi j=>.bool (g i j)
def SW(d:DE X F a ta)(h:DE X F b tb)(f:DE X F c tc)(g:autoParam (lastMarks [.LtE,.LtE] [b,c]=false) Zqc._auto_1):DE X F (.Compare a [.LtE,.LtE] [b,c] pos) (yY (λi j=>decide (i<=j)) (λi j=>decide (i<=j)) ta tb tc):=QQ uy uy d h f g
def eN(d:Gl X x)(f:X.mg x=!.int i t)(hd:autoParam ((x==("__debug__":Str))=false) Zr._auto_1):DE X F (.Name x pos) (dC (.int i)):=rm (v:=.int i) (CL d f #[t,rfl] hd) λ_=>.int i
mutual
theorem Fv:∀(d:PyData),d.canLay0=true->PyData.eqv d d=true
 |.none,_=>rfl
 |.bool b,_=>by simp[PyData.eqv]
 |.int i,_=>by simp[PyData.eqv]
 |.str s,_=>by simp[PyData.eqv]
 |.list xs,h=>by rw[PyData.eqv];exact zn xs (by simpa[PyData.canLay0] using h)
 |.tuple xs,h=>by rw[PyData.eqv];exact zn xs (by simpa[PyData.canLay0] using h)
 |.dict kvs,h=>by simp[PyData.canLay0]at h
theorem zn:∀(ds:List PyData),PyData.canLayAll0 ds=true->PyData.eqvAll ds ds=true
 |[],_=>rfl
 |x::xs,h=>by simp only[PyData.canLayAll0,q0B]at h;rw[PyData.eqvAll,Fv x h.1,zn xs h.2];rfl
theorem Fw(h:SeqAt.shaped d=true):PyData.eqv d d=true:=Fv d (SeqAt.canLay_of_shaped h)
end
end L2.L3
namespace L2
open PySem PySem.Spec PyProof.Rows
def Fy(K:Frag):R2:=λx y H Q=>∃a b c d,x=.ref a/\y=.ref b/\fq K H a c/\fq K H b d/\c.length+d.length<=sizeLine/\
 (c=[]->Q (.ref b) H)/\(c≠[]->d=[]->Q (.ref a) H)/\(c≠[]->d≠[]->∀p,H p=none->Q (.ref p) (aM H p (.tup (c++d))))
def SX:dF X (binaryOp .Add) (Fy X.K):=by
 intro c s Y H x y v u Q I k l h;let⟨a,b,m,r,rfl,rfl,o,hb,t,w,q1,q2⟩:=h
 by_cases hx:m=[]
 .subst hx;cases k;cases l;let⟨i,z,A,_⟩:=I.tuple o;let⟨d,E,B,_⟩:=I.tuple hb;have C:=z.nil_iff.mpr rfl;subst C;obtain⟨⟨cls,dd,data,sl⟩,ho,p,n,hd⟩:=id A;obtain⟨⟨q,j,data2,lZ⟩,e,f,D,g⟩:=id B;simp only at p hd f g;subst p hd f g;exact concat_meets #[_,ho,rfl] #[_,e,rfl] noFill_tuple_add seq_tuple_add q1N q1F (q1D _ _)
   (tuple_addW0 a b [].toArray d.toArray n D dd j sl lZ rfl) #[ho,e,.ref b,H,I,rfl,w rfl]
 .exact OS c s Y H _ _ v u Q I k l #[a,b,m,r,rfl,rfl,o,hb,hx,t,q1 hx,q2 hx]
end L2
namespace L2.L3
open PySem PySem.Spec PyProof.Rows
def SY{K}:gB (Fy K) yX where
 mn:=λ_ _ _ _ k zq1a=>by let⟨ds,es,e1,e2,e3,q⟩:=zq1a;exact#[ds,es,e1,e2,e3,k _ q]
 ok:=λO H u v x y Q hO h1 h2 zq2a=>by
  let⟨ds,es,e1,e2,e3,q⟩:=zq2a;subst e1 e2;let⟨a,xs,rfl,ha,hd⟩:=id h1.tup_inv;let⟨b,ys,rfl,hb,he⟩:=id h2.tup_inv;refine#[a,b,xs,ys,rfl,rfl,.inl (iB ha).1,.inl (iB hb).1,by rw[hd.length,he.length];exact e3,λz=>?_,λ_ z=>?_,λ_ _ p hp=>q _ _ (cp hp) (kD hp (hO p hp) (hd.append he))]
  .subst z;cases hd;exact q _ H (λ_ _ h=>h) h2
  .subst z;cases he;rw[q0D]at q;exact q _ H (λ_ _ h=>h) h1
theorem Fz:∀{c:List Int}{vs},aK H vs (c.map PyData.int)->vs=c.map V.int
 |[],_,h=>by cases h;rfl
 |b::r,_,h=>by
  cases h with
  |cons d q=>rw[d.int_inv,Fz q];rfl
end L2.L3
namespace L2
open PySem PySem.Spec PyProof.Rows
noncomputable def el(a b c:Int):Nat:=(if a<b then(b - a - 1) / c+1 else 0).toNat
def Ta(t:TA):TE:=λY H Q=>t Y H λvs d=>∃i j k:Int,vs=[.int i,.int j,.int k]/\(0<=i/\i<=2 ^ 20)/\(0<=j/\j<=2 ^ 20)/\(0<k/\k<=2 ^ 20)/\∀p,d p=none->Q (.ref p) (aM d p (.lst ((List.range (el i j k)).map λ(m:Nat)=>V.int (i+m * k))))
def mK(f:0<=i/\i<=2 ^ 20)(g:0<=j/\j<=2 ^ 20)(d:0<k/\k<=2 ^ 20):Builtin.Range.rangeSize i j k=el i j k/\el i j k<=2 ^ 20:=by
 unfold Builtin.Range.rangeSize el;rw[if_pos (d.1)]
 by_cases h:i<j
 .rw[if_pos h];have l:0<=(j - i - 1) / k:=Int.ediv_nonneg 'a' 'a';have m:(j - i - 1) / k<=j - i - 1:=Int.ediv_le_self _ 'a';lia
 .rw[if_neg h];simp_all
def Tb:∀n  l  z,l.length=n->(∀m v,l[m]? = !v->∃t,v=Value.int (i+((z+m:Nat):Int) * k) t)->bv ((List.range n).map λ(m:Nat)=>V.int (i+((z+m:Nat):Int) * k)) l:=by
 intro n
 induction n with
 |zero=>intro l z d _;cases l with |nil=>exact .nil |cons _ _=>cases d
 |succ n g=>
  intro l z d f;cases l with
  |nil=>cases d
  |cons v l=>
   rw[q2z,q0h,q0W];refine .cons (f 0 v rfl) ?_;have:=g l (z+1) (by simpa using d) λm w e=>by let⟨t,e'⟩:=f (m+1) w (by simpa using e);exact#[t,by rw[e',show z+(m+1)=z+1+m by lia]]
   have h:(λ(m:Nat)=>V.int (i+((z+1+m:Nat):Int) * k))=((λ(m:Nat)=>V.int (i+((z+m:Nat):Int) * k))∘Nat.succ):=by funext m;show V.int _=V.int _;rw[show z+1+m=z+Nat.succ m by lia]
   rw[h]at this;exact this
def Tc{pos:Pos}{p1:Pos}(N:X.calm=true)(u:Gl X "list")(w:X.mg "list" = none)(x:Gl X "range")(y:X.mg "range" = none)(O:PA X [a,b,c] t)
  (E:autoParam (qSd X (.Call (.Name "range" p2) [a,b,c] [] pos2)) Zq._auto_1)
  (hs:autoParam (qSa X a [b,c]) Zq._auto_1) (z:autoParam (qSb X pos2 [b,c]) Zq._auto_1) :
  PE X (.Call (.Name "list" p1) [.Call (.Name "range" p2) [a,b,c] [] pos2] [] pos) (Ta t):=by
 intro d s Y H Q I h;refine wpAny_Call_Name_kw (jK I u w (show bootBuiltins "list" = some (.type "list") by decide +kernel) ?_ 'f' 'f');refine PyProof.Rows.callWith_type1 ?_ (by rw[E];rfl) rfl;rw[E];show wpAny _ _ (spliced [(false,eval (.Call (.Name "range" p2) [a,b,c] [] pos2) X.env)]) _ _ s;refine Calls.spliced_cons ?_;refine wpAny_Call_Name_kw (jK I x y boot_range ?_ 'f' 'f');refine PyProof.Rows.callWith_type1 (aS (O pos2 d s Y H _ I h) λus f l=>?_) hs z;let⟨vs,R,I1,S,q1⟩:=l;let⟨i,j,k,rfl,G,J,L,q⟩:=q1;obtain⟨u1,u2,u3,rfl,⟨A,rfl⟩,⟨B,rfl⟩,⟨C,rfl⟩⟩:=vals3 S;refine call_range_3 'a' ?_ (.inl (PyProof.noPylong_small 'a'));refine Calls.spliced_nil ?_;have M:Inv X d Y R { f with heap:=f.heap.push { cls:=.type "range",data:=.fields [.int i A,.int j B,.int k C].toArray },toks:=f.toks }:=I1.kept λb o e=>ca _ e;let⟨T,U⟩:=mK G J L;refine call_list_range (s:={ f with heap:=f.heap.push { cls:=.type "range",data:=.fields [.int i A,.int j B,.int k C].toArray },toks:=f.toks }) (n:=el i j k) (I1.ok.hd N) (IsRange.new ..) (by let⟨h,l⟩:=mK G J L;unfold Builtin.Range.small;rw[h];simp only[Builtin.Range.rangeFitsLong,q0B,Bool.or_eq_true,decide_eq_true_eq,beq_iff_eq,show k>0 from L.1,if_true];lia) T (q0C U 'f') λh' Z g c D hS p=>?_;have hz:((List.range (el i j k)).map λ(m:Nat)=>V.int (i+m * k)).length<=sizeLine:=by rw[q0d,q1t,sizeLine_eq];lia
 have r:bv ((List.range (el i j k)).map λ(m:Nat)=>V.int (i+m * k)) g.toList:=by
  let⟨hl,hit⟩:=p;have:=Tb (i:=i) (k:=k) (el i j k) g.toList 0 (by rw[q1z];exact hl) λm v e=>by let⟨t,e'⟩:=hit m v (by simpa using e);exact#[t,by rw[e',q1X]]
  simpa using this
 exact#[.ref (f.heap.push { cls:=.type "range",data:=.fields [.int i A,.int j B,.int k C].toArray }).objs.size,_,M.laid (o:=.lst ((List.range (el i j k)).map λ(m:Nat)=>V.int (i+m * k))) D (bu _) #[hz,g.toList,c,r,by simpa using hS],rfl,q _ (M.hok.fresh (bu _))]
end L2
namespace L2.L3
open PySem PySem.Spec PyProof.Rows
def FC(t:eV):DT:=λU Q=>t U λf d=>∃i j k:Int,f=[.int i,.int j,.int k]/\((0<=i/\i<=2 ^ 20)/\(0<=j/\j<=2 ^ 20)/\(0<k/\k<=2 ^ 20))/\Q (.list ((List.range (el i j k)).map λ(m:Nat)=>.int (i+m * k))) d
def Td{pos:Pos}{p1:Pos}(G:X.calm=true)(r:Gl X "list")(s:X.mg "list" = none)(t:Gl X "range")(u:X.mg "range" = none)(w:DA X F [a,b,c] tA)
  (I:autoParam (qSd X (.Call (.Name "range" p2) [a,b,c] [] pos2)) Zq._auto_1)
  (hs:autoParam (qSa X a [b,c]) Zq._auto_1) (A:autoParam (qSb X pos2 [b,c]) Zq._auto_1) :
  DE X F (.Call (.Name "list" p1) [.Call (.Name "range" p2) [a,b,c] [] pos2] [] pos) (FC tA):=
 #[λ_ _ _ k q=>w.mn _ _ _ (λ_ _ f=>by let⟨x,y,z,e,B,q⟩:=f;exact#[x,y,z,e,B,k _ _ q]) q,(Tc G r s t u w.pa I hs A).imp λY H Q g=>by let⟨U,O,st,q⟩:=g;exact 
  #[U,O,st,w.mn _ _ _ (λds U1 h vs H1 J l L M=>by
   obtain⟨i,j,k,e,⟨N,B,R⟩,q1⟩:=h;subst e;let⟨x,y,z,rfl,hx,S,T⟩:=rC M;refine#[i,j,k,by rw[hx.int_inv,S.int_inv,T.int_inv],N,B,R,λp o=>q1 _ _ J (l.grow (cp o)) (L.trans (.same (cp o))) (lB o (l.nofree p o) (zm 'd' λn v d C D=>?_))];rw[q0q]at C D;let⟨m,Z,e4⟩:=q0i.mp C;let⟨m',E,e6⟩:=q0i.mp D;rw[Z]at E;cases E;subst e4 e6;exact .int _) q]]
def zo:D2:=λx y Q=>∃c k,x=.list c/\y=.int k/\(-(2 ^ 63)<=k/\k<2 ^ 63/\c.length * k.toNat<=sizeLine)/\Q (.list (List.replicate k.toNat c).flatten)
theorem FF(r:aK H vs c):∀k,aK H (List.replicate k vs).flatten (List.replicate k c).flatten
 |0=>.nil
 |k+1=>by rw[q0F,q0F,q0e,q0e];exact r.append (FF r k)
def Te:gB DZ zo where
 mn:=λ_ _ _ _ k zq1a=>by let⟨ds,n,e1,e2,e3,q⟩:=zq1a;exact#[ds,n,e1,e2,e3,k _ q]
 ok:=λO H u v x y Q hO h1 h2 zq2a=>by obtain⟨ds,k,e1,e2,⟨e3,e4,e5⟩,q⟩:=zq2a;subst e1 e2;let⟨a,xs,rfl,ha,hd⟩:=h1.lst_inv;refine#[a,k,xs,rfl,h2.int_inv,(cZ ha).1,e3,e4,by rw[hd.length];exact e5,λp hp=>q _ _ (cp hp) (lB hp (hO p hp) (FF hd _))]
end L2.L3
namespace L2
open PySem PySem.Spec PyProof.Rows
def FH:List V->Hp->VK->Prop:=λc H Q=>∃(l:Addr) (b:List Int),c=[.ref l]/\H l=!.lst (b.map V.int)/\b≠[]/\∀M,M∈b->(∀a,a∈b->a<=M)->Q (.int M) H
def Tg(J:X.calm=true):hU X (.builtin "max") FH:=by
 intro y s Y H xs us Q I r h;let⟨l,ns,rfl,M,f,q⟩:=h;let⟨u,rfl,ru⟩:=vals1 r;cases ru;let⟨z,d,n,B,e⟩:=I.hok _ _ M;have L:s.heap.IsList l d.toArray:=#[_,e,rfl,_,rfl]
 have c:l<s.heap.objs.size:=bS e;have len:=B.length;rw[q0d]at len;have N:0<ns.length:=q0X.mpr f;have at_:∀(i:Nat) (v:Value),d.toArray[i]? = !v->∃t,v=.int (ns.getD i 0) t:=by
  intro i v Z;have C:d[i]? = !v:=by simpa using Z
  have c:i<ns.length:=by rw[len];exact(q0a.mp C).1
  let⟨w,D,g⟩:=B.get (i:=i) (x:=.int ns[i]) (by rw[q0q,q0j c];rfl);rw[C]at D;cases D;cases g;rename_i k m;refine#[k,m.trans ?_]
  congr 1
  simp[List.getD,c]
 refine call_max_walk (wpAny_pyIter_list L ?_);refine#[s.heap.objs.size,_,_,_,_,_,_,rfl,Walks.list (A:=X.A.in1) (show X.A.in1.handled=none from I.ok.hd J) s.heap.objs.size l (q0s c) d.toArray,#[#[_,Heap.get?_push_size _ rfl,rfl,rfl],L.push _],?_,?_,CmpOf.ints_gt (λi=>ns.getD i 0) at_,λv h' tk E O=>?_]
 .intro b p;rcases q0c.mp p with rfl |p
  .show _<(s.heap.push _).objs.size;rw[Heap.size_push];exact q00 _
  .rw[q0l.mp p];show _<(s.heap.push _).objs.size;rw[Heap.size_push];exact q1P c
 .rw[q0y,<-len];exact N
 .rw[q0y,<-len]at E;let⟨t,rfl⟩:=at_ _ _ E;let⟨h1,R⟩:=argBest_gt (λi=>ns.getD i 0) (ns.length - 1);refine#[.int _,H,I.kept λb o G=>O b o (λS=>absurd (bS G) (by rw[q0l.mp S];exact q0A _)) (ca _ G),#[_,rfl],q _ ?_ λa T=>?_]
  .rw[PySem.getD_at 'a'];exact q0G _
  .let⟨j,U,rfl⟩:=q1B T;have:=R j 'a';simp only[PySem.getD_at U]at this;exact this
end L2
namespace L2.L3
open PySem PySem.Spec PyProof.Rows
def FJ:DN:=λc Q=>∃b:List Int,c=[.list (b.map .int)]/\b≠[]/\∀M,M∈b->(∀a,a∈b->a<=M)->Q (.int M)
def Th:jT FH FJ where
 mn:=λ_ _ _ k zq1a=>by let⟨bs,e,h,q⟩:=zq1a;exact#[bs,e,h,λM h1 h2=>k _ (q M h1 h2)]
 ok:=λO H vs xs Q hO hd zq2a=>by let⟨ns,e,h,q⟩:=zq2a;subst e;let⟨x,rfl,h1⟩:=ij hd;let⟨a,ys,rfl,ha,hy⟩:=h1.lst_inv;exact#[a,ns,rfl,by rw[(cZ ha).1,Fz hy],h,λM h1 h2=>q M h1 h2 _ H (λ_ _ h=>h) (.int _)]
set_option genInjectivity true in
inductive gF (α:Type) where
 |ok (a:α) (U:ag) |ex (c:Str) (U:ag) |bad
@[simp]noncomputable def gF.bind{α β:Type}(o:gF α)(k:α->ag->gF β):gF β:=match o with
 |.ok a U=>k a U
 |.ex c U=>.ex c U
 |.bad=>.bad
@[simp]noncomputable def lift{α:Type}(o:Option α)(U:ag):gF α:=match o with
 |some a=>.ok a U
 |none=>.bad
abbrev XM(α:Type):=ag->gF α
def wp{α:Type}(E:Str->ag->Prop)(m:XM α):ag->(α->ag->Prop)->Prop:=λU Q=>match m U with
 |.ok a b=>Q a b
 |.ex c b=>E c b
 |.bad=>False
def aH:∀U (Q e:α->ag->Prop),(∀d b,Q d b->e d b)->wp E m U Q->wp E m U e:=λU Q e k q=>by
 unfold wp at q ⊢;generalize m U=o at q ⊢;cases o with
 |ok a b=>exact k _ _ q
 |ex c b=>exact q
 |bad=>exact q
def bW{k:α->XM β}(h:wp E (λU=>(m U).bind k) U Q):wp E m U λa b=>wp E (k a) b Q:=by
 unfold wp at h ⊢;simp only at h;generalize m U=o at h ⊢;cases o with
 |ok a b=>exact h
 |ex c b=>exact h
 |bad=>exact h
def da{o:Option α}(h:wp E (lift o) U Q):∃a,o=!a/\Q a U:=by
 cases o with
 |some a=>exact#[a,rfl,h]
 |none=>exact h.elim
theorem DE.imp(h:DE X F e t)(f:Mn t')(k:∀U Q,t' U Q->t U Q):DE X F e t':=#[f,h.pe.imp λY H Q d=>by let⟨U,O,st,q⟩:=d;exact#[U,O,st,k U _ q]]
theorem DO.imp(h:DO X F e t)(f:EM t')(k:∀U Q,t' U Q->t U Q):DO X F e t':=#[f,h.pe.imp λY H Q d=>by let⟨U,O,st,q⟩:=d;exact#[U,O,st,k U _ q]]
theorem DA.imp(h:DA X F es t)(f:uP t')(k:∀U Q,t' U Q->t U Q):DA X F es t':=#[f,h.pa.imp λY H Q d=>by let⟨U,O,st,q⟩:=d;exact#[U,O,st,k U _ q]]
theorem DX.imp(h:DX X F es t)(f:ES t')(k:∀U Q,t' U Q->t U Q):DX X F es t':=#[f,h.pa.imp λY H Q d=>by let⟨U,O,st,q⟩:=d;exact#[U,O,st,k U _ q]]
theorem DB.imp(h:DB X F e t)(f:jS t')(k:∀U Q,t' U Q->t U Q):DB X F e t':=#[f,h.pt.imp λY H Q d=>by let⟨U,O,st,q⟩:=d;exact#[U,O,st,k U _ q]]
theorem DW.imp(h:DW X F e t)(f:jS t')(k:∀U Q,t' U Q->t U Q):DW X F e t':=#[f,h.pw.imp λY H Q d=>by let⟨U,O,st,q⟩:=d;exact#[U,O,st,k U _ q]]
theorem ig.imp(h:ig X F d t)(k:∀D U,t' D U->t D U):ig X F d t':=PSs.imp h λD Y H g=>by let⟨U,O,i,st,q,f⟩:=g;exact#[U,O,i,st,k i U q,f]
theorem DS.imp(h:DS X F s t)(k:∀D U,t' D U->t D U):DS X F s t':=PS.imp h λD Y H d=>by let⟨U,O,g,st,q,f⟩:=d;exact#[U,O,g,st,k g U q,f]
abbrev FE(X:Cx)(F:Fx)(E:Str->ag->Prop)(e:Expr)(m:XM PyData):Prop:=DE X F e (wp E m)
abbrev FO(X:Cx)(F:Fx)(E:Str->ag->Prop)(e:Expr)(m:XM af):Prop:=DO X F e (wp E m)
abbrev FB(X:Cx)(F:Fx)(E:Str->ag->Prop)(e:Expr)(m:XM Bool):Prop:=DB X F e (wp E m)
abbrev FW(X:Cx)(F:Fx)(E:Str->ag->Prop)(e:Expr)(m:XM Bool):Prop:=DW X F e (wp E m)
abbrev FA(X:Cx)(F:Fx)(E:Str->ag->Prop)(es:List Expr)(m:XM (List PyData)):Prop:=DA X F es (wp E m)
abbrev FX(X:Cx)(F:Fx)(E:Str->ag->Prop)(es:List Expr)(m:XM (List AX)):Prop:=DX X F es (wp E m)
abbrev FI(X:Cx)(F:Fx)(E:Str->ag->Prop)(d iter:Expr)(m:XM (List PyData)):Prop:=DI X F d iter (wp E m)
abbrev GM:=PyData->ag->Option ag
def fH(g:GM):fR:=λd U Q=>match g d U with
 |some f=>Q f
 |none=>False
abbrev FG(X:Cx)(F:Fx)(d:Expr)(g:GM):Prop:=DG X F d (fH g)
abbrev FS(X:Cx)(F:Fx)(E:Str->ag->Prop)(s:Stmt)(m:SM):Prop:=DS X F s (wpS E m)
abbrev ju(X:Cx)(F:Fx)(E:Str->ag->Prop)(s:List Stmt)(m:SM):Prop:=ig X F s (wpS E m)
@[simp]noncomputable def xC(d:PyData):XM PyData:=λU=>.ok d U
@[simp]noncomputable def xV(i:Nat):XM PyData:=λU=>match U[i]? with
 |some (!.dat d)=>.ok d U
 |some (!.own false (.l ds))=>.ok (.list ds) (U.set i (!.dat (.list ds)))
 |_=>.bad
def ae(h:DE X F e (dC d)):FE X F E e (xC d):=h.imp aH λ_ _ q=>q
def Ti(h:DE X F e (dV i)):FE X F E e (xV i):=h.imp aH λU Q q=>by
 unfold wp xV at q;unfold dV;grind
@[simp] def aa(g:PyData->PyData->Option PyData)(a b:XM PyData):XM PyData:=λU=>(a U).bind λx d=>(b d).bind λy=>lift (g x y)
def F2(f:D2)(g:PyData->PyData->Option PyData):Prop:=∀x y d Q,g x y=!d->Q d->f x y Q
def gR(k:F2 f g)(h:DE X F e (dW f (wp E i) (wp E j))):FE X F E e (aa g i j):=h.imp aH λU Q q=>by refine aH _ _ _ (λx m q1=>?_) (bW q);refine aH _ _ _ (λy n q2=>?_) (bW q1);let⟨d,l,q3⟩:=da q2;exact k x y d _ l q3
@[simp] def aC(m:XM PyData):XM Bool:=λU=>(m U).bind λd=>lift (match d with |.bool b=>!b |_=>none)
def zp(q:wp E (aC m) U Q):ic (wp E m) U Q:=aH _ _ _ (λd g q1=>by
 let⟨b,f,q2⟩:=da q1;grind) (bW q)
def om(k:F2 f g)(h:DB X F e (ic (dW f (wp E i) (wp E j)))):FB X F E e (aC (aa g i j)):=h.imp aH λU Q q=>by refine aH _ _ _ (λx n q1=>?_) (bW (zp q));refine aH _ _ _ (λy o q2=>?_) (bW q1);let⟨d,m,q3⟩:=da q2;exact k x y d _ m q3
def dA(h:DB X F e (ic (wp E m))):FB X F E e (aC m):=h.imp aH λU Q q=>zp q
@[simp]noncomputable def gI(g:Int->Int->PyData):PyData->PyData->Option PyData:=λx y=>match x,y with
 |.int i,.int j=>some (g i j)
 |_,_=>none
@[simp]noncomputable def rE(C:Int->Int->Bool)(g:Int->Int->PyData):PyData->PyData->Option PyData:=λx y=>match x,y with
 |.int i,.int j=>if C i j=true then some (g i j) else none
 |_,_=>none
def lF:F2 (fI (λ_ _=>True) g) (gI g):=λx y d Q e q=>by
 unfold gI at e;split at e
 .cases e;exact#[_,_,rfl,rfl,trivial,q]
 .cases e
def zq(h:∀i j,C i j=true->P i j):F2 (fI P g) (rE C g):=λx y d Q e q=>by
 unfold rE at e;split at e
 .split at e
  .rename_i f;cases e;exact#[_,_,rfl,rfl,h _ _ f,q]
  .cases e
 .cases e
noncomputable def mL(i j:Int):Bool:=(decide (-(2 ^ 64)<i)&&decide (i<2 ^ 64))||(decide (-(2 ^ 64)<j)&&decide (j<2 ^ 64))
noncomputable def pR(_ j:Int):Bool:=decide (0<j)&&decide (j<1073741824)
noncomputable def pS(_ j:Int):Bool:=decide (0<j)
def Tj(i j)(h:mL i j=true):qS i j:=by unfold mL at h;simp only[Bool.or_eq_true,q0B,decide_eq_true_eq]at h;exact h
def Tk(i j)(h:pR i j=true):yr i j:=by unfold pR at h;simp only[q0B,decide_eq_true_eq]at h;exact h
def Tl(i j)(h:pS i j=true):0<j:=by unfold pS at h;simpa using h
noncomputable def av(neg:Bool):PyData->PyData->Option PyData:=λx y=>if (SeqAt.shaped x&&SeqAt.shaped y)=true then some (.bool (PyData.eqv x y != neg)) else none
def zt:F2 (ro neg) (av neg):=λx y d Q e q=>by
 unfold av at e;split at e
 .rename_i h;cases e;exact#[(q1g.mp h).1,(q1g.mp h).2,q]
 .cases e
@[simp] def iJ:PyData->PyData->Option PyData:=λx y=>match y with |.none=>!.bool (bR x) |_=>none
@[simp] def fS:PyData->PyData->Option PyData:=λx y=>match y with |.none=>!.bool (not (bR x)) |_=>none
def FK:F2 uO iJ:=λx y d Q e q=>by
 unfold iJ at e;split at e
 .cases e;exact#[rfl,q]
 .cases e
def FL:F2 yV fS:=λx y d Q e q=>by
 unfold fS at e;split at e
 .cases e;exact#[rfl,q]
 .cases e
@[simp]noncomputable def lG:PyData->PyData->Option PyData:=λx y=>match x,y with
 |.list ds,.list es=>if ds.length+es.length<=sizeLine then some (.list (ds++es)) else none
 |_,_=>none
@[simp]noncomputable def oq:PyData->PyData->Option PyData:=λx y=>match x,y with
 |.tuple ds,.tuple es=>if ds.length+es.length<=sizeLine then some (.tuple (ds++es)) else none
 |_,_=>none
@[simp]noncomputable def jV:PyData->PyData->Option PyData:=λx y=>match x,y with
 |.list ds,.int k=>if (decide (-(2 ^ 63)<=k)&&decide (k<2 ^ 63)&&decide (ds.length * k.toNat<=sizeLine))=true then some (.list (List.replicate k.toNat ds).flatten) else none
 |_,_=>none
@[simp] def uX(a:XM PyData):XM PyData:=λU=>(a U).bind λd=>lift (match d with |.int i=>!.int (-i) |_=>none)
def zu(h:FE X F E a f):FE X F E (.UnaryOp .USub a pos) (uX f):=(QI h).imp aH λU Q q=>aH _ _ _ (λd j q1=>by
 let⟨y,g,q2⟩:=da q1;cases d with
 |int i=>simp_all
 |_=>cases g) (bW q)
@[simp] def FR(a:XM PyData):XM PyData:=λU=>(a U).bind λd=>lift (match d with |.bool b=>!.bool (not b) |_=>none)
def Tq(h:FE X F E a f):FE X F E (.UnaryOp .Not a pos) (FR f):=(QK h).imp aH λU Q q=>aH _ _ _ (λd i q1=>by
 let⟨y,g,q2⟩:=da q1;grind) (bW q)
@[simp]noncomputable def FT(b:XM PyData)(d:PyData):XM PyData:=λf=>match d with
 |.bool true=>b f
 |.bool false=>.ok (.bool false) f
 |_=>.bad
@[simp]noncomputable def FU(b:XM PyData)(d:PyData):XM PyData:=λf=>match d with
 |.bool true=>.ok (.bool true) f
 |.bool false=>b f
 |_=>.bad
@[simp] def fy(a b:XM PyData):XM PyData:=λU=>(a U).bind (FT b)
@[simp] def rF(a b:XM PyData):XM PyData:=λU=>(a U).bind (FU b)
def gn(h:FE X F E a g)(i:FE X F E (.BoolOp .And (b::rest) pos) f):FE X F E (.BoolOp .And (a::b::rest) pos) (fy g f):=(QO h i).imp aH λU Q q=>aH _ _ _ (λd j q1=>by
 cases d with
 |bool b=>cases b with
  |true=>exact#[true,rfl,fQ q1]
  |false=>exact#[false,rfl,fP q1]
 |_=>exact q1.elim) (bW q)
def zv(h:FE X F E a g)(i:FE X F E (.BoolOp .Or (b::rest) pos) f):FE X F E (.BoolOp .Or (a::b::rest) pos) (rF g f):=(QP h i).imp aH λU Q q=>aH _ _ _ (λd j q1=>by
 cases d with
 |bool b=>cases b with
  |true=>exact#[true,rfl,fQ q1]
  |false=>exact#[false,rfl,fP q1]
 |_=>exact q1.elim) (bW q)
def ik(h:FE X F E a d):FE X F E (.BoolOp op [a] pos) d:=#[h.mn,Ng h.pe]
@[simp] def zw(p f:Int->Int->Bool)(a b c:XM PyData):XM PyData:=λU=>(a U).bind λx g=>(b g).bind λy d=>match x,y with
 |.int i,.int j=>if p i j=true then(c d).bind (λz=>lift (match z with |.int k=>!.bool (f j k) |_=>none)) else .ok (.bool false) d
 |_,_=>.bad
def Tr(h:DE X F e (yY p g (wp E n) (wp E o) (wp E l))):FE X F E e (zw p g n o l):=h.imp aH λU Q q=>by
 refine aH _ _ _ (λx s q1=>?_) (bW q);refine aH _ _ _ (λy t q2=>?_) (bW q1);unfold wp at q2;cases x with
 |int i=>cases y with
  |int j=>
   refine#[i,j,rfl,rfl,?_]
   by_cases f:p i j=true
   .simp only[if_pos f]at q2;rw[if_pos f];refine aH _ _ _ (λz u q3=>?_) (bW (m:=l) (k:=λz=>lift (match z with |.int k=>!PyData.bool (g j k) |_=>none)) q2);let⟨d,r,q4⟩:=da q3;cases z with
    |int k=>cases r;exact#[k,rfl,q4]
    |_=>cases r
   .simp only[if_neg f]at q2;rw[if_neg f];exact q2
  |_=>exact q2.elim
 |_=>exact q2.elim
@[simp] def ee(a:XM Bool):XM Bool:=λU=>(a U).bind λb d=>.ok (not b) d
def fT(h:FB X F E a f):FB X F E (.UnaryOp .Not a pos) (ee f):=(QS h).imp aH λU Q q=>aH _ _ _ (λd g q1=>q1) (bW q)
@[simp] def fz(a b:XM Bool):XM Bool:=λU=>(a U).bind λx d=>if x=true then b d else .ok false d
@[simp] def fg(a b:XM Bool):XM Bool:=λU=>(a U).bind λx d=>if x=true then .ok true d else b d
def mM(h:FB X F E a d):FW X F E (.BoolOp .And [a] pos) d:=#[h.mn,MX h.pt]
def jW(h:FB X F E a d):FW X F E (.BoolOp .Or [a] pos) d:=#[h.mn,MY h.pt]
def mO(i:FB X F E a h)(j:FW X F E (.BoolOp .And (b::rest) pos) f):FW X F E (.BoolOp .And (a::b::rest) pos) (fz h f):=(QX i j).imp aH λU Q q=>aH _ _ _ (λd g q1=>by
 cases d with
 |true=>exact fQ q1
 |false=>exact fP q1) (bW q)
def jX(i:FB X F E a h)(j:FW X F E (.BoolOp .Or (b::rest) pos) f):FW X F E (.BoolOp .Or (a::b::rest) pos) (fg h f):=(QY i j).imp aH λU Q q=>aH _ _ _ (λd g q1=>by
 cases d with
 |true=>exact fQ q1
 |false=>exact fP q1) (bW q)
def fU(h:FW X F E e d):FB X F E e d:=h.db
@[simp] def ot{α:Type}(t:XM Bool)(a b:XM α):XM α:=λU=>(t U).bind λx d=>if x=true then a d else b d
def pT{mt}(i:FB X F E c mt)(j:FE X F E a f)(l:FE X F E b g):FE X F E (.IfExp c a b pos) (ot mt f g):=(Ra i j l).imp aH λU Q q=>aH _ _ _ (λd h q1=>by
 cases d with
 |true=>exact fQ q1
 |false=>exact fP q1) (bW q)
@[simp]noncomputable def aE:XM (List PyData):=λU=>.ok [] U
@[simp] def aj(a:XM PyData)(r:XM (List PyData)):XM (List PyData):=λU=>(a U).bind λd f=>(r f).bind λh g=>.ok (d::h) g
def aT:FA X F E [] aE:=QA.imp aH λ_ _ q=>q
def Ts(l:FE X F E e i)(m:FA X F E es h)(n:autoParam (qSa X e es) Zq._auto_1):FA X F E (e::es) (aj i h):=(QB l m n).imp aH λU Q q=>aH _ _ _ (λd j q1=>aH _ _ _ (λg f q2=>q2) (bW q1)) (bW q)
@[simp] def cc(a:XM (List PyData)):XM PyData:=λU=>(a U).bind λd=>lift (if d.length<=sizeLine then some (.tuple d) else none)
@[simp] def dj(a:XM (List PyData)):XM PyData:=λU=>(a U).bind λd=>lift (if d.length<=sizeLine then some (.list d) else none)
def cP(h:FA X F E es g):FE X F E (.Tuple es i pos) (cc g):=(QF h).imp aH λU Q q=>aH _ _ _ (λk j q1=>by
 let⟨d,f,q2⟩:=da q1;simp_all) (bW q)
def fA(h:FA X F E es g):FE X F E (.List es pos) (dj g):=(QG h).imp aH λU Q q=>aH _ _ _ (λj i q1=>by
 let⟨d,f,q2⟩:=da q1;simp_all) (bW q)
@[simp] def cn(g:List PyData->Option PyData)(a:XM (List PyData)):XM PyData:=λU=>(a U).bind λd=>lift (g d)
def FN(f:DN)(g:List PyData->Option PyData):Prop:=∀h d Q,g h=!d->Q d->f h Q
def fh(j:FN f g)(h:DE X F e (rp f (wp E i))):FE X F E e (cn g i):=h.imp aH λU Q q=>aH _ _ _ (λl m q1=>by
 let⟨d,k,q2⟩:=da q1;exact j l d _ k q2) (bW q)
@[simp]noncomputable def cK:List PyData->Option PyData:=λd=>match d with
 |[.list ds]=>some (.int ds.length)
 |[.tuple ds]=>some (.int ds.length)
 |_=>none
def jY:FN Fd cK:=λf d Q e q=>by
 unfold cK at e;split at e
 .cases e;exact#[_,.inl rfl,q]
 .cases e;exact#[_,.inr rfl,q]
 .cases e
@[simp]noncomputable def ou:List PyData->Option PyData:=λd=>match d with
 |[.int i,.int j]=>some (.int (max i j))
 |_=>none
def uY:FN Fe ou:=λf d Q e q=>by
 unfold ou at e;split at e
 .cases e;exact#[_,_,rfl,q]
 .cases e
@[simp]noncomputable def ox:List PyData->Option PyData:=λd=>match d with
 |[.int i]=>some (.int i)
 |[.bool b]=>some (.int (if b then 1 else 0))
 |_=>none
def FV:FN Ff ox:=λf d Q e q=>by
 unfold ox at e;split at e
 .cases e;exact .inl #[_,rfl,q]
 .cases e;exact .inr #[_,rfl,q]
 .cases e
@[simp]noncomputable def uZ:List PyData->Option PyData:=λd=>match d with
 |[.list ds]=>some (.tuple ds)
 |[.tuple ds]=>some (.tuple ds)
 |_=>none
def FY:FN Fh uZ:=λf d Q e q=>by
 unfold uZ at e;split at e
 .cases e;exact .inl #[_,rfl,q]
 .cases e;exact .inr #[_,rfl,q]
 .cases e
noncomputable def ints?:List PyData->Option (List Int)
 |[]=>some []
 |.int i::r=>(ints? r).map (i::·)
 |_::_=>none
noncomputable def bools?:List PyData->Option (List Bool)
 |[]=>some []
 |.bool i::r=>(bools? r).map (i::·)
 |_::_=>none
theorem FZ:∀{g f},ints? g=!f->g=f.map .int
 |[],_,e=>by cases e;rfl
 |d::r,f,e=>by
  cases d with
  |int i=>
   cases q:ints? r with
   |none=>simp[ints?,q]at e
   |some l=>simp[ints?,q]at e;subst e;rw[FZ q];rfl
  |_=>cases e
theorem Ga:∀{g f},bools? g=!f->g=f.map .bool
 |[],_,e=>by cases e;rfl
 |d::r,f,e=>by
  cases d with
  |bool i=>
   cases q:bools? r with
   |none=>simp[bools?,q]at e
   |some l=>simp[bools?,q]at e;subst e;rw[Ga q];rfl
  |_=>cases e
def Tt(d):ints? (d.map .int)=!d:=by
 induction d with
 |nil=>rfl
 |cons i r f=>simp[ints?,f]
def pU:List PyData->Option PyData:=λd=>match d with
 |[.list ds]=>(bools? ds).map λbs=>.bool (bs.all id)
 |_=>none
noncomputable def zx:List Int->Option Int
 |[]=>none
 |i::r=>!r.foldl max i
def Tv(r:List Int):∀i,i<=r.foldl max i/\(∀a∈r,a<=r.foldl max i)/\(r.foldl max i=i\/r.foldl max i∈r):=by
 induction r with
 |nil=>intro i;exact#[q0M _,λa h=>(by cases h),.inl rfl]
 |cons j r g=>
  intro i;let⟨f,k,d⟩:=g (max i j);refine#[q1Y (Int.le_max_left _ _) f,λa h=>?_,?_]
  .rcases q0c.mp h with rfl |h
   .exact q1Y (Int.le_max_right _ _) f
   .exact k a h
  .rcases d with d |d
   .rw[q1G,d];rcases Int.le_total i j with q |q
    .exact .inr (by rw[Int.max_eq_right q];exact q0g)
    .exact .inl (Int.max_eq_left q)
   .exact .inr (bK _ d)
def pV:List PyData->Option PyData:=λd=>match d with
 |[.list ds]=>((ints? ds).bind zx).map .int
 |_=>none
def Tw:∀k d (Q:PyData->Prop),pV k=!d->Q d->∃f,k=[.list (f.map .int)]/\f≠[]/\∃M,d=.int M/\M∈f/\(∀a∈f,a<=M):=λs d Q e q=>by
 unfold pV at e;split at e
 .let⟨M,l,m⟩:=q0i.mp e;let⟨f,n,j⟩:=q0R.mp l;cases f with
  |nil=>cases j
  |cons i r=>
   cases j;let⟨o,p,g⟩:=Tv r i;refine#[i::r,by rw[FZ n],by simp,_,m.symm,?_,λa h=>?_]
   .grind
   .rcases q0c.mp h with rfl |h
    .exact o
    .exact p a h
 .cases e
@[simp]noncomputable def va(i:Nat):XM PyData:=λU=>match U[i]? with
 |some (!.scr ns)=>if ns.length<=63 then .ok (.int ns.length) U else .bad
 |_=>.bad
@[simp] def vb(i:Nat)(a:XM PyData):XM PyData:=λU=>match U[i]? with
 |some (!.scr ns)=>(a U).bind λd=>lift (match d with |.int k=>(bT ns k).map .int |_=>none)
 |_=>.bad
@[simp]noncomputable def zy(i:Nat):XM Bool:=λU=>match U[i]? with
 |some (!.scr ns)=>.ok (decide (ns=[])) U
 |_=>.bad
def Gb(h:DE X F e (Fo i)):FE X F E e (va i):=h.imp aH λU Q q=>by
 unfold wp va at q;cases h:U[i]? with
 |none=>simp_all
 |some o=>
  rw[h]at q;cases o with
  |none=>exact q.elim
  |some c=>
   cases c with
   |scr ns=>
    simp only at q
    by_cases d:ns.length<=63
    .rw[if_pos d]at q;exact#[ns,h,λ_=>q]
    simp_all
   |_=>exact q.elim
def Gc(h:DE X F e (Fq i (wp E f))):FE X F E e (vb i f):=h.imp aH λU Q q=>by
 unfold wp vb at q;cases h:U[i]? with
 |none=>simp_all
 |some o=>
  rw[h]at q;cases o with
  |none=>exact q.elim
  |some c=>
   cases c with
   |scr ns=>
    refine#[ns,h,aH _ _ _ (λd p q1=>?_) (bW q)];let⟨y,g,q2⟩:=da q1;cases d with
    |int k=>let⟨n,j,l⟩:=q0i.mp g;subst l;exact#[k,n,rfl,j,q2]
    |_=>cases g
   |_=>exact q.elim
def TB(h:DB X F e (Fu i)):FB X F E e (zy i):=h.imp aH λU Q q=>by
 unfold wp zy at q;cases h:U[i]? with
 |none=>simp_all
 |some o=>
  rw[h]at q;cases o with
  |none=>exact q.elim
  |some c=>
   cases c with
   |scr ns=>exact#[ns,h,q]
   |_=>exact q.elim
@[simp]noncomputable def aw(i:Nat):GM:=λd U=>!U.set i (!.dat d)
def TC(h:DG X F e (gN i)):FG X F e (aw i):=#[λd U Q g k q=>k _ q,h.pg.imp λv Y H Q f=>by let⟨U,O,d,st,hd,q⟩:=f;exact#[U,O,d,st,hd,q]]
abbrev lH:=List PyData->ag->Option ag
def pW(g:lH):mH:=λd U Q=>match g d U with
 |some f=>Q f
 |none=>False
abbrev vc(X:Cx)(F:Fx)(d:List Expr)(g:lH):Prop:=rr X F d (pW g)
@[simp]noncomputable def dJ:lH:=λd U=>match d with |[]=>!U |_=>none
@[simp] def bC(t:GM)(u:lH):lH:=λg U=>match g with |d::r=>(t d U).bind λf=>u r f |[]=>none
def TD:∀d U  Q f,(∀h,Q h->f h)->fH g d U Q->fH g d U f:=λd U Q f k q=>by
 unfold fH at q ⊢;generalize g d U=o at q ⊢;cases o with
 |some h=>exact k _ q
 |none=>exact q
def Gd:∀d U  Q f,(∀h,Q h->f h)->pW g d U Q->pW g d U f:=λd U Q f k q=>by
 unfold pW at q ⊢;generalize g d U=o at q ⊢;cases o with
 |some h=>exact k _ q
 |none=>exact q
def jZ:vc X F [] dJ:=#[Gd,Rq.pg.imp λv Y H Q f=>by
 let⟨U,O,d,st,hd,q⟩:=f;exact#[U,O,d,st,hd,by
 cases d with
 |nil=>exact#[rfl,q]
 |cons _ _=>exact q.elim]]
def em(h:FG X F e g)(i:vc X F es gs)(k:autoParam ((assignEach (e::es) X.env).map (·.2)=assign e X.env::(assignEach es X.env).map (·.2)) Zq._auto_1):vc X F (e::es) (bC g gs):=#[Gd,(Rr h i k).pg.imp λv Y H Q j=>by
 let⟨U,O,d,st,hd,q⟩:=j;exact#[U,O,d,st,hd,by
 unfold pW bC at q;cases d with
 |nil=>exact q.elim
 |cons d r=>
  refine#[d,r,rfl,?_];unfold fH;simp only at q;cases f:g d U with
  |none=>simp_all
  |some l=>rw[f]at q;exact q]]
@[simp]noncomputable def dB(n:Nat)(t:lH):GM:=λd U=>match d with |.tuple ds=>if ds.length=n then t ds U else none |_=>none
def ka{pos:Pos}{k }(i:X.calm=true)(h:vc X F es gs)(j:autoParam ((assignEach es X.env).length=n) Zq._auto_1)(f:autoParam ((assignEach es X.env).findIdx? (·.1)=none) Zq._auto_1):FG X F (.Tuple es k pos) (dB n gs):=#[TD,(Rt i h j f).pg.imp λv Y H Q l=>by
 let⟨U,O,d,st,hd,q⟩:=l;exact#[U,O,d,st,hd,by
 unfold fH dB at q;cases d with
 |tuple ds=>
  simp only at q
  by_cases g:ds.length=n
  .rw[if_pos g]at q;exact#[ds,rfl,g,q]
  simp_all
 |_=>exact q.elim]]
@[simp]noncomputable def aG:XM (List AX):=λU=>.ok [] U
@[simp] def ao(a:XM PyData)(r:XM (List AX)):XM (List AX):=λU=>(a U).bind λd f=>(r f).bind λas g=>.ok (.d d::as) g
@[simp] def aN(j:Nat)(r:XM (List AX)):XM (List AX):=λU=>match U[j]? with
 |some (!_)=>(r U).bind λas d=>.ok (.s j::as) d
 |_=>.bad
def aL:FX X F E [] aG:=RS.imp aH λ_ _ q=>q
def TF(j:FE X F E e g)(l:FX X F E es h)(n:autoParam (qSa X e es) Zq._auto_1):FX X F E (e::es) (ao g h):=(RT j l n).imp aH λU Q q=>aH _ _ _ (λd i q1=>aH _ _ _ (λo f q2=>q2) (bW q1)) (bW q)
@[simp] def lI(f:FM)(as:List AX):XM af:=λU=>match jt U as with
 |some (h,g)=>(match f h with
  |.rt c d=>.ok c (ft g d (iH g U))
  |.ex c d=>.ex c (ft g d (iH g U))
  |.bad=>.bad)
 |none=>.bad
@[simp] def aI(f:FM)(a:XM (List AX)):XM af:=λU=>(a U).bind (lI f)
def Gf(h:DO X F e (zg g E (wp E i))):FO X F E e (aI g i):=h.imp aH λU Q q=>aH _ _ _ (λas l q1=>by
 unfold wp lI at q1;unfold iI;cases j:jt l as with
 |none=>simp_all
 |some p=>
  let⟨m,n⟩:=p;rw[j]at q1;simp only at q1 ⊢;cases f:g m with
  |rt c d=>simp_all
  |ex c d=>simp_all
  |bad=>simp_all) (bW (k:=lI g) q)
@[simp] def aO(a:XM af):XM PyData:=λU=>(a U).bind λc=>lift (frz c)
def bd(h:FO X F E e d):FE X F E e (aO d):=h.de.imp aH λU Q q=>aH _ _ _ (λc f q1=>da q1) (bW q)
@[simp]noncomputable def aY:SM:=λU=>.nx U
@[simp]noncomputable def ak(m k:SM):SM:=λU=>match m U with
 |.nx d=>k d
 |o=>o
def bD:ju X F E [] aY:=Rw.imp λ_ _ q=>q
def et{st:Stmt}(d:FS X F E st m)(f:ju X F E rest k):ju X F E (st::rest) (ak m k):=(Rx d f).imp λD U q=>by
 show wpS E m _ U;unfold wpS ak at q;unfold wpS;generalize m U=o at q ⊢;cases o with
 |nx g=>exact q
 |_=>exact q
def dc{st:Stmt}(h:FS X F E st m):ju X F E [st] m:=Nr h
@[simp]noncomputable def ef{α:Type}(o:gF α)(k:α->ag->eF):eF:=match o with
 |.ok a U=>k a U
 |.ex c U=>.ex c U
 |.bad=>.bad
def fJ{m}{k:α->SM}(q:wpS E (λU=>ef (m U) k) D U):wp E m U λa d=>wpS E (k a) D d:=by
 unfold wpS ef at q;unfold wp;simp only at q;generalize m U=o at q ⊢;cases o with
 |ok a d=>exact q
 |ex c d=>exact q
 |bad=>exact q
@[simp]noncomputable def zA(o:Option ag):eF:=match o with
 |some U=>.nx U
 |none=>.bad
@[simp] def bh(m:XM PyData)(g:GM):SM:=λU=>ef (m U) λd f=>zA (g d f)
def vd(q:wpS E (bh m g) D U):uR (wp E m) (fH g) D U:=aH _ _ _ (λd f q1=>by
 unfold wpS zA at q1;unfold fH;simp only at q1;generalize g d f=o at q1 ⊢;cases o with
 |some h=>exact q1
 |none=>exact q1) (fJ q)
def Gg{pos:Pos}(f:X.N.Nodup)(g:X.N[i]? = !x)(k:Loc X.env.scope x)(h:FE X F E e m)(l:autoParam (swapsWith e (!.Name x d) pos.line X.env=pure false) Zq._auto_1)
  (j:autoParam (X.fn x=true\/X.env.scope.names.lookup x=!.local) Zqa._auto_1):FS X F E (.Assign [.Name x d] e pos) (bh m (aw i)):=(RA f g k h l j).imp λD U q=>vd q
@[simp]noncomputable def zB(i:Nat)(c:af):SM:=λd=>if i<d.length then(match c with |.own true _=>.bad |c=>.nx (d.set i (!c))) else .bad
@[simp] def il(i:Nat)(m:XM af):SM:=λU=>ef (m U) (zB i)
def TK{pos:Pos}(h:X.N.Nodup)(j:X.N[i]? = !x)(p:Loc X.env.scope x)(l:FO X F E e m)(r:autoParam (swapsWith e (!.Name x f) pos.line X.env=pure false) Zq._auto_1)
  (n:autoParam (X.fn x=true\/X.env.scope.names.lookup x=!.local) Zqa._auto_1):FS X F E (.Assign [.Name x f] e pos) (il i m):=(RH h j p l r n).imp λD U q=>aH _ _ _ (λc o q1=>by
 unfold wpS zB at q1
 lia) (fJ q)
@[simp] def bc(m:XM PyData):SM:=λU=>ef (m U) λd f=>.rt (.dat d) f
@[simp] def dD(m:XM af):SM:=λU=>ef (m U) λc d=>.rt c d
@[simp] def jv(m:XM af):SM:=λU=>ef (m U) λ_ d=>.nx d
def TL(g:FE X F E e m):FS X F E (.Return (!e) pos) (bc m):=(EO g).imp λD U q=>aH _ _ _ (λc f q1=>q1) (fJ q)
def pX(g:FO X F E e m):FS X F E (.Return (!e) pos) (dD m):=(RD g).imp λD U q=>aH _ _ _ (λc f q1=>q1) (fJ q)
def TM(f:FO X F E e m)(g:autoParam (swapsWith e none pos.line X.env=pure false) Zq._auto_1):FS X F E (.Expr e pos) (jv m):=(RJ f g).imp λD U q=>aH _ _ _ (λc d q1=>q1) (fJ q)
@[simp]noncomputable def rG(i:Nat):SM:=λU=>match U[i]? with
 |some (!.own false b)=>.rt (.own false b) (U.set i none)
 |some (!.dat d)=>.rt (.dat d) U
 |_=>.bad
@[simp] def aV(t:XM Bool)(a b:SM):SM:=λU=>ef (t U) λx d=>if x=true then a d else b d
def rH{mt}(l:FB X F E d mt)(m:ju X F E i f)(n:ju X F E j g):FS X F E (.If d i j pos) (aV mt f g):=(RL l m n).imp λD U q=>aH _ _ _ (λx h q1=>by
 cases x with
 |true=>exact fQ q1
 |false=>exact fP q1) (fJ q)
noncomputable def fV(d n:String):Option Bool:=if d=n then some true else
 if d="bool"/\n="int" then some true else
 if (d="int"\/d="bool"\/d="str"\/d="list"\/d="tuple"\/d="NoneType")/\(n="int"\/n="bool"\/n="str"\/n="list"\/n="tuple") then some false else none
def TN(h:fV d n=!b)(K):kitOne K (.type d) (.type n)=!b:=by
 unfold fV at h;split at h
 .rename_i e;cases h;subst e;unfold kitOne;rw[if_pos 'd']
 .split at h
  .rename_i e;cases h;let⟨rfl,rfl⟩:=e;rfl
  .rename_i n1 a;split at h
   .rename_i e;cases h;let⟨c,f⟩:=e;rcases c with rfl |rfl |rfl |rfl |rfl |rfl<;>rcases f with rfl |rfl |rfl |rfl |rfl<;>first |rfl |(exact absurd rfl n1) |(exact absurd #[rfl,rfl] a)
   .cases h
@[simp] def kb(n:String)(a:XM PyData):XM PyData:=λU=>(a U).bind λd=>lift ((fV (yS d) n).map .bool)
def lJ(h:DE X F e (EG n (wp E f))):FE X F E e (kb n f):=h.imp aH λU Q q=>aH _ _ _ (λd k q1=>by
 let⟨y,g,q2⟩:=da q1;let⟨b,i,j⟩:=q0i.mp g;subst j;exact#[b,TN i,q2]) (bW q)
def Gh(p:PE X (.Name x l) (bQ i)):FS X F E (.Return (!.Name x l) pos) (rG i):=λg s Y H D I j=>by
 let⟨U,O,m,k,q,f⟩:=j;unfold wpS rG at q;cases h:U[i]? with
 |none=>simp_all
 |some o=>
  rw[h]at q;cases o with
  |none=>exact q.elim
  |some c=>
   cases c with
   |own io b=>cases io with
    |true=>exact q.elim
    |false=>exact RF p g s Y H D I #[U,O,m,k,#[b,h,q],f]
   |dat d=>exact EO (Et i p) g s Y H D I #[U,O,m,k,.inl #[d,h,q],f]
   |scr n=>exact q.elim
   |exc n=>exact q.elim
   |vw n=>exact q.elim
noncomputable def cz(g:GM)(b:SM):List PyData->SM
 |[],U=>.nx U
 |d::r,U=>(match g d U with
  |some h=>(match b h with
   |.nx f=>cz g b r f
   |.ct f=>cz g b r f
   |.bk f=>.nx f
   |o=>o)
  |none=>.bad)
@[simp] def fW(s:XM (List PyData))(g:GM)(b:SM):SM:=λU=>ef (s U) (cz g b)
def Gi(t:PassesOwn (model X.prog X.w) X.A X.env X.xe)(u:X.calm=true)(f:FI X F E n iter s)(v:FG X F n g)(B:ju X F E body l)(C:autoParam (∀x,foldedSetIterable iter X.env x=pure x) Zs._auto_1):FS X F E (.For n iter body [] pos) (fW s g l):=
 (Sd t u f v B C).imp λD U q=>aH _ _ _ (λj p q1=>by
  refine#[λi U=>wpS E (cz g l (j.drop i)) D U,q1,λi d U hd f=>?_,λU h=>?_]
  .have e:j.drop i=d::j.drop (i+1):=by let⟨r,y⟩:=q0a.mp hd;rw[<-y];exact q0E r
   simp only[e]at f;unfold wpS cz at f;unfold fH;generalize g d U=o at f ⊢;cases o with
   |none=>exact f
   |some p=>
    show wpS E l _ p;simp only at f;unfold wpS;generalize l p=z at f ⊢;cases z with
    |nx m=>exact f
    |ct m=>exact f
    |bk m=>exact f
    |rt c m=>exact f
    |ex c m=>exact f
    |bad=>exact f
  .simp only[q1x]at h;exact h) (fJ (k:=cz g l) q)
def gS(c:XM Bool)(b:SM):Nat->SM
 |0,_=>.bad
 |n+1,U=>ef (c U) λt f=>if t=true then(match b f with
   |.nx d=>gS c b n d
   |.ct d=>gS c b n d
   |.bk d=>.nx d
   |o=>o) else .nx f
theorem eW{p:Nat->Prop}:(∃k,p k)->∃k,p k/\∀j,p j->k<=j:=by
 rintro⟨k,d⟩
 induction k using Nat.strongRecOn with
 |_ k f=>
  by_cases h:∃j,j<k/\p j
  .let⟨j,g,i⟩:=h;exact f j g i
  .exact#[k,d,λj l=>q1Z λz=>h #[j,z,l]]
def Gj(y:PassesOwn (model X.prog X.w) X.A X.env X.xe)(z:FB X F E i g)(C:ju X F E body f):FS X F E (.While i body [] pos) (gS g f n):=
 (Sf y z C).imp λD U q=>by
  classical
  let ok:Nat->ag->Prop:=λk U=>wpS E (gS g f k) D U;let l:ag->Prop:=λU=>∃k,ok k U;let μ:ag->Nat:=λU=>if h:l U then(eW h).choose else 0
  have u:∀U,l U->ok (μ U) U/\∀j,ok j U->μ U<=j:=λU h=>by rw[show μ U=(eW h).choose from dif_pos h];exact(eW h).choose_spec
  refine#[l,μ,#[n,q],λU G=>?_];have p:ok (μ U) U:=(u U G).1;cases v:μ U with
  |zero=>rw[v]at p;exact p.elim
  |succ k=>
   rw[v]at p;have less:∀d,ok k d->l d/\μ d<k+1:=λd s=>#[#[k,s],Nat.lt_succ_of_le ((u d #[k,s]).2 k s)]
   refine aH _ _ _ (λt r q1=>?_) (fJ (m:=g) (k:=λt r=>if t=true then(match f r with |.nx d=>gS g f k d |.ct d=>gS g f k d |.bk d=>.nx d |o=>o) else .nx r) p);cases t with
   |false=>exact fP q1
   |true=>
    refine fQ ?_;unfold wpS at q1 ⊢;simp only[if_true]at q1;generalize f r=B at q1 ⊢;cases B with
    |nx d=>exact less d q1
    |ct d=>exact less d q1
    |bk d=>exact q1
    |rt c d=>exact q1
    |ex c d=>exact q1
    |bad=>exact q1
@[simp] def mP(a:XM PyData):XM (List PyData):=λU=>(a U).bind λd=>lift (match d with |.list ds=>!ds |_=>none)
@[simp] def kc(a:XM PyData):XM (List PyData):=λU=>(a U).bind λd=>lift (match d with |.tuple ds=>!ds |_=>none)
theorem DI.imp(h:DI X F g iter t)(l:∀U Q i,(∀d j,Q d j->i d j)->t' U Q->t' U i)(k:∀U Q,t' U Q->t U Q):DI X F g iter t':=#[l,h.pi.imp λY H Q f=>by let⟨U,O,st,q⟩:=f;exact#[U,O,st,k U _ q]]
def ve(h:FE X F E e f):FI X F E i e (mP f):=(RZ h).imp aH λU Q q=>aH _ _ _ (λd j q1=>by
 let⟨y,g,q2⟩:=da q1;grind) (bW q)
def lK(h:FE X F E e f):FI X F E i e (kc f):=(Sa h).imp aH λU Q q=>aH _ _ _ (λd j q1=>by
 let⟨y,g,q2⟩:=da q1;grind) (bW q)
@[simp] def eO(g:List PyData->Option (List PyData))(a:XM (List PyData)):XM (List PyData):=λU=>(a U).bind λd=>lift (g d)
@[simp] def dk:List PyData->Option (List PyData):=λd=>match d with
 |[.int j]=>if (decide (-(2 ^ 62)<=j)&&decide (j<2 ^ 62))=true then some (intsFrom 0 j.toNat) else none
 |_=>none
def oy(h:DI X F f e (EY (wp E g))):FI X F E f e (eO dk g):=h.imp aH λU Q q=>aH _ _ _ (λj i q1=>by
 let⟨y,d,q2⟩:=da q1;unfold dk at d;split at d
 .simp_all
 .cases d) (bW q)
@[simp] def fX:List PyData->Option (List PyData):=λd=>match d with
 |[.list ds]=>some (numbered ds)
 |_=>none
def vf(h:DI X F f e (iE (wp E g))):FI X F E f e (eO fX g):=h.imp aH λU Q q=>aH _ _ _ (λj i q1=>by
 let⟨y,d,q2⟩:=da q1;unfold fX at d;split at d
 .simp_all
 .cases d) (bW q)
noncomputable def cE(g:GM)(t:XM Bool)(m:XM PyData):List PyData->List PyData->ag->Option (List PyData)
 |[],f,_=>some f
 |d::r,f,U=>(match g d U with
  |some i=>(match t i with
   |.ok true h=>(match m h with
    |.ok y j=>if f.length<sizeLine then cE g t m r (f++[y]) j else none
    |_=>none)
   |.ok false h=>cE g t m r f h
   |_=>none)
  |none=>none)
@[simp] def lL(own:Nat)(d:List Nat)(U:ag):ag:=List.replicate own none++d.map λj=>rz U[j]?
@[simp] def Gk(own:Nat)(d:List Nat)(g:GM)(t:XM Bool)(m:XM PyData)(f:List PyData):XM PyData:=λh=>lift ((cE g t m f [] (lL own d h)).bind λi=>if i.length<=sizeLine then some (.list i) else none) h
@[simp] def iK(own:Nat)(d:List Nat)(s:XM (List PyData))(g:GM)(t:XM Bool)(m:XM PyData):XM PyData:=λU=>(s U).bind (Gk own d g t m)
abbrev eP:Str->ag->Prop:=λ_ _=>False
def Gm(q:wp E (iK own.length j s g t m) U Q):rA own j (wp E s) (fH g) (wp eP t) (wp eP m) U Q:=aH _ _ _ (λl r q1=>by
 let⟨y,C,q2⟩:=da (o:=(cE g t m l [] (lL own.length j r)).bind λp=>if p.length<=sizeLine then some (PyData.list p) else none) (U:=r) (E:=E) (Q:=Q) q1;let⟨n,D,u⟩:=q0R.mp C;have z:n.length<=sizeLine/\y=.list n:=by
  split at u
  .rename_i h;cases u;exact#[h,rfl]
  .cases u
 have G:gE own j r=lL own.length j r:=by unfold gE lL;rw[q1K]
 refine#[λi p U=>cE g t m (l.drop i) p U=!n,by rw[G];exact D,λi d p U hd f=>?_,λp U h=>?_]
 .have e:l.drop i=d::l.drop (i+1):=by let⟨v,H⟩:=q0a.mp hd;rw[<-H];exact q0E v
  simp only[e]at f;unfold cE at f;unfold fH;cases A:g d U with
  |none=>rw[A]at f;cases f
  |some I=>
   rw[A]at f;simp only at f ⊢;unfold wp;cases ht:t I with
   |ex c B=>rw[ht]at f;cases f
   |bad=>rw[ht]at f;cases f
   |ok b B=>
    rw[ht]at f;cases b with
    |false=>exact fP f
    |true=>
     refine fQ ?_;simp only at f ⊢;cases w:m B with
     |ex c J=>rw[w]at f;cases f
     |bad=>rw[w]at f;cases f
     |ok L J=>
      rw[w]at f;simp only at f ⊢;split at f
      .rename_i h;exact#[h,f]
      .cases f
 .simp only[q1x]at h;have:p=n:=by unfold cE at h;exact q0x h
  subst this;rw[z.2]at q2;exact#[z.1,q2]) (bW (k:=Gk own.length j g t m) q)
abbrev mQ(X:Cx)(F:Fx)(E:Str->ag->Prop)(d:List Expr)(m:XM Bool):Prop:=pQ X F d (wp E m)
noncomputable def dL:XM Bool:=λU=>.ok true U
def lM:mQ X F E [] dL:=#[aH,λd s Y H Q I f=>by let⟨U,O,st,q⟩:=f;exact Si.2 d s Y H Q I #[U,O,st,q]]
def rJ(h:FB X F E c d):mQ X F E [c] d:=#[h.mn,PZ h.pt]
def pY(v:GF X.mg F)(S:al X d own f h)(w:X.calm=true)(y:own.length=n)(z:FI X F E l iter s)
  (o:∀C fp p r u k,GF X.mg k->FG (cy X d (own++f) C fp p r u) k l g/\mQ (cy X d (own++f) C fp p r u) k eP j t/\FE (cy X d (own++f) C fp p r u) k eP i m)
  (A:autoParam (∀x,foldedSetIterable iter X.env x=pure x) Zs._auto_1):FE X F E (.ListComp i [#[l,iter,j,0]] d pos) (iK n h s g t m):=by
 subst y;exact(Sk v S w z o A).imp aH λU Q q=>Gm q
def zC{j}(G:X.N.Nodup)(r:X.N[i]? = !y)(R:Loc X.env.scope y)(H:GF X.mg F)(S:al X f own capN caps)(I:X.calm=true)(J:own.length=n)(L:FI X F E o iter s)
  (u:∀C fp v w A p,GF X.mg p->FG (cy X f (own++capN) C fp v w A) p o g/\mQ (cy X f (own++capN) C fp v w A) p eP l t/\FE (cy X f (own++capN) C fp v w A) p eP k m)
  (z:autoParam (swapsWith (.ListComp k [#[o,iter,l,0]] f pos) (!.Name y py) j.line X.env=pure true) Zq._auto_1)
  (T:autoParam (∀x,foldedSetIterable iter X.env x=pure x) Zs._auto_1) (M:autoParam (X.fn y=true\/X.env.scope.names.lookup y=!.local) Zqa._auto_1) :
  FS X F E (.Assign [.Name y py] (.ListComp k [#[o,iter,l,0]] f pos) j) (bh (iK n caps s g t m) (aw i)):=by
 subst J;exact(Sl G r R H S I L u z T M).imp λD U q=>by exact zi aH U _ _ (λd B h=>h) (Gm (vd q))
def aF.fresh{K:Frag}(st:aF K F H Y U O)(c:H p=none)(g:Mv o):∃O',aF K (F.plus [p]) (aM H p o) Y U O'/\aR O H O' (aM H p o):=by let⟨O',d,f,_⟩:=aF.swap (L:=[]) (L':=[p]) (H':=aM H p o) st (λb u _ e=>cp c b u e) 'd' (λa h=>.inr 'h') (λa h=>by cases h) (λa h=>by obtain rfl:=q0l.mp h;exact#[o,cI,g]);exact#[O',d,f]
def aF.new1{K:Frag}(st:aF K F H Y U O)(c:H p=none):∀a∈[p],a∈F.A₀\/F.H₀ a=none:=λa h=>by
 obtain rfl:=q0l.mp h
 by_cases b:a∈F.A₀
 .exact .inl b
 .refine .inr ?_;cases e:F.H₀ a with
  |none=>rfl
  |some o=>let⟨W,h,_⟩:=st;have:=h.kept a o b e;lia
def TQ(t:eV):jr:=λU Q=>t U λd f=>d.length<=sizeLine/\Q (.own false (.l d)) f
def TR(h:DA X F es i):DO X F (.List es pos) (TQ i):=
 #[λ_ _ _ k q=>h.mn _ _ _ (λ_ _ q1=>#[q1.1,k _ _ q1.2]) q,(uC h.pa).imp λY H Q d=>by let⟨U,O,st,q⟩:=d;exact 
  #[U,O,st,h.mn _ _ _ (λv s q1 vs t u f n j=>#[by rw[j.length];exact q1.1,λp l=>by
   let⟨r,g,m⟩:=f.fresh (o:=.lst vs) l trivial;exact q1.2 _ _ r [p] #[g,#[p,rfl,rfl,vs,cI,aK.mono m.hid j],f.new1 l] (n.trans m)]) q]]
@[simp] def iM(a:XM (List PyData)):XM af:=λU=>(a U).bind λd=>lift (if d.length<=sizeLine then some (.own false (.l d)) else none)
def mR(h:FA X F E es g):FO X F E (.List es pos) (iM g):=(TR h).imp aH λU Q q=>aH _ _ _ (λj i q1=>by
 let⟨d,f,q2⟩:=da q1;simp_all) (bW q)
@[simp]noncomputable def zD(i:Nat)(d:PyData):SM:=λf=>match f[i]? with
 |some (!.own io (.l ds))=>if ds.length<sizeLine then .nx (f.set i (!.own io (.l (ds++[d])))) else .bad
 |_=>.bad
@[simp] def mS(i:Nat)(m:XM PyData):SM:=λU=>match U[i]? with
 |some (!.own _ (.l _))=>ef (m U) (zD i)
 |_=>.bad
def Gn{pos:Pos}(hv:PE X (.Name x p) (bQ i))(Q:FE X F E e m)(y:autoParam (swapsWith (.Call (.Attribute (.Name x p) "append" apos) [e] [] g) none pos.line X.env=pure false) Zq._auto_1)
  (j:autoParam (qSc X (.Name x p) "append") Zq._auto_1)
  (r:autoParam (((backTo g (starEach [e] X.env)).all (λx=>not x.1)&&(backToKw g (keywordEach [] X.env)).all (λx=>x.1.isSome)&&decide (([e]:List Expr).length+([]:List Keyword).length+(if ([]:List Keyword).isEmpty then 0 else 1)<30))=true) Zq._auto_1)
  (n:autoParam ((apos.endLine==g.line)=true) Zq._auto_1) (N:autoParam (qSa X e []) Zq._auto_1) (h:autoParam (qSb X g []) Zq._auto_1) :
  FS X F E (.Expr (.Call (.Attribute (.Name x p) "append" apos) [e] [] g) pos) (mS i m):=
 (nT (nV q0Y q1c q1d uD hv (dQ Q.pe eK N) j r n N h) y).imp λD Y H t=>by
  let⟨U,O,DD,st,q,f⟩:=t;unfold wpS mS at q;cases z:U[i]? with
  |none=>rw[z]at q;exact q.elim
  |some o=>
   rw[z]at q;cases o with
   |none=>exact q.elim
   |some R=>
    cases R with
    |dat d=>exact q.elim
    |scr d=>exact q.elim
    |exc d=>exact q.elim
    |vw d=>exact q.elim
    |own S T=>
     cases T with
     |m _ _=>exact q.elim
     |o _ _=>exact q.elim
     |sd _=>exact q.elim
     |ll _=>exact q.elim
     |pr _ _ _=>exact q.elim
     |oo _ _=>exact q.elim
     |l Z=>
      obtain⟨a,fp,u,⟨_,xs,hH,_⟩,_,_⟩:=st.box z;refine#[_,u,.inl #[rfl,xs,.of hH],U,O,st,aH _ _ _ (λd U1 q1 w H1 O1 A s1 d1=>?_) (fJ (m:=m) (k:=zD i) q)];unfold wpS zD at q1;cases B:U1[i]? with
      |none=>rw[B]at q1;exact q1.elim
      |some o=>
       rw[B]at q1;cases o with
       |none=>exact q1.elim
       |some c1=>
        cases c1 with
        |dat d=>exact q1.elim
        |scr d=>exact q1.elim
        |exc d=>exact q1.elim
        |vw d=>exact q1.elim
        |own a0 b1=>
         cases b1 with
         |m _ _=>exact q1.elim
         |o _ _=>exact q1.elim
         |sd _=>exact q1.elim
         |ll _=>exact q1.elim
         |pr _ _ _=>exact q1.elim
         |oo _ _=>exact q1.elim
         |l ds=>
          simp only at q1;obtain⟨a1,a2,v,⟨e1,C,I,hd⟩,hO,up⟩:=A.box B;rw[u]at v;cases v;subst e1
          by_cases J:ds.length<sizeLine
          .rw[if_pos J]at q1;refine#[a,C,w,rfl,rfl,I,by rw[hd.length];exact J,?_];let⟨O2,L,s2,_⟩:=up (aM H1 a (.lst (C++[w]))) (.l (ds++[d])) [a] (λc o M e=>by rw[bt (by simpa using M)];exact e) 'd' (λc M=>.inl M) (λG O' s hG _=>by
            subst hG;exact#[s.hid,rfl,C++[w],cI,(aK.mono s.hid hd).append (.cons (DV.mono s.hid d1) .nil)])
           exact f.nx _ _ _ _ L (s1.trans s2) q1
          .rw[if_neg J]at q1;exact q1.elim
@[simp]noncomputable def TU:af->Option PyData
 |.dat (.list ds)=>some (.int ds.length)
 |.dat (.tuple ds)=>some (.int ds.length)
 |.own _ (.l ds)=>some (.int ds.length)
 |_=>none
@[simp] def zE(i:Nat):XM PyData:=λU=>match U[i]? with
 |some (!c)=>lift (TU c) U
 |_=>.bad
def TV{F:Fx}{E:Str->ag->Prop}{pos:Pos}{p }(s:Gl X "len")(t:X.mg "len" = none)(h:PE X (.Name x j) (bQ i))(r:autoParam (qSa X (.Name x j) []) Zq._auto_1)(m:autoParam (qSb X pos []) Zq._auto_1) :
  FE X F E (.Call (.Name "len" p) [.Name x j] [] pos) (zE i):=
 #[aH,(pH iX s t q2i (dQ h eK r) 'f' 'f' r m).imp λY H Q f=>by
  let⟨U,O,st,q⟩:=f;unfold wp zE at q;cases k:U[i]? with
  |none=>rw[k]at q;exact q.elim
  |some o=>
   rw[k]at q;cases o with
   |none=>exact q.elim
   |some u=>
    unfold lift at q;cases u with
    |scr d=>exact q.elim
    |exc d=>exact q.elim
    |vw d=>exact q.elim
    |dat d=>
     let⟨v,hv,hd⟩:=st.dat k;cases d with
     |list ds=>let⟨a,g,rfl,n,hx⟩:=hd.lst_inv;exact#[_,hv,a,g,rfl,.inl (.of (cZ n).1),by rw[hx.length];exact q _ H O st .refl (.int _)]
     |tuple ds=>let⟨a,g,rfl,n,hx⟩:=hd.tup_inv;exact#[_,hv,a,g,rfl,.inr (.inl (iB n).1),by rw[hx.length];exact q _ H O st .refl (.int _)]
     |_=>exact q.elim
    |own io b=>
     cases b with
     |l ds=>obtain⟨a,fp,hv,⟨_,g,w,hx⟩,_,_⟩:=st.box k;exact#[_,hv,a,g,rfl,.inl (.of w),by rw[hx.length];exact q _ H O st .refl (.int _)]
     |_=>exact q.elim]
noncomputable def jw:PyData->Option aX
 |.int i=>some (.inl i)
 |.str x=>some (.inr x)
 |_=>none
def jx:List PyData->Option (List aX)
 |[]=>some []
 |d::r=>(match jw d,jx r with |some k,!l=>!k::l |_,_=>none)
def je:Bool->PyData->Option (List aX)
 |false,d=>(jw d).map λk=>[k]
 |true,.tuple ds=>jx ds
 |true,_=>none
abbrev kd:=List (PyData×PyData)
def gT(a:Bool):kd->List aX->Option PyData
 |[],_=>none
 |p::r,k=>if je a p.1=some k then some p.2 else gT a r k
def oz(a:Bool)(k:List aX)(v:PyData):kd->kd
 |[]=>[]
 |p::r=>(if je a p.1=some k then(p.1,v) else p)::oz a k v r
def kF(b:Bool)(a:kd)(d:PyData)(k:List aX)(v:PyData):kd:=if (gT b a k).isSome=true then oz b k v a else a++[(d,v)]
def zF(h:DV G v d)(e:jw d=!k):v=kV k:=by
 cases d with
 |int i=>cases e;exact h.int_inv
 |str x=>cases e;exact h.str_inv
 |_=>cases e
def zG:jw (jQ k)=!k:=by cases k<;>rfl
def Go(e:jw d=!k):d=jQ k:=by
 cases d with
 |int i=>cases e;rfl
 |str x=>cases e;rfl
 |_=>cases e
theorem Gp:∀{a},jx (a.map jQ)=some a
 |[]=>rfl
 |k::r=>by show(match jw (jQ k),jx (r.map jQ) with |some k,!l=>!k::l |_,_=>none)=_;rw[zG,Gp]
theorem vg:∀{f a},jx f=!a->f=a.map jQ
 |[],a,e=>by cases e;rfl
 |d::r,a,e=>by
  unfold jx at e;cases b:jw d with
  |none=>simp_all
  |some k=>
   cases c:jx r with
   |none=>simp_all
   |some l=>rw[b,c]at e;cases e;rw[Go b,vg c];rfl
def Gq:∀{vs}{a:List aX},aK G vs (a.map jQ)->vs=a.map kV:=by
 intro vs a
 induction a generalizing vs with
 |nil=>intro h;cases h;rfl
 |cons k r b=>intro h;cases h with
  |cons c d=>rw[zF c zG,b d];rfl
def zH[DecidableEq κ]{R:κ->PyData->Prop}{G}{g}{inj:κ->List aX}(i:∀k d,R k d->je g d=!inj k)(j:∀a b,inj a=inj b->a=b) :
  ∀{f}{c:kd} k,Paired (λ(p:κ×V) (q:PyData×PyData)=>R p.1 q.1/\DV G p.2 q.2) f c->(gk f k=none/\gT g c (inj k)=none)\/∃v d,gk f k=!v/\gT g c (inj k)=!d/\DV G v d:=by
 intro f c k h
 induction h with
 |nil=>exact .inl #[rfl,rfl]
 | @cons p q r s h t l=>
  by_cases e:p.1=k
  .refine .inr #[p.2,q.2,qZ e,?_,h.2];unfold gT;rw[if_pos (by rw[i _ _ h.1,e])]
  .rw[ra e];unfold gT;rw[if_neg (by rw[i _ _ h.1];exactλz=>e (j _ _ (q0x z)))];exact l
def TW[DecidableEq κ]{R:κ->PyData->Prop}{G}{i}{inj:κ->List aX}(j:∀k d,R k d->je i d=!inj k)(l:∀a b,inj a=inj b->a=b){v}{x}(n:DV G v x) :
  ∀{f}{c:kd} k,Paired (λ(p:κ×V) (q:PyData×PyData)=>R p.1 q.1/\DV G p.2 q.2) f c->Paired (λ(p:κ×V) (q:PyData×PyData)=>R p.1 q.1/\DV G p.2 q.2) (f.map λg=>if g.1=k then(g.1,v) else g) (oz i (inj k) x c):=by
 intro f c k h
 induction h with
 |nil=>exact .nil
 | @cons p q r s h t m=>
  refine .cons ?_ m;dsimp only
  by_cases e:p.1=k
  .rw[if_pos e,if_pos (by rw[j _ _ h.1,e])];exact#[h.1,n]
  .rw[if_neg e,if_neg (by rw[j _ _ h.1];exactλz=>e (l _ _ (q0x z)))];exact h
def TX:∀{a b}{c:List α}{vs},Paired R a b->Paired R c vs->Paired R (a++c) (b++vs):=by
 intro a b c vs h s
 induction h with
 |nil=>exact s
 |cons h _ d=>exact .cons h d
def Gr[DecidableEq κ]{R:κ->PyData->Prop}{G}{g}{inj:κ->List aX}(i:∀k d,R k d->je g d=!inj k)(j:∀a b,inj a=inj b->a=b){v}{x d}(m:DV G v x)
  {l}{c:kd}{k}(hd:R k d) (h:Paired (λ(p:κ×V) (q:PyData×PyData)=>R p.1 q.1/\DV G p.2 q.2) l c):Paired (λ(p:κ×V) (q:PyData×PyData)=>R p.1 q.1/\DV G p.2 q.2) (eE l k v) (kF g c d (inj k) x):=by
 rcases zH i j k h with⟨e,f⟩ |⟨n,o,e,f,_⟩
 .rw[uF v e];unfold kF;rw[f,if_neg 'd'];exact TX h (.cons #[hd,m] .nil)
 .unfold kF;rw[f,if_pos (by rfl)];unfold eE;rw[if_pos (by rw[uE,e];rfl)];exact TW i j m k h
def Gs:∀k  d,jQ k=d->je false d=![k]:=λk d e=>by subst e;show(jw (jQ k)).map _=_;rw[zG];rfl
def Gu:∀(a b:aX),[a]=[b]->a=b:=by grind
def pZ:∀k  d,uL k=d->je true d=!k:=λk d e=>by subst e;exact Gp
@[simp] def gU(a:Bool)(d:PyData):Option (List aX):=match d with
 |.tuple []=>none
 |d=>je a d
def Gv(e:gU a d=!k):je a d=!k/\d≠.tuple []:=by
 unfold gU at e;lia
theorem zI:∀{ds k},jx ds=!k->ds≠[]->dU ds=false
 |[],_,_,h=>absurd rfl h
 |[d],k,e,_=>by cases d<;>first |rfl |(simp[jx,jw]at e)
 |d::f::r,k,e,_=>by
  unfold jx at e;split at e
  .rename_i g l a b;have c:=zI b 'd';cases d<;>first |(exact(by simpa[dU] using c)) |(exfalso;simp[jw]at a)
  .cases e
def zJ{kvs:kd}(h:jR G H a tk kvs)(i:bO G H)(g:DV G y d)(e:gU tk d=!k):∃o,iZ H a y o/\((o=none/\gT tk kvs k=none)\/∃v x,o=!v/\gT tk kvs k=!x/\DV G v x):=by
 let⟨e,c⟩:=Gv e;cases tk with
 |false=>let⟨j,f,pr⟩:=h;let⟨l,m,n⟩:=q0i.mp e;subst n;obtain rfl:=zF g m;exact#[_,.k f,zH Gs Gu l pr]
 |true=>
  let⟨j,f,pr⟩:=h;cases d with
  |tuple ds=>let⟨b,p,rfl,hb,hx⟩:=g.tup_invK (zI e λz=>c (by rw[z]));rw[vg e]at hx;rw[Gq hx]at hb;exact#[_,.t f (i _ _ hb),zH pZ (λ_ _ z=>z) k pr]
  |_=>cases e
def Gw{kvs:kd}(h:jR G H a tk kvs)(n:bO G H)(i:DV G y d)(m:DV G v x)(e:gU tk d=!k)(j:kvs.length<sizeLine) :
  ∃o,mx H a y v (aM H a o)/\Mv o/\∀c,bO G c->jR c (aM H a o) a tk (kF tk kvs d k x):=by
 let⟨e,f⟩:=Gv e;cases tk with
 |false=>let⟨p,g,pr⟩:=h;let⟨r,l,q⟩:=q0i.mp e;subst q;obtain rfl:=zF i l;refine#[_,.k g (by rw[Paired.length pr];exact j),trivial,λc s=>#[_,cI,Gr Gs Gu (DV.mono s m) (Go l).symm (Paired.mapP pr λ_ _ z=>#[z.1,DV.mono s z.2])]]
 |true=>
  let⟨p,g,pr⟩:=h;cases d with
  |tuple ds=>let⟨b,u,rfl,hb,hx⟩:=i.tup_invK (zI e λz=>f (by rw[z]));rw[vg e]at hx;rw[Gq hx]at hb;exact#[_,.t g (n _ _ hb) (by rw[Paired.length pr];exact j),trivial,λc s=>#[_,cI,Gr pZ (λ_ _ z=>z) (DV.mono s m) (by unfold uL;rw[<-vg e]) (Paired.mapP pr λ_ _ z=>#[z.1,DV.mono s z.2])]]
  |_=>cases e
def TY{kvs:kd}(h:jR G H a tk kvs):yH H a:=by
 cases tk with
 |false=>let⟨b,c,_⟩:=h;exact .inl #[b,.of c]
 |true=>let⟨b,c,_⟩:=h;exact .inr #[b,.of c]
noncomputable def jf(U:ag)(i:Nat):Option (Bool×Bool×kd):=match U[i]? with
 |some (!.own io (.m b a))=>some (io,b,a)
 |_=>none
def vh(h:jf U i=!(io,b,a)):U[i]? = !!.own io (.m b a):=by
 unfold jf at h;split at h
 .simp_all
 .cases h
noncomputable def zK(d:Bool):XM af:=λU=>.ok (.own false (.m d [])) U
def TZ(i):FO X F E (.Dict [] [] pos) (zK i):=by
 refine#[aH,?_];cases i with
 |false=>apply PJ.imp;rintro Y H Q ⟨U,O,st,q⟩ p f;let⟨g,d,h⟩:=st.fresh (o:=.dK []) f trivial;exact q _ _ g [p] #[d,#[p,rfl,rfl,[],cI,.nil],st.new1 f] h
 |true=>apply Ee.imp;rintro Y H Q ⟨U,O,st,q⟩ p f;let⟨g,d,h⟩:=st.fresh (o:=.dT []) f trivial;exact q _ _ g [p] #[d,#[p,rfl,rfl,[],cI,.nil],st.new1 f] h
def vi(i:Nat)(d y:PyData):XM PyData:=λU=>lift (match jf U i with
 |some (_,g,f)=>(gU g d).map λk=>(gT g f k).getD y
 |none=>none) U
def rK(i:Nat)(m n:XM PyData):XM PyData:=λU=>match jf U i with
 |some _=>(m U).bind λd f=>(n f).bind λy=>vi i d y
 |none=>.bad
def Ua(hu:X.A.units+1<cLine)(hv:PE X (.Name x D) (bQ i))(he:FE X F E e m)(hf:FE X F E f n)(mm:M2 X (.Name x D) "get" apos e f h:=by exact#[rfl,rfl,rfl,rfl]):FE X F E (.Call (.Attribute (.Name x D) "get" apos) [e,f] [] h) (rK i m n):=
 #[aH,(PQ hu hv he.pe hf.pe mm).imp λY H Q s=>by
  let⟨U,O,st,q⟩:=s;unfold wp rK at q;cases G:jf U i with
  |none=>rw[G]at q;exact q.elim
  |some p=>
   rw[G]at q;let⟨io,I,t⟩:=p;obtain⟨a0,fp,u,⟨_,J⟩,_,_⟩:=st.box (vh G);refine#[_,u,a0,rfl,TY J,U,O,st,aH _ _ _ (λd L q1 w H1 O1 M S d1=>?_) (bW (m:=m) (k:=λd L=>(n L).bind λy=>vi i d y) q)];refine#[L,O1,M,aH _ _ _ (λy N q2 z T Z j R d2=>?_) (bW (m:=n) (k:=λy=>vi i d y) q1)];let⟨r,C,q3⟩:=da (o:=match jf N i with |some (_,I,t)=>(gU I d).map λk=>(gT I t k).getD y |none=>none) (U:=N) (E:=E) q2;cases l:jf N i with
   |none=>rw[l]at C;cases C
   |some p=>
    let⟨a2,a3,a1⟩:=p;rw[l]at C;let⟨k,e2,e3⟩:=q0i.mp C;subst e3;obtain⟨a,a4,B,⟨_,hd⟩,_,_⟩:=j.box (vh l);rw[u]at B;cases B;let⟨o,g,r⟩:=zJ hd kA (DV.mono R.hid d1) e2;refine#[o,g,?_];rcases r with⟨rfl,e⟩ |⟨v,x,rfl,e,hx⟩
    .rw[e]at q3;exact q3 _ T Z j (S.trans R) d2
    .rw[e]at q3;exact q3 _ T Z j (S.trans R) hx]
def vj(i:Nat)(y d:PyData):SM:=λU=>match jf U i with
 |some (io,g,f)=>(match gU g d with
  |some k=>if f.length<sizeLine then .nx (U.set i (!.own io (.m g (kF g f d k y)))) else .bad
  |none=>.bad)
 |none=>.bad
def vk(i:Nat)(mk:XM PyData)(y:PyData):SM:=λU=>match jf U i with
 |some _=>ef (mk U) (vj i y)
 |none=>.bad
def zL(i:Nat)(mk d:XM PyData):SM:=λU=>ef (d U) (vk i mk)
def Ub(S:X.A.units+1<cLine)(hv:PE X (.Name x B) (bQ i))(r:FE X F E e mk)(T:FE X F E f z)(hs:autoParam (swapsWith f (!.Subscript (.Name x B) e h) pos.line X.env=pure false) Zq._auto_1) :
  FS X F E (.Assign [.Subscript (.Name x B) e h] f pos) (zL i mk z):=
 (yE S hv r.pe T.pe hs).imp λD Y H Z=>by
 let⟨U,O,DD,st,q,f⟩:=Z;exact#[U,O,st,aH _ _ _ (λy N q1 vy H1 O1 t s1 d1=>by
  unfold wpS vk at q1;cases C:jf N i with
  |none=>rw[C]at q1;exact q1.elim
  |some p=>
   rw[C]at q1;let⟨io,tk,a1⟩:=p;let⟨Q,fp,u,_,_,_⟩:=t.box (vh C);refine#[_,u,N,O1,t,aH _ _ _ (λd U2 q2 w H2 O2 I R d2=>?_) (fJ (m:=mk) (k:=vj i y) q1)];unfold wpS vj at q2;cases l:jf U2 i with
   |none=>rw[l]at q2;exact q2.elim
   |some p=>
    rw[l]at q2;let⟨a2,n,j⟩:=p;simp only at q2;cases r:gU n d with
    |none=>rw[r]at q2;exact q2.elim
    |some k=>
     rw[r]at q2;simp only at q2
     by_cases J:j.length<sizeLine
     .rw[if_pos J]at q2;obtain⟨a,a3,v,⟨e2,hd⟩,_,up⟩:=I.box (vh l);rw[u]at v;cases v;subst e2;let⟨o,g,z,hp⟩:=Gw hd kA d2 (DV.mono R.hid d1) r J;refine#[_,_,rfl,g,?_];let⟨O3,L,s3,_⟩:=up (aM H2 Q o) (.m n (kF n j d k y)) [Q] (λc o M e=>by rw[bt (by simpa using M)];exact e) 'd' (λc M=>.inl M) (λG O' s hG _=>by
       subst hG;exact#[s.hid,rfl,hp _ s.hid])
      exact f.nx _ _ _ _ L (s1.trans (R.trans s3)) q2
     .rw[if_neg J]at q2;exact q2.elim) (fJ (m:=z) (k:=vk i mk) q)]
@[simp] def zM:List PyData->Option PyData:=λf=>match f with
 |[.list as,.list bs,.list d]=>if bs.length=as.length/\d.length=as.length/\0<as.length then some (.list (rD as bs d)) else none
 |_=>none
def Uc(h:DE X F e (Fm (wp E g))):FE X F E e (cn zM g):=h.imp aH λU Q q=>aH _ _ _ (λj i q1=>by
 let⟨d,f,q2⟩:=da q1;unfold zM at f;split at f
 .split at f
  .rename_i h;cases f;exact#[_,_,_,rfl,h.1,h.2.1,h.2.2,q2]
  .cases f
 .cases f) (bW q)
def vl:List PyData->Option PyData:=λd=>match d with
 |[.int i,.int j,.int k]=>if (0<=i/\i<=2 ^ 20)/\(0<=j/\j<=2 ^ 20)/\(0<k/\k<=2 ^ 20) then some (.list ((List.range (el i j k)).map λ(m:Nat)=>.int (i+m * k))) else none
 |_=>none
def Ud(h:DE X F e (FC (wp E g))):FE X F E e (cn vl g):=h.imp aH λU Q q=>aH _ _ _ (λj i q1=>by
 let⟨d,f,q2⟩:=da q1;unfold vl at f;split at f
 .split at f
  .rename_i h;cases f;exact#[_,_,_,rfl,h,q2]
  .cases f
 .cases f) (bW q)
@[simp]noncomputable def Gx(k:Nat):PyData->Option PyData:=λd=>match d with |.list ds=>!.list (ds.drop k) |_=>none
@[simp] def xU(g:PyData->Option PyData)(a:XM PyData):XM PyData:=λU=>(a U).bind λd=>lift (g d)
def Ue(h:DE X F e (Fn (wp E f) k)):FE X F E e (xU (Gx k) f):=h.imp aH λU Q q=>aH _ _ _ (λd i q1=>by
 let⟨y,g,q2⟩:=da q1;cases d with
 |list ds=>simp_all
 |_=>cases g) (bW q)
noncomputable abbrev rL:List Value:=[.type "ValueError",.type "Exception",.type "BaseException",.type "object"]
def zN(h:Heap)(C:Addr):Prop:=∃c N e q bs a f sub g b n i j k l m d,h.get? C=!excClassObj e q C N bs c a f sub g b n i j k l m "ValueError.__new__"/\h.Ns N d/\d "__init__" = none/\OwnTail h rL c
def zO{K}(X:K.In h)(e:excIn K C rL "ValueError.__new__" = true):zN h C:=by
 unfold excIn at e;split at e
 .rename_i i j k m;split at e
  .rename_i G n o p q r H s d a;have e':=e;simp only[q0B,beq_iff_eq]at e';obtain⟨⟨⟨⟨⟨t,u⟩,f⟩,v⟩,b⟩,g⟩:=e';let⟨n1,w,I,x,y,z,A,B,D,c,E⟩:=j;obtain⟨l⟩:=k;simp at f d a b g;subst t u f d a;exact#[n,x,n1,y,w,z,A,B,D,c,i,o,p,q,r,s,_,X _ _ m,.of_isNs (PySem.W.isNs_of_in X b),PySem.W.nsMap_none_of_in X b g,PySem.W.tail_of_in X v]
  .cases e
 .cases e
structure EC (K:Frag) (mg:Str->Option Value) (c:Str) (C:Addr):Prop where
 mg:mg c=some (.ref C)
 ns:nsIn K mainGlobals c=some (!.ref C)
 ex:excIn K C rL "ValueError.__new__" = true
@[simp]noncomputable def jy(c:Str):SM:=λU=>.ex c U
def _root_.L2.Inv.madeX{Y:St}(I:Inv X a Y H s)(m:Heap.MadeExcOf s.heap c e C d):Inv X a Y H { s with heap:=c }/\mG X a s.heap/\gC s.heap H c e C none:=by let⟨t,f,g,h⟩:=m.there;refine#[I.ch I.cov #[λb o q _ _=>m.keeps b o q,λb o _ q=>#[o.slots,m.keeps b o q],λb o q=>#[o,m.keeps b o q]],I.cov,#[λb o q=>#[o,m.keeps b o q],m.new,(λb z=>bL.some_of I.hok z) e m.new,_,_,_,f,rfl,rfl,rfl,.inl #[rfl,rfl]]]
def kG{i}{j}{np a pos k}(hx:eL X F E)(v:X.A.handled=none)(x:Gl X c)(l:EC X.K X.mg c C)(n:autoParam ((c==("__debug__":Str))=false) Zr._auto_1)
  (o:autoParam (qSa X (.Constant (.str i) j k) []) Zq._auto_1) :
  FS X F E (.Raise (!.Call (.Name c np) [.Constant (.str i) j k] [] a) none pos) (jy c):=λb s Y H D I d=>by
 let⟨U,O,DD,st,q,f⟩:=d;let⟨y,N,z,B,bs,g,G,sub,J,p,dd,L,M,Q,R,S,Z,hC,hN,t,T⟩:=zO I.ok.mod.kin l.ex;refine wpAny_Raise_call_subU (C:=C) (nm:=z) (q:=B) (N:=N) (bs:=bs) (bm:=y) (hdct:=g) (sn:=G) (sub:=sub) (ab:=J) (col:=p) (dd:=dd) (k0:=L) (k1:=M) (k2:=Q) (k3:=R) (k5:=S) (mN:=Z)
  q2d 'f' q2d (T.hasType 'f') v (by rw[o];rfl) t (pG I x l.mg #[rfl,?_] n)
 have w:=(dQ (nR (X:=X)) eK o) a b s Y H (λvs u=>vs.length=1/\u=H) I (by exact#[rfl,rfl]);rw[o]at w ⊢;refine Calls.evalArgs_plain (aS w λus s2 h=>?_);let⟨vs,u,I1,r,h1,h2⟩:=h;subst h2;refine#[rfl,by show us.length<=_;rw[<-r.length,h1];decide,I1.bk _ _ hC,hN.keeps I1.bk,T.keeps I1.bk,λh' e m=>?_];let⟨I2,cv,ex⟩:=I1.madeX m;exact hx.2 b Y _ _ _ c U O #[I2,e,.ref C,s2.heap,none,rfl,cv,ex,l.mg] st q
noncomputable def vm(K:Frag)(C D:Addr):Bool:=match K.lookup C with
 |some ⟨_,_,.cls a,_⟩=>a.mro.contains (.ref D)
 |_=>false
noncomputable def rM(K:Frag)(C:Addr):Bool:=findIn K (.ref C) "__getattribute__"==some (!.builtin "BaseException.__getattribute__")&&findIn K (.ref C) "__class__"==some (!.builtin "object.__class__")&&findIn K (.ref C) "__getattr__"==some none &&
 mroIn K C (.type "BaseException")==some true&&mroIn K C (.type "object")==!true
def Gy(K:Frag)(D:Addr)(l:List Str):Bool:=l.all λc=>match nsIn K mainGlobals c with
 |some (!.ref C)=>excIn K C rL "ValueError.__new__"&&vm K C D&&rM K C&&(kitOne K (.ref C) (.type "ValueError")==!true)&&l.all λd=>match nsIn K mainGlobals d with
  |some (!.ref a)=>kitOne K (.ref C) (.ref a)==some (c==d)
  |_=>false
 |_=>false
structure XT (K:Frag) (mg:Str->Option Value) (l:List Str) (D:Addr):Prop where
 top:EC K mg "DueError" D
 tab:Gy K D l=true
 mgs:∀c C,nsIn K mainGlobals c=!!.ref C->mg c=!.ref C
def XT.at_{K}(x:XT K b l D)(h:c∈l):∃C,EC K b c C/\vm K C D=true/\rM K C=true/\kitOne K (.ref C) (.type "ValueError")=!true/\
  ∀d∈l,∃a,b d=!.ref a/\nsIn K mainGlobals d=!!.ref a/\kitOne K (.ref C) (.ref a)=!c==d:=by
 have t:=q02.mp x.tab c h;split at t
 .rename_i C e;simp only[q0B]at t;obtain⟨⟨⟨⟨f,g⟩,i⟩,j⟩,k⟩:=t;refine#[C,#[x.mgs c C e,e,f],g,i,by simpa using j,λd hd=>?_];have u:=q02.mp k d hd;split at u
  .rename_i a e';exact#[a,x.mgs d a e',e',by simpa using u]
  .cases u
 .cases t
def Ug{os}
  (I:zN h C) (xd:zN h D) (J:∀{o q N bs k a p sub r i H s u v w x c},h.get? C=!excClassObj o q C N bs k a p sub r i H s u v w x c->(Value.ref C::k).contains (.ref D)=true)
  (L:h.get? e=!n) (j:n.cls=.ref C) (O:Q true #[h,g,d,t,os]):wpAny M A (excMatches (.ref e) (.ref D)) Q E #[h,g,d,t,os]:=by
 let⟨k,N,o,q,bs,a,p,sub,r,i,H,s,u,v,w,x,mN,y,_,_,_⟩:=I;let⟨l,N',R,q',S,m,T,z,U,B,Y,Z,a0,a1,a2,a3,a4,G,_,_,T'⟩:=xd;have cB:(Value.ref D::l).contains (.type "BaseException")=true:=by rw[List.contains_cons,T'.hasType (X:="BaseException") (b:=true) 'f',Bool.or_true]
 have cC:=J y;have f:=tc_notTuple;unfold excMatches
 repeat (first |(with_reducible refine wpAny_loadPart_at L ?_;rw[j]) |with_reducible refine wpAny_loadPart_at G ?_ |(with_reducible refine wpAny_isSubtype_exc G ?_;rw[cB]) |(with_reducible refine wpAny_isSubtype_exc y ?_;rw[cC]) |wp_step)
 exact O
noncomputable abbrev oA(X:Cx)(A:Around)(b:Bool)(a:List (Addr×Obj))(c:Value->Shared->Prop):Cx:={ X with A:=A,calm:=b,pn:=a,xe:=c }
def _root_.L2.Inv.re{Y:St}(I:Inv X pins Y H s)(A b xe)(a:A.frames=X.A.frames)(d:b=true->A.handled=none):Inv (oA X A b (X.pn++pins) xe) [] Y H s:=
 #[#[I.ok.mod,I.ok.kind,I.ok.glob,I.ok.blt,I.ok.above,I.ok.inj,I.ok.has,I.ok.cab,d,a.trans I.ok.frames,I.ok.stk,I.ok.exf,I.ok.bs,I.ok.bsz,I.ok.noex,I.ok.exfs,I.ok.funs,I.ok.frf],I.os,I.bare,I.base,I.loc,I.cell,I.free,I.freeC,λp c=>I.pin p (by simpa using c),I.hok,I.len]
def _root_.L2.Inv.unre{Y:St}(ok:X.Ok)(I:Inv (oA X A b (X.pn++pins) xe) pins' Y H s):Inv X pins Y H s:=
 #[ok,I.os,I.bare,I.base,I.loc,I.cell,I.free,I.freeC,λp a=>I.pin p (bB _ a),I.hok,I.len]
def vn(ok:X.Ok)(h:SP (oA X A b (X.pn++pins) xe) pins' D f d):SP X pins D f d:=by
 cases f with
 |next=>let⟨a,c,I,q⟩:=h;exact#[a,c,I.unre ok,q]
 |brk=>let⟨a,c,I,q⟩:=h;exact#[a,c,I.unre ok,q]
 |cont=>let⟨a,c,I,q⟩:=h;exact#[a,c,I.unre ok,q]
 |ret u=>let⟨v,a,c,I,r,q⟩:=h;exact#[v,a,c,I.unre ok,r,q]
def _root_.L2.Inv.caught{Y:St}(I:Inv X pins Y H s)(j:mG X pins g)(t:gC g H s.heap a C M):Inv X pins Y (aM H a (.ext λh=>∃o,h.get? a=!o/\o.cls=C)) s:=by
 have l:∀b o,g.get? b=!o->b≠a:=λb o e z=>by subst z;rw[t.lo]at e;cases e
 let⟨w,vs,R,y,N,_⟩:=t.ob;have f:bO H (aM H a (.ext λh=>∃o,h.get? a=!o/\o.cls=C)):=cp t.un;refine#[I.ok,I.os,I.bare,#[I.base.keep,I.base.slot,λb o e n L=>?_,I.base.there,λb B e=>f _ _ (I.base.tups b B e),λb o u e=>f _ _ (I.base.frzs b o u e),λb O e=>(by let⟨m,q⟩:=I.base.tbls b O e;exact#[m,f _ _ q])],I.loc,I.cell,?_,λx c e=>?_,λp D=>?_,λb u e=>?_,I.len]
 .let⟨r,e'⟩:=j.s0 b o e L;rw[bt (l _ _ e')];exact I.base.free b o e n L
 .let⟨r,e'⟩:=j.loc;rw[bt (l _ _ e')];exact I.free
 .let⟨r,e'⟩:=j.cell x c e;rw[bt (l _ _ e')];exact I.freeC x c e
 .let⟨r,e'⟩:=j.pin p D;let⟨G,J,Q⟩:=I.pin p D;exact#[G,by rw[bt (l _ _ e')];exact J,Q]
 .by_cases z:b=a
  .subst z;rw[cI]at e;cases e;refine#[#[w,y,N],#[w,y],λG J i k=>by let⟨o,q1,q2⟩:=i;exact#[o,k o q1,q2]]
  .rw[bt z]at e;exact(I.hok b u e).stay (λd v hd q=>q) (λd q=>f _ _ q) λd B q=>f _ _ q
def Uh{Y:St}(I:Inv X pins Y H s)(G:X.N.Nodup)(J:X.N[i]? = !x)(a:X.env.scope.names.lookup x=!.local)
  (h:∀B,Inv X pins (Y.set i none) H B->Q () B):wpAny M A (do bindName X.env x .none;unbindBehindTheSuite X.env x pos) Q E s:=by
 let⟨m,C,L⟩:=id I.loc;have l:(X.env.scope.kind==.class||(X.env.scope.kind==.module&&X.env.locals != X.env.globals))=false:=by rw[I.ok.kind];rfl
 have cne:=I.cne;let⟨oL,_,_,O,_⟩:=id C;refine wpAny_nameGoes_keeps a C l λh' v t f=>h _ #[I.ok,I.os,I.bare,#[λb o e n w a=>?_,λb o e n w a=>?_,I.base.free,λb o e a=>?_,I.base.tups,I.base.frzs,I.base.tbls],#[_,t,λj y R g S T=>?_],λy c e=>?_,I.free,I.freeC,λp U=>?_,λb ob e=>?_,?_]
 .exact(f.2 b (q0s (q0k (bS e) I.ok.above))).trans (I.base.keep b o e n w a)
 .let⟨sl,g⟩:=I.base.slot b o e n w a;exact#[sl,(f.2 b (q0s (q0k (bS e) I.ok.above))).trans g]
 .let⟨Z,g⟩:=I.base.there b o e a;exact#[Z,(f.2 b (q0s (q0k (bS e) I.ok.above))).trans g]
 .rcases iC S with⟨_,z,_⟩ |⟨hj,u⟩
  .cases z
  .let⟨u',r',q⟩:=L j y R g u T;refine#[u',r',?_];rcases q with⟨k,e⟩ |⟨k,c,e,z⟩
   .refine .inl #[k,?_];have:y≠x:=λe=>hj (yf G g (e▸J));simp[this,e]
   .exact .inr #[k,c,e,z.sameBut f (cne y c e)]
 .let⟨D,z⟩:=I.cell y c e;exact#[D,z.sameBut f (cne y c e)]
 .let⟨e,n,ne,nf,d⟩:=I.pin p U;exact#[(f.2 p.1 ne).trans e,n,ne,nf,d]
 .refine(I.hok b ob e).stay (λc D r q=>(f.2 c ?_).trans q) (λ_ q=>q) λ_ _ q=>q;rintro rfl;rcases r with rfl |r
  .rw[I.free]at e;cases e
  .rw[I.free]at r;cases r
 .rw[q0u];exact I.len
noncomputable def Fx.here(F:Fx)(H:Hp)(L:List Addr):Fx:=#[H,L,F.O₀,F.I₀]
theorem cH.here{K:Frag}(st:cH K F H Y U W):cH K (F.here H W.flatten) H Y U W:=#[st.at_,st.nd,λ_ _ _ e=>e,λ_ h=>.inl h,st.live,st.len,st.lw,st.io]
def zP{K:Frag}(st:cH K F H Y U W)(h:a∈W.flatten\/H a=none):a∈F.A₀\/F.H₀ a=none:=by
 rcases h with h |h
 .exact st.new a h
 .by_cases b:a∈F.A₀
  .exact .inl b
  .refine .inr ?_;cases e:F.H₀ a with
   |none=>rfl
   |some o=>have:=st.kept a o b e;lia
def eX{K:Frag}(st:cH K F H Y U W)(c:aF K ((F.here H W.flatten).plus fp) H' Y' U' O'):aF K (F.plus fp) H' Y' U' O':=by
 let⟨f,h,e⟩:=c;refine#[f,#[h.at_,h.nd,λb o d e=>h.kept b o (λz=>?_) (st.kept b o d e),λa g=>(by have q:=zP st (h.new a g);exact q),h.live,h.len,h.lw,h.io],e];rcases st.new b z with q |q
 .exact d q
 .rw[show F.H₀ b=some o from e]at q;cases q
def Ui{K:Frag}{F:Fx}{W:List (List Addr)}(c:aF K (F.here H W.flatten) H' Y' U' O'):aR (W.flatten++F.O₀) H O' H':=by
 let⟨g,h,rfl⟩:=c;refine#[λb o f e=>h.kept b o (λz=>f (bB _ z)) e,λa d=>?_];rcases q0b.mp d with z |z
 .exact(h.new a z).imp (bB _) id
 .exact .inl (bq _ z)
theorem ie.here{K:Frag}(st:cH K F H Y U W)(f:ie K F O H D e):ie K (F.here H W.flatten) O H D e:=
 #[λY' H' U' O' d b q=>f.nx Y' H' U' O' (eX (fp:=[]) st d) b q,λv Y' H' c U' O' fp r b q=>f.rt v Y' H' c U' O' fp #[eX st r.st,r.at_,λa h=>zP st (r.new a h)] b q,
  λY' H' U' O' d b q=>f.bk Y' H' U' O' (eX (fp:=[]) st d) b q,λY' H' U' O' d b q=>f.ct Y' H' U' O' (eX (fp:=[]) st d) b q]
def aF.clear{K:Frag}(st:aF K F H Y U O)(i):∃O',aF K F H Y (U.set i none) O'/\aR O H O' H:=by
 let⟨W,h,rfl⟩:=st;have sub:∀a∈(W.set i []).flatten,a∈W.flatten:=λa d=>by
  rcases gP d with z |⟨j,l,_,e,m⟩
  .cases z
  .exact cD e m
 have f:aR (W.flatten++F.O₀) H ((W.set i []).flatten++F.O₀) H:=jq λa d=>by
  rcases q0b.mp d with z |z
  .exact bB _ (sub a z)
  .exact bq _ z
 refine#[_,#[W.set i [],#[λj c e=>?_,ri h.nd q1k (λa d=>by cases d),h.kept,λa d=>h.new a (sub a d),λa d=>h.live a ?_,by rw[q0u];exact h.len,by rw[q0u,q0u];exact h.lw,λj b e=>?_],rfl],f]
 .rcases iC e with⟨_,z,_⟩ |⟨k,g⟩
  .cases z
  .let⟨v,fp,n,o,p⟩:=h.at_ j c g;exact#[v,fp,n,by rw[q0o (Ne.symm k)];exact o,p.keep f (λ_ _=>rfl) λ_ _ _ e=>e]
 .rcases q0b.mp d with z |z
  .exact bB _ (sub a z)
  .exact bq _ z
 .rcases iC e with⟨_,z,_⟩ |⟨k,g⟩
  .cases z
  .exact h.io j b g
noncomputable def ke(l:List Str)(i:Nat)(b e:SM):SM:=λU=>match b U with
 |.ex c f=>if c∈l then(match e (f.set i (!.exc c)) with |.rt d a=>.rt d (a.set i none) |_=>.bad) else .bad
 |o=>o
def Uj{X:Cx}{np }{p}{Y:St}
  (t:XT X.K X.mg l D) (R:Gl X "DueError") (j:X.stack=X.env::X.outer) (u:X.env.frame=!X.env.locals) (S:c∈l) (J:Inv X d Y H s) (T:mG X d g) (ex:gC g H s.heap a C O) (U:X.mg c=!C)
  (h:∀v,Inv X d Y H v->gC g H v.heap a C (!.none)->codeAny (model X.prog X.w) (X.A.mark (!.ref a)) (.handlers (.ref a) [.ExceptHandler none p (G::i) e] X.env) (λr m=>match r with
     |.ok f=>(match p with
      |none=>Q f m
      |some n=>wpAny (model X.prog X.w) X.A (do bindName X.env n .none;unbindBehindTheSuite X.env n e) (λ_ y=>Q f y) k m)
     |.error x=>cameBackBy (model X.prog X.w) X.A X.env k x m) v) :
  wpAny (model X.prog X.w) X.A (noteFrame (.ref a) X.env) (λ_ m=>wpAny (model X.prog X.w) X.A (setFlight (.ref a) none) (λ_ y=>wpAny (model X.prog X.w) X.A (handleBy (.ref a) X.env [.ExceptHandler (!.Name "DueError" np) p (G::i) e]) Q k y) k m) k s:=by
 have Z:X.A.frames=!X.env::X.outer:=by rw[J.ok.frames,j]
 have stk:s.heap.FunFrames X.base (X.env::X.outer):=by have:=J.stack;rw[j]at this;exact this
 have hb:∀b,s.heap.get? b=none->H b=none:=λb z=>bL.some_of J.hok z;refine EK (base:=X.base) Z stk u hb ex λh1 I x1=>?_;refine zb (s:={ s with heap:=h1 }) (fs:=cu (X.env::X.outer)) none (λb d=>(by let⟨_,o,e,n⟩:=((I.frames (λ_ h=>h) stk)).mem d;exact#[o,e,n])) x1 λh2 c2 L=>?_;have o:Inv X d Y H { s with heap:=h2 }:=J.ch T (by rw[j];exact I.trans c2);refine wpAny_handleBy_cons (codeAny_handlers_test ?_) (by intro q;cases q);have J3:=o.re (X.A.mark (!.ref a)) false X.xe rfl (λz=>by cases z);refine pG (X:=oA X (X.A.mark (!.ref a)) false (X.pn++d) X.xe) J3 R t.top.mg ?_ 'f';let⟨M,N,hu,_⟩:=t.at_ S;have eC:C=.ref M:=q0x (U.symm.trans N.mg);let⟨oe,vs,a0,he,B,_⟩:=L.ob;refine Ug (C:=M) (zO o.kIn N.ex) (zO o.kIn t.top.ex) (λhC=>(by
    have X:=o.kIn;have e:=hu;have p:=hC
    unfold vm at e;split at e
    .rename_i o;have:=X _ _ o;rw[p]at this;cases this;exact e
    .cases e)) he (B.trans eC) ?_;exact h _ o L
def Uk(xt:XT X.K X.mg l D)(hg:Gl X "DueError")(y:X.stack=X.env::X.outer)(a1:X.env.frame=!X.env.locals)(hN:X.N.Nodup)(hi:X.N[i]? = !n)(hn:X.env.scope.names.lookup n=!.local)
  (hG:GF X.mg F) (hb:∀Q pn xe R,eL (oA X X.A X.calm pn xe) Q R->PassesOwn (model X.prog X.w) X.A X.env xe->ju (oA X X.A X.calm pn xe) Q R body mb)
  (hs:∀Q e pn xe,GF X.mg Q->ju (oA X (X.A.mark (!e)) false pn xe) Q eP (b₀::k) mh) :
  FS X F E (.Try body [.ExceptHandler (!.Name "DueError" np) (!n) (b₀::k) M] [] [] pos) (ke l i mb mh):=λb s Y H D' I S=>by
 let⟨U,O,DD,st,q,f⟩:=S;let⟨W,m,rfl⟩:=id st;have T:GF X.mg (F.here H W.flatten):=(hG.at st).frame λa h=>m.live a (bB _ h);let R:Str->ag->Prop:=λc Z=>c∈l/\∃d j,mh (Z.set i (!.exc c))=.rt d j/\DD.rt d (j.set i none);have q1:wpS R mb DD U:=by
  unfold wpS ke at q;unfold wpS;generalize mb U=o at q ⊢;cases o with
  |ex c Z=>
   simp only at q
   by_cases G:c∈l
   .rw[if_pos G]at q;refine#[G,?_];generalize mh (Z.set i (!.exc c))=o2 at q ⊢;cases o2 with
    |rt d j=>exact#[d,j,rfl,q]
    |_=>exact q.elim
   .rw[if_neg G]at q;exact q.elim
  |_=>exact q
 refine wpAny_Try_except ?_;refine aS (hb (F.here H W.flatten) (X.pn++b) _ R ?_ PassesOwn.looking [] s Y H D' (I.re X.A X.calm _ rfl I.ok.hd) #[U,_,DD,#[W,m.here,rfl],q1,f.here m]) λfw s1 h=>?_
 .refine#[T,?_];rintro a2 Y' H' s' e c Z O' ⟨J1,a,C,g,fl,e1,cv,ex,hm⟩ t ⟨G,d,j,a3,hd⟩;subst e1;have J:Inv X b Y' H' s':=J1.unre I.ok;have B:mG X b g:=#[cv.s0,cv.loc,cv.cell,λp hp=>cv.pin p (bB _ hp)]
  have a4:i<Z.length:=by rw[t.lenE,J.len];exact(q0a.mp hi).1
  refine Uj xt hg y a1 G J B ex hm λL J3 x3=>codeAny_handlers_suite_as ?_;have stk:L.heap.FunFrames X.base (X.env::X.outer):=by have:=J3.stack;rw[y]at this;exact this
  refine zb (s:=L) (fs:=cu (X.env::X.outer)) none (λb d=>(by let⟨_,o,e,n⟩:=stk.mem d;exact#[o,e,n])) x3 λh4 c4 x4=>?_;have J4:Inv X b Y' H' { L with heap:=h4 }:=J3.ch B (by rw[y];exact c4);have J5:=J4.caught B x4;let⟨C',ec,_⟩:=xt.at_ G;have eC:C=.ref C':=q0x (hm.symm.trans ec.mg);refine yg J5 hN hi (.inl hn) (v:=.ref a) rfl (λs5 J6=>?_) (.inr hn);have sm:=cp (o:=.ext λh=>∃o,h.get? a=!o/\o.cls=C) ex.un;have na:a∉O':=t.nofree a ex.un;have cell:fr X.K (aM H' a (.ext λh=>∃o,h.get? a=!o/\o.cls=C)) O' (.ref a) (.exc c) []:=#[a,_,rfl,jc cI na,λh a0=>by let⟨o,z1,z2⟩:=a0;exact#[C',o,ec.ns,z1,z2.trans eC]]
  let⟨O6,a5,s6⟩:=aF.put1 (io:=false) (F:=F.here H W.flatten) (fp:=[]) (i:=i) (t.grow sm) cell (λ_ z=>by cases z) a4 (λ_ z=>by cases z);have step:aR (W.flatten++F.O₀) H O6 _:=(Ui t).trans ((aR.same sm).trans s6);refine aS (hs (F.here H W.flatten) (.ref a) (X.pn++b) _ T [] s5 _ _ #[λ_ _=>False,D'.rt,λ_ _=>False,λ_ _=>False] (J6.re (X.A.mark (!.ref a)) false _ rfl (λz=>by cases z)) #[_,O6,#[λ_=>False,λd j=>DD.rt d (j.set i none),λ_=>False,λ_=>False],a5,?_,?_]) λfw s6 h6=>?_
  .unfold wpS;rw[a3];exact hd
  .refine#[λ_ _ _ _ _ _ z=>z.elim,λv Y2 H2 c2 U2 O2 fp r s2 qq=>?_,λ_ _ _ _ _ _ z=>z.elim,λ_ _ _ _ _ _ z=>z.elim];have r2:aF X.K (F.plus fp) H2 Y2 U2 O2:=eX m r.st;let⟨O3,r3,L⟩:=r2.clear i;exact f.rt v Y2 H2 c2 _ O3 fp #[r3,r.at_.keep L (λ_ _=>rfl) (λ_ _ _ e=>e),λx hx=>zP m (r.new x hx)] (step.trans (s2.trans L)) qq
  .cases fw with
   |next=>let⟨_,_,_,z⟩:=h6;exact z.elim
   |brk=>let⟨_,_,_,z⟩:=h6;exact z.elim
   |cont=>let⟨_,_,_,z⟩:=h6;exact z.elim
   |ret u=>let⟨v,Y7,H7,J8,r8,q8⟩:=h6;exact Uh (J8.unre I.ok) hN hi hn λs9 J9=>#[v,_,H7,J9,r8,q8]
 .cases fw with
  |next=>exact wpAny_execs_nil (vn I.ok h)
  |brk=>exact vn I.ok h
  |cont=>exact vn I.ok h
  |ret u=>exact vn I.ok h
structure dY (k:Nat) (A:Around):Prop where
 dp:A.depth+3 * k+5<recursionLimit
 un:A.units+16 * k+200<cLine
def bH.h(r:bH k A)(v):dY k (A.mark v):=#[r.dp,r.un]
theorem dY.deeper(r:dY (k+1) A)(a):dY k (A.deeper a):=
 #[by have:=r.dp;show A.depth+1+3 * k+5<_;lia,by have:=r.un;show A.units+3+16 * k+200<_;lia]
structure iN (P:Program) (w:World) (K:Frag) (mg:Str->Option Value) (base:Heap) (CX:iy) (k:Nat) (f:Addr) (fd:FuncData) (ps:List Str) (sp:Sp):Prop where
 len:∀vs H Q E,sp vs H Q E->vs.length=ps.length
 run:∀(A:Around) (outer:List Env) (s:Shared) (H:Hp) (args:Args) (us:List Value) (vs:List V) (Q:VK) (E:XK),dY k A->eB P w K mg base A outer s H->BindsTo s fd args (ps.zip us)->bv vs us->sp vs H Q E->
  codeAny (model P w) A (.call (.ref f) args) (CR CX outer P w H s Q E) s
abbrev rN(d:iy)(P:Program)(w:World)(K:Frag)(g:Str->Option Value)(base:Heap)(N:List Str)(c:Str)(a:Scope)(f:Addr)(e:Value)(A:Around)(b:List Env)(s:Shared)(H:Hp)(E:XK):Cx:=
 { iz d P w K g base N c a f e A b s H E with calm:=false }
def Ul{K}
  (S:cb N e a) (d:eB P w K i base A b s H) (l:vs.length=e.length) (r:bv vs h)
  (x:InCallC s s.heap.objs.size (bindL (envOfC c a s.heap.objs.size f g).kindOf (e.zip h) λ_=>none) (cellsFrom (s.heap.objs.size+1) a.names []) (bindC (envOfC c a s.heap.objs.size f g).kindOf (e.zip h) λ_=>none) k) :
  Inv (rN j P w K i base N c a f g A b s H E) [] (start N vs) H k:=by
 have m:eB P w K i base { A with handled:=none } b s H:=#[d.frames,d.mod,d.bs,d.bsz,d.funs,d.frf,d.hok,d.bare]
 have I:=Dr (CX:=j) (E:=E) S rfl m l r x;exact#[#[I.ok.mod,I.ok.kind,I.ok.glob,I.ok.blt,I.ok.above,I.ok.inj,I.ok.has,I.ok.cab,(λz=>by cases z),I.ok.frames,I.ok.stk,I.ok.exf,I.ok.bs,I.ok.bsz,I.ok.noex,I.ok.exfs,I.ok.funs,I.ok.frf],I.os,I.bare,I.base,I.loc,I.cell,I.free,I.freeC,I.pin,I.hok,I.len]
def Um{K}
  (v:GF m F) (x:∀c C p y r B,m c=!C->aF K F r y p B->n c p->E C none r):eL (rN (du P w) P w K m base N i d f j A h s H E) F n:=by
 refine#[v,?_];rintro t Y k D e c U O ⟨I,a,C,g,R,G,u,ex,L⟩ st q;subst G;refine EL I.ok.frames I.stack rfl (λb z=>bL.some_of I.hok z) ex λS ch l=>?_;have J:=I.ch u ch;refine#[a,C,k,rfl,J.os,J.bare,J.base,J.hok,l.weak λb o Q=>u.s0 b o Q (by intro z;cases z),x c C U Y k O L st q]
def Uo{K:Frag}{st:Stmt}(o:nW K x qual st f fd)(S:cb N ps (dS st))(p:ps.length<=N.length)
  (i:∀b  A  a  s  H  E  F  d,dY k (A.deeper (envOfC qual (dS st) s.heap.objs.size f b))->eL (rN (du P w) P w K mg base N qual (dS st) f b A a s H E) F d->
   ig (rN (du P w) P w K mg base N qual (dS st) f b A a s H E) F (iY st) (wpS d m)):iN P w K mg base (du P w) (k+1) f fd ps (ff K mg (bf ps.length N.length m)):=by
 let⟨z,B,kV,q,pm,C,b,ct,u,rfl,lk,j⟩:=o.ex;refine#[λ_ _ _ _=>rs,λA a s H args D vs Q E l n y r e=>?_];let⟨t,ht,v⟩:=EQ rfl p (λF d g h=>Um g h) (λF d h=>i b A a s H E F d (l.deeper _) h) e;exact ER lk j S (by have:=l.dp;lia) n y (λG x=>Ul S n (rs e) r x) ht v
def Uq{pos:Pos}{p:Pos}(T:eL X F E)(G:iN X.prog X.w X.K X.mg X.base (du X.prog X.w) k g fd ps (ff X.K X.mg f))(J:dY k X.A)(L:Gl X x)(M:X.mg x=!.ref g)(N:keepIn X.K (.ref g)=true)(Z:iW X.K fd ps [])
  (o:DX X F (e::es) tX) (t:autoParam ((x==("__debug__":Str))=false) Zr._auto_1) (R:autoParam (qSa X e es) Zq._auto_1) (u:autoParam (qSb X pos es) Zq._auto_1) :
  DO X F (.Call (.Name x p) (e::es) [] pos) (zg f E tX):=by
 refine#[λU Q Q' k q=>o.mn _ _ _ (λas b q1=>EV k q1) q,λi s Y H Q I j=>?_];let⟨U,O,st,q⟩:=j;refine wpAny_Call_Name_kw (pG I L M ?_ t);refine q1J I.ok.mod.kin N (aS (o.pa pos i s Y H (λvs l=>∃as b d,aF X.K F l Y b d/\aR O H d l/\dI Y (aB d l) vs as/\iI f E (λc B=>∀v m n fp,iG X.K F m Y B n v c fp->aR O H n m->Q v m) as b) I #[U,O,st,o.mn _ _ _ (λas b q1 vs l d a C y=>#[as,b,d,a,C,y,q1]) q]) λus C D=>#[by let⟨_,_,I1,_⟩:=D;exact I1.kIn,?_]) R u;let⟨vs,l,I1,r,as,b,d,a,z,y,q1⟩:=D;exact EW T G.len (λs H d vs Q E e b r h=>G.run X.A X.stack s H #[d,[]] d vs Q E J e b r h) Z I1 r a y q1 (λc B h v m n fp res S=>h v m n fp res (z.trans S))
end L2.L3
namespace L2.L3
open PySem PySem.Spec PyProof.Rows Builtin Builtin.ObjectAttr Builtin.Getset_descriptor
def Ur{K:Frag}{os:OsState}(X:K.In h)(p:h.get? a=!o)(e:o.cls=.ref C)(f1:findIn K (.ref C) "__getattribute__" = !!.builtin "BaseException.__getattribute__")
  (f2:findIn K (.ref C) "__class__" = !!.builtin "object.__class__") (f:findIn K (.ref C) "__getattr__" = !none) (i:mroIn K C (.type "BaseException")=!true) (j:mroIn K C (.type "object")=!true)
  (q:Q (!.ref C) #[h,g,d,t+1,os]):wpAny (model prog w) A (getAttr? (.ref a) "__class__") Q E #[h,g,d,t,os]:=by
 have b:PySem.W.Looks (model prog w) h (typeOf (.ref a)) (.ref C):=e▸(PySem.W.Looks.ld p).andThen .now;have k:=q1u (M:=model prog w) X f1;have L2:=q1u (M:=model prog w) X f;have L3:=q1u (M:=model prog w) X f2;have l:=PySem.W.looks_mroIn (M:=model prog w) X i;have c:=PySem.W.looks_mroIn (M:=model prog w) X j;have g3:=F.attrBase_ValueError.ga.bind (.ref a);unfold getAttr? getAttrBy? getAttrBy;refine aA (wpAny_mkText (aA (wpAny_attempt (wpAny_holding (aA (b.at (aA (k.at ?_))))))));show wpAny _ _ (getAttrByItsOwn _ _ _ _ _ _) _ _ _;unfold getAttrByItsOwn
 repeat (any_goals (first |assumption |with_reducible refine b.at ?_ |with_reducible refine L2.at ?_ |wp_step))
 refine codeAny_call_builtin F.attrBase_ValueError.ga.plain F.entry_bexc_ga ?_;have m:builtinKind "BaseException.__getattribute__" = !.slot:=by decide +kernel
 have n:splitId "BaseException.__getattribute__" = !("BaseException","__getattribute__"):=by decide +kernel
 have r:=F.args_bexc_ga (.ref a) (.str "__class__" t);simp only[checkBuiltinCall,m,n];refine aA ?_;unfold isInstance
 repeat (any_goals (first |assumption |with_reducible refine b.at ?_ |with_reducible refine l.at ?_ |wp_step))
 have s:typeOf (.builtin "object.__class__")=pure (.type "getset_descriptor"):=q2F;have u:=F.slot_gs_get.lookup;have v:=F.slot_gs_set.lookup
 repeat (any_goals (first |assumption |with_reducible refine b.at ?_ |with_reducible refine L3.at ?_ |wp_step))
 refine codeAny_call_builtin PySem.W.KF.slot_gs.plain PySem.W.KF.entry_gs (PySem.W.KF.slot_gs.check _ _ _ _ _ _ _ _ q2F (PySem.W.KF.args_gs _ _ _) ?_);unfold Builtin.«getset_descriptor.__get__» descrGet;rw[PySem.W.dga_obj];refine aA (bb ?_);unfold descrGetter descrCheckInstance descrNameAndClass isInstance;simp only[PySem.W.KF.owner_class]
 repeat (any_goals (first |assumption |with_reducible refine b.at ?_ |with_reducible refine c.at ?_ |wp_step))
 refine#[Code.quiet_builtin _ 'g',codeAny_builtin PySem.W.KF.entry_class ?_];unfold Builtin.«object.__class__» PySem.shownTypeOf
 repeat (any_goals (first |assumption |with_reducible refine b.at ?_ |with_reducible refine c.at ?_ |wp_step))
def Us{K:Frag}(f:rM K C=true)(p:(clsIn K C).isSome=true):PySem.W.KitX K (.ref a) (.ref C) (λh=>∃o,h.get? a=!o/\o.cls=.ref C):=by
 unfold rM at f;simp only[q0B,beq_iff_eq]at f;obtain⟨⟨⟨⟨f1,f2⟩,r⟩,u⟩,v⟩:=f;let⟨B,b⟩:=q0O.mp p;unfold clsIn at b;split at b
 .rename_i D G H I m;refine#[λM h X c=>by let⟨o,i,j⟩:=c;exact j▸(PySem.W.Looks.ld i).andThen .now,λM h X _=>?_,λh x S y n T X l=>?_,λ{prog w A E Q s} X ⟨o,i,j⟩ k=>?_]
  .intro J L N O k q;exact aA (wpAny_loadPart (k _ _ (X _ _ m)) (bb q))
  .refine Bool.eq_false_iff.mpr λq=>?_;have e:C=x:=Value.ref.inj (beq_iff_eq.mp q);subst e;have z:=(X _ _ m).symm.trans l;cases z
  .let⟨R,g,d,t,os⟩:=s;exact Ur X i j f1 f2 r u v k
 .cases b
end L2.L3
namespace L2.L3
open PySem PySem.Spec PyProof.Rows
noncomputable def kH:Value->V
 |.bool b=>.bl b
 |.int i _=>.int i
 |.str x _=>.str x
 |_=>.non
def Gz(r:bj v z)(f:jO v=true):kH z=v:=by
 cases v with
 |non=>cases r;rfl
 |bl b=>cases r;rfl
 |int i=>let⟨t,rfl⟩:=r;rfl
 |str i=>let⟨t,rfl⟩:=r;rfl
 |_=>cases f
def GA(e:bj y u)(f:jO y=true):∀{c a},bv c a->c.all jO=true->(∀z∈a,SeqAt.EqAt A s z u (fO (kH z) y))/\a.map kH=c:=by
 intro c a h
 induction h with
 |nil=>simp_all
 |cons h _ g=>
  intro b;rw[q2K,q0B]at b;let⟨i,j⟩:=g b.2;refine#[λz d=>?_,?_]
  .rcases q0c.mp d with rfl |d
   .rw[Gz h b.1];exact OY h e b.1 f
   .exact i z d
  .rw[q0h,j,Gz h b.1]
def GB:V->List V->Hp->VK->Prop:=λx vs H Q=>∃l d y,x=.ref l/\vs=[y]/\H l=!.lst d/\d.all jO=true/\jO y=true/\Q (.int (d.countP λz=>fO z y:Nat)) H
def Ut:qV X "list.count" GB:=by
 intro f s Y H x vs v B Q I g i h;let⟨l,j,y,rfl,rfl,k,m,o,q⟩:=h;cases g;let⟨u,rfl,ru⟩:=i.one;let⟨z,d,n,r,C,e⟩:=I.lstM k;let⟨p,t⟩:=GA ru o r m;refine call_meets F.slot_list_count #[_,e,rfl] F.entry_list_count (F.args_list_count_2 _ _) (SeqAt.list_countAt l d.toArray n none #[] u λz=>fO (kH z) y) #[e,λz w=>p z (by simpa using w),#[.int _,H,I.tok _,#[_,rfl],?_]];have:d.countP (λz=>fO (kH z) y)=j.countP λz=>fO z y:=by rw[<-t,List.countP_map];rfl
 rw[this];exact q
def GC:V->List V->Hp->VK->Prop:=λx vs H Q=>∃l d y,x=.ref l/\vs=[y]/\H l=!.lst d/\d.all jO=true/\jO y=true/\(d.findIdx λz=>fO z y)<d.length/\Q (.int (d.findIdx λz=>fO z y:Nat)) H
def Uu:qV X "list.index" GC:=by
 intro k s Y H x vs v L Q I o p h;let⟨l,f,y,rfl,rfl,t,B,C,g,q⟩:=h;cases o;let⟨u,rfl,ru⟩:=p.one;let⟨z,d,n,r,M,e⟩:=I.lstM t;let⟨D,G⟩:=GA (A:=X.A.in1) (s:=s) ru C r B;have gt:∀m (i:m<d.length),fO (kH d[m]) y=fO (f[m]''a') y:=λm i=>by
  have:f[m]''a'=kH d[m]:=by subst G;simp
  rw[this]
 have big:((f.findIdx λz=>fO z y:Nat):Int)<2 ^ 63 - 1:=by
  have:sizeLine<2 ^ 62:=by decide
  lia
 refine call_meets F.slot_list_index #[_,e,rfl] F.entry_list_index (F.args_list_index_2 _ _) (SeqAt.list_indexAt l d.toArray n none #[] u (λz=>fO (kH z) y) (f.findIdx λz=>fO z y) (by rw[q0y];lia) big ?_ ?_) #[e,λz J=>D z (by simpa using J),?_]
 .show fO (kH d[f.findIdx λz=>fO z y]) y=true;rw[gt _ 'a'];exact List.findIdx_getElem (w:=g)
 .simp_all
 .exact#[.int _,H,I.tok _,#[_,rfl],q]
@[simp]noncomputable def GD:af->Option (List PyData)
 |.dat (.list ds)=>some ds
 |.own _ (.l ds)=>some ds
 |_=>none
@[simp] def oB(U:ag)(i:Nat):Option (List PyData):=match U[i]? with
 |some (!c)=>GD c
 |_=>none
def GG{K}(st:aF K F H Y U O)(h:oB U i=!f):∃p vs,Y[i]? = !!.ref p/\H p=!.lst vs/\aK (aB O H) vs f:=by
 unfold oB at h;split at h
 .rename_i c e;unfold GD at h;split at h
  .cases h;let⟨v,hv,hd⟩:=st.dat e;let⟨p,d,rfl,g,hx⟩:=hd.lst_inv;exact#[p,d,hv,(cZ g).1,hx]
  .cases h;obtain⟨p,fp,hv,⟨_,d,j,hx⟩,_⟩:=st.box e;exact#[p,d,hv,j,hx]
  .cases h
 .cases h
@[simp]noncomputable def rO:PyData->Option V
 |.none=>some .non
 |.bool b=>some (.bl b)
 |.int i=>some (.int i)
 |.str x=>some (.str x)
 |_=>none
@[simp] def qa:List PyData->Option (List V)
 |[]=>some []
 |d::r=>(match rO d,qa r with |some v,!l=>!v::l |_,_=>none)
def zQ(h:DV G v d)(e:rO d=!w):v=w/\jO v=true:=by
 cases d with
 |none=>cases e;rw[h.non_inv];exact#[rfl,rfl]
 |bool b=>cases e;rw[h.bl_inv];exact#[rfl,rfl]
 |int b=>cases e;rw[h.int_inv];exact#[rfl,rfl]
 |str b=>cases e;rw[h.str_inv];exact#[rfl,rfl]
 |_=>cases e
def GI:∀{vs g f},aK G vs f->qa f=!g->vs=g/\vs.all jO=true:=by
 intro vs g f
 induction f generalizing vs g with
 |nil=>intro h e;cases h;simp_all
 |cons d f k=>
  intro h e;cases h with
  |cons h t=>
  unfold qa at e;cases i:rO d with
  |none=>simp_all
  |some w=>
   cases j:qa f with
   |none=>rw[i,j]at e;cases e
   |some l=>rw[i,j]at e;cases e;let⟨m,f1⟩:=zQ h i;let⟨n,f2⟩:=k t j;exact#[by rw[m,n],by rw[q2K,f1,f2];rfl]
@[simp] def vo(f:List PyData)(y:PyData):Option PyData:=match qa f,rO y with
 |some d,!w=>some (.int (d.countP λz=>fO z w:Nat))
 |_,_=>none
@[simp] def vp(f:List PyData)(y:PyData):Option PyData:=match qa f,rO y with
 |some d,!w=>if (d.findIdx λz=>fO z w)<d.length then some (.int (d.findIdx λz=>fO z w:Nat)) else none
 |_,_=>none
@[simp] def GJ(g:List PyData->PyData->Option PyData)(i:Nat)(d:PyData):XM PyData:=λU=>lift (match oB U i with
 |some ds=>g ds d
 |none=>none) U
@[simp] def vr(g:List PyData->PyData->Option PyData)(i:Nat)(m:XM PyData):XM PyData:=λU=>match oB U i with
 |some _=>(m U).bind (GJ g i)
 |none=>.bad
def GK{apos f}{id}(slot:Slot "list" J id)(L:typeOf (.builtin id)=pure (.type "method_descriptor"))(hm:qV X id r)
  (hg:∀G l xs I y d z H Q,H l=!.lst xs->aK G xs I->DV G y d->g I d=!z->(∀u,DV G u z->Q u H)->r (.ref l) [y] H Q)
  (hv:PE X (.Name x s) (bQ i)) (he:FE X F E e m)
  (j:autoParam (qSc X (.Name x s) J) Zq._auto_1)
  (t:autoParam (((backTo f (starEach [e] X.env)).all (λx=>not x.1)&&(backToKw f (keywordEach [] X.env)).all (λx=>x.1.isSome)&&decide (([e]:List Expr).length+([]:List Keyword).length+(if ([]:List Keyword).isEmpty then 0 else 1)<30))=true) Zq._auto_1)
  (n:autoParam ((apos.endLine==f.line)=true) Zq._auto_1) (hs:autoParam (qSa X e []) Zq._auto_1) (h:autoParam (qSb X f []) Zq._auto_1) :
  FE X F E (.Call (.Attribute (.Name x s) J apos) [e] [] f) (vr g i m):=
 #[aH,(nV q0Y slot L hm hv (dQ he.pe eK hs) j t n hs h).imp λY H Q v=>by
  let⟨U,O,st,q⟩:=v;unfold wp vr at q;cases M:oB U i with
  |none=>rw[M]at q;exact q.elim
  |some a1=>
   rw[M]at q;let⟨p,N,A,R,_⟩:=GG st M;refine#[_,A,.inl #[rfl,N,.of R],U,O,st,aH _ _ _ (λd S q1 w H1 O1 B s1 d1=>?_) (bW (m:=m) (k:=GJ g i) q)];let⟨z,D,q2⟩:=da (o:=match oB S i with |some I=>g I d |none=>none) (U:=S) (E:=E) q1;cases T:oB S i with
   |none=>rw[T]at D;cases D
   |some a2=>
    rw[T]at D;let⟨p',a3,C,Z,a0⟩:=GG B T;rw[A]at C;cases C;exact hg _ _ _ _ _ _ _ _ _ Z a0 d1 D λu hu=>q2 u H1 O1 B s1 hu]
def Uv:∀G l f g y d z H Q,H l=!.lst f->aK G f g->DV G y d->vo g d=!z->(∀u,DV G u z->Q u H)->GB (.ref l) [y] H Q:=λG l f g y d z H Q h m i e q=>by
 unfold vo at e;split at e
 .rename_i n w j k;cases e;let⟨rfl,f1⟩:=GI m j;let⟨rfl,f2⟩:=zQ i k;exact#[l,f,y,rfl,rfl,h,f1,f2,q _ (.int _)]
 .cases e
def Uw:∀G l f g y d z H Q,H l=!.lst f->aK G f g->DV G y d->vp g d=!z->(∀u,DV G u z->Q u H)->GC (.ref l) [y] H Q:=λG l f g y d z H Q h n i e q=>by
 unfold vp at e;split at e
 .rename_i o w j k;split at e
  .rename_i m;cases e;let⟨rfl,f1⟩:=GI n j;let⟨rfl,f2⟩:=zQ i k;exact#[l,f,y,rfl,rfl,h,f1,f2,m,q _ (.int _)]
  .cases e
 .cases e
@[simp]noncomputable def lN(U:ag)(i:Nat):Option (Bool×List PyData):=match U[i]? with
 |some (!.own io (.l ds))=>some (io,ds)
 |_=>none
def zR(h:lN U i=!(io,d)):U[i]? = !!.own io (.l d):=by
 unfold lN at h;split at h
 .simp_all
 .cases h
@[simp] def zS(i:Nat)(d:PyData):SM:=λf=>match lN f i,d with
 |some (io,ds),.list g=>if ds.length+g.length<=sizeLine then .nx (f.set i (!.own io (.l (ds++g)))) else .bad
 |_,_=>.bad
@[simp] def vt(i:Nat)(m:XM PyData):SM:=λU=>match lN U i with
 |some _=>ef (m U) (zS i)
 |none=>.bad
def Ux{pos:Pos}(hv:PE X (.Name x j) (bQ i))(he:FE X F E e m)(B:autoParam (swapsWith (.Call (.Attribute (.Name x j) "extend" apos) [e] [] g) none pos.line X.env=pure false) Zq._auto_1)
  (n:autoParam (qSc X (.Name x j) "extend") Zq._auto_1)
  (t:autoParam (((backTo g (starEach [e] X.env)).all (λx=>not x.1)&&(backToKw g (keywordEach [] X.env)).all (λx=>x.1.isSome)&&decide (([e]:List Expr).length+([]:List Keyword).length+(if ([]:List Keyword).isEmpty then 0 else 1)<30))=true) Zq._auto_1)
  (r:autoParam ((apos.endLine==g.line)=true) Zq._auto_1) (Z:autoParam (qSa X e []) Zq._auto_1) (h:autoParam (qSb X g []) Zq._auto_1) :
  FS X F E (.Expr (.Call (.Attribute (.Name x j) "extend" apos) [e] [] g) pos) (vt i m):=
 (nT (nV q0Y PySem.F.slot_list_extend PySem.F.type_list_extend Pe hv (dQ he.pe eK Z) n t r Z h) B).imp λD Y H u=>by
  let⟨U,O,DD,st,q,f⟩:=u;unfold wpS vt at q;cases C:lN U i with
  |none=>rw[C]at q;exact q.elim
  |some p0=>
   let⟨a0,a1⟩:=p0;rw[C]at q;obtain⟨p,fp,v,⟨_,xs,hH,_⟩,_,_⟩:=st.box (zR C);refine#[_,v,.inl #[rfl,xs,.of hH],U,O,st,aH _ _ _ (λd U1 q1 w H1 O1 I s1 d1=>?_) (fJ (m:=m) (k:=zS i) q)];unfold wpS zS at q1;cases J:lN U1 i with
   |none=>rw[J]at q1;exact q1.elim
   |some j=>
    let⟨a2,y⟩:=j;rw[J]at q1;cases d with
    |list T=>
     simp only at q1;obtain⟨p',a3,z,⟨e1,L,M,hd⟩,hO,up⟩:=I.box (zR J);rw[v]at z;cases z;subst e1;let⟨b,N,rfl,hb,A⟩:=d1.lst_inv
     by_cases Q:y.length+T.length<=sizeLine
     .rw[if_pos Q]at q1;refine#[p,b,L,N,rfl,rfl,M,(cZ hb).1,by rw[hd.length,A.length];exact Q,?_];let⟨O2,R,s2,_⟩:=up (aM H1 p (.lst (L++N))) (.l (y++T)) [p] (λc o S e=>by rw[bt (by simpa using S)];exact e) 'd' (λc S=>.inl S) (λG O' s hG _=>by
       subst hG;exact#[s.hid,rfl,L++N,cI,(aK.mono s.hid hd).append (aK.mono s.hid A)])
      exact f.nx _ _ _ _ R (s1.trans s2) q1
     .rw[if_neg Q]at q1;exact q1.elim
    |_=>exact q1.elim
def Uy(K:Frag):List V->Hp->VK->Prop:=λd H Q=>∃a φ C w b,d=[.ref a,w]/\H a=!.ext φ/\(∀h,φ h->∃o,h.get? a=!o/\o.cls=.ref C)/\rM K C=true/\(clsIn K C).isSome=true/\(∀u,bj w u->kitOne K (.ref C) u=!b)/\Q (.bl b) H
def GL:hU X (.builtin "isinstance") (Uy X.K):=by
 intro d s Y H l m Q I r h;let⟨a,φ,C,w,b,rfl,f,g,at_,cl,e,q⟩:=h;let⟨u,n,rfl,i,j⟩:=vals2 r;cases i;let⟨p,_,_⟩:=(I.hok a _ f)
 exact kia_one (Us at_ cl) I.kIn (g _ p) (e _ j) (λz=>nomatch z) λk=>#[.bl b,H,I.tok k,rfl,q]
def GN{K}(h:excIn K C l n=true):(clsIn K C).isSome=true:=by
 unfold excIn at h;unfold clsIn;split at h
 .simp_all
 .cases h
@[simp]noncomputable def qb(U:ag)(i:Nat):Option Str:=match U[i]? with
 |some (!.exc c)=>some c
 |_=>none
def GO(h:qb U i=!c):U[i]? = !!.exc c:=by
 unfold qb at h;split at h
 .simp_all
 .cases h
@[simp] def jg(i:Nat)(l:List Str)(cls:Str):XM PyData:=λU=>match qb U i with
 |some c=>if c∈l/\cls∈l then .ok (.bool (c==cls)) U else .bad
 |none=>.bad
@[simp] def zT(i:Nat)(l:List Str):XM PyData:=λU=>match qb U i with
 |some c=>if c∈l then .ok (.bool true) U else .bad
 |none=>.bad
def GP{K}{i:Nat}(st:aF K F H Y U O)(h:U[i]? = !!.exc c)(f:EC K q c C):∃a φ,Y[i]? = !!.ref a/\H a=!.ext φ/\∀h,φ h->∃o,h.get? a=!o/\o.cls=.ref C:=by let⟨W,g,rfl⟩:=st;let⟨v,fp,j,r,a,φ,rfl,k,l⟩:=g.at_ i _ h;refine#[a,φ,j,(cZ k).1,λh p=>?_];let⟨s,o,d,m,n⟩:=l h p;rw[f.ns]at d;grind
def kf{F:Fx}{E:Str->ag->Prop}{pos:Pos}{p d}(w:XT X.K X.mg l D)(j:Gl X "isinstance")(k:X.mg "isinstance" = none)(S:PE X (.Name x g) (bQ i))(m:Gl X cls)(n:cls∈l)(o:autoParam ((cls==("__debug__":Str))=false) Zr._auto_1)
  (y:autoParam (qSa X (.Name x g) [.Name cls d]) Zq._auto_1) (r:autoParam (qSa X (.Name cls d) []) Zq._auto_1) (s:autoParam (qSb X pos [.Name cls d]) Zq._auto_1) :
  FE X F E (.Call (.Name "isinstance" p) [.Name x g,.Name cls d] [] pos) (jg i l cls):=by
 let⟨z,A,_⟩:=w.at_ n;refine#[aH,(pH GL j k (show bootBuiltins "isinstance" = some (.builtin "isinstance") by decide +kernel) (dQ S (dQ (CL (v:=.ref z) m A.mg rfl o) eK r) y) 'f' 'f' y s).imp λY H Q f=>?_];let⟨U,O,st,q⟩:=f;unfold wp jg at q;cases t:qb U i with
 |none=>rw[t]at q;exact q.elim
 |some c=>
  rw[t]at q
  by_cases h:c∈l/\cls∈l
  .simp only[if_pos h]at q;let⟨C,B,_,at_,_,G⟩:=w.at_ h.1;let⟨D2,I,T,J⟩:=G cls h.2;have L:D2=z:=by have:=A.mg.symm.trans I;cases this;rfl
   subst L;let⟨a,φ,M,N,R⟩:=GP st (GO t) B;exact#[_,M,a,φ,C,.ref D2,_,rfl,N,R,at_,GN B.ex,λu ru=>by cases ru;exact J,q _ H O st .refl (.bl _)]
  .simp only[if_neg h]at q
def Uz{F:Fx}{E:Str->ag->Prop}{pos:Pos}{p }(y:XT X.K X.mg l D)(h:Gl X "isinstance")(j:X.mg "isinstance" = none)(I:PE X (.Name x g) (bQ i))(k:Gl X "ValueError")(m:X.mg "ValueError" = none)
  (t:autoParam (qSa X (.Name x g) [.Name "ValueError" d]) Zq._auto_1) (n:autoParam (qSa X (.Name "ValueError" d) []) Zq._auto_1) (o:autoParam (qSb X pos [.Name "ValueError" d]) Zq._auto_1) :
  FE X F E (.Call (.Name "isinstance" p) [.Name x g,.Name "ValueError" d] [] pos) (zT i l):=by
 refine#[aH,(pH GL h j (show bootBuiltins "isinstance" = some (.builtin "isinstance") by decide +kernel) (dQ I (dQ (kv (v:=.ty "ValueError") k m (show bootBuiltins "ValueError" = some (.type "ValueError") by decide +kernel) rfl) eK n) t) 'f' 'f' t o).imp λY H Q f=>?_];let⟨U,O,st,q⟩:=f;unfold wp zT at q;cases r:qb U i with
 |none=>rw[r]at q;exact q.elim
 |some c=>
  rw[r]at q
  by_cases s:c∈l
  .simp only[if_pos s]at q;let⟨C,w,_,at_,z,J⟩:=y.at_ s;let⟨a,φ,A,B,G⟩:=GP st (GO r) w;exact#[_,A,a,φ,C,.ty "ValueError",_,rfl,B,G,at_,GN w.ex,λu ru=>by cases ru;exact z,q _ H O st .refl (.bl _)]
  .simp only[if_neg s]at q
@[simp] def cL:=gI λi j=>.int (i+j)
@[simp] def fc:=gI λi j=>.int (i - j)
@[simp] def mT:=rE mL λi j=>.int (i * j)
@[simp] def vu:=rE pR λi j=>.int (i / j)
@[simp] def qc:=rE pS λi j=>.int (i % j)
@[simp] def gV:=gI λi j=>.bool (decide (i<j))
@[simp] def im:=gI λi j=>.bool (decide (i<=j))
@[simp] def gG:=gI λi j=>.bool (decide (j<i))
@[simp] def zU:=gI λi j=>.bool (decide (j<=i))
def dM(d:FE X F E a ma)(f:FE X F E b mb):FE X F E (.BinOp a .Add b pos) (aa cL ma mb):=gR lF (mD NT (lA λ_ _ _=>.int _) d f)
def gW(d:FE X F E a ma)(f:FE X F E b mb):FE X F E (.BinOp a .Sub b pos) (aa fc ma mb):=gR lF (mD NU (lA λ_ _ _=>.int _) d f)
def oC(d:FE X F E a ma)(f:FE X F E b mb):FE X F E (.BinOp a .Mult b pos) (aa mT ma mb):=gR (zq Tj) (mD NW (yT λ_ _ _=>.int _) d f)
def zV(d:FE X F E a ma)(f:FE X F E b mb):FE X F E (.BinOp a .FloorDiv b pos) (aa vu ma mb):=gR (zq Tk) (mD NX (yT λ_ _ _=>.int _) d f)
def rP(d:FE X F E a ma)(f:FE X F E b mb):FE X F E (.BinOp a .Mod b pos) (aa qc ma mb):=gR (zq Tl) (mD NY (yT λ_ _ _=>.int _) d f)
def rQ(d:FE X F E a ma)(f:FE X F E b mb):FE X F E (.BinOp a .Add b pos) (aa lG ma mb):=gR (λx y d Q e q=>by
   unfold lG at e;split at e
   .split at e
    .rename_i h;cases e;exact#[_,_,rfl,rfl,h,q]
    .cases e
   .cases e) (mD Pf Qx d f)
def GQ(d:FE X F E a ma)(f:FE X F E b mb):FE X F E (.BinOp a .Add b pos) (aa oq ma mb):=gR (λx y d Q e q=>by
   unfold oq at e;split at e
   .split at e
    .rename_i h;cases e;exact#[_,_,rfl,rfl,h,q]
    .cases e
   .cases e) (mD SX SY d f)
def GR(d:FE X F E a ma)(f:FE X F E b mb):FE X F E (.BinOp a .Mult b pos) (aa jV ma mb):=gR (λx y d Q e q=>by
   unfold jV at e;split at e
   .split at e
    .rename_i h;cases e;simp only[q0B,decide_eq_true_eq]at h;exact#[_,_,rfl,rfl,#[h.1.1,h.1.2,h.2],q]
    .cases e
   .cases e) (mD Ea Te d f)
def GS(d:FE X F E a ma)(f:FE X F E b mb):FE X F E (.Compare a [.Lt] [b] pos) (aa gV ma mb):=gR lF (nZ CY (lA λ_ _ _=>.bl _) d f (bG _))
def vv(d:FE X F E a ma)(f:FE X F E b mb):FE X F E (.Compare a [.LtE] [b] pos) (aa im ma mb):=gR lF (nZ uy (lA λ_ _ _=>.bl _) d f (bG _))
def zW(d:FE X F E a ma)(f:FE X F E b mb):FE X F E (.Compare a [.Gt] [b] pos) (aa gG ma mb):=gR lF (nZ CZ (lA λ_ _ _=>.bl _) d f (bG _))
def UA(d:FE X F E a ma)(f:FE X F E b mb):FE X F E (.Compare a [.GtE] [b] pos) (aa zU ma mb):=gR lF (nZ Ob (lA λ_ _ _=>.bl _) d f (bG _))
def mU(d:FE X F E a ma)(f:FE X F E b mb):FB X F E (.Compare a [.Lt] [b] pos) (aC (aa gV ma mb)):=om lF (oa CY (lA λ_ _ _=>.bl _) d f (bG _))
def oD(d:FE X F E a ma)(f:FE X F E b mb):FB X F E (.Compare a [.LtE] [b] pos) (aC (aa im ma mb)):=om lF (oa uy (lA λ_ _ _=>.bl _) d f (bG _))
def qd(d:FE X F E a ma)(f:FE X F E b mb):FB X F E (.Compare a [.Gt] [b] pos) (aC (aa gG ma mb)):=om lF (oa CZ (lA λ_ _ _=>.bl _) d f (bG _))
def mV(d:X.A.units+64<cLine)(f:FE X F E a ma)(g:FE X F E b mb):FE X F E (.Compare a [.Eq] [b] pos) (aa (av false) ma mb):=gR zt (nZ (Eo d) yU f g (bG _))
def eQ(d:X.A.units+64<cLine)(f:FE X F E a ma)(g:FE X F E b mb):FB X F E (.Compare a [.Eq] [b] pos) (aC (aa (av false) ma mb)):=om zt (oa (Eo d) yU f g (bG _))
def jz(d:X.A.units+64<cLine)(f:FE X F E a ma)(g:FE X F E b mb):FB X F E (.Compare a [.NotEq] [b] pos) (aC (aa (av true) ma mb)):=om zt (oa (Ep d) yU f g (bG _))
def GU(d:FE X F E a ma)(f:FE X F E b mb):FE X F E (.Compare a [.Is] [b] pos) (aa iJ ma mb):=gR FK (nZ Db Ev d f (bG _))
def zX(d:FE X F E a ma)(f:FE X F E b mb):FE X F E (.Compare a [.IsNot] [b] pos) (aa fS ma mb):=gR FL (nZ Dc Ew d f (bG _))
def rR(d:FE X F E a ma)(f:FE X F E b mb):FB X F E (.Compare a [.Is] [b] pos) (aC (aa iJ ma mb)):=om FK (oa Db Ev d f (bG _))
def oE(d:FE X F E a ma)(f:FE X F E b mb):FB X F E (.Compare a [.IsNot] [b] pos) (aC (aa fS ma mb)):=om FL (oa Dc Ew d f (bG _))
def UB(d:FE X F E a ma)(h:FE X F E b mb)(f:FE X F E c mc)(g:autoParam (lastMarks [.LtE,.LtE] [b,c]=false) Zqc._auto_1):FE X F E (.Compare a [.LtE,.LtE] [b,c] pos) (zw (λi j=>decide (i<=j)) (λi j=>decide (i<=j)) ma mb mc):=Tr (SW d h f g)
@[simp] def au:PyData->PyData->Option PyData:=λx y=>match x,y with
 |.tuple ds,.int i=>bT ds i
 |.list ds,.int i=>bT ds i
 |_,_=>none
def GV:D2:=λx y Q=>Ex x y Q\/Ey x y Q
def GW{K}:gB (λx y H Q=>yx K x y H Q\/yw K x y H Q) GV where
 mn:=λx y Q Q' k h=>h.imp (EA (K:=K).mn x y Q Q' k) (EB (K:=K).mn x y Q Q' k)
 ok:=λO H u v x y Q hO h1 h2 h=>h.imp (EA.ok O H u v x y Q hO h1 h2) (EB.ok O H u v x y Q hO h1 h2)
def GX:F2 GV au:=λx y d Q e q=>by
 unfold au at e;split at e
 .exact .inl #[_,_,_,rfl,rfl,e,q]
 .exact .inr #[_,_,_,rfl,rfl,e,q]
 .cases e
def aJ(d:FE X F E a ma)(f:FE X F E b mb)(g:autoParam (nU b) Zqb._auto_1):FE X F E (.Subscript a b pos) (aa au ma mb):=gR GX (Qw (kz.or DJ qX) GW d f g)
noncomputable def zY:Expr->Bool
 |.Starred ..=>true
 |_=>false
def zZ(h:zY e=false):starEach (e::b) a=(false,eval e a)::starEach b a:=by cases e<;>first |rfl |cases h
def az(g:FE X F E e d)(h:FA X F E es f)(i:autoParam (zY e=false) Zq._auto_1):FA X F E (e::es) (aj d f):=Ts g h (zZ i)
def ay(g:FE X F E e d)(h:FX X F E es f)(i:autoParam (zY e=false) Zq._auto_1):FX X F E (e::es) (ao d f):=TF g h (zZ i)
def bn(g:PE X (.Name x p) (bQ j))(f:FX X F E es d):FX X F E (.Name x p::es) (aN j d):=((RU g f (zZ rfl)).imp aH λU Q q=>by
   unfold wp aN at q;cases h:U[j]? with
   |none=>simp_all
   |some o=>
    rw[h]at q;cases o with
    |none=>exact q.elim
    |some c=>exact#[#[c,h],aH _ _ _ (λas f q2=>q2) (bW (q))])
noncomputable def bi(f:Str)(v:Fl):List (Str×Fl)->List (Str×Fl)
 |[]=>[(f,v)]
 |(g,x)::r=>if g=f then(g,v)::r else(g,x)::bi f v r
noncomputable def kI:Option Fl->Bool
 |none=>true
 |some (.d _)=>true
 |_=>false
def cF(C:Addr)(U:ag)(i:Nat):Option (Bool×List (Str×Fl)):=match U[i]? with
 |some (!.own io (.o a fs))=>if a = C then some (io,fs) else none
 |_=>none
def lO(h:cF C U i=!(io,fs)):U[i]? = !!.own io (.o C fs):=by
 unfold cF at h;lia
def jA{fps}(h:aP G H gs fs fps)(f):(gs.lookup f=none/\fs.lookup f=none)\/∃v x fp,gs.lookup f=!v/\fs.lookup f=!x/\gA G H v x fp/\fp∈fps:=by
 induction h with
 |nil=>exact .inl #[rfl,rfl]
 | @cons n v x fp gs fs fps b i c=>
  by_cases e:f=n
  .subst e;exact .inr #[v,x,fp,by simp,by simp,b,q0g]
  .have e':(f==n)=false:=by simpa using e
   rw[q0n,q0n,e'];rcases c with q |⟨d,g,a,q1,q2,q3,q4⟩
   .exact .inl q
   .exact .inr #[d,g,a,q1,q2,q3,bK _ q4]
def GY{α:Type}:∀{W:List (List α)}{i:Nat}{l},W.flatten.Nodup->W[i]? = !l->l.Nodup:=λ{W i l}=>by
 induction W generalizing i with
 |nil=>intro _ h;simp at h
 |cons w W k=>
  intro nd h;rw[q0e]at nd;cases i with
  |zero=>simp only[q1L,q0L]at h;subst h;exact(q0f.mp nd).1
  |succ i=>exact k (q0f.mp nd).2.1 (by simpa using h)
def aF.boxN{K}(st:aF K F H Y U O)(e:U[i]? = !!.own io b):∃a fp,Y[i]? = !!.ref a/\gO (aB O H) H a b fp/\(∀c∈fp,c∈O)/\fp.Nodup/\
  ∀g  w  f,(∀c o,c∉fp->H c=!o->g c=!o)->f.Nodup->(∀c∈f,c∈fp\/H c=none)->(∀G,(∀p,aR O H p g->G=aB p g->(∀c∈f,c∈p)->bO (aB O H) G/\gO G g a w f))->
   ∃p,aF K F g Y (U.set i (!.own io w)) p/\aR O H p g/\(∀c∈p,c∈f\/c∈O):=by
 let⟨W,st,rfl⟩:=st;let⟨v,fp,x,n,a,rfl,J⟩:=st.at_ i _ e;have D:i<U.length:=(q0a.mp e).1;have y:i<W.length:=by rw[st.lw];exact D
 refine#[a,fp,x,J,λc d=>bB _ (cD n d),(GY (q0f.mp st.nd).1 n),λg w f keep S A T=>?_];have s:W.flatten.Nodup:=(q0f.mp st.nd).1;have E:∀c∈fp,c∉F.O₀:=λc d z=>(q0f.mp st.nd).2.2 c (cD n d) c z rfl;have L:∀j l c,j≠i->W[j]? = !l->c∈l->g c=H c:=λj l c r m d=>by let⟨o,k,_⟩:=st.live c (bB _ (cD m d));rw[k];exact keep c o (λz=>mC s m n r d z) k
 have M:∀c∈F.O₀,g c=H c:=λc d=>by let⟨o,k,_⟩:=st.live c (bq _ d);rw[k];exact keep c o (λz=>E c z d) k
 have ap:∀c∈f,(∀j l,j≠i->W[j]? = !l->c∉l)/\c∉F.O₀:=λc d=>by
  rcases A c d with q |q
  .exact#[λj l r m z=>mC s n m (Ne.symm r) q z,E c q]
  .refine#[λj l _ m z=>?_,λz=>?_]
   .let⟨o,k,_⟩:=st.live c (bB _ (cD m z));rw[q]at k;cases k
   .let⟨o,k,_⟩:=st.live c (bq _ z);rw[q]at k;cases k
 have frz:∀c o,c∉W.flatten++F.O₀->H c=!o->g c=!o:=λc o d N=>keep c o (λz=>d (bB _ (cD n z))) N;have B:aR (W.flatten++F.O₀) H ((W.set i f).flatten++F.O₀) g:=#[frz,λc h=>by
  rcases q0b.mp h with h |h
  .rcases gP h with h |⟨j,l,_,m,C⟩
   .exact(A c h).imp (λz=>bB _ (cD n z)) id
   .exact .inl (bB _ (cD m C))
  .exact .inl (bq _ h)]
 have t:∀c∈f,c∈(W.set i f).flatten++F.O₀:=λc d=>bB _ (cD (j:=i) (q0p y) d);have u:=(T _ _ B rfl t).2;let⟨I,Q⟩:=st.put (H':=g) (i:=i) (v:=.ref a) (c:=.own io w) (fp:=f) D L M frz S ap (λc d=>(A c d).imp (λz=>cD n z) id) (λc d=>u.live c d) (λ_=>#[a,rfl,u]) (λX z=>by cases z;have:=st.io i b e;rw[x]at this;exact(q0x (q0x this)));have R:Y.set i (!.ref a)=Y:=by
  apply q01;intro j
  by_cases r:j=i
  .subst r;rw[q0p (q0a.mp x).1,x]
  .rw[q0o (Ne.symm r)]
 rw[R]at I;refine#[_,#[_,I,rfl],Q,λc d=>?_];rcases q0b.mp d with d |d
 .rcases gP d with d |⟨j,l,_,m,C⟩
  .exact .inl d
  .exact .inr (bB _ (cD m C))
 .exact .inr (bq _ d)
def aP.len{fps}(h:aP G H gs fs fps):gs.length=fs.length:=by
 induction h with
 |nil=>rfl
 |cons _ _ a=>simp[a]
def aP.putD{fps}(h:aP G H gs fs fps)(b:kI (fs.lookup f)=true)(hd:DV G' v d)(g:bO G G')(k:∀c∈fps.flatten,H' c=H c) :
  aP G' H' (cS f v gs) (bi f (.d d) fs) (if (fs.lookup f).isSome=true then fps else fps++[[]]):=by
 induction h with
 |nil=>exact .cons #[rfl,hd] .nil
 | @cons n w x fp gs fs fps p r s=>
  unfold cS bi
  by_cases e:n=f
  .subst e;have t:List.lookup n ((n,x)::fs)=!x:=by simp[List.lookup]
   rw[t]at b ⊢;rw[if_pos rfl,if_pos rfl];have o:=r.keep (H':=H') (λc i=>k c (by simp only[q0e,q0b];exact .inr i)) g;cases x with
   |d y=>let⟨rfl,_⟩:=p;exact .cons #[rfl,hd] o
   |l ds=>cases b
   |m A u=>cases b
  .have e':(f==n)=false:=by simpa using λz=>e z.symm
   rw[q0n,e']at b ⊢;rw[if_neg e,if_neg e];have j:=p.keep (H':=H') (λc i=>k c (by simp only[q0e,q0b];exact .inl i)) g;have a:=s b λc i=>k c (by simp only[q0e,q0b];exact .inr i);simp only at a ⊢;split
   .rename_i q;rw[if_pos q]at a;exact .cons j a
   .rename_i q;rw[if_neg q]at a;exact .cons j a
def cG(C:Addr)(i:Nat)(f:Str):XM PyData:=λU=>match cF C U i with
 |some (_,fs)=>(match fs.lookup f with
  |some (.d d)=>.ok d U
  |_=>.bad)
 |none=>.bad
def dm(cl:dP X.K C)(n:di X.K C f)(A:PE X (.Name x p1) (bQ i))(B:autoParam (qSc X (.Name x p1) f) Zq._auto_1):FE X F E (.Attribute (.Name x p1) f pos) (cG C i f):=
 #[aH,(jN A B).imp λY H Q g=>by
  let⟨U,O,st,q⟩:=g;unfold wp cG at q;cases ho:cF C U i with
  |none=>rw[ho]at q;exact q.elim
  |some p=>
   let⟨io,fs⟩:=p;rw[ho]at q;simp only at q;obtain⟨o,fp,h,⟨r,gs,fps,D,s,G,t⟩,_,_⟩:=st.box (lO ho);rcases jA t f with⟨k,j⟩ |⟨v,y,u,k,j,w,_⟩
   .rw[j]at q;exact q.elim
   .rw[j]at q;cases y with
    |d d=>exact#[_,h,o,C,r,gs,v,rfl,s,cl,n,k,q v H O st (.refl ..) w.2]
    |l ds=>exact q.elim
    |m I z=>exact q.elim]
def kg(C:Addr)(i:Nat)(f:Str)(d:PyData):SM:=λU=>match cF C U i with
 |some (io,fs)=>if fs.length<1000/\kI (fs.lookup f)=true then .nx (U.set i (!.own io (.o C (bi f (.d d) fs)))) else .bad
 |none=>.bad
def eh(C:Addr)(i:Nat)(f:Str)(m:XM PyData):SM:=λU=>ef (m U) (kg C i f)
def Aa(cl:dP X.K C)(B:di X.K C f)(hv:PE X (.Name x p1) (bQ i))(I:FE X F E e m)(hs:autoParam (swapsWith e (!.Attribute (.Name x p1) f g) pos.line X.env=pure false) Zq._auto_1):FS X F E (.Assign [.Attribute (.Name x p1) f g] e pos) (eh C i f m):=
 (uB hv I.pe hs).imp λD Y H J=>by
 let⟨U,O,DD,st,q,L⟩:=J;exact#[U,O,st,aH _ _ _ (λd M q1 y N O1 n Q R=>by
  unfold wpS kg at q1;cases ho:cF C M i with
  |none=>rw[ho]at q1;exact q1.elim
  |some p=>
   let⟨io,fs⟩:=p;rw[ho]at q1;simp only at q1
   by_cases h:fs.length<1000/\kI (fs.lookup f)=true
   .rw[if_pos h]at q1;obtain⟨l,fp,r,⟨j,gs,fps,S,T,Z,A⟩,hO,nd,up⟩:=n.boxN (lO ho);subst S;obtain⟨t,_⟩:j≠l/\True:=#[λz=>by subst z;simp at nd,trivial]
    refine#[_,r,l,C,j,gs,rfl,T,cl,B,by rw[A.len];exact h.1,?_];let⟨O3,u,s3,_⟩:=up (aM N l (.ins C j (cS f y gs))) (.o C (bi f (.d d) fs)) (l::j::fps.flatten) (λc o v e=>by rw[bt (λz=>v (by simp[z]))];exact e) nd (λc h=>.inl h) (λG O' s hG _=>by
     subst hG;refine#[s.hid,j,cS f y gs,if (fs.lookup f).isSome=true then fps else fps++[[]],?_,cI,by rw[bt t];exact Z,?_]
     .split
      .rfl
      .simp
     .refine A.putD h.2 (DV.mono s.hid R) s.hid λc h=>bt (λz=>?_);subst z;exact absurd h (by
       have:=(q0v.mp nd).1;exactλw=>this (bK _ w)))
    exact L.nx _ _ _ _ u (Q.trans s3) q1
   .rw[if_neg h]at q1;exact q1.elim) (fJ (m:=m) (k:=kg C i f) q)]
def GZ(q1:wp E (lI f as) b Q):iI f E Q as b:=by
 unfold wp lI at q1;unfold iI;cases h:jt b as with
 |none=>simp_all
 |some p=>
  let⟨j,l⟩:=p;rw[h]at q1;simp only at q1 ⊢;cases d:f j with
  |rt c a=>simp_all
  |ex c a=>simp_all
  |bad=>simp_all
def cq(f:FM)(i:Nat)(as:List AX):XM af:=lI f (.s i::as)
def cO(C:Addr)(i:Nat)(m:Str)(f:FM)(mX:XM (List AX)):XM af:=λU=>match cF C U i with
 |some (_,fs)=>if fs.lookup m=none then(mX U).bind (cq f i) else .bad
 |none=>.bad
def Ha{pos:Pos}{apos:Pos}{pl}(hx:eL X F E)(cl:dP X.K C)(Z:jM X.K C m g)(G:cR X.prog X.w X.K X.mg X.base (du X.prog X.w) k g fd ps (ff X.K X.mg f))(hr:bH k X.A)(hb:iW X.K fd ps [])(hv:PE X (.Name x p1) (bQ i))(ha:FX X F E (e::es) mX)
  (J:autoParam (qSa X e es) Zq._auto_1) (L:autoParam (qSb X pos es) Zq._auto_1)
  (ht:autoParam (eval (.Call (.Attribute (.Name x p1) m apos) (e::es) [] pos) X.env=(do
   let ov <-eval (.Name x p1) X.env
   standAt apos.atName
   let(f,first) <-holding [ov] (getMethod ov m pl)
   callWith pos f first (backTo pos (starEach (e::es) X.env)) (backToKw pos (keywordEach [] X.env)))) Zq._auto_1) :
  FO X F E (.Call (.Attribute (.Name x p1) m apos) (e::es) [] pos) (cO C i m f mX):=by
 refine#[aH,λa s Y H Q I l=>?_];let⟨U,O,st,q⟩:=l;unfold wp cO at q;cases ho:cF C U i with
 |none=>rw[ho]at q;exact q.elim
 |some p=>
  let⟨io,fs⟩:=p;rw[ho]at q;simp only at q
  by_cases M:fs.lookup m=none
  .rw[if_pos M]at q;obtain⟨b,fp,n,⟨dx,gs,fps,e1,e2,e3,e4⟩,_,_⟩:=st.box (lO ho);have hg:gs.lookup m=none:=by
    rcases jA e4 m with⟨l1,_⟩ |⟨_,_,_,_,l2,_⟩
    .exact l1
    .rw[M]at l2;cases l2
   refine q2G (pl:=pl) (aS (hv a s Y H (λv o=>v=.ref b/\o=H) I #[_,n,rfl,rfl]) λu N t=>?_) ht;let⟨v,o,I1,rx,ex,eH⟩:=t;subst ex eH;obtain rfl:u=Value.ref b:=rx;refine Dh I1 e2 cl Z hg ?_;have q':=bW (E:=E) (m:=mX) (k:=cq f i) (U:=U) q;refine q1J (first:=[.ref b]) (h₀:=X.base) I.ok.mod.kin Z.kp (aS (ha.pa pos a N Y o (λvs y=>∃as z j,aF X.K F y Y z j/\aR O o j y/\dI Y (aB j y) vs as/\iI f E (λc U'=>∀v B D fp,iG X.K F B Y U' D v c fp->aR O o D B->Q v B) (.s i::as) z) I1 #[U,O,st,ha.mn _ _ _ (λas z q1 vs y j d N R=>#[as,z,j,d,N,R,GZ q1]) q']) λus s2 zz=>#[by let⟨_,_,S,_⟩:=zz;exact S.kIn,?_]) J L;let⟨vs,y,S,r,as,z,j,d,T,R,q1⟩:=zz;exact zh hx G hr hb S (vs:=V.ref b::vs) (us:=Value.ref b::us) (.cons (show bj (.ref b) (.ref b) from rfl) r) d (dI.s n R) q1 λc U' h v B D fp res s2=>h v B D fp res (T.trans s2)
  .rw[if_neg M]at q;exact q.elim
def dZ(C:Addr)(i:Nat)(m:Str)(f:FM):XM af:=λU=>match cF C U i with
 |some (_,fs)=>if fs.lookup m=none then lI f [.s i] U else .bad
 |none=>.bad
def UC(Z:eL X F E)(cl:dP X.K C)(o:jM X.K C m g)(G:cR X.prog X.w X.K X.mg X.base (du X.prog X.w) k g fd ps (ff X.K X.mg f))(z:bH k X.A)(hb:iW X.K fd ps [])(hv:PE X (.Name x p1) (bQ i))
  (ht:autoParam (eval (.Call (.Attribute (.Name x p1) m apos) [] [] pos) X.env=(do
   let r <-eval (.Name x p1) X.env
   standAt apos.atName
   let(f,first) <-holding [r] (getMethod r m pl)
   callWith pos f first (backTo pos (starEach [] X.env)) (backToKw pos (keywordEach [] X.env)))) Zq._auto_1) :
  FO X F E (.Call (.Attribute (.Name x p1) m apos) [] [] pos) (dZ C i m f):=by
 refine#[aH,λb s Y H Q I d=>?_];let⟨U,O,st,q⟩:=d;unfold wp dZ at q;cases ho:cF C U i with
 |none=>rw[ho]at q;exact q.elim
 |some p=>
  let⟨io,fs⟩:=p;rw[ho]at q;simp only at q
  by_cases n:fs.lookup m=none
  .rw[if_pos n]at q;obtain⟨a,fp,j,⟨dx,gs,fps,e1,B,e3,D⟩,_,_⟩:=st.box (lO ho);have J:gs.lookup m=none:=by
    rcases jA D m with⟨L,_⟩ |⟨_,_,_,_,t,_⟩
    .exact L
    .rw[n]at t;cases t
   refine q2G (pl:=pl) (aS (hv b s Y H (λv y=>v=.ref a/\y=H) I #[_,j,rfl,rfl]) λu s1 l=>?_) ht;let⟨v,y,I1,M,ex,N⟩:=l;subst ex N;obtain rfl:u=Value.ref a:=M;refine Dh I1 B cl o J ?_;refine PySem.W.callWith_K0 (first:=[.ref a]) I1.kIn o.kp ?_;exact zh (vs:=[V.ref a]) (us:=[Value.ref a]) (as:=[.s i]) Z G z hb I1 (.cons (show bj (.ref a) (.ref a) from rfl) .nil) st (dI.s j .nil) (GZ q) λc U' h v R S fp res T=>h v R S fp res T
  .rw[if_neg n]at q;exact q.elim
noncomputable def rS(C:Addr)(f:FM)(a:List PyData):XM af:=λU=>match f (.own true (.o C [])::a.map .dat) with
 |.rt (.dat .none) [b]=>.ok (.own false b) U
 |.ex c _=>.ex c U
 |_=>.bad
def Ab(C:Addr)(f:FM)(a:XM (List PyData)):XM af:=λU=>(a U).bind (rS C f)
def UD{K}:∀{vs a},aK (aB O H) vs a->be K H O vs (a.map .dat) (a.map λ_=>[]):=by
 intro vs a
 induction a generalizing vs with
 |nil=>intro h;cases h;exact .nil
 |cons d a b=>intro h;cases h with
  |cons h t=>exact .dat h (b t)
def UE{a:Addr}{b:Bx}:∀{c:List PyData}{vs}{bs}{fps},bw H O vs (c.map af.dat) bs fps->bs=[]/\fps=[]:=by
 intro c
 induction c with
 |nil=>intro vs bs fps h;cases h;simp_all
 |cons d c j=>intro vs bs fps h;cases h with
  |skip _ h=>exact j h
def Ac{α β:Type}:∀l:List α,(l.map λ_=>([]:List β)).flatten=[]
 |[]=>rfl
 |_::r=>by simp
def UF{pos:Pos}{p:Pos}(hx:eL X F E)(M:Mk X.K C g)(G:cR X.prog X.w X.K X.mg X.base (du X.prog X.w) k g fd ps (ff X.K X.mg f))(hr:bH (k+1) X.A)(hg:Gl X x)(hm:X.mg x=!.ref C)(hb:iW X.K fd ps [])(l:FA X F E (e::es) mA)
  (b3:autoParam ((x==("__debug__":Str))=false) Zr._auto_1) (he:autoParam (qSa X e es) Zq._auto_1) (b4:autoParam (qSb X pos es) Zq._auto_1) :
  FO X F E (.Call (.Name x p) (e::es) [] pos) (Ab C f mA):=by
 refine#[aH,λZ s Y H Q I a7=>?_];let⟨U,O,st,q⟩:=a7;refine wpAny_Call_Name_kw (pG I hg hm ?_ b3);have q':=bW (E:=E) (m:=mA) (k:=rS C f) (U:=U) q;refine q1J (h₀:=X.base) I.ok.mod.kin M.kp (aS (l.pa pos Z s Y H (λvs y=>∃S U1 t,aF X.K F y Y U1 t/\aR O H t y/\aK (aB t y) vs S/\wp E (rS C f S) U1 (λc U'=>∀v n O' fp,iG X.K F n Y U' O' v c fp->aR O H O' n->Q v n)) I #[U,O,st,l.mn _ _ _ (λS U1 q1 vs y t D J dv=>#[S,U1,t,D,J,dv,q1]) q']) λus J zz=>#[by let⟨_,_,I1,_⟩:=zz;exact I1.kIn,?_]) he b4;let⟨vs,y,I1,r,S,U1,t,D,b5,dv,q1⟩:=zz;let EX:XK:=λC _ n=>∃c U' O',X.mg c=!C/\aF X.K F n Y U' O'/\E c U';have h:∀x j,y x=none->y j=none->j≠x->ff X.K X.mg f (.ref x::vs) (aM (aM y j (.own x)) x (.ins C j [])) (λv H2=>v=.non/\Q (.ref x) H2) EX:=λx j h1 h2 a0=>by
  let⟨W,a1,a8⟩:=id D;have a2:∀a∈t,∃o,y a=!o/\Mv o:=λa h=>a1.live a (by rw[<-a8];exact h);have nx:x∉t:=λz=>by let⟨o,e,_⟩:=a2 x z;rw[h1]at e;cases e
  have b6:j∉t:=λz=>by let⟨o,e,_⟩:=a2 j z;rw[h2]at e;cases e
  have a3:t.Nodup:=by rw[a8];exact a1.nd
  have up:∀b o,y b=!o->aM (aM y j (.own x)) x (.ins C j []) b=!o:=λb o e=>by rw[bt (λz=>by subst z;rw[h1]at e;cases e),bt (λz=>by subst z;rw[h2]at e;cases e)];exact e
  have fl:(([x,j]::S.map λ_=>([]:List Addr)).flatten++t)=x::j::t:=by rw[q0e,Ac];rfl
  have hid:bO (aB t y) (aB (x::j::t) (aM (aM y j (.own x)) x (.ins C j []))):=λb o e=>by
   let⟨T,n1⟩:=cZ e;refine jc (up b o T) λz=>?_;rcases q0c.mp z with z |z
   .subst z;rw[h1]at T;cases T
   .rcases q0c.mp z with z |z
    .subst z;rw[h2]at T;cases T
    .exact n1 z
  refine#[(hx.1.at D).mono λb u _ e=>up b u e,.own true (.o C [])::S.map .dat,[x,j]::S.map λ_=>[],t,?_,?_,?_,?_]
  .rw[fl];exact .own #[j,[],[],rfl,cI,by rw[bt a0,cI],.nil] (UD (aK.mono hid dv))
  .rw[fl];refine q0v.mpr #[λz=>?_,q0v.mpr #[b6,a3]];rcases q0c.mp z with z |z
   .exact a0 z.symm
   .exact nx z
  .rw[fl];intro a l;rcases q0c.mp l with rfl |l
   .exact#[.ins C j [],cI,trivial]
   .rcases q0c.mp l with rfl |l
    .exact#[.own x,by rw[bt a0,cI],trivial]
    .let⟨o,T,e2⟩:=a2 a l;exact#[o,up a o T,e2]
  .unfold wp rS at q1;have hL:([x,j]::S.map λ_=>([]:List Addr)).flatten=[x,j]:=by rw[q0e,Ac];rfl
   have a9:aF X.K (F.plus []) y Y U1 t:=D;have lift:∀(n:Hp) (L':List Addr),lD (aM (aM y j (.own x)) x (.ins C j [])) n [x,j] L' t->∃R,aF X.K (F.plus L') n Y U1 R/\aR t y R n/\(∀a∈L',a∈R)/\(∀a∈R,a∈L'\/a∈t)/\∀a∈L',a∈F.A₀\/F.H₀ a=none:=λn L' B=>by
    have new1:∀a∈L',y a=none:=λa l=>by
     rcases B.new a l with z |z
     .simp only[q0c,q0z,or_false]at z;rcases z with rfl |rfl
      .exact h1
      .exact h2
     .cases e:y a with
      |none=>rfl
      |some o=>rw[up a o e]at z;cases z
    let⟨R,t1,t2,t3,t4,_⟩:=a9.swap (L':=L') (H':=n) (λb o _ e=>B.keep b o (λz=>by
     simp only[q0c,q0z,or_false]at z;rcases z with rfl |rfl
     .rw[h1]at e;cases e
     .rw[h2]at e;cases e) (up b o e)) (q0f.mp B.nd).1 (λa l=>.inr (new1 a l)) (λa h=>by cases h) B.live
    refine#[R,t1,t2,t3,λa l=>(t4 a l).imp id (·.1),λa l=>?_]
    by_cases hA:a∈F.A₀
    .exact .inl hA
    .refine .inr ?_;cases e:F.H₀ a with
     |none=>rfl
     |some o=>have:=a1.kept a o hA e;rw[new1 a l]at this;cases this
   cases hf:f (.own true (.o C [])::S.map .dat) with
   |bad=>rw[hf]at q1;exact q1
   |ex c L=>rw[hf]at q1;intro C' n b0 a4 b1 B;rw[hL]at B;let⟨R,t1,t2,t3,t4,t5⟩:=lift n [] #[a3,λa h=>(by cases h),B.keep,λa h=>(by cases h)];exact#[c,U1,R,a4,t1,q1]
   |rt c L=>
    rw[hf]at q1;intro v n fp b0 b7 b1 B;rw[hL]at B;obtain⟨b',rfl,rfl⟩:∃b',c=.dat .none/\L=[b']:=by
     cases c with
     |dat d=>cases d with
      |none=>cases L with
       |nil=>exact q1.elim
       |cons b r=>cases r with
        |nil=>exact#[b,rfl,rfl]
        |cons _ _=>exact q1.elim
      |_=>exact q1.elim
     |_=>exact q1.elim
    .
     have hv:v=.non:=DV.non_inv b7;cases b1 with
     |skip b8 _=>exact absurd rfl (b8 _ _)
     | @own _ _ _ _ a5 _ _ _ c1 b2 a6=>
      let⟨_,rfl⟩:=UE (a:=0) (b:=b') a6;refine#[hv,?_];simp only[q0e,q2t,q0D]at b2 B;have b9:lD (aM (aM y j (.own x)) x (.ins C j [])) n [x,j] a5 t:=#[by
       have n1:=B.nd;rw[q0m]at n1;let⟨m1,m2,m3⟩:=q0f.mp n1;exact q0f.mpr #[m1,a3,λa l b hb=>m3 a l b (bq _ hb)],λa l=>B.live a (bB _ l),B.keep,λa l=>B.new a (bB _ l)]
      let⟨R,t1,t2,t3,t4,t5⟩:=lift n a5 b9;refine q1 (.ref x) n R a5 #[t1,#[x,rfl,b2.keep (λ_ _=>rfl) (uK λa l=>?_)],t5] (b5.trans t2);rcases t4 a l with z |z
      .exact bB _ (bB _ z)
      .exact bq _ z
 have hq:=h (J.heap.objs.size+1) J.heap.objs.size (I1.hok.fresh (q1Q _)) (I1.hok.fresh (bu _)) (q0s (q00 _));have I2:=Inv.made (C:=C) I1;have r2:bv (V.ref (J.heap.objs.size+1)::vs) (Value.ref (J.heap.objs.size+1)::us):=.cons rfl r;have hl:(Value.ref (J.heap.objs.size+1)::us++[]).length=ps.length:=by have e:=r2.length;rw[G.len _ _ _ _ hq]at e;rw[q0D];exact e.symm
 refine wpAny_call (Ol (f:=g) I1.kIn M.makes M.init (beq_iff_eq.mp M.fn) (codeAny_mono (G.run _ X.stack _ _ #[Value.ref (J.heap.objs.size+1)::us,[]] (Value.ref (J.heap.objs.size+1)::us) _ _ EX (hr.make C us [])
  (I2.env0.make C us []) (by have:=hb _ (Value.ref (J.heap.objs.size+1)::us) I2.kIn hl;rw[q0D]at this;exact this) r2 hq) λr s' N=>?_))
 cases r with
 |error e=>let⟨a,C',n,T,I',cv,ex,c,U',O',a4,c0,hE⟩:=I2.flies N;exact hx.2 Z Y n s' e c U' O' #[I',a,C',_,_,T,cv,ex,a4] c0 hE
 |ok fl=>
  cases fl with
  |ret u=>let⟨v,n,I3,rv,ev,q3⟩:=I2.after N;subst ev;exact#[rv,#[V.ref (J.heap.objs.size+1),n,I3,rfl,q3]]
  |next=>exact False.elim N
  |brk=>exact False.elim N
  |cont=>exact False.elim N
noncomputable def vA:Fl->Bool
 |.d _=>false
 |_=>true
def UG(h:gA G H v x fp)(g:vA x=true):∃b,v=.ref b/\fp=[b]:=by
 cases x with
 |d _=>cases g
 |l ds=>let⟨a,i,c,e,_⟩:=h;exact#[a,c,e]
 |m j f=>let⟨a,c,e,_⟩:=h;exact#[a,c,e]
def Hb(A:vA x=true):∀{gs fs fps},aP G H gs fs fps->fs.lookup f=!x->fps.flatten.Nodup->
  ∃b,gs.lookup f=!.ref b/\gA G H (.ref b) x [b]/\b∈fps.flatten/\∀i j  l,bO G i->(∀c∈fps.flatten,c≠b->j c=H c)->gA i j (.ref b) l [b]->aP i j gs (bi f l fs) fps:=by
 intro gs fs fps h
 induction h with
 |nil=>intro m;cases m
 | @cons n v y fp gs fs fps o s t=>
  intro m r;rw[q0e]at r;let⟨n1,u,q⟩:=q0f.mp r
  by_cases e:f=n
  .subst e;have w:y=x:=by simpa[List.lookup] using m
   subst w;let⟨b,rfl,rfl⟩:=UG o A;refine#[b,by simp[List.lookup],o,by simp,λi j l g k a=>?_];unfold bi;rw[if_pos rfl];refine .cons a (s.keep (λc d=>k c (by rw[q0e];exact bq _ d) λz=>?_) g);exact q b 'd' c d z.symm
  .have e':(f==n)=false:=by simpa using e
   rw[q0n,e']at m;let⟨b,q1,q2,q3,q4⟩:=t m u;refine#[b,by rw[q0n,e'];exact q1,q2,by rw[q0e];exact bq _ q3,λi j l g k a=>?_];unfold bi;rw[if_neg (λz=>e z.symm)];refine .cons (o.keep (λc d=>k c (by rw[q0e];exact bB _ d) λz=>?_) g) (q4 i j l g (λc d p=>k c (by rw[q0e];exact bq _ d) p) a);exact q c d b q3 z
def aF.fldUp{K}(st:aF K F H Y U O)(J:cF C U i=!(io,fs))(lk:fs.lookup f=!x)(L:vA x=true) :
  ∃a d gs b,Y[i]? = !!.ref a/\H a=!.ins C d gs/\gs.lookup f=!.ref b/\gA (aB O H) H (.ref b) x [b]/\
   ∀g  h,Mv g->(∀G,bO (aB O H) G->gA G (aM H b g) (.ref b) h [b])->∃j,aF K F (aM H b g) Y (U.set i (!.own io (.o C (bi f h fs)))) j/\aR O H j (aM H b g):=by
 obtain⟨a,fp,l,⟨d,gs,fps,t,r,u,v⟩,M,nd,up⟩:=st.boxN (lO J);subst t;have k:=nd;rw[q0v,q0v]at k;let⟨w,m,y⟩:=k;let⟨b,q1,q2,q3,q4⟩:=Hb L v lk y;have A:a≠b:=λz=>w (by rw[z];exact bK _ q3);have B:d≠b:=λz=>m (by rw[z];exact q3);refine#[a,d,gs,b,l,r,q1,q2,λg h N D=>?_];let⟨j,n,E,_⟩:=up (aM H b g) (.o C (bi f h fs)) (a::d::fps.flatten) (λc o p e=>by rw[bt (λz=>p (by rw[z];exact bK _ (bK _ q3)))];exact e) nd (λc p=>.inl p) (λG j s I _=>by
  subst I;exact#[s.hid,d,gs,fps,rfl,by rw[bt A];exact r,by rw[bt B];exact u,q4 _ _ h s.hid (λc _ q=>bt q) (D _ s.hid)])
 exact#[j,n,E]
def vB(C:Addr)(i:Nat)(f:Str)(d:PyData):SM:=λU=>match cF C U i with
 |some (io,fs)=>(match fs.lookup f with
  |some (.l ds)=>if ds.length<sizeLine then .nx (U.set i (!.own io (.o C (bi f (.l (ds++[d])) fs)))) else .bad
  |_=>.bad)
 |none=>.bad
noncomputable def en(U:ag)(j:Nat):Option PyData:=match U[j]? with
 |some (!.dat d)=>some d
 |_=>none
def kJ(h:en U j=!d):U[j]? = !!.dat d:=by
 unfold en at h;split at h
 .simp_all
 .cases h
def rT(C:Addr)(i:Nat)(f:Str)(j:Nat):SM:=λU=>match en U j with
 |some d=>vB C i f d U
 |none=>.bad
def UH{F:Fx}{E:Str->ag->Prop}{pos:Pos}{apos:Pos}{cpos:Pos}{fpos:Pos}(cl:dP X.K C)(S:di X.K C f)(hv:PE X (.Name x p1) (bQ i))(T:PE X (.Name y k) (bQ j))(hb:autoParam (qSc X (.Name x p1) f) Zq._auto_1)
  (B:autoParam (swapsWith (.Call (.Attribute (.Attribute (.Name x p1) f fpos) "append" apos) [.Name y k] [] cpos) none pos.line X.env=pure false) Zq._auto_1)
  (n:autoParam (qSc X (.Attribute (.Name x p1) f fpos) "append") Zq._auto_1)
  (t:autoParam (((backTo cpos (starEach [.Name y k] X.env)).all (λx=>not x.1)&&(backToKw cpos (keywordEach [] X.env)).all (λx=>x.1.isSome)&&decide (([.Name y k]:List Expr).length+([]:List Keyword).length+(if ([]:List Keyword).isEmpty then 0 else 1)<30))=true) Zq._auto_1)
  (o:autoParam ((apos.endLine==cpos.line)=true) Zq._auto_1) (R:autoParam (qSa X (.Name y k) []) Zq._auto_1) (h:autoParam (qSb X cpos []) Zq._auto_1) :
  FS X F E (.Expr (.Call (.Attribute (.Attribute (.Name x p1) f fpos) "append" apos) [.Name y k] [] cpos) pos) (rT C i f j):=
 (nT (nV q0Y q1c q1d uD (jN hv hb) (dQ T eK R) n t o R h) B).imp λD Y H u=>by
  let⟨U,O,DD,st,q,Z⟩:=u;unfold wpS rT at q;cases r:en U j with
  |none=>rw[r]at q;exact q.elim
  |some d=>
   have hd:=kJ r;rw[r]at q;simp only at q;unfold vB at q;cases ho:cF C U i with
   |none=>rw[ho]at q;exact q.elim
   |some p=>
    let⟨io,fs⟩:=p;rw[ho]at q;simp only at q;cases s:fs.lookup f with
    |none=>rw[s]at q;exact q.elim
    |some z=>
     rw[s]at q;cases z with
     |d _=>exact q.elim
     |m _ _=>exact q.elim
     |l ds=>
      simp only at q
      by_cases I:ds.length<sizeLine
      .rw[if_pos I]at q;obtain⟨a0,dx,gs,J,L,e2,q1,⟨b1,A,eb,_,Q,v⟩,up⟩:=st.fldUp ho s rfl;cases eb;let⟨w,hw,M⟩:=st.dat hd;let⟨O2,N,s2⟩:=up (.lst (A++[w])) (.l (ds++[d])) trivial (λG g=>#[J,A++[w],rfl,rfl,cI,(aK.mono g v).append (.cons (DV.mono g M) .nil)]);exact#[_,L,a0,C,dx,gs,.ref J,rfl,e2,cl,S,q1,.inl #[rfl,A,.of Q],w,hw,J,A,w,rfl,rfl,Q,by rw[v.length];exact I,Z.nx _ _ _ _ N s2 q]
      .rw[if_neg I]at q;exact q.elim
def rV(C:Addr)(i:Nat)(f:Str)(j l:Nat)(v:PyData):SM:=λU=>match cF C U i,en U j,en U l with
 |some (io,fs),!y,!z=>(match fs.lookup f,gU true (.tuple [y,z]) with
  |some (.m true d),!k=>if d.length<sizeLine then .nx (U.set i (!.own io (.o C (bi f (.m true (kF true d (.tuple [y,z]) k v)) fs)))) else .bad
  |_,_=>.bad)
 |_,_,_=>.bad
def vC(C:Addr)(i:Nat)(f:Str)(j l:Nat)(m:XM PyData):SM:=λU=>ef (m U) (rV C i f j l)
def UI{pos:Pos}{fpos:Pos}{p4 o}{kx}(hu:X.A.units+1<cLine)(cl:dP X.K C)(na:di X.K C f)(hv:PE X (.Name x p1) (bQ i))(hy:PE X (.Name y u) (bQ j))(hz:PE X (.Name z r) (bQ l))(he:FE X F E e m)(hb:autoParam (qSc X (.Name x p1) f) Zq._auto_1)
  (h1:autoParam (qSa X (.Name y u) [.Name z r]) Zq._auto_1) (h2:autoParam (qSa X (.Name z r) []) Zq._auto_1)
  (hs:autoParam (swapsWith e (!.Subscript (.Attribute (.Name x p1) f fpos) (.Tuple [.Name y u,.Name z r] kx p4) o) pos.line X.env=pure false) Zq._auto_1) :
  FS X F E (.Assign [.Subscript (.Attribute (.Name x p1) f fpos) (.Tuple [.Name y u,.Name z r] kx p4) o] e pos) (vC C i f j l m):=
 (yE hu (jN hv hb) (qU (dQ hy (dQ hz eK h2) h1)) he.pe hs).imp λD Y H zz=>by
 let⟨U,O,DD,st,q,fD⟩:=zz;exact#[U,O,st,aH _ _ _ (λv M q1 vy H1 O1 h s1 d1=>by
  unfold wpS rV at q1;cases ho:cF C M i with
  |none=>rw[ho]at q1;exact q1.elim
  |some p=>
   let⟨io,fs⟩:=p;cases J:en M j with
   |none=>rw[ho,J]at q1;exact q1.elim
   |some y0=>
    cases N:en M l with
    |none=>rw[ho,J,N]at q1;exact q1.elim
    |some z0=>
     rw[ho,J,N]at q1;simp only at q1;cases n:fs.lookup f with
     |none=>rw[n]at q1;exact q1.elim
     |some t=>
      rw[n]at q1;cases t with
      |d _=>exact q1.elim
      |l _=>exact q1.elim
      |m tk w=>
       cases tk with
       |false=>exact q1.elim
       |true=>
        cases Q:gU true (.tuple [y0,z0]) with
        |none=>rw[Q]at q1;exact q1.elim
        |some k=>
         rw[Q]at q1;simp only at q1
         by_cases s:w.length<sizeLine
         .rw[if_pos s]at q1;let⟨a0,dx,gs,R,B,e2,l1,_,_⟩:=h.fldUp ho n rfl;let⟨w1,S,T⟩:=h.dat (kJ J);let⟨w2,Z,a2⟩:=h.dat (kJ N);refine#[_,B,a0,C,dx,gs,.ref R,rfl,e2,cl,na,l1,w1,S,w2,Z,show 2<=sizeLine by decide,λp hp=>?_];have L:bO H1 (aM H1 p (.tup [w1,w2])):=cp hp;have a3:=h.grow L;have hd:=kB (O:=O1) L;obtain⟨a1,a6,a7,b1,I,e3,l2,⟨b2,eb,_,a4⟩,up⟩:=a3.fldUp ho n rfl;rw[B]at I;cases I;rw[L _ _ e2]at e3;cases e3;rw[l1]at l2;cases l2;cases eb;let⟨o',g1,mv,g2⟩:=Gw a4 kA (kD hp (h.nofree p hp) (.cons T (.cons a2 .nil))) (DV.mono hd d1) Q s;let⟨O3,a5,s3⟩:=up o' (.m true (kF true w (.tuple [y0,z0]) k v)) mv (λG g=>#[R,rfl,rfl,g2 G g]);exact#[R,_,rfl,g1,fD.nx _ _ _ _ a5 (s1.trans ((aR.same L).trans s3)) q1]
         .rw[if_neg s]at q1;exact q1.elim) (fJ (m:=m) (k:=rV C i f j l) q)]
def rW(C:Addr)(i:Nat)(f:Str)(j:Nat):XM PyData:=λU=>match cF C U i,en U j with
 |some (_,fs),!.int k=>(match fs.lookup f with
  |some (.l ds)=>lift (bT ds k) U
  |some (.d (.list ds))=>lift (bT ds k) U
  |some (.d (.tuple ds))=>.bad
  |_=>.bad)
 |_,_=>.bad
def vD(h:aK G l g)(e:bT g k=!d):∃v,bT l k=!v/\DV G v d:=by
 unfold bT at e ⊢;rw[h.length];cases hx:dR g.length k with
 |none=>simp_all
 |some j=>rw[hx]at e;exact h.get e
def UJ{F:Fx}{E:Str->ag->Prop}{pos:Pos}{fpos:Pos}(cl:dP X.K C)(S:di X.K C f)(hv:PE X (.Name x p1) (bQ i))(hy:PE X (.Name y z) (bQ j))(hb:autoParam (qSc X (.Name x p1) f) Zq._auto_1)(hs:autoParam (nU (.Name y z)) Zqb._auto_1) :
  FE X F E (.Subscript (.Attribute (.Name x p1) f fpos) (.Name y z) pos) (rW C i f j):=
 #[aH,(qW qX (jN hv hb) hy hs).imp λY H Q r=>by
  let⟨U,O,st,q⟩:=r;unfold wp rW at q;cases ho:cF C U i with
  |none=>rw[ho]at q;exact q.elim
  |some p=>
   let⟨io,fs⟩:=p;cases A:en U j with
   |none=>rw[ho,A]at q;exact q.elim
   |some y0=>
    rw[ho,A]at q;cases y0 with
    |int k=>
     simp only at q;let⟨w,T,dw⟩:=st.dat (kJ A);obtain rfl:=dw.int_inv;cases g:fs.lookup f with
     |none=>rw[g]at q;exact q.elim
     |some t=>
      rw[g]at q;cases t with
      |m _ _=>exact q.elim
      |l ds=>obtain⟨B,D,gs,Z,h,G,I,⟨J,L,eb,_,M,n⟩,_⟩:=st.fldUp ho g rfl;cases eb;let⟨d,u,q2⟩:=da (o:=bT ds k) (U:=U) (E:=E) q;let⟨v,N,R⟩:=vD n u;exact#[_,h,B,C,D,gs,.ref Z,rfl,G,cl,S,I,_,T,Z,L,k,v,rfl,rfl,.of M,N,q2 v H O st .refl R]
      |d x0=>
       cases x0 with
       |list ds=>
        obtain⟨B,fp,h,⟨D,gs,fps,u,G,e3,e4⟩,_,_⟩:=st.box (lO ho);rcases jA e4 f with⟨_,s⟩ |⟨v,y1,a1,I,s,l3,_⟩
        .rw[g]at s;cases s
        .rw[g]at s;cases s;let⟨J,L,rfl,M,n⟩:=l3.2.lst_inv;let⟨d,u,q2⟩:=da (o:=bT ds k) (U:=U) (E:=E) q;let⟨v,N,R⟩:=vD n u;exact#[_,h,B,C,D,gs,.ref J,rfl,G,cl,S,I,_,T,J,L,k,v,rfl,rfl,.of (cZ M).1,N,q2 v H O st .refl R]
       |_=>exact q.elim
    |_=>exact q.elim]
def rX(C:Addr)(i:Nat)(f:Str)(j:Nat)(v:PyData):SM:=λU=>match cF C U i,en U j with
 |some (io,fs),!.int k=>(match fs.lookup f with
  |some (.l ds)=>(match dR ds.length k with
   |some n=>.nx (U.set i (!.own io (.o C (bi f (.l (ds.set n v)) fs))))
   |none=>.bad)
  |_=>.bad)
 |_,_=>.bad
def vE(C:Addr)(i:Nat)(f:Str)(j:Nat)(m:XM PyData):SM:=λU=>ef (m U) (rX C i f j)
theorem Ad(hd:DV G v d):∀{g j} n,aK G g j->aK G (g.set n v) (j.set n d)
 |_,_,_,.nil=>.nil
 |_,_,0,.cons _ t=>.cons hd t
 |_,_,n+1,.cons h t=>.cons h (Ad hd n t)
def UK{pos:Pos}{fpos:Pos}{h}(cl:dP X.K C)(T:di X.K C f)(hv:PE X (.Name x p1) (bQ i))(Z:PE X (.Name y o) (bQ j))(he:FE X F E e m)(hb:autoParam (qSc X (.Name x p1) f) Zq._auto_1)
  (hs:autoParam (swapsWithSole [.Subscript (.Attribute (.Name x p1) f fpos) (.Name y o) h] e pos.line X.env=pure false) Zq._auto_1) (hw:autoParam (swappedStores [.Subscript (.Attribute (.Name x p1) f fpos) (.Name y o) h] e X.env=pure none) Zq._auto_1)
  (h1:autoParam ((assignEach [.Subscript (.Attribute (.Name x p1) f fpos) (.Name y o) h] X.env).map (·.2)=[assign (.Subscript (.Attribute (.Name x p1) f fpos) (.Name y o) h) X.env]) Zq._auto_1)
  (hq:autoParam (∀v,assign (.Subscript (.Attribute (.Name x p1) f fpos) (.Name y o) h) X.env v=(do
   let z <-holding [v] (eval (.Attribute (.Name x p1) f fpos) X.env);let A <-holding [v,z] (eval (.Name y o) X.env)
   standAt h
   holding [v,z,A] (setItem z A v)
   release [v,z,A] [])) Zs._auto_1) :
  FS X F E (.Assign [.Subscript (.Attribute (.Name x p1) f fpos) (.Name y o) h] e pos) (vE C i f j m):=
 (yk he.pe (CO (jN hv hb) Z DK hq) hs hw h1).imp λD Y H zz=>by
 let⟨U,O,DD,st,q,fD⟩:=zz;exact#[U,O,st,aH _ _ _ (λv R q1 S H1 O1 s s1 d1=>by
  unfold wpS rX at q1;cases ho:cF C R i with
  |none=>rw[ho]at q1;exact q1.elim
  |some p=>
   let⟨io,fs⟩:=p;cases B:en R j with
   |none=>rw[ho,B]at q1;exact q1.elim
   |some y0=>
    rw[ho,B]at q1;cases y0 with
    |int k=>
     simp only at q1;cases r:fs.lookup f with
     |none=>rw[r]at q1;exact q1.elim
     |some t=>
      rw[r]at q1;cases t with
      |d _=>exact q1.elim
      |m _ _=>exact q1.elim
      |l ds=>
       simp only at q1;cases I:dR ds.length k with
       |none=>rw[I]at q1;exact q1.elim
       |some n=>rw[I]at q1;let⟨w,J,dw⟩:=s.dat (kJ B);obtain rfl:=dw.int_inv;obtain⟨a0,dx,gs,L,M,e2,l1,⟨b1,N,eb,_,hH,u⟩,up⟩:=s.fldUp ho r rfl;cases eb;let⟨O2,Q,s2⟩:=up (.lst (N.set n S)) (.l (ds.set n v)) trivial (λG g=>#[L,N.set n S,rfl,rfl,cI,Ad (DV.mono g d1) n (aK.mono g u)]);exact#[_,M,a0,C,dx,gs,.ref L,rfl,e2,cl,T,l1,_,J,L,N,k,n,rfl,rfl,hH,by rw[u.length];exact I,fD.nx _ _ _ _ Q (s1.trans s2) q1]
    |_=>exact q1.elim) (fJ (m:=m) (k:=rX C i f j) q)]
def vF(C:Addr)(i:Nat)(f:Str)(n:Int):SM:=λU=>match cF C U i with
 |some (io,fs)=>(match fs.lookup f with
  |some (.d (.int v))=>if fs.length<1000 then .nx (U.set i (!.own io (.o C (bi f (.d (.int (v+n))) fs)))) else .bad
  |_=>.bad)
 |none=>.bad
def UL(cl:dP X.K C)(R:di X.K C f)(hv:PE X (.Name x p1) (bQ i))(S:PE X e (λY H Q=>Q (.int n) H)):FS X F E (.AugAssign (.Attribute (.Name x p1) f j) .Add e pos) (vF C i f n):=
 (Ou hv S Ow).imp λD Y H k=>by
  let⟨U,O,DD,st,q,T⟩:=k;unfold wpS vF at q;cases ho:cF C U i with
  |none=>rw[ho]at q;exact q.elim
  |some p=>
   let⟨io,fs⟩:=p;rw[ho]at q;simp only at q;cases g:fs.lookup f with
   |none=>rw[g]at q;exact q.elim
   |some t=>
    rw[g]at q;cases t with
    |l _=>exact q.elim
    |m _ _=>exact q.elim
    |d Z=>
     cases Z with
     |int v0=>
      simp only at q
      by_cases y:fs.length<1000
      .rw[if_pos y]at q;obtain⟨u,fp,A,⟨h,gs,fps,e1,N,e3,B⟩,hO,nd,up⟩:=st.boxN (lO ho);subst e1;have I:h≠u:=λz=>by subst z;simp at nd
       rcases jA B f with⟨_,r⟩ |⟨v,y1,a1,l1,r,l3,_⟩
       .rw[g]at r;cases r
       .rw[g]at r;cases r;obtain rfl:=l3.2.int_inv;let⟨O3,J,s3,_⟩:=up (aM H u (.ins C h (cS f (.int (v0+n)) gs))) (.o C (bi f (.d (.int (v0+n))) fs)) (u::h::fps.flatten) (λc o L e=>by rw[bt (λz=>L (by simp[z]))];exact e) nd (λc M=>.inl M) (λG O' s hG _=>by
         subst hG;refine#[s.hid,h,cS f (.int (v0+n)) gs,if (fs.lookup f).isSome=true then fps else fps++[[]],?_,cI,by rw[bt I];exact e3,?_]
         .split
          .rfl
          .simp
         .refine B.putD (by rw[g];rfl) (.int _) s.hid λc M=>bt (λz=>?_);subst z;exact absurd M (λw=>(q0v.mp nd).1 (bK _ w)))
        exact#[_,A,u,C,h,gs,_,rfl,N,cl,R,l1,v0,n,rfl,rfl,h,gs,N,by rw[B.len];exact y,T.nx _ _ _ _ J s3 q]
      .rw[if_neg y]at q;exact q.elim
     |_=>exact q.elim
def UM:∀{gs fs fps},aP G H gs fs fps->fs.lookup f=none->bO G a->(∀c∈fps.flatten,b c=H c)->gA a b (.ref p) y [p]->aP a b (cS f (.ref p) gs) (bi f y fs) (fps++[[p]]):=by
 intro gs fs fps h
 induction h with
 |nil=>exactλ_ _ _ h=>.cons h .nil
 | @cons n v z fp gs fs fps j m l=>
  intro d g k h
  by_cases e:f=n
  .simp_all
  .have e':(f==n)=false:=by simpa using e
   rw[q0n,e']at d;unfold cS bi;rw[if_neg (λz=>e z.symm),if_neg (λz=>e z.symm)];exact .cons (j.keep (λc i=>k c 'h') g) (l d g (λc i=>k c 'h') h)
def aF.fldNew{K}(st:aF K F H Y U O)(N:cF C U i=!(io,fs))(lk:fs.lookup f=none) :
  ∃a d gs,Y[i]? = !!.ref a/\H a=!.ins C d gs/\gs.length=fs.length/\
   ∀p  g  y,H p=none->Mv g->(∀G,bO (aB O H) G->gA G (aM (aM H p g) a (.ins C d (cS f (.ref p) gs))) (.ref p) y [p])->aM H p g a=!.ins C d gs/\∃j,aF K F (aM (aM H p g) a (.ins C d (cS f (.ref p) gs))) Y (U.set i (!.own io (.o C (bi f y fs)))) j/\aR O H j (aM (aM H p g) a (.ins C d (cS f (.ref p) gs))):=by
 obtain⟨a,fp,l,⟨d,gs,fps,A,m,t,u⟩,B,nd,up⟩:=st.boxN (lO N);subst A;have k:=nd;rw[q0v,q0v]at k;let⟨n,q,D⟩:=k;have ad:d≠a:=λz=>n (by rw[z];exact q0g);refine#[a,d,gs,l,m,u.len,λp g y h R E=>?_];have pa:a≠p:=λz=>by subst z;rw[m]at h;cases h
 have v:d≠p:=λz=>by subst z;rw[t]at h;cases h
 have I:=st.live;have w:p∉fps.flatten:=λz=>by exact absurd (B p (bK _ (bK _ z))) (st.nofree p h)
 refine#[by rw[bt pa];exact m,?_];let⟨j,r,J,_⟩:=up (aM (aM H p g) a (.ins C d (cS f (.ref p) gs))) (.o C (bi f y fs)) (a::d::(fps++[[p]]).flatten) (λc o b e=>by
   rw[bt (λz=>b (by simp[z])),bt (λz=>by subst z;rw[h]at e;cases e)];exact e) (by
   rw[q1A];simp only[q0e,q2t,q0D];refine q0v.mpr #[λz=>?_,q0v.mpr #[λz=>?_,q0f.mpr #[D,by simp,λx Q y L=>?_]]]
   .rcases q0c.mp z with z |z
    .exact ad z.symm
    .rcases q0b.mp z with z |z
     .exact n (bK _ z)
     .exact pa (q0l.mp z)
   .rcases q0b.mp z with z |z
    .exact q z
    .exact v (q0l.mp z)
   .rw[q0l.mp L];exactλz=>w (by rw[<-z];exact Q)) (λc b=>by
   rw[q1A]at b;simp only[q0e,q2t,q0D]at b;rcases q0c.mp b with rfl |b
   .exact .inl q0g
   .rcases q0c.mp b with rfl |b
    .exact .inl 'd'
    .rcases q0b.mp b with b |b
     .exact .inl (bK _ (bK _ b))
     .exact .inr (by rw[q0l.mp b];exact h)) (λG j s M _=>by
  subst M;refine#[s.hid,d,cS f (.ref p) gs,fps++[[p]],rfl,cI,by rw[bt ad,bt v];exact t,UM u lk s.hid (λc b=>?_) (E _ s.hid)];rw[bt (λz=>n (by rw[<-z];exact bK _ b)),bt (λz=>w (by rw[<-z];exact b))])
 exact#[j,r,J]
def oF(C:Addr)(i:Nat)(f:Str)(y:Fl):SM:=λU=>match cF C U i with
 |some (io,fs)=>if fs.lookup f=none/\fs.length<1000 then .nx (U.set i (!.own io (.o C (bi f y fs)))) else .bad
 |none=>.bad
def UN(cl:dP X.K C)(r:di X.K C f)(B:PE X (.Name x p1) (bQ i))(I:autoParam (swapsWith (.List [] p2) (!.Attribute (.Name x p1) f pos') pos.line X.env=pure false) Zq._auto_1):FS X F E (.Assign [.Attribute (.Name x p1) f pos'] (.List [] p2) pos) (oF C i f (.l [])):=
 (uB B (uC eK) I).imp λD Y H d=>by
  let⟨U,O,J,st,q,s⟩:=d;unfold wpS oF at q;cases ho:cF C U i with
  |none=>rw[ho]at q;exact q.elim
  |some p=>
   let⟨io,fs⟩:=p;rw[ho]at q;simp only at q
   by_cases h:fs.lookup f=none/\fs.length<1000
   .rw[if_pos h]at q;let⟨o,t,gs,j,u,v,w⟩:=st.fldNew ho h.1;refine#[q0K _,λp k=>?_];have pa:o≠p:=λz=>by subst z;rw[u]at k;cases k
    let⟨y,L,n,A⟩:=w p (.lst []) (.l []) k trivial (λG g=>#[p,[],rfl,rfl,by rw[bt (λz=>pa z.symm),cI],.nil]);exact#[_,j,o,C,t,gs,rfl,y,cl,r,by rw[v];exact h.2,s.nx _ _ _ _ n A q]
   .rw[if_neg h]at q;exact q.elim
def UO(cl:dP X.K C)(o:di X.K C f)(A:PE X (.Name x p1) (bQ i))(B:autoParam (swapsWith (.Dict [] [] p2) (!.Attribute (.Name x p1) f pos') pos.line X.env=pure false) Zq._auto_1):FS X F E (.Assign [.Attribute (.Name x p1) f pos'] (.Dict [] [] p2) pos) (oF C i f (.m true [])):=
 (uB A Ee B).imp λD Y H d=>by
  let⟨U,O,J,st,q,r⟩:=d;unfold wpS oF at q;cases ho:cF C U i with
  |none=>rw[ho]at q;exact q.elim
  |some p=>
   let⟨io,fs⟩:=p;rw[ho]at q;simp only at q
   by_cases h:fs.lookup f=none/\fs.length<1000
   .rw[if_pos h]at q;let⟨n,s,gs,j,t,u,v⟩:=st.fldNew ho h.1;intro p k;have I:n≠p:=λz=>by subst z;rw[t]at k;cases k
    let⟨w,L,l,y⟩:=v p (.dT []) (.m true []) k trivial (λG g=>#[p,rfl,rfl,[],by rw[bt (λz=>I z.symm),cI],.nil]);exact#[_,j,n,C,s,gs,rfl,w,cl,o,by rw[u];exact h.2,r.nx _ _ _ _ l y q]
   .rw[if_neg h]at q;exact q.elim
end L2.L3
namespace L2
open PySem
def Hc(a d):argsOk "min" #[[a],[("default",d)]]:=by kernel_rfl
def Hd{s:Shared}{id}(k:builtinKind id=none)(l:plainId id=true)(n:entryFor table id=!b)(m:argsOk id #[args,d])
  (i:wpAny (model prog w) A.in1 (b #[args,d]) (λfin a=>match fin with
   |.done f=>(match (Except.ok f:Result) with |.ok (.ret v)=>Q v a |.ok _=>False |.error e=>E e a)
   |.again j=>j.quiet=true/\codeAny (model prog w) A j (λr a=>match r with |.ok (.ret v)=>Q v a |.ok _=>False |.error e=>E e a) a) E s):wpAny (model prog w) A (call (.builtin id) args d) Q E s:=by
 refine wpAny_call (codeAny_call_builtin l n ?_);simp only[checkBuiltinCall,k];cases c:Manifest.signature? id with
 |none=>exact bb i
 |some g=>
  simp only[(by simpa only[argsOk,c] using m)];exact bb i
def UP(q:A.handled=none)(m:s.heap.IsList l #[])(r:∀f,(∀b o,s.heap.get? b=!o->f.get? b=!o)->Q d { s with heap:=f }) :
  wpAny (model prog w) A (call (.builtin "min") [.ref l] [("default",d)]) Q E s:=by
 refine Hd F.kind_min F.plain_min F.entry_min (Hc _ _) ?_;show wpAny _ A.in1 (Builtin.Builtins.bindParams "min" ["key","default"] 0 #[[],[("default",d)]] >>= _) _ _ s;refine aA (wpAny_of_eq (show Builtin.Builtins.bindParams "min" ["key","default"] 0 #[[],[("default",d)]]=pure [none,!d] from rfl) ?_);refine aA (bb ?_);refine aA (wpAny_pyIter_list m ?_);refine aA (wpAny_newObj_type ?_);have a:(toString "min"++toString ".loop":String)="min.loop":=by decide
 rw[a];let⟨ol,g,h,nl,j⟩:=id m;generalize n:(s.heap.push { cls:=.type "list_iterator",data:=.fields [.ref l,.int 0 0].toArray })=c;have t:c.get? s.heap.objs.size=some { cls:=.type "list_iterator",data:=.fields [.ref l,.int 0 0].toArray }:=by rw[<-n];exact Heap.get?_push_size _ rfl
 have p:∀b o,s.heap.get? b=!o->c.get? b=!o:=λb o e=>by rw[<-n];exact ca _ e
 refine bb #[plainId_quiet F.plain_min_loop _,?_];refine codeAny_builtin F.entry_min_loop ?_;rw[Around.under_plainId F.plain_min_loop _];have u:(c.push { cls:=.type "list",data:=.seq #[] }).get? c.objs.size=some { cls:=.type "list",data:=.seq #[] }:=Heap.get?_push_size _ rfl;show wpAny _ A.in1 (seqItems? (.ref c.objs.size) >>= _) _ _ _;refine aA (wpAny_seqItems u rfl ?_);show wpAny _ A.in1 (tryCatch (pyNext (.ref s.heap.objs.size)) _ >>= _) _ _ _;refine aA (wpAny_tryCatch (wpAny_pyNext_list_end (i:=0) (l:=l) (items:=#[]) q #[_,ca _ t,rfl,rfl] #[ol,ca _ (p _ _ g),h,nl,j] rfl λf k=>?_));refine aA (wpAny_rule (bb ?_));exact r f λb o e=>k b o (q0s (bS e)) (ca _ (p b o e))
end L2
namespace L2
open PySem PySem.Spec PyProof.Rows
def He(a b:Addr):It:=
 ⟨λi H=>∃c x d y,Rd H a (.tup c)/\c[i]? = !x/\H b=!.lst d/\d[i]? = !y,λi H v e=>∃T x y,v=.ref T/\H T=none/\e = aM H T (.tup [x,y])/\(∀c,Rd H a (.tup c)->c[i]? = !x)/\∀d,H b=!.lst d->d[i]? = !y,
  λi H=>∃c,Rd H a (.tup c)/\c.length=i⟩
def UQ{K}{TI TO}(D:iA z TI TO ps)(e:ps.map (·.2)=[(a,false),(b,true)]) :
  iV P w K (.Tuple elts kk tpos) (He a b) (TI::fps z TO ps) z (λi h=>ZS h z TI TO ps i .none (.bool false)) where
 mem:=by simp
 obj:=λi h st=>st.live
 keep:=λi h h' st k=>st.kept k
 item:=by
  intro X hP hw hK hc i pins s Y H E I hf st hg;subst hP hw hK;let⟨xs,x,ys,y,hq1,hx,hq2,hy⟩:=hg;let⟨hz,its,rv,p⟩:=hq1.ok I.hok;let⟨u,hu,ru⟩:=rv.get hx;let⟨hz',jts,nn,rw',p'⟩:=I.hok _ _ hq2;let⟨v,hv,rv'⟩:=rw'.get hy;have C:jb s.heap [(a,false),(b,true)] [its,jts]:=.cons p (.cons #[_,p',rfl,_,rfl] .nil);refine uJ (I.ok.hd hc) D st (.inl rfl) (.inl #[C.row e λt m=>?_,λh' q=>#[_,rfl,?_]])
  .simp only[q0c,q0z,or_false]at m;rcases m with rfl |rfl
   .exact(q0a.mp hu).1
   .exact(q0a.mp hv).1
  obtain⟨T,f,⟨_,rfl,rfl⟩ |e',st',tu,sz,kp⟩:=q
  case inr=>cases e'
  simp only[q0h,q07,List.getD,hu,hv,Option.getD_some]at tu;refine wpAny_letOwnedTupleGo_zip (s:={ s with heap:=h' }) st'.w.choose_spec.zr λhh b1 hs2=>?_;have up:Heap.ExtBut z h' hh:=hs2.extBut;have st2:=st'.fld D up b1;have lt:∀c∈TI::fps z TO ps,c<s.heap.objs.size:=λc hc=>(by let⟨_,e,_⟩:=st.live c hc;exact bS e);have I1:Inv X pins Y (aM H s.heap.objs.size (.tup [x,y])) { s with heap:=hh }:=by refine I.turnedNew (ch:=fps z TO ps) (t':=s.toks) (λc hc=>hf c (.tail _ hc)) (λc ob hc q=>up _ _ (λw=>hc (by rw[w];exact .head _)) (kp c ob hc q)) (bu _) (λc hc ob q=>(by let⟨o,e,_⟩:=st2.live c (.tail _ hc);exact#[o,e])) ?_;exact#[by show 2<=sizeLine;decide,[_,_],.cons ru (.cons rv' .nil),#[_,up _ _ (q06 (lt z 'd')) tu,rfl,_,rfl]]
  exact#[.ref s.heap.objs.size,_,I1,rfl,#[_,x,y,rfl,I.hok.fresh (bu _),rfl,λzs hy'=>by rw[Qm hy' hq1];exact hx,λzs hy'=>by rw[hq2]at hy';cases hy';exact hy],st2,λc hc=>by rw[bt (q0s (lt c hc))];exact(hf c hc).1]
 done:=by
  intro X hP hw hK hc i pins s Y H E I hf st hg;subst hP hw hK;let⟨xs,hq1,rfl⟩:=hg;let⟨hz,its,rv,p⟩:=hq1.ok I.hok;refine uJ (vs:=[]) (I.ok.hd hc) D st (.inl rfl) (.inr #[Em (show Ct s.heap (0,a,false) its from p) e rv.length.symm,λh' hk=>#[rfl,?_]]);refine I.step (g':=s.gens) (d':=s.drawn) (t':=s.toks) (ch:=fps z TO ps) (λc hc=>?_) (λc o _ _ hc e _=>hk c o hc e) (λc o _ _ hc e _=>#[o.slots,hk c o hc e]) (λ_ _ _ _ n=>n) (λc o hc e=>#[o,hk c o hc e]) (λ_ _ e=>e) (λ_ _ _ e=>e) (λc ps e=>#[#[],by rw[e];simp]) (λm hm=>?_) (λc u e=>?_) I.bare
  .let⟨f0,f1,f2,f3,f4,f5⟩:=hf c (.tail _ hc);exact#[f3,f1,f4,f5]
  .let⟨oL,es,ep,ho,r⟩:=hm;exact#[oL,es,ep,hk _ oL (λzz=>(hf _ (.tail _ zz)).2.1 rfl) ho,r]
  .have nch:∀b u,H b=!u->b∉fps z TO ps:=λb u e zz=>by rw[(hf b (.tail _ zz)).1]at e;cases e
   refine(I.hok c u e).stay (λd v hd q=>hk d v ?_ q) (λ_ q=>q) λ_ _ q=>q;rcases hd with q |q
   .rw[q];exact nch c u e
   .exact nch d _ q
 self:=λ_ _ _ _ _ st h=>wpAny_pyIter_zip st.w.choose_spec.zr h
def UR(f:TA):TI:=λY H R=>f Y H λvs c=>∃a b d e,vs=[.ref a,.ref b]/\Rd c a (.tup d)/\c b=!.lst e/\R (He a b) c
def US{elts:List Expr}{kk:Nat}{tpos:Pos}{p pos}(r:Gl X "zip")(t:X.mg "zip" = none)(x:PA X [a,b] n)(O:autoParam (starEach [a,b] X.env=[(false,eval a X.env),(false,eval b X.env)]) Zq._auto_1)(c:autoParam (qSd X b) Zq._auto_1) :
  PI X (.Tuple elts kk tpos) (.Call (.Name "zip" p) [a,b] [] pos) (UR n):=by
 intro d s Y H R I h;refine Call_ (jK I r t boot_zip (PyProof.Rows.callWith_type1 (aS (x pos d s Y H _ I h) λS f y=>?_) (by rw[O,c]) (by rw[c];rfl)));let⟨vs,A,I1,B,q1⟩:=y;let⟨l,m,T,U,rfl,E,g,q⟩:=q1;let⟨u,v,rfl,ru,i⟩:=vals2 B;cases ru;cases i;let⟨Z,j,rv,p⟩:=E.ok I1.hok;let⟨G,k,nn,J,L⟩:=I1.hok _ _ g;have C:jb f.heap [(l,false),(m,true)] [j,k]:=.cons p (.cons #[_,L,rfl,_,rfl] .nil);refine En C.mem 'd' (show 2<9 by decide) (F.typeCall_zip_2 _ _) (F.newCall_zip_2 _ _) (λobj=>F.args_object_init_3 obj _ _) λM z TI TO N D st e Q ge=>?_;exact wpAny_pyIter_zip st.w.choose_spec.zr #[z,TI::fps z TO N,_,_,A,rfl,I1.kept Q,UQ D e,st,λb o=>I1.fpOk (ge b o) (I1.hok.fresh (ge b o)),q]
end L2
namespace L2.L3
open PySem PySem.Spec PyProof.Rows
def Hf(O:List Addr)(H:Hp)(J:It)(c:List PyData):Prop:=∀e a,aR O H e a->bO H a->mI a e->
 (∀i d,c[i]? = !d->J.go i a/\∀x b,J.yld i a x b->bO a b/\DV (aB e b) x d)/\J.stop c.length a
def Wk.S(h:Wk O H J a):Hf O H J a:=λb c s _ ok=>h b c s ok
def Hg(K:Frag)(F:Fx)(s:fu):TI:=λY H R=>∃U O,aF K F H Y U O/\s U λb d=>∀J a c,aF K F a Y d c->aR O H c a->Hf c a J b->R J a
structure Ae (X:Cx) (F:Fx) (tg iter:Expr) (s:fu):Prop where
 mn:mJ s
 pi:PI X tg iter (Hg X.K F s)
theorem DI.S(h:DI X F e iter s):Ae X F e iter s:=#[h.mn,h.pi.imp λY H R d=>by let⟨U,O,st,q⟩:=d;exact#[U,O,st,h.mn _ _ _ (λf j k J g i a b c=>k J g i a b c.S) q]]
@[simp]noncomputable def Af:Option (Option af)->Option af
 |some (!.own _ b)=>some (.vw b)
 |some (!.exc _)=>none
 |some o=>o
 |none=>none
def vG(own:List Str)(a:List Nat)(U:ag):ag:=own.map (λ_=>none)++a.map λj=>Af U[j]?
mutual
@[simp]noncomputable def kK:PyData->Bool
 |.int _=>true
 |.bool _=>true
 |.none=>true
 |.str _=>true
 |.tuple ds=>oG ds
 |.list _=>false
 |.dict _=>false
@[simp]noncomputable def oG:List PyData->Bool
 |[]=>true
 |d::ds=>kK d&&oG ds
end
theorem Hh:∀a,a.all kK=oG a
 |[]=>rfl
 |d::a=>by rw[q2K,Hh a,oG]
def UT(k:∀a u,¬ Mv u->G a=!u->j a=!u):∀{vs g},aK G vs g->oG g=true->aK j vs g:=λh=>aK.rec (motive_1:=λv d _=>kK d=true->DV j v d) (λ_=>.non) (λb _=>.bl b) (λi _=>.int i) (λx _=>.str x) (λ_ _ _ f=>by cases f) (λh _ c f=>.tup (h.imp (λe=>k _ _ id e) λk1=>(by obtain⟨⟨o,e⟩,z⟩:=k1;exact#[#[o,k _ _ id e],z])) (c (by simpa[kK] using f))) (λ_=>.nil) (λ_ _ a b f=>by
  rw[oG,q0B]at f;exact .cons (a f.1) (b f.2)) h
def Ag(own:List Str)(f:List Nat)(s:fu)(g:fR)(l:dt)(m:DT):DT:=λU Q=>s U λc j=>∃e:Nat->List PyData->ag->Prop,e 0 [] (vG own f j)/\
 (∀i d a h,c[i]? = !d->e i a h->g d h λn=>l n λb k=>if b=true then m k λy o=>a.length<sizeLine/\e (i+1) (a++[y]) o else e (i+1) a k)/\
 ∀a h,e c.length a h->a.length<=sizeLine/\a.all kK=true/\Q (.list a) j
def UV(j:mJ s):Mn (Ag own caps s g tc te):=λ_ _ _ k q=>j _ _ _ (λ_ _ a=>by let⟨e,f,i,b⟩:=a;exact#[e,f,i,λc d h=>#[(b c d h).1,(b c d h).2.1,k _ _ (b c d h).2.2]]) q
def UW{K:Frag}{Z:Fx->Prop}(hP:∀k Y D f O2,aF K F k Y D f->Z #[k,[],O2,λ_=>0])(hs:mJ s)(hg:∀d U Q Q',(∀U',Q U'->Q' U')->g d U Q->g d U Q')(ht:jS tc)(he:Mn te):∀Y H Q,(∃U O,aF K F H Y U O/\Ag own caps s g tc te U λd D=>∀X,d=.list X->∀p  t  vs  f,aF K F t Y D f->aR O H f t->t p=none->aK (aB f t) vs X->Q (.ref p) (aM t p (.lst vs)))->
  my own caps (Hg K F s) (λv Y H Q=>∃B,Z B/\og K B g v Y H Q) (λY H Q=>∃B,Z B/\kE K B tc Y H Q) (λY H Q=>∃B,Z B/\iD K B te Y H Q) Y H Q:=λY H Q I=>by
 let⟨U,O,st,q⟩:=I;refine#[U,O,st,hs _ _ _ (λn D L J k f r s1 wk=>?_) q];let⟨Iv,i0,step,fin⟩:=L;let⟨W,M,N⟩:=id r;let V:List Addr:=(caps.map λj=>(W[j]?).getD []).flatten;let E:List Addr:=f.filter λa=>decide (a∉V);have sub:∀a∈E,a∈f:=λa h=>(q1E.mp h).1;have a0:E.Nodup:=by
  have:f.Nodup:=by rw[N];exact M.nd
  exact this.filter _
 have a1:∀j∈caps,∀l,W[j]? = !l->∀a∈l,a∉E:=λj hj l hl a ha z=>by have h1:=(q1E.mp z).2;simp only[decide_eq_true_eq]at h1;exact h1 (q16.mpr #[l,q0Q.mpr #[j,hj,by rw[hl];rfl],ha])
 have R:∀j∈caps,∀c,Af D[j]? = !c->∃v,Y[j]? = !!v/\uV K k E c v:=λj hj c w=>by
  cases h3:D[j]? with
  |none=>rw[h3]at w;cases w
  |some o=>
   cases o with
   |none=>rw[h3]at w;cases w
   |some c'=>
    rw[h3]at w;let⟨v,fp,C,e0,S⟩:=M.at_ j c' h3;rw[<-N]at S;have y:aR f k E k:=jq sub;cases c' with
    |dat d=>cases w;exact#[v,C,(λ_ _ z=>by cases z),fr.keep (c:=.dat d) (fp:=[]) S y (λ_ _=>rfl) λ_ _ _ e=>e]
    |scr ns=>cases w;exact#[v,C,(λ_ _ z=>by cases z),fr.keep (c:=.scr ns) (fp:=[]) S y (λ_ _=>rfl) λ_ _ _ e=>e]
    |exc _=>cases w
    |vw b=>cases w;exact#[v,C,(λ_ _ z=>by cases z),fr.keep (c:=.vw b) (fp:=[]) S y (λ_ _=>rfl) λ_ _ _ e=>e]
    |own io b=>cases w;let⟨a,ev,q2⟩:=S;refine#[v,C,(λ_ _ z=>by cases z),a,fp,ev,q2.keep (λc hc=>?_) y.hid];let⟨o,eo,_⟩:=q2.live c hc;rw[eo];exact jc eo (a1 j hj fp e0 c hc)
 refine#[rB K #[k,[],E,λ_=>0] n Iv,#[n.length,vG own caps D,E,[],Fa R a0 λa ha=>r.live a (sub a ha),i0,.nil,q0K _,rfl],?_]
 .rintro i m ys Y' t ⟨U',O',X,A,iv,dv,hi,rfl⟩;have G:bO k t:=λb o e=>by let⟨W',h',_⟩:=id A;exact h'.kept b o 'd' e
  have a2:aR f k O' t:=#[λb o _ e=>G b o e,λa h=>by
   let⟨W',h',rfl⟩:=id A;rcases q0b.mp h with h |h
   .exact(h'.new a h).elim (λz=>absurd z 'd') .inr
   .exact .inl (sub a h)]
  let⟨w1,w2⟩:=wk O' t a2 G A.live
  by_cases T:i<n.length
  .let⟨go,yld⟩:=w1 i n[i] (q0j T);refine .inr #[go,λx H2 hy=>?_];let⟨a3,dx⟩:=yld x H2 hy;exact zk (hP _ _ _ _ _ r) hg ht he step T A iv dv a3 dx
  .have e:i=n.length:=by lia
   subst e;let⟨hz,a4,q⟩:=fin X U' iv;refine .inl #[w2,by rw[dv.length];exact hz,λp hp=>?_];have a5:k p=none:=by
    cases e:k p with
    |none=>rfl
    |some o=>rw[G p o e]at hp;cases hp
   exact q X rfl p t _ f (r.grow G) (s1.trans (.same G)) hp (UT (λa u nm e=>by
         let⟨C,_⟩:=cZ e;refine jc C λz=>?_;let⟨o,eo,mo⟩:=r.live a z;rw[G a o eo]at C;cases C;exact nm mo) dv (by rw[<-Hh];exact a4))
@[simp] def rY(own:Nat)(a:List Nat)(U:ag):ag:=List.replicate own none++a.map λj=>Af U[j]?
@[simp] def Ah(own:Nat)(a:List Nat)(g:GM)(t:XM Bool)(m:XM PyData)(b:List PyData):XM PyData:=λd=>lift ((cE g t m b [] (rY own a d)).bind λc=>if c.length<=sizeLine/\c.all kK=true then some (.list c) else none) d
@[simp] def rZ(own:Nat)(a:List Nat)(s:XM (List PyData))(g:GM)(t:XM Bool)(m:XM PyData):XM PyData:=λU=>(s U).bind (Ah own a g t m)
def UX(q:wp E (rZ own.length f s g t m) U Q):Ag own f (wp E s) (fH g) (wp eP t) (wp eP m) U Q:=aH _ _ _ (λl p q1=>by
 let⟨y,A,q2⟩:=da (o:=(cE g t m l [] (rY own.length f p)).bind λn=>if n.length<=sizeLine/\n.all kK=true then some (PyData.list n) else none) (U:=p) (E:=E) (Q:=Q) q1;let⟨j,B,r⟩:=q0R.mp A;have u:(j.length<=sizeLine/\j.all kK=true)/\y=.list j:=by
  split at r
  .rename_i h;cases r;exact#[h,rfl]
  .cases r
 have C:vG own f p=rY own.length f p:=by unfold vG rY;rw[q1K]
 refine#[λi n U=>cE g t m (l.drop i) n U=!j,by rw[C];exact B,λi d n U hd a=>?_,λn U h=>?_]
 .have e:l.drop i=d::l.drop (i+1):=by let⟨v,D⟩:=q0a.mp hd;rw[<-D];exact q0E v
  simp only[e]at a;unfold cE at a;unfold fH;cases x:g d U with
  |none=>rw[x]at a;cases a
  |some G=>
   rw[x]at a;simp only at a ⊢;unfold wp;cases ht:t G with
   |ex c z=>rw[ht]at a;cases a
   |bad=>rw[ht]at a;cases a
   |ok b z=>
    rw[ht]at a;cases b with
    |false=>exact fP a
    |true=>
     refine fQ ?_;simp only at a ⊢;cases w:m z with
     |ex c H=>rw[w]at a;cases a
     |bad=>rw[w]at a;cases a
     |ok I H=>
      rw[w]at a;simp only at a ⊢;split at a
      .rename_i h;exact#[h,a]
      .cases a
 .simp only[q1x]at h;have:n=j:=by unfold cE at h;exact q0x h
  subst this;rw[u.2]at q2;exact#[u.1.1,u.1.2,q2]) (bW (k:=Ah own.length f g t m) q)
def DE.imp'(h:DE X F e t)(b:Mn t')(k:∀U Q,t' U Q->t U Q):DE X F e t':=#[b,h.pe.imp λY H Q a=>by let⟨U,O,st,q⟩:=a;exact#[U,O,st,k U _ q]]
def lP(C:Addr)(i:Nat)(f g:Str):XM (List PyData):=λU=>match cF C U i with
 |some (_,fs)=>(match fs.lookup f,fs.lookup g with
  |some (.d (.tuple ds)),!.l a=>if ds.length<=a.length then .ok (cN ds a) U else .bad
  |_,_=>.bad)
 |none=>.bad
def UY{F:Fx}{E:Str->ag->Prop}{pos:Pos}{h}{kk}{j p q1 q2}(hg:Gl X "zip")(hm:X.mg "zip" = none)(cl:dP X.K C)(na:di X.K C f)(M:di X.K C f2)(L:PE X (.Name x g) (bQ i))(N:PE X (.Name x b) (bQ i))
  (hb:autoParam (qSc X (.Name x g) f) Zq._auto_1) (Q:autoParam (qSc X (.Name x b) f2) Zq._auto_1)
  (hs:autoParam (starEach [.Attribute (.Name x g) f q1,.Attribute (.Name x b) f2 q2] X.env=[(false,eval (.Attribute (.Name x g) f q1) X.env),(false,eval (.Attribute (.Name x b) f2 q2) X.env)]) Zq._auto_1)
  (k:autoParam (qSd X (.Attribute (.Name x b) f2 q2)) Zq._auto_1) :
  Ae X F (.Tuple h kk j) (.Call (.Name "zip" p) [.Attribute (.Name x g) f q1,.Attribute (.Name x b) f2 q2] [] pos) (wp E (lP C i f f2)):=
 #[aH,(US hg hm (dQ (jN L hb) (dQ (jN N Q) eK k) hs) hs k).imp λY H R n=>by
  let⟨U,O,st,q⟩:=n;unfold wp lP at q;cases ho:cF C U i with
  |none=>rw[ho]at q;exact q.elim
  |some p=>
   let⟨io,fs⟩:=p;rw[ho]at q;simp only at q;cases a:fs.lookup f with
   |none=>rw[a]at q;exact q.elim
   |some S=>
    cases c:fs.lookup f2 with
    |none=>rw[a,c]at q;cases S<;>simp only at q<;>exact q.elim
    |some y2=>
     rw[a,c]at q;obtain⟨a0,fp,o,⟨dx,gs,fps,e1,D,e3,G⟩,_,_⟩:=st.box (lO ho);cases S with
     |l _=>exact q.elim
     |m _ _=>exact q.elim
     |d I=>
      cases y2 with
      |d _=>cases I<;>exact q.elim
      |m _ _=>cases I<;>exact q.elim
      |l es=>
       cases I with
       |tuple ds=>
        simp only at q
        by_cases r:ds.length<=es.length
        case neg=>rw[if_neg r]at q;exact q.elim
        rw[if_pos r]at q;rcases jA G f with⟨_,t⟩ |⟨v1,S,a4,l1,t,l3,_⟩
        .rw[a]at t;cases t
        rw[a]at t;cases t;rcases jA G f2 with⟨_,u⟩ |⟨v2,y2,a5,m1,u,m3,_⟩
        .rw[c]at u;cases u
        rw[c]at u;cases u;let⟨a1,J,rfl,hx,hd⟩:=l3.2.tup_inv;let⟨b1,Z,rfl,_,hy,he⟩:=m3;let⟨A,a6⟩:=iB hx;refine#[_,o,a0,C,dx,gs,_,rfl,D,cl,na,l1,_,o,a0,C,dx,gs,_,rfl,D,cl,M,m1,a1,b1,J,Z,rfl,A,hy,q _ H O st .refl λO' H' s sm ok=>?_];have h2:=Ql sm A;have h3:=sm _ _ hy;have a2:=aK.mono s.hid hd;have a3:=aK.mono s.hid he;refine#[λi d e=>?_,#[J,h2,?_]]
        .unfold cN at e;rw[q0q]at e;obtain⟨⟨d0,I⟩,e1,D⟩:=q0i.mp e;subst D;let⟨e3,G⟩:=q1n.mp e1;let⟨v,L,dv⟩:=a2.get e3;let⟨w,hw,dw⟩:=a3.get G;refine#[#[J,v,Z,w,h2,L,h3,hw],λx a7 B=>?_];let⟨T,y,z,q1,q2,q3,q4,q5⟩:=B;subst q1 q3;have:=q4 J h2;rw[L]at this;cases this;have:=q5 Z h3;rw[hw]at this;cases this;exact#[cp q2,kD q2 (ok.nofree T q2) (.cons dv (.cons dw .nil))]
        .unfold cN;rw[q0d,q2E,hd.length];lia
       |_=>exact q.elim]
def aF.view{K}(st:aF K F H Y U O){i:Nat}(e:U[i]? = !!.vw b):∃a fp,Y[i]? = !!.ref a/\gO (aB O H) (aB O H) a b fp:=by let⟨W,h,rfl⟩:=st;let⟨v,fp,d,g,a,c,rfl,f⟩:=h.at_ i _ e;exact#[a,c,d,f]
def qe(C:Addr)(U:ag)(i:Nat):Option (List (Str×Fl)):=match U[i]? with
 |some (!.vw (.o a fs))=>if a = C then some fs else none
 |_=>none
def kL(C:Addr)(i:Nat)(f:Str):XM PyData:=λU=>match qe C U i with
 |some fs=>(match fs.lookup f with
  |some (.d d)=>.ok d U
  |_=>.bad)
 |none=>.bad
def Hi(cl:dP X.K C)(h:di X.K C f)(t:PE X (.Name x a) (bQ i))(u:autoParam (qSc X (.Name x a) f) Zq._auto_1):FE X F E (.Attribute (.Name x a) f pos) (kL C i f):=
 #[aH,(jN t u).imp λY H Q b=>by
  let⟨U,O,st,q⟩:=b;unfold wp kL at q;cases ho:qe C U i with
  |none=>rw[ho]at q;exact q.elim
  |some fs=>
   rw[ho]at q;simp only at q;obtain⟨j,fp,c,⟨k,gs,fps,w,n,z,o⟩⟩:=st.view (by
      unfold qe at ho;split at ho
      .rename_i e;split at ho
       .rename_i a;cases ho;rw[e,a]
       .cases ho
      .cases ho);rcases jA o f with⟨g,e⟩ |⟨v,y,p,g,e,r,_⟩
   .rw[e]at q;exact q.elim
   .rw[e]at q;cases y with
    |d d=>exact#[_,c,j,C,k,gs,v,rfl,(cZ n).1,cl,h,g,q v H O st (.refl ..) r.2]
    |l ds=>exact q.elim
    |m A s=>exact q.elim]
def Va{P:List PyData->ag->Prop}(q:wp E s U λf l=>∃j,cE g t m f [] (lL own.length k l)=!j/\j.length<=sizeLine/\P j l) :
  wp E s U λf l=>∃n:Nat->List PyData->ag->Prop,n 0 [] (gE own k l)/\
   (∀i d j u,f[i]? = !d->n i j u->fH g d u λv=>wp eP t v λb o=>if b=true then wp eP m o λy w=>j.length<sizeLine/\n (i+1) (j++[y]) w else n (i+1) j o)/\
   ∀j u,n f.length j u->j.length<=sizeLine/\P j l:=aH _ _ _ (λf l p=>by
 let⟨r,B,C,D⟩:=p;have G:gE own k l=lL own.length k l:=by unfold gE lL;rw[q1K]
 refine#[λi j U=>cE g t m (f.drop i) j U=!r,by rw[G];exact B,λi d j U hd a=>?_,λj U h=>?_]
 .have e:f.drop i=d::f.drop (i+1):=by let⟨x,H⟩:=q0a.mp hd;rw[<-H];exact q0E x
  simp only[e]at a;unfold cE at a;unfold fH;cases A:g d U with
  |none=>rw[A]at a;cases a
  |some v=>
   rw[A]at a;simp only at a ⊢;unfold wp;cases ht:t v with
   |ex c o=>rw[ht]at a;cases a
   |bad=>rw[ht]at a;cases a
   |ok b o=>
    rw[ht]at a;cases b with
    |false=>exact fP a
    |true=>
     refine fQ ?_;simp only at a ⊢;cases z:m o with
     |ex c w=>rw[z]at a;cases a
     |bad=>rw[z]at a;cases a
     |ok I w=>
      rw[z]at a;simp only at a ⊢;split at a
      .rename_i h;exact#[h,a]
      .cases a
 .simp only[q1x]at h;have:j=r:=by unfold cE at h;exact q0x h
  subst this;exact#[C,D]) q
def vH(C:Addr)(i:Nat)(f:Str)(own:Nat)(a:List Nat)(g:GM)(t:XM Bool)(m:XM PyData)(b:List PyData):SM:=λU=>match cE g t m b [] (lL own a U),cF C U i with
 |some c,!(io,fs)=>if c.length<=sizeLine/\fs.lookup f=none/\fs.length<1000 then .nx (U.set i (!.own io (.o C (bi f (.l c) fs)))) else .bad
 |_,_=>.bad
def Ai(C:Addr)(i:Nat)(f:Str)(own:Nat)(a:List Nat)(s:XM (List PyData))(g:GM)(t:XM Bool)(m:XM PyData):SM:=λU=>ef (s U) (vH C i f own a g t m)
def Vb{w}(cl:dP X.K C)(na:di X.K C f)(hv:PE X (.Name x p1) (bQ i))(hG:GF X.mg F)(S:al X a own capN caps)(hc:X.calm=true)(hn:own.length=n)(hi:FI X F E L iter s)
  (j:∀C fp y A J b,GF X.mg b->FG (cy X a (own++capN) C fp y A J) b L g/\mQ (cy X a (own++capN) C fp y A J) b eP h t/\FE (cy X a (own++capN) C fp y A J) b eP e m)
  (a1:autoParam (swapsWith (.ListComp e [#[L,iter,h,0]] a pos) (!.Attribute (.Name x p1) f o) w.line X.env=pure false) Zq._auto_1)
  (hs:autoParam (∀x,foldedSetIterable iter X.env x=pure x) Zs._auto_1):FS X F E (.Assign [.Attribute (.Name x p1) f o] (.ListComp e [#[L,iter,h,0]] a pos) w) (Ai C i f n caps s g t m):=by
 subst hn;let⟨hg,ht,he⟩:=j 0 [] (PySem.start X.prog).1 (λ_=>none) [] F hG;have pe:PE X (.ListComp e [#[L,iter,h,0]] a pos) (my own caps (ry X.K F (wp E s)) (λv Y H Q=>∃b,GF X.mg b/\og X.K b (fH g) v Y H Q) (λY H Q=>∃b,GF X.mg b/\kE X.K b (wp eP t) Y H Q) (λY H Q=>∃b,GF X.mg b/\iD X.K b (wp eP m) Y H Q)):=uI S hc hi.pi (λC fp y A J=>#[λc s Y H v u Q I r M=>by let⟨b,N,q⟩:=M;exact(j C fp y A J b N).1.pg c s Y H v u Q I r q,λc s Y H Q I R=>by let⟨b,N,q⟩:=R;exact(j C fp y A J b N).2.1.2 c s Y H Q I q,λc s Y H Q I T=>by let⟨b,N,q⟩:=T;exact(j C fp y A J b N).2.2.pe c s Y H Q I q]) hs;refine(uB hv pe a1).imp λD Y H Z=>?_;let⟨U,O,DD,st,q,fD⟩:=Z;refine Fb (λ_ _ _ _ _ st=>hG.into st) hi.mn hg.mn ht.1 he.mn Y H _ #[U,O,st,Va (aH _ _ _ (λa2 U1 q1=>?_) (fJ (m:=s) (k:=vH C i f own.length caps g t m) q))];unfold wpS vH at q1;cases B:cE g t m a2 [] (lL own.length caps U1) with
 |none=>rw[B]at q1;exact q1.elim
 |some ys=>
  cases ho:cF C U1 i with
  |none=>rw[B,ho]at q1;exact q1.elim
  |some p=>
   let⟨io,fs⟩:=p;rw[B,ho]at q1;simp only at q1
   by_cases d:ys.length<=sizeLine/\fs.lookup f=none/\fs.length<1000
   .rw[if_pos d]at q1;refine#[ys,rfl,d.1,λH' O' vs p a3 s' dv hp=>?_];let⟨a0,dx,gs,a4,e2,hl,nw⟩:=a3.fldNew ho d.2.1;have pa:a0≠p:=λz=>by subst z;rw[e2]at hp;cases hp
    let⟨h1,O3,a5,s3⟩:=nw p (.lst vs) (.l ys) hp trivial (λG gg=>#[p,vs,rfl,rfl,by rw[bt (λz=>pa z.symm),cI],aK.mono gg dv]);exact#[_,a4,a0,C,dx,gs,rfl,h1,cl,na,by rw[hl];exact d.2.2,fD.nx _ _ _ _ a5 (s'.trans s3) q1]
   .rw[if_neg d]at q1;exact q1.elim
end L2.L3
namespace L2
open PySem PyProof.Rows
def Aj(h:Heap)(a:List Value)(rows:List (List Int)):Prop:=a.length=rows.length/\∀(i:Nat) (v:Value),a[i]? = !v->∃(T:Addr) (items:Array Value) (r:List Int),v=.ref T/\IsTup h T items/\rows[i]? = !r/\IntsAre items.toList r
abbrev jB(rows:List (List Int)):Nat->Nat->Bool:=λi j=>HT.lexLt (rows.getD i []) (rows.getD j [])
section
variable{prog:Program}{w:World}{A:Around}{R:Result->Shared->Prop}{E:Value->Shared->Prop}{s:Shared}{h0:Heap}{I l S:Addr}{its:Array Value}{rows:List (List Int)}{d:Value}
def Vc(g:A.units<cLine)(c:Aj h0 its.toList rows)(f:∀b o,h0.get? b=!o->s.heap.get? b=!o)(h:its[i]? = !u)(k:its[j]? = !v)(q:Q (.bool (jB rows i j)) s):wpAny (model prog w) A (richCompare .Lt u v) Q E s:=by
 let⟨T,m,r,rfl,n,p,t⟩:=c.2 i u (by simpa using h);let⟨a,y,z,rfl,B,C,D⟩:=c.2 j v (by simpa using k);have G:rows.getD i []=r:=by simp_all
 have H:rows.getD j []=z:=by simp_all
 unfold jB at q;rw[G,H]at q;have J:IsTup s.heap T m:=(by let⟨o,e,x⟩:=n;exact#[o,f _ _ e,x]);have L:IsTup s.heap a y:=(by let⟨o,e,x⟩:=B;exact#[o,f _ _ e,x]);exact(HT.lt_tupInts J L t D g q)
def Vd(T:A.handled=none)(U:A.in1.units<cLine)(ht:Aj h0 its.toList rows)(L:h0.IsList l its)(hI:h0.objs.size<=I)(X:h0.objs.size<=S)(q:I≠S) :
  ∀k j  s  n  c,its.size - (j+1)=k->j+1<=its.size->(∀b o,h0.get? b=!o->s.heap.get? b=!o)->s.heap.IsListIter I l (j+1)->its[argBest (jB rows) j]? = !n->
  s.heap.get? S=some { cls:=.type "list",dict:=none,data:=.seq [n,n].toArray c,slots:=#[] }->
  (∀v u y,its[argBest (jB rows) (its.size - 1)]? = !v->(∀b o,h0.get? b=!o->u.get? b=!o)->R (.ok (.ret v)) { s with heap:=u,toks:=y })->
  codeAny (model prog w) A (.builtin "min.loop" #[[.ref I,.none,.ref S],[("default",d)]]) R s:=by
 have a:(toString "min"++toString ".loop":String)="min.loop":=by decide
 have M:∀{b:Addr}{o:Obj},h0.get? b=!o->b≠I:=λe z=>by subst z;exact absurd (bS e) (q1T.mpr hI)
 have N:∀{b:Addr}{o:Obj},h0.get? b=!o->S≠b:=λe z=>by subst z;exact absurd (bS e) (q1T.mpr X)
 intro k
 induction k with
 |zero=>
  intro j s n c Y Z C hit G f D;have H:j+1=its.size:=by lia
  refine codeAny_builtin F.entry_min_loop ?_;rw[Around.under_plainId F.plain_min_loop _];show wpAny _ A.in1 (seqItems? (.ref S) >>= _) _ _ s;refine aA (wpAny_seqItems f rfl ?_);show wpAny _ A.in1 (tryCatch (pyNext (.ref I)) _ >>= _) _ _ s;refine aA (wpAny_tryCatch (wpAny_pyNext_list_end T hit (L.at λo e=>C _ _ e) (by simp;lia) λO g=>?_));have h:=g S _ (Ne.symm q) f;show wpAny _ A.in1 (updateSeq S (λ_=>#[]) >>= _) _ _ _;refine aA (wpAny_updateSeq h rfl (aA (wpAny_letGo (bb ?_))));refine D n _ _ (by rw[<-H];exact G) λb o e=>?_;exact(Heap.get?_update_other _ _ (N e)).trans (g _ _ (M e) (C _ _ e))
 |succ k Q=>
  intro j s n c Y Z C hit G f D;have m:j+1<its.size:=by lia
  refine codeAny_builtin F.entry_min_loop ?_;rw[Around.under_plainId F.plain_min_loop _];show wpAny _ A.in1 (seqItems? (.ref S) >>= _) _ _ s;refine aA (wpAny_seqItems f rfl ?_);show wpAny _ A.in1 (tryCatch (pyNext (.ref I)) _ >>= _) _ _ s;refine aA (wpAny_tryCatch (wpAny_pyNext_list_item hit (L.at λo e=>C _ _ e) (x:=its[j+1]) (by simp[m]) λO p g=>?_));have h:=g.extBut S _ (Ne.symm q) f;have r:∀b o,h0.get? b=!o->O.get? b=!o:=λb o e=>g.extBut _ _ (M e) (C _ _ e);show wpAny _ A.in1 (tryCatch (holding [its[j+1],its[j+1]] (richCompare .Lt its[j+1] n >>= _)) _ >>= _) _ _ _;refine aA (wpAny_tryCatch (wpAny_holding (aA (Vc (i:=j+1) (j:=argBest (jB rows) j) U ht r (by simp[m]) G ?_))));refine aA (wpAny_holding (wpAny_truthy_bool ?_));refine aA (wpAny_letGo (bb ?_));cases B:jB rows (j+1) (argBest (jB rows) j) with
  |true=>simp only[if_true];refine aA (wpAny_updateSeq h rfl (aA (wpAny_letGo ?_)));rw[a];refine bb #[plainId_quiet F.plain_min_loop _,Q (j+1) _ its[j+1] _ 'a' m (λb o e=>(Heap.get?_update_other _ _ (N e)).trans (r _ _ e)) (p.at λo e=>(Heap.get?_update_other _ _ (Ne.symm q)).trans e) (by simp only[argBest,B,if_true];simp[m]) (Heap.get?_update_self _ h rfl) λv u y J t=>D v u y J t]
  |false=>simp only[q08,if_false];refine aA (wpAny_letGo ?_);rw[a];exact bb #[plainId_quiet F.plain_min_loop _,Q (j+1) _ n c 'a' m r p (by simp only[argBest,B,q08,if_false];exact G) h λv u y J t=>D v u y J t]
def Ve(u:A.handled=none)(y:A.in1.units<cLine)(k:s.heap.IsList l its)(J:Aj s.heap its.toList rows)(m:0<its.size)(B:∀v j n,its[argBest (jB rows) (its.size - 1)]? = !v->(∀b o,s.heap.get? b=!o->j.get? b=!o)->Q v { s with heap:=j,toks:=n }) :
  wpAny (model prog w) A (call (.builtin "min") [.ref l] [("default",d)]) Q E s:=by
 refine Hd F.kind_min F.plain_min F.entry_min (Hc _ _) ?_;show wpAny _ A.in1 (Builtin.Builtins.bindParams "min" ["key","default"] 0 #[[],[("default",d)]] >>= _) _ _ s;refine aA (wpAny_of_eq (show Builtin.Builtins.bindParams "min" ["key","default"] 0 #[[],[("default",d)]]=pure [none,!d] from rfl) ?_);refine aA (bb ?_);refine aA (wpAny_pyIter_list k ?_);refine aA (wpAny_newObj_type ?_);have a:(toString "min"++toString ".loop":String)="min.loop":=by decide
 rw[a];generalize p:(s.heap.push { cls:=.type "list_iterator",data:=.fields [.ref l,.int 0 0].toArray })=c;have C:c.get? s.heap.objs.size=some { cls:=.type "list_iterator",data:=.fields [.ref l,.int 0 0].toArray }:=by rw[<-p];exact Heap.get?_push_size _ rfl
 have D:∀b o,s.heap.get? b=!o->c.get? b=!o:=λb o e=>by rw[<-p];exact ca _ e
 have q:c.objs.size=s.heap.objs.size+1:=by rw[<-p,Heap.size_push]
 refine bb #[plainId_quiet F.plain_min_loop _,?_];refine codeAny_builtin F.entry_min_loop ?_;rw[Around.under_plainId F.plain_min_loop _];have r:(c.push { cls:=.type "list",data:=.seq #[] }).get? c.objs.size=some { cls:=.type "list",data:=.seq #[] }:=Heap.get?_push_size _ rfl;have t:∀b o,s.heap.get? b=!o->(c.push { cls:=.type "list",data:=.seq #[] }).get? b=!o:=λb o e=>ca _ (D b o e);show wpAny _ A.in1 (seqItems? (.ref c.objs.size) >>= _) _ _ _;refine aA (wpAny_seqItems r rfl ?_);show wpAny _ A.in1 (tryCatch (pyNext (.ref s.heap.objs.size)) _ >>= _) _ _ _;refine aA (wpAny_tryCatch (wpAny_pyNext_list_item (i:=0) (l:=l) (items:=its) (x:=its[0]) #[_,ca _ C,rfl,rfl] (k.at λo e=>t _ _ e) (by simp[m]) λG f g=>?_));have ne:s.heap.objs.size≠c.objs.size:=by rw[q];exact q0s (q00 _)
 have h:=g.extBut _ _ (Ne.symm ne) r;have H:∀b o,s.heap.get? b=!o->G.get? b=!o:=λb o e=>g.extBut _ _ (q0s (bS e)) (t _ _ e);show wpAny _ A.in1 (updateSeq c.objs.size (λ_=>[its[0],its[0]].toArray) >>= _) _ _ _;refine aA (wpAny_updateSeq h rfl ?_);rw[a];refine bb #[plainId_quiet F.plain_min_loop _,Vd (h0:=s.heap) (its:=its) (rows:=rows) u y J k (bu _) (by rw[q];exact q1Q _) ne _ 0 _ its[0] _ rfl m (λb o e=>(Heap.get?_update_other _ _ (λz=>by subst z;exact absurd (bS e) (by rw[q];exact q1T.mpr (q1Q _)))).trans (H _ _ e)) (f.at λo e=>(Heap.get?_update_other _ _ (Ne.symm ne)).trans e) (by simp[argBest,m]) (Heap.get?_update_self _ h rfl) λv j n L M=>B v j n L M]
end
end L2
namespace L2.L3
open PySem PySem.Spec PyProof.Rows
noncomputable def kh:List PyData->Option (List Int)
 |[]=>some []
 |.int i::r=>(kh r).map (i::·)
 |_=>none
def kM:List PyData->Option (List (List Int))
 |[]=>some []
 |.tuple ds::r=>(match kh ds,kM r with |some x,!y=>!x::y |_,_=>none)
 |_=>none
theorem Ak:∀{b a},kh b=!a->b=a.map PyData.int
 |[],a,h=>by cases h;rfl
 |.int i::r,a,h=>by let⟨m,c,d⟩:=q0i.mp h;subst d;rw[Ak c];rfl
 |.none::_,_,h=>by cases h
 |.bool _::_,_,h=>by cases h
 |.str _::_,_,h=>by cases h
 |.list _::_,_,h=>by cases h
 |.tuple _::_,_,h=>by cases h
 |.dict _::_,_,h=>by cases h
theorem Al:∀{d a},kM d=!a->d=a.map λr=>PyData.tuple (r.map PyData.int)
 |[],a,h=>by cases h;rfl
 |.tuple l::r,a,h=>by
  unfold kM at h;cases b:kh l with
  |none=>simp_all
  |some x=>
   cases c:kM r with
   |none=>simp_all
   |some y=>rw[b,c]at h;cases h;rw[Al c,Ak b];rfl
 |.none::_,_,h=>by cases h
 |.bool _::_,_,h=>by cases h
 |.str _::_,_,h=>by cases h
 |.list _::_,_,h=>by cases h
 |.int _::_,_,h=>by cases h
 |.dict _::_,_,h=>by cases h
def Am:∀{vs}{a:List Int},aK H vs (a.map PyData.int)->vs=a.map V.int:=λ{vs a}=>by
 induction a generalizing vs with
 |nil=>intro w;cases w;rfl
 |cons n a i=>intro w;cases w with |cons h t=>rw[h.int_inv,i t];rfl
def ints_are:∀{a b},bv (a.map V.int) b->IntsAre b a:=λ{a b}=>by
 induction a generalizing b with
 |nil=>intro w;cases w;exact .nil
 |cons n a i=>intro w;cases w with |cons r t=>let⟨c,rfl⟩:=r;exact .cons n c (i t)
def gp:List (List Int)->List Int->List Int
 |[],b=>b
 |r::a,b=>gp a (if HT.lexLt r b=true then r else b)
theorem Hj(rows:List (List Int)):∀k j,j+1+k=rows.length->gp (rows.drop (j+1)) (rows.getD (argBest (jB rows) j) [])=rows.getD (argBest (jB rows) (rows.length - 1)) []
 |0,j,h=>by rw[(q1l 'a'),gp,show rows.length - 1=j by lia]
 |k+1,j,h=>by
  have a:j+1<rows.length:=by lia
  rw[q0E a,gp,<-Hj rows k (j+1) 'a']
  congr 1
  have b:rows.getD (j+1) []=rows[j+1]:=by simp_all
  simp only[argBest];unfold jB;rw[b];split
  .exact b.symm
  .rfl
def An{A:Around}(a:A.units+1<cLine):A.in1.units<cLine:=by
 simp_all
def mW(i:Nat):XM PyData:=λU=>match lN U i with
 |some (_,ds)=>(match kM ds with
  |some []=>.ok .none U
  |some (r::a)=>.ok (.tuple ((gp a r).map PyData.int)) U
  |none=>.bad)
 |none=>.bad
def Vf{F:Fx}{E:Str->ag->Prop}{pos:Pos}{p:Pos}{kp:Pos}{kpos:Pos}{S}(hu:X.A.units+1<cLine)(hc:X.calm=true)(hg:Gl X "min")(C:X.mg "min" = none)(hv:PE X (.Name x p1) (bQ i))
  (a0:autoParam (qSa X (.Name x p1) []) Zq._auto_1)
  (he:autoParam (backTo pos (starEach [.Name x p1] X.env)=(false,eval (.Name x p1) X.env)::backTo pos (starEach [] X.env)) Zq._auto_1)
  (f:autoParam (qSb X pos [.Name x p1]) Zq._auto_1)
  (D:autoParam ((backToKw pos (keywordEach [#[!"default",.Constant .none S kp,kpos]] X.env)).all (·.1.isSome)=true) Zq._auto_1)
  (a1:autoParam ((backToKw pos (keywordEach [#[!"default",.Constant .none S kp,kpos]] X.env)).any (·.1.isNone)=false) Zq._auto_1)
  (hn:autoParam ((backToKw pos (keywordEach [#[!"default",.Constant .none S kp,kpos]] X.env)).filterMap (·.1)=[("default":Str)]) Zq._auto_1) :
  FE X F E (.Call (.Name "min" p) [.Name x p1] [#[!"default",.Constant .none S kp,kpos]] pos) (mW i):=by
 refine#[aH,λh s Y H Q I G=>?_];let⟨U,O,st,q⟩:=G;unfold wp mW at q;cases ho:lN U i with
 |none=>rw[ho]at q;exact q.elim
 |some pr=>
  let⟨io,ds⟩:=pr;rw[ho]at q;simp only at q;cases hr:kM ds with
  |none=>rw[hr]at q;exact q.elim
  |some rows=>
   rw[hr]at q;obtain⟨a,fp,a2,⟨_,xs,hH,hd⟩,_,_⟩:=st.box (zR ho);refine wpAny_Call_Name_kw (jK I hg C PyProof.Rows.boot_min ?_ 'f' 'f');refine PyProof.Rows.callWith_kw ?_ he f D a1;refine aS ((dQ hv eK a0) pos h s Y H (λvs Z=>vs=[.ref a]/\Z=H) I #[_,a2,rfl,rfl]) λus s1 J=>?_;let⟨vs,Z,I1,r1,t,y⟩:=J;subst t y;let⟨u,rfl,ru⟩:=vals1 r1;cases ru;refine aS ((OC (nm:=!"default") (kpos:=kpos) ur OB) pos h s1 Y Z (λvs m=>vs=[.non]/\m=Z) I1 #[rfl,rfl]) λus s2 M=>?_;let⟨vs,m,z,r2,t,y⟩:=M;subst t y;let⟨u,rfl,ru⟩:=vals1 r2;cases ru;rw[hn];let⟨z1,g,n1,rv,g1⟩:=z.hok _ _ hH;have n:=Al hr;have L:s2.heap.IsList a g.toArray:=#[_,g1,rfl,_,rfl]
   cases rows with
   |nil=>subst n;cases hd;cases rv;simp only at q;refine UP (l:=a) (d:=.none) (z.ok.hd hc) L λh' j=>?_;exact#[.non,m,z.kept (t':=s2.toks) j,rfl,q _ m O st .refl .non]
   |cons r e=>
    simp only at q;have c:g.length=(r::e).length:=by rw[<-rv.length,hd.length,n,q0d]
    have item:∀(k:Nat) (v:Value),g[k]? = !v->∃(T:Addr) (o:List Int) (b:List Value) (B:V),v=.ref T/\IsTup s2.heap T b.toArray/\(r::e)[k]? = !o/\IntsAre b o/\bj B v/\DV (aB O m) B (.tuple (o.map PyData.int)):=λk v j=>by
     have N:k<(r::e).length:=by rw[<-c];exact(q0a.mp j).1
     have a3:ds[k]? = !.tuple (((r::e)[k]).map PyData.int):=by rw[n,q0q,q0j N];rfl
     let⟨B,a4,R⟩:=hd.get a3;let⟨w,hw,a5⟩:=rv.get a4;rw[j]at hw;cases hw;let⟨T,ys,rfl,hT,hy⟩:=R.tup_inv;let⟨_,b,rj,pj⟩:=(iB hT).1.ok z.hok;rw[Am hy]at rj;cases a5;exact#[T,_,b,.ref T,rfl,pj,q0j N,ints_are rj,rfl,R]
    refine Ve (l:=a) (its:=g.toArray) (rows:=r::e) (d:=.none) (z.ok.hd hc) (An hu) L #[c,λk v j=>by
     let⟨T,o,b,B,t,y,e3,e4,_,_⟩:=item k v j;exact#[T,b.toArray,o,t,y,e3,e4]] (by simp only[q0y];rw[c];simp) λv h' tk hv j=>?_
    simp only[q0y,List.getElem?_toArray]at hv;let⟨T,o,b,B,t,y,e3,e4,e5,e6⟩:=item _ v hv;have C:=Hj (r::e) e.length 0 (by simp;lia);have a6:(r::e).getD (argBest (jB (r::e)) 0) []=r:=by simp[argBest]
    rw[a6]at C;change gp e r=_ at C;rw[c]at e3;have:o=gp e r:=by rw[C,q2e,e3];rfl
    subst this;exact#[B,m,z.kept (t':=tk) j,e5,q _ m O st .refl e6]
structure MD (K:Frag) (C:Addr) (m qual:Str) (st:Stmt) (ps:List Str) (g:Addr) (fd:FuncData):Prop where
 fn:nW K m qual st g fd
 mt:jM K C m g
 b:iW K fd ps []
def bJ{N P}{a}(b:autoParam (a.kind=.function) Zq._auto_1)(c:autoParam (a.isCoroutine=false) Zq._auto_1)(d:autoParam (a.isGenerator=false) Zq._auto_1)(e:autoParam (N.Nodup) Zqd._auto_1)(f:autoParam (N.take P.length=P) Zq._auto_1)(g:autoParam (∀x∈P,a.names.lookup x=!.local\/a.names.lookup x=!.cell) Zqd._auto_1)(h:autoParam (∀y∈a.names,y.2≠.free) Zqd._auto_1):cb N P a:=#[b,c,d,e,f,g,h]
def fv{X:Cx}{F:Fx}{E:Str->ag->Prop}{pos:Pos}(i)(b:autoParam (X.N[i]? = !x) Zq._auto_1)(c:autoParam (uq X.env.scope x) Zqe._auto_1)(hd:autoParam ((x==("__debug__":Str))=false) Zr._auto_1)(a:autoParam ((x==("__classdict__":Str))=false) Zr._auto_1):FE X F E (.Name x pos) (xV i):=Ti (Et i (pv i b c hd a))
def Vg{X:Cx}{F:Fx}{pos:Pos}(i)(a:X.N.Nodup)(b:autoParam (X.N[i]? = !x) Zq._auto_1)(d:autoParam (Loc X.env.scope x) Zqf._auto_1)(c:autoParam (X.fn x=true\/X.env.scope.names.lookup x=!.local) Zqa._auto_1):FG X F (.Name x pos) (aw i):=TC (#[λ_ _ _ _ k q=>k _ q,((Nx a b d c)).imp λv Y H Q a=>by let⟨U,O,d,st,hd,q⟩:=a;exact q _ H O (st.set hd) .refl])
def qf{pos:Pos}{p:Pos}{st:Stmt}(r:eL X F E)(G:cR X.prog X.w X.K X.mg X.base (du X.prog X.w) k g fd ps (ff X.K X.mg f))(D:FD X.K X.mg x st ps g fd)(d:bH j X.A)(h:FX X F E (e::es) mX)(l:autoParam (k<=j) Zr._auto_1)(n:autoParam (Gl X x) Zq._auto_1)(a:autoParam ((x==("__debug__":Str))=false) Zr._auto_1)
  (o:autoParam (qSa X e es) Zq._auto_1) (c:autoParam (qSb X pos es) Zq._auto_1):FO X F E (.Call (.Name x p) (e::es) [] pos) (aI f mX):=Gf (RW r G (d.mono l) n D.mgf D.fn.kp D.b h a o c)
def vI{pos:Pos}{apos:Pos}{st:Stmt}{o}(r:eL X F E)(cl:dP X.K C)(G:cR X.prog X.w X.K X.mg X.base (du X.prog X.w) k g fd ps (ff X.K X.mg f))(D:MD X.K C m q st ps g fd)(h:bH j X.A)(s:PE X (.Name x p1) (bQ i))(l:FX X F E (e::es) mX)(n:autoParam (k<=j) Zr._auto_1)
  (a:autoParam (qSa X e es) Zq._auto_1) (c:autoParam (qSb X pos es) Zq._auto_1)
  (t:autoParam (eval (.Call (.Attribute (.Name x p1) m apos) (e::es) [] pos) X.env=(do
   let d <-eval (.Name x p1) X.env
   standAt apos.atName
   let(f,first) <-holding [d] (getMethod d m o)
   callWith pos f first (backTo pos (starEach (e::es) X.env)) (backToKw pos (keywordEach [] X.env)))) Zq._auto_1) :
  FO X F E (.Call (.Attribute (.Name x p1) m apos) (e::es) [] pos) (cO C i m f mX):=Ha r cl D.mt G (h.mono n) D.b s l a c t
end L2.L3
namespace HT
open PySem PyProof.Rows
def getItem_tuple_whole{lo }(a:IsTup s.heap t items)(j:s.heap.IsSliceOf f g i .none)(o:IsPart g lo)(k:IsPart i b)
  (l:sIx items.size 0 lo=0) (m:sIx items.size items.size b=items.size) (h:Q (.ref t) s):wpAny (model prog w) A (getItem (.ref t) (.ref f)) Q E s:=by
 let⟨os,c,d,n⟩:=id j;have e:s.TypeIs (.ref f) "slice":=#[os,c,d]
 unfold getItem
 try with_reducible refine wpAny_holding ?_
 first |refine aA (bb ?_) |skip
 refine aA (wpAny_sequenceKey a.typeIs 'f' ?_);refine aA (wpAny_callSpecial?_slot (name:=Str.ofString "__getitem__") a.typeIs PyProof.Rows.slot_tuple_getitem (wpAny_call_entry PyProof.Rows.slot_tuple_getitem a.typeIs entry_tuple_getitem ?_ (args_tuple_getitem _ _)));show wpAny _ _ (Builtin.Tuple.tupleItemsOf (.ref t) >>= _) _ _ s;refine aA (tupleItemsOf_ a ?_);refine aA (wpAny_typeOf e ?_);rw[if_pos 'f'];refine aA (Dv j o k ?_);show wpAny _ _ (if (((sIx items.size 0 lo:Nat):Int)==0&&(1:Int)==1&&(sIx items.size items.size b - sIx items.size 0 lo)==items.size)=true then _ else _) _ _ s;rw[if_pos (by rw[l,m];simp)];unfold Builtin.Tuple.tupleIsExact
 first
  |exact aA (aA (wpAny_typeOf a.typeIs (bb (by
    show wpAny _ _ (if ((Value.type "tuple"==Value.type "tuple"):Bool)=true then _ else _) _ _ s;rw[if_pos 'f'];exact aA (wpAny_rule (bb #[_,rfl,bb h]))))))
  |exact aA (aA (wpAny_typeOf a.typeIs (bb (by
    show wpAny _ _ (if ((Value.type "tuple"==Value.type "tuple"):Bool)=true then _ else _) _ _ s;rw[if_pos 'f'];exact aA (wpAny_rule (aA (bb (bb #[_,rfl,bb h]))))))))
  |exact aA (aA (aA (wpAny_typeOf a.typeIs (bb (by
    show wpAny _ _ (if ((Value.type "tuple"==Value.type "tuple"):Bool)=true then _ else _) _ _ s;rw[if_pos 'f'];exact aA (wpAny_rule (bb (bb #[_,rfl,bb h]))))))))
end HT
namespace L2
open PySem PySem.Spec PyProof.Rows
def Vh(K:Frag):V->Option Int->Option Int->Hp->VK->Prop:=λx lo c H Q=>∃a b,x=.ref a/\fq K H a b/\HT.sIx b.length 0 lo=0/\HT.sIx b.length b.length c=b.length/\Q (.ref a) H
def Vi:kw X (Vh X.K):=by
 intro d s Y H x v m n lo o t Q I e k l f h;let⟨a,g,rfl,hx,i,j,q⟩:=h;cases e;let⟨c,r,ht,p⟩:=I.tuple hx;have b:c.toArray.size=g.length:=by rw[q0y];exact r.length.symm
 exact#["tuple",_,PyProof.Rows.slot_tuple_getitem.lookup,ht.typeIs,HT.getItem_tuple_whole ht k l f (by rw[b];exact i) (by rw[b];exact j) #[.ref a,H,I,rfl,q]]
end L2
namespace L2.L3
open PySem PySem.Spec PyProof.Rows
def cutD(a:List PyData)(lo b:Option Int):List PyData:=(a.drop (HT.sIx a.length 0 lo)).take (HT.sIx a.length a.length b - HT.sIx a.length 0 lo)
theorem aK.drop:∀{vs a} n,aK H vs a->aK H (vs.drop n) (a.drop n)
 |_,_,0,h=>h
 |_,_,_+1,.nil=>.nil
 |_,_,n+1,.cons _ t=>aK.drop n t
theorem aK.take:∀{vs a} n,aK H vs a->aK H (vs.take n) (a.take n)
 |_,_,0,_=>.nil
 |_,_,_+1,.nil=>.nil
 |_,_,n+1,.cons h t=>.cons h (aK.take n t)
def Hk{lo }(h:aK H vs b):aK H (ky vs lo a) (cutD b lo a):=by unfold ky cutD;rw[h.length];exact aK.take _ (aK.drop _ h)
def Vj(K:Frag)(F:Fx)(t:ag->(Option Int->ag->Prop)->Prop):TO:=λY H Q=>∃U O,aF K F H Y U O/\t U λo c=>∀a b,aF K F a Y c b->aR O H b a->Q o a
def FP(X:Cx)(F:Fx)(E:Str->ag->Prop)(e:Option Expr)(m:XM (Option Int)):Prop:=PO X e (Vj X.K F (wp E m))
@[simp]noncomputable def lQ:XM (Option Int):=λU=>.ok none U
@[simp] def jh(m:XM PyData):XM (Option Int):=λU=>(m U).bind λd=>lift (match d with |.int i=>!!i |_=>none)
def PO.imp(h:PO X e t)(k:∀Y H Q,t' Y H Q->t Y H Q):PO X e t':=λa s Y H Q I q=>h a s Y H Q I (k Y H Q q)
def vJ:FP X F E none lQ:=PO.imp Dw λY H Q a=>by let⟨U,O,st,q⟩:=a;exact q H O st .refl
def qg(h:FE X F E e m):FP X F E (!e) (jh m):=PO.imp (Dx h.pe) λY H Q ⟨U,O,st,q⟩=>#[U,O,st,aH _ _ _ (λd k q1 v c f a g j=>by
 let⟨y,b,q2⟩:=da q1;cases d with
 |int i=>cases b;exact#[i,j.int_inv,q2 c f a g]
 |_=>cases b) (bW q)]
def ip(d:PyData)(l h:Option Int):Option PyData:=match d with
 |.list ds=>some (.list (cutD ds l h))
 |.tuple ds=>some (.tuple (cutD ds l h))
 |_=>none
@[simp] def ki(m:XM PyData)(lo hi:XM (Option Int)):XM PyData:=λU=>(m U).bind λd a=>(lo a).bind λl b=>(hi b).bind λh=>lift (ip d l h)
def se{lo:Option Expr}(D:FE X F E e m)(G:FP X F E lo s)(I:FP X F E hi j):FE X F E (.Subscript e (.Slice lo hi none p2) pos) (ki m s j):=
 #[aH,(Dy (kw.or (kw.or OQ Vi) DL) D.pe G I).imp λY H Q n=>by let⟨U,O,st,q⟩:=n;exact 
  #[U,O,st,aH _ _ _ (λd u q1 v T J w L M=>#[u,J,w,aH _ _ _ (λl o q2 Z N x B=>#[o,N,x,aH _ _ _ (λh U3 q3 R z b C=>by
   let⟨y,A,q4⟩:=da q3;have g:=DV.mono (B.trans C).hid M;have i:=L.trans (B.trans C);cases d with
   |list ds=>cases A;let⟨a,f,rfl,t,hx⟩:=g.lst_inv;exact .inr #[a,f,rfl,.of (cZ t).1,λp c=>q4 _ _ z (b.grow (cp c)) (i.trans (.same (cp c))) (lB c (b.nofree p c) (Hk hx))]
   |tuple ds=>
    cases A;let⟨a,f,S,t,hx⟩:=id g.tup_inv;subst S;refine .inl ?_
    by_cases r:HT.sIx f.length 0 l=0/\HT.sIx f.length f.length h=f.length
    .refine .inr #[a,f,rfl,.inl (iB t).1,r.1,r.2,q4 _ R z b i ?_];have:cutD ds l h=ds:=by unfold cutD;rw[<-hx.length,r.1,r.2];rw[q2J,Nat.sub_zero,hx.length];exact List.take_length
     rw[this];exact g
    .exact .inl #[a,f,rfl,.inl (iB t).1,r,λp c=>q4 _ _ z (b.grow (cp c)) (i.trans (.same (cp c))) (kD c (b.nofree p c) (Hk hx))]
   |_=>cases A) (bW (m:=j) (k:=λh=>lift (ip d l h)) q2)]) (bW (m:=s) (k:=λl o=>(j o).bind λh=>lift (ip d l h)) q1)]) (bW (m:=m) (k:=λd u=>(s u).bind λl o=>(j o).bind λh=>lift (ip d l h)) q)]]
end L2.L3
namespace L2.TS
open PySem PyProof.Rows
def Vk{α:Type}{a:Array α}{i:Nat}:a[i]? = a.toList[i]?:=by simp
theorem Ao:∀a,HT.lexLt a a=false
 |[]=>rfl
 |x::a=>by rw[HT.lexLt_cons,if_pos rfl];exact Ao a
theorem vK:∀{c d f},HT.lexLt c d=true->HT.lexLt d f=true->HT.lexLt c f=true
 |[],[],_,h,_=>by cases h
 |[],y::d,[],_,h=>by cases h
 |[],_::_,_::_,_,_=>rfl
 |x::c,[],_,h,_=>by cases h
 |x::c,y::d,[],_,h=>by cases h
 |x::c,y::d,z::f,b,a=>by
  rw[HT.lexLt_cons]at b a ⊢
  by_cases g:x=y
  .subst g;rw[if_pos rfl]at b
   by_cases e:x=z
   .subst e;rw[if_pos rfl]at a ⊢;exact vK b a
   .rw[if_neg e]at a ⊢;exact a
  lia
theorem Ap:∀{c d},HT.lexLt c d=false->HT.lexLt d c=false->c=d
 |[],[],_,_=>rfl
 |[],_::_,h,_=>by cases h
 |_::_,[],_,h=>by cases h
 |x::c,y::d,a,b=>by
  rw[HT.lexLt_cons]at a b
  by_cases e:x=y
  .subst e;rw[if_pos rfl]at a b;rw[Ap a b]
  lia
def lexLe(a b:List Int):Bool:=not (HT.lexLt b a)
def lexLe_tr(a c d)(g:lexLe a c=true)(b:lexLe c d=true):lexLe a d=true:=by
 unfold lexLe at *;simp only[Bool.not_eq_true']at *;cases e:HT.lexLt d a with
 |false=>rfl
 |true=>
  cases f:HT.lexLt a c with
  |true=>rw[vK e f]at b;cases b
  |false=>rw[Ap f g]at e;lia
def lexLe_tt(a b):(lexLe a b||lexLe b a)=true:=by
 unfold lexLe;cases e:HT.lexLt b a with
 |false=>rfl
 |true=>
  cases c:HT.lexLt a b with
  |false=>rfl
  |true=>have:=vK e c;rw[Ao]at this;cases this
def sortR(rows:List (List Int)):List (List Int):=rows.mergeSort lexLe
def Vm(d:c.Perm rows)(e:c.Pairwise λx y=>lexLe x y=true):c=sortR rows:=
 q2j (λa b _ _ p q=>(by unfold lexLe at *;simp only[Bool.not_eq_true']at *;exact Ap q p)) e (q1h lexLe_tr lexLe_tt rows) (d.trans (q2b rows lexLe).symm)
def sortR_perm(rows):(sortR rows).Perm rows:=q2b rows lexLe
end L2.TS
namespace L2.TS
open PySem PyProof.Rows PySem.W
section
variable{N:Nat}{c:Nat->Nat->Bool}{s:Shared}{cmp:Nat->Nat->(Bool->Shared->Prop)->Shared->Prop}
def Ch(R:Nat->Nat->Prop)(p:Array Nat)(n:Nat):Prop:=∀i j,i<=j->j<n->R (p.getD i 0) (p.getD j 0)
abbrev Le(c:Nat->Nat->Bool)(x y:Nat):Prop:=c y x=false
abbrev Ge(c:Nat->Nat->Bool)(x y:Nat):Prop:=c x y=false
def vL(h:j<=p.size)(k):(kas_rev p i j).getD k 0=p.getD (if i<=k/\k<j then i+j - 1 - k else k) 0:=by unfold kas_rev;rw[q0Z,q0Z,getElem?_mirror_all h];split<;>rfl
structure Aq (N:Nat) (c:Nat->Nat->Bool) (s:Shared) (cmp:Nat->Nat->(Bool->Shared->Prop)->Shared->Prop):Prop where
 tr:∀{x y z},c y x=false->c z y=false->c z x=false
 as:∀{x y},c x y=true->c y x=false
 ask:∀i j C,i<N->j<N->C (c i j) s->cmp i j C s
variable(O:Aq N c s cmp){p:Array Nat}{α:Type}
include O
def Aq.rf(x):c x x=false:=by
 cases h:c x x
 .rfl
 .exact h.symm.trans (O.as h)
def Ch.up(h:Ch (Le c) p n)(n1:1<=n)(e:c (p.getD n 0) (p.getD (n - 1) 0)=false):Ch (Le c) p (n+1):=λi j a b=>by
 rcases q1M (Nat.le_of_lt_succ b) with q |rfl
 .exact h i j a q
 .rcases q1M a with q |rfl
  .exact O.tr (h i (j - 1) 'a' 'a') e
  .exact O.rf _
def Ch.dn(h:Ch (Ge c) p n)(n1:1<=n)(e:c (p.getD (n - 1) 0) (p.getD n 0)=false):Ch (Ge c) p (n+1):=λi j a b=>by
 rcases q1M (Nat.le_of_lt_succ b) with q |rfl
 .exact h i j a q
 .rcases q1M a with q |rfl
  .exact O.tr e (h i (j - 1) 'a' 'a')
  .exact O.rf _
omit O in
def kN{i:Nat}(h:p.Perm (List.range N).toArray)(a:i<N):p.getD i 0<N:=by
 have z:p.size=N:=by have:=h.size_eq;simpa using this
 have m:p[i]∈p:=Array.getElem_mem 'a';have:=h.mem_iff.mp m;rw[q0Z,Array.getElem?_eq_getElem 'a'];simpa using this
abbrev Pm(N:Nat)(p:Array Nat):Prop:=p.Perm (List.range N).toArray
omit O in
theorem Pm.size(h:Pm N p):p.size=N:=by have:=h.size_eq;simpa using this
omit O in
def Pm.rev(h:Pm N p)(i j:Nat):Pm N (kas_rev p i j):=(mirror_perm _ _ _ _).trans h
theorem Ar(i:Pm N p):∀f n,1<=n->n+f<=N->Ch (Le c) p n->(∀m,n<=m->m<=n+f->Ch (Le c) p m->(m<n+f->c (p.getD m 0) (p.getD (m - 1) 0)=true)->Q m s)->(kas_asc p f n).kasWp cmp Q s
 |0,n,_,_,h,q=>q n (bu _) (bu _) h λh=>absurd h (q0A _)
 |f+1,n,n1,j,h,q=>by
  apply O.ask _ _ _ (kN i 'a') (kN i 'a');cases e:c (p.getD n 0) (p.getD (n - 1) 0)
  .exact Ar i f (n+1) 'a' 'a' (h.up O n1 e) λm a b d g=>q m 'a' 'a' d λh=>g 'a'
  .exact q n (bu _) 'a' h λ_=>e
def sf(c:Nat->Nat->Bool)(p:Array Nat)(a n:Nat):Prop:=∀i j,a<=i->i<n->a<=j->j<n->c (p.getD i 0) (p.getD j 0)=false
omit O in
def Ch.mir{a n m:Nat}(b:n<=p.size)(d:n<=m)(h:Ch (Ge c) p m)(k:sf c p a n):Ch (Ge c) (kas_rev p a n) m:=λi j e f=>by
 show c _ _=false;rw[vL b,vL b]
 by_cases q:(if a<=i/\i<n then a+n - 1 - i else i)<=if a<=j/\j<n then a+n - 1 - j else j
 .exact h _ _ q (by split<;>lia)
 .refine k _ _ ?_ ?_ ?_ ?_<;>(revert q;split<;>split<;>lia)
theorem vM:∀f n q  p,Pm N p->q+1<=n->n+f<=N->Ch (Ge c) p n->sf c p (n - (q+1)) n->(∀b m r,Pm N b->r+1<=m->m<=N->Ch (Ge c) b m->sf c b (m - (r+1)) m->Q (b,m,r) s)->(kas_desc f p n q).kasWp cmp Q s
 |0,n,q,p,a,q1,d,h,k,g=>g p n q a q1 d h k
 |f+1,n,q,p,a,q1,d,h,k,g=>by
  have one:∀b:Array Nat,sf c b (n+1 - (0+1)) (n+1):=λb i j _ _ _ _=>by
   obtain rfl:i=j:=by lia
   exact O.rf _
  refine O.ask _ _ _ (kN a 'a') (kN a 'a') ?_;cases e:c (p.getD n 0) (p.getD (n - 1) 0)
  .refine O.ask _ _ _ (kN a 'a') (kN a 'a') ?_;cases e':c (p.getD (n - 1) 0) (p.getD n 0)
   .refine vM f (n+1) (q+1) p a 'a' 'a' (h.dn O 'a' e') (λi j t u v w=>?_) g;have l:c (p.getD i 0) (p.getD (n - 1) 0)=false:=by
     by_cases z:i=n
     .rw[z];exact e
     .exact k _ _ 'a' 'a' 'a' 'a'
    refine O.tr ?_ l
    by_cases z:j=n
    .rw[z];exact e'
    .exact k _ _ 'a' 'a' 'a' 'a'
   .exact g p n q a q1 'a' h k
  .have o:=h.dn O 'a' (O.as e);show(if q>0 then kas_desc f (kas_rev p (n - (q+1)) n) (n+1) 0 else kas_desc f p (n+1) 0).kasWp cmp Q s;split
   .exact vM f (n+1) 0 _ (a.rev _ _) 'a' 'a' (o.mir (by rw[a.size];lia) 'a' k) (one _) g
   .exact vM f (n+1) 0 p a 'a' 'a' o (one _) g
def Hm(a:Pm N p)(n1:1<=n)(e:n<=N)(h:Ch (Ge c) p n)(g:∀m b,1<=m->m<=N->Pm N b->Ch (Le c) b m->Q (m,b) s):(kas_tail3 n N p).kasWp cmp Q s:=by unfold kas_tail3;rw[KasT.kasWp_bind];refine Ar O (a.rev _ _) (N - n) n n1 'a' (λi j f k=>?_) λm l o d _=>g m _ 'a' 'a' (a.rev _ _) d;rw[vL (by rw[a.size];lia),vL (by rw[a.size];lia),if_pos 'a',if_pos 'a'];exact h _ _ 'a' 'a'
def Hn(f:Pm N p)(l:n+1<=N)(h:Ch (Ge c) p (n+1))(g:∀m b,1<=m->m<=N->Pm N b->Ch (Le c) b m->Q (m,b) s):(kas_descPart n N p).kasWp cmp Q s:=by
 unfold kas_descPart;rw[KasT.kasWp_bind];refine vM O (N - (n+1)) (n+1) 0 p f 'a' 'a' h (λi j _ _ _ _=>?_) λb m r a o d e k=>?_
 .obtain rfl:i=j:=by lia
  exact O.rf _
 .dsimp only;split
  .exact Hm O (a.rev _ _) 'a' d (e.mir (by rw[a.size];lia) (bu _) k) g
  .exact Hm O a 'a' d e g
def Vn(a:Pm N p)(q:1<=N)(g:∀m b,1<=m->m<=N->Pm N b->Ch (Le c) b m->Q (m,b) s):(kas_count N p).kasWp cmp Q s:=by
 unfold kas_count;rw[KasT.kasWp_bind];refine Ar O a (N - 1) 1 (bu _) 'a' (λi j _ _=>?_) λn n1 r h e=>?_
 .obtain rfl:i=j:=by lia
  exact O.rf _
 .split
  .exact g n p n1 'a' a h
  .rename_i ne;have d:n<N:=Nat.lt_of_le_of_ne 'a' λz=>ne (by simp[z]);have e:=O.as (e 'a');split
   .refine O.ask _ _ _ (kN a 'a') (kN a 'a') ?_;cases e':c (p.getD 0 0) (p.getD (n - 1) 0)
    .have k:sf c p 0 n:=λi j _ l _ t=>O.tr (O.tr (h j (n - 1) 'a' 'a') e') (h 0 i 'a' l);refine Hn O (a.rev _ _) d (Ch.mir (by rw[a.size];lia) 'a' (Ch.dn O (λi j o f=>k i j 'a' 'a' 'a' f) n1 e) k) g
    .exact g n p n1 'a' a h
   .obtain rfl:n=1:=by lia
    refine Hn O a d (Ch.dn O (λi j o f=>?_) n1 e) g;obtain rfl:i=j:=by lia
    exact O.rf _
theorem As(j:Pm N p)(m:k<N)(h:Ch (Le c) p k)(g:∀l,l<=k->(∀i<l,Le c (p.getD i 0) (p.getD k 0))->(∀i,l<=i->i<k->Le c (p.getD k 0) (p.getD i 0))->Q l s) :
  ∀f l r,l<=r->r<=k->r - l<=f->(∀i<l,Le c (p.getD i 0) (p.getD k 0))->(∀i,r<=i->i<k->Le c (p.getD k 0) (p.getD i 0))->(kas_place p k f l r).kasWp cmp Q s
 |0,l,r,q,o,d,a,b=>g l 'a' a λi n=>b i 'a'
 |f+1,l,r,q,o,d,a,b=>by
  unfold kas_place;split
  .exact g l 'a' a λi n=>b i 'a'
  .refine O.ask _ _ _ (kN j m) (kN j 'a') ?_;cases e:c (p.getD k 0) (p.getD ((l+r) / 2) 0)
   .refine As j m h g f _ r 'a' o 'a' (λi u=>?_) b;exact O.tr (h i _ 'a' 'a') e
   .refine As j m h g f l _ 'a' 'a' 'a' a λi n t=>?_;exact O.tr (O.as e) (h _ i n t)
theorem Ho(g:∀m,Pm N m->Ch (Le c) m N->Q m s):∀f k  p,Pm N p->Ch (Le c) p k->k+f=N->(kas_bin f p k).kasWp cmp Q s
 |0,k,p,d,h,e=>g p d (by rwa [<-e])
 |f+1,k,p,d,h,e=>by
  unfold kas_bin;rw[KasT.kasWp_bind];refine As O d 'a' h (λl lk a b=>?_) k 0 k (q0K _) (bu _) (bu _) (λ_ h=>absurd h (q1b _)) λi a b=>absurd a 'a';have at_:∀i,(bubble p k (k - l)).getD i 0=p.getD (if i=l then k else if l<i/\i<=k then i - 1 else i) 0:=λi=>by
   rw[q0Z,q0Z,getElem?_bubble (by rw[d.size];lia) (k - l) 'a',show k - (k - l)=l by lia];split
   .rfl
   .split<;>rfl
  refine Ho g f (k+1) _ ((bubble_perm _ _ _).trans d) (λi j n o=>?_) 'a';show c _ _=false;rw[at_,at_]
  by_cases x:i=l<;>by_cases y:j=l
  .rw[if_pos x,if_pos y];exact O.rf _
  .rw[if_pos x,if_neg y,if_pos 'a'];exact b _ 'a' 'a'
  .rw[if_neg x,if_pos y,if_neg 'a'];exact a _ 'a'
  .rw[if_neg x,if_neg y];split<;>split<;>exact h _ _ 'a' 'a'
def Vo(b:1<=N)(g:∀p,Pm N p->Ch (Le c) p N->Q p s):(kas_sort N).kasWp cmp Q s:=by
 unfold kas_sort;rw[KasT.kasWp_bind];refine Vn O (Array.Perm.refl _) b λm p d e a h=>?_;dsimp only;split
 .exact Ho O g _ _ p a 'h' 'a'
 .obtain rfl:m=N:=by lia
  exact g p a h
end
end L2.TS
namespace L2.TS
open PySem PyProof.Rows
abbrev vN(a:Value->List Int):Keyed->Keyed->Bool:=λx y=>lexLe (a x.1) (a y.1)
def vO(n:Nat):Prop:=2<=n->∀(b:Program) (w:World) (A:Around) (E:Value->Shared->Prop) (s:Shared) (c:Value->List Int) (κ:SortKind) (vs:List Value) (Q:SortSt->Prop),vs.length=n->
 (∀x∈vs,∀y∈vs,∀(E:Value->Shared->Prop) (Q:Bool->Shared->Prop),Q (HT.lexLt (c x) (c y)) s->wpAny (model b w) A (keyLt' κ x y) Q E s)->
 (∀a,failedOf a = none->(arrOf a).toList.Perm (pairsOf vs).toList->(arrOf a).toList.Pairwise (λx y=>vN c x y=true)->Q a)->wpAny (model b w) A ((sortRuns').run (SortSt.mk' κ (vs.toArray.zip vs.toArray) #[] 7 none)) (λr d=>d = s/\Q r.2) E s
def Vp(r:n<64):vO n:=λt l w A E s c κ vs Q u v h=>by
 subst u;have O:Aq vs.length (λi j=>HT.lexLt (c (vs.getD i .none)) (c (vs.getD j .none))) s (W.kas_ask l w A κ vs):=#[λ{x y z} a b=>?_,λ{x y} a=>?_,λi j C d k q=>?_]
 .refine W.kat_run (Q:=λst o=>o = s/\Q st) (G:=λp o=>o = s/\Pm vs.length p/\Ch (Le λi j=>HT.lexLt (c (vs.getD i .none)) (c (vs.getD j .none))) p vs.length) rfl t r ?_ (Vo O 'a' λp a b=>#[rfl,a,b]);rintro p st o z e f ⟨rfl,B,D⟩;have m:=(Array.perm_iff_toList_perm.mp B).map (W.kas_item (pairsOf vs));rw[<-q2u,<-q2u,<-pairsOf_size vs,W.kas_range]at m;refine#[rfl,h st f (by rw[e];exact m) ?_];rw[e,q2u,q1S,List.pairwise_iff_getElem];intro i j d k H;have:=D i j 'a' (by simpa[z] using k);rw[q1z]at d k;rw[show vs.toArray.zip vs.toArray=pairsOf vs from rfl,W.kas_item_eq,W.kas_item_eq];simpa[vN,lexLe,d,k] using this
 .simpa[lexLe] using lexLe_tr (c (vs.getD x .none)) (c (vs.getD y .none)) (c (vs.getD z .none)) (by simpa[lexLe] using a) (by simpa[lexLe] using b)
 .cases e:HT.lexLt (c (vs.getD y .none)) (c (vs.getD x .none))
  .rfl
  .exact absurd (vK a e) (by rw[Ao];simp)
 .have g:∀i,i<vs.length->vs.getD i Value.none∈vs:=λi d=>by simp[d]
  exact v _ (g i d) _ (g j k) _ _ q
structure sg (prog:Program) (w:World) (h0:Heap) (vs:List Value) (rk:Value->List Int) (κ:SortKind):Prop where
 kind:∀(A:Around) (E:Value->Shared->Prop) (s:Shared) (Q:SortKind->Shared->Prop),(∀b o,h0.get? b=!o->s.heap.get? b=!o)->2<=vs.length->Q κ s->wpAny (model prog w) A (keyKind' vs.toArray) Q E s
 lt:∀(A:Around) (E:Value->Shared->Prop) (s:Shared) (Q:Bool->Shared->Prop) (x y:Value),(∀b o,h0.get? b=!o->s.heap.get? b=!o)->x∈vs->y∈vs->Q (HT.lexLt (rk x) (rk y)) s->wpAny (model prog w) A (keyLt' κ x y) Q E s
def Vq(tJ:s.heap.get? a=!seqObj "list" vs.toArray n)(t:vs.length<=sizeLine)(R:vO vs.length)(k:sg prog w j vs rk κ)(z:∀b o,j.get? b=!o->b≠a/\s.heap.get? b=!o)
  (h:∀g:List Value,g.Perm vs->g.Pairwise (λx y=>lexLe (rk x) (rk y)=true)->P (.done (.ret .none)) { s with heap:=sortedHeap s.heap a vs g.toArray }) :
  wpAny (model prog w) A (Builtin.«list.sort» #[[.ref a],[]]) P E s:=by
 rw[list_sort_plain];have la:a<s.heap.objs.size:=bS tJ;refine aA (listItems_at tJ rfl (aA (listUpdate_at tJ rfl ?_ (by simpa using t) (q0K _))));obtain⟨u,tK⟩:∃u,(s.heap.update a (Obj.mapSeq λ_=>#[])).get? a=!seqObj "list" #[] u:=#[_,get?_update_seq tJ λ_=>#[]]
 refine aA (seqEpoch_at tK rfl (aA (wpAny_newTuple ?_ (by simpa using t))));refine aA (wpAny_newList ?_ (q0K _));refine wpAny_holding ?_;have up:∀{b:Addr}{o:Obj},(s.heap.update a (Obj.mapSeq λ_=>#[])).get? b=!o->(((s.heap.update a (Obj.mapSeq λ_=>#[])).push (seqObj "tuple" vs.toArray 0)).push (seqObj "list" #[] 0)).get? b=!o:=λe=>ca _ (ca _ e);have d:=up tK;have kp:∀b o,j.get? b=!o->(((s.heap.update a (Obj.mapSeq λ_=>#[])).push (seqObj "tuple" vs.toArray 0)).push (seqObj "list" #[] 0)).get? b=!o:=λb o e=>up (by rw[Heap.get?_update_ne _ _ _ _ (z b o e).1];exact(z b o e).2);show wpAny (model prog w) A _ P E { s with heap:=((s.heap.update a (Obj.mapSeq λ_=>#[])).push (seqObj "tuple" vs.toArray 0)).push (seqObj "list" #[] 0) };dsimp only;have sz:vs.toArray.size=vs.length:=by simp
 have fin:∀c:SortSt,(arrOf c).toList.Perm (pairsOf vs).toList->(arrOf c).toList.Pairwise (λx y=>vN rk x y=true)->P (.done (.ret .none)) { s with heap:=sortedHeap s.heap a vs ((arrOf c).map (·.2)) }:=λc i l=>by
  have v:∀p∈(arrOf c).toList,p.1=p.2:=λp B=>by have:=i.mem_iff.mp B;rw[pairsOf_toList]at this;exact(mem_zip_self this).1
  have e:(arrOf c).map (·.2)=((arrOf c).toList.map (·.2)).toArray:=by apply Array.toList_inj.mp;simp
  rw[e];refine h _ ?_ ?_
  .have:=i.map (·.2)
   rwa [pairsOf_toList,List.map_snd_zip (bu _)]at this
  .rw[q1S];refine q2k (λ{x y} r m q=>?_) l;rw[<-v x r,<-v y m];exact q
 by_cases f:vs.toArray.size<2
 .rw[if_pos f,if_pos f];refine aA (bb ?_);rw[StateT.run_pure];refine aA (bb ?_);dsimp only;refine aA (seqEpoch_at d rfl (aA (listUpdate_at d rfl ?_ (q0K _) (by
   have:((pairsOf vs).map (·.2)).size<=sizeLine+1:=by rw[Array.size_map,pairsOf_size];lia
   exact this))))
  simp only[bne_self_eq_false,q08,if_false];refine bb (fin (SortSt.mk' general' (vs.toArray.zip vs.toArray) #[] 7 none) (List.Perm.refl _) ?_);show(pairsOf vs).toList.Pairwise _;rw[pairsOf_toList]
  match vs,sz,f with
  |[],_,_=>exact .nil
  |[_],_,_=>exact List.pairwise_singleton _ _
  |_::_::_,_,f=>simp at f;lia
 .rw[if_neg f,if_neg f];refine aA (k.kind _ _ _ _ kp 'a' ?_);refine aA (wpAny_mono (R 'a' prog w _ _ _ rk κ vs (λc=>failedOf c = none/\(arrOf c).toList.Perm (pairsOf vs).toList/\(arrOf c).toList.Pairwise (λx y=>vN rk x y=true))
   rfl (λx r y m E Q q=>k.lt _ _ _ _ x y kp r m q) λc C D G=>#[C,D,G]) ?_ λ_ _ e=>e)
  rintro⟨⟨⟩,c⟩ J ⟨rfl,H,i,l⟩;dsimp only;refine aA (seqEpoch_at d rfl (aA (listUpdate_at d rfl ?_ (q0K _) (by
   have I:=i.length_eq;simp only[q1z,pairsOf_size]at I;have:((arrOf c).map (·.2)).size<=sizeLine+1:=by rw[Array.size_map];lia
   exact this))))
  rw[H];simp only[bne_self_eq_false,q08,if_false];exact bb (fin c i l)
def Vr{s:Shared}(r:s.heap.IsList l vs.toArray)(d:vs.length<=sizeLine)(R:vO vs.length)(k:sg prog w s.heap vs rk κ)
  (h:∀(a:List Value)  f  n,a.Perm vs->a.Pairwise (λx y=>lexLe (rk x) (rk y)=true)->(∀b o,s.heap.get? b=!o->f.get? b=!o)->f.get? (s.heap.objs.size+1)=!seqObj "list" a.toArray n->Q (.ref (s.heap.objs.size+1)) { s with heap:=f }) :
  wpAny (model prog w) A (call (.builtin "sorted") [.ref l]) Q E s:=by
 refine Calls.call_function_entry kind_sorted plain_sorted entry_sorted (args_sorted1 _) ?_;unfold Builtin.«sorted»;refine aA (m:=checkCount "sorted" 1 1 _) (bb ?_);refine aA (collect_list r (aA (wpAny_newList ?_ d)) d);generalize j:(s.heap.push (seqObj "list" #[] 0)).update s.heap.objs.size (Obj.mapSeq (·++vs.toArray))=g;have p:g.objs.size=s.heap.objs.size+1:=by rw[<-j,Heap.size_update,size_push']
 have t:∀b o,s.heap.get? b=!o->g.get? b=!o:=λb o e=>by have c:b<s.heap.objs.size:=bS e;rw[<-j,Heap.get?_update_ne _ _ _ _ (q0s c),Heap.get?_push_ne _ _ _ (q0s c)];exact e
 have xb:(g.push (seqObj "list" vs.toArray 0)).get? (s.heap.objs.size+1)=!seqObj "list" vs.toArray 0:=by rw[<-p];exact Heap.get?_push_size _ rfl
 show wpAny _ _ _ _ _ { s with heap:=g.push (seqObj "list" vs.toArray 0) };rw[p];have hb:∀b o,s.heap.get? b=!o->b≠s.heap.objs.size+1/\(g.push (seqObj "list" vs.toArray 0)).get? b=!o:=λb o e=>#[q0s (q1P (bS e)),ca _ (t b o e)]
 refine aA (wpAny_holding (wpAny_call_entry slot_list_sort #[_,xb,rfl] entry_list_sort (Vq xb d R k hb λa u v=>#[_,rfl,?_]) (args_list_sort _)));refine bb #[_,rfl,?_];obtain⟨i,tK⟩:∃i,((g.push (seqObj "list" vs.toArray 0)).update (s.heap.objs.size+1) (Obj.mapSeq λ_=>#[])).get? (s.heap.objs.size+1)=!seqObj "list" #[] i:=#[_,get?_update_seq xb λ_=>#[]]
 refine h a _ _ u v (λb o e=>?_) (get?_update_seq (ca _ (ca _ tK)) λ_=>a.toArray);have q:=hb b o e;unfold sortedHeap;rw[Heap.get?_update_ne _ _ _ _ q.1];refine ca _ (ca _ ?_);rw[Heap.get?_update_ne _ _ _ _ q.1];exact q.2
noncomputable def gH(h:Heap):Value->List Int
 |.int n _=>[n]
 |.ref a=>(match h.get? a with
  |some o=>(match o.data with
   |.seq b _=>b.toList.map numOf
   |_=>[])
  |none=>[])
 |_=>[]
def Vs(hv:∀v∈vs,∃n t,v=.int n t):sg prog w h0 vs (gH h0) oneType' where
 kind:=λA E s Q _ h2 q=>by
  have hI:=intsAre_map vs hv
  match vs,hI,h2 with
  |v1::v2::r,hI,_=>rw[keyKind_ints hI];exact bb q
  |[_],_,h2=>simp at h2
  |[],_,h2=>simp at h2
 lt:=λA E s Q x y _ hx hy q=>by
  let⟨a,t,rfl⟩:=hv x hx;let⟨b,u,rfl⟩:=hv y hy;rw[keyLt'_oneType];refine oneLt_int ?_;have e:HT.lexLt (gH h0 (.int a t)) (gH h0 (.int b u))=decide (a<b):=by
   show HT.lexLt [a] [b]=_;rw[HT.lexLt_cons];split
   .rename_i z;subst z;rw[HT.lexLt_nil_nil];symm;exact decide_eq_false 'a'
   .rfl
  rw[e]at q;exact q
def kO(h:Heap)(v:Value):Prop:=∃(a:Addr) (b:Array Value) (c:List Int),v=.ref a/\IsTup h a b/\IntsAre b.toList c/\c≠[]
def kO.rnk(t:kO h v):∃(a:Addr) (b:Array Value) (c:List Int),v=.ref a/\IsTup h a b/\IntsAre b.toList c/\c≠[]/\gH h v=c:=by let⟨a,b,c,rfl,d,e,f⟩:=t;refine#[a,b,c,rfl,d,e,f,?_];let⟨o,g,j,n,i⟩:=d;unfold gH;simp only[g,i];exact e.nums
def Hq:∀{a c g d} i,IntsAre a g->IntsAre c d->Q (HT.lexLt g d) s->W.KatLex prog w A b (decide (a.length<c.length)) Q (a.zip c) i s:=λ{a c g d} i w=>by
 induction w generalizing c d i with
 |nil=>intro z q;cases z<;>exact W.kat_nil q
 |@cons n t vs l h k1=>
  intro z q;cases z with
  |nil=>exact W.kat_nil q
  |@cons m u f r j=>
  rw[q2g];refine W.kat_cons (wpAny_eqBool_int ?_);rw[HT.lexLt_cons]at q;have k:decide ((Value.int n t::vs).length<(Value.int m u::f).length)=decide (vs.length<f.length):=by simp
  rw[k];refine W.kat_go (λe=>W.kat_yes ?_) λe=>W.kat_no ?_
  .rw[if_pos (by simpa using e)]at q;exact k1 (i+1) j q
  .rw[if_neg (by simpa using e)]at q;cases b&&i==0 with
   |true=>exact oneLt_int q
   |false=>exact W.kat_one _ _ (lt_int q)
theorem Hr:∀{vs},(∀v∈vs,kO h v)->∃fs,W.KatTups h vs fs/\fs.length=vs.length/\∀f∈fs,∃n t,f=Value.int n t
 |[],_=>#[[],.nil,rfl,λ_ h=>by cases h]
 |v::vs,hv=>by
  let⟨fs,e,g,i⟩:=Hr λu j=>hv u (bK _ j);obtain⟨a,b,ns,rfl,⟨o,k,p,n,q⟩,d,x⟩:=hv v q0g;obtain⟨m,t,r,y⟩:∃m t r,b.toList=Value.int m t::r:=by
   generalize b.toList=l at d;cases d with
   |nil=>simp_all
   |cons n t h=>exact#[n,t,_,rfl]
  refine#[.int m t::fs,.cons k p q (by rw[Vk,y];rfl) e,by simp[g],λf c=>?_];rcases q0c.mp c with rfl |c
  .exact#[m,t,rfl]
  .exact i f c
def kO.mono(k:∀b o,h.get? b=!o->d.get? b=!o)(t:kO h v):kO d v:=by
 obtain⟨a,c,ns,e,⟨o,f,g⟩,i,j⟩:=t;exact#[a,c,ns,e,#[o,k _ _ f,g],i,j]
def Vt(hv:∀v∈vs,kO h0 v):sg prog w h0 vs (gH h0) (tuples' true) where
 kind:=λA E s Q kp h2 q=>by let⟨fs,h1,h3,h4⟩:=Hr λv hv'=>(hv v hv').mono kp;refine W.kat_kind (T:=.type "int") h1 'a' (λf hf=>?_) 'f' q;let⟨n,t,rfl⟩:=h4 f hf;exact .now
 lt:=λA E s Q x y kp hx hy q=>by obtain⟨a,its,ns,rfl,⟨o,e1,e2,k,e3⟩,t2,t3,r1⟩:=(hv x hx).rnk;obtain⟨b,jts,ms,rfl,⟨o',e1',e2',k',e3'⟩,t2',t3',r2⟩:=(hv y hy).rnk;rw[r1,r2]at q;apply W.kat_lt (kp _ _ e1) e3 (kp _ _ e1') e3';have:=Hq (prog:=prog) (w:=w) (A:=A) (b:=true) 0 t2 t2' q;simpa using this
def Vu{α β:Type}{f:α->β}{l m}(h:l.Perm m):∀{ts},m=ts.map f->∃a:List α,a.Perm ts/\a.map f=l:=by
 induction h with
 |nil=>
  simp_all
 |cons x _ i=>
  intro ts e;cases ts with
  |nil=>cases e
  |cons t ts=>simp only[q0h,q2c]at e;let⟨a,b,c⟩:=i e.2;exact#[t::a,b.cons t,by simp_all]
 |swap x y l=>
  intro ts e
  match ts,e with
  |[],e=>cases e
  |[_],e=>cases e
  |t::u::ts,e=>simp only[q0h,q2c]at e;exact#[u::t::ts,.swap t u ts,by simp_all]
 |trans _ _ d g=>intro ts e;let⟨o,b,c⟩:=g e;let⟨j,k,n⟩:=d c.symm;exact#[j,k.trans b,n]
def Paired.zipAll:∀{a:List α}{b},Paired R a b->∀p∈a.zip b,R p.1 p.2:=by
 intro a b h
 induction h with
 |nil=>simp_all
 |cons r _ c=>
  simp_all
theorem Paired.ofZip:∀{a:List (α×β)},(∀p∈a,R p.1 p.2)->Paired R (a.map (·.1)) (a.map (·.2))
 |[],_=>.nil
 |z::a,h=>.cons (h z q0g) (Paired.ofZip λp b=>h p (bK _ b))
def RowV(K:Frag)(H:Hp):Bool->V->List Int->Prop
 |false,v,r=>∃i,v=.int i/\r=[i]
 |true,v,r=>∃a,v=.ref a/\fq K H a (r.map V.int)/\r≠[]
def rSortedP(P:Nat->Prop)(K:Frag):List V->Hp->VK->Prop:=λd H Q=>∃p a rows b,P a.length/\d=[.ref p]/\dO K H p a/\Paired (RowV K H b) a rows/\
 ∀(l:Addr) (c:List (V×List Int)),H l=none->c.Perm (a.zip rows)->c.map (·.2)=sortR rows->Q (.ref l) (aM H l (.lst (c.map (·.1))))
def Vv(R:∀n,P n->vO n):hU X (.builtin "sorted") (rSortedP P X.K):=by
 intro U s Y H xs us Q I r h;let⟨p,B,rows,b,hP,rfl,hq,hr,q⟩:=h;let⟨u,rfl,rx⟩:=vals1 r;cases rx;let⟨C,M,pl,hz⟩:=I.list hq;have D:=M.length;have key:∀(y:V) (v:Value) (row:List Int),bj y v->RowV X.K H b y row->gH s.heap v=row/\(b=true->kO s.heap v)/\(b=false->∃n t,v=.int n t):=λy v row rel Z=>by
  cases b with
  |false=>let⟨i,rfl,rfl⟩:=Z;let⟨t,rfl⟩:=rel;exact#[rfl,(λz=>by cases z),λ_=>#[i,t,rfl]]
  |true=>
   let⟨a,rfl,sq,ne⟩:=Z;cases rel;let⟨E,rj,tj,_⟩:=I.tuple sq;have ia:IntsAre E row:=L3.ints_are rj;have T:kO s.heap (.ref a):=#[a,E.toArray,row,rfl,tj,by simpa using ia,ne]
   obtain⟨a',a0,a1,L,⟨o,q1,q2,n,q3⟩,e3,e4,e5⟩:=T.rnk;refine#[?_,λ_=>T,λz=>by cases z];let⟨o',G,p2,n',p3⟩:=tj;unfold gH;simp only[G,p3];exact ia.nums
 have all:∀{B:List V}{vs:List Value}{rows:List (List Int)},bv B vs->Paired (RowV X.K H b) B rows->vs.map (gH s.heap)=rows/\∀v∈vs,(b=true->kO s.heap v)/\(b=false->∃n t,v=.int n t):=by
  intro B vs rows h1
  induction h1 generalizing rows with
  |nil=>intro N;cases N;exact#[rfl,λ_ h=>by cases h]
  |cons a _ ih=>
   intro N;cases N with
   |cons c d=>
    let⟨L,e2⟩:=ih d;have k:=key _ _ _ a c;refine#[by rw[q0h,L,k.1],λv x=>?_];rcases q0c.mp x with rfl |x
    .exact k.2
    .exact e2 v x
 let⟨J,j⟩:=all M hr;have m:∃κ,sg X.prog X.w s.heap C (gH s.heap) κ:=by
  cases b with
  |false=>exact#[_,Vs λv x=>(j v x).2 rfl]
  |true=>exact#[_,Vt λv x=>(j v x).1 rfl]
 let⟨κ,m⟩:=m;refine Vr (rk:=gH s.heap) pl.isList 'a' (R _ (by rw[<-D];exact hP)) m λA h' n G p2 kp e=>?_;let⟨g,t1,t2⟩:=Vu (f:=λt:V×Value=>t.2) G (ts:=B.zip C) (by rw[List.map_snd_zip 'a']);have rel:∀t∈g,bj t.1 t.2:=λt ht=>Paired.zipAll M t (t1.mem_iff.mp ht);have l:bv (g.map (·.1)) A:=by
  have:=Paired.ofZip (R:=bj) rel
  rwa [t2]at this
 have lz:(g.map (·.1)).length<=sizeLine:=by rw[l.length,G.length_eq];lia
 have O:(g.map λt=>(t.1,gH s.heap t.2)).Perm (B.zip rows):=by
  have:=t1.map λt:V×Value=>(t.1,gH s.heap t.2)
  refine this.trans (.of_eq ?_);rw[<-J,List.zip_map_right];rfl
 have S:(g.map λt=>(t.1,gH s.heap t.2)).map (·.2)=sortR rows:=by
  have L:(g.map λt=>(t.1,gH s.heap t.2)).map (·.2)=A.map (gH s.heap):=by rw[<-t2];simp
  rw[L];refine Vm ?_ ?_
  .rw[<-J];exact G.map _
  .rw[q1S];exact p2
 have fin:=q (s.heap.objs.size+1) _ (I.hok.fresh (q1Q _)) O S;have e3:(g.map λt=>(t.1,gH s.heap t.2)).map (·.1)=g.map (·.1):=by simp
 rw[e3]at fin;exact#[.ref (s.heap.objs.size+1),_,I.laid (t':=s.toks) kp (q1Q _) (show dh X.prog X.w _ h' _ (.lst (g.map (·.1))) from#[lz,A,n,l,e]),rfl,fin]
abbrev rSortedS:=rSortedP λn=>n<64
def call_sortedS:hU X (.builtin "sorted") (rSortedS X.K):=Vv λn h=>Vp h
end L2.TS
namespace L2.L3
open PySem PySem.Spec PyProof.Rows
noncomputable def At(c:List Int):List Int:=c.mergeSort λa b=>decide (a<=b)
def oH(a:List PyData):Option (List PyData):=match kh a with
 |some ns=>some ((At ns).map PyData.int)
 |none=>(match kM a with
  |some rows=>if rows.all (λr=>not r.isEmpty)=true then some ((TS.sortR rows).map λr=>.tuple (r.map PyData.int)) else none
  |none=>none)
def Au:List PyData->Option PyData:=λa=>match a with
 |[.list ds]=>(oH ds).map PyData.list
 |_=>none
def Vw(d):(TS.sortR (d.map λn=>[n])).map (λr=>r.headD 0)=At d:=by
 have p:=(TS.sortR_perm (d.map λn=>[n])).map (λr=>r.headD 0);have e:(d.map λn=>[n]).map (λr=>r.headD 0)=d:=by rw[q0W];exact(q1i λn _=>rfl).trans (List.map_id d)
 rw[e]at p;refine q2j (le:=λa b=>decide (a<=b)=true) (λa b _ _ f g=>by simp at f g;lia) ?_ (q1h (λa b c f g=>by simp at *;lia) (λa b=>by simp;lia) d) (p.trans (q2b _ _).symm);rw[q1S];have q:(TS.sortR (d.map λn=>[n])).Pairwise (λx y=>TS.lexLe x y=true):=q1h TS.lexLe_tr TS.lexLe_tt _;refine q2k (λ{x y} k i h=>?_) q;let⟨a,_,rfl⟩:=q0Q.mp ((TS.sortR_perm _).mem_iff.mp k);let⟨b,_,rfl⟩:=q0Q.mp ((TS.sortR_perm _).mem_iff.mp i);refine decide_eq_true (show a<=b from ?_);unfold TS.lexLe at h;rw[HT.lexLt_cons]at h
 by_cases e:b=a
 .exact Int.le_of_eq e.symm
 .rw[if_neg e]at h
  by_cases j:b<a
  .simp[j]at h
  .omega
def Vx:∀{c}{rows:List (List Int)},aK G c (rows.map mk)->Paired (λy r=>DV G y (mk r)) c rows:=by
 intro c rows
 induction rows generalizing c with
 |nil=>intro h;cases h;exact .nil
 |cons r rows d=>intro h;cases h with
  |cons a b=>exact .cons a (d b)
def Vy:∀{b}{rows:List (List Int)},Paired (λy r=>DV G y (mk r)) b rows->aK G b (rows.map mk):=by
 intro b rows h
 induction h with
 |nil=>exact .nil
 |cons a _ c=>exact .cons a c
def Vz{K}(B:P f.length)(C:∀p,H p=none->p∉O)(x:aB O H a=!.lst f)(D:aK (aB O H) f j)(e:(oH j).map PyData.list=!d)(q:∀v m,bO H m->DV (aB O m) v d->Q v m):TS.rSortedP P K [.ref a] H Q:=by
 have sq:dO K H a f:=.of (cZ x).1;have go:∀(b:Bool) (mk:List Int->PyData) (rows:List (List Int)),j=rows.map mk->(∀y r,r∈rows->DV (aB O H) y (mk r)->TS.RowV K H b y r)->d=.list ((TS.sortR rows).map mk)->TS.rSortedP P K [.ref a] H Q:=λb mk rows E G I=>by
  subst E;have pr:=Vx D;have o:Paired (TS.RowV K H b) f rows:=by
   clear sq x;have:∀{f:List V}{k:List (List Int)},(∀r∈k,r∈rows)->Paired (λy r=>DV (aB O H) y (mk r)) f k->Paired (TS.RowV K H b) f k:=by
    intro f k A p
    induction p with
    |nil=>exact .nil
    |cons c _ J=>exact .cons (G _ _ (A _ q0g) c) (J λr g=>A r (bK _ g))
   exact this (λ_ h=>h) pr
  refine#[a,f,rows,b,B,rfl,sq,o,λl L s M N=>?_];subst I;refine q _ _ (cp s) (lB s (C l s) ?_);have S:∀z∈L,DV (aB O H) z.1 (mk z.2):=λz T=>TS.Paired.zipAll pr z (M.mem_iff.mp T);have:=Vy (TS.Paired.ofZip (R:=λy r=>DV (aB O H) y (mk r)) S)
  rwa [N]at this
 unfold oH at e;cases t:kh j with
 |some ns=>
  rw[t]at e;simp only[q1H,q0L]at e;refine go false (λr=>.int (r.headD 0)) (ns.map λn=>[n]) (by rw[Ak t];simp) (λy r g w=>?_) ?_
  .let⟨n,_,rfl⟩:=q0Q.mp g;exact#[n,w.int_inv,rfl]
  .rw[<-e,<-Vw,q0W];rfl
 |none=>
  rw[t]at e;cases u:kM j with
  |none=>rw[u]at e;cases e
  |some rows=>
   rw[u]at e;dsimp only at e;split at e
   .rename_i i;simp only[q1H,q0L]at e;refine go true (λr=>.tuple (r.map PyData.int)) rows (Al u) (λy r g w=>?_) e.symm;let⟨b,X,rfl,hb,U⟩:=w.tup_inv;rw[Am U]at hb;refine#[b,rfl,.inl (iB hb).1,λz=>?_];have:=q02.mp i r g;rw[z]at this;cases this
   .cases e
def oI:List PyData->Option PyData:=λa=>match a with
 |[.list ds]=>if ds.length<64 then(oH ds).map PyData.list else none
 |_=>none
def Hs:DN:=λa Q=>∃d,oI a=!d/\Q d
def VA{K}:jT (TS.rSortedS K) Hs where
 mn:=λ_ _ _ k zq1a=>by let⟨d,e,q⟩:=zq1a;exact#[d,e,k _ q]
 ok:=λO H vs xs Q hO hd q=>by
  let⟨d,e,q⟩:=q;obtain⟨ds,rfl,hl,e⟩:∃ds,xs=[.list ds]/\ds.length<64/\(oH ds).map PyData.list=!d:=by
   unfold oI at e;split at e
   .simp_all
   .cases e
  let⟨x,rfl,h1⟩:=ij hd;let⟨a,ys,rfl,ha,hy⟩:=h1.lst_inv;exact Vz (by rw[hy.length];exact hl) hO ha hy e q
end L2.L3
namespace L2.L3
open PySem
def VC(e:c "ANY_ZONE" = none)(f:c "NO_DEEDS" = none)(H):GH c H:=λx d u a b=>by
 unfold glob at a;lia
end L2.L3
namespace L2.L3
open PySem PySem.Spec PyProof.Rows
def VD:PE X (.UnaryOp .USub (.Constant (.int n) j p) q) (λY H Q=>Q (.int (-n)) H):=(CT (Oa λ_ _ _ _ _ q=>neg_int q) nQ).imp λY H Q h=>#[n,rfl,h]
theorem Ht{α:Type}{fp}:∀{n k},k<n->((List.replicate n ([]:List α)).set k fp).flatten=fp
 |0,_,h=>by lia
 |n+1,0,_=>by rw[q0F,q0N,q0e,uS,q0D]
 |n+1,k+1,h=>by rw[q0F,q09,q0e,Ht 'a'];rfl
def mY(own:List Str)(a:List Nat)(k:Nat)(b:Bx)(U:ag):ag:=(gE own a U).set (own.length+k) (!.own true b)
def vP(own:List Str)(h:List Nat)(k l:Nat)(s:fu)(g:fR)(o:dt)(p:DT):DT:=λU Q=>s U λc j=>∃io b,j[l]? = !!.own io b/\∃e:Nat->List PyData->ag->Prop,e 0 [] (mY own h k b j)/\
 (∀i d a f,c[i]? = !d->e i a f->g d f λq=>o q λb m=>if b=true then p m λy r=>a.length<sizeLine/\e (i+1) (a++[y]) r else e (i+1) a m)/\
 ∀a f,e c.length a f->∃n,f[own.length+k]? = !!.own true n/\a.length<=sizeLine/\Q (.list a) (j.set l (!.own io n))
def Hu(p:mJ s):Mn (vP own caps k jm s g tc te):=λ_ _ _ c q=>p _ _ _ (λ_ _ a=>by let⟨io,b,hb,d,f,i,j⟩:=a;exact#[io,b,hb,d,f,i,λm n h=>(by let⟨o,e,l,q⟩:=j m n h;exact#[o,e,l,c _ _ q])]) q
def Hv{K:Frag}{PF:Fx->Prop}(hP:∀u Y T G A O2 I,aF K F u Y T G->(∀a∈A,∃o,u a=!o/\Mv o)->PF #[u,A,O2,I])(a4:caps[k]? = !jm)(hs:mJ s)(hg:∀d U Q Q',(∀U',Q U'->Q' U')->g d U Q->g d U Q')(ht:jS tc)(he:Mn te):∀Y H Q,iD K F (vP own caps k jm s g tc te) Y H Q->
  my own caps (ry K F s) (λv Y H Q=>∃L,PF L/\og K L g v Y H Q) (λY H Q=>∃L,PF L/\kE K L tc Y H Q) (λY H Q=>∃L,PF L/\iD K L te Y H Q) Y H Q:=λY H Q a5=>by
 let⟨U,O,st,q⟩:=a5;refine#[U,O,st,hs _ _ _ (λM T a6 J u G B s1 wk=>?_) q];let⟨io,b0,a3,Iv,i0,step,fin⟩:=a6;let⟨W,C,w⟩:=id B;let⟨v0,fp,hY,hW,a,rfl,a7⟩:=C.at_ jm _ a3;rw[<-w]at a7;have b6:jm<T.length:=(q0a.mp a3).1;have b7:G.Nodup:=by rw[w];exact C.nd
 have a8:W.flatten.Nodup:=(q0f.mp C.nd).1;have b8:fp.Nodup:=a8.sublist (q1p (q0w hW));have N:∀c∈fp,c∈G:=λc f=>by rw[w];exact bB _ (cD hW f)
 have b9:∀c∈fp,∃o,u c=!o/\Mv o:=λc f=>B.live c (N c f);let r:List Addr:=G.filter λc=>decide (c∉fp);have t:∀c∈r,c∈G/\c∉fp:=λc h=>by let⟨h1,h2⟩:=q1E.mp h;exact#[h1,by simpa using h2]
 have inc:∀c∈G,c∉fp->c∈r:=λc h h2=>q1E.mpr #[h,by simpa using h2];have a0:∀c,c∈fp++r↔c∈G:=λc=>#[λh=>(q0b.mp h).elim (N c) λz=>(t c z).1,λh=>by
  by_cases z:c∈fp
  .exact bB _ z
  .exact bq _ (inc c h z)]
 have c0:(fp++r).Nodup:=q0f.mpr #[b8,b7.filter _,λx hx y hy e=>by subst e;exact(t x hy).2 hx];have bZ:aR G u (fp++r) u:=jq λc h=>(a0 c).mp h;let L:Fx:=#[u,fp,r,λ_=>a]
 have pf:PF L:=hP _ _ _ _ _ _ _ B b9;have kn:own.length+k<(gE own caps T).length:=by have:=(q0a.mp a4).1;unfold gE;simp;lia
 have ln:(gE own caps T).length=(ib own caps Y).length:=by unfold gE ib;simp
 have fl:((List.replicate (gE own caps T).length ([]:List Addr)).set (own.length+k) fp).flatten=fp:=Ht kn;have Yk:(ib own caps Y)[own.length+k]? = !!.ref a:=by unfold ib;rw[q0J 'd',q0d,Nat.add_sub_cancel_left,q0q,a4];show some ((Y[jm]?).getD none)=_;rw[hY];rfl
 refine#[rB K L M Iv,#[M.length,mY own caps k b0 T,fp++r,[],?_,i0,.nil,q0K _,rfl],?_]
 .have cell:∀(i:Nat) (c:af),(gE own caps T)[i]? = !!c->∃v,(ib own caps Y)[i]? = !!v/\uV K u G c v:=λi c e=>zj (λj _ c h=>EZ B j c h) e;refine#[(List.replicate (gE own caps T).length []).set (own.length+k) fp,#[λi c e=>?_,by show(_++r).Nodup;rw[fl];exact c0,λ_ _ _ h=>h,λc h=>?_,?_,?_,?_,λi b e=>?_],by show fp++r=_++r;rw[fl]]
  .unfold mY at e;rcases iC e with⟨rfl,e1,hl⟩ |⟨hi,e1⟩
   .cases e1;refine#[.ref a,fp,Yk,q0p (by simpa using hl),a,rfl,?_];show gO (aB (_++r) u) u a b0 fp;rw[fl];exact a7.keep (λ_ _=>rfl) bZ.hid
   .let⟨v,e2,_,e3⟩:=cell i c e1;refine#[v,[],e2,?_,?_]
    .rw[q0o (Ne.symm hi),q1e,if_pos (q0a.mp e1).1]
    .show fr K u (_++r) v c [];rw[fl];exact e3.keep bZ (λ_ _=>rfl) λ_ _ _ e=>e
  .rw[fl]at h;exact .inl h
  .show mI u (_++r);rw[fl];exactλc h=>B.live c ((a0 c).mp h)
  .unfold mY;rw[q0u];exact ln
  .unfold mY;rw[q0u,q0u,q0V]
  .unfold mY at e;rcases iC e with⟨rfl,_,_⟩ |⟨hi,e1⟩
   .exact Yk
   .let⟨_,_,n,_⟩:=cell i _ e1;exact absurd rfl (n true b)
 .rintro i m ys Y' H' ⟨U',O',ds,Z,iv,dv,hi,rfl⟩;let⟨W',h',D⟩:=id Z;have kp:∀b o,b∉fp->u b=!o->H' b=!o:=λb o hb e=>h'.kept b o hb e;have c1:aR G u O' H':=#[λb o hb e=>kp b o (λz=>hb (N b z)) e,λc h=>by
   rw[D]at h;rcases q0b.mp h with h |h
   .exact(h'.new c h).imp (N c) id
   .exact .inl (t c h).1]
  let⟨w1,w2⟩:=wk O' H' c1 Z.live
  by_cases a9:i<M.length
  .let⟨go,yld⟩:=w1 i M[i] (q0j a9);refine .inr #[go,λx H2 hy=>?_];let⟨c2,dx⟩:=yld x H2 hy;exact zk pf hg ht he step a9 Z iv dv c2 dx
  .have e:i=M.length:=by lia
   subst e;let⟨b',b1,hz,q⟩:=fin ds U' iv;refine .inl #[w2,by rw[dv.length];exact hz,λp hp=>?_];let⟨v',E,g1,g2,a',ea,g3⟩:=h'.at_ _ _ b1;have g4:=h'.io _ _ b1;rw[g1]at g4;obtain rfl:a' = a:=by cases ea;cases g4;rfl
   rw[<-D]at g3;have a1:∀c∈E,c∈O':=λc f=>by rw[D];exact bB _ (cD g2 f)
   have a2:(W'.flatten++r).Nodup:=h'.nd;have b3:E.Nodup:=(q0f.mp a2).1.sublist (q1p (q0w g2));have oth:∀j l,j≠jm->W[j]? = !l->∀c∈l,c∈r:=λj l X e c f=>inc c (by rw[w];exact bB _ (cD e f)) (mC a8 e hW X f);have R:∀c∈F.O₀,c∈r:=λc f=>inc c (by rw[w];exact bq _ f) λz=>(q0f.mp C.nd).2.2 c (cD hW z) c f rfl;have b4:∀c∈E,c∉r:=λc f z=>(q0f.mp a2).2.2 c (cD g2 f) c z rfl;have b5:∀c∈r,H' c=u c:=λc f=>by let⟨o,e,_⟩:=B.live c (t c f).1;rw[e];exact kp c o (t c f).2 e
   have S:∀c∈(W.set jm E).flatten++F.O₀,c∈O':=λc h=>by
    rcases q0b.mp h with h |h
    .rcases gP h with h |⟨j,l,X,e,hl⟩
     .exact a1 c h
     .rw[D];exact bq _ (oth j l X e c hl)
    .rw[D];exact bq _ (R c h)
   let⟨s2,s3⟩:=C.put (H':=H') (i:=jm) (v:=.ref a') (c:=.own io b') (fp:=E) b6 (λj l c X e f=>b5 c (oth j l X e c f)) (λc f=>b5 c (R c f)) (λc o f e=>kp c o (λz=>f (by rw[<-w];exact N c z)) e) b3
    (λc f=>#[λj l X e z=>b4 c f (oth j l X e c z),λz=>b4 c f (R c z)]) (λc f=>(h'.new c (cD g2 f)).imp (λz=>cD hW z) id) (λc f=>h'.live c (by rw[<-D];exact a1 c f)) (λ_=>#[a',rfl,g3.keep (λ_ _=>rfl) (uK S)]) (λb2 z=>by
     have e1:io=true:=by cases z;rfl
     subst e1;have:=C.io jm b0 a3;rw[hY]at this;exact q0x (q0x this))
   have eY:Y.set jm (!.ref a')=Y:=by
    apply q01;intro j
    by_cases X:j=jm
    .subst X;rw[q0p (q0a.mp hY).1,hY]
    .rw[q0o (Ne.symm X)]
   rw[eY]at s2;have stN:aF K F H' Y (T.set jm (!.own io b')) ((W.set jm E).flatten++F.O₀):=#[_,s2,rfl]
   rw[<-w]at s3;have c3:=Z.nofree p hp;exact q _ _ _ (stN.grow (cp hp)) (s1.trans (s3.trans (.same (cp hp)))) (lB hp (λz=>c3 (S p z)) (aK.mono (uK S) dv))
noncomputable def gX(g:GM)(t:XM Bool)(m:XM PyData):List PyData->List PyData->ag->Option (List PyData×ag)
 |[],a,U=>some (a,U)
 |d::r,a,U=>(match g d U with
  |some c=>(match t c with
   |.ok true b=>(match m b with
    |.ok y e=>if a.length<sizeLine then gX g t m r (a++[y]) e else none
    |_=>none)
   |.ok false b=>gX g t m r a b
   |_=>none)
  |none=>none)
def sh(own:Nat)(a:List Nat)(k e:Nat)(g:GM)(t:XM Bool)(m:XM PyData)(c:List PyData):XM PyData:=λd=>match d[e]? with
 |some (!.own io b)=>(match gX g t m c [] ((List.replicate own none++a.map λj=>rz d[j]?).set (own+k) (!.own true b)) with
  |some (f,h)=>(match h[own+k]? with
   |some (!.own true i)=>if f.length<=sizeLine then .ok (.list f) (d.set e (!.own io i)) else .bad
   |_=>.bad)
  |none=>.bad)
 |_=>.bad
def kj(own:Nat)(a:List Nat)(k b:Nat)(s:XM (List PyData))(g:GM)(t:XM Bool)(m:XM PyData):XM PyData:=λU=>(s U).bind (sh own a k b g t m)
def Hw(q:wp E (kj own.length f k r s g t m) U Q):vP own f k r (wp E s) (fH g) (wp eP t) (wp eP m) U Q:=aH _ _ _ (λn y q1=>by
 unfold wp sh at q1;split at q1
 .rename_i l
  revert q1 l
  split
  .rename_i io b hb;split
   .rename_i o z u;split
    .rename_i C v;split
     .rename_i D;intro l q1;cases l;have G:mY own f k b y=(List.replicate own.length none++f.map λj=>rz y[j]?).set (own.length+k) (!.own true b):=by unfold mY gE;rw[q1K]
      refine#[io,b,hb,λi p U=>gX g t m (n.drop i) p U=!(o,z),by rw[G];exact u,λi d p U hd a=>?_,λp U h=>?_]
      .have e:n.drop i=d::n.drop (i+1):=by let⟨w,H⟩:=q0a.mp hd;rw[<-H];exact q0E w
       simp only[e]at a;unfold gX at a;unfold fH;cases A:g d U with
       |none=>rw[A]at a;cases a
       |some I=>
        rw[A]at a;simp only at a ⊢;unfold wp;cases ht:t I with
        |ex c B=>rw[ht]at a;cases a
        |bad=>rw[ht]at a;cases a
        |ok b B=>
         rw[ht]at a;cases b with
         |false=>exact fP a
         |true=>
          refine fQ ?_;simp only at a ⊢;cases x:m B with
          |ex c J=>rw[x]at a;cases a
          |bad=>rw[x]at a;cases a
          |ok L J=>
           rw[x]at a;simp only at a ⊢;split at a
           .rename_i h;exact#[h,a]
           .cases a
      .simp only[q1x]at h;have e:p=o/\U=z:=by unfold gX at h;cases h;exact#[rfl,rfl]
       let⟨rfl,rfl⟩:=e;exact#[C,v,D,q1]
     .intro l _;cases l
    .intro l _;cases l
   .intro l _;cases l
  .intro l _;cases l
 .rename_i l
  revert l
  repeat (first |(split) |(intro l;cases l))
 .exact q1.elim) (bW (k:=sh own.length f k r g t m) q)
def VF(r:GF X.mg F)(S:al X a own b c)(i:c[k]? = !jm)(u:X.calm=true)(v:own.length=n)(w:FI X F E h iter s)
  (j:∀C fp l o p f,GF X.mg f->FG (cy X a (own++b) C fp l o p) f h g/\mQ (cy X a (own++b) C fp l o p) f eP e t/\FE (cy X a (own++b) C fp l o p) f eP d m)
  (y:autoParam (∀x,foldedSetIterable iter X.env x=pure x) Zs._auto_1):FE X F E (.ListComp d [#[h,iter,e,0]] a pos) (kj n c k jm s g t m):=by
 subst v;exact DE.imp' (by
    let⟨n,ht,o⟩:=j 0 [] (PySem.start X.prog).1 (λ_=>none) [] F r;refine#[Hu w.mn,(uI S u w.pi (λC fp d e f=>#[λa s Y H v u Q I r k1=>(by let⟨b,h,q⟩:=k1;exact(j C fp d e f b h).1.pg a s Y H v u Q I r q),λa s Y H Q I k2=>(by let⟨b,h,q⟩:=k2;exact(j C fp d e f b h).2.1.2 a s Y H Q I q),λa s Y H Q I k3=>(by let⟨b,h,q⟩:=k3;exact(j C fp d e f b h).2.2.pe a s Y H Q I q)]) y).imp (Hv (λ_ _ _ _ _ _ _ st p=>(r.at st).frame p) i w.mn n.mn ht.1 o.mn)]) aH λU Q q=>Hw q
def VG{h}(Z:X.N.Nodup)(B:X.N[i]? = !y)(hx:Loc X.env.scope y)(T:GF X.mg F)(S:al X a own capN caps)(G:caps[k]? = !R)(hc:X.calm=true)(hn:own.length=n)(J:FI X F E A iter s)
  (e:∀C fp o p w c,GF X.mg c->FG (cy X a (own++capN) C fp o p w) c A g/\mQ (cy X a (own++capN) C fp o p w) c eP l t/\FE (cy X a (own++capN) C fp o p w) c eP j m)
  (L:autoParam (swapsWith (.ListComp j [#[A,iter,l,0]] a pos) (!.Name y py) h.line X.env=pure true) Zq._auto_1)
  (hs:autoParam (∀x,foldedSetIterable iter X.env x=pure x) Zs._auto_1) (hf:autoParam (X.fn y=true\/X.env.scope.names.lookup y=!.local) Zqa._auto_1) :
  FS X F E (.Assign [.Name y py] (.ListComp j [#[A,iter,l,0]] a pos) h) (bh (kj n caps k R s g t m) (aw i)):=by
 subst hn;let⟨hg,ht,he⟩:=e 0 [] (PySem.start X.prog).1 (λ_=>none) [] F T;refine(Ek Z B hx S hc J.pi (λC fp o p w=>#[λb s Y H v u Q I r ⟨c,z,q⟩=>(e C fp o p w c z).1.pg b s Y H v u Q I r q,λb s Y H Q I ⟨c,z,q⟩=>(e C fp o p w c z).2.1.2 b s Y H Q I q,λb s Y H Q I ⟨c,z,q⟩=>(e C fp o p w c z).2.2.pe b s Y H Q I q]) L hs hf).imp
  λD Y H ⟨U,O,DD,st,q,f⟩=>Hv (λ_ _ _ _ _ _ _ st hA=>(T.at st).frame hA) G J.mn hg.mn ht.1 he.mn Y H _ #[U,O,st,Hu J.mn _ _ _ (λd U1 q1 v H1 O1 M s1 d1=>f.nx _ H1 _ O1 (M.set d1) s1 q1) (Hw (vd q))]
def kl(C:Addr)(i:Nat)(f:Str)(j l:Nat)(U:ag):Option (List (PyData×PyData)×PyData):=match cF C U i,en U j,en U l with
 |some (_,fs),!y,!z=>(match fs.lookup f with
  |some (.m true a)=>some (a,.tuple [y,z])
  |_=>none)
 |_,_,_=>none
def mZ(C:Addr)(i:Nat)(f:Str)(j l:Nat):XM PyData:=λU=>match kl C i f j l U with
 |some (a,d)=>lift ((gU true d).map λk=>PyData.bool (gT true a k).isSome) U
 |none=>.bad
def nb(C:Addr)(i:Nat)(f:Str)(j l:Nat):XM PyData:=λU=>match kl C i f j l U with
 |some (a,d)=>lift ((gU true d).bind λk=>gT true a k) U
 |none=>.bad
section
variable{X:Cx}{F:Fx}{E:Str->ag->Prop}{pos p1 p2 p3 p4 fpos:Pos}{x y z f:Str}{C:Addr}{i j l kx:Nat}
def Hx(h:kl C i f j l U=!(a,d)):∃io fs b c,cF C U i=!(io,fs)/\fs.lookup f=!.m true a/\en U j=!b/\en U l=!c/\d=.tuple [b,c]:=by
 unfold kl at h;split at h
 .rename_i io fs b c e g k;split at h
  .rename_i o n;cases h;exact#[_,_,_,_,e,n,g,k,rfl]
  .cases h
 .cases h
def VH(hu:X.A.units+1<cLine)(cl:dP X.K C)(na:di X.K C f)(hv:PE X (.Name x p1) (bQ i))(hy:PE X (.Name y p2) (bQ j))(hz:PE X (.Name z p3) (bQ l))(hb:autoParam (qSc X (.Name x p1) f) Zq._auto_1)
  (h1:autoParam (qSa X (.Name y p2) [.Name z p3]) Zq._auto_1) (h2:autoParam (qSa X (.Name z p3) []) Zq._auto_1)
  (hs:autoParam (yD (.Tuple [.Name y p2,.Name z p3] kx p4)) Zqb._auto_1) :
  FE X F E (.Subscript (.Attribute (.Name x p1) f fpos) (.Tuple [.Name y p2,.Name z p3] kx p4) pos) (nb C i f j l):=
 #[aH,(Ed hu (jN hv hb) (qU (dQ hy (dQ hz eK h2) h1)) hs).imp λY H Q b=>by
  let⟨U,O,st,q⟩:=b;unfold wp nb at q;cases a:kl C i f j l U with
  |none=>rw[a]at q;exact q.elim
  |some p=>
   let⟨t,d⟩:=p;rw[a]at q;let⟨io,fs,y0,z0,ho,c,hj,hl,rfl⟩:=Hx a;let⟨dd,e1,q2⟩:=da (o:=(gU true (.tuple [y0,z0])).bind λk=>gT true t k) (U:=U) (E:=E) q;let⟨k,hk,s⟩:=q0R.mp e1;let⟨a0,dx,gs,L,h,M,N,_,_⟩:=st.fldUp ho c rfl;let⟨T,u,w⟩:=st.dat (kJ hj);let⟨Z,B,D⟩:=st.dat (kJ hl);refine#[_,h,a0,C,dx,gs,.ref L,rfl,M,cl,na,N,T,u,Z,B,show 2<=sizeLine by decide,λp G=>?_];have I:bO H (aM H p (.tup [T,Z])):=cp G;have m:=st.grow I;obtain⟨a1,a2,a3,b1,n,R,S,⟨b2,eb,_,J⟩,_⟩:=m.fldUp ho c rfl;rw[h]at n;cases n;rw[I _ _ M]at R;cases R;rw[N]at S;cases S;cases eb;let⟨o,g,r⟩:=zJ J kA (kD G (st.nofree p G) (.cons w (.cons D .nil))) hk;rcases r with⟨rfl,e⟩ |⟨v,x,rfl,e,hx⟩
   .rw[e]at s;cases s
   .rw[e]at s;cases s;exact#[L,v,rfl,g,q2 v _ O m (aR.same I) hx]]
def VI(Z:X.A.units+1<cLine)(cl:dP X.K C)(na:di X.K C f)(hv:PE X (.Name x p1) (bQ i))(hy:PE X (.Name y p2) (bQ j))(hz:PE X (.Name z p3) (bQ l))(hb:autoParam (qSc X (.Name x p1) f) Zq._auto_1)
  (h1:autoParam (qSa X (.Name y p2) [.Name z p3]) Zq._auto_1) (h2:autoParam (qSa X (.Name z p3) []) Zq._auto_1)
  (hm:autoParam (behindInMarks .In (.Attribute (.Name x p1) f fpos)=false) Zq._auto_1) :
  FB X F E (.Compare (.Tuple [.Name y p2,.Name z p3] kx p4) [.In] [.Attribute (.Name x p1) f fpos] pos) (aC (mZ C i f j l)):=
 #[aH,(MS (Py Z (qU (dQ hy (dQ hz eK h2) h1)) (jN hv hb)) hm).imp λY H Q h=>by
  let⟨U,O,st,q⟩:=h;have m:=zp q;unfold ic wp mZ at m;cases a:kl C i f j l U with
  |none=>rw[a]at m;exact m.elim
  |some p=>
   let⟨n,d⟩:=p;rw[a]at m;let⟨io,fs,y0,z0,ho,s,hj,hl,rfl⟩:=Hx a;let⟨dd,e1,q2⟩:=da (o:=(gU true (.tuple [y0,z0])).map λk=>PyData.bool (gT true n k).isSome) (U:=U) (E:=E) m;let⟨k,hk,e3⟩:=q0i.mp e1;subst e3;let⟨S,t,u⟩:=st.dat (kJ hj);let⟨T,w,B⟩:=st.dat (kJ hl);refine#[S,t,T,w,show 2<=sizeLine by decide,λp D=>?_];have G:bO H (aM H p (.tup [S,T])):=cp D;have c:=st.grow G;obtain⟨a1,I,J,R,L,e4,l2,⟨b2,eb,_,M⟩,_⟩:=c.fldUp ho s rfl;cases eb;let⟨o,g,r⟩:=zJ M kA (kD D (st.nofree p D) (.cons u (.cons B .nil))) hk;let⟨b,N,q3⟩:=q2;cases N;refine#[_,L,a1,C,I,J,.ref R,rfl,e4,cl,na,l2,R,o,rfl,g,o.isSome,rfl,?_];rcases r with⟨rfl,e⟩ |⟨v,x,rfl,e,hx⟩
   .rw[e]at q3;exact q3 _ O c (aR.same G)
   .rw[e]at q3;exact q3 _ O c (aR.same G)]
end
def DF(K:Frag)(x:Str)(st:Stmt):Prop:=∃(f:Addr) (b:Value) (c d:Option Addr) (g:Array (Option Value)) (kV e pm a h:Value),nsIn K mainGlobals x=!!.ref f/\
 K.lookup f=!#[b,c,.func (fnOf x x (lx st) (iY st) (dS st) .none kV e pm d a h),g]/\codeIn K a x=true/\keepIn K (.ref f)=true
def MF(K:Frag)(C:Addr)(m q:Str)(st:Stmt):Prop:=∃(f:Addr) (b:Value) (c d:Option Addr) (g:Array (Option Value)) (kV e pm a h:Value),findIn K (.ref C) m=!!.ref f/\PySem.W.isFn K (.ref f)=true/\
 K.lookup f=!#[b,c,.func (fnOf m q (lx st) (iY st) (dS st) .none kV e pm d a h),g]/\codeIn K a q=true/\keepIn K (.ref f)=true
def vQ{P:List Value->Prop}(h:∀a,P [a]):∀c,c.length=1->P c:=λc e=>by
 cases c with
 |nil=>simp_all
 |cons a c=>
  simp_all
def Av{P:List Value->Prop}(h:∀a b,P [a,b]):∀c,c.length=2->P c:=λc e=>by
 cases c with
 |nil=>simp_all
 |cons a c=>exact vQ (P:=λl=>P (a::l)) (h a) c (q1W e)
def Aw{P:List Value->Prop}(h:∀a b c,P [a,b,c]):∀d,d.length=3->P d:=λd e=>by
 cases d with
 |nil=>simp_all
 |cons a d=>exact Av (P:=λl=>P (a::l)) (h a) d (q1W e)
def Hy{P:List Value->Prop}(h:∀a b c d,P [a,b,c,d]):∀f,f.length=4->P f:=λf e=>by
 cases f with
 |nil=>simp_all
 |cons a f=>exact Aw (P:=λl=>P (a::l)) (h a) f (q1W e)
abbrev Bd(x q:Str)(st:Stmt)(ps:List Str):Prop:=∀(kV a pm:Value) (d:Option Addr) (b e:Value) (c:List Value),c.length=ps.length->bindArgs (fnOf x q (lx st) (iY st) (dS st) .none kV a pm d b e) #[c,[]]=pure (ps.zip c)
theorem Zqg(_:0=0:=by first |exactλ_ _ _ _ _ _=>vQ λ_=>rfl |exactλ_ _ _ _ _ _=>Av λ_ _=>rfl |exactλ_ _ _ _ _ _=>Aw λ_ _ _=>rfl |exactλ_ _ _ _ _ _=>Hy λ_ _ _ _=>rfl |exactλ_ _ _ _ _ _=>b λ_ _ _ _ _=>rfl |exactλ_ _ _ _ _ _=>d λ_ _ _ _ _ _=>rfl):0=0:=rfl
theorem DF.fd{K:Frag}{st:Stmt}(D:DF K x st)(X:K.In h)(G:h.Ns mainGlobals mg)(e:autoParam (Bd x x st ps) Zqg._auto_1):∃g fd,FD K mg x st ps g fd:=by let⟨f,_,_,_,_,_,_,_,_,_,a,l,c,k⟩:=D;exact#[f,_,qY l c k,mg_of X G a,(qY l c k).binds e]
def MF.md{K:Frag}{st:Stmt}(D:MF K C m q st)(e:autoParam (Bd m q st ps) Zqg._auto_1):∃g fd,MD K C m q st ps g fd:=by let⟨f,_,_,_,_,_,_,_,_,_,a,i,l,c,k⟩:=D;exact#[f,_,qY l c k,#[a,i,k],(qY l c k).binds e]
structure FQ (X:Cx) (F:Fx) (e:Expr) (g:ag->Option PyData):Prop where
 ex:∃te,PE X e te/\∀Y U H O d Q,aF X.K F H Y U O->g U=!d->(∀v H',bO H H'->DV (aB O H') v d->Q v H')->te Y H Q
def fB(i:Nat):ag->Option PyData:=λU=>en U i
def lR(h:PE X (.Name x p1) (bQ i)):FQ X F (.Name x p1) (fB i):=#[_,h,λY U H O d Q st e q=>by
 let⟨w,c,f⟩:=st.dat (kJ e);exact#[w,c,q w H (bO.refl H) f]]
noncomputable def si(d:PyData):ag->Option PyData:=λ_=>!d
def VJ(h:PE X e (tC v))(hd:∀H,DV H v d):FQ X F e (si d):=#[_,h,λY U H O c Q st e q=>by
 cases e;exact q v H (bO.refl H) (hd _)]
def FQ.fe(h:FQ X F e g):FE X F E e (λU=>lift (g U) U):=by
 let⟨m,f,ht⟩:=h.ex;exact#[aH,f.imp λY H Q c=>by
  let⟨U,O,st,q⟩:=c;let⟨d,j,q1⟩:=da q;exact ht Y U H O d Q st j λv k s l=>q1 v k O (st.grow s) (.same s) l]
def eu(U:ag)(i:Nat):Option (Bool×List (Str×Fl)):=match U[i]? with
 |some (!.own io (.sd fs))=>some (io,fs)
 |_=>none
def lS(h:eu U i=!(io,fs)):U[i]? = !!.own io (.sd fs):=by
 unfold eu at h;split at h
 .simp_all
 .cases h
def kP(U:ag)(i:Nat):Option (List (Str×Fl)):=match U[i]? with
 |some (!.own _ (.sd fs))=>some fs
 |some (!.vw (.sd fs))=>some fs
 |_=>none
def aF.sdv{K}(st:aF K F H Y U O)(h:kP U i=!fs):∃a gs fps,Y[i]? = !!.ref a/\H a=!.dK (gs.map λp=>(Sum.inr p.1,p.2))/\aP (aB O H) H gs fs fps:=by
 unfold kP at h;split at h
 .rename_i e;cases h;obtain⟨a,fp,hv,⟨gs,fps,_,d,b⟩,_⟩:=st.box e;exact#[a,gs,fps,hv,d,b]
 .rename_i e;cases h;obtain⟨a,fp,hv,⟨gs,fps,_,d,b⟩⟩:=st.view e;exact#[a,gs,fps,hv,(cZ d).1,b.keep (λc g=>by let⟨o,f,_⟩:=b.live c g;rw[f];exact(cZ f).1) λ_ _ z=>z]
 .cases h
noncomputable abbrev cM(gs:List (Str×V)):List (aX×V):=gs.map λp=>(Sum.inr p.1,p.2)
theorem oJ(k):∀gs,gk (cM gs) (Sum.inr k)=gs.lookup k
 |[]=>rfl
 | (n,v)::gs=>by
  show gk ((Sum.inr n,v)::cM gs) (Sum.inr k)=_
  by_cases e:k=n
  .subst e;rw[qZ rfl];simp
  .rw[ra (λz=>e 'h'),oJ k gs,q0n,show(k==n)=false by simpa using e]
theorem Hz(k v):∀gs,(gs.map (·.1)).Nodup->k∈gs.map (·.1)->(cM gs).map (λa=>if a.1=(Sum.inr k:aX) then(a.1,v) else a)=cM (cS k v gs)
 | (n,w)::gs,nd,h=>by
  rw[q0h,q0v]at nd;show(if (Sum.inr n:aX)=Sum.inr k then((Sum.inr n:aX),v) else(Sum.inr n,w))::(cM gs).map _=_;unfold cS
  by_cases e:n=k
  .subst e;rw[if_pos rfl,if_pos rfl];show _::_=(Sum.inr n,v)::cM gs
   congr 1
   have:∀p∈cM gs,(λa:aX×V=>if a.1=(Sum.inr n:aX) then(a.1,v) else a) p=p:=λp b=>by grind
   exact(q1i this).trans (List.map_id'' (λ_=>rfl) _)
  .rw[if_neg (λz=>e (by injection z)),if_neg e];show _::_=(Sum.inr n,w)::cM (cS k v gs)
   congr 1
   refine Hz k v gs nd.2 ?_;rcases q0c.mp h with h |h
   .exact absurd h.symm e
   .exact h
def HA(b:(gs.map (·.1)).Nodup)(h:k∈gs.map (·.1)):eE (cM gs) (Sum.inr k) v=cM (cS k v gs):=by unfold eE;rw[if_pos,Hz k v gs b h];simp_all
def aP.names{fps}(h:aP G H gs fs fps):gs.map (·.1)=fs.map (·.1):=by
 induction h with
 |nil=>rfl
 |cons _ _ a=>simp_all
def vR{β:Type}:∀{l:List (Str×β)},(l.lookup k).isSome=true->k∈l.map (·.1)
 | (n,v)::l,h=>by
  simp_all
def aF.sdUp{K}(st:aF K F H Y U O)(B:eu U i=!(io,fs))(lk:fs.lookup f=!x)(C:vA x=true) :
  ∃a gs b,Y[i]? = !!.ref a/\H a=!.dK (cM gs)/\gs.lookup f=!.ref b/\gA (aB O H) H (.ref b) x [b]/\
   ∀d  g,Mv d->(∀G,bO (aB O H) G->gA G (aM H b d) (.ref b) g [b])->∃h,aF K F (aM H b d) Y (U.set i (!.own io (.sd (bi f g fs)))) h/\aR O H h (aM H b d):=by
 obtain⟨a,fp,k,⟨gs,fps,q,p,r⟩,D,nd,up⟩:=st.boxN (lS B);subst q;have j:=nd;rw[q0v]at j;let⟨t,u⟩:=j;let⟨b,q1,q2,q3,q4⟩:=Hb C r lk u;have v:a≠b:=λz=>t (by rw[z];exact q3);refine#[a,gs,b,k,p,q1,q2,λd g E w=>?_];let⟨h,l,y,_⟩:=up (aM H b d) (.sd (bi f g fs)) (a::fps.flatten) (λc o m e=>by rw[bt (λz=>m (by rw[z];exact bK _ q3))];exact e) nd (λc m=>.inl m) (λG h s A _=>by
  subst A;exact#[s.hid,gs,fps,rfl,by rw[bt v];exact p,q4 _ _ g s.hid (λc _ n=>bt n) (w _ s.hid)])
 exact#[h,l,y]
def VL(i:Nat)(k:Str):TE:=λY H Q=>∃a gs v,Y[i]? = !!.ref a/\H a=!.dK (cM gs)/\gs.lookup k=!v/\Q v H
def qh(c:X.A.units+1<cLine)(j:PE X (.Name x p1) (bQ i)):PE X (.Subscript (.Name x p1) (.Constant (.str k) jk p2) pos) (VL i k):=
 (Ed c j nR 'l').imp λY H Q ⟨a,gs,v,d,f,h,q⟩=>#[_,d,a,v,rfl,by
  have:=iZ.k (k:=Sum.inr k) f;rw[oJ,h]at this;exact this,q]
def ba(i:Nat)(k:Str):ag->Option PyData:=λU=>match kP U i with
 |some fs=>(match fs.lookup k with
  |some (.d d)=>some d
  |_=>none)
 |none=>none
def cV(j:X.A.units+1<cLine)(u:PE X (.Name x p1) (bQ i)):FQ X F (.Subscript (.Name x p1) (.Constant (.str k) jk p2) pos) (ba i k):=#[_,qh j u,λY U H O d Q st e q=>by
 unfold ba at e;cases ho:kP U i with
 |none=>simp_all
 |some fs=>
  rw[ho]at e;simp only at e;let⟨n,gs,fps,c,o,p⟩:=st.sdv ho;rcases jA p k with⟨h,f⟩ |⟨v,y,r,h,f,s,_⟩
  .simp_all
  .rw[f]at e;cases y with
   |d w=>cases e;exact#[n,gs,v,c,o,h,q v H (bO.refl H) s.2]
   |l ds=>cases e
   |m z t=>cases e]
def iq(i:Nat)(k:Str)(g:ag->Option PyData):ag->Option PyData:=λU=>match kP U i,g U with
 |some fs,!.int n=>(match fs.lookup k with
  |some (.l ds)=>bT ds n
  |some (.d (.list ds))=>bT ds n
  |_=>none)
 |_,_=>none
def sj(G:X.A.units+1<cLine)(hv:PE X (.Name x p1) (bQ i))(I:FQ X F e g)(hs:autoParam (nU e) Zqb._auto_1):FQ X F (.Subscript (.Subscript (.Name x p1) (.Constant (.str k) jk p2) fpos) e pos) (iq i k g):=by
 let⟨te,J,ht⟩:=I.ex;refine#[_,qW qX (qh G hv) J hs,λY U H O d Q st e q=>?_];unfold iq at e;cases ho:kP U i with
 |none=>rw[ho]at e;cases e
 |some fs=>
  cases f:g U with
  |none=>rw[ho,f]at e;cases e
  |some L=>
   rw[ho,f]at e;cases L with
   |int n=>
    simp only at e;let⟨M,gs,fps,h,N,R⟩:=st.sdv ho;rcases jA R k with⟨B,j⟩ |⟨v,y,S,B,j,C,_⟩
    .rw[j]at e;cases e
    .rw[j]at e;refine#[M,gs,v,h,N,B,ht Y U H O _ _ st f λw D s T=>?_];obtain rfl:=T.int_inv;cases y with
     |m tk Z=>cases e
     |l ds=>let⟨o,p,rfl,_,r,c⟩:=C;let⟨u,t,z⟩:=vD c e;exact#[o,p,n,u,rfl,rfl,.of (s _ _ r),t,q u D s (DV.mono (kB s) z)]
     |d x0=>
      cases x0 with
      |list ds=>let⟨o,p,rfl,r,c⟩:=C.2.lst_inv;let⟨u,t,z⟩:=vD c e;exact#[o,p,n,u,rfl,rfl,.of (s _ _ (cZ r).1),t,q u D s (DV.mono (kB s) z)]
      |_=>cases e
   |_=>cases e
def sk(ga gb:ag->Option PyData):ag->Option PyData:=λU=>(ga U).bind λd=>(gb U).bind λi=>au d i
def VM(c:FQ X F a ga)(l:FQ X F b gb)(G:autoParam (nU b) Zqb._auto_1):FQ X F (.Subscript a b pos) (sk ga gb):=by let⟨J,pa,c⟩:=c.ex;let⟨I,pb,l⟩:=l.ex;refine#[_,qW (kz.or DJ qX) pa pb G,λY U H O d Q st e q=>?_];let⟨f,m,n⟩:=q0R.mp e;let⟨db,o,r⟩:=q0R.mp n;exact c Y U H O f _ st m λv s h t=>l Y U s O db _ (st.grow h) o λw y j z=>(GW).ok O y v w f db Q (λp A=>(st.grow (h.trans j)).nofree p A) (DV.mono (kB j) t) z (GX f db d _ r λu B C D=>q u B (h.trans (j.trans C)) D)
def so(i:Nat)(k:Str)(d:PyData):SM:=λU=>match eu U i with
 |some (io,fs)=>if (fs.map (·.1)).Nodup/\kI (fs.lookup k)=true/\(fs.lookup k).isSome=true/\fs.length<1000 then .nx (U.set i (!.own io (.sd (bi k (.d d) fs)))) else .bad
 |none=>.bad
def gq(i:Nat)(k:Str)(m:XM PyData):SM:=λU=>ef (m U) (so i k)
def HB(I:X.A.units+1<cLine)(hv:PE X (.Name x p1) (bQ i))(J:FE X F E e m)(hs:autoParam (swapsWith e (!.Subscript (.Name x p1) (.Constant (.str k) jk p2) f) pos.line X.env=pure false) Zq._auto_1) :
  FS X F E (.Assign [.Subscript (.Name x p1) (.Constant (.str k) jk p2) f] e pos) (gq i k m):=
 (yE I hv nR J.pe hs).imp λD Y H ⟨U,O,DD,st,q,L⟩=>#[U,O,st,aH _ _ _ (λd M q1 l B O1 n N Q=>by
  unfold wpS so at q1;cases ho:eu M i with
  |none=>rw[ho]at q1;exact q1.elim
  |some p=>
   let⟨io,fs⟩:=p;rw[ho]at q1;simp only at q1
   by_cases h:(fs.map (·.1)).Nodup/\kI (fs.lookup k)=true/\(fs.lookup k).isSome=true/\fs.length<1000
   .rw[if_pos h]at q1;obtain⟨j,fp,r,⟨gs,fps,R,S,t⟩,hO,nd,up⟩:=n.boxN (lS ho);subst R;have C:=t.names;have sz:1000<sizeLine:=by decide
    refine#[_,r,j,_,rfl,mx.k (k:=Sum.inr k) (v:=l) S (by rw[q0d,t.len];lia),?_];rw[HA (by rw[C];exact h.1) (by rw[C];exact vR h.2.2.1)];have T:j∉fps.flatten:=(q0v.mp nd).1;let⟨O3,u,Z,_⟩:=up (aM B j (.dK (cM (cS k l gs)))) (.sd (bi k (.d d) fs)) (j::fps.flatten) (λc o w e=>by rw[bt (λz=>w (by simp[z]))];exact e) nd (λc h=>.inl h) (λG O' s hG _=>by
     subst hG;have:=t.putD (H':=aM B j (.dK (cM (cS k l gs)))) h.2.1 (DV.mono s.hid Q) s.hid (λc y=>bt (λz=>T (by rw[<-z];exact y)));rw[if_pos h.2.2.1]at this;exact#[s.hid,_,fps,rfl,cI,this])
    exact L.nx _ _ _ _ u (N.trans Z) q1
   .rw[if_neg h]at q1;exact q1.elim) (fJ (m:=m) (k:=so i k) q)]
def sr(i:Nat)(k:Str)(g:ag->Option PyData)(v:PyData):SM:=λU=>match eu U i,g U with
 |some (io,fs),!.int n=>(match fs.lookup k with
  |some (.l ds)=>(match dR ds.length n with
   |some j=>.nx (U.set i (!.own io (.sd (bi k (.l (ds.set j v)) fs))))
   |none=>.bad)
  |_=>.bad)
 |_,_=>.bad
def su(i:Nat)(k:Str)(g:ag->Option PyData)(m:XM PyData):SM:=λU=>ef (m U) (sr i k g)
def VN{pos:Pos}(hu:X.A.units+1<cLine)(hv:PE X (.Name x p1) (bQ i))(L:FQ X F a g)(he:FE X F E e m)
  (hs:autoParam (swapsWithSole [.Subscript (.Subscript (.Name x p1) (.Constant (.str k) jk p2) fpos) a c] e pos.line X.env=pure false) Zq._auto_1) (hw:autoParam (swappedStores [.Subscript (.Subscript (.Name x p1) (.Constant (.str k) jk p2) fpos) a c] e X.env=pure none) Zq._auto_1)
  (h1:autoParam ((assignEach [.Subscript (.Subscript (.Name x p1) (.Constant (.str k) jk p2) fpos) a c] X.env).map (·.2)=[assign (.Subscript (.Subscript (.Name x p1) (.Constant (.str k) jk p2) fpos) a c) X.env]) Zq._auto_1)
  (hq:autoParam (∀v,assign (.Subscript (.Subscript (.Name x p1) (.Constant (.str k) jk p2) fpos) a c) X.env v=(do
   let J <-holding [v] (eval (.Subscript (.Name x p1) (.Constant (.str k) jk p2) fpos) X.env);let M <-holding [v,J] (eval a X.env)
   standAt c
   holding [v,J,M] (setItem J M v)
   release [v,J,M] [])) Zs._auto_1) :
  FS X F E (.Assign [.Subscript (.Subscript (.Name x p1) (.Constant (.str k) jk p2) fpos) a c] e pos) (su i k g m):=by
 let⟨ta,pa,L⟩:=L.ex;exact(yk he.pe (CO (qh hu hv) pa DK hq) hs hw h1).imp λD Y H ⟨U,O,DD,st,q,fD⟩=>#[U,O,st,aH _ _ _ (λv N q1 vy H1 O1 h s1 d1=>by
  unfold wpS sr at q1;cases ho:eu N i with
  |none=>rw[ho]at q1;exact q1.elim
  |some p=>
   let⟨io,fs⟩:=p;cases Q:g N with
   |none=>rw[ho,Q]at q1;exact q1.elim
   |some y0=>
    rw[ho,Q]at q1;cases y0 with
    |int n=>
     simp only at q1;cases f:fs.lookup k with
     |none=>rw[f]at q1;exact q1.elim
     |some t=>
      rw[f]at q1;cases t with
      |d _=>exact q1.elim
      |m _ _=>exact q1.elim
      |l ds=>
       simp only at q1;cases R:dR ds.length n with
       |none=>rw[R]at q1;exact q1.elim
       |some j=>
        rw[R]at q1;obtain⟨a0,a4,r,⟨o,a3,e1,e2,e4⟩,_,_⟩:=h.box (lS ho);rcases jA e4 k with⟨_,u⟩ |⟨w0,y,a5,S,u,l3,_⟩
        .rw[f]at u;cases u
        .rw[f]at u;cases u;refine#[a0,o,w0,r,e2,S,L Y N H1 O1 _ _ h Q λw H' s dw=>?_];obtain rfl:=dw.int_inv;obtain⟨a1,gs,b0,B,C,T,⟨b1,Z,eb,_,hH,I⟩,up⟩:=(h.grow s).sdUp ho f rfl;rw[r]at B;cases B;rw[s _ _ e2]at C;have eg:o.lookup k=gs.lookup k:=by
          rw[<-oJ,<-oJ];injection C with z
          injection z with z
          rw[show cM o=cM gs from z]
         rw[eg,T]at S;cases S;cases eb;let⟨O2,a2,s2⟩:=up (.lst (Z.set j vy)) (.l (ds.set j v)) trivial (λG g=>#[b0,Z.set j vy,rfl,rfl,cI,Ad (DV.mono g (DV.mono (kB s) d1)) j (aK.mono g I)]);exact#[b0,Z,n,j,rfl,rfl,hH,by rw[I.length];exact R,fD.nx _ _ _ _ a2 (s1.trans ((aR.same s).trans s2)) q1]
    |_=>exact q1.elim) (fJ (m:=m) (k:=sr i k g) q)]
end L2.L3
namespace L2
open PySem PySem.Spec PyProof.Rows
def VO(b:List (TE×TE)):TE:=λY H Q=>rc b Y H λe c=>∃a:List (aX×V),e=a.map (λd=>(kV d.1,d.2))/\a.length<=15/\∀p,c p=none->Q (.ref p) (aM c p (.dK (jP [] a)))
def VP(h:pL X pos keys values f)(g:keys.all (·.isSome)=true)(J:keys.length=values.length)(L:keys≠[])
  (n:keys.length<=15):PE X (.Dict keys values pos) (VO f):=by
 intro a s Y H Q I q;have C:=I.hok.fresh (bu s.heap.objs.size);have i:=I.fpOk (bu _) C;have I1:Inv X a Y H { s with heap:=s.heap.push { cls:=.type "dict",data:=.dict #[] },toks:=s.toks }:=I.kept λ_ _ q=>ca _ q;have D:(s.heap.push { cls:=.type "dict",data:=.dict #[] }).get? s.heap.objs.size=some { cls:=.type "dict",data:=.dict #[] }:=Heap.get?_push_size _ rfl;have t:Inv X (a++[(s.heap.objs.size,({ cls:=.type "dict",data:=.dict #[] }:Obj))]) Y H { s with heap:=s.heap.push { cls:=.type "dict",data:=.dict #[] },toks:=s.toks }:=I1.pins_of λp j=>by
  rcases q0b.mp j with j |j
  .exact I1.pin p (bq _ j)
  .obtain rfl:=q0l.mp j;exact#[D,C,i.2.1,i.2.2.1,λv z=>by cases z]
 refine wpAny_Dict_walk (knd:=fM X.prog X.w) g J L n (aS (h _ _ Y _ _ t q) λM u k=>?_);let⟨ps,x,E,rel,l,N,lk,q2⟩:=k;subst N;let⟨O,c,R⟩:=Ef (P:=X.prog) (w:=X.w) rel;let⟨S,m,_⟩:=E.pin (s.heap.objs.size,_) (bq _ (bq _ (q0l.mpr rfl)));have m:x s.heap.objs.size=none:=m;have dd:u.heap.DictOf (fM X.prog X.w) s.heap.objs.size []:=by
  let⟨od,T,y,G,r⟩:=(Heap.DictOf.new (knd:=fM X.prog X.w) s.heap)
  rw[D]at G;cases G;exact#[_,T,y,S,r]
 have A:=E.unpinned;have d:iU X a x s.heap.objs.size:=I.fpOk (bu _) m;refine#[O,c,dd,λU B hs=>#[.ref s.heap.objs.size,_,?_,rfl,q2 _ m]];have Z:(jP [] l).length<=sizeLine:=by have h1:=yG l [];rw[q0T]at h1;rw[sizeLine_eq];lia
 have I3:Inv X a Y x { u with heap:=U,toks:=u.toks+M.length }:=A.turned (it:=s.heap.objs.size) (λb o hb e=>(hs.2 b hb).trans e) m d.2.1 (.inr I.sz) d.2.2.2.2.1 d.2.2.2.2.2;exact I3.track d (yC Z (beq_eq_false_iff_ne.mpr (Ne.symm (q0s I.big))) (R.merge .nil) B)
end L2
namespace L2.L3
open PySem PySem.Spec PyProof.Rows
theorem HD:∀gs a,(a.map (·.1)++gs.map (·.1)).Nodup->jP (cM a) (cM gs)=cM (a++gs)
 |[],a,_=>by simp[jP]
 | (n,v)::gs,a,nd=>by
  have b:gk (cM a) (Sum.inr n)=none:=by
   rw[oJ];cases e:a.lookup n with
   |none=>rfl
   |some w=>have:=vR (by rw[e];rfl);rw[q0h]at nd;exact absurd rfl ((q0f.mp nd).2.2 n this n q0g)
  show jP (eE (cM a) (Sum.inr n) v) (cM gs)=_;rw[uF v b];have:cM a++[((Sum.inr n),v)]=cM (a++[(n,v)]):=by simp
  rw[this,HD gs (a++[(n,v)]) (by simpa using nd)];simp
def VQ(K:Frag)(F:Fx)(t:ag->(List (Str×Fl)->ag->Prop)->Prop):St->Hp->(List (V×V)->Hp->Prop)->Prop:=λY H Q=>∃U O,aF K F H Y U O/\t U λfs d=>∀gs fps b c,aF K (F.plus fps.flatten) b Y d c->aP (aB c b) b gs fs fps->(∀a∈fps.flatten,a∈F.A₀\/F.H₀ a=none)->aR O H c b->Q (gs.map λp=>(V.str p.1,p.2)) b
structure sv (X:Cx) (F:Fx) (E:Str->ag->Prop) (pos:Pos) (keys:List (Option Expr)) (vals:List Expr) (m:XM (List (Str×Fl))):Prop where
 ex:∃trs,pL X pos keys vals trs/\∀Y H Q,VQ X.K F (wp E m) Y H Q->rc trs Y H Q
structure sx (X:Cx) (pos:Pos) (keys:List (Option Expr)) (vals:List Expr) (cs:List (Str×PyData)):Prop where
 ex:∃trs,pL X pos keys vals trs/\∀Y H Q,(∀gs,Paired (λ(p:Str×V) (q:Str×PyData)=>p.1=q.1/\∀G,DV G p.2 q.2) gs cs->Q (gs.map λp=>(V.str p.1,p.2)) H)->rc trs Y H Q
noncomputable def qi(a:List (Str×PyData)):List (Str×Fl):=a.map λp=>(p.1,.d p.2)
def Ax:∀{gs a},Paired (λ(p:Str×V) (q:Str×PyData)=>p.1=q.1/\∀G,DV G p.2 q.2) gs a->aP G H gs (qi a) (a.map λ_=>[]):=λw=>by
 induction w with
 |nil=>exact .nil
 |@cons x y gs a b t i=>let⟨n,v⟩:=x;let⟨e,d⟩:=y;let⟨b,c⟩:=b;cases b;exact .cons #[rfl,c _] i
def sy{α β:Type}:∀l:List β,(l.map λ_=>([]:List α)).flatten=[]
 |[]=>rfl
 |_::l=>by simp_all
def Ay:sx X pos [] [] []:=#[_,PL,λY H Q q=>q [] .nil]
def vS(h:PE X e (tC v))(hd:∀G,DV G v d)(a:sx X pos ks vs cs):sx X pos (some (.Constant (.str k) jk p2)::ks) (e::vs) ((k,d)::cs):=by let⟨b,c,ht⟩:=a.ex;exact#[_,yF nR h c,λY H Q q=>ht Y H _ λgs f=>q ((k,v)::gs) (.cons #[rfl,hd] f)]
def qj(cs:List (Str×PyData)):XM (List (Str×Fl)):=λU=>.ok (qi cs) U
def VR(h:sx X pos ks vs cs):sv X F E pos ks vs (qj cs):=by
 let⟨b,c,ht⟩:=h.ex;refine#[b,c,λY H Q k1=>?_];let⟨U,O,st,q⟩:=k1;refine ht Y H Q λgs d=>q gs (cs.map λ_=>[]) H O ?_ (Ax d) ?_ .refl
 .rw[sy];exact st
 .rw[sy];simp_all
def vT(k:Str)(cs:List (Str×PyData))(c:af):XM (List (Str×Fl)):=λa=>match c with
 |.own false (.l ds)=>.ok ((k,.l ds)::qi cs) a
 |_=>.bad
def jC(k:Str)(m:XM af)(cs:List (Str×PyData)):XM (List (Str×Fl)):=λU=>(m U).bind (vT k cs)
def HE(g:FO X F E e m)(h:sx X pos ks vs cs):sv X F E pos (some (.Constant (.str k) jk p2)::ks) (e::vs) (jC k m cs):=by
 let⟨i,j,ht⟩:=h.ex;refine#[_,yF nR g.pe j,λY H Q d=>?_];let⟨U,O,st,q⟩:=d;refine#[U,O,st,aH _ _ _ (λc u q1 v f n fp r o=>ht Y f _ λgs t=>?_) (bW (m:=m) (k:=vT k cs) q)];cases c with
 |own io b=>
  cases io with
  |true=>exact q1.elim
  |false=>
   cases b with
   |l ds=>
    let⟨a,rfl,rfl,p,s,hd⟩:=r.at_;refine q1 ((k,.ref a)::gs) ([a]::cs.map λ_=>[]) f n ?_ (.cons #[a,p,rfl,rfl,s,hd] (Ax t)) ?_ o
    .rw[q0e,sy,q0D];exact r.st
    .rw[q0e,sy,q0D];exact r.new
   |_=>exact q1.elim
 |_=>exact q1.elim
def sA(k:Str)(d:PyData)(fs:List (Str×Fl)):XM (List (Str×Fl)):=λa=>.ok ((k,.d d)::fs) a
def sB(k:Str)(r:XM (List (Str×Fl)))(d:PyData):XM (List (Str×Fl)):=λa=>(r a).bind (sA k d)
def ez(k:Str)(m:XM PyData)(r:XM (List (Str×Fl))):XM (List (Str×Fl)):=λU=>(m U).bind (sB k r)
def sC(i:FE X F E e m)(h:sv X F E pos ks vs b):sv X F E pos (some (.Constant (.str k) jk p2)::ks) (e::vs) (ez k m b):=by let⟨j,l,ht⟩:=h.ex;refine#[_,yF nR i.pe l,λY H Q a=>?_];let⟨U,O,st,q⟩:=a;refine#[U,O,st,aH _ _ _ (λd n q1 v o p c r s=>ht Y o _ #[n,p,c,aH _ _ _ (λfs y q2 gs fps t u f w x g=>?_) (bW q1)]) (bW q)];exact q2 ((k,v)::gs) ([]::fps) t u (by rw[q0e];exact f) (.cons #[rfl,DV.mono g.hid s] w) (by rw[q0e];exact x) (r.trans g)
def ng(fs:List (Str×Fl)):XM af:=lift (if (fs.map (·.1)).Nodup/\fs.length<=15 then some (.own false (.sd fs)) else none)
def iO(m:XM (List (Str×Fl))):XM af:=λU=>(m U).bind ng
def Az(h:sv X F E pos ks vs m)(b:ks.all (·.isSome)=true)(v:ks.length=vs.length)(w:ks≠[])(j:ks.length<=15):FO X F E (.Dict ks vs pos) (iO m):=by
 let⟨x,y,ht⟩:=h.ex;refine#[aH,(VP y b v w j).imp λY H Q k1=>?_];let⟨U,O,st,q⟩:=k1;refine ht Y H _ #[U,O,st,aH _ _ _ (λfs I q1 gs fps A J d g B C=>?_) (bW (m:=m) (k:=ng) q)];let⟨c,l,q2⟩:=da q1;split at l
 .rename_i i;cases l;have D:=g.names;refine#[cM gs,by simp[cM,kV],by rw[q0d,g.len];exact i.2,λp n=>?_];have s:=HD gs [] (by simpa[D] using i.1);rw[show cM ([]:List (Str×V))=[] from rfl,q0r]at s;rw[s];let⟨G,f,t⟩:=d.fresh (o:=.dK (cM gs)) n trivial;rw[Fx.plus_plus]at f;have live:∀c∈fps.flatten,∃o,A c=!o/\Mv o:=g.live;refine q2 _ _ G (p::fps.flatten) #[f,#[p,rfl,gs,fps,rfl,cI,g.keep (λc i=>bt λz=>?_) t.hid],λa r=>?_] (C.trans t)
  .let⟨o,u,_⟩:=live c i;rw[z,n]at u;cases u
  .rcases q0c.mp r with rfl |r
   .exact d.new1 n a 'd'
   .exact B a r
 .cases l
def vU(d k:PyData):XM af:=lift (match jV d k with
 |some (.list ds)=>some (.own false (.l ds))
 |_=>none)
def vV(n:XM PyData)(d:PyData):XM af:=λa=>(n a).bind (vU d)
def lT(m n:XM PyData):XM af:=λU=>(m U).bind (vV n)
def VS(B:FE X F E a s)(R:FE X F E b j):FO X F E (.BinOp a .Mult b pos) (lT s j):=by
 refine#[aH,(CS Ea B.pe R.pe).imp λY H Q h=>?_];let⟨U,O,st,q⟩:=h;refine#[U,O,st,aH _ _ _ (λd C q1 v S D t G I=>?_) (bW (m:=s) (k:=vV j) q)];refine#[C,D,t,aH _ _ _ (λk T q2 w J Z i x L=>?_) (bW (m:=j) (k:=vU d) q1)];let⟨c,f,q3⟩:=da q2;unfold jV at f;cases d with
 |list ds=>
  cases k with
  |int n=>
   simp only at f
   by_cases g:(decide (-(2 ^ 63)<=n)&&decide (n<2 ^ 63)&&decide (ds.length * n.toNat<=sizeLine))=true
   .rw[if_pos g]at f;cases f;simp only[q0B,decide_eq_true_eq]at g;let⟨l,r,rfl,M,hd⟩:=(DV.mono x.hid I).lst_inv;obtain rfl:=L.int_inv;refine#[l,n,r,rfl,rfl,(cZ M).1,g.1.1,g.1.2,by rw[hd.length];exact g.2,λp y=>?_];let⟨z,u,A⟩:=i.fresh (o:=.lst (List.replicate n.toNat r).flatten) y trivial;refine q3 _ _ z [p] #[u,#[p,rfl,rfl,_,cI,?_],i.new1 y] (G.trans (x.trans A));have:∀m:Nat,aK (aB z (aM J p (.lst (List.replicate n.toNat r).flatten))) (List.replicate m r).flatten (List.replicate m ds).flatten:=λm=>by
     induction m with
     |zero=>exact .nil
     |succ m N=>rw[q0F,q0F,q0e,q0e];exact(aK.mono A.hid hd).append N
    exact this _
   .rw[if_neg g]at f;cases f
  |_=>cases f
 |_=>cases f
def xQ(g:ag->Option PyData):XM PyData:=λU=>lift (g U) U
def cQ(h:FQ X F e g):FE X F E e (xQ g):=h.fe
structure vW (X:Cx) (F:Fx) (es:List Expr) (g:ag->Option (List PyData)):Prop where
 ex:∃ta,PA X es ta/\∀Y U H O ds Q,aF X.K F H Y U O->g U=!ds->(∀vs H',bO H H'->aK (aB O H') vs ds->Q vs H')->ta Y H Q
noncomputable def gNil:ag->Option (List PyData):=λ_=>![]
noncomputable def gCons(g:ag->Option PyData)(gs:ag->Option (List PyData)):ag->Option (List PyData):=λU=>match g U,gs U with
 |some d,!ds=>some (d::ds)
 |_,_=>none
def VT:vW X F [] gNil:=#[_,eK,λY U H O c Q st e q=>by
 cases e;exact q [] H (bO.refl H) .nil]
def sD(f:FQ X F e g)(m:vW X F es gs)(u:autoParam (qSa X e es) Zq._auto_1):vW X F (e::es) (gCons g gs):=by
 let⟨w,pe,f⟩:=f.ex;let⟨y,pa,n⟩:=m.ex;refine#[_,dQ pe pa u,λY U H O z Q st e q=>?_];unfold gCons at e;cases c:g U with
 |none=>simp_all
 |some d=>
  cases h:gs U with
  |none=>simp_all
  |some r=>rw[c,h]at e;cases e;exact f Y U H O d _ st c λv o j p=>n Y U o O r _ (st.grow j) h λvs s l t=>q _ s (j.trans l) (.cons (DV.mono (kB l) p) t)
noncomputable def vX(gs:ag->Option (List PyData)):ag->Option PyData:=λU=>match gs U with
 |some ds=>if ds.length<=sizeLine then some (.tuple ds) else none
 |none=>none
def VU(h:vW X F es gs):FQ X F (.Tuple es n pos) (vX gs):=by
 let⟨s,pa,o⟩:=h.ex;refine#[_,qU pa,λY U H O d Q st e q=>?_];unfold vX at e;cases c:gs U with
 |none=>simp_all
 |some ds=>
  rw[c]at e;simp only at e
  by_cases f:ds.length<=sizeLine
  .rw[if_pos f]at e;cases e;exact o Y U H O ds _ st c λvs r l m=>#[by rw[m.length];exact f,λp j=>q _ _ (l.trans (cp j)) (kD j ((st.grow l).nofree p j) m)]
  simp_all
def sE(i:Nat)(k:Str)(g:ag->Option PyData):SM:=λU=>match eu U i,g U with
 |some (io,fs),!d=>(match fs.lookup k with
  |some (.l ds)=>if ds.length<sizeLine then .nx (U.set i (!.own io (.sd (bi k (.l (ds++[d])) fs)))) else .bad
  |_=>.bad)
 |_,_=>.bad
def VW{E:Str->ag->Prop}{pos:Pos}(hu:X.A.units+1<cLine)(hv:PE X (.Name x p1) (bQ i))(I:FQ X F e g)
  (J:autoParam (swapsWith (.Call (.Attribute (.Subscript (.Name x p1) (.Constant (.str k) jk p2) fpos) "append" apos) [e] [] cpos) none pos.line X.env=pure false) Zq._auto_1)
  (h:autoParam (qSc X (.Subscript (.Name x p1) (.Constant (.str k) jk p2) fpos) "append") Zq._auto_1)
  (o:autoParam (((backTo cpos (starEach [e] X.env)).all (λx=>not x.1)&&(backToKw cpos (keywordEach [] X.env)).all (λx=>x.1.isSome)&&decide (([e]:List Expr).length+([]:List Keyword).length+(if ([]:List Keyword).isEmpty then 0 else 1)<30))=true) Zq._auto_1)
  (j:autoParam ((apos.endLine==cpos.line)=true) Zq._auto_1) (hs:autoParam (qSa X e []) Zq._auto_1) (c:autoParam (qSb X cpos []) Zq._auto_1) :
  FS X F E (.Expr (.Call (.Attribute (.Subscript (.Name x p1) (.Constant (.str k) jk p2) fpos) "append" apos) [e] [] cpos) pos) (sE i k g):=by
 let⟨te,pe,I⟩:=I.ex;exact(nT (nV q0Y q1c q1d uD (qh hu hv) (dQ pe eK hs) h o j hs c) J).imp λD Y H r=>by
  let⟨U,O,DD,st,q,fD⟩:=r;unfold wpS sE at q;cases ho:eu U i with
  |none=>rw[ho]at q;exact q.elim
  |some p=>
   let⟨io,fs⟩:=p;cases L:g U with
   |none=>rw[ho,L]at q;exact q.elim
   |some d=>
    rw[ho,L]at q;simp only at q;cases f:fs.lookup k with
    |none=>rw[f]at q;exact q.elim
    |some z=>
     rw[f]at q;cases z with
     |d _=>exact q.elim
     |m _ _=>exact q.elim
     |l ds=>
      simp only at q
      by_cases M:ds.length<sizeLine
      .rw[if_pos M]at q;obtain⟨a0,n,N,t,Z,q1,⟨b1,C,Q,_,R,S⟩,_⟩:=st.sdUp ho f rfl;cases Q;refine#[a0,n,.ref N,t,Z,q1,.inl #[rfl,C,.of R],I Y U H O d _ st L λw H' s dw=>?_];obtain⟨a1,u,b2,v,e3,q2,⟨b3,a2,Q,_,y,B⟩,up⟩:=(st.grow s).sdUp ho f rfl;cases Q;rw[t]at v;cases v;rw[s _ _ Z]at e3;have eg:n.lookup k=u.lookup k:=by
        rw[<-oJ,<-oJ];injection e3 with z
        injection z with z
        rw[show cM n=cM u from z]
       rw[eg,q2]at q1;cases q1;rw[s _ _ R]at y;cases y;let⟨O2,T,s2⟩:=up (.lst (C++[w])) (.l (ds++[d])) trivial (λG g=>#[N,C++[w],rfl,rfl,cI,(aK.mono g B).append (.cons (DV.mono g dw) .nil)]);exact#[N,C,w,rfl,rfl,s _ _ R,by rw[S.length];exact M,fD.nx _ _ _ _ T ((aR.same s).trans s2) q]
      .rw[if_neg M]at q;exact q.elim
def VX:V->List V->Hp->VK->Prop:=λx vs H Q=>∃l o a more,x=.ref l/\vs=[.ref o]/\l≠o/\H l=!.dK a/\H o=!.dK more/\a.length+more.length<=sizeLine/\Q .non (aM H l (.dK (jP a more)))
def VY:qV X "dict.update" VX:=by intro j s Y H x vs v D Q I n p h;let⟨l,o,d,more,rfl,rfl,e,k,ho,t,q⟩:=h;cases n;let⟨u,rfl,ru⟩:=p.one;cases ru;let⟨E,w,f,a,c⟩:=pJ I.hok (.inl k);let⟨G,y,g,b,i⟩:=pJ I.hok (.inl ho);exact call_meetsIn q2l c.typeIs PySem.F.entry_dict_update (PySem.F.args_dict_update_2 _ _) (meets_dict_update _ l o e y) #[f,g,c,i,by rw[<-a.length,<-b.length];exact t,λz m J C=>#[.non,_,yB I (by rw[k];exact True.intro) C ((by let⟨q,_,_,B,_⟩:=m;exact#[q,B])) (yC (by have:=yG more d;lia) w (KV.merge b a) m),rfl,q]]
def CK(P:Program)(w:World)(K:Frag)(a:Str->Option Value)(base:Heap)(k:Nat)(x:Str)(f:FM):Prop:=∃st b g fd,FD K a x st b g fd/\cR P w K a base (du P w) k g fd b (ff K a f)
def CM(P:Program)(w:World)(K:Frag)(b:Str->Option Value)(base:Heap)(C:Addr)(k:Nat)(x:Str)(f:FM):Prop:=∃q st a g fd,MD K C x q st a g fd/\cR P w K b base (du P w) k g fd a (ff K b f)
def cA{K:Frag}{st:Stmt}(N)(h:∃g fd,FD K mg x st ps g fd)(S:cb N ps (dS st))
  (c:∀{g b A a s H E F d},bH k (A.deeper (envOfC x (dS st) s.heap.objs.size g b))->eL (iz (du P w) P w K mg base N x (dS st) g b A a s H E) F d->
   ju (iz (du P w) P w K mg base N x (dS st) g b A a s H E) F d (iY st) m) (e:autoParam (ps.length<=N.length) Zr._auto_1):CK P w K mg base (k+1) x (bf ps.length N.length m):=by
 let⟨g,fd,D⟩:=h;exact#[_,_,g,fd,D,(ze D.fn S e (λ_ _ _ _ _ _ _ _ f i=>c f i))]
def gJ{K:Frag}{st:Stmt}(N)(h:∃g fd,MD K C x q st ps g fd)(S:cb N ps (dS st))
  (c:∀{g b A a s H E F d},bH k (A.deeper (envOfC q (dS st) s.heap.objs.size g b))->eL (iz (du P w) P w K mg base N q (dS st) g b A a s H E) F d->
   ju (iz (du P w) P w K mg base N q (dS st) g b A a s H E) F d (iY st) m) (e:autoParam (ps.length<=N.length) Zr._auto_1):CM P w K mg base C (k+1) x (bf ps.length N.length m):=by
 let⟨g,fd,D⟩:=h;exact#[_,_,_,g,fd,D,(ze D.fn S e (λ_ _ _ _ _ _ _ _ f i=>c f i))]
def aW{pos:Pos}{p:Pos}(q:eL X F E)(c:CK X.prog X.w X.K X.mg X.base k x f)(d:bH j X.A)(h:FX X F E (e::es) mX)(l:autoParam (k<=j) Zr._auto_1)(n:autoParam (Gl X x) Zq._auto_1)(a:autoParam ((x==("__debug__":Str))=false) Zr._auto_1)
  (o:autoParam (qSa X e es) Zq._auto_1) (b:autoParam (qSb X pos es) Zq._auto_1):FO X F E (.Call (.Name x p) (e::es) [] pos) (aI f mX):=by
 let⟨st,r,g,fd,D,G⟩:=c;exact qf q G D d h l n a o b
def ji{pos:Pos}{apos:Pos}{r}(s:eL X F E)(cl:dP X.K C)(c:CM X.prog X.w X.K X.mg X.base C k m f)(l:bH j X.A)(t:PE X (.Name x p1) (bQ i))(n:FX X F E (e::es) mX)(o:autoParam (k<=j) Zr._auto_1)
  (a:autoParam (qSa X e es) Zq._auto_1) (d:autoParam (qSb X pos es) Zq._auto_1)
  (u:autoParam (eval (.Call (.Attribute (.Name x p1) m apos) (e::es) [] pos) X.env=(do
   let h <-eval (.Name x p1) X.env
   standAt apos.atName
   let(f,first) <-holding [h] (getMethod h m r)
   callWith pos f first (backTo pos (starEach (e::es) X.env)) (backToKw pos (keywordEach [] X.env)))) Zq._auto_1) :
  FO X F E (.Call (.Attribute (.Name x p1) m apos) (e::es) [] pos) (cO C i m f mX):=by
 let⟨q,st,v,g,fd,D,G⟩:=c;exact Ha s cl D.mt G (l.mono o) D.b t n a d u
def nh{pos:Pos}{apos:Pos}{l}(n:eL X F E)(cl:dP X.K C)(c:CM X.prog X.w X.K X.mg X.base C k m f)(d:bH j X.A)(o:PE X (.Name x p1) (bQ i))(h:autoParam (k<=j) Zr._auto_1)
  (r:autoParam (eval (.Call (.Attribute (.Name x p1) m apos) [] [] pos) X.env=(do
   let a <-eval (.Name x p1) X.env
   standAt apos.atName
   let(f,first) <-holding [a] (getMethod a m l)
   callWith pos f first (backTo pos (starEach [] X.env)) (backToKw pos (keywordEach [] X.env)))) Zq._auto_1) :
  FO X F E (.Call (.Attribute (.Name x p1) m apos) [] [] pos) (dZ C i m f):=by
 let⟨q,st,s,g,fd,D,G⟩:=c;exact UC n cl D.mt G (d.mono h) D.b o r
def HF{l:List Str}(h:decide l.Nodup=true):l.Nodup:=of_decide_eq_true h
def cJ{X}{F}{x}{pos}(i)(a:decide X.N.Nodup=true:=by kernel_rfl)(b:autoParam (X.N[i]? = !x) Zq._auto_1)(d:autoParam (Loc X.env.scope x) Zqf._auto_1)(c:autoParam (X.fn x=true\/X.env.scope.names.lookup x=!.local) Zqa._auto_1):FG X F (.Name x pos) (aw i):=Vg i (HF a) b d c
noncomputable def sF:af->Option (List PyData)
 |.own false (.l ds)=>some ds
 |_=>none
def VZ(h:sF c=!a):c=.own false (.l a):=by
 unfold sF at h;split at h
 .cases h;rfl
 .cases h
def vY(c:af):SM:=λU=>match sF c with
 |some ds=>if ds.length<sizeLine then .nx U else .bad
 |none=>.bad
def sG(m:XM af):SM:=λU=>ef (m U) vY
def HG{pos:Pos}(h:FO X F E e0 mo)(B:autoParam (swapsWith (.Call (.Attribute e0 "append" apos) [.Constant .none t p1] [] cpos) none pos.line X.env=pure false) Zq._auto_1)
  (r:autoParam (qSc X e0 "append") Zq._auto_1)
  (u:autoParam (((backTo cpos (starEach [.Constant .none t p1] X.env)).all (λx=>not x.1)&&(backToKw cpos (keywordEach [] X.env)).all (λx=>x.1.isSome)&&decide (([.Constant .none t p1]:List Expr).length+([]:List Keyword).length+(if ([]:List Keyword).isEmpty then 0 else 1)<30))=true) Zq._auto_1)
  (s:autoParam ((apos.endLine==cpos.line)=true) Zq._auto_1) (S:autoParam (qSa X (.Constant .none t p1) []) Zq._auto_1) (d:autoParam (qSb X cpos []) Zq._auto_1) :
  FS X F E (.Expr (.Call (.Attribute e0 "append" apos) [.Constant .none t p1] [] cpos) pos) (sG mo):=
 (nT (nV q0Y q1c q1d uD h.pe (dQ ur eK S) r u s S d) B).imp λD Y H w=>by
  let⟨U,O,DD,st,q,f⟩:=w;refine#[U,O,st,h.mn _ _ _ (λc U1 q1 v T O1 fp res Z=>?_) (fJ (m:=mo) (k:=vY) q)];unfold wpS vY at q1;cases G:sF c with
  |none=>rw[G]at q1;exact q1.elim
  |some ds=>
   rw[G]at q1;simp only at q1;obtain rfl:=VZ G
   by_cases I:ds.length<sizeLine
   .rw[if_pos I]at q1;let⟨a,rfl,J,M,R,N⟩:=res.at_;subst J;let⟨O2,Q,s2,_⟩:=aF.swap (L:=[a]) (L':=[]) (H':=aM T a (.lst (M++[.non]))) res.st (λb o A e=>by rw[bt λz=>A (by simp[z])];exact e) q1k (λb A=>by cases A) res.new (λb A=>by cases A);exact#[.inl #[rfl,M,.of R],a,M,.non,rfl,rfl,R,by rw[N.length];exact I,f.nx _ _ _ _ Q (Z.trans s2) q1]
   .rw[if_neg I]at q1;exact q1.elim
def vZ(C:Addr)(i:Nat)(f:Str):XM af:=λU=>match cF C U i with
 |some (_,fs)=>(match fs.lookup f with
  |some (.l ds)=>.ok (.own false (.l ds)) U
  |_=>.bad)
 |none=>.bad
def Wa{F:Fx}{E:Str->ag->Prop}{pos:Pos}{G a}(I:Gl X "list")(J:X.mg "list" = none)(cl:dP X.K C)(L:di X.K C f)(hv:PE X (.Name x p1) (bQ i))(hb:autoParam (qSc X (.Name x p1) f) Zq._auto_1)
  (w:autoParam (qSa X (.Attribute (.Name x p1) f a) []) Zq._auto_1) (h:autoParam (qSb X pos []) Zq._auto_1) :
  FO X F E (.Call (.Name "list" G) [.Attribute (.Name x p1) f a] [] pos) (vZ C i f):=
 #[aH,(Ds OZ I J (show bootBuiltins "list" = some (.type "list") by decide +kernel) (dQ (jN hv hb) eK w) 'f' 'f' w h).imp λY H Q c=>by
  let⟨U,O,st,q⟩:=c;unfold wp vZ at q;cases ho:cF C U i with
  |none=>rw[ho]at q;exact q.elim
  |some p=>
   let⟨io,fs⟩:=p;rw[ho]at q;simp only at q;cases b:fs.lookup f with
   |none=>rw[b]at q;exact q.elim
   |some t=>
    rw[b]at q;cases t with
    |d _=>exact q.elim
    |m _ _=>exact q.elim
    |l ds=>
     obtain⟨M,N,gs,A,r,R,S,⟨b1,s,T,_,Z,u⟩,_⟩:=st.fldUp ho b rfl;cases T;refine#[_,r,M,C,N,gs,.ref A,rfl,R,cl,L,S,A,s,rfl,.inl (.of Z),λp B=>?_];let⟨O2,v,D⟩:=st.fresh (o:=.lst s) B trivial;exact q _ _ O2 [p] #[v,#[p,rfl,rfl,s,cI,aK.mono D.hid u],st.new1 B] D]
noncomputable def AA(d:PyData):XM af:=λU=>match d with
 |.list ds=>.ok (.own false (.l ds)) U
 |_=>.bad
def oK(n:Nat)(a:List Nat)(s:XM (List PyData))(g:GM)(t:XM Bool)(m:XM PyData):XM af:=λU=>(rZ n a s g t m U).bind AA
def HH(hG:GF X.mg F)(S:al X a own c w)(hc:X.calm=true)(hn:own.length=n)(hi:Ae X F tg iter (wp E s))
  (B:∀C fp D G J A,GF X.mg A->FG (cy X a (own++c) C fp D G J) A tg g/\mQ (cy X a (own++c) C fp D G J) A eP M t/\FE (cy X a (own++c) C fp D G J) A eP L m)
  (hs:autoParam (∀x,foldedSetIterable iter X.env x=pure x) Zs._auto_1):FO X F E (.ListComp L [#[tg,iter,M,0]] a pos) (oK n w s g t m):=by
 subst hn;let⟨hg,ht,he⟩:=B 0 [] (PySem.start X.prog).1 (λ_=>none) [] F hG;exact#[aH,(uI S hc hi.pi (λC fp D G J=>#[λb s Y H v u Q I r h=>by let⟨A,N,q⟩:=h;exact(B C fp D G J A N).1.pg b s Y H v u Q I r q,λb s Y H Q I R=>by let⟨A,N,q⟩:=R;exact(B C fp D G J A N).2.1.2 b s Y H Q I q,λb s Y H Q I T=>by let⟨A,N,q⟩:=T;exact(B C fp D G J A N).2.2.pe b s Y H Q I q]) hs).imp λY H Q h=>UW (λ_ _ _ _ _ st=>hG.into st) hi.mn hg.mn ht.1 he.mn Y H Q (by
  let⟨U,O,st,q⟩:=h;refine#[U,O,st,UV hi.mn _ _ _ (λd U1 q1 ds e p H' vs O1 Z s1 hp dv=>?_) (UX (bW (m:=rZ own.length w s g t m) (k:=AA) q))];subst e;let⟨O2,a0,s2⟩:=Z.fresh (o:=.lst vs) hp trivial;exact q1 _ _ O2 [p] #[a0,#[p,rfl,rfl,vs,cI,aK.mono s2.hid dv],Z.new1 hp] (s1.trans s2))]
def oM(fs a:List (Str×Fl)):List (Str×Fl):=a.foldl (λb p=>bi p.1 p.2 b) fs
def oN:List (Str×Fl)->List (Str×Fl)->Bool
 |_,[]=>true
 |fs,(n,x)::r=>(match fs.lookup n,x with
  |none,_=>true
  |some (.d _),.d _=>true
  |_,_=>false)&&oN (bi n x fs) r
theorem HI:∀{fs},fs.lookup n=none->bi n x fs=fs++[(n,x)]
 |[],_=>rfl
 | (m,y)::fs,h=>by
  rw[q0n]at h
  by_cases e:n=m
  .simp_all
  .rw[show(n==m)=false by simpa using e]at h;unfold bi;rw[if_neg (Ne.symm e),HI h];rfl
def aP.app{fps}(h:aP G H gs fs fps)(c:gA G H v x fp):aP G H (gs++[(n,v)]) (fs++[(n,x)]) (fps++[fp]):=by
 induction h with
 |nil=>exact .cons c .nil
 |cons a _ b=>exact .cons a b
theorem HJ:∀{fs},(fs.lookup n).isSome=true->(bi n x fs).map (·.1)=fs.map (·.1)
 |[],h=>by cases h
 | (m,y)::fs,h=>by
  unfold bi
  by_cases e:m=n
  .rw[if_pos e];rfl
  .rw[if_neg e,q0h,q0h];rw[q0n,show(n==m)=false by simpa using Ne.symm e]at h;rw[HJ h]
def HK{β:Type}:∀{l:List (Str×β)},l.lookup n=none->n∉l.map (·.1)
 |[],_=>by simp
 | (m,y)::l,h=>by
  grind
def uF(h:n∉gs.map (·.1)):eE (cM gs) (Sum.inr n) v=cM (gs++[(n,v)]):=by
 unfold eE;simp_all
def Wb(L:aP G H q j i):∀{gs fs fps},aP G H gs fs fps->(fs.map (·.1)).Nodup->oN fs j=true->(fps.flatten++i.flatten).Nodup->
  ∃k g,aP G H k (oM fs j) g/\jP (cM gs) (cM q)=cM k/\g.flatten.Nodup/\∀c∈g.flatten,c∈fps.flatten\/c∈i.flatten:=by
 induction L with
 |nil=>exactλh _ _ u=>#[_,_,h,rfl,by simpa using u,λc s=>.inl s]
 | @cons n v x fp q j i hx _ E=>
  intro gs fs fps h r ok u;unfold oN at ok;rw[q0B]at ok;rw[q0e,<-q0m]at u;have w:=h.names;cases t:fs.lookup n with
  |none=>
   have e:=HI (x:=x) t;have I:=HK t;let⟨k,g,A,B,C,D⟩:=E (gs:=gs++[(n,v)]) (fs:=fs++[(n,x)]) (fps:=fps++[fp]) (h.app hx) (by
    rw[q1o];exact q0f.mpr #[r,by simp,λa M b J z=>by simp at J;subst z;subst J;exact I M]) (by rw[<-e];exact ok.2) (by simpa using u)
   refine#[k,g,by rw[show oM fs ((n,x)::j)=oM (bi n x fs) j from rfl,e];exact A,?_,C,λc s=>?_]
   .rw[<-B,<-uF (by rw[w];exact I)];rfl
   .rcases D c s with z |z
    .rw[q1A]at z;rcases q0b.mp z with z |z
     .exact .inl z
     .exact .inr (by rw[q0e];exact bB _ (by simpa using z))
    .exact .inr (by rw[q0e];exact bq _ z)
  |some y=>
   have o:=ok.1;rw[t]at o;cases y with
   |l _=>cases x<;>cases o
   |m _ _=>cases x<;>cases o
   |d Q=>
    cases x with
    |l _=>cases o
    |m _ _=>cases o
    |d N=>
     let⟨rfl,O⟩:=hx;have p:=h.putD (G':=G) (H':=H) (f:=n) (v:=v) (d:=N) (by rw[t];rfl) O (λ_ _ z=>z) (λ_ _=>rfl);have hs:(fs.lookup n).isSome=true:=by rw[t];rfl
     rw[if_pos hs]at p;let⟨k,g,A,B,C,D⟩:=E p (by rw[HJ hs];exact r) ok.2 (by simpa using u);refine#[k,g,A,?_,C,λc s=>?_]
     .rw[<-B,<-HA (by rw[w];exact r) (by rw[w];exact vR hs)];rfl
     .rcases D c s with z |z
      .exact .inl z
      .exact .inr (by rw[q0e];exact bq _ z)
def wa:af->Option (List (Str×Fl))
 |.own false (.sd fs)=>some fs
 |_=>none
def Wc(h:wa c=!fs):c=.own false (.sd fs):=by
 unfold wa at h;split at h
 .cases h;rfl
 .cases h
def sH(i:Nat)(c:af):SM:=λU=>match eu U i,wa c with
 |some (io,fs),!a=>if (fs.map (·.1)).Nodup/\oN fs a=true/\fs.length+a.length<1000 then .nx (U.set i (!.own io (.sd (oM fs a)))) else .bad
 |_,_=>.bad
def ni(i:Nat)(m:XM af):SM:=λU=>match eu U i with
 |some _=>ef (m U) (sH i)
 |none=>.bad
def HL{pos:Pos}(hv:PE X (.Name x p1) (bQ i))(he:FO X F E e mo)
  (a0:autoParam (swapsWith (.Call (.Attribute (.Name x p1) "update" apos) [e] [] cpos) none pos.line X.env=pure false) Zq._auto_1)
  (u:autoParam (qSc X (.Name x p1) "update") Zq._auto_1)
  (J:autoParam (((backTo cpos (starEach [e] X.env)).all (λx=>not x.1)&&(backToKw cpos (keywordEach [] X.env)).all (λx=>x.1.isSome)&&decide (([e]:List Expr).length+([]:List Keyword).length+(if ([]:List Keyword).isEmpty then 0 else 1)<30))=true) Zq._auto_1)
  (w:autoParam ((apos.endLine==cpos.line)=true) Zq._auto_1) (hs:autoParam (qSa X e []) Zq._auto_1) (r:autoParam (qSb X cpos []) Zq._auto_1) :
  FS X F E (.Expr (.Call (.Attribute (.Name x p1) "update" apos) [e] [] cpos) pos) (ni i mo):=
 (nT (nV q2p q2l PySem.F.type_dict_update VY hv (dQ he.pe eK hs) u J w hs r) a0).imp λD Y H M=>by
  let⟨U,O,DD,st,q,f⟩:=M;unfold wpS ni at q;cases h0:eu U i with
  |none=>rw[h0]at q;exact q.elim
  |some p0=>
   let⟨a9,b0⟩:=p0;rw[h0]at q;obtain⟨a,b5,s,⟨b6,a8,_,a2,_⟩,_,_⟩:=st.box (lS h0);refine#[_,s,?_,U,O,st,he.mn _ _ _ (λc U1 q1 v H1 O1 fp res s1=>?_) (fJ (m:=mo) (k:=sH i) q)]
   .exact .inr (.inr (.inl #[rfl,.inl #[_,a2]]))
   unfold wpS sH at q1;cases N:eu U1 i with
   |none=>rw[N]at q1;exact q1.elim
   |some p=>
    let⟨io,fs⟩:=p;cases h2:wa c with
    |none=>rw[N,h2]at q1;exact q1.elim
    |some t=>
     rw[N,h2]at q1;simp only at q1;obtain rfl:=Wc h2
     by_cases hc:(fs.map (·.1)).Nodup/\oN fs t=true/\fs.length+t.length<1000
     .rw[if_pos hc]at q1;let⟨o,rfl,Q,R,n,a3,ph⟩:=res.at_;obtain⟨a1,y,O2,hY,A,⟨gs,fps,g,hH,fl⟩,t1,b7,nw,a4⟩:=aF.take res.st (lS N);rw[s]at hY;cases hY;rw[Fx.plus_plus]at A;let⟨W,a5,b8⟩:=id A;have a6:(y++fp).Nodup:=(q0f.mp (q0f.mp a5.nd).2.1).1;let⟨B,S,C⟩:=q0f.mp a6;rw[g]at B;rw[n]at S;have a7:a≠o:=λz=>C a (by rw[g];exact q0g) o (by rw[n];exact q0g) z;have T:aP (aB O2 H1) H1 Q t R:=ph.keep (λ_ _=>rfl) t1.hid;let⟨G,l,b1,b2,b3,b4⟩:=Wb T fl hc.1 hc.2.1 (q0f.mpr #[(q0v.mp B).2,(q0v.mp S).2,λc h d h' z=>C c (by rw[g];exact bK _ h) d (by rw[n];exact bK _ h') z]);have Z:∀c∈l.flatten,c∈y++fp:=λc b=>(b4 c b).elim (λz=>bB _ (by rw[g];exact bK _ z)) λz=>bq _ (by rw[n];exact bK _ z);have I:a∉l.flatten:=λz=>by
       rcases b4 a z with z |z
       .exact(q0v.mp B).1 z
       .exact C a (by rw[g];exact q0g) a (by rw[n];exact bK _ z) rfl
      have sz:1000<sizeLine:=by decide
      let⟨O3,u1,u2,u3,u4,u5⟩:=aF.swap (L:=y++fp) (L':=a::l.flatten) (H':=aM H1 a (.dK (cM G))) A (λc o' b e'=>by rw[bt λz=>b (by subst z;exact bB _ (by rw[g];exact q0g))];exact e') (q0v.mpr #[I,b3]) (λc b=>by
       rcases q0c.mp b with rfl |b
       .exact .inl (bB _ (by rw[g];exact q0g))
       .exact .inl (Z c b)) (λc b=>by
       rcases q0b.mp b with z |z
       .exact nw c z
       .exact res.new c z) (λc b=>by
       rcases q0c.mp b with rfl |b
       .exact#[_,cI,trivial]
       .let⟨o',e',mv⟩:=b1.live c b;exact#[o',by rw[bt λz=>I (by rw[<-z];exact b)];exact e',mv])
      have li:i<U1.length:=(q0a.mp (lS N)).1;let⟨O4,v1,v2⟩:=aF.put1 (io:=true) (F:=F) (fp:=a::l.flatten) (c:=.own io (.sd (oM fs t))) (v:=.ref a) u1 #[a,rfl,G,l,rfl,cI,b1.keep (λc b=>bt λz=>I (by rw[<-z];exact b)) u2.hid] (λc b=>by
       have:=u4 c (u3 c b);rcases q0c.mp b with rfl |b
       .exact nw c (by rw[g];exact q0g)
       .rcases q0b.mp (Z c b) with z |z
        .exact nw c z
        .exact res.new c z) (i:=i) (by rw[q0u];exact li) (λb' eb=>by
       injection eb with e1 e2
       rw[a4 e1];rfl)
      have eY:Y.set i (!.ref a)=Y:=by
       apply q01;intro j
       by_cases hj:j=i
       .subst hj;rw[q0p (q0a.mp s).1,s]
       .rw[q0o (Ne.symm hj)]
      rw[eY,List.set_set]at v1;refine#[a,o,_,_,rfl,rfl,a7,hH,a3,by rw[q0d,q0d,fl.len,ph.len];lia,?_];show D.nx Y _;rw[show(jP (List.map (λp=>(Sum.inr p.1,p.2)) gs) (List.map (λp=>(Sum.inr p.1,p.2)) Q))=cM G from b2];exact f.nx _ _ _ _ v1 (s1.trans (t1.trans (u2.trans v2))) q1
     .rw[if_neg hc]at q1;exact q1.elim
def wb(i:Nat)(k:Str)(d:PyData):XM PyData:=λU=>match eu U i with
 |some (_,fs)=>(match fs.lookup k with
  |some (.l ds)=>lift (av true d (.list ds)) U
  |_=>.bad)
 |none=>.bad
def sI(i:Nat)(k:Str)(m:XM PyData):XM PyData:=λU=>(m U).bind (wb i k)
def We(u:X.A.units+64<cLine)(An:X.A.units+1<cLine)(R:PE X (.Name x p1) (bQ i))(z:FE X F E e m):FB X F E (.Compare e [.NotEq] [.Subscript (.Name x p1) (.Constant (.str k) jk p2) fpos] pos) (aC (sI i k m)):=
 dA #[yZ aH,(yt (Ep u) z.pe (qh An R) (bG _)).imp λY H Q q=>by
  let⟨U,O,st,q⟩:=za aH Y H Q q;refine#[U,O,st,aH _ _ _ (λd s q1 v B C c D G=>?_) (bW (E:=E) (m:=m) (k:=wb i k) (U:=U) q)];unfold wp wb at q1;cases ho:eu s i with
  |none=>rw[ho]at q1;exact q1.elim
  |some p=>
   let⟨io,fs⟩:=p;rw[ho]at q1;simp only at q1;cases h:fs.lookup k with
   |none=>rw[h]at q1;exact q1.elim
   |some t=>
    rw[h]at q1;cases t with
    |d _=>exact q1.elim
    |m _ _=>exact q1.elim
    |l ds=>
     simp only at q1;let⟨y,j,q2⟩:=da (o:=av true d (.list ds)) (U:=s) (E:=E) q1;obtain⟨a,fp,n,⟨gs,fps,_,I,J⟩,_,_⟩:=c.box (lS ho);rcases jA J k with⟨_,f⟩ |⟨w,S,L,M,f,N,_⟩
     .rw[h]at f;cases f
     .rw[h]at f;cases f;let⟨b,T,rfl,_,hb,r⟩:=N;unfold av at j;split at j
      .rename_i g;cases j;exact#[a,gs,.ref b,n,I,M,d,.list ds,DV.mono kA G,.lst hb (aK.mono kA r),(q1g.mp g).1,(q1g.mp g).2,q2 _ B C c D (.bl _)]
      .cases j]
def qk(i:Nat)(k:Str):XM PyData:=λU=>match eu U i with
 |some (io,fs)=>(match fs.lookup k with
  |some (.l ds)=>.ok (.list ds) (U.set i (!.own io (.sd (bi k (.d (.list ds)) fs))))
  |_=>.bad)
 |none=>.bad
def HM:∀{gs fs fps},aP G H gs fs fps->fs.lookup k=!.l q->fps.flatten.Nodup->∃b o j,gs.lookup k=!.ref b/\H b=!.lst o/\aK G o q/\b∈fps.flatten/\b∉j.flatten/\(∀c∈j.flatten,c∈fps.flatten)/\j.flatten.Nodup/\(∀p,bO G p->DV p (.ref b) (.list q)->aP p H gs (bi k (.d (.list q)) fs) j):=λw=>by
 induction w with
 |nil=>intro h;cases h
 |@cons n v x fp gs fs fps a t i=>
  intro h nd;rw[q0e]at nd;let⟨n1,u,r⟩:=q0f.mp nd;rw[q0n]at h
  by_cases e:k=n
  .subst e;simp at h;subst h;let⟨b,o,rfl,rfl,hb,hd⟩:=a;refine#[b,o,[]::fps,by simp[List.lookup],hb,hd,by simp,λz=>?_,λc m=>by simp at m ⊢;exact .inr m,by simpa using u,λp g s=>?_]
   .simp at z;let⟨l,A,B⟩:=z;exact r b 'd' b (q16.mpr #[l,A,B]) rfl
   .unfold bi;rw[if_pos rfl];exact .cons #[rfl,s] (t.keep (λ_ _=>rfl) g)
  .rw[show(k==n)=false by simpa using e]at h;let⟨b,o,j,C,D,I,w,J,y,L,M⟩:=i h u;refine#[b,o,fp::j,by rw[q0n,show(k==n)=false by simpa using e];exact C,D,I,by rw[q0e];exact bq _ w,λz=>?_,λc m=>?_,?_,λp g s=>?_]
   .rw[q0e]at z;exact(q0b.mp z).elim (λz=>r b z b w rfl) J
   .rw[q0e]at m ⊢;exact(q0b.mp m).elim (λz=>bB _ z) λz=>bq _ (y c z)
   .rw[q0e];exact q0f.mpr #[n1,L,λc m d hd z=>r c m d (y d hd) z]
   .unfold bi;rw[if_neg (Ne.symm e)];exact .cons (a.keep (λ_ _=>rfl) g) (M p g s)
def Wf(hu:X.A.units+1<cLine)(hv:PE X (.Name x p1) (bQ i)):FE X F E (.Subscript (.Name x p1) (.Constant (.str k) jk p2) pos) (qk i k):=
 #[aH,(qh hu hv).imp λY H Q r=>by
  let⟨U,O,st,q⟩:=r;unfold wp qk at q;cases ho:eu U i with
  |none=>rw[ho]at q;exact q.elim
  |some p=>
   let⟨io,fs⟩:=p;rw[ho]at q;simp only at q;cases B:fs.lookup k with
   |none=>rw[B]at q;exact q.elim
   |some t=>
    rw[B]at q;cases t with
    |d _=>exact q.elim
    |m _ _=>exact q.elim
    |l ds=>
     obtain⟨a,s,O2,C,u,⟨gs,fps,g,D,N⟩,s1,a0,R,G⟩:=st.take (lS ho);let⟨W,I,_⟩:=id u;have h:s.Nodup:=(q0f.mp (q0f.mp I.nd).2.1).1;rw[g]at h;let⟨b,xs,n,h1,h2,h3,S,h5,y,h7,h8⟩:=HM N B (q0v.mp h).2;let⟨T,t1,J,t3,t4,_⟩:=aF.swap (L:=s) (L':=a::n.flatten) (H':=H) u (λc o _ e'=>e') (q0v.mpr #[λz=>(q0v.mp h).1 (y a z),h7]) (λc f=>.inl (by
      rw[g];rcases q0c.mp f with rfl |f
      .exact q0g
      .exact bK _ (y c f))) R (λc f=>by
      rcases q0c.mp f with rfl |f
      .exact#[_,D,trivial]
      .exact N.live c (y c f))
     have M:b∉T:=λz=>by
      rcases t4 b z with z |⟨_,z⟩
      .rcases q0c.mp z with z |z
       .exact(q0v.mp h).1 (z▸S)
       .exact h5 z
      .exact z (by rw[g];exact bK _ S)
     have w:DV (aB T H) (.ref b) (.list ds):=.lst (jc h2 M) (aK.mono J.hid h3);have li:i<U.length:=(q0a.mp (lS ho)).1;let⟨O4,v1,Z⟩:=aF.put1 (io:=true) (c:=.own io (.sd (bi k (.d (.list ds)) fs))) (v:=.ref a) t1 #[a,rfl,gs,n,rfl,D,h8 _ J.hid w] (λc f=>R c (by
      rw[g];rcases q0c.mp f with rfl |f
      .exact q0g
      .exact bK _ (y c f))) (i:=i) (by rw[q0u];exact li) (λb' eb=>by
      injection eb with e1 e2
      rw[G e1])
     have eY:Y.set i (!.ref a)=Y:=by
      apply q01;intro j
      by_cases hj:j=i
      .subst hj;rw[q0p (q0a.mp C).1,C]
      .rw[q0o (Ne.symm hj)]
     rw[eY,List.set_set]at v1;exact#[a,gs,.ref b,C,D,h1,q _ H O4 v1 (s1.trans (J.trans Z)) (DV.mono Z.hid w)]]
end L2.L3
namespace Due
abbrev Sh:=List (Int×Int)
noncomputable def fY(a:Int):Sh->Int->Int
 |[],_=>a
 |(b,c)::r,m=>fY (if b<=m then c else a) r m
def cW(a:Int)(b:Sh)(m:Int):Int:=m+fY a b m
def gr:Int->Sh->Prop
 |_,[]=>True
 |lo,(b,_)::r=>lo<b/\gr b r
theorem AB:∀{d lo},gr lo d->m<=lo->fY a d m=a
 |[],_,_,_=>rfl
 |(b,c)::r,lo,⟨f,e⟩,g=>by unfold fY;rw[if_neg 'a'];exact AB e 'a'
noncomputable def gu(g:Int):Int->Int->Sh->Int
 |s,a,[]=>max s (g - a)
 |s,a,(b,c)::r=>if max s (g - a)<b then max s (g - a) else gu g b c r
theorem kQ:∀{f s a},gr s f->s<=gu g s a f/\g<=cW a f (gu g s a f)/\∀m,s<=m->m<gu g s a f->cW a f m<g
 |[],s,a,_=>by unfold gu cW fY;refine#[by lia,by lia,λm k i=>?_];lia
 | (b,c)::r,s,a,⟨k,i⟩=>by
  unfold gu;have d:∀m,m<b->cW a ((b,c)::r) m=m+a:=λm j=>by unfold cW fY;rw[if_neg 'a',AB i 'a']
  have h:∀m,b<=m->cW a ((b,c)::r) m=cW c r m:=λm j=>by unfold cW;rw[fY,if_pos j]
  by_cases e:max s (g - a)<b
  .rw[if_pos e];refine#[by lia,?_,λm k i=>?_]
   .rw[d _ e];lia
   .rw[d _ 'a'];lia
  .rw[if_neg e];let⟨q1,q2,q3⟩:=kQ (g:=g) (a:=c) i;refine#[by lia,?_,λm n l=>?_]
   .rw[h _ q1];exact q2
   .by_cases j:m<b
    .rw[d _ j];lia
    .rw[h _ 'a'];exact q3 m 'a' l
def Wg(h:g<=b)(e:gr s d):gu g s a d<=gu b s a d:=by let⟨q1,q2,q3⟩:=kQ e;let⟨f,i,j⟩:=kQ e;refine q2q.mp λc=>?_;have:=q3 _ f c;lia
def wc(a:Int)(b:Sh):Prop:=(-12<=a/\a<=14)/\∀p∈b,-12<=p.2/\p.2<=14
theorem ql:∀{d a},wc a d->-12<=fY a d m/\fY a d m<=14
 |[],a,h=>h.1
 | (b,c)::r,a,h=>by
  unfold fY;refine ql #[?_,λp e=>h.2 p (bK _ e)];split
  .exact h.2 (b,c) q0g
  .exact h.1
noncomputable def bA(s a:Int):Sh->List (Int×Option Int×Int)
 |[]=>[(s,none,a)]
 |(b,c)::r=>(s,!b,a)::bA b c r
noncomputable def ir(m:Int):Option Int->Bool
 |none=>true
 |some e=>decide (m<e)
def qm(g:Int)(l:List (Int×Option Int×Int)):List Int:=(l.filter λp=>ir (max p.1 (g - p.2.2)) p.2.1).map λp=>max p.1 (g - p.2.2)
theorem HN(g):∀d  s a,∃t,qm g (bA s a d)=gu g s a d::t
 |[],s,a=>#[[],rfl]
 | (b,c)::r,s,a=>by
  let⟨t,e⟩:=HN g r b c;unfold bA gu qm;rw[q1j]
  by_cases h:max s (g - a)<b
  .rw[if_pos (by show decide (max s (g - a)<b)=true;exact decide_eq_true h),if_pos h];exact#[_,rfl]
  .rw[if_neg (by show ¬ decide (max s (g - a)<b)=true;simpa using h),if_neg h];exact#[t,e]
def fK(a:Int)(b:Sh)(h:Int):Int:=-((h - cW a b 0) / 24)
def we:cW a ss 0<=24 * fK a ss h+h/\24 * fK a ss h+h<cW a ss 0+24:=by unfold fK;lia
def ei(a:Int)(b:Sh)(h:Int)(c:Nat):Int:=gu ((fK a b h+c) * 24+h) 0 a b
inductive aU where
 |once (m:Int) |every (f s:Int) |daily (h:Int)
def bE(a:Int)(b:Sh):aU->Nat->Option Int
 |.once m,c=>if c=0 then some m else none
 |.every f s,c=>some (f+c * s)
 |.daily h,c=>!ei a b h c
def Wj{c:Nat}(e:gr 0 b)(d:wc a b):24 * (c:Int) - 26<=ei a b h c:=by let⟨q1,q2,_⟩:=kQ (g:=(fK a b h+c) * 24+h) (a:=a) e;have:=we (a:=a) (h:=h) (ss:=b);have f:=ql (m:=0) d;have i:=ql (m:=gu ((fK a b h+c) * 24+h) 0 a b) d;unfold cW at *;unfold ei;lia
structure eG (a:Int) (ss:Sh):Prop where
 len:ss.length<=6
 rise:gr 0 ss
 ah:wc a ss
 top:∀p∈ss,p.1<=9999
def dN:aU->Prop
 |.once m=>0<=m/\m<=9999
 |.every f s=>(0<=f/\f<=9999)/\1<=s/\s<=999
 |.daily h=>0<=h/\h<=23
def nj(a:Int)(b:Sh)(p:aU)(c:Nat):Int:=(bE a b p c).getD 0
structure bV (a:Int) (ss:Sh) (p:aU) (last:Int) (n:Nat):Prop where
 le:n<=20000
 in_:∀c,c<n->∃v,bE a ss p c=!v/\v<=last
 out:bE a ss p n=none\/∃v,bE a ss p n=!v/\last<v
noncomputable def AC(a b c:Int):Nat:=(if a<b then(b - a - 1) / c+1 else 0).toNat
theorem eW{P:Nat->Prop}:∀N,P N->∃n,n<=N/\P n/\∀m,m<n->¬ P m
 |0,h=>⟨0,bu _,h,λm a=>absurd a (q1b m)⟩
 |N+1,h=>by
  by_cases e:∃m,m<=N/\P m
  .let⟨m,a,pm⟩:=e;let⟨n,d,b,c⟩:=eW m pm;exact#[n,by lia,b,c]
  .exact#[N+1,bu _,h,λm a pm=>e #[m,by lia,pm]]
def HP(z:eG a b)(g:last<=9999):∃n,bV a b (.daily h) last n:=by
 let⟨n,i,d,e⟩:=eW (P:=λc=>last<ei a b h c) 1000 (by
  have:=Wj (h:=h) (c:=1000) z.rise z.ah;show last<ei a b h 1000;lia)
 refine#[n,by lia,λc f=>#[_,rfl,?_],.inr #[_,rfl,d]];have:=e c f;lia
def Wl(z:eG a i)(ok:dN p)(h:c<=d)(g:bE a i p c=!v)(b:bE a i p d=!w):v<=w:=by
 cases p with
 |once m=>
  rw[bE]at g b
  lia
 |every f s=>rw[bE]at g b;cases g;cases b;have:=q03 (show(c:Int)<=d by lia) (show(0)<=s by have:=ok.2.1;lia);lia
 |daily k=>rw[bE]at g b;cases g;cases b;exact Wg 'a' z.rise
def HQ(z:eG a d)(ok:dN p)(b:bE a d p c=!v):0<=v:=by
 cases p with
 |once m=>
  rw[bE]at b
  by_cases e:c=0
  .rw[if_pos e]at b;cases b;exact ok.1
  simp_all
 |every f s=>rw[bE]at b;cases b;have:=Int.mul_nonneg (show(0:Int)<=c by lia) (show(0)<=s by have:=ok.2.1;lia);have:=ok.1.1;lia
 |daily g=>rw[bE]at b;cases b;exact (kQ z.rise).1
def wg(z:eG a d)(ok:dN p)(g:last<=9999):∃n,bV a d p last n:=by
 cases p with
 |once m=>
  by_cases e:m<=last
  .refine⟨1,by lia,λc b=>#[m,by rw[bE,if_pos 'a'],e],.inl (by rw[bE,if_neg 'a'])⟩
  .exact⟨0,by lia,λc b=>absurd b (q1b c),.inr #[m,by rw[bE,if_pos rfl],by lia]⟩
 |every f s=>
  let⟨n,k,i,j⟩:=eW (P:=λ(c:Nat)=>last<f+c * s) 10000 (by
   have:=ok.1.1;have:=Int.mul_le_mul_of_nonneg_left (show(1:Int)<=s from ok.2.1) (show(0:Int)<=((10000:Nat):Int) by lia);show last<f+((10000:Nat):Int) * s;lia)
  exact#[n,by lia,λc b=>#[_,rfl,q2q.mp (j c b)],.inr #[_,rfl,i]]
 |daily h=>exact HP z g
def lU(z:eG a d)(ok:dN p)(u:bV a d p last n)(h:n<=c)(b:bE a d p c=!v):last<v:=by
 rcases u.out with e |⟨w,e,i⟩
 .cases p with
  |once m=>
   rw[bE]at e b
   lia
  |every f s=>cases e
  |daily j=>cases e
 .have:=Wl z ok h e b;lia
def Wm(u:bV a m p last n)(l:bV j g k last i)(h:∀c v,v<=last->(bE a m p c=some v↔bE j g k c=!v)):n=i:=by
 rcases q2m n i with d |e |d
 .let⟨v,hv,f⟩:=l.in_ n d;have b:=(h n v f).mpr hv;rcases u.out with e |⟨w,e,o⟩
  .simp_all
  .rw[e]at b;cases b;lia
 .exact e
 .let⟨v,hv,f⟩:=u.in_ i d;have b:=(h i v f).mp hv;rcases l.out with e |⟨w,e,o⟩
  .simp_all
  .rw[e]at b;cases b;lia
def Wn(u:bV a f (.every b s) last n):(∀c,c<n->b+c * s<=last)/\last<b+n * s:=by
 refine#[λc d=>?_,?_]
 .let⟨v,hv,h⟩:=u.in_ c d;cases hv;exact h
 .rcases u.out with e |⟨v,e,h⟩
  .cases e
  .cases e;exact h
def HR(d:0<s)(u:bV a k (.every b s) last n):n=AC b (last+1) s:=by
 let⟨c,f⟩:=Wn u;unfold AC
 by_cases h:b<last+1
 .rw[if_pos h];have l:0<n:=by refine Nat.pos_of_ne_zero λe=>?_;subst e;simp at f;lia
  have g:=c (n - 1) 'a';have i:((n - 1:Nat):Int)=(n:Int) - 1:=by lia
  rw[i]at g;have e:(last+1 - b - 1) / s=(n:Int) - 1:=by
   refine q2H ?_ ?_
   .have:(last+1 - b - 1) / s<n:=Int.ediv_lt_of_lt_mul d 'a';lia
   .exact Int.le_ediv_of_mul_le d 'a'
  rw[e];lia
 .rw[if_neg h];have:n=0:=by refine q1m λj=>?_;have:=c 0 j;simp at this;lia
  rw[this];rfl
def AD(z:eG a b)(ok:dN p):bV a b p (0 - 1) 0:=by
 refine#[by lia,λc d=>absurd d (q1b c),?_];cases h:bE a b p 0 with
 |none=>exact .inl rfl
 |some v=>exact .inr #[v,rfl,by have:=HQ z ok h;lia]
def km(m:Int)(l:List (Int×Option Int×Int)):List Int:=(l.filter λp=>decide (p.1<=m)).map λp=>(if ir m p.2.1=true then m else p.2.1.getD 0 - 1)+p.2.2
theorem HS:∀j  s a,gr s j->(∀x,x∈km m (bA s a j)->∃t,s<=t/\t<=m/\cW a j t=x)/\(∀t,s<=t->t<=m->∃x,x∈km m (bA s a j)/\cW a j t<=x)
 |[],s,a,_=>by
  unfold bA km
  by_cases h:s<=m
  .rw[q1j,if_pos (decide_eq_true h),List.filter_nil,q0h,q07];simp only[ir,if_true,q0l];refine#[λx d=>#[m,h,q0M _,by subst d;rfl],λt q k=>#[_,rfl,by show t+a<=m+a;lia]]
  .rw[q1j,if_neg (by simpa using h),List.filter_nil,q07];exact#[λx d=>(by cases d),λt q k=>'a']
 | (b,c)::r,s,a,⟨q,k⟩=>by
  let⟨n,o⟩:=HS (m:=m) r b c k;have g:∀t,t<b->cW a ((b,c)::r) t=t+a:=λt l=>by unfold cW fY;rw[if_neg 'a',AB k 'a']
  have i:∀t,b<=t->cW a ((b,c)::r) t=cW c r t:=λt l=>by unfold cW;rw[fY,if_pos l]
  have e:km m (bA s a ((b,c)::r))=(if s<=m then[(if m<b then m else b - 1)+a]else[])++km m (bA b c r):=by
   rw[show bA s a ((b,c)::r)=(s,!b,a)::bA b c r from rfl];unfold km;rw[q1j]
   by_cases h:s<=m
   .rw[if_pos (decide_eq_true h),if_pos h,q0h];show((if decide (m<b)=true then m else b - 1)+a)::_=[(if m<b then m else b - 1)+a]++_
    by_cases f:m<b
    .rw[if_pos (decide_eq_true f),if_pos f];rfl
    .rw[if_neg (by simpa using f),if_neg f];rfl
   .rw[if_neg (by simpa using h),if_neg h];rfl
  rw[e];constructor
  .intro x d;rcases q0b.mp d with d |d
   .by_cases h:s<=m
    .rw[if_pos h,q0l]at d
     by_cases f:m<b
     .rw[if_pos f]at d;exact#[m,h,q0M _,by rw[g m f,d]]
     .rw[if_neg f]at d;exact#[b - 1,by lia,by lia,by rw[g _ 'a',d]]
    .rw[if_neg h]at d;cases d
   .let⟨t,u,p,v⟩:=n x d;exact#[t,by lia,p,by rw[i _ u];exact v]
  .intro t u p
   by_cases l:t<b
   .refine#[(if m<b then m else b - 1)+a,q0b.mpr (.inl ?_),?_]
    .rw[if_pos 'a'];exact q0l.mpr rfl
    .rw[g t l]
     by_cases f:m<b
     .rw[if_pos f];lia
     .rw[if_neg f];lia
   .let⟨x,w,y⟩:=o t 'a' p;exact#[x,q0b.mpr (.inr w),by rw[i t 'a'];exact y]
def iP(a:Int)(b:Sh)(h:Int)(k:Nat):Int:=(fK a b h+k) * 24+h
def HU(i:gr 0 b)(j:0<=m)(d:m<=ei a b h k):iP a b h k<=cW a b m↔ei a b h k=m:=by
 let⟨q1,q2,q3⟩:=kQ (g:=iP a b h k) (a:=a) i;have e:ei a b h k=gu (iP a b h k) 0 a b:=rfl;rw[e]at d ⊢;constructor
 .intro f;refine q2H (q2q.mp λc=>?_) d;have:=q3 m j c;lia
 .intro f;rw[f]at q2;exact q2
def bX(a:Int)(b:Sh)(p:aU)(n:Nat):List Int:=(List.range n).map λc=>nj a b p c
end Due
noncomputable section
local macro_rules|`(tactic|walk_at $s:str)=>do
 let l:=s.getString.toList
 let z:=l.head? ==some ')'
 let T:=((if z then"A xV _;B xC _;C aa _ _ _;D PyData.int _;E ao _ _;F aj _ _;G ak _ _;H au;I aG;J aE;K aC _;L aw _;M aO _;N aN _ _;O bc _;P aV _ _ _;Q aY;R PyData.str _;S bh _ _;T aI _ _;U cc _;V xQ _;W ba _ _;X cG C _ _;Y av false;Z cL;a PyData.none;b bC _ _;c dD _;d cX;e dj _;f ee _;g cO C _ _ _ _;h fy _ _;i fc;j cn _ _;k List.nil;l fi;m dB _ _;n dJ;o av true;p jg _ _ _;q fg _ _;r eO _ _;s cK;t gV;u fS;v jy _;w PyData.bool false;x fB _;y il _ _;z eh C _ _ _;# gY;$ gG;% jv _;& im;* fz _ _;+ jF;, dZ C _ _ _;- kb _ _;. kc _;/ dL;: iJ;< mT;= dk;> gq _ _ _;@ List.cons _ _;[ iM _;] PyData.bool true;^ ot _ _ _;{ mS _ _;| jh _;} fW _ _ _;~ lG;! qc;? iq _ _ _;( ki _ _ _;) iu;À gCons _ _;Á nk;Â ou;Ã mP _;Ä lQ;Å fX;Æ nr;Ç jE;È rF _ _;É uX _;Ê aa vu _ _;Ë jj C;Ì aI qp _;Í gc C;Î va _;Ï vb _ _;Ð vt _ _;Ñ aI sK _;Ò aI sJ _;Ó aI sL _;Ô aa jV _ _;Õ cn ox _;Ö aI sN _;Ø aI sP _;Ù ez _ _ _;Ú kL C _ _;Û oK _ _ _ _ _ _;Ü cn uZ _;Ý sG _;Þ lW C;ß oU C;à fZ C;á sM C;â oO C;ã aa oq _ _;ä fW _ _ AF;å iK _ _ _ _ _ AG;æ xU _ _;ç Gx _;è iK _ _ _ _ _ AH;é cn zM _;ê zy _;ë iK _ _ _ _ AI AJ;ì sE _ _ _;í vX _;î gCons _ gNil;ï su _ _ _ _;ð vr vo _ _;ñ zT _ _;ò vr vp _ _;ó rT C _ _ _;ô vC C _ _ _ _ _;õ vE C _ _ _ _;ö iK _ _ _ _ AO AQ;ø cn pV _;ù iK _ _ _ _ AR sO;ú aI wj _;û aI qo _;ü cn vl _;ý gS wv AS _;þ fW _ _ wx;ÿ rG _;Ā sk _ _;ā si _;Ă kj _ _ _ _ _ _ _ sS;ă cn oI _;Ą iK _ _ _ _ kR oQ;ą fW _ _ wy;Ć aI wn _;ć aI wo _;Ĉ aI wr _;ĉ aI wt _;Ċ aI wu _;ċ zE _;Č aI oP _;č aa zU _ _;Ď ni _ _;ď iO _;Đ qj _;đ aI oR _;Ē aI wz _;ē aI qt _;Ĕ aI qu _;ĕ aI wF _;Ė aI wD _;ė aI wC _;Ę aI nu _;ę wJ C;Ě lP C _ _ _;ě oS C;Ĝ cn pU _;ĝ iK _ _ _ _ _ wL;Ğ aI wG _;ğ fW _ _ wM;Ġ iK _ _ _ _ _ Ba;ġ kj _ _ _ _ _ _ _ _;Ģ oW C;ģ qx C;Ĥ sI _ _ _;ĥ nq C;Ħ oX C;ħ aI wE _;Ĩ vF C _ _ _;ĩ rW C _ _ _;Ī oZ C;ī mW _;Ĭ aI wq _;ĭ mZ C _ _ _ _;Į nb C _ _ _ _;į aI AZ _;İ aI qw _;ı fW _ _ wQ;Ĳ zL _ _ _;ĳ rK _ _ _;Ĵ tp C;ĵ tw C;Ķ zK true;ķ qk _ _;ĸ tt C;Ĺ wS C;ĺ wO C;Ļ aI oV _;ļ qr C;Ľ lX C;ľ ke _ _ _ _;Ŀ kS C;ŀ ny C;Ł ko C;ł kT C;Ń aI lV _;ń aI sY _;Ņ aI wR _;ņ Ab C _ _;Ň wV C;ň aI sU _;ŉ aI nv _;Ŋ fj C;ŋ aI jD _;Ō oY C;ō qy C;Ŏ IG C;ŏ IH C;Ő II C;ő IJ C;Œ Bg C;œ IK C;Ŕ Bh C"else"A fv _;B pv _;C ae aq;D ay _ _;E az _ _;F aL;G aJ _ _;H aT;I aW y _ r _;J bd _;K bn _ _;L bD;M ae bM;N bU r;O cJ _;P cQ _;Q cP _;R cV _ _;S ae dq;T dA _;U dH _;V dM _ _;W ae _;X eN rfl _;Y Z.cl;Z fA _;p eQ r.units _ _;q fC T;r fT _;s gn _ _;t fU _;u em _ _;v ae gQ;w gW _ _;x ik _;y ji y Z.cl _ r _ _;z ka rfl _;# em _ jZ;$ jz r.units _ _;% kf _ rfl T.d1v _ rfl _;& jW _;* fh jY _;+ gm iX jU rfl T.d1w q2i _;, kW T;- kG y r.hd rfl _;. jX _ _;/ lJ _;: lC rfl T.d1v _ _;< lK _;= lM;> lR _;@ dm Z.cl Z.d25 _;[ mV r.units _ _;] mU _ _;^ mR _;{ mO _ _;| mM _;} nB T;~ nh y Z.cl _ r _;À oD _ _;Á oy _;Â oi rfl T.d20 _;Ã oE _ _;Ä dm Z.cl Z.d26 _;Å qz;Æ pT _ _ _;Ç oC _ _;È qg _;É qd _ _;Ê rP _ _;Ë rJ _;Ì qf _ b a r _;Í jl h;Î tG T;Ï rR _ _;Ð dm Z.cl Z.d29 _;Ñ Z.d29;Ò kv rfl T.d23 _ rfl;Ó sj _ _ _;Ô sD _ _;Õ dm Z.cl Z.d27 _;Ö wY T;Ø ve _;Ù fh uY _;Ú gm _ uW rfl T.d1y tF _;Û uz rfl;Ü vv _ _;Ý vf _;Þ uU rfl T.d1t _;ß wZ T;à xa T;á Bi;â zv _ _;ã zu _;ä zX _ _;å Z.d25;æ dm Z.cl Z.d28 _;ç zV _ _;è se _ _ vJ;é zW _ _;ê Bj T Z;ë Bk T;ì sC _ _;í Z.d27;î dm Z.cl Z.d2e _;ï Bl T Z;ð kv rfl T.d1s Ka rfl;ñ rQ _ _;ò GU _ _;ó GS _ _;ô Gb _;õ Fp rfl T.d1w _;ö dm Z.cl Z.d2c _;ø Z.d2a;ù Z.d2d;ú Z.d2b;û kv rfl T.d22 Kb rfl;ü Kc T;ý GR _ _;þ fh FV _;ÿ uQ Dd Fg rfl T.d1u _ _;Ā PassesOwn.leaving;ā Ke T;Ă Ki T;ă Kj T;Ą Ay;ą fh FY _;Ć uQ DM Fi rfl T.d23 _ _;ć HG _;Ĉ Kh T Z;ĉ Kl T Z;Ċ Kk T Z;ċ Kf T Z;Č Z.d28;č Z.d2c;Ď Kg T Z;ď GQ _ _;Đ kv rfl T.d1u _ rfl;đ Tq _;Ē UB _ _ _;ē Ue _;Ĕ Ss _;ĕ Uc _;Ė Sr rfl rfl T.d1x rfl T.d24 _;ė TB _;Ę Sx r.units _;ę VW _ _ _;Ě VU _;ě sD _ VT;ĝ Uz _ rfl T.d1v _ rfl T.d1q;Ğ Wa rfl T.d1x Z.cl Z.d2a _;Ġ Ww T;ġ Wx T;Ģ Ud _;ģ Td rfl rfl T.d1x rfl T.d20 _;Ĥ WB T;ĥ WC T;Ħ WE T;ħ WF T;Ĩ WG T;ĩ TV rfl T.d1w _;Ī VS _ _;ī HE _ _;Ĭ se _ _ _;ĭ UA _ _;Į VR _;į WI T;İ WK T;ı WL T;Ĳ WM T;ĳ WQ T;Ĵ WO T;ĵ WN T;Ķ DI.S _;ķ UY rfl T.d24 Z.cl Z.d26 Z.d2b _ _;ĸ Hi Z.cl Z.d2e _;Ĺ Hi Z.cl Z.d29 _;Ļ WU T;ļ We r.units _ _ _;Ľ Wz T Z;ľ WP T;Ŀ nQ;ŀ UJ Z.cl Z.d2b _ _;Ł Vf _ rfl rfl T.d1z _;ł WD T;Ń VI _ Z.cl Z.d2d _ _ _;ń VH _ Z.cl Z.d2d _ _ _;Ņ WX T;ņ Xb T;Ň TZ true;ň Wf _ _;ŉ Ua _ _ _ _;Ŋ Xg T Z;ŋ Xf T Z;Ō WZ T;ō WY T;Ŏ Xh T;ŏ Z.d2e;Ő Z.d26;ő WJ T Z;Œ Xl T Z;œ Xa T;Ŕ Xi T;Ŗ WS T;ŗ Xc T;Ř se _ vJ _;ř Xp T Z;Ś WT T;ś Xd T Z;Ŝ Xj T Z").splitOn ";").map (·.splitOn " ")
 let rec g(n:Nat)(l:List Char):Lean.MacroM (Lean.Term×List Char):=match n,l with
  |n+1,c::l=>do
   if c.isDigit then return(Lean.Syntax.mkNumLit (toString c),l)
   if c=='`' then return(Lean.Syntax.mkStrLit (String.ofList (l.takeWhile (· != c))),(l.dropWhile (· != c)).drop 1)
   if c=='\'' then return(Lean.Syntax.mkNumLit (String.ofList (l.takeWhile (· != c))),(l.dropWhile (· != c)).drop 1)
   if z==false&&c=='!' then return(<-`(by decide +kernel),l)
   if z==false&&c=='?' then return(<-`(by assumption),l)
   if z==false&&c=='λ' then
    let(a,l)<-g n l
    let(b,l)<-g n l
    let(d,l)<-g n l
    return(<-`(fun _ _ _ _ _ _ $(Lean.mkIdent `h)=>⟨$a,$b,$d⟩),l)
   match T.find? (·.head? ==some (toString c)) with
   |some (_::f::a)=>do
    let mut r:=#[]
    let mut m:=l
    for x in a do
     if x=="_" then
      let(t,k)<-g n m
      r:=r.push t
      m:=k
     else r:=r.push (Lean.mkIdent x.toName)
    return(Lean.Syntax.mkApp (Lean.mkIdent f.toName) r,m)
   |_=>Lean.Macro.throwUnsupported
  |_,_=>Lean.Macro.throwUnsupported
 let rec f(n:Nat)(l:List Char):Lean.MacroM (Array (Lean.TSyntax `tactic)):=match n,l with
  |n+1,c::l=>do
   if let some (_::a::x::b::y::k):=(("a dc 1 TL 1;c et 2 rH 3;d et 2 Gg 6 z;e dc 1 pX 1;f dc 1 rH 3;g et 2 Aa 5;h et 2 TK 6 z;i et 2 TM 1;j et 2 Gi 6 z;k dc 1 Gg 6 z;l et 2 HB 4;m dc 1 Gn 8 z;n et 2 Ux 8 z;o et 2 Gn 8 z".splitOn ";").map (·.splitOn " ")).find? (·.head? ==some (toString c)) then
    let r(a x:String):Lean.MacroM (Lean.TSyntax `tactic):=do`(tactic|refine $(Lean.Syntax.mkApp (Lean.mkIdent a.toName) (Array.replicate x.toNat! (<-`(?_)))))
    let u<-r b y
    let u<-if k.isEmpty then pure u else `(tactic|($u:tactic<;>try walk_at "z"))
    return (#[<-r a x].push u)++(<-f n l)
   let(t,l)<-g 99 (c::l)
   return #[<-`(tactic|exact $t)]++(<-f n l)
  |_,_=>return #[]
 if l.length<2 then Lean.Macro.throwUnsupported
 let l:=if l.head? ==some '(' then l.drop 1 else l
 if z then
  let(t,_)<-g 999 (l.drop 1)
  return <-`(tactic|exact $t)
 let q<-f 99 l
 `(tactic|($[$q];*))
namespace K3
open PySem PySem.Spec L2 L2.L3 PyProof.Rows
noncomputable abbrev fi:List Str:=["NoZone","NoPlan","NoMoment","NoCount","NoDeeds","NoDeed","NoRunner","NoTerm","NotHolder","Nothing","NoCall"]
def wh:SM:=(bc (fy (kb "int" (xV 0)) (fy (FR (kb "bool" (xV 0))) (zw (λi j=>decide (i<=j)) (λi j=>decide (i<=j)) (xV 1) (xV 0) (xV 2)))))
def gY:FM:=bf 3 3 wh
def AE:SM:=by walk_at ")Oh-`tuple`A0CYjsFA0JA1"
def nk:FM:=bf 2 2 AE
def AF:SM:=by walk_at ")PKC&CHA3BD0A1SCHA3BD1L2Q"
def HV:SM:=by walk_at ")GSCHA0BD0L2Gä.CHA0BD1L3OCZA1A2"
def wj:FM:=bf 2 4 HV
def AG:XM PyData:=(aa au (xV 0) (xC (.int 0)))
def AH:XM PyData:=(aa au (xV 0) (xC (.int 1)))
def HW:SM:=by walk_at ")GSC~eFBD0Jå1k.CHA0BD1L0/L1GSC~æç1A1eFBaJL2GSC~eFCHA0BD0Jè1k.CHA0BD1L0/L3OéFA1FA2FA3J"
def sJ:FM:=bf 1 4 HW
def HX:SM:=by walk_at ")OÈC:A1BaCtA0A1"
def sK:FM:=bf 2 2 HX
def wm:SM:=by walk_at ")GPKCtA1Î0OÏ0A1QGPê0OBD0QOCZC<Ï0C!A1Î0BD'31'A1"
def qo:FM:=bf 2 2 wm
def AI:XM Bool:=(aC (aa im (xV 0) (xV 2)))
def AJ:XM PyData:=(xV 1)
def HY:SM:=by walk_at ")GSC~eFCHA0BD0Jë2@1k.CHA0BD1m2bL0bL1nL2OCZA1CHA2ÉBD1"
def sL:FM:=bf 2 3 HY
def AK:SM:=by walk_at ")GSV?0`at`x3L4Gì0`log`íÀW0`now`Àx1Àx2Àx3îx4GPKCoA2BR`begun`ï0`at`x3CZA4BD1QOUFA2FA3FA4J"
def iu:FM:=bf 4 5 AK
def Wo:SM:=by walk_at ")Gy1[Fp0l`NoZone`Fp0l`NoPlan`Fp0l`NoMoment`Fp0l`NoCount`JGÐ1eFp0l`NoDeeds`Fp0l`NoDeed`Fp0l`NoRunner`Fp0l`NoTerm`JGÐ1eFp0l`NotHolder`Fp0l`Nothing`Fp0l`NoCall`JGPqKCoð1B]BD1fKñ0lOUFBR`refused`FÉBD1JQOUFBR`refused`Fò1B]J"
def lV:FM:=bf 1 2 Wo
def HZ(C:Addr):SM:=by walk_at ")OhCuX0`holder`BaCtA1X0`until`"
def sM(C:Addr):FM:=bf 2 2 (HZ C)
def AL(C:Addr):SM:=by walk_at ")GSCHA1BD2L2GSCHA1BD3L3GSCHA1BD4L4Gó0`rows`1Gô0`words`34A2GPKCYA2BR`begun`z0`begun`UFA3FA4FX0`holds`JGz0`begun`Baõ0`settled`3CZA4BD1OUFA2FA3FA4J"
def jj(C:Addr):FM:=bf 2 5 (AL C)
def AM(C:Addr):SM:=by walk_at ")OhCuX0`begun`BaCYCHX0`begun`BD2X0`holds`"
def oO(C:Addr):FM:=bf 1 1 (AM C)
def Ia(C:Addr):SM:=by walk_at ")OUFX0`holder`FX0`until`FX0`holds`J"
def nq(C:Addr):FM:=bf 1 1 (Ia C)
def Ib(C:Addr):SM:=(dD (vZ C 0 "rows"))
def lW(C:Addr):FM:=bf 1 1 (Ib C)
def Ie:SM:=(dD (aI gY (ao (xV 0) (ao (xC (.int (-12))) (ao (xC (.int (14))) aG)))))
def sN:FM:=bf 1 1 Ie
def Ig:SM:=by walk_at ")cT#EA0EBD0EBD'9999'I"
def qp:FM:=bf 1 1 Ig
def Ih:SM:=by walk_at ")cT#EA0EBD0EBD3I"
def wn:FM:=bf 1 1 Ih
def Ii:SM:=by walk_at ")cT#EA0EBD1EBD'99'I"
def wo:FM:=bf 1 1 Ii
def AN:SM:=by walk_at ")OhMTÁEA0EA2Ih-`str`CHA0BD0CYCHA0BD0A1"
def nr:FM:=bf 3 3 AN
def Ij:SM:=by walk_at ")PfKMT#EA0EBD0EBD'9999'Iv`NoCount`Q"
def wq:FM:=bf 1 1 Ij
def AO:XM Bool:=by walk_at ")KMÑEjÂFA0FCiA3A2JEA1I"
def AQ:XM PyData:=by walk_at ")jÂFA0FCiA3A2J"
def Ik:SM:=by walk_at ")GSö3@1kÃMÒEA0Im3bL0bL1bL2nL2OCHA2BD0"
def wr:FM:=bf 2 3 Ik
def AR:XM Bool:=(aC (aa im (xV 0) (xV 3)))
def sO:XM PyData:=by walk_at ")CZ^KMÑEA3EA1IA3CiA1BD1A2"
def Il:SM:=by walk_at ")OøFù3@1kÃMÒEA0Im3bL0bL1bL2nJ"
def wt:FM:=bf 2 2 Il
def Im:SM:=by walk_at ")OÉÊCiA1MúEA0EBD0IBD'24'"
def sP:FM:=bf 2 2 Im
def Io:SM:=by walk_at ")GSC!C<CZCZMûN0EA1IC<BD'7919'A1BD1BD'48271'BD'2147483647'L3OC!C!CZCZC<A3A3C<BD7A3A1BD'2147483629'A2"
def wu:FM:=bf 3 4 Io
def AS:SM:=by walk_at ")SCZA4BD'24'L4"
def wv:XM Bool:=by walk_at ")KCtA4MÓEA0EBD0I"
def ww:SM:=by walk_at ")G{3A5SCZA4BD'24'L4"
def sQ:XM Bool:=by walk_at ")KC&A4MÓEA0EA5I"
def wx:SM:=(gS sQ ww 100000)
def sR:SM:=by walk_at ")GPKCYCHA1BD0BR`once`OÔeFCHA1BD1JÕFC&CHA1BD1A2JQGPKCYCHA1BD0BR`every`OüFCHA1BD1FCZA2BD1FCHA1BD2JQGy3[JGSCiCHA1BD1BD'24'L4Gý'100000'Gþr=FCZA2BD1JL5ÿ3"
def oP:FM:=bf 3 6 sR
def sS:XM PyData:=by walk_at ")(CHVW1`rows`A0|V?1`at`x0Ä"
def kR:XM Bool:=(aC (aa (av true) (xV 1) (dj aE)))
def oQ:XM PyData:=by walk_at ")UFCHA1BD0FA0J"
def AU:SM:=by walk_at ")GP*KCuVW0`on`BaKCYCHVW0`on`BD1VW0`hold`OUFBR`busy`FCHVW0`on`BD0FV?0`at`ĀW0`on`āD0JQGPKCuVW0`on`BaGSCHVW0`on`BD0L3G>0`on`BaGPfKCHCHVW0`deeds`A3BD2cT)N0EA1EBR`unsure`EA3IQG>0`on`UFA3FVW0`hold`JcT)N0EA1EBR`begun`EA3IQGSĂ1@0k00r=FjsFVW0`deeds`JJL0/L4GSăFĄ2krÅFA4Jm2bL0bL1nJL5GPqKCYA5eJKC$CHCHA5BD0BD0A2OUFBR`idle`FCHCHC~A5eFUFBaFBaJJBD0BD0JQGSCHCHA5BD0BD1L3GSCHCHVW0`deeds`A3BD1L6GShCYA6BR`last`hC$jsFCHA4A3JBD1C&CHCHA4A3BD1A2L7GPK-`tuple`A6SC$CiA2CHCHA4A3BD0CHA6BD1L7QGPKA7cT)N0EA1EBR`left`EA3IQG>0`on`UFA3FVW0`hold`JcT)N0EA1EBR`begun`EA3I"
def oR:FM:=bf 3 8 AU
def AV(C:Addr):SM:=by walk_at ")GSCHX0`begun`BD0L3GS^KCHCHX0`deeds`A3BD2BR`begun`BR`unsure`L4cg0`add_row`ËEUFA2FA1FA4FA3FCHX0`begun`BD1JI"
def qr(C:Addr):FM:=bf 3 5 (AV C)
def wy:SM:=by walk_at ")GPqfKMTÁEA2EBD2IfKMÖECHA2BD1IOBwQGPfKMT#ECHA2BD0EA1EBD'9999'IOBwQSCZCHA2BD0BD1L1"
def Ip:SM:=by walk_at ")GPqfK-`tuple`A0KC$jsFA0JBD6OBwQGSBD1L1Gą.A0L2OB]"
def wz:FM:=bf 1 3 Ip
def wA:SM:=by walk_at ")GPKMTÆEA0EBR`once`EBD2IcÌECHA0BD1IQGPKMTÆEA0EBR`every`EBD3IOhMÌECHA0BD1IMT#ECHA0BD2EBD1EBD'999'IQOhMTÆEA0EBR`daily`EBD2IMT#ECHA0BD1EBD0EBD'23'I"
def qt:FM:=bf 1 1 wA
def wB:SM:=by walk_at ")GPK-`str`A0OÈCYA0BR`all`CYA0BR`last`QOhMTÆEA0EBR`within`EBD2IMT#ECHA0BD1EBD0EBD'999'I"
def qu:FM:=bf 1 1 wB
def Iq:SM:=by walk_at ")PfKMÌEA0Iv`NoMoment`Q"
def wC:FM:=bf 1 1 Iq
def Ir:SM:=by walk_at ")PfKMĆEA0Iv`NoRunner`Q"
def wD:FM:=bf 1 1 Ir
def Iu:SM:=by walk_at ")PfKMćEA0Iv`NoTerm`Q"
def wE:FM:=bf 1 1 Iu
def Iw:SM:=by walk_at ")GSCZMØEA0EA1IA2L3cĈEA0ECZC<A3BD'24'A1I"
def wF:FM:=bf 3 4 Iw
def qv:SM:=by walk_at ")GPKCtA2BD0OBD0QGPKCYCHA1BD0BR`once`O^KC&CHA1BD1A2BD1BD0QGPKCYCHA1BD0BR`every`OjÂFBD0FCZÊCiA2CHA1BD1CHA1BD2BD1JQGSÊCiMĉEA0EA2ICHA1BD1BD'24'L3OCZCiA3MØEA0ECHA1BD1IBD1"
def nu:FM:=bf 3 4 qv
def Ix:SM:=by walk_at ")G{1BD0cĊN0Eċ1EA2I"
def cX:FM:=bf 3 3 Ix
def sT:XM PyData:=by walk_at ")MČEA1ECHA0BD0EBD'4500'I"
def AW:SM:=(ak (bh (iK 1 [0] (kc (xV 1)) (aw 0) dL sT) (aw 2))
  (ak (il 3 (iO (ez "deeds" (xV 1) (ez "rows" (xV 2) (jC "at" (lT (dj (aj (xC (.int 0)) aE)) (cn cK (aj (xV 1) aE))) [("now",(.int (-1))),("who",.none),("until",(.int 0)),("hold",(.int 0))])))))
  (ak (ni 3 (iO (ez "on" (xC .none) (jC "log" (iM aE) []))))
  (rG 3))))
def sU:FM:=bf 2 4 AW
def AY:SM:=by walk_at ")GS(A1|BD1|BD3m2bL2bL3nGPKCtA3VW0`now`OUFBR`refused`FBD2JQGSÈC:VW0`who`BačA3VW0`until`L4GP*KCoCHA1BD0BR`take`qKA4KCoVW0`who`A2OUFBR`refused`FBD8JQGP*KCYCHA1BD0BR`finish`qKC:VW0`on`BaKCoCHVW0`on`BD1VW0`hold`OUFBR`refused`FBD9JQG>0`now`A3GPKCYCHA1BD0BR`take`GP*fKA4KCoVW0`who`A2OBwQGPKA4>0`hold`CZVW0`hold`BD1QGĎ0ďÙ`who`A2Ù`until`CZA3CHA1BD3ĐkOB]QGPKCYCHA1BD0BR`give`G>0`who`BaOBaQGPKCYCHA1BD0BR`step`cđN0EA2EA3IQGSCHVW0`on`BD0L5G>0`on`BacT)N0EA2EBR`done`EA5I"
def jD:FM:=bf 2 6 AY
def Iy:SM:=by walk_at ")OhMTÁEA0EBD2IhMÖECHA0BD0IMĒECHA0BD1I"
def wG:FM:=bf 1 1 Iy
def Iz:SM:=by walk_at ")OhMTÁEA0EBD3IhMēECHA0BD0IhMĔECHA0BD1I-`bool`CHA0BD2"
def wH:FM:=bf 1 1 Iz
def sV:SM:=by walk_at ")GPKCYCHA1BD0BR`once`O^KCYA2BD0CHA1BD1BaQGPKCYCHA1BD0BR`every`OCZCHA1BD1C<A2CHA1BD2QcĕEA0ECHA1BD1EA2I"
def jE:FM:=bf 3 3 sV
def IA:SM:=by walk_at ")OCHA2MTdN0N1EjsFA2JI"
def jF:FM:=bf 3 3 IA
def wI(C:Addr):SM:=by walk_at ")G%ĖEA1IG%ėEA2IP*KCuX0`last`BaKCtA2X0`last`v`NoMoment`Q"
def fZ(C:Addr):FM:=bf 3 3 (wI C)
def wJ(C:Addr):XM PyData:=(xC (.int 0))
def oS(C:Addr):XM PyData:=by walk_at ")CiMĘEÚ2`zone`ECHA0BD0EÚ2`last`IA1"
def wK(C:Addr):SM:=by walk_at ")GPKC:X0`last`BacÛ1k.X0`deeds`L0/ęQcÛ2@0kĚ0`deeds``settled`m2bL0bL1n/ě"
def oU(C:Addr):FM:=bf 1 1 (wK C)
def wL:XM PyData:=(aO (aI wH (ao (xV 0) aG)))
def IB:SM:=by walk_at ")GPqfK-`tuple`A0KC$jsFA0JBD6OBwQOĜFĝ1k.A0L0/J"
def AZ:FM:=bf 1 1 IB
def IC:SM:=by walk_at ")PfKMĞEA0Iv`NoZone`Q"
def sW:FM:=bf 1 1 IC
def sX:SM:=by walk_at ")GPKCYCHA1BD1BR`all`OBwQGPKCYCHA1BD1BR`last`GSMTÇEA0ECHA1BD0ECZA2BD1IL4OhCuA4BaC&A4A3QOC$CiA3MTÇEA0ECHA1BD0EA2ICHCHA1BD1BD1"
def oV:FM:=bf 4 5 sX
def wM:SM:=by walk_at ")GSCZCZA3BD1MTdN0N1EMT+N0N1EeFBD4FBD'40'FBD'200'JIIL3{2UFA3FCiMTdN0N1EBD'27'IBD'12'J"
def Ba:XM PyData:=by walk_at ")UFA1FCZBD1C!A0BD2J"
def Bb:SM:=by walk_at ")Gy2[JGSBD0L3Gğr=FMTdN0N1EBD7IJL4GPKCYMTdN0N1EBD2IBD0SĠ3krÅFA2Jm2bL0bm2bL1bL2nn/L2QOUFCiMTdN0N1EBD'27'IBD'12'FÜFA2JJ"
def sY:FM:=bf 2 5 Bb
def wN:SM:=by walk_at ")GSMTdN0N1EBD5IL2GPKCYA2BD0OUFBR`once`FMTdN0N1EMT+N0N1EeFBD'100'FBD'100'FBD'2500'JIIJQGPKCtA2BD3GSCZBD1MTdN0N1EMT+N0N1EeFBD'30'FBD'30'FBD'999'JIIL3OUFBR`every`FMTdN0N1EBD'50'IFA3JQOUFBR`daily`FMTdN0N1EBD'24'IJ"
def qw:FM:=bf 2 4 wN
def Wp:SM:=by walk_at ")GSMTdN0N1EBD4IL4GP*KCuA3BaKC$MTdN0N1EBD4IBD0SA3L4QGSCZA2MT+N0N1EeFBD0FBD0FBD0FBD1FBD2FMTdN0N1EBD'30'IJIL5GSMTdN0N1EBD'10'IL6GPqKC:A3BaKCtA6BD2OUFBR`take`FA4FA5FCZBD1MTdN0N1EMT+N0N1EeFBD4FBD'99'JIIJQGPKCYA6BD2OUFBR`give`FA4FA5JQOCHÔeFUFBR`step`FA4FA5JFUFBR`finish`FA4FA5JJBD4CiA6BD3"
def nv:FM:=bf 4 7 Wp
def oW(C:Addr):XM Bool:=(aC (aa im (xV 0) (xQ (ba 1 "now"))))
def qx(C:Addr):XM PyData:=(xV 0)
def oX(C:Addr):SM:=by walk_at "){2jsFġ1@1k01Ã(A4|V?1`at`x3ÄL0ĢģJ"
def Bc(C:Addr):SM:=by walk_at ")GÝ,0`log`ÞGÝ,0`waiting`ßGPqKĤ1`log`M,0`log`ÞKCoM,0`held`ĥUFVW1`who`FVW1`until`FVW1`hold`JOBwQGy2[JG}rÅFVW1`rows`Jm2bL3bL4nĦOCYM,0`waiting`ßA2"
def oY(C:Addr):FM:=bf 2 5 (Bc C)
def sZ(C:Addr):SM:=by walk_at ")G%g0`check_call`àEA1EA2IPqfKMg0`is_held`áEA2IKCoX0`holder`A1v`NotHolder`Q"
def gc(C:Addr):FM:=bf 3 3 (sZ C)
def tf(C:Addr):SM:=by walk_at ")G%g0`check_call`àEA1EA2IG%ħEA3IGz0`last`A2GPfKMg0`is_held`áEA2IĨ0`holds`1PKCoX0`holder`A1OBwQGz0`holder`A1Gz0`until`CZA2A3OB]"
def kS(C:Addr):FM:=bf 4 4 (tf C)
def oZ(C:Addr):SM:=by walk_at ")GSĩ0`settled`2L3GSMTÇEX0`zone`ECHCHX0`deeds`A2BD0EA3IL4PKCuA4Ba{1UFA4FA2FA3JQ"
def Wq(C:Addr):SM:=by walk_at ")Gy1[JG}r=FjsFX0`deeds`JJL2ĪOī1"
def wO(C:Addr):FM:=bf 1 5 (Wq C)
def wP(C:Addr):SM:=by walk_at ")GPfKMT#EA1EBD0ECijsFX0`deeds`JBD1Iv`NoDeed`QG%ĬEA2IGPKĭ0`words`12OĮ0`words`12QGSMTÇEX0`zone`ECHCHX0`deeds`A1BD0EA2IL3GPKC:A3BaOBR`none`QO^*KCuX0`last`BaKC&A3X0`last`BR`due`BR`coming`"
def tp(C:Addr):FM:=bf 3 4 (wP C)
def ID:SM:=by walk_at ")PfKMįEA0Iv`NoDeeds`Q"
def tq:FM:=bf 1 1 ID
def wQ:SM:=by walk_at ")GSMTdN0N1EMT+N0N1EeFBD'30'FBD'30'FBD'1000'JIIL4GSMT+N0N1EeFBR`all`FBR`last`FUFBR`within`FA4JJIL5{2UFMİN0N1IFA5FCYMTdN0N1EBD2IBD0J"
def IE:SM:=by walk_at ")Gy2[JGır=FMTdN0N1EMT+N0N1EeFBD5FBD5FBD7JIIJL3OÜFA2J"
def wR:FM:=bf 2 6 IE
def tt(C:Addr):SM:=by walk_at ")Ĳ2UFA6FA7JA5"
def tw(C:Addr):SM:=by walk_at ")GSĳ2UFA6FA7JBR``L9GPKCYA9BR``GSBR`none`L9PKCtA7jsFA8JSCHeFBR`coming`FBR`due`JÕFC&CHA8A7VW1`now`JL9QQPKCoMg0`state`ĴEA6EA7IA9OBwQ"
def wS(C:Addr):SM:=by walk_at ")}r=FCZV?1`at`x6BD3JL7ĵ"
def Be(C:Addr):SM:=by walk_at ")Gy2ĶG}Ãķ1`log`m5bL3bL4bL5bL6bL7nĸG}rÅFVW1`rows`Jm2bL6bL8nĹOB]"
def tz(C:Addr):FM:=bf 2 10 (Be C)
def Bf(C:Addr):SM:=by walk_at ")G%g0`check_holder`ÍEA1EA2IGz0`last`A2z0`holder`Ba"
def ny(C:Addr):FM:=bf 3 3 (Bf C)
def tD(C:Addr):SM:=by walk_at ")GSM,0`first_unsettled`ĺL3GPKC:A3BaOUFBR`idle`FBaJQGPKC$CHA3BD0A2OUFBR`idle`FCHA3BD0JQGSCHA3BD1L4GSCHA3BD2L5GS^KMĻEX0`zone`ECHX0`deeds`A4EA5EA2IBR`left`BR`begun`L6cg0`add_row`ËEUFA2FA1FA6FA4FA5JI"
def lX(C:Addr):FM:=bf 3 7 (tD C)
def wT(C:Addr):SM:=by walk_at ")G%g0`check_holder`ÍEA1EA2IGPfKM,0`is_busy`âv`Nothing`QGz0`last`A2cg0`add_row`ËEUFA2FA1FBR`done`FCHX0`begun`BD0FCHX0`begun`BD1JI"
def kT(C:Addr):FM:=bf 3 3 (wT C)
def wU(C:Addr):XM PyData:=(xC (.int 0))
def IF(C:Addr):SM:=(ak (jv (aI sW (ao (xV 1) aG)))
  (ak (jv (aI tq (ao (xV 2) aG)))
  (ak (eh C 0 "zone" (xV 1))
  (ak (eh C 0 "deeds" (xV 2))
  (ak (eh C 0 "last" (xC .none))
  (ak (eh C 0 "holder" (xC .none))
  (ak (eh C 0 "until" (xC (.int 0)))
  (ak (eh C 0 "holds" (xC (.int 0)))
  (ak (eh C 0 "begun" (xC .none))
  (ak (oF C 0 "rows" (.l []))
  (ak (oF C 0 "words" (.m true []))
  (Ai C 0 "settled" 1 [] (kc (xV 2)) (aw 0) dL (wU C)))))))))))))
def wV(C:Addr):FM:=bf 3 3 (IF C)
def tE(C:Addr):SM:=by walk_at ")G%g0`check_holder`ÍEA1EA2IGz0`last`A2GPKM,0`is_busy`âOUFBR`busy`FCHX0`begun`BD0FCHX0`begun`BD1JQGPKCuX0`begun`Bacg0`step_behind_a_fall`ļEA1EA2IQcg0`step_ahead`ĽEA1EA2I"
def ko(C:Addr):FM:=bf 3 3 (tE C)
def kU(C:Addr):SM:=by walk_at ")ľl2GPKCYCHA1BD0BR`take`cg0`take`ĿECHA1BD1ECHA1BD2ECHA1BD3IQGPKCYCHA1BD0BR`give`cg0`give`ŀECHA1BD1ECHA1BD2IQGPKCYCHA1BD0BR`step`cg0`step`ŁECHA1BD1ECHA1BD2IQcg0`finish`łECHA1BD1ECHA1BD2IcŃN2I"
def fj(C:Addr):FM:=bf 2 3 (kU C)
def IG(C:Addr):SM:=(il 1 (iM aE))
def IH(C:Addr):SM:=by walk_at ")SMńN0N1IL2"
def II(C:Addr):SM:=by walk_at ")SMŅN0N1IL3"
def IJ(C:Addr):SM:=by walk_at ")y4ņŇFA2FA3J"
def Bg(C:Addr):SM:=by walk_at ")y5ňEA2EA3I"
def qy(C:Addr):SM:=by walk_at ")GSMŉN0N1EjÂFBD0FVW5`now`JEVW5`who`IL7GP*KCYMTdN0N1EBD'12'IBD0KC$VW5`now`BD0Sãã(A7Ä|BD2UFCiVW5`now`BD1J(A7|BD3ÄL7QPqKCoMTŊN4EA7IMŋN5EA7IfKMTŌN4N5IOBwQ"
def IK(C:Addr):SM:=by walk_at ")}r=FMTdN0N1EBD'61'IJL6ō"
def Bh(C:Addr):SM:=(dD (aI (tz C) (aN 4 (aN 5 aG))))
def IL(C:Addr):SM:=by walk_at ")GŎGŏGŐGőGŒGœŔ"
def IM(C:Addr):FM:=bf 1 8 (IL C)
end K3
namespace K3
open PySem PySem.Spec L2 L2.L3 PyProof.Rows
noncomputable def top(i:Nat):Stmt:=PySem.Challenge.pw_duehall_k04_whole_model.main.body.getD i (.Pass ⟨0,0,0,0⟩)
abbrev IP:Stmt:=top 26
abbrev IQ:Stmt:=top 27
abbrev IR:Stmt:=top 28
abbrev IS:Stmt:=top 29
abbrev IT:Stmt:=top 30
abbrev IU:Stmt:=top 31
abbrev IV:Stmt:=top 32
abbrev IW:Stmt:=top 33
abbrev IX:Stmt:=top 34
abbrev IY:Stmt:=top 35
abbrev IZ:Stmt:=top 36
abbrev Ja:Stmt:=top 37
abbrev Jb:Stmt:=top 38
abbrev Jc:Stmt:=top 39
abbrev Jd:Stmt:=top 40
abbrev Je:Stmt:=top 41
abbrev Jf:Stmt:=top 42
abbrev Jg:Stmt:=top 43
abbrev Jh:Stmt:=top 44
abbrev Ji:Stmt:=top 47
abbrev Jj:Stmt:=top 48
abbrev Jk:Stmt:=top 49
abbrev Jl:Stmt:=top 50
abbrev Jm:Stmt:=top 51
abbrev Jn:Stmt:=top 53
abbrev Jo:Stmt:=top 54
abbrev Jp:Stmt:=top 55
abbrev Jq:Stmt:=top 56
abbrev Jr:Stmt:=top 61
abbrev Js:Stmt:=gz (top 62) 0
abbrev Jt:Stmt:=gz (top 62) 1
abbrev Ju:Stmt:=gz (top 62) 2
abbrev Jv:Stmt:=gz (top 62) 3
abbrev Jw:Stmt:=gz (top 62) 4
abbrev Jx:Stmt:=gz (top 62) 5
abbrev Jy:Stmt:=gz (top 62) 6
abbrev Jz:Stmt:=gz (top 62) 7
abbrev JA:Stmt:=gz (top 62) 8
abbrev JB:Stmt:=gz (top 62) 9
abbrev JC:Stmt:=gz (top 62) 10
abbrev JD:Stmt:=gz (top 62) 11
abbrev JE:Stmt:=gz (top 62) 12
abbrev JF:Stmt:=gz (top 62) 13
abbrev JG:Stmt:=gz (top 62) 14
abbrev JH:Stmt:=gz (top 62) 15
abbrev JI:Stmt:=gz (top 62) 16
abbrev JJ:Stmt:=top 64
abbrev JK:Stmt:=top 65
abbrev JL:Stmt:=top 66
abbrev JM:Stmt:=top 67
abbrev JN:Stmt:=top 68
abbrev JO:Stmt:=top 69
abbrev JP:Stmt:=top 70
abbrev JQ:Stmt:=top 71
abbrev JR:Stmt:=top 72
abbrev JS:Stmt:=top 73
abbrev JT:Stmt:=top 74
abbrev JU:Stmt:=top 75
abbrev JV:Stmt:=top 76
abbrev JW:Stmt:=top 77
abbrev wX:Stmt:=top 78
abbrev JX:Stmt:=top 79
abbrev JY:Stmt:=top 80
abbrev JZ:Stmt:=top 81
abbrev nA:Stmt:=top 82
def Wr:cb ["_law_e","_law_own_here"] ["_law_e"] (dS wX):=bJ
def Ws:cb ["_law_script","_law_town","_law_zone_here","_law_deeds_here","_law_hall","_law_model","_law_k","_law_call_here"] ["_law_script"] (dS nA):=bJ
structure Tx (K:Frag) (mg:Str->Option Value):Prop where
 d00:∃g fd,FD K mg "is_whole" IP ["thing","least","most"] g fd
 d01:∃g fd,FD K mg "is_tuple_of" IQ ["thing","length"] g fd
 d02:∃g fd,FD K mg "is_ahead" IR ["thing"] g fd
 d03:∃g fd,FD K mg "is_moment" IS ["thing"] g fd
 d04:∃g fd,FD K mg "is_runner" IT ["thing"] g fd
 d05:∃g fd,FD K mg "is_term" IU ["thing"] g fd
 d06:∃g fd,FD K mg "are_shifts" IV ["thing"] g fd
 d07:∃g fd,FD K mg "is_zone" IW ["thing"] g fd
 d08:∃g fd,FD K mg "has_word" IX ["thing","word","length"] g fd
 d09:∃g fd,FD K mg "is_plan" IY ["thing"] g fd
 d0a:∃g fd,FD K mg "is_late" IZ ["thing"] g fd
 d0b:∃g fd,FD K mg "is_deed" Ja ["thing"] g fd
 d0c:∃g fd,FD K mg "are_deeds" Jb ["thing"] g fd
 d0d:∃g fd,FD K mg "check_zone" Jc ["thing"] g fd
 d0e:∃g fd,FD K mg "check_moment" Jd ["thing"] g fd
 d0f:∃g fd,FD K mg "check_count" Je ["thing"] g fd
 d0g:∃g fd,FD K mg "check_deeds" Jf ["thing"] g fd
 d0h:∃g fd,FD K mg "check_runner" Jg ["thing"] g fd
 d0i:∃g fd,FD K mg "check_term" Jh ["thing"] g fd
 d0j:∃g fd,FD K mg "shown" Ji ["zone","moment"] g fd
 d0k:∃g fd,FD K mg "stretches" Jj ["zone"] g fd
 d0l:∃g fd,FD K mg "is_ahead_of" Jk ["moment","end"] g fd
 d0m:∃g fd,FD K mg "first_showing" Jl ["zone","hours"] g fd
 d0n:∃g fd,FD K mg "furthest_shown" Jm ["zone","moment"] g fd
 d0o:∃g fd,FD K mg "first_day" Jn ["zone","hour"] g fd
 d0p:∃g fd,FD K mg "daily_time" Jo ["zone","hour","count"] g fd
 d0q:∃g fd,FD K mg "time_of" Jp ["zone","plan","count"] g fd
 d0r:∃g fd,FD K mg "times_by" Jq ["zone","plan","moment"] g fd
 d0s:∃g fd,FD K mg "is_left_out" Jr ["zone","deed","count","now"] g fd
 d0t:∃g fd,FD K mg "_law_cell_at" JJ ["_law_script","_law_k"] g fd
 d0u:∃g fd,FD K mg "_law_mixed" JK ["_law_script","_law_k","_law_many"] g fd
 d0v:∃g fd,FD K mg "_law_draw" JL ["_law_script","_law_town","_law_many"] g fd
 d0w:∃g fd,FD K mg "_law_pick" JM ["_law_script","_law_town","_law_some"] g fd
 d0x:∃g fd,FD K mg "_law_zone" JN ["_law_script","_law_town"] g fd
 d0y:∃g fd,FD K mg "_law_clock" JO ["_law_zone_here","_law_moment"] g fd
 d0z:∃g fd,FD K mg "_law_plan" JP ["_law_script","_law_town"] g fd
 d10:∃g fd,FD K mg "_law_dues" JQ ["_law_zone_here","_law_plan_here","_law_last"] g fd
 d11:∃g fd,FD K mg "_law_deeds" JR ["_law_script","_law_town"] g fd
 d12:∃g fd,FD K mg "_law_call" JS ["_law_script","_law_town","_law_now","_law_holder"] g fd
 d13:∃g fd,FD K mg "_law_new" JT ["_law_zone_here","_law_deeds_here"] g fd
 d14:∃g fd,FD K mg "_law_note" JU ["_law_model","_law_runner","_law_word","_law_deed"] g fd
 d15:∃g fd,FD K mg "_law_step" JV ["_law_model","_law_runner","_law_now"] g fd
 d16:∃g fd,FD K mg "_law_own" JW ["_law_model","_law_call_here"] g fd
 d17:∃g fd,FD K mg "_law_which" wX ["_law_e"] g fd
 d18:∃g fd,FD K mg "_law_do" JX ["_law_hall","_law_call_here"] g fd
 d19:∃g fd,FD K mg "_law_alike" JY ["_law_hall","_law_model"] g fd
 d1a:∃g fd,FD K mg "_law_stands" JZ ["_law_hall","_law_model"] g fd
 d1b:∃t,mg "LAST_MOMENT" = some (.int (9999) t)
 d1c:∃t,mg "LAST_COUNT" = some (.int (9999) t)
 d1d:∃t,mg "LAST_HOUR" = some (.int (23) t)
 d1e:∃t,mg "LEAST_AHEAD" = some (.int (-12) t)
 d1f:∃t,mg "MOST_AHEAD" = some (.int (14) t)
 d1g:∃t,mg "MOST_SHIFTS" = some (.int (6) t)
 d1h:∃t,mg "MOST_STEP" = some (.int (999) t)
 d1i:∃t,mg "MOST_DEEDS" = some (.int (6) t)
 d1j:∃t,mg "MOST_WITHIN" = some (.int (999) t)
 d1k:∃t,mg "LAST_RUNNER" = some (.int (3) t)
 d1l:∃t,mg "MOST_TERM" = some (.int (99) t)
 d1m:∃t,mg "DAY_HOURS" = some (.int (24) t)
 d1n:∃t,mg "PLAN" = some (.int (0) t)
 d1o:∃t,mg "LATE" = some (.int (1) t)
 d1p:∃t,mg "AGAIN" = some (.int (2) t)
 d1q:mg "ValueError" = none
 d1r:mg "all" = none
 d1s:mg "bool" = none
 d1t:mg "enumerate" = none
 d1u:mg "int" = none
 d1v:mg "isinstance" = none
 d1w:mg "len" = none
 d1x:mg "list" = none
 d1y:mg "max" = none
 d1z:mg "min" = none
 d20:mg "range" = none
 d21:mg "sorted" = none
 d22:mg "str" = none
 d23:mg "tuple" = none
 d24:mg "zip" = none
 xt0:∃D,XT K mg fi D
structure eR (K:Frag) (mg:Str->Option Value) (C:Addr):Prop where
 cl:dP K C
 mg:mg "Hall" = some (.ref C)
 mks:PySem.W.makesIn K C=true
 kpC:keepIn K (.ref C)=true
 d25:di K C "begun"
 d26:di K C "deeds"
 d27:di K C "holder"
 d28:di K C "holds"
 d29:di K C "last"
 d2a:di K C "rows"
 d2b:di K C "settled"
 d2c:di K C "until"
 d2d:di K C "words"
 d2e:di K C "zone"
 d2f:∃g fd,MD K C "__init__" "Hall.__init__" Js ["self","zone","deeds"] g fd
 d2g:∃g fd,MD K C "is_held" "Hall.is_held" Jt ["self","moment"] g fd
 d2h:∃g fd,MD K C "check_call" "Hall.check_call" Ju ["self","runner","moment"] g fd
 d2i:∃g fd,MD K C "check_holder" "Hall.check_holder" Jv ["self","runner","moment"] g fd
 d2j:∃g fd,MD K C "take" "Hall.take" Jw ["self","runner","moment","term"] g fd
 d2k:∃g fd,MD K C "give" "Hall.give" Jx ["self","runner","moment"] g fd
 d2l:∃g fd,MD K C "add_row" "Hall.add_row" Jy ["self","row"] g fd
 d2m:∃g fd,MD K C "is_busy" "Hall.is_busy" Jz ["self"] g fd
 d2n:∃g fd,MD K C "first_unsettled" "Hall.first_unsettled" JA ["self"] g fd
 d2o:∃g fd,MD K C "step" "Hall.step" JB ["self","runner","moment"] g fd
 d2p:∃g fd,MD K C "step_behind_a_fall" "Hall.step_behind_a_fall" JC ["self","runner","moment"] g fd
 d2q:∃g fd,MD K C "step_ahead" "Hall.step_ahead" JD ["self","runner","moment"] g fd
 d2r:∃g fd,MD K C "finish" "Hall.finish" JE ["self","runner","moment"] g fd
 d2s:∃g fd,MD K C "state" "Hall.state" JF ["self","deed","count"] g fd
 d2t:∃g fd,MD K C "held" "Hall.held" JG ["self"] g fd
 d2u:∃g fd,MD K C "log" "Hall.log" JH ["self"] g fd
 d2v:∃g fd,MD K C "waiting" "Hall.waiting" JI ["self"] g fd
def eR.make{K}(h:eR K a C)(M:jM K C "__init__" g):Mk K C g:=#[h.mks,M.at_,M.fn,h.kpC]
def Bi:bootBuiltins "int" = !.type "int":=by decide +kernel
def Ka:bootBuiltins "bool" = !.type "bool":=by decide +kernel
def Kb:bootBuiltins "str" = !.type "str":=by decide +kernel
def qz:bootBuiltins "tuple" = !.type "tuple":=by decide +kernel
def m4:bootBuiltins "list" = !.type "list":=by decide +kernel
def tF:bootBuiltins "max" = !.builtin "max":=by decide +kernel
def m5:bootBuiltins "divmod" = !.builtin "divmod":=by decide +kernel
def m6:bootBuiltins "any" = !.builtin "any":=by decide +kernel
def m7:bootBuiltins "sum" = !.builtin "sum":=by decide +kernel
def m8:bootBuiltins "min" = !.builtin "min":=by decide +kernel
def Wv(r:dY k A):A.units+64<cLine:=by have:=r.un;lia
def jl(a:GF X.mg F):eL X F eP:=#[a,λ_ _ _ _ _ _ _ _ _ _ z=>z.elim]
end K3
namespace K3
open PySem PySem.Spec L2 L2.L3 PyProof.Rows
local macro_rules | `(tactic|walk_at "z")=>`(tactic|first |exact HF (by kernel_rfl) |exact PassesOwn.leaving)
local macro_rules | `(tactic|walk_at "z")=>`(tactic|first|rfl|exact .inl rfl|exact .inr rfl|assumption|exact fun _=>rfl)
section
variable{P:Program}{w:World}{K:Frag}{mg:Str->Option Value}{base:Heap}
def kW(T:Tx K mg):CK P w K mg base 1 "is_whole" gY:=by
 refine cA ["thing","least","most"] T.d00 bJ λr y=>?_;walk_at "as/:A0Đásđ/:A0ðxĒA1A0A2"
def wY(T:Tx K mg):CK P w K mg base 1 "is_tuple_of" nk:=by
 refine cA ["thing","length"] T.d01 bJ λr y=>?_;walk_at "as/:A0ÒÅx[*+EA0HA1"
def Ww(T:Tx K mg):CK P w K mg base 1 "shown" wj:=by
 refine cA ["zone","moment","ahead","shift"] T.d0j bJ λr y=>?_;walk_at "dGA0Cj<GA0CO3fÀGA3CA1kGA3CLaVA1A2"
def Kc(T:Tx K mg):CK P w K mg base 1 "stretches" sJ:=by
 refine cA ["zone","starts","ends","aheads"] T.d0k bJ λr y=>?_;walk_at "(d";exact rQ (by walk_at "ZECH") (pY y.1 (al.of (own:=["shift"]) (capN:=[])) rfl rfl (by walk_at "<GA0C") (λ_ _ _ _ _ _ h=>#[cJ 0,lM,aJ (fv 0) (ae aq)]));walk_at "dñēĔA1ZESHd";exact rQ (by walk_at "ZEGA0CH") (pY y.1 (al.of (own:=["shift"]) (capN:=[])) rfl rfl (by walk_at "<GA0C") (λ_ _ _ _ _ _ h=>#[cJ 0,lM,aJ (fv 0) (ae aq)]));walk_at "aĕĖEA1EA2EA3H"
def Kd(T:Tx K mg):CK P w K mg base 1 "is_ahead_of" sK:=by
 refine cA ["moment","end"] T.d0l bJ λr y=>?_;walk_at "aâòA1SxóA0A1"
def Wx(T:Tx K mg):CK P w K mg base 1 "_law_cell_at" qo:=by
 refine cA ["_law_script","_law_k"] T.d0t bJ λr y=>?_;walk_at "c]A1ôõB0a";exact Gc (Fs (pv 0) (fv 1) 'l');walk_at "LcėĘB0aCLa";exact dM (oC (Gc (Fs (pv 0) (by walk_at "ÊA1ôõB0") 'l')) (ae aq)) (fv 1)
def Ke(T:Tx K mg):CK P w K mg base 1 "_law_clock" sL:=by
 refine cA ["_law_zone_here","_law_moment","_law_ahead"] T.d0y bJ λr y=>?_;walk_at "(d";exact rQ (by walk_at "ZEGA0CH") (pY y.1 (al.of (own:=["_law_begin","_law_more"]) (capN:=["_law_moment"])) rfl rfl (by walk_at "<GA0C") (λ_ _ _ _ _ _ h=>#[by walk_at "zuO0#O1",rJ (oD (fv 0) (fv 2)),fv 1]));walk_at "aVA1GA2ãC"
def tG(T:Tx K mg):CK P w K mg base 1 "_law_note" iu:=by
 refine cA ["_law_model","_law_runner","_law_word","_law_deed","_law_count"] T.d14 bJ λr y=>?_;walk_at "dPÓNB0>B3";refine et ?_ ?_;walk_at "ęNB0ĚÔRNB0Ô>B1Ô>B2Ô>B3ě>B4c$A2M";apply dc;(refine VN ?_ ?_ ?_ ?_ ?_ ?_ ?_ ?_<;>try walk_at "z");walk_at "NB0>B3VA4CLaQEA2EA3EA4H"
variable(P w)(base) in
def Wy{g:Addr}{fd:FuncData}(T:Tx K mg)(D:FD K mg "_law_which" wX ["_law_e"] g fd):iN P w K mg base (du P w) 1 g fd ["_law_e"] (ff K mg lV):=by
 let⟨b,d⟩:=T.xt0;refine Uo D.fn Wr 'f' ?_;intro c A a s H E F e r y;walk_at "h^E%?B0!E%?B0!E%?B0!E%?B0!HnB1ZE%?B0!E%?B0!E%?B0!E%?B0!HnB1ZE%?B0!E%?B0!E%?B0!Hc";exact fU (jX (jz (Wv r) (GK (g:=vo) PySem.F.slot_list_count PySem.F.type_list_count Ut Uv (pv 1) (ae gQ)) (ae aq)) (by walk_at "&rTUĝ?B0"));walk_at "aQEMEãCHLa";exact cP (az (ae bM) (az (GK (g:=vp) PySem.F.slot_list_index PySem.F.type_list_index Uu Uw (pv 1) (ae gQ)) aT))
def Kf(T:Tx K mg)(Z:eR K mg C):CM P w K mg base C 1 "is_held" (sM C):=by
 refine gJ ["self","moment"] Z.d2g bJ λr y=>?_;walk_at "asäÕB0SxóA1öB0"
def Bj(T:Tx K mg)(Z:eR K mg C):CM P w K mg base C 1 "add_row" (jj C):=by
 refine gJ ["self","row","word","deed","count"] Z.d2l bJ λr y=>?_;walk_at "dGA1CdGA1CdGA1C";refine et ?_ ?_;(refine UH ?_ ?_ ?_ ?_ ?_ ?_ ?_ ?_ ?_ ?_ ?_<;>try walk_at "z");walk_at "YøB0B1";refine et ?_ ?_;(refine UI ?_ ?_ ?_ ?_ ?_ ?_ ?_ ?_ ?_ ?_ ?_<;>try walk_at "z");walk_at "NYùB0B3B4A2cpA2M";refine dc ?_;refine Aa ?_ ?_ ?_ ?_ ?_;walk_at "YåB0QEA3EA4EæB0H";rfl;walk_at "gYåB0S";rfl;refine dc ?_;(refine UK ?_ ?_ ?_ ?_ ?_ ?_ ?_ ?_ ?_ ?_<;>try walk_at "z");walk_at "YúB0B3VA4CaQEA2EA3EA4H"
def Kg(T:Tx K mg)(Z:eR K mg C):CM P w K mg base C 1 "is_busy" (oO C):=by
 refine gJ ["self"] Z.d2m bJ λr y=>?_;walk_at "asä@B0Sx[G@B0CæB0"
def Wz(T:Tx K mg)(Z:eR K mg C):CM P w K mg base C 1 "held" (nq C):=by
 refine gJ ["self"] Z.d2t bJ λr y=>?_;walk_at "aQEÕB0EöB0EæB0H"
def Kh(T:Tx K mg)(Z:eR K mg C):CM P w K mg base C 1 "log" (lW C):=by
 refine gJ ["self"] Z.d2u bJ λr y=>?_;walk_at "eĞB0"
def Ki(T:Tx K mg):CK P w K mg base 2 "is_ahead" sN:=by
 let⟨a,b⟩:=T.d1e;let⟨c,d⟩:=T.d1f;refine cA ["thing"] T.d02 bJ λr y=>?_;walk_at "eI,DA0DWX?DWX?F"
def Bk(T:Tx K mg):CK P w K mg base 2 "is_moment" qp:=by
 let⟨a,b⟩:=T.d1b;refine cA ["thing"] T.d03 bJ λr y=>?_;walk_at "eI,DA0DCDWX?F"
def WB(T:Tx K mg):CK P w K mg base 2 "is_runner" wn:=by
 let⟨a,b⟩:=T.d1k;refine cA ["thing"] T.d04 bJ λr y=>?_;walk_at "eI,DA0DCDWX?F"
def WC(T:Tx K mg):CK P w K mg base 2 "is_term" wo:=by
 let⟨a,b⟩:=T.d1l;refine cA ["thing"] T.d05 bJ λr y=>?_;walk_at "eI,DA0DCDWX?F"
def wZ(T:Tx K mg):CK P w K mg base 2 "has_word" nr:=by
 refine cA ["thing","word","length"] T.d08 bJ λr y=>?_;walk_at "asJIÖDA0DA2Fs/:GA0Cûx[GA0CA1"
def WD(T:Tx K mg):CK P w K mg base 2 "check_count" wq:=by
 let⟨a,b⟩:=T.d1c;let⟨f,g⟩:=T.xt0;let⟨d,e,_⟩:=g.at_ (c:="NoCount") 'g';refine cA ["thing"] T.d0f bJ λr y=>?_;walk_at "frTUJI,DA0DCDWX?F";refine dc ?_;walk_at "-?L"
def WE(T:Tx K mg):CK P w K mg base 2 "first_showing" wr:=by
 let⟨_,_,d,c,a,b⟩:=Kd (P:=P) (w:=w) (base:=base) T;refine cA ["zone","hours","reached"] T.d0m bJ λr y=>?_;refine et ?_ ?_;(refine zC (own:=["start","end","ahead"]) (capN:=["hours"]) (caps:=[1]) ?_ ?_ ?_ ?_ ?_ ?_ ?_ ?_ ?_ ?_ ?_ ?_<;>try walk_at "z");exact y.1;exact al.of (own:=["start","end","ahead"]) (capN:=["hours"]) (caps:=[1]);walk_at "ØJIüDA0FλzuO0uO1#O2ËTUJÌÍDÙÚÛEA0EwA3A2HDA1FÙÚÛEA0EwA3A2HaGA2C"
def WF(T:Tx K mg):CK P w K mg base 2 "furthest_shown" wt:=by
 let⟨_,_,d,c,a,b⟩:=Kd (P:=P) T;refine cA ["zone","moment"] T.d0n bJ λr y=>?_;walk_at "(a";exact fh (λn d Q e q=>by let⟨o,g,h,M,i,j,k⟩:=Tw n d Q e q;refine#[o,g,h,λf l m=>?_];have:f = M:=q2H (k f l) (m M j);simp_all) (gm (Tg rfl) Th rfl T.d1y tF (az (pY y.1 (al.of (own:=["start","end","ahead"]) (capN:=["moment"])) rfl rfl (by walk_at "ØJIüDA0F") (λ_ _ _ _ _ _ h=>#[by walk_at "zuO0uO1#O2",rJ (oD (fv 0) (fv 3)),by walk_at "VÆTUJÌÍDA3DA1FA3wA1CA2"])) aT))
def Kj(T:Tx K mg):CK P w K mg base 2 "first_day" sP:=by
 let⟨a,b⟩:=T.d1m;refine cA ["zone","hour"] T.d0o bJ λr y=>?_;walk_at "aãçwA1JIĠDA0DCFWX?"
def WG(T:Tx K mg):CK P w K mg base 2 "_law_mixed" wu:=by
 refine cA ["_law_script","_law_k","_law_many","_law_drawn"] T.d0u bJ λr y=>?_;walk_at "dÊÇVVJIġKB0DA1FÇCA1CCCaÊÊVVÇA3A3ÇCA3A1CA2"
def WH(T:Tx K mg):CK P w K mg base 2 "_law_dues" oP:=by
 refine cA ["_law_zone_here","_law_plan_here","_law_last","_law_made","_law_goal","_law_moment"] T.d10 bJ λr y=>?_;walk_at "cpGA1CMaýZEGA1CHþÿáEÜGA1CA2HLcpGA1CMaĢģEGA1CEVA2CEGA1CHLh^HdwGA1CC";refine et ?_ ?_;refine Gj ?_ ?_ ?_;walk_at "Ā]A4JIāDA0DCFkVA4CjÁÂEVA2CHO5";refine dc (Gj ?_ ?_ ?_);walk_at "ĀÀA4JIāDA0DA5FoB3A5kVA4C";refine dc (Gh ?_);walk_at "B3"
def WI(T:Tx K mg):CK P w K mg base 2 "_law_step" oR:=by
 refine cA ["_law_model","_law_runner","_law_now","_law_deed","_law_left","_law_some","_law_late","_law_out"] T.d15 bJ λr y=>?_;walk_at "ct{ÃPRNB0S|pGPRNB0CPRNB0a";exact cP (az (ae bM) (az (by walk_at "GPRNB0C") (az (cQ (sj (bU r) (pv 0) (VM (cV (bU r) (pv 0)) (VJ nQ λ_=>.int _)))) aT)));walk_at "LcÃPRNB0SdGPRNB0ClNB0S";rfl;walk_at "crTUGGPRNB0A3CeIÎKB0DA1DMDA3FLlNB0QEA3EPRNB0H";rfl;walk_at "eIÎKB0DA1DMDA3FL";refine et ?_ ?_;(refine VG (own:=["_law_deed"]) (capN:=["_law_model"]) (caps:=[0]) ?_ ?_ ?_ ?_ ?_ ?_ ?_ ?_ ?_ ?_ ?_ ?_ ?_<;>try walk_at "z");exact y.1;exact al.of (own:=["_law_deed"]) (capN:=["_law_model"]) (caps:=[0]);walk_at "ÁÂE*+EPRNB0HHλO0=èGPRNB1A0ÈPÓNB1>B0d";exact fh (λa d Q e q=>#[d,e,q]) (gm TS.call_sortedS VA rfl T.d21 'g' (az (pY y.1 (al.of (own:=["_law_deed","_law_row"]) (capN:=[]) (caps:=[])) rfl rfl (by walk_at "ÝÞEA4H") (λ_ _ _ _ _ _ h=>#[by walk_at "zuO0#O1",by walk_at "Ë$A1ZH",by walk_at "QEGA1CEA0H"])) aT));walk_at "ct.pA5ZH&ÉGGA5CCA2aQEMEGGñA5ZEQESESHHCCHLdGGA5CCdGGPRNB0A3Cds[A6Msé*+EGA4A3HCxÜGGA4A3CA2cTU/:A6ÒÅkéwA2GGA4A3CGA6CLcTUA7eIÎKB0DA1DMDA3FLlNB0QEA3EPRNB0H";rfl;walk_at "eIÎKB0DA1DMDA3F"
def WJ(T:Tx K mg)(Z:eR K mg C):CM P w K mg base C 2 "step_behind_a_fall" (qr C):=by
 let⟨a,b⟩:=T.d1p;refine gJ ["self","runner","moment","deed","word"] Z.d2p bJ λr y=>?_;walk_at "dG@B0CdÆTUGGÄB0A3WX?MMeyêB0DQEA2EA1EA4EA3EG@B0CHF"
def WK(T:Tx K mg):CK P w K mg base 3 "are_shifts" wz:=by
 let⟨a,b⟩:=T.d1b;let⟨c,d⟩:=T.d1g;refine cA ["thing","earliest","shift"] T.d06 bJ λr y=>?_;walk_at "ct.rTU/:A0ÒÅ&É*+EA0HWX?avLdCj<A0O2ct.rTUJIÖDA2DCF&rTUJIĂDGA2CFavLcrTUJI,DGA2CDA1DWX?FavLkVGA2CCav"
def WL(T:Tx K mg):CK P w K mg base 3 "is_plan" qt:=by
 let⟨a,b⟩:=T.d1d;let⟨c,d⟩:=T.d1h;refine cA ["thing"] T.d09 bJ λr y=>?_;walk_at "cTUJIßDA0DMDCFeIëDGA0CFLcTUJIßDA0DMDCFasJIëDGA0CFxJI,DGA0CDCDWX?FLasJIßDA0DMDCFxJI,DGA0CDCDWX?F"
def WM(T:Tx K mg):CK P w K mg base 3 "is_late" qu:=by
 let⟨a,b⟩:=T.d1j;refine cA ["thing"] T.d0a bJ λr y=>?_;walk_at "cTU/:A0ûaâ[A0Mx[A0MLasJIßDA0DMDCFxJI,DGA0CDCDWX?F"
def WN(T:Tx K mg):CK P w K mg base 3 "check_moment" wC:=by
 let⟨d,e⟩:=T.xt0;let⟨a,b,_⟩:=e.at_ (c:="NoMoment") 'g';refine cA ["thing"] T.d0e bJ λr y=>?_;walk_at "frTUJIëDA0F";refine dc ?_;walk_at "-?L"
def WO(T:Tx K mg):CK P w K mg base 3 "check_runner" wD:=by
 let⟨d,e⟩:=T.xt0;let⟨a,b,_⟩:=e.at_ (c:="NoRunner") 'g';refine cA ["thing"] T.d0h bJ λr y=>?_;walk_at "frTUJIĤDA0F";refine dc ?_;walk_at "-?L"
def WP(T:Tx K mg):CK P w K mg base 3 "check_term" wE:=by
 let⟨d,e⟩:=T.xt0;let⟨a,b,_⟩:=e.at_ (c:="NoTerm") 'g';refine cA ["thing"] T.d0i bJ λr y=>?_;walk_at "frTUJIĥDA0F";apply dc;walk_at "-?L"
def WQ(T:Tx K mg):CK P w K mg base 3 "daily_time" wF:=by
 let⟨a,b⟩:=T.d1m;refine cA ["zone","hour","count","day"] T.d0p bJ λr y=>?_;walk_at "dVJIăDA0DA1FA2eIĦDA0DVÇA3WX?A1F"
def WR(T:Tx K mg):CK P w K mg base 3 "times_by" nu:=by
 let⟨a,b⟩:=T.d1m;refine cA ["zone","plan","moment","last_day"] T.d0r bJ λr y=>?_;walk_at "c]A2CaCLcpGA1CMaÆÀGA1CA2CCLcpGA1CMaÙÚÛECEVçwA2GA1CGA1CCHLdçwJIħDA0DA2FGA1CWX?aVwA3JIăDA0DGA1CFC"
def fC(T:Tx K mg):CK P w K mg base 3 "_law_draw" cX:=by
 refine cA ["_law_script","_law_town","_law_many"] T.d0v bJ λr y=>?_;walk_at "oB1CeIĨKB0DĩB1DA2F"
def WS(T:Tx K mg):CK P w K mg base 3 "_law_new" sU:=by
 let⟨_,_,d,c,a,b⟩:=WH (P:=P) (w:=w) (base:=base) T;refine cA ["_law_zone_here","_law_deeds_here","_law_rows","_law_model"] T.d13 bJ λr y=>?_;refine et ?_ ?_;(refine zC (own:=["_law_deed"]) (capN:=["_law_zone_here"]) (caps:=[0]) ?_ ?_ ?_ ?_ ?_ ?_ ?_ ?_ ?_ ?_ ?_ ?_<;>try walk_at "z");exact y.1;exact al.of (caps:=[0]);walk_at "<A1λO0=JÌÍDA1DGA0CDCFh";exact Az (sC (fv 1) (sC (fv 2) (HE (by walk_at "ĪZECH*+EA1H") (vS VD (λ_=>.int _) (vS ur (λ_=>.non) (vS nQ (λ_=>.int _) (vS nQ (λ_=>.int _) Ay))))))) rfl rfl 'd' 'f';refine et ?_ ?_;exact HL (pv 3) (Az (by walk_at "ìSī^HĄ") rfl rfl 'd' 'f');refine dc ?_;refine Gh ?_;walk_at "B3"
def WT(T:Tx K mg):CK P w K mg base 3 "_law_own" jD:=by
 refine cA ["_law_model","_law_call_here","_law_runner","_law_now","_law_free","_law_deed"] T.d16 bJ λr y=>?_;refine et ?_ ?_;(refine (Rz (?_) (?_) (?_) (?_) (?_)).imp λD U q=>vd q<;>try walk_at "z");walk_at "ĬA1ÈCÈCzuO2#O3c]A3PRNB0aQEMECHLdâòPRNB0SxĭA3PRNB0ct{$GA1CM|t.TUA4&$PRNB0A2aQEMECHLct{pGA1CM|t.ÏPRNB0S&$GPRNB0CPRNB0aQEMECHLlNB0A3";rfl;walk_at "cpGA1CMct{rTUA4|$PRNB0A2avLcTUA4";refine dc ?_;refine HB ?_ ?_ ?_ ?_;walk_at "NB0VPRNB0C";rfl;exact bD;refine et ?_ ?_;exact HL (pv 0) (Az (by walk_at "ìA2ìVA3GA1CĮĄ") rfl rfl 'd' 'f');walk_at "avLcpGA1CMlNB0S";rfl;walk_at "aSLcpGA1CMeIįKB0DA2DA3FLdGPRNB0ClNB0S";rfl;walk_at "eIÎKB0DA2DMDA5F"
def WU(T:Tx K mg):CK P w K mg base 4 "is_zone" wG:=by
 refine cA ["thing"] T.d07 bJ λr y=>?_;walk_at "asJIÖDA0DCFsJIĂDGA0CFxJIİDGA0CF"
def WV(T:Tx K mg):CK P w K mg base 4 "is_deed" wH:=by
 refine cA ["thing"] T.d0b bJ λr y=>?_;walk_at "asJIÖDA0DCFsJIıDGA0CFsJIĲDGA0CFx/:GA0Cð"
def xa(T:Tx K mg):CK P w K mg base 4 "time_of" jE:=by
 refine cA ["zone","plan","count"] T.d0q bJ λr y=>?_;walk_at "cpGA1CMaÆpA2CGA1CSLcpGA1CMaVGA1CÇA2GA1CLeIĳDA0DGA1CDA2F"
def nB(T:Tx K mg):CK P w K mg base 4 "_law_pick" jF:=by
 refine cA ["_law_script","_law_town","_law_some"] T.d0w bJ λr y=>?_;walk_at "aGA2JIqKB0KB1D*+EA2HF"
def Kk(T:Tx K mg)(Z:eR K mg C):CM P w K mg base C 4 "check_call" (fZ C):=by
 let⟨d,e⟩:=T.xt0;let⟨a,b,_⟩:=e.at_ (c:="NoMoment") 'g';refine gJ ["self","runner","moment"] Z.d2h bJ λr y=>?_;walk_at "iIĴDA1FiIĵDA2Fft{ÃÐB0S|]A2ÐB0";apply dc;walk_at "-?L"
def Kl(T:Tx K mg)(Z:eR K mg C):CM P w K mg base C 4 "waiting" (oU C):=by
 let⟨_,_,d,c,a,b⟩:=WR T;let⟨e,f⟩:=T.d1n;refine gJ ["self"] Z.d2v bJ λr y=>?_;walk_at "cÏÐB0Se";exact HH y.1 (al.of (own:=["deed"]) (capN:=[])) rfl rfl (by walk_at "Ķ<ÄB0") (λ_ _ _ _ _ _ h=>#[cJ 0,lM,ae aq]);walk_at "Le";exact HH y.1 (al.of (own:=["deed","many"]) (capN:=["self"])) rfl rfl (by walk_at "ķB0B0") (λ_ _ _ _ _ _ h=>#[by walk_at "zuO0#O1",lM,by walk_at "wJÌÍDĸB2DGA0WX?DĹB2FA1"])
def WX(T:Tx K mg):CK P w K mg base 5 "are_deeds" AZ:=by
 let⟨_,_,f,e,a,b⟩:=WV (P:=P) (w:=w) (base:=base) T;let⟨c,d⟩:=T.d1i;refine cA ["thing"] T.d0c bJ λr y=>?_;walk_at "ct.rTU/:A0ÒÅ&É*+EA0HWX?avLa";exact fh (λh d Q e q=>by
    unfold pU at e;split at e
    .let⟨bs,f,g⟩:=q0i.mp e;rw[Ga f];subst g;exact#[bs,rfl,q]
    .cases e) (gm (So rfl) Sq rfl T.d1r 'g' (az (pY y.1 (al.of (own:=["deed"]) (capN:=[]) (caps:=[])) rfl rfl (lK (fv 0)) (λ_ _ _ _ _ _ h=>#[cJ 0,lM,by walk_at "JÌÍDA0F"])) aT))
def WY(T:Tx K mg):CK P w K mg base 5 "check_zone" sW:=by
 let⟨d,e⟩:=T.xt0;let⟨a,b,_⟩:=e.at_ (c:="NoZone") 'g';refine cA ["thing"] T.d0d bJ λr y=>?_;walk_at "frTUJIĻDA0F";refine dc ?_;walk_at "-?L"
def WZ(T:Tx K mg):CK P w K mg base 5 "is_left_out" oV:=by
 let⟨a,b⟩:=T.d1n;let⟨c,d⟩:=T.d1o;refine cA ["zone","deed","count","now","later"] T.d0s bJ λr y=>?_;walk_at "cpGA1WX?MavLcpGA1WX?MdJIàDA0DGA1WX?DVA2CFasäA4SxÜA4A3LaéwA3JIàDA0DGA1WX?DA2FGGA1WX?C"
def Xa(T:Tx K mg):CK P w K mg base 5 "_law_zone" sY:=by
 refine cA ["_law_script","_law_town","_law_shifts","_law_moment","_law_k"] T.d0x bJ λr y=>?_;walk_at "h^HdCjÁÂEJIqKB0KB1DCFHO4dVVA3CJIqKB0KB1DJI}KB0KB1DZECECECHFFmB2QEA3EwJIqKB0KB1DCFCHcpJIqKB0KB1DCFC";refine dc ?_;(refine zC (own:=["_law_k","_law_one","_law_more"]) (capN:=[]) (caps:=[]) ?_ ?_ ?_ ?_ ?_ ?_ ?_ ?_ ?_ ?_ ?_ ?_<;>try walk_at "z");exact y.1;exact al.of (capN:=[]);walk_at "ÝÞEA2HλzuO0#zuO1#O2=QEA1EVCÊA0CHLaQEwJIqKB0KB1DCFCEąĆÅEA2HH"
def Xb(T:Tx K mg):CK P w K mg base 5 "_law_plan" qw:=by
 refine cA ["_law_script","_law_town","_law_kind","_law_step_here"] T.d0z bJ λr y=>?_;walk_at "dJIqKB0KB1DCFcpA2CaQEMEJIqKB0KB1DJI}KB0KB1DZECECECHFFHLc]A2CdVCJIqKB0KB1DJI}KB0KB1DZECECECHFFaQEMEJIqKB0KB1DCFEA3HLaQEMEJIqKB0KB1DCFH"
def Xc(T:Tx K mg):CK P w K mg base 5 "_law_call" nv:=by
 refine cA ["_law_script","_law_town","_law_now","_law_holder","_law_runner","_law_moment","_law_kind"] T.d12 bJ λr y=>?_;walk_at "dJIqKB0KB1DCFct{ÃA3S|ÉJIqKB0KB1DCFCkA3LdVA2JI}KB0KB1DZECECECECECEJIqKB0KB1DCFHFdJIqKB0KB1DCFct.ÏA3S&]A6CaQEMEA4EA5EVCJIqKB0KB1DJI}KB0KB1DZECECHFFHLcpA6CaQEMEA4EA5HLaGýZEQEMEA4EA5HEQEMEA4EA5HHCwA6C"
def Xd(T:Tx K mg)(Z:eR K mg C):CK P w K mg base 5 "_law_alike" (oY C):=by
 refine cA ["_law_hall","_law_model","_law_wish","_law_deed","_law_row"] T.d19 bJ λr y=>et ?_ ?_;walk_at "ć~ĈB0";refine et ?_ ?_;walk_at "ć~ĉB0ct.ļNB1J~ĈB0&$J~ĽB0QEPRNB1EPRNB1EPRNB1HavLh^HjÝÞEPRNB1HzuO3#O4mB2";exact fh jY (gm iX jU rfl T.d1w q2i (az (VF y.1 (al.of (own:=["_law_moment"]) (capN:=["_law_model"])) rfl rfl rfl (by walk_at "ØèA4ÈPÓNB1>B3") (λ_ _ _ _ _ _ h=>#[cJ 0,by walk_at "ËÀA0PRNB1",fv 0])) aT));walk_at "a[J~ĉB0A2"
def Bl(T:Tx K mg)(Z:eR K mg C):CM P w K mg base C 5 "check_holder" (gc C):=by
 let⟨d,e⟩:=T.xt0;let⟨a,b,_⟩:=e.at_ (c:="NotHolder") 'g';refine gJ ["self","runner","moment"] Z.d2i bJ λr y=>?_;walk_at "iyĊB0DA1DA2Fft.rTUJyċB0DA2F&$ÕB0A1";apply dc;walk_at "-?L"
def Xe(T:Tx K mg)(Z:eR K mg C):CM P w K mg base C 5 "take" (kS C):=by
 refine gJ ["self","runner","moment","term"] Z.d2j bJ λr y=>?_;walk_at "iyĊB0DA1DA2FiIľDA3FgYÑB0A2";rfl;walk_at "crTUJyċB0DA2F";refine dc (UL ?_ ?_ ?_ ?_);walk_at "YČB0Ŀf$ÕB0A1avLgYíB0A1";rfl;walk_at "gYčB0VA2A3";rfl;walk_at "av"
def Xf(T:Tx K mg)(Z:eR K mg C):CM P w K mg base C 5 "first_unsettled" (wO C):=by
 let⟨a,b⟩:=T.d1n;refine gJ ["self","found","deed","count","moment"] Z.d2n bJ λr y=>?_;walk_at "h^HjÁÂE*+EÄB0HHO2dŀB0B2dJIàDîB0DGGÄB0A2WX?DA3FfÃA4SmB1QEA4EA2EA3HLaŁNB1"
def Xg(T:Tx K mg)(Z:eR K mg C):CM P w K mg base C 5 "state" (tp C):=by
 let⟨d,e⟩:=T.d1n;let⟨f,g⟩:=T.xt0;let⟨a,b,_⟩:=g.at_ (c:="NoDeed") 'g';refine gJ ["self","deed","count","moment"] Z.d2s bJ λr y=>?_;walk_at "crTUJI,DA1DCDw*+EÄB0HCF";apply dc;walk_at "-?LiIłDA2FcŃNB0B1B2ańNB0B1B2LdJIàDîB0DGGÄB0A1WX?DA2FcÏA3SaMLaÆt{ÃÐB0S|ÀA3ÐB0MM"
def Xh(T:Tx K mg):CK P w K mg base 6 "check_deeds" tq:=by
 let⟨d,e⟩:=T.xt0;let⟨a,b,_⟩:=e.at_ (c:="NoDeeds") 'g';refine cA ["thing"] T.d0g bJ λr y=>?_;walk_at "frTUJIŅDA0F";refine dc ?_;walk_at "-?L"
def Xi(T:Tx K mg):CK P w K mg base 6 "_law_deeds" wR:=by
 refine cA ["_law_script","_law_town","_law_made","_law_k","_law_hours","_law_late"] T.d11 bJ λr y=>?_;walk_at "h^HjÁÂEJIqKB0KB1DJI}KB0KB1DZECECECHFFHO3dJIqKB0KB1DJI}KB0KB1DZECECECHFFdJI}KB0KB1DZEMEMEQEMEA4HHFmB2QEJIņKB0KB1FEA5E[JIqKB0KB1DCFCHaąĆÅEA2H"
def Xj(T:Tx K mg)(Z:eR K mg C):CK P w K mg base 6 "_law_stands" (tz C):=by
 refine cA ["_law_hall","_law_model","_law_words","_law_moment","_law_runner","_law_word","_law_deed","_law_count","_law_row","_law_wish"] T.d1a bJ λr y=>?_;walk_at "hŇjØňNB1zuO3uO4uO5uO6#O7";refine dc (Ub ?_ ?_ ?_ ?_ ?_);walk_at "NB2QEA6EA7HA5";rfl;walk_at "jÝÞEPRNB1HzuO6#O8";apply dc;(refine Gi ?_ ?_ ?_ ?_ ?_ ?_<;>try walk_at "z");walk_at "ÁÂEVPÓNB1>B6CHO7dŉNB2QEA6EA7HMcpA9MdMf]A7*+EA8HkGZEMEMHþÿáEÜGA8A7PRNB1HLLf$JyŊB0DA6DA7FA9avLav"
def Xk(T:Tx K mg)(Z:eR K mg C):CM P w K mg base C 6 "give" (ny C):=by
 refine gJ ["self","runner","moment"] Z.d2k bJ λr y=>?_;walk_at "iyïB0DA1DA2FgYÑB0A2";rfl;apply dc;refine Aa ?_ ?_ ?_ ?_ ?_;walk_at "YíB0S";rfl
def Xl(T:Tx K mg)(Z:eR K mg C):CM P w K mg base C 6 "step_ahead" (lX C):=by
 refine gJ ["self","runner","moment","found","deed","count","word"] Z.d2q bJ λr y=>?_;walk_at "dJ~ŋB0cÏA3SaQEMESHLcÉGA3CA2aQEMEGA3CHLdGA3CdGA3CdÆTUJIŌDîB0DGÄB0A4DA5DA2FMMeyêB0DQEA2EA1EA6EA4EA5HF"
def Xm(T:Tx K mg)(Z:eR K mg C):CM P w K mg base C 6 "finish" (kT C):=by
 let⟨d,e⟩:=T.xt0;let⟨a,b,_⟩:=e.at_ (c:="Nothing") 'g';refine gJ ["self","runner","moment"] Z.d2r bJ λr y=>?_;walk_at "iyïB0DA1DA2FcrTUJ~ĎB0";apply dc;walk_at "-?LgYÑB0A2";rfl;walk_at "eyêB0DQEA2EA1EMEG@B0CEG@B0CHF"
def Xn(T:Tx K mg)(Z:eR K mg C):CM P w K mg base C 7 "__init__" (wV C):=by
 refine gJ ["self","zone","deeds"] Z.d2f bJ λr y=>?_;walk_at "iIōDA1FiIŎDA2FgYŏB0A1";rfl;walk_at "gYŐB0A2";rfl;walk_at "gYÑB0S";rfl;walk_at "gYíB0S";rfl;walk_at "gYčB0C";rfl;walk_at "gYČB0C";rfl;walk_at "gYåB0S";rfl;refine et ?_ ?_;refine UN ?_ ?_ ?_ ?_;walk_at "YøB0";rfl;refine et ?_ ?_;refine UO ?_ ?_ ?_ ?_;walk_at "YùB0";rfl;refine dc ?_;(refine Vb (own:=["deed"]) (capN:=[]) (caps:=[]) ?_ ?_ ?_ ?_ ?_ ?_ ?_ ?_ ?_ ?_ ?_<;>try walk_at "z");walk_at "YúB0";exact y.1;exact al.of (own:=["deed"]) (capN:=[]) (caps:=[]);walk_at "<A2λO0=C"
def Xo(T:Tx K mg)(Z:eR K mg C):CM P w K mg base C 7 "step" (ko C):=by
 refine gJ ["self","runner","moment"] Z.d2o bJ λr y=>?_;walk_at "iyïB0DA1DA2FgYÑB0A2";rfl;walk_at "cTUJ~ĎB0aQEMEG@B0CEG@B0CHLcÃ@B0SeyőB0DA1DA2FLeyŒB0DA1DA2F"
def Xp(T:Tx K mg)(Z:eR K mg C):CK P w K mg base 8 "_law_do" (fj C):=by
 let⟨_,_,_,o,m,a,c⟩:=Xm (P:=P) (w:=w) (base:=base) T Z;let⟨_,_,_,t,p,d,e⟩:=Xe (P:=P) (w:=w) (base:=base) T Z;let⟨_,_,_,u,q,f,g⟩:=Xk (P:=P) (w:=w) (base:=base) T Z;let⟨_,_,_,v,s,k,l⟩:=Xo (P:=P) (w:=w) (base:=base) T Z;let⟨J,L,x⟩:=T.d17;have G:=Wy P w base T x;let⟨z,M⟩:=T.xt0;refine cA ["_law_hall","_law_call_here","_law_e"] T.d18 bJ λr y=>?_;unfold kU;refine dc ?_;refine Uk (D:=z) (i:=2) ?_ ?_ ?_ ?_ ?_ ?_ ?_ ?_ ?_ ?_<;>try walk_at "z"
 .exact y.1
 .intro H A B N n I;refine et ?_ ?_
  .refine rH ?_ ?_ ?_
   .exact(eQ r.units (aJ (fv 1) (ae aq)) (ae bM))
   .refine dc ?_;refine pX ?_
    .exact(vI n Z.cl e d r (pv 0) (ay (aJ (fv 1) (ae aq)) (ay (aJ (fv 1) (ae aq)) (ay (aJ (fv 1) (ae aq)) aL))))
   .exact bD
  refine et ?_ ?_
  .refine rH ?_ ?_ ?_
   .exact(eQ r.units (aJ (fv 1) (ae aq)) (ae bM))
   .refine dc ?_;refine pX ?_
    .exact(vI n Z.cl g f r (pv 0) (ay (aJ (fv 1) (ae aq)) (ay (aJ (fv 1) (ae aq)) aL)))
   .exact bD
  refine et ?_ ?_
  .refine rH ?_ ?_ ?_
   .exact(eQ r.units (aJ (fv 1) (ae aq)) (ae bM))
   .refine dc ?_;refine pX ?_
    .exact(vI n Z.cl l k r (pv 0) (ay (aJ (fv 1) (ae aq)) (ay (aJ (fv 1) (ae aq)) aL)))
   .exact bD
  refine dc ?_;refine pX ?_
  .exact(vI n Z.cl c a r (pv 0) (ay (aJ (fv 1) (ae aq)) (ay (aJ (fv 1) (ae aq)) aL)))
 .intro H O A B E;refine dc ?_;refine pX ?_
  .exact(Gf (Uq (jl E) G (bH.h (r.mono (j:=1) 'f') _) rfl x.mgf x.fn.kp x.b (bn (pv 2) aL)))
variable(P w)(base) in
def Xq{C:Addr}{g:Addr}{fd:FuncData}(T:Tx K mg)(Z:eR K mg C)(D:FD K mg "law" nA ["_law_script"] g fd):cR P w K mg base (du P w) 9 g fd ["_law_script"] (ff K mg (IM C)):=by
 let⟨_,_,_,e,d,a,c⟩:=Xn (P:=P) (w:=w) (base:=base) T Z;refine ze D.fn Ws 'f' ?_;intro h A f s H E F i r y;walk_at "h^HdJIœKB0KB1FdJIŔKB0KB1Fh";exact UF y (Z.make a.mt) c (r.mono 'f') rfl Z.mg a.b (by walk_at "EA2EA3H");walk_at "hIŖDA2DA3FjÁÂEJIqKB0KB1DCFHO6dJIŗKB0KB1DÙÚÛECEPRNB5HDPRNB5Fct{pJIqKB0KB1DCFC|ÉPRNB5CkďďŘA7ÈCQEwPRNB5CHèA7ÈCLft.$JIřKB4DA7FJIŚKB5DA7F&rTUJIśKB4KB5FavLeIŜKB4KB5F"
end
end K3
namespace K3
open PySem L2 L2.L3
set_option backward.defeqAttrib.useBackward true
abbrev C:Addr:=493
section
variable{α β:Type}{f:α->β}{a b c d e g x y:α}{l m:List α}{i N:Nat}{A B:β}
@[simp 3000]def q1:List.map f (a::l)=f a::List.map f l:=rfl
@[simp 3000]def q2:List.map f []=[]:=rfl
@[simp 3000]def q3:a::l++m=a::(l++m):=rfl
@[simp 3000]def q4:[]++m=m:=rfl
@[simp 3000]def q5:(a::l)[0]? = !a:=rfl
@[simp 3000]def q6:(a::l)[i+1]? = l[i]?:=rfl
@[simp 3000]def q7:(a::l).set 0 b=b::l:=rfl
@[simp 3000]def q8:(a::l).set (i+1) b=a::l.set i b:=rfl
@[simp ↓ 3000]def q9:(if true=true then A else B)=A:=rfl
@[simp ↓ 3000]def m9:(if false=true then A else B)=B:=rfl
end
@[simp] def lY(g:List af):eF->oh
 |.nx U=>(match dX g U with |some o=>.rt (.dat .none) o |none=>.bad)
 |.rt c U=>(match dX g U with |some o=>.rt c o |none=>.bad)
 |.ex c U=>(match dX g U with |some o=>.ex c o |none=>.bad)
 |_=>.bad
@[simp ↓ 3000]def n0:bf 1 N m [a]=lY [a] (m (some a::List.replicate (N - 1) none)):=rfl
@[simp ↓ 3000]def n4:bf 2 N m [a,b]=lY [a,b] (m (some a::some b::List.replicate (N - 2) none)):=rfl
@[simp ↓ 3000]def n5:bf 3 N m [a,b,c]=lY [a,b,c] (m (some a::some b::some c::List.replicate (N - 3) none)):=rfl
@[simp ↓ 3000]def n6:bf 4 N m [a,b,c,d]=lY [a,b,c,d] (m (some a::some b::some c::some d::List.replicate (N - 4) none)):=rfl
@[simp ↓ 3000]def n9:bf 5 N m [a,b,c,d,e]=lY [a,b,c,d,e] (m (some a::some b::some c::some d::some e::List.replicate (N - 5) none)):=rfl
@[simp ↓ 4000]def o0:bf 1 1 m [a]=lY [a] (m [!a]):=rfl
@[simp ↓ 4000]def o3:bf 2 2 m [a,b]=lY [a,b] (m [!a,!b]):=rfl
@[simp ↓ 4000]def o4:bf 3 3 m [a,b,c]=lY [a,b,c] (m [!a,!b,!c]):=rfl
@[simp ↓ 4000]def o5:bf 4 4 m [a,b,c,d]=lY [a,b,c,d] (m [!a,!b,!c,!d]):=rfl
section
variable{a b c d e f:PyData}{A B:α}
@[simp ↓ 3000]def o6:(if ([]:List PyData).length<=sizeLine then A else B)=A:=rfl
@[simp ↓ 3000]def o7:(if [a].length<=sizeLine then A else B)=A:=rfl
@[simp ↓ 3000]def lZ:(if [a,b].length<=sizeLine then A else B)=A:=rfl
@[simp ↓ 3000]def o8:(if [a,b,c].length<=sizeLine then A else B)=A:=rfl
@[simp ↓ 3000]def o9:(if [a,b,c,d].length<=sizeLine then A else B)=A:=rfl
@[simp ↓ 3000]def p5:(if [a,b,c,d,e].length<=sizeLine then A else B)=A:=rfl
end
end K3
namespace K3
open PySem L2 L2.L3 Due
noncomputable def cT(d:PyData)(lo a:Int):Bool:=match d with
 |.int i=>decide (lo<=i)&&decide (i<=a)
 |_=>false
noncomputable def eS:PyData->Bool
 |.dict _=>false
 |_=>true
@[simp]def p6:fV "int" "int" = !true:=rfl
@[simp]def p7:fV "int" "bool" = !false:=rfl
@[simp]def p8:fV "bool" "int" = !true:=rfl
@[simp]def p9:fV "bool" "bool" = !true:=rfl
@[simp]def q0:fV "NoneType" "int" = !false:=rfl
@[simp]def r0:fV "str" "int" = !false:=rfl
@[simp]def r4:fV "list" "int" = !false:=rfl
@[simp]def r6:fV "tuple" "int" = !false:=rfl
@[simp]def r9:fV "int" "tuple" = !false:=rfl
@[simp]def t0:fV "bool" "tuple" = !false:=rfl
@[simp]def t9:fV "NoneType" "tuple" = !false:=rfl
@[simp]def u0:fV "str" "tuple" = !false:=rfl
@[simp]def u6:fV "list" "tuple" = !false:=rfl
@[simp]def u7:fV "tuple" "tuple" = !true:=rfl
def tH(i j):PyData.eqv (.int i) (.int j)=(i==j):=by rw[PyData.eqv]
def qA(i):SeqAt.shaped (.int i)=true:=by rfl
def kX(h:eS d=true):gY [.dat d,.dat (.int lo),.dat (.int hi)]=.rt (.dat (.bool (cT d lo hi))) []:=by
 cases d with
 |dict _=>cases h
 |int i=>
  by_cases a:lo<=i
  .simp[av,gY,wh,cT,a]
  .simp[av,gY,wh,cT,a]
 |_=>simp[av,gY,wh,cT]
noncomputable def iF(d:PyData)(n:Int):Bool:=match d with
 |.tuple ds=>decide ((ds.length:Int)=n)
 |_=>false
def tI(h:eS d=true):nk [.dat d,.dat (.int n)]=.rt (.dat (.bool (iF d n))) []:=by
 cases d with
 |dict _=>cases h
 |tuple ds=>simp[av,nk,AE,iF,qA,tH];rfl
 |_=>simp[av,nk,AE,iF]
def Km(h:eS d=true):sN [.dat d]=.rt (.dat (.bool (cT d (-12) 14))) []:=by simp[sN,Ie,kX h]
def Bm(h:eS d=true):qp [.dat d]=.rt (.dat (.bool (cT d 0 9999))) []:=by simp[qp,Ig,kX h]
def Bn(h:eS d=true):wC [.dat d]=if cT d 0 9999=true then .rt (.dat .none) []else .ex "NoMoment" []:=by simp only[wC,Iq];cases a:cT d 0 9999<;>simp[Bm h,a]
noncomputable abbrev dE(p:Int×Int):PyData:=.tuple [.int p.1,.int p.2]
abbrev bY(a:Int)(b:Sh):PyData:=.tuple [.int a,.tuple (b.map dE)]
@[simp]def tJ{x:PyData}:bT (x::l) 0=!x:=by unfold bT dR;simp_all
@[simp]def tK{y:PyData}:bT (x::y::l) 1=!y:=by unfold bT dR;rw[if_pos 'a',if_pos (by simp<;>lia)];rfl
@[simp]def xb{x:PyData}:bT (l++[x]) (-1)=!x:=by unfold bT dR;rw[if_neg 'a',if_pos (by simp;lia)];simp;rw[show(-1+((l.length:Int)+1)).toNat=l.length by lia];simp
theorem Kn:∀{a lo x},gr lo a->(∀p∈a,p.1<=9999/\-12<=p.2/\p.2<=14)->∃e y,cz (aw 2) wy (a.map dE) [c,!.dat (.int (lo+1)),x]=.nx [c,e,y]
 |[],_,_,_,_=>#[_,_,rfl]
 | (b,k)::r,lo,x,⟨i,f⟩,ho=>by
  let⟨e,y,g⟩:=Kn (lo:=b) (c:=c) (x:=!.dat (dE (b,k))) f λp h=>ho p (bK _ h);have hb:=ho (b,k) q0g;refine#[e,y,?_];rw[q0h,cz,<-g];have:wy [c,!.dat (.int (lo+1)),!.dat (dE (b,k))]=.nx [c,!.dat (.int (b+1)),!.dat (dE (b,k))]:=by simp[av,wy,tI (d:=.tuple [.int b,.int k]) rfl,iF,Km (d:=.int k) rfl,kX (d:=.int b) rfl,cT,hb.2.1,hb.2.2,hb.1,show lo+1<=b by lia]
  simp[av,this]
def Xr(f:a.length<=6)(b:gr 0 a)(d:∀p∈a,p.1<=9999/\-12<=p.2/\p.2<=14):wz [.dat (.tuple (a.map dE))]=.rt (.dat (.bool true)) []:=by let⟨e,y,h⟩:=Kn b d;simp[wz,Ip,show ¬ (6:Int)<a.length by lia]at h ⊢;rw[h];simp
def Xs(z:eG a b):wG [.dat (bY a b)]=.rt (.dat (.bool true)) []:=by have c:=z.ah.1;simp[wG,Iy,tI (d:=bY a b) rfl,iF,Km (d:=.int a) rfl,cT,c.1,c.2,Xr z.len z.rise λp e=>#[z.top p e,z.ah.2 p e]]
def Xt(z:eG a b):sW [.dat (bY a b)]=.rt (.dat .none) []:=by simp[sW,IC,Xs z]
theorem Ko:∀{ss a x},∃y,cz (aw 3) AF (ss.map dE) [z,!.dat (.int m),!.dat (.int a),x]=.nx [z,!.dat (.int m),!.dat (.int (fY a ss m)),y]
 |[],_,_=>#[_,rfl]
 | (b,c)::r,a,x=>by
  let⟨y,d⟩:=Ko (x:=!.dat (dE (b,c)));refine#[y,?_];rw[q0h,cz];unfold fY;rw[<-d]
  by_cases h:b<=m<;>simp[AF,h]
def Xu:wj [.dat (bY a b),.dat (.int m)]=.rt (.dat (.int (cW a b m))) []:=by let⟨y,h⟩:=Ko (m:=m) (z:=!.dat (bY a b)) (ss:=b) (a:=a) (x:=none);simp[av,wj,HV]at h ⊢;rw[h];simp[av,cW]
def Bo{l:ag}(h:l.length=2):∃u v,l=[u,v]:=by let⟨u,l,rfl⟩:=q1v h;let⟨v,rfl⟩:=q1w.mp (q1W h);exact#[u,v,rfl]
def Bp{l:ag}(h:l.length=3):∃u v w,l=[u,v,w]:=by let⟨u,l,rfl⟩:=q1v h;let⟨v,w,rfl⟩:=Bo (q1W h);exact#[u,v,w,rfl]
theorem xc{P:ag->Prop}:∀{its ys U},P U->(∀d∈its,∀U,P U->∃a b,g d U=!a/\e a=.ok (f d) b/\P b)->ys.length+its.length<=sizeLine->cE g dL e its ys U=some (ys++its.map f)
 |[],ys,U,_,_,_=>by simp[cE]
 |d::r,ys,U,c,h,i=>by let⟨a,b,j,k,l⟩:=h d q0g U c;simp only[q0t]at i;unfold cE;rw[j];simp only[dL,k];rw[if_pos 'a',xc l (λd hd=>h d (bK _ hd)) (by simp;lia)];simp
theorem tL{P:ag->Prop}:∀{its ys U},P U->(∀d∈its,∀U,P U->∃b a c,g d U=!b/\t b=.ok (p d) a/\P a/\(p d=true->e a=.ok (f d) c/\P c))->ys.length+its.length<=sizeLine->cE g t e its ys U=some (ys++(its.filter p).map f)
 |[],ys,U,_,_,_=>by simp[cE]
 |d::r,ys,U,j,h,k=>by
  let⟨b,a,c,l,m,n,o⟩:=h d q0g U j;simp only[q0t]at k;unfold cE;rw[l];simp only[m];cases i:p d with
  |true=>let⟨q,s⟩:=o i;simp only[q];rw[if_pos 'a',tL s (λd hd=>h d (bK _ hd)) (by simp;lia)];simp[i]
  |false=>simp only;rw[tL n (λd hd=>h d (bK _ hd)) 'a'];simp[i]
@[simp]def u9:(1:Nat)<=sizeLine:=by decide
noncomputable def eI:Option Int->PyData
 |none=>.none
 |some e=>.int e
def gZ(p:Int×Option Int×Int):PyData:=.tuple [.int p.1,eI p.2.1,.int p.2.2]
theorem Kq:∀d  s a,rD (.int s::d.map λp=>.int p.1) ((d.map λp=>PyData.int p.1)++[.none]) (.int a::d.map λp=>.int p.2)=(bA s a d).map gZ
 |[],s,a=>rfl
 |(b,c)::r,s,a=>by simp only[q0h,bA];rw[<-(Kq r b c)];rfl
noncomputable def Bq(d:PyData):PyData:=match d with
 |.tuple (x::_)=>x
 |_=>.none
noncomputable def qC(d:PyData):PyData:=match d with
 |.tuple (_::c::_)=>c
 |_=>.none
def Kr(l:b.length<=6):sJ [.dat (bY a b)]=.rt (.dat (.list ((bA 0 a b).map gZ))) []:=by
 have sz:1000<sizeLine:=by decide
 have c:=xc (e:=AG) (g:=aw 0) (f:=Bq) (P:=λU=>U.length=1) (its:=b.map dE) (ys:=[]) (U:=[none]) rfl (λd hd U h=>by
  let⟨p,_,rfl⟩:=q0Q.mp hd;let⟨y,rfl⟩:=q1w.mp h;exact#[_,_,rfl,by simp[av,AG,show Bq (dE p)=PyData.int p.1 from rfl];rfl,rfl]) (by simp;lia)
 have i:=xc (e:=AH) (g:=aw 0) (f:=qC) (P:=λU=>U.length=1) (its:=b.map dE) (ys:=[]) (U:=[none]) rfl (λd hd U h=>by
  let⟨p,_,rfl⟩:=q0Q.mp hd;let⟨y,rfl⟩:=q1w.mp h;exact#[_,_,rfl,by simp[av,AH,show qC (dE p)=PyData.int p.2 from rfl];rfl,rfl]) (by simp;lia)
 simp only[q0r,q0W]at c i;have j:List.map (Bq∘dE) b=b.map λp=>PyData.int p.1:=by apply q1i;intro p _;rfl
 have k:List.map (qC∘dE) b=b.map λp=>PyData.int p.2:=by apply q1i;intro p _;rfl
 rw[j]at c;rw[k]at i;have z:=Kq b 0 a;simp[av,sJ,HW,c,i,show b.length<=sizeLine by lia,show b.length+1<=sizeLine by lia,show 1+b.length<=sizeLine by lia,z]
def xf:sK [.dat (.int m),.dat (eI e)]=.rt (.dat (.bool (ir m e))) []:=by cases e<;>simp[av,sK,HX,eI,ir]
theorem tM:∀d  s a,(bA s a d).length=d.length+1
 |[],s,a=>rfl
 |(b,c)::r,s,a=>by simp[av,bA,tM r b c]
theorem Br:∀d  a,∃q,(a::(d.filter λp=>decide (p.1<=m)).map (·.2))=q++[fY a d m]
 |[],a=>#[[],rfl]
 | (b,c)::r,a=>by
  by_cases h:b<=m
  .let⟨q,e⟩:=Br (m:=m) r c;refine#[a::q,?_];unfold fY;simp_all
  .let⟨q,e⟩:=Br r a;refine#[q,?_];unfold fY;simp[h];simpa using e
noncomputable def Bs(m:Int)(d:PyData):Bool:=match d with
 |.tuple (.int b::_)=>decide (b<=m)
 |_=>false
def xg(h:b.length<=6):sL [.dat (bY a b),.dat (.int m)]=.rt (.dat (.int (cW a b m))) []:=by
 have sz:1000<sizeLine:=by decide
 have c:=tL (t:=AI) (e:=AJ) (g:=dB 2 (bC (aw 0) (bC (aw 1) dJ))) (p:=Bs m) (f:=qC) (P:=λU=>∃x y,U=[x,y,!.dat (.int m)]) (its:=b.map dE) (ys:=[]) (U:=[none,none,!.dat (.int m)]) #[_,_,rfl] (λd hd U i=>by
  let⟨p,_,rfl⟩:=q0Q.mp hd;let⟨x,y,rfl⟩:=i;refine#[[!.dat (.int p.1),!.dat (.int p.2),!.dat (.int m)],[!.dat (.int p.1),!.dat (.int p.2),!.dat (.int m)],[!.dat (.int p.1),!.dat (.int p.2),!.dat (.int m)],by simp,by simp[av,AI,show Bs m (dE p)=decide (p.1<=m) from rfl],#[_,_,rfl],λ_=>#[by simp[av,AJ,show qC (dE p)=PyData.int p.2 from rfl],#[_,_,rfl]]]) (by simp;lia)
 have f1:((b.map dE).filter (Bs m)).map qC=((b.filter λp=>decide (p.1<=m)).map (·.2)).map PyData.int:=by rw[q2I,q0W,q0W];rfl
 let⟨q,e⟩:=Br (m:=m) b a;have f2:(PyData.int a::((b.filter λp=>decide (p.1<=m)).map (·.2)).map PyData.int)=q.map PyData.int++[PyData.int (fY a b m)]:=by have:=congrArg (List.map PyData.int) e;simpa using this
 rw[f1]at c;simp only[q0r]at c;generalize j:((b.filter λp=>decide (p.1<=m)).map (·.2)).map PyData.int=w at *;have lw:w.length<=6:=by rw[<-j,q0d];exact (by rw[q0d];exact q0C (q1q _ _) h)
 simp[av,sL,HY,c,show w.length<=sizeLine by lia,show 1+w.length<=sizeLine by lia,show w.length+1<=sizeLine by lia,f2,cW]
def Xv(c:a.length<=63)(d:0<=k):∃v,qo [.scr a,.dat (.int k)]=.rt (.dat (.int v)) []:=by
 by_cases h:k<a.length
 .have:∃v,bT a k=!v:=by unfold bT dR;rw[if_pos d,if_pos h];exact#[a[k.toNat]''a',by simp]
  let⟨v,hv⟩:=this;exact#[v,by simp[av,qo,wm,c,h,hv]]
 .by_cases b:a=[]
  .subst b;exact⟨0,by simp[av,qo,wm]at h ⊢;simp[av,show ¬ k<0 by lia]⟩
  .have e:0<(a.length:Int):=by have:=q0X.mpr b;lia
   have:∃v,bT a (k % a.length)=!v:=by have f:=Int.emod_nonneg k (show(a.length:Int)≠0 by lia);have g:=Int.emod_lt_of_pos k e;unfold bT dR;rw[if_pos f,if_pos g];exact#[a[(k % a.length).toNat]''a',by simp]
   let⟨v,hv⟩:=this;exact#[v * 31+k,by simp[av,qo,wm,c,h,b,hv,pS,mL,q0X.mpr b]]
def Xw(c:b.length<=63)(d:0<=k)(a:0<many):∃v,0<=v/\v<many/\wu [.scr b,.dat (.int k),.dat (.int many)]=.rt (.dat (.int v)) []:=by
 let⟨v,hv⟩:=Xv c d;generalize hd:(v+7919 * k+1) * 48271 % 2147483647=dr;refine#[(dr * dr+7 * dr+k) % 2147483629 % many,Int.emod_nonneg _ 'a',Int.emod_lt_of_pos _ a,?_];simp[wu,Io,hv,mL,pS,hd,a,show -18446744073709551616<dr by lia,show dr<18446744073709551616 by lia]
def fE(b:ns.length<=63)(f:t.length<1000000)(c:0<many):∃v,0<=v/\v<many/\cX [.scr ns,.own true (.l t),.dat (.int many)]=.rt (.dat (.int v)) [.l (t++[.int 0])]:=by
 have sz:1000000<sizeLine:=by decide
 let⟨v,d,e,a⟩:=Xw (k:=((t++[PyData.int 0]).length:Int)) b 'a' c;refine#[v,d,e,?_];simp at a;simp[av,cX,Ix,show t.length<sizeLine by lia,a]
def nC(a:ns.length<=63)(f:t.length<1000000)(hd:ds≠[])(g:ds.length<=1000):∃d∈ds,jF [.scr ns,.own true (.l t),.dat (.list ds)]=.rt (.dat d) [.l (t++[.int 0])]:=by
 have h:=q0X.mpr hd;let⟨v,b,c,e⟩:=fE (many:=ds.length) a f 'a';have:bT ds v=!ds[v.toNat]''a':=by unfold bT dR;rw[if_pos b,if_pos c];simp
 refine#[ds[v.toNat]''a',q0G _,?_];simp[av,jF,IA,e,this]
def Ks(i):SeqAt.shaped (.int i)=true:=by rfl
def Xx{ss:Sh}(a:ns.length<=63)(s:t.length<900)(u:ss.length<=100):∃d c,0<=d/\d<200/\-12<=c/\c<=14/\
  wM [!.scr ns,!.own true (.l t),!.own false (.l (ss.map dE)),!.dat (.int m),k]=.nx [!.scr ns,!.own true (.l (t++[.int 0]++[.int 0]++[.int 0])),!.own false (.l ((ss++[(m+1+d,c)]).map dE)),!.dat (.int (m+1+d)),k]:=by
 have sz:1000<sizeLine:=by decide
 let⟨w,b,f⟩:=nC (ns:=ns) (t:=t) (ds:=[.int 4,.int 40,.int 200]) a 'a' 'd' 'd';have:∃i:Int,w=.int i/\0<i/\i<=200:=by
  simp at b;rcases b with rfl |rfl |rfl
  .exact⟨4,rfl,by lia,by lia⟩
  .exact⟨40,rfl,by lia,by lia⟩
  .exact⟨200,rfl,by lia,by lia⟩
 let⟨i,rfl,j,o⟩:=this;let⟨d,n,p,g⟩:=fE (ns:=ns) (t:=t++[.int 0]) (many:=i) a (by simp;lia) j;let⟨e,q,r,h⟩:=fE (ns:=ns) (t:=t++[.int 0]++[.int 0]) (many:=27) a (by simp;lia) 'a';refine#[d,e - 12,n,by lia,by lia,by lia,?_];simp only[q0m,q0U,q0r]at f g h;simp[av,wM,f,g,h,show ss.length<sizeLine by lia]
theorem Kt(g:ns.length<=63):∀{its t ss m k},t.length+3 * its.length<900->ss.length+its.length<=100->∃new t' b f,cz (aw 4) wM its [!.scr ns,!.own true (.l t),!.own false (.l (ss.map dE)),!.dat (.int m),k]=.nx [!.scr ns,!.own true (.l t'),!.own false (.l ((ss++new).map dE)),!.dat (.int b),f]/\
  gr m new/\(∀p∈new,p.1<=m+200 * its.length/\-12<=p.2/\p.2<=14)/\new.length=its.length/\t'.length=t.length+3 * its.length
 |[],t,ss,m,k,_,_=>#[[],t,m,k,by simp[av,cz],trivial,λp a=>(by cases a),rfl,rfl]
 |x::r,t,ss,m,k,h,i=>by
  simp only[q0t]at h i;let⟨d,c,s,u,j,n,e⟩:=Xx (ns:=ns) (t:=t) (ss:=ss) (m:=m) (k:=!.dat x) g 'a' 'a';let⟨new,t',b,f,g1,g2,g3,o,q⟩:=Kt g (its:=r) (t:=t++[.int 0]++[.int 0]++[.int 0]) (ss:=ss++[(m+1+d,c)]) (m:=m+1+d) (k:=!.dat x) (by simp;lia) (by simp;lia);refine#[(m+1+d,c)::new,t',b,f,?_,#[by lia,g2],λp a=>?_,by simp[av,o],by rw[q];simp;lia]
  .rw[cz];simp only[aw,q09,q0N,e];rw[g1];simp
  .simp only[q0t];rcases q0c.mp a with rfl |a
   .exact#[by simp;lia,j,n]
   .have:=g3 p a;exact#[by lia,this.2]
noncomputable def kY:Nat->Sh->Sh
 |_,[]=>[]
 |i,(b,_)::r=>(b,1+(i:Int) % 2)::kY (i+1) r
theorem Ku:∀{a i lo},gr lo a->gr lo (kY i a)
 |[],_,_,_=>trivial
 |(b,c)::r,i,lo,⟨d,e⟩=>#[d,Ku e]
theorem Bt:∀{d i T},(∀p∈d,p.1<=T)->∀p∈kY i d,p.1<=T/\-12<=p.2/\p.2<=14
 |[],_,_,_,p,a=>by cases a
 | (b,c)::r,i,T,h,p,a=>by
  rcases q0c.mp a with rfl |a
  .exact#[h (b,c) q0g,by simp;lia,by simp;lia]
  .exact Bt (λq e=>h q (bK _ e)) p a
theorem Bu:∀a  i,(kY i a).length=a.length
 |[],_=>rfl
 |(b,c)::r,i=>by simp[av,kY,Bu r (i+1)]
noncomputable def xh(d:PyData):PyData:=match d with
 |.tuple [.int i,.tuple [b,_]]=>.tuple [b,.int (1+i % 2)]
 |_=>.none
def Kv:xh (.tuple [.int i,.tuple [b,c]])=.tuple [b,.int (1+i % 2)]:=rfl
theorem Kw:∀a  k,((a.map dE).mapIdx λi d=>xh (.tuple [.int ((i+k:Nat):Int),d]))=(kY k a).map dE
 |[],k=>rfl
 | (b,c)::r,k=>by
  rw[q0h,List.mapIdx_cons];have e:=Kw r (k+1);simp only[kY,q0h];rw[<-e]
  congr 1
  .simp[av,Kv,dE]
  .congr 1
   funext i d;rw[show i+1+k=i+(k+1) by lia]
def Xy(j:ns.length<=63)(Q:t.length<=100):∃a h t',sY [.scr ns,.own true (.l t)]=.rt (.dat (bY a h)) [.l t']/\h.length<=6/\gr 0 h/\wc a h/\(∀p∈h,p.1<=1200)/\t'.length<=t.length+30:=by
 have sz:1000<sizeLine:=by decide
 let⟨n,n1,H,r⟩:=fE (ns:=ns) (t:=t) (many:=7) j 'a' 'a';let⟨new,o,I,J,g1,g2,g3,C,A⟩:=Kt (ns:=ns) j (its:=intsFrom 0 n.toNat) (t:=t++[.int 0]) (ss:=[]) (m:=0) (k:=none) (by simp[av,uT];lia) (by simp[av,uT];lia);rw[uT]at g3 C A;simp only[q0I,q0t,q0T]at A;let⟨x,L,M,s⟩:=fE (ns:=ns) (t:=o) (many:=2) j 'a' 'a';let⟨y,N,O,z⟩:=fE (ns:=ns) (t:=o++[.int 0]) (many:=27) j (by simp;lia) 'a';simp only[q07,q0r,q0m,q0U]at g1 z;have nl:new.length<=6:=by lia
 have top:∀p∈new,p.1<=1200:=λp b=>by have:=(g3 p b).1;lia
 by_cases hx:x=0
 .refine#[y - 12,kY 0 new,o++[.int 0,.int 0],?_,by rw[Bu];exact nl,Ku g2,#[#[by lia,by lia],λp b=>(Bt top p b).2],λp b=>(Bt top p b).1,by simp;lia];have c:=xc (e:=Ba) (g:=dB 2 (bC (aw 0) (bC (dB 2 (bC (aw 1) (bC (aw 2) dJ))) dJ))) (f:=xh) (P:=λU=>U.length=3) (its:=L3.numbered (new.map dE)) (ys:=[]) (U:=[none,none,none]) rfl (λd hd U D=>by
   unfold L3.numbered at hd;let⟨i,B,rfl⟩:=List.mem_mapIdx.mp hd;let⟨u,v,w,rfl⟩:=Bp D
   .
    have E:(new.map dE)[i]=dE (new[i]'(by simpa using B)):=by simp
    rw[E];generalize new[i]'(by simpa using B)=q;refine#[[!.dat (.int i),!.dat (.int q.1),!.dat (.int q.2)],[!.dat (.int i),!.dat (.int q.1),!.dat (.int q.2)],by simp,?_,rfl];simp[av,Ba,Kv,dE,pS]) (by unfold L3.numbered;simp;lia)
  have rd:(L3.numbered (new.map dE)).map xh=(kY 0 new).map dE:=by
   unfold L3.numbered;rw[<-Kw new 0];apply List.ext_getElem
   .simp
   .intro i r s;simp
  rw[rd]at c;simp only[q0r]at c;have G:(kY 0 new).length<=sizeLine:=by rw[Bu];lia
  subst hx;simp[av,sY,Bb,r,n1,show n<4611686018427387904 by lia,show -4611686018427387904<=n by lia,g1,s,z,Ks,tH,c,G]
 .refine#[y - 12,new,o++[.int 0,.int 0],?_,nl,g2,#[#[by lia,by lia],λp b=>(g3 p b).2],top,by simp;lia];simp[av,sY,Bb,r,n1,show n<4611686018427387904 by lia,show -4611686018427387904<=n by lia,g1,s,z,Ks,tH,hx]
@[simp]def xi:("NoMoment":Str)∈fi:=by decide +kernel
@[simp]def Bv:("NotHolder":Str)∈fi:=by decide +kernel
@[simp]def Xz:("Nothing":Str)∈fi:=by decide +kernel
def Kx(h:SeqAt.shaped d=true):av false d d=!.bool true:=by simp[av,h,Fw h]
def tN(h:SeqAt.shaped d=true):av true d d=!.bool false:=by simp[av,h,Fw h]
def Bw(i j):av true (.int i) (.int j)=!.bool (not (decide (i=j))):=by
 by_cases h:i=j
 .subst h;simp[tN (qA i)]
 .simp[av,qA,tH,h]
def kq(i j):av false (.int i) (.int j)=!.bool (decide (i=j)):=by
 by_cases h:i=j
 .subst h;simp[Kx (qA i)]
 .simp[av,qA,tH,h]
def xj:lV [.exc "NoMoment"]=.rt (.dat (.tuple [.str "refused",.int 2])) []:=by kernel_rfl
def bp(h:m U=.nx U'):ak m k U=k U':=by simp[h]
def Ky(i j):PyData.eqv (.str i) (.str j)=(i==j):=by rw[PyData.eqv]
def qD(h:PyData.strOk x=true):SeqAt.shaped (.str x)=true:=by unfold SeqAt.shaped;simp[PyData.canLay0,PyData.depth,h]
def cf(b:PyData.strOk x=true)(a:PyData.strOk y=true):av false (.str x) (.str y)=!.bool (x==y):=by simp[av,qD b,qD a,Ky]
def fk:PyData.strOk "once" = true:=by decide +kernel
def hD:PyData.strOk "every" = true:=by decide +kernel
def kZ:PyData.strOk "daily" = true:=by decide +kernel
@[simp]def v3:(("every":Str)==("once":Str))=false:=by decide +kernel
@[simp]def v5:(("daily":Str)==("once":Str))=false:=by decide +kernel
@[simp]def v7:(("daily":Str)==("every":Str))=false:=by decide +kernel
@[simp]def v8:fV "str" "str" = !true:=rfl
noncomputable abbrev gv:aU->PyData
 |.once m=>.tuple [.str "once",.int m]
 |.every f s=>.tuple [.str "every",.int f,.int s]
 |.daily h=>.tuple [.str "daily",.int h]
@[simp]def Kz{w:PyData}:bT (x::y::w::l) 2=!w:=by unfold bT dR;rw[if_pos 'a',if_pos (by simp<;>lia)];rfl
def pc(b:PyData.strOk x=true)(a:PyData.strOk w=true):nr [.dat (.tuple (.str x::rest)),.dat (.str w),.dat (.int n)]=.rt (.dat (.bool (decide (((rest.length+1:Nat):Int)=n)&&(x==w)))) []:=by
 by_cases h:(((rest.length+1):Int)=n)
 .simp[nr,AN,tI (d:=.tuple (.str x::rest)) rfl,iF,cf b a];simp_all
 .simp[nr,AN,tI (d:=.tuple (.str x::rest)) rfl,iF,cf b a];simp_all
def XA(ok:dN p):qt [.dat (gv p)]=.rt (.dat (.bool true)) []:=by
 cases p with
 |once m=>simp[qt,wA,pc fk fk,Bm (d:=.int m) rfl,cT,ok.1,ok.2]
 |every f s=>simp[qt,wA,pc hD fk,pc hD hD,Bm (d:=.int f) rfl,kX (d:=.int s) rfl,cT,ok.1.1,ok.1.2,ok.2.1,ok.2.2]
 |daily h=>simp[qt,wA,pc kZ fk,pc kZ hD,pc kZ kZ,kX (d:=.int h) rfl,cT,ok.1,ok.2]
def xk(g:Int)(d:PyData):Bool:=match d with
 |.tuple [.int s,.none,.int a]=>ir (max s (g - a)) none
 |.tuple [.int s,.int e,.int a]=>ir (max s (g - a)) (!e)
 |_=>false
noncomputable def xl(g:Int)(d:PyData):PyData:=match d with
 |.tuple [.int s,_,.int a]=>.int (max s (g - a))
 |_=>.none
def KA(g p):xk g (gZ p)=ir (max p.1 (g - p.2.2)) p.2.1:=by let⟨s,e,a⟩:=p;cases e<;>rfl
def KB(g p):xl g (gZ p)=.int (max p.1 (g - p.2.2)):=by let⟨s,e,a⟩:=p;cases e<;>rfl
def XB(h:b.length<=6):wr [.dat (bY a b),.dat (.int g)]=.rt (.dat (.int (gu g 0 a b))) []:=by
 have sz:1000<sizeLine:=by decide
 have c:=tL (t:=AO) (e:=AQ) (g:=dB 3 (bC (aw 0) (bC (aw 1) (bC (aw 2) dJ)))) (p:=xk g) (f:=xl g) (P:=λU=>∃x y z,U=[x,y,z,!.dat (.int g)]) (its:=(bA 0 a b).map gZ) (ys:=[]) (U:=[none,none,none,!.dat (.int g)]) #[_,_,_,rfl] (λd hd U i=>by
  let⟨p,_,rfl⟩:=q0Q.mp hd;let⟨x,y,z,rfl⟩:=i;refine#[[!.dat (.int p.1),!.dat (eI p.2.1),!.dat (.int p.2.2),!.dat (.int g)],[!.dat (.int p.1),!.dat (eI p.2.1),!.dat (.int p.2.2),!.dat (.int g)],[!.dat (.int p.1),!.dat (eI p.2.1),!.dat (.int p.2.2),!.dat (.int g)],by simp[gZ],by simp[AO,xf,KA],#[_,_,_,rfl],λ_=>#[by simp[AQ,KB],#[_,_,_,rfl]]]) (by simp[tM];lia)
 have f1:(((bA 0 a b).map gZ).filter (xk g)).map (xl g)=(qm g (bA 0 a b)).map PyData.int:=by unfold qm;have j:xl g∘gZ=λp=>.int (max p.1 (g - p.2.2)):=funext (KB g);have k:xk g∘gZ=λp=>ir (max p.1 (g - p.2.2)) p.2.1:=funext (KA g);rw[q2I,q0W,q0W,j,k];rfl
 have l:(qm g (bA 0 a b)).length<=7:=by unfold qm;rw[q0d];exact q0C (q1q _ _) (by rw[tM];lia)
 let⟨t,e⟩:=HN g b 0 a;rw[f1,e]at c;rw[e,q0t]at l;simp only[q0r,q0h]at c;simp[wr,Ik,Kr h,c,show t.length+1<=sizeLine by lia]
def KC:sP [.dat (bY a b),.dat (.int h)]=.rt (.dat (.int (fK a b h))) []:=by simp[sP,Im,Xu,fK,pR]
def XC{c:Nat}(d:b.length<=6):wF [.dat (bY a b),.dat (.int h),.dat (.int c)]=.rt (.dat (.int (ei a b h c))) []:=by simp[wF,Iw,KC,XB d,ei,mL]
def XD(a:-1000000<=j)(b:j<=1000000):mL i j=true:=by unfold mL;rw[decide_eq_true (show -(2 ^ 64)<j by lia),decide_eq_true (show j<2 ^ 64 by lia)];simp
def XE(a:1<=s)(b:s<=999):jE [.dat z,.dat (gv (.every f s)),.dat (.int c)]=.rt (.dat (.int (f+c * s))) []:=by simp[jE,sV,cf hD fk,cf hD hD,XD (i:=c) (show -1000000<=s by lia) (show s<=1000000 by lia)]
def KD{c:Nat}(b:ss.length<=6)(ok:dN p):jE [.dat (bY a ss),.dat (gv p),.dat (.int c)]=.rt (.dat (eI (bE a ss p c))) []:=by
 cases p with
 |once m=>
  by_cases e:c=0
  .subst e;simp[jE,sV,cf fk fk,kq,bE,eI]
  .simp[jE,sV,cf fk fk,kq,bE,eI,e]
 |every f s=>exact XE ok.2.1 ok.2.2
 |daily h=>simp[jE,sV,cf kZ fk,cf kZ hD,bE,eI,XC b]
def XF(h:l≠[]):∃M,M∈l/\(∀x∈l,x<=M)/\pV [.list (l.map PyData.int)]=!.int M:=by
 have key:∀(r:List Int) (i:Int),(∀x∈i::r,x<=r.foldl max i)/\r.foldl max i∈i::r:=λr=>by
  induction r with
  |nil=>intro i;simp
  |cons j r d=>
   intro i;let⟨b,c⟩:=d (max i j);have f:=b (max i j) q0g;refine#[λx a=>?_,?_]
   .simp only[q1G];rcases q0c.mp a with rfl |a
    .omega
    .rcases q0c.mp a with rfl |a
     .omega
     .exact b x (bK _ a)
   .simp only[q1G];rcases q0c.mp c with e |e
    .rw[e];rcases Int.le_total i j with q |q
     .rw[Int.max_eq_right q];simp
     .rw[Int.max_eq_left q];simp
    .exact bK _ (bK _ e)
 cases l with
 |nil=>exact absurd rfl h
 |cons i r=>let⟨b,c⟩:=key r i;exact#[_,c,b,by unfold pV;simp only[Tt];rfl]
noncomputable def xm(m:Int)(d:PyData):Bool:=match d with
 |.tuple (.int s::_)=>decide (s<=m)
 |_=>false
noncomputable def xn(m:Int)(d:PyData):PyData:=match d with
 |.tuple [.int _,.none,.int a]=>.int (m+a)
 |.tuple [.int _,.int e,.int a]=>.int ((if decide (m<e)=true then m else e - 1)+a)
 |_=>.none
def KE(m p):xm m (gZ p)=decide (p.1<=m):=rfl
def KG(m p):xn m (gZ p)=.int ((if ir m p.2.1=true then m else p.2.1.getD 0 - 1)+p.2.2):=by let⟨s,e,a⟩:=p;cases e<;>rfl
def XG(k:i.length<=6)(l:gr 0 i)(n:0<=m):∃f,wt [.dat (bY a i),.dat (.int m)]=.rt (.dat (.int f)) []/\(∃t,0<=t/\t<=m/\cW a i t=f)/\∀t,0<=t->t<=m->cW a i t<=f:=by
 have sz:1000<sizeLine:=by decide
 have c:=tL (t:=AR) (e:=sO) (g:=dB 3 (bC (aw 0) (bC (aw 1) (bC (aw 2) dJ)))) (p:=xm m) (f:=xn m) (P:=λU=>∃x y z,U=[x,y,z,!.dat (.int m)]) (its:=(bA 0 a i).map gZ) (ys:=[]) (U:=[none,none,none,!.dat (.int m)]) #[_,_,_,rfl] (λd hd U o=>by
  let⟨p,_,rfl⟩:=q0Q.mp hd;let⟨x,y,z,rfl⟩:=o;refine#[[!.dat (.int p.1),!.dat (eI p.2.1),!.dat (.int p.2.2),!.dat (.int m)],[!.dat (.int p.1),!.dat (eI p.2.1),!.dat (.int p.2.2),!.dat (.int m)],[!.dat (.int p.1),!.dat (eI p.2.1),!.dat (.int p.2.2),!.dat (.int m)],by simp[gZ],by simp[AR,KE],#[_,_,_,rfl],λ_=>#[?_,#[_,_,_,rfl]]];rw[KG];let⟨s,e,b⟩:=p;cases e with
  |none=>simp[sO,xf,ir]
  |some e=>
   by_cases h:m<e
   .simp[sO,xf,ir,h]
   .have j:=xf (m:=m) (e:=!e);simp only[eI,ir]at j;simp[sO,j,ir,h,eI]) (by simp[tM];lia)
 have f1:(((bA 0 a i).map gZ).filter (xm m)).map (xn m)=(km m (bA 0 a i)).map PyData.int:=by unfold km;have q:xn m∘gZ=λp=>.int ((if ir m p.2.1=true then m else p.2.1.getD 0 - 1)+p.2.2):=funext (KG m);have r:xm m∘gZ=λp=>decide (p.1<=m):=funext (KE m);rw[q2I,q0W,q0W,q,r];rfl
 let⟨g1,g2⟩:=HS (m:=m) i 0 a l;let⟨E,u,_⟩:=g2 0 (q0M _) n;let⟨M,j,v,w⟩:=XF (List.ne_nil_of_mem u);rw[f1]at c;simp only[q0r]at c;have G:(km m (bA 0 a i)).length<=7:=by unfold km;rw[q0d];exact q0C (q1q _ _) (by rw[tM];lia)
 refine#[M,by simp[wt,Il,Kr k,c,w,show(km m (bA 0 a i)).length<=sizeLine by lia],g1 M j,λt A B=>?_];let⟨x,C,D⟩:=g2 t A B;exact q1Y D (v x C)
def XH(z:eG a d)(ok:dN p)(u:bV a d p m n):nu [.dat (bY a d),.dat (gv p),.dat (.int m)]=.rt (.dat (.int n)) []:=by
 by_cases j:m<0
 .have i:n=0:=by refine q1m λh=>?_;let⟨v,hv,o⟩:=u.in_ 0 h;have:=HQ z ok hv;lia
  subst i;simp[nu,qv,j]
 cases p with
 |once x=>
  by_cases e:x<=m
  .have i:n=1:=by
    rcases q2m n 1 with h |h |h
    .have q:n=0:=by lia
     subst q;rcases u.out with h |⟨v,h,hv⟩
     .rw[bE,if_pos rfl]at h;cases h
     .rw[bE,if_pos rfl]at h;cases h;lia
    .exact h
    .let⟨v,hv,_⟩:=u.in_ 1 h;rw[bE,if_neg 'f']at hv;cases hv
   subst i;simp[nu,qv,j,cf fk fk,e]
  .have i:n=0:=by refine q1m λh=>?_;let⟨v,hv,o⟩:=u.in_ 0 h;rw[bE,if_pos rfl]at hv;cases hv;lia
   subst i;simp[nu,qv,j,cf fk fk,e]
 |every f s=>
  let⟨C,D,E⟩:=id ok;have r:=HR 'a' u;have w:max 0 ((m - f) / s+1)=(n:Int):=by
   rw[r];unfold AC;rw[show m+1 - f - 1=m - f by lia]
   by_cases h:f<m+1
   .rw[if_pos h];have:=Int.ediv_nonneg (show 0<=m - f by lia) (show 0<=s by lia);lia
   .rw[if_neg h];have:(m - f) / s<0:=Int.ediv_neg_of_neg_of_pos 'a' 'a';lia
  simp[nu,qv,j,cf hD fk,cf hD hD,pR,show 0<s by lia,show s<1073741824 by lia,w]
 |daily b=>
  obtain⟨f,y,⟨t,A,B,G⟩,f2⟩:=XG (a:=a) z.len z.rise (show 0<=m by lia);have key:∀c:Nat,ei a d b c<=m↔(fK a d b+c) * 24+b<=f:=λc=>by
   let⟨g1,g2,g3⟩:=kQ (g:=(fK a d b+c) * 24+b) (a:=a) z.rise;have e:ei a d b c=gu ((fK a d b+c) * 24+b) 0 a d:=rfl;rw[e];constructor
   .intro h;exact q1Y g2 (f2 _ g1 h)
   .intro h;refine q1Y (q2q.mp λk=>?_) B;have:=g3 t A k;lia
  have fd:=we (a:=a) (h:=b) (ss:=d);have H:=f2 0 (q0M _) 'a';have i:(f - b) / 24 - fK a d b+1=((n:Nat):Int):=by
   have I:¬ (fK a d b+n) * 24+b<=f:=λh=>by have o:=(key n).mpr h;have:=lU (p:=.daily b) (v:=ei a d b n) z ok u (bu _) rfl;lia
   by_cases J:0<n
   .let⟨v,hv,l⟩:=u.in_ (n - 1) 'a';cases hv;have L:=(key (n - 1)).mp l;lia
   .omega
  simp[nu,qv,j,cf kZ fk,cf kZ hD,y,pR,KC,i]
def IsT(o:eF):Prop:=∃x r,o=.rt (.dat (.bool true)) (x::r)
def qE(h:m U=.nx U')(q:IsT (k U')):IsT (ak m k U):=by rw[bp h];exact q
def XI(h:IsT (m (some (.scr a)::List.replicate n none))):bf 1 (n+1) m [.scr a]=.rt (.dat (.bool true)) []:=by let⟨x,r,e⟩:=h;simp[e]
def qF(i r):L3.intsFrom i (r+1)=.int i::L3.intsFrom (i+1) r:=by
 unfold L3.intsFrom;rw[q2z,q0h,q0W]
 congr 1
 .simp
 .apply q1i;intro k _;simp;lia
def KH(d:t U=.ok true a)(e:b a=.nx c):gS t b (fuel+1) U=gS t b fuel c:=by rw[gS,d];simp only[ef,if_true,e]
def KJ(c:t U=.ok false a):gS t b (fuel+1) U=.nx a:=by rw[gS,c];simp[ef]
def qG:aU->Prop
 |.once m=>m<=2500
 |.every f _=>f<=50
 |.daily _=>True
def XJ(c:ns.length<=63)(z:t.length<=900):∃p t',(dN p/\qG p)/\t'.length<=t.length+4/\qw [.scr ns,.own true (.l t)]=.rt (.dat (gv p)) [.l t']:=by
 let⟨k,u,v,d⟩:=fE (ns:=ns) (t:=t) (many:=5) c 'a' 'a'
 by_cases e:k=0
 .let⟨w,a,b⟩:=nC (ns:=ns) (t:=t++[.int 0]) (ds:=[.int 100,.int 100,.int 2500]) c (by simp;lia) 'd' 'd';have:∃i:Int,w=.int i/\0<i/\i<=2500:=by simp only[q0c,q0z,or_false]at a;rcases a with rfl |rfl |rfl<;>exact#[_,rfl,by lia,by lia]
  let⟨i,rfl,h,q⟩:=this;let⟨m,j,r,g⟩:=fE (ns:=ns) (t:=t++[.int 0]++[.int 0]) (many:=i) c (by simp;lia) h;refine#[.once m,t++[.int 0]++[.int 0]++[.int 0],#[#[j,by lia],show m<=2500 by lia],by simp,?_];simp only[q0m,q0U,q0r]at d b g;simp[qw,wN,d,b,g,kq,e]
 .by_cases n:k<3
  .let⟨w,a,b⟩:=nC (ns:=ns) (t:=t++[.int 0]) (ds:=[.int 30,.int 30,.int 999]) c (by simp;lia) 'd' 'd';have:∃i:Int,w=.int i/\0<i/\i<=999:=by simp only[q0c,q0z,or_false]at a;rcases a with rfl |rfl |rfl<;>exact#[_,rfl,by lia,by lia]
   let⟨i,rfl,h,q⟩:=this;let⟨s,x,y,g⟩:=fE (ns:=ns) (t:=t++[.int 0]++[.int 0]) (many:=i) c (by simp;lia) h;let⟨f,f1,f2,o⟩:=fE (ns:=ns) (t:=t++[.int 0]++[.int 0]++[.int 0]) (many:=50) c (by simp;lia) 'a';refine#[.every f (1+s),t++[.int 0]++[.int 0]++[.int 0]++[.int 0],#[#[#[f1,by lia],by lia,by lia],show f<=50 by lia],by simp,?_];simp only[q0m,q0U,q0r]at d b g o;simp[qw,wN,d,b,g,o,kq,e,n]
  .let⟨m,j,r,b⟩:=fE (ns:=ns) (t:=t++[.int 0]) (many:=24) c (by simp;lia) 'a';refine#[.daily m,t++[.int 0]++[.int 0],#[#[j,by lia],trivial],by simp,?_];simp only[q0m,q0U,q0r]at d b;simp[qw,wN,d,b,kq,e,n]
theorem KL(b:ss.length<=6):∀(fuel N:Nat)  g,cW a ss 0 - g<=24 * N->N<fuel->∃j,gS wv AS fuel [!.dat (bY a ss),x1,x2,x3,!.dat (.int g),x5]=.nx [!.dat (bY a ss),x1,x2,x3,!.dat (.int (g+24 * j)),x5]/\cW a ss 0<=g+24 * j/\(j=0\/g+24 * j<cW a ss 0+24)
 |fuel+1,N,g,c,d=>by
  by_cases e:g<cW a ss 0
  .let⟨j,q1,q2,q3⟩:=KL b (a:=a) fuel (N - 1) (g+24) 'a' 'a';refine#[j+1,?_,by lia,.inr 'a'];rw[KH (by simp[wv,xg b,e]<;>rfl) (by simp[AS]<;>rfl),q1,show g+24+24 * j=g+24 * (j+1) by lia]
  .refine⟨0,?_,by lia,.inl rfl⟩;rw[KJ (by simp[wv,xg b,e]<;>rfl)];simp
def KM(g:d.length<=6)(i:gr 0 d)(o:0<=m)(u:bV a d (.daily h) m n):∀j k  f  fuel,k+j=n->f.length=k->(∀c,k<=c->c<n->ei a d h c=m)->j<fuel->gS sQ ww fuel [!.dat (bY a d),x1,x2,!.own false (.l f),!.dat (.int (iP a d h k)),!.dat (.int m)]=.nx [!.dat (bY a d),x1,x2,!.own false (.l (f++(List.range' k j).map λc=>.int (ei a d h c))),!.dat (.int (iP a d h n)),!.dat (.int m)]:=λj=>by
 induction j with
 |zero=>
  intro k f fuel r hd p s;obtain _ |fuel:=fuel;cases s
  obtain rfl:k=n:=by lia
  have t:m<ei a d h k:=by
   rcases u.out with e |⟨v,e,hv⟩
   .cases e
   .cases e;exact hv
  have e:¬ iP a d h k<=cW a d m:=λz=>by have:=(HU (k:=k) i o 'a').mp z;lia
  rw[KJ (by simp[sQ,xg g,e]<;>rfl)];simp
 |succ j k1=>
  intro k f fuel r hd p s;obtain _ |fuel:=fuel;cases s
  have sz:1000000<sizeLine:=by decide
  have b:=u.le;have q:=p k 'a' 'a';have e:iP a d h k<=cW a d m:=(HU i o 'a').mpr q;have w:=k1 (k+1) (f++[.int m]) fuel 'a' (by simp;lia) (λc A x=>p c 'a' x) 'a';have y:iP a d h k+24=iP a d h (k+1):=by unfold iP;lia
  rw[KH (by simp[sQ,xg g,e]<;>rfl) (by simp[ww,show f.length<sizeLine by lia]<;>rfl),y,w,List.range'_succ];simp[q]
theorem KN(z:eG a b)(ok:dN (.daily h)):∀(r:Nat) (i:Int)  k n  d  j,0<=i->i+r<=10000->d.length=k->bV a b (.daily h) (i - 1) k->bV a b (.daily h) (i+r - 1) n->∃o,k<=n/\cz (aw 5) wx (L3.intsFrom i r) [!.dat (bY a b),x1,x2,!.own false (.l d),!.dat (.int (iP a b h k)),j]=.nx [!.dat (bY a b),x1,x2,!.own false (.l (d++(List.range' k (n - k)).map λc=>.int (ei a b h c))),!.dat (.int (iP a b h n)),o]
 |0,i,k,n,d,j,x,y,hd,u,p=>by have e:k=n:=Wm u (by rw[show i - 1=i+((0:Nat):Int) - 1 by lia];exact p) λ_ _ _=>Iff.rfl;subst e;exact#[j,bu _,by simp[L3.intsFrom,cz]]
 |r+1,i,k,n,d,j,x,y,hd,u,p=>by
  let⟨m,f⟩:=HP (h:=h) (last:=i) z 'a';have D:k<=m:=q1Z λq=>by let⟨v,hv,t⟩:=u.in_ m q;have:=lU z ok f (bu _) hv;lia
  have A:∀c,k<=c->c<m->ei a b h c=i:=λc B C=>by let⟨v,hv,t⟩:=f.in_ c C;have:=lU z ok u B hv;cases hv;lia
  have E:=f.le;have w:=KM (x1:=x1) (x2:=x2) z.len z.rise x f (m - k) k d 100000 'a' hd A 'a';let⟨o,mn,g⟩:=KN (x1:=x1) (x2:=x2) z ok r (i+1) m n (d++(List.range' k (m - k)).map λc=>.int (ei a b h c)) (!.dat (.int i)) 'a' 'a' (by simp;lia) (by rw[show i+1 - 1=i by lia];exact f) (by rw[show i+1+(r:Int) - 1=i+((r+1:Nat):Int) - 1 by lia];exact p);refine#[o,by lia,?_];rw[qF,cz];simp only[aw,q09,q0N,wx,w];rw[show gS sQ ww 100000=wx from rfl,g];rw[q0m,<-q1o]
  congr 6
  have:List.range' k (m - k)++List.range' m (n - m)=List.range' k (n - k):=by have:=List.range'_append (s:=k) (m:=m - k) (n:=n - m) (step:=1);rw[show k+1 * (m - k)=m by lia,show m - k+(n - m)=n - k by lia]at this;exact this
  rw[this]
def XL(z:eG a b)(ok:dN p)(w:0<=last/\last<=9999)(u:bV a b p last n):∃c,frz c=!.list ((bX a b p n).map PyData.int)/\oP [.dat (bY a b),.dat (gv p),.dat (.int last)]=.rt c []:=by
 cases p with
 |once m=>
  by_cases e:m<=last
  .have d:n=1:=by
    rcases q2m n 1 with h |h |h
    .have k:n=0:=by lia
     subst k;rcases u.out with h |⟨v,h,hv⟩
     .rw[bE,if_pos rfl]at h;cases h
     .rw[bE,if_pos rfl]at h;cases h;lia
    .exact h
    .let⟨v,hv,_⟩:=u.in_ 1 h;rw[bE,if_neg 'f']at hv;cases hv
   subst d;exact#[.dat (.list [.int m]),by simp[bX,List.range,List.range.loop,nj,bE],by simp[oP,sR,cf fk fk,e,jV,List.replicate]]
  .have d:n=0:=by refine q1m λh=>?_;let⟨v,hv,x⟩:=u.in_ 0 h;rw[bE,if_pos rfl]at hv;cases hv;lia
   subst d;exact#[.dat (.list []),by simp[bX],by simp[oP,sR,cf fk fk,e,jV,List.replicate]]
 |every f s=>
  let⟨y,o,q⟩:=id ok;have r:=HR 'a' u;refine#[.dat (.list ((bX a b (.every f s) n).map PyData.int)),by simp,?_];have i:(List.range (el f (last+1) s)).map (λ(m:Nat)=>PyData.int (f+m * s))=(bX a b (.every f s) n).map PyData.int:=by rw[show el f (last+1) s=n from r.symm];unfold bX;rw[q0W];rfl
  simp[oP,sR,cf hD fk,cf hD hD,vl,i,show 0<=f by lia,show f<=1048576 by lia,show 0<=last+1 by lia,show last+1<=1048576 by lia,show 0<s by lia,show s<=1048576 by lia]
 |daily h=>
  let⟨o,q⟩:=id ok;have s0:=ql (m:=0) z.ah;have A:cW a b 0=0+fY a b 0:=rfl;let⟨j,q1,q2,q3⟩:=KL (a:=a) (ss:=b) z.len (x1:=!.dat (gv (.daily h))) (x2:=!.dat (.int last)) (x3:=!.own false (.l [])) (x5:=none) 100000 3 (h - 24) 'a' 'a';have fd:=we (a:=a) (h:=h) (ss:=b);have t:h - 24+24 * j=iP a b h 0:=by unfold iP;lia
  rw[t]at q1;let⟨B,_,g⟩:=KN (x1:=!.dat (gv (.daily h))) (x2:=!.dat (.int last)) z ok (last+1).toNat 0 0 n [] none 'a' 'a' rfl (AD z ok) (by rw[show(0:Int)+((last+1).toNat:Nat) - 1=last by lia];exact u);rw[q0r,Nat.sub_zero,<-List.range_eq_range']at g;have i:(List.range n).map (λc=>PyData.int (ei a b h c))=(bX a b (.daily h) n).map PyData.int:=by unfold bX;rw[q0W];rfl
  rw[i]at g;refine#[.own false (.l ((bX a b (.daily h) n).map PyData.int)),by simp,?_];simp[oP,sR,cf kZ fk,cf kZ hD,q1,g,show -4611686018427387904<=last+1 by lia,show last+1<4611686018427387904 by lia]
@[simp]def v9:eS .none=true:=by simp only[eS]
@[simp]def w5(i):eS (.int i)=true:=by simp only[eS]
@[simp]def w6(b):eS (.bool b)=true:=by simp only[eS]
@[simp]def w9(x):eS (.str x)=true:=by simp only[eS]
@[simp]def y3(l):eS (.tuple l)=true:=by simp only[eS]
@[simp]def y4(l):eS (.list l)=true:=by simp only[eS]
noncomputable abbrev me(k:Int):PyData:=.tuple [.str "refused",.int k]
inductive gd where
 |all |last |within (n:Int)
structure bP where
 plan:aU
 late:gd
 again:Bool
noncomputable abbrev fm:gd->PyData
 |.all=>.str "all"
 |.last=>.str "last"
 |.within n=>.tuple [.str "within",.int n]
abbrev cg(d:bP):PyData:=.tuple [gv d.plan,fm d.late,.bool d.again]
@[irreducible] def ck(a:List bP):PyData:=.tuple (a.map cg)
noncomputable def cm:Option Int->PyData
 |none=>.none
 |some i=>.int i
noncomputable def kr:Option (Nat×Nat×Int)->PyData
 |none=>.none
 |some (d,c,h)=>.tuple [.int d,.int c,.int h]
inductive Wd where
 |begun |done |left |unsure
deriving DecidableEq
noncomputable abbrev df:Wd->Str
 |.begun=>"begun"
 |.done=>"done"
 |.left=>"left"
 |.unsure=>"unsure"
structure dG where
 mo:Int
 ru:Int
 wd:Wd
 dd:Nat
 ct:Nat
abbrev ej(r:dG):PyData:=.tuple [.int r.mo,.int r.ru,.str (df r.wd),.int r.dd,.int r.ct]
noncomputable abbrev ai(n:Nat):PyData:=.int n
def cx(a:List ((Nat×Nat)×Wd)):List (PyData×PyData):=a.map λp=>(.tuple [ai p.1.1,ai p.1.2],.str (df p.2))
structure Hl where
 a:Int
 ss:Sh
 ds:List bP
 last:Option Int
 holder:Option Int
 til:Int
 holds:Int
 begun:Option (Nat×Nat×Int)
 rows:List dG
 words:List ((Nat×Nat)×Wd)
 settled:List Nat
@[irreducible] def aD(S:Hl):List (Str×Fl):=[("zone",.d (bY S.a S.ss)),("deeds",.d (ck S.ds)),("last",.d (cm S.last)),("holder",.d (cm S.holder)),("until",.d (.int S.til)),("holds",.d (.int S.holds)),("begun",.d (kr S.begun)),("rows",.l (S.rows.map ej)),("words",.m true (cx S.words)),("settled",.l (S.settled.map ai))]
abbrev hB(C:Addr)(S:Hl):Bx:=.o C (aD S)
@[simp]def y6(S):List.lookup ("zone":Str) (aD S)=!.d (bY S.a S.ss):=by with_unfolding_all exact rfl
@[simp]def y7(S):List.lookup ("deeds":Str) (aD S)=!.d (ck S.ds):=by with_unfolding_all exact rfl
@[simp]def y8(S):List.lookup ("last":Str) (aD S)=!.d (cm S.last):=by with_unfolding_all exact rfl
@[simp]def y9(S):List.lookup ("holder":Str) (aD S)=!.d (cm S.holder):=by with_unfolding_all exact rfl
@[simp]def z4(S):List.lookup ("until":Str) (aD S)=!.d (.int S.til):=by with_unfolding_all exact rfl
@[simp]def z5(S):List.lookup ("holds":Str) (aD S)=!.d (.int S.holds):=by with_unfolding_all exact rfl
@[simp]def z6(S):List.lookup ("begun":Str) (aD S)=!.d (kr S.begun):=by with_unfolding_all exact rfl
@[simp]def z7(S):List.lookup ("rows":Str) (aD S)=!.l (S.rows.map ej):=by with_unfolding_all exact rfl
@[simp]def z8(S):List.lookup ("words":Str) (aD S)=!.m true (cx S.words):=by with_unfolding_all exact rfl
@[simp]def z9(S):List.lookup ("settled":Str) (aD S)=!.l (S.settled.map ai):=by with_unfolding_all exact rfl
@[simp]def A0(S):List.lookup ("check_holder":Str) (aD S)=none:=by with_unfolding_all exact rfl
@[simp]def A1(S):List.lookup ("add_row":Str) (aD S)=none:=by with_unfolding_all exact rfl
@[simp]def A2(S):List.lookup ("is_busy":Str) (aD S)=none:=by with_unfolding_all exact rfl
@[simp]def A3(S):List.lookup ("first_unsettled":Str) (aD S)=none:=by with_unfolding_all exact rfl
@[simp]def A4(S):List.lookup ("step_behind_a_fall":Str) (aD S)=none:=by with_unfolding_all exact rfl
@[simp]def A5(S):List.lookup ("step_ahead":Str) (aD S)=none:=by with_unfolding_all exact rfl
@[simp]def A6(S):(aD S).length=10:=by unfold aD;kernel_rfl
def XR(S x):bi ("rows":Str) (.l (x.map ej)) (aD S)=aD { S with rows:=x }:=by with_unfolding_all exact rfl
def KQ(S x):bi ("words":Str) (.m true (cx x)) (aD S)=aD { S with words:=x }:=by with_unfolding_all exact rfl
def XS(S x):bi ("settled":Str) (.l (x.map ai)) (aD S)=aD { S with settled:=x }:=by with_unfolding_all exact rfl
@[simp]def A7(S i):bi ("last":Str) (.d (.int i)) (aD S)=aD { S with last:=!i }:=(by with_unfolding_all exact rfl)
@[simp]def A8(S):bi ("holder":Str) (.d .none) (aD S)=aD { S with holder:=none }:=(by with_unfolding_all exact rfl)
@[simp]def A9(S i):bi ("holder":Str) (.d (.int i)) (aD S)=aD { S with holder:=!i }:=(by with_unfolding_all exact rfl)
@[simp]def B0(S i):bi ("until":Str) (.d (.int i)) (aD S)=aD { S with til:=i }:=(by with_unfolding_all exact rfl)
@[simp]def B1(S i):bi ("holds":Str) (.d (.int i)) (aD S)=aD { S with holds:=i }:=(by with_unfolding_all exact rfl)
@[simp]def B2(S):bi ("begun":Str) (.d .none) (aD S)=aD { S with begun:=none }:=(by with_unfolding_all exact rfl)
@[simp]def B3(S)(d c:Nat)(h):bi ("begun":Str) (.d (.tuple [.int d,.int c,.int h])) (aD S)=aD { S with begun:=!(d,c,h) }:=(by with_unfolding_all exact rfl)
section
variable{io:Bool}{S:Hl}{U:ag}
@[simp]def B4:cF C (some (.own io (.o C fs))::U) 0=!(io,fs):=rfl
@[simp]def B5:cG C 0 f (some (.own io (.o C fs))::U)=(match fs.lookup f with |some (.d d)=>.ok d (some (.own io (.o C fs))::U) |_=>.bad):=rfl
@[simp 3000]def B6:kg C 0 "last" d (some (.own io (.o C (aD S)))::U)=.nx (some (.own io (.o C (bi "last" (.d d) (aD S))))::U):=by with_unfolding_all exact rfl
@[simp 3000]def B7:kg C 0 "holder" d (some (.own io (.o C (aD S)))::U)=.nx (some (.own io (.o C (bi "holder" (.d d) (aD S))))::U):=by with_unfolding_all exact rfl
@[simp 3000]def B8:kg C 0 "until" d (some (.own io (.o C (aD S)))::U)=.nx (some (.own io (.o C (bi "until" (.d d) (aD S))))::U):=by with_unfolding_all exact rfl
@[simp 3000]def B9:kg C 0 "begun" d (some (.own io (.o C (aD S)))::U)=.nx (some (.own io (.o C (bi "begun" (.d d) (aD S))))::U):=by with_unfolding_all exact rfl
@[simp 3000]def C0:cO C 0 "add_row" F X (some (.own io (.o C (aD S)))::U)=(X (some (.own io (.o C (aD S)))::U)).bind (cq F 0):=by with_unfolding_all exact rfl
@[simp 3000]def C1:cO C 0 "check_call" F X (some (.own io (.o C (aD S)))::U)=(X (some (.own io (.o C (aD S)))::U)).bind (cq F 0):=by with_unfolding_all exact rfl
@[simp 3000]def C2:cO C 0 "check_holder" F X (some (.own io (.o C (aD S)))::U)=(X (some (.own io (.o C (aD S)))::U)).bind (cq F 0):=by with_unfolding_all exact rfl
@[simp 3000]def C3:cO C 0 "finish" F X (some (.own io (.o C (aD S)))::U)=(X (some (.own io (.o C (aD S)))::U)).bind (cq F 0):=by with_unfolding_all exact rfl
@[simp 3000]def C4:cO C 0 "give" F X (some (.own io (.o C (aD S)))::U)=(X (some (.own io (.o C (aD S)))::U)).bind (cq F 0):=by with_unfolding_all exact rfl
@[simp 3000]def C5:cO C 0 "is_held" F X (some (.own io (.o C (aD S)))::U)=(X (some (.own io (.o C (aD S)))::U)).bind (cq F 0):=by with_unfolding_all exact rfl
@[simp 3000]def C6:cO C 0 "state" F X (some (.own io (.o C (aD S)))::U)=(X (some (.own io (.o C (aD S)))::U)).bind (cq F 0):=by with_unfolding_all exact rfl
@[simp 3000]def C7:cO C 0 "step" F X (some (.own io (.o C (aD S)))::U)=(X (some (.own io (.o C (aD S)))::U)).bind (cq F 0):=by with_unfolding_all exact rfl
@[simp 3000]def C8:cO C 0 "take" F X (some (.own io (.o C (aD S)))::U)=(X (some (.own io (.o C (aD S)))::U)).bind (cq F 0):=by with_unfolding_all exact rfl
@[simp 3000]def C9:dZ C 0 "is_busy" F (some (.own io (.o C (aD S)))::U)=lI F [.s 0] (some (.own io (.o C (aD S)))::U):=by with_unfolding_all exact rfl
end
def XU(h:eS d=true):wn [.dat d]=.rt (.dat (.bool (cT d 0 3))) []:=by simp[av,wn,Ih,kX h]
def XV(h:eS d=true):wo [.dat d]=.rt (.dat (.bool (cT d 1 99))) []:=by simp[av,wo,Ii,kX h]
def Bz(h:eS d=true):wD [.dat d]=if cT d 0 3=true then .rt (.dat .none) []else .ex "NoRunner" []:=by simp only[wD,Ir];cases a:cT d 0 3<;>simp[av,XU h,a]
def BA(h:eS d=true):wE [.dat d]=if cT d 1 99=true then .rt (.dat .none) []else .ex "NoTerm" []:=by simp only[wE,Iu];cases a:cT d 1 99<;>simp[XV h,a]
noncomputable def gf(S:Hl)(m:Int):Bool:=S.holder.isSome&&decide (m<S.til)
noncomputable def pd(S:Hl)(m:Int):Bool:=match S.last with
 |some l=>decide (m<l)
 |none=>false
def qH:sM C [.own true (hB C S),.dat (.int m)]=.rt (.dat (.bool (gf S m))) [hB C S]:=by unfold gf;cases h:S.holder<;>simp[sM,HZ,h,cm]
def XW(b:eS r=true)(c:cT r 0 3=true)(e:cT (.int m) 0 9999=true)(a:pd S m=true):fZ C [.own true (hB C S),.dat r,.dat (.int m)]=.ex "NoMoment" [hB C S]:=by
 unfold pd at a;cases h:S.last with
 |none=>simp_all
 |some l=>rw[h]at a;simp[fZ,wI,Bz b,c,Bn (d:=.int m) rfl,e,h,cm,a]
def XX(b:eS r=true)(c:cT r 0 3=true)(e:cT (.int m) 0 9999=true)(a:pd S m=false):fZ C [.own true (hB C S),.dat r,.dat (.int m)]=.rt (.dat .none) [hB C S]:=by
 unfold pd at a;cases h:S.last with
 |none=>simp[fZ,wI,Bz b,c,Bn (d:=.int m) rfl,e,h,cm]
 |some l=>rw[h]at a;simp[fZ,wI,Bz b,c,Bn (d:=.int m) rfl,e,h,cm,show ¬ m<l by lia]
def xo(x r):av true (cm x) (.int r)=!.bool (not (decide (x=!r))):=by
 cases x with
 |none=>simp[cm,av,qA,show SeqAt.shaped .none=true from rfl,PyData.eqv]
 |some i=>simp[cm,Bw]
def BB(h:fZ C [.own true (hB C S),.dat d,.dat m]=.ex c [hB C S]):gc C [.own true (hB C S),.dat d,.dat m]=.ex c [hB C S]:=by simp[gc,sZ,cq,h]
def BC(h:fZ C [.own true (hB C S),.dat (.int r),.dat (.int m)]=.rt (.dat .none) [hB C S])(a:(gf S m&&decide (S.holder=!r))=false):gc C [.own true (hB C S),.dat (.int r),.dat (.int m)]=.ex "NotHolder" [hB C S]:=by
 cases b:gf S m with
 |false=>simp[gc,sZ,cq,h,qH,b]
 |true=>rw[b]at a;simp at a;simp[gc,sZ,cq,h,qH,b,xo,a]
def BD(h:fZ C [.own true (hB C S),.dat (.int r),.dat (.int m)]=.rt (.dat .none) [hB C S])(a:gf S m=true)(b:S.holder=!r):gc C [.own true (hB C S),.dat (.int r),.dat (.int m)]=.rt (.dat .none) [hB C S]:=by simp[gc,sZ,cq,h,qH,a,xo,b]
def XY(h:fZ C [.own true (hB C S),.dat d,.dat m]=.ex c [hB C S]):kS C [.own true (hB C S),.dat d,.dat m,.dat t]=.ex c [hB C S]:=by simp[kS,tf,cq,h]
def nE(S:Hl)(r m t:Int):Hl×Bool:=if gf S m=false then({ S with last:=!m,holds:=S.holds+1,holder:=!r,til:=m+t },true) else if S.holder=some r then({ S with last:=!m,holder:=!r,til:=m+t },true) else({ S with last:=!m },false)
def XZ(h:fZ C [.own true (hB C S),.dat (.int r),.dat (.int m)]=.rt (.dat .none) [hB C S])(e:cT (.int t) 1 99=true):kS C [.own true (hB C S),.dat (.int r),.dat (.int m),.dat (.int t)]=.rt (.dat (.bool (nE S r m t).2)) [hB C (nE S r m t).1]:=by
 unfold nE;have f:gf { S with last:=!m } m=gf S m:=rfl;cases a:gf S m with
 |false=>simp[kS,tf,cq,h,BA (d:=.int t) rfl,e,eh,qH,f,a,vF]
 |true=>
  by_cases b:S.holder=some r
  .simp[kS,tf,cq,h,BA (d:=.int t) rfl,e,eh,qH,gf,(by unfold gf at a;simp[b]at a;exact a),xo,b]
  .simp[kS,tf,cq,h,BA (d:=.int t) rfl,e,eh,qH,f,a,xo,b]
def KR(h:gc C [.own true (hB C S),.dat d,.dat m]=.ex c [hB C S]):ny C [.own true (hB C S),.dat d,.dat m]=.ex c [hB C S]:=by simp[ny,Bf,cq,h]
def Ya(h:gc C [.own true (hB C S),.dat (.int r),.dat (.int m)]=.rt (.dat .none) [hB C S]):ny C [.own true (hB C S),.dat (.int r),.dat (.int m)]=.rt (.dat .none) [hB C { S with last:=!m,holder:=none }]:=by simp[ny,Bf,cq,h,eh,kI]
def KS(h:gc C [.own true (hB C S),.dat d,.dat m]=.ex c [hB C S]):ko C [.own true (hB C S),.dat d,.dat m]=.ex c [hB C S]:=by simp[ko,tE,cq,h]
def KU(h:gc C [.own true (hB C S),.dat d,.dat m]=.ex c [hB C S]):kT C [.own true (hB C S),.dat d,.dat m]=.ex c [hB C S]:=by simp[kT,wT,cq,h]
abbrev KW(S:Hl):PyData:=.tuple [cm S.holder,.int S.til,.int S.holds]
def Yb:nq C [.own true (hB C S)]=.rt (.dat (KW S)) [hB C S]:=by simp[nq,Ia]
def Yc:lW C [.own true (hB C S)]=.rt (.own false (.l (S.rows.map ej))) [hB C S]:=by simp[lW,Ib,vZ]
@[irreducible]noncomputable def tO(z d:PyData):List (Str×Fl):=[]
@[irreducible]noncomputable def xp(z d:PyData):List (Str×Fl):=[("zone",.d z)]
@[irreducible]noncomputable def ph(z d:PyData):List (Str×Fl):=[("zone",.d z),("deeds",.d d)]
@[irreducible]noncomputable def xq(z d:PyData):List (Str×Fl):=[("zone",.d z),("deeds",.d d),("last",.d .none)]
@[irreducible]noncomputable def xr(z d:PyData):List (Str×Fl):=[("zone",.d z),("deeds",.d d),("last",.d .none),("holder",.d .none)]
@[irreducible]noncomputable def xu(z d:PyData):List (Str×Fl):=[("zone",.d z),("deeds",.d d),("last",.d .none),("holder",.d .none),("until",.d (.int 0))]
@[irreducible]noncomputable def xv(z d:PyData):List (Str×Fl):=[("zone",.d z),("deeds",.d d),("last",.d .none),("holder",.d .none),("until",.d (.int 0)),("holds",.d (.int 0))]
@[irreducible]noncomputable def xw(z d:PyData):List (Str×Fl):=[("zone",.d z),("deeds",.d d),("last",.d .none),("holder",.d .none),("until",.d (.int 0)),("holds",.d (.int 0)),("begun",.d .none)]
@[irreducible]noncomputable def xx(z d:PyData):List (Str×Fl):=[("zone",.d z),("deeds",.d d),("last",.d .none),("holder",.d .none),("until",.d (.int 0)),("holds",.d (.int 0)),("begun",.d .none),("rows",.l [])]
@[irreducible]noncomputable def tP(z d:PyData):List (Str×Fl):=[("zone",.d z),("deeds",.d d),("last",.d .none),("holder",.d .none),("until",.d (.int 0)),("holds",.d (.int 0)),("begun",.d .none),("rows",.l []),("words",.m true [])]
@[simp]def D0(z d):List.lookup ("zone":Str) (tO z d)=none:=by with_unfolding_all exact rfl
@[simp]def D1(z d):(tO z d).length=0:=by with_unfolding_all exact rfl
@[simp]def D3(z d):bi ("zone":Str) (.d z) (tO z d)=xp z d:=by with_unfolding_all exact rfl
@[simp]def D4(z d):List.lookup ("deeds":Str) (xp z d)=none:=by with_unfolding_all exact rfl
@[simp]def D5(z d):(xp z d).length=1:=by with_unfolding_all exact rfl
@[simp]def D6(z d):bi ("deeds":Str) (.d d) (xp z d)=ph z d:=by with_unfolding_all exact rfl
@[simp]def D7(z d):List.lookup ("last":Str) (ph z d)=none:=by with_unfolding_all exact rfl
@[simp]def D8(z d):(ph z d).length=2:=by with_unfolding_all exact rfl
@[simp]def D9(z d):bi ("last":Str) (.d .none) (ph z d)=xq z d:=by with_unfolding_all exact rfl
@[simp]def E0(z d):List.lookup ("holder":Str) (xq z d)=none:=by with_unfolding_all exact rfl
@[simp]def E1(z d):(xq z d).length=3:=by with_unfolding_all exact rfl
@[simp]def E2(z d):bi ("holder":Str) (.d .none) (xq z d)=xr z d:=by with_unfolding_all exact rfl
@[simp]def E3(z d):List.lookup ("until":Str) (xr z d)=none:=by with_unfolding_all exact rfl
@[simp]def E4(z d):(xr z d).length=4:=by with_unfolding_all exact rfl
@[simp]def E5(z d):bi ("until":Str) (.d (.int 0)) (xr z d)=xu z d:=by with_unfolding_all exact rfl
@[simp]def E6(z d):List.lookup ("holds":Str) (xu z d)=none:=by with_unfolding_all exact rfl
@[simp]def E7(z d):(xu z d).length=5:=by with_unfolding_all exact rfl
@[simp]def E8(z d):bi ("holds":Str) (.d (.int 0)) (xu z d)=xv z d:=by with_unfolding_all exact rfl
@[simp]def E9(z d):List.lookup ("begun":Str) (xv z d)=none:=by with_unfolding_all exact rfl
@[simp]def F0(z d):(xv z d).length=6:=by with_unfolding_all exact rfl
@[simp]def F1(z d):bi ("begun":Str) (.d .none) (xv z d)=xw z d:=by with_unfolding_all exact rfl
@[simp]def F3(z d):List.lookup ("rows":Str) (xw z d)=none:=by with_unfolding_all exact rfl
@[simp]def F4(z d):(xw z d).length=7:=by with_unfolding_all exact rfl
@[simp]def F5(z d):bi ("rows":Str) (.l []) (xw z d)=xx z d:=by with_unfolding_all exact rfl
@[simp]def F6(z d):List.lookup ("words":Str) (xx z d)=none:=by with_unfolding_all exact rfl
@[simp]def F7(z d):(xx z d).length=8:=by with_unfolding_all exact rfl
@[simp]def F8(z d):bi ("words":Str) (.m true []) (xx z d)=tP z d:=by with_unfolding_all exact rfl
@[simp]def F9(z d):List.lookup ("settled":Str) (tP z d)=none:=by with_unfolding_all exact rfl
@[simp]def G0(z d):(tP z d).length=9:=by with_unfolding_all exact rfl
noncomputable def ek(a:Int)(c:Sh)(b:List bP):Hl:=#[a,c,b,none,none,0,0,none,[],[],List.replicate b.length 0]
def Yd(a c b):bi ("settled":Str) (.l ((List.replicate b.length (0:Nat)).map ai)) (tP (bY a c) (ck b))=aD (ek a c b):=by kernel_rfl
theorem KX:∀l a (U:ag),(∃x,U=[x])->a.length+l.length<=sizeLine->cE (aw 0) dL (wU C) l a U=some (a++(List.replicate l.length (0:Nat)).map ai)
 |[],a,U,_,_=>by simp[cE]
 |d::l,a,U,⟨x,hx⟩,b=>by
  subst hx;simp only[q0t]at b;have c:=KX l (a++[.int 0]) [!.dat d] #[_,rfl] (by simp;lia);have e:wU C [!.dat d]=.ok (.int 0) [!.dat d]:=by simp[wU]
  rw[cE];simp[dL,e,show a.length<sizeLine by lia,c,q0F]
def Ye(e:sW [.dat (bY a c)]=.rt (.dat .none) [])(hd:tq [.dat (ck b)]=.rt (.dat .none) [])(i:b.length<=6):wV C [.own true (.o C []),.dat (bY a c),.dat (ck b)]=.rt (.dat .none) [hB C (ek a c b)]:=by
 have sz:1000<sizeLine:=by decide
 have f:([]:List (Str×Fl))=tO (bY a c) (ck b):=by unfold tO;rfl
 have g:=KX (b.map cg) [] [none] #[_,rfl] (by simp;lia);rw[q0r,q0d]at g;have h:ck b=.tuple (b.map cg):=by unfold ck;rfl
 have d:=Yd a c b;rw[f];simp[wV,IF,e,hd,eh,kg,kI,oF,Ai,vH];rw[h]at *;simp[g,show b.length<=sizeLine by lia]at d ⊢;exact d
def pk(p:aU):Prop:=dN p
def pk.plan(h:pk p):dN p:=h
def BE{c:Nat}(b:ss.length<=6)(ok:pk p):jE [.dat (bY a ss),.dat (gv p),.dat (.int c)]=.rt (.dat (eI (bE a ss p c))) []:=KD b ok
def mf:PyData.strOk "all" = true:=by decide +kernel
def iQ:PyData.strOk "last" = true:=by decide +kernel
def BF:PyData.strOk "within" = true:=by decide +kernel
def nF:PyData.strOk "begun" = true:=by decide +kernel
def Yf:PyData.strOk "done" = true:=by decide +kernel
def Yg:PyData.strOk "left" = true:=by decide +kernel
def Yh:PyData.strOk "unsure" = true:=by decide +kernel
def KY:(("all":Str)==("all":Str))=true:=by decide +kernel
def BG:(("last":Str)==("all":Str))=false:=by decide +kernel
def BH:(("last":Str)==("last":Str))=true:=by decide +kernel
def KZ:(("begun":Str)==("begun":Str))=true:=by decide +kernel
def Yi:(("done":Str)==("begun":Str))=false:=by decide +kernel
def Yj:(("left":Str)==("begun":Str))=false:=by decide +kernel
def Yl:(("unsure":Str)==("begun":Str))=false:=by decide +kernel
def Yn(w):av false (.str (df w)) (.str "begun")=!.bool (decide (w=.begun)):=by
 cases w
 .simp[cf nF nF,KZ]
 .simp[cf Yf nF,Yi]
 .simp[cf Yg nF,Yj]
 .simp[cf Yh nF,Yl]
def BI(h:SeqAt.shaped (.tuple l)=true)(a:PyData.strOk x=true):av false (.tuple l) (.str x)=!.bool false:=by simp[av,h,qD a,PyData.eqv]
def BJ(n):SeqAt.shaped (.tuple [.str "within",.int n])=true:=by unfold SeqAt.shaped;simp[PyData.canLay0,PyData.canLayAll0,PyData.depth,PyData.depthAll,BF]
def kt(a:Int)(e:Sh)(d:bP)(c:Nat)(b:Int):Bool:=match d.late with
 |.all=>false
 |.last=>(match bE a e d.plan (c+1) with |some v=>decide (v<=b) |none=>false)
 |.within n=>decide (b - nj a e d.plan c>n)
def Yo(e:ss.length<=6)(ok:pk d.plan)(f:∃v,bE a ss d.plan c=!v):oV [.dat (bY a ss),.dat (cg d),.dat (.int c),.dat (.int now)]=.rt (.dat (.bool (kt a ss d c now))) []:=by
 let⟨p,la,g⟩:=d;let⟨v,hv⟩:=f;simp only at ok hv;unfold kt;cases la with
 |all=>simp[oV,sX,cf mf mf,KY]
 |last=>
  have rt:=BE (a:=a) (ss:=ss) (p:=p) (c:=c+1) e ok;simp at rt;cases b:bE a ss p (c+1) with
  |none=>rw[b]at rt;simp[oV,sX,cf iQ mf,cf iQ iQ,BG,BH,rt,eI,b]
  |some w=>rw[b]at rt;simp[oV,sX,cf iQ mf,cf iQ iQ,BG,BH,rt,eI,b]
 |within n=>have rt:=BE (a:=a) (ss:=ss) (p:=p) (c:=c) e ok;rw[hv]at rt;simp[oV,sX,BI (BJ n) mf,BI (BJ n) iQ,rt,eI,nj,hv]
noncomputable def fL:List ((Nat×Nat)×Wd)->(Nat×Nat)->Wd->List ((Nat×Nat)×Wd)
 |[],k,w=>[(k,w)]
 |(a,v)::r,k,w=>if a = k then(a,w)::r else(a,v)::fL r k w
def xy(d c):je true (.tuple [ai d,ai c])=![Sum.inl (d:Int),Sum.inl (c:Int)]:=rfl
def tQ{d c :Nat}:(je true (.tuple [ai a,ai b])=![Sum.inl (d:Int),Sum.inl (c:Int)])↔(a,b)=(d,c):=by
 rw[xy];constructor
 .intro h;simp only[q0L,q2c,Sum.inl.injEq,and_true]at h;have g:=h.1;have i:=h.2;have e:a = d:=by lia
  have f:b = c:=by lia
  rw[e,f]
 .intro h;cases h;rfl
theorem xz(d c:Nat):∀e,gT true (cx e) [Sum.inl (d:Int),Sum.inl (c:Int)]=(e.lookup (d,c)).map λw=>.str (df w)
 |[]=>rfl
 | ((a,b),w)::r=>by
  unfold cx;rw[q0h,gT];have f:=xz d c r;unfold cx at f
  by_cases h:(a,b)=(d,c)
  .rw[if_pos (tQ.mpr h)];grind
  .rw[if_neg (λz=>h (tQ.mp z)),f];grind
theorem La(d c w):∀a:List ((Nat×Nat)×Wd),(a.map (·.1)).Nodup->(a.lookup (d,c)).isSome=true->oz true [Sum.inl (d:Int),Sum.inl (c:Int)] (.str (df w)) (cx a)=cx (fL a (d,c) w)
 |[],_,h=>by cases h
 | ((b,f),v)::r,nd,h=>by
  unfold cx;rw[q0h,oz];have tail:∀a:List ((Nat×Nat)×Wd),(d,c)∉a.map (·.1)->oz true [Sum.inl (d:Int),Sum.inl (c:Int)] (.str (df w)) (cx a)=cx a:=by
   intro a
   induction a with
   |nil=>intro _;rfl
   |cons p r i=>intro g;obtain⟨⟨k,l⟩,m⟩:=p;simp only[q0h,q0c,not_or]at g;unfold cx;rw[q0h,oz,if_neg (λz=>g.1 (tQ.mp z).symm)];have:=i g.2;unfold cx at this;rw[this]
  by_cases e:(b,f)=(d,c)
  .cases e;rw[if_pos (tQ.mpr rfl),fL,if_pos rfl,q0h];have:=tail r (by simpa using(q0v.mp nd).1);unfold cx at this;rw[this]
  .have j:(r.lookup (d,c)).isSome=true:=by
    have:((d,c)==(b,f))=false:=by simpa using λz:(d=b/\c=f)=>e (by rw[z.1,z.2])
    rw[q0n,this]at h;exact h
   rw[if_neg (λz=>e (tQ.mp z)),fL,if_neg e,q0h];have:=La d c w r (q0v.mp nd).2 j;unfold cx at this;rw[this]
theorem Lb(k w):∀a,a.lookup k=none->fL a k w=a++[(k,w)]
 |[],_=>rfl
 | (b,v)::r,h=>by
  rw[q0n]at h
  by_cases e:k=b
  .subst e;simp at h
  .have:(k==b)=false:=by simpa using e
   rw[this]at h;rw[fL,if_neg (λz=>e z.symm),Lb k w r h];rfl
def Lc(a:(ws.map (·.1)).Nodup):kF true (cx ws) (.tuple [ai d,ai c]) [Sum.inl (d:Int),Sum.inl (c:Int)] (.str (df w))=cx (fL ws (d,c) w):=by
 unfold kF;rw[xz];cases h:ws.lookup (d,c) with
 |none=>rw[Lb _ _ _ h];simp[cx]
 |some v=>exact La d c w ws a (by rw[h];rfl)
theorem BK(k w):∀a,(fL a k w).map (·.1)=if k∈a.map (·.1) then a.map (·.1) else a.map (·.1)++[k]
 |[]=>by simp[fL]
 | (b,v)::r=>by
  rw[fL]
  by_cases e:b = k
  .subst e;simp
  .rw[if_neg e,q0h,BK k w r]
   by_cases h:k∈r.map (·.1)
   .rw[if_pos h];rw[if_pos (by simp[h])];rfl
   .rw[if_neg h,if_neg (by
     simp only[q0h,q0c,not_or];exact#[λz=>e z.symm,h])];rfl
def Ld(d:(c.map (·.1)).Nodup):((fL c k w).map (·.1)).Nodup:=by
 rw[BK];split
 .exact d
 .rename_i h;exact q0f.mpr #[d,by simp,λa f b e z=>by simp at e;subst e;subst z;exact h f]
def Lf(k w a):(fL a k w).length<=a.length+1:=by have:=congrArg List.length (BK k w a);rw[q0d]at this;rw[this];split<;>simp
def er(S:Hl)(r:dG):Hl:={ S with rows:=S.rows++[r],words:=fL S.words (r.dd,r.ct) r.wd,begun:=if r.wd=.begun then some (r.dd,r.ct,S.holds) else none,settled:=if r.wd=.begun then S.settled else S.settled.set r.dd (r.ct+1) }
def mi{v:PyData}:bT (x::y::z::v::l) 3=!v:=by unfold bT dR;rw[if_pos 'a',if_pos (by simp<;>lia)];rfl
def tR{u:PyData}:bT (x::y::z::v::u::l) 4=!u:=by unfold bT dR;rw[if_pos 'a',if_pos (by simp<;>lia)];rfl
def Yp(S r):bi ("rows":Str) (.l (S.rows.map ej++[ej r])) (aD S)=aD { S with rows:=S.rows++[r] }:=by rw[show S.rows.map ej++[ej r]=(S.rows++[r]).map ej by simp];exact XR S _
def xA(j:S.rows.length<1000000)(k:S.words.length<1000000)(i:(S.words.map (·.1)).Nodup)(hd:r.dd<S.settled.length):jj C [.own true (hB C S),.dat (ej r)]=.rt (.dat (.tuple [.str (df r.wd),ai r.dd,ai r.ct])) [hB C (er S r)]:=by
 have sz:1000000<sizeLine:=by decide
 let⟨mo,ru,wd,a,b⟩:=r;have e:=Lc (ws:=S.words) (d:=a) (c:=b) (w:=wd) i;have f:(cx S.words).length<sizeLine:=by unfold cx;rw[q0d];lia
 have g:=Yp S #[mo,ru,wd,a,b];simp only at hd;have h:dR S.settled.length (a:Int)=!a:=by unfold dR;rw[if_pos 'a',if_pos 'a'];simp
 have st:(S.settled.map ai).set a (.int ((b:Int)+1))=(S.settled.set a (b+1)).map ai:=by rw[List.map_set];simp[ai]
 unfold er
 by_cases hb:wd=.begun
 .subst hb;simp[jj,AL,mi,tR,rT,en,vB,show S.rows.length<sizeLine by lia,g,vC,rV,xy,f,e,KQ,eh,show(3:Nat)<=sizeLine by lia,vE,rX,h,st,cf nF nF,KZ]
 .simp[jj,AL,mi,tR,rT,en,vB,show S.rows.length<sizeLine by lia,g,vC,rV,xy,f,e,KQ,eh,show(3:Nat)<=sizeLine by lia,vE,rX,h,st,Yn,hb];rw[<-List.map_set];exact XS _ _
structure bL (S:Hl):Prop where
 z:eG S.a S.ss
 dl:S.ds.length<=6
 pl:∀d∈S.ds,pk d.plan
 sl:S.settled.length=S.ds.length
 nd:(S.words.map (·.1)).Nodup
 bg:∀d c h,S.begun=!(d,c,h)->d<S.ds.length
noncomputable def lb(S:Hl):Bool:=match S.begun with
 |some (_,_,h)=>decide (h=S.holds)
 |none=>false
def ku(b:a.length=n)(d:m (a.map some++List.replicate (N - n) none)=.rt c U)(e:dX a U=!o):bf n N m a=.rt c o:=by unfold bf;rw[if_pos b,d];simp only[e]
def xB(a:-4611686018427387904<=j)(b:j<4611686018427387904):dk [.int j]=!L3.intsFrom 0 j.toNat:=by show(if _ then _ else _)=_;rw[if_pos (by rw[decide_eq_true (show -(2 ^ 62)<=j by lia),decide_eq_true (show j<2 ^ 62 by lia)];rfl)]
def BL:oO C [.own true (hB C S)]=.rt (.dat (.bool (lb S))) [hB C S]:=by
 unfold lb;cases h:S.begun with
 |none=>simp[oO,AM,h,kr]
 |some p=>let⟨d,c,k⟩:=p;simp[oO,AM,h,kr,kq]
def Lg{a:List bP}(h:k<a.length):au (ck a) (.int k)=!cg a[k]:=by
 unfold ck;have:bT (a.map cg) k=!cg a[k]:=by unfold bT dR;simp_all
 simp[this]
def Yq{l:List Nat}(h:k<l.length):bT (l.map ai) (k:Int)=!ai l[k]:=by unfold bT dR;rw[if_pos 'a',if_pos (by simp;lia)];simp[h]
noncomputable def bI(S:Hl)(k:Nat):Nat:=S.settled.getD k 0
def qJ(S:Hl)(k:Nat):Option (List Int):=match S.ds[k]? with
 |some d=>(bE S.a S.ss d.plan (bI S k)).map λv=>[v,(k:Int),(bI S k:Int)]
 |none=>none
def gi(S:Hl):List (List Int):=(List.range S.ds.length).filterMap (qJ S)
noncomputable abbrev bo(r:List Int):PyData:=.tuple (r.map PyData.int)
theorem BM(ok:bL S):∀n k  b  m f g,k+n=S.ds.length->b.length<=k->∃h i j,cz (aw 2) (oZ C) (L3.intsFrom (k:Int) n) [!.own true (hB C S),!.own false (.l (b.map bo)),m,f,g]=.nx [!.own true (hB C S),!.own false (.l ((b++(List.range' k n).filterMap (qJ S)).map bo)),h,i,j]
 |0,k,b,m,f,g,_,_=>#[m,f,g,by simp[L3.intsFrom,cz]]
 |n+1,k,b,m,f,g,t,u=>by
  have sz:1000<sizeLine:=by decide
  have d:k<S.ds.length:=by lia
  have hs:k<S.settled.length:=by rw[ok.sl];exact d
  have dl:=ok.dl;have q:pk (S.ds[k]).plan:=ok.pl _ (q0G d);have r:bI S k=S.settled[k]:=by unfold bI;rw[q2e,q0j hs];rfl
  have rt:=BE (a:=S.a) (ss:=S.ss) (p:=(S.ds[k]).plan) (c:=S.settled[k]) ok.z.len q;have as:=Yq (l:=S.settled) hs;have s:qJ S k=(bE S.a S.ss (S.ds[k]).plan S.settled[k]).map λv=>[v,(k:Int),((S.settled[k]:Nat):Int)]:=by unfold qJ;rw[q0j d,<-r]
  rw[qF,cz,List.range'_succ,q1y,s];cases ht:bE S.a S.ss (S.ds[k]).plan S.settled[k]with
  |none=>
   rw[ht]at rt;have e:oZ C [!.own true (hB C S),!.own false (.l (b.map bo)),!.dat (.int k),f,g]=.nx [!.own true (hB C S),!.own false (.l (b.map bo)),!.dat (.int k),!.dat (ai S.settled[k]),!.dat .none]:=by simp[-au,oZ,rW,en,as,Lg d];simp[rt,eI]
   let⟨h,i,j,o⟩:=BM ok n (k+1) b (!.dat (.int k)) (!.dat (ai S.settled[k])) (!.dat .none) 'a' 'a';refine#[h,i,j,?_];simp only[Option.map_none];rw[<-o];simp[e]
  |some v=>
   rw[ht]at rt;have e:oZ C [!.own true (hB C S),!.own false (.l (b.map bo)),!.dat (.int k),f,g]=.nx [!.own true (hB C S),!.own false (.l ((b++[[v,(k:Int),((S.settled[k]:Nat):Int)]]).map bo)),!.dat (.int k),!.dat (ai S.settled[k]),!.dat (.int v)]:=by simp[-au,oZ,rW,en,as,Lg d];simp[rt,eI,show b.length<sizeLine by lia,show(3:Nat)<=sizeLine by lia]
   let⟨h,i,j,o⟩:=BM ok n (k+1) (b++[[v,(k:Int),((S.settled[k]:Nat):Int)]]) (!.dat (.int k)) (!.dat (ai S.settled[k])) (!.dat (.int v)) 'a' (by simp;lia);refine#[h,i,j,?_];simp only[q1H];rw[q0m,q04]at o;rw[<-o];simp[e]
theorem Lh:∀a,kh (a.map PyData.int)=some a
 |[]=>rfl
 |n::a=>by rw[q0h,kh,Lh a];rfl
theorem BN:∀a,kM (a.map bo)=some a
 |[]=>rfl
 |r::a=>by rw[q0h,kM,Lh,BN a]
def pp:List (List Int)->PyData
 |[]=>.none
 |r::a=>bo (gp a r)
def Yr:(cn cK (aj (cG C 0 "deeds") aE)) [!.own true (hB C S),!.own false (.l []),none,none,none]=.ok (.int S.ds.length) [!.own true (hB C S),!.own false (.l []),none,none,none]:=by simp[ck]
def Ys(h:U[1]? = !!.own false (.l (a.map bo))):mW 1 U=.ok (pp a) U:=by unfold mW lN;rw[h];simp only[BN];cases a<;>rfl
def Yt(h:0<=n)(i:n<=1000)(c:m U=.ok (.int n) U)(d:cz g b (L3.intsFrom 0 n.toNat) U=.nx a):fW (eO dk (aj m aE)) g b U=.nx a:=by
 have e:(aj m aE) U=.ok [.int n] U:=by simp_all
 have f:eO dk (aj m aE) U=.ok (L3.intsFrom 0 n.toNat) U:=by show gF.bind ((aj m aE) U) _=_;rw[e];show L3.lift (dk [.int n]) U=_;rw[xB 'a' 'a'];rfl
 show ef (eO dk (aj m aE) U) _=_;rw[f];exact d
theorem BO:∀a  r,gp a r=r\/gp a r∈a
 |[],r=>.inl rfl
 |x::a,r=>by
  rw[gp];rcases BO a (if HT.lexLt x r=true then x else r) with h |h
  .rw[h];split
   .exact .inr q0g
   .exact .inl rfl
  .exact .inr (bK _ h)
def jG(a):ck a=.tuple (a.map cg):=by unfold ck;rfl
def qK{a:List bP}(h:k<a.length):bT (a.map cg) (k:Int)=!cg a[k]:=by unfold bT dR;simp_all
def Li(h:x∈gi S):∃k v,∃c,bE S.a S.ss (S.ds[k]).plan (bI S k)=!v/\x=[v,(k:Int),(bI S k:Int)]:=by unfold gi at h;let⟨k,c,e⟩:=q2v.mp h;have b:=q2f.mp c;unfold qJ at e;rw[q0j b]at e;let⟨v,hv,d⟩:=q0i.mp e;exact#[k,v,b,hv,d.symm]
def lc(S:Hl):Option (Int×Nat):=match gi S with
 |[]=>none
 |x::a=>(match gp a x with
  |[v,k,_]=>some (v,k.toNat)
  |_=>none)
def Lj(h:lc S=none):gi S=[]:=by
 unfold lc at h;cases a:gi S with
 |nil=>rfl
 |cons x b=>
  rw[a]at h;have c:gp b x∈gi S:=by
   rw[a];rcases BO b x with e |e
   .rw[e];exact q0g
   .exact bK _ e
  let⟨k,v,d,_,e⟩:=Li c;simp only[e]at h;cases h
def xD(h:lc S=!(v,k)):∃d,bE S.a S.ss (S.ds[k]).plan (bI S k)=!v/\∃x b,gi S=x::b/\gp b x=[v,(k:Int),(bI S k:Int)]:=by
 unfold lc at h;cases c:gi S with
 |nil=>rw[c]at h;cases h
 |cons x b=>
  rw[c]at h;have f:gp b x∈gi S:=by
   rw[c];rcases BO b x with e |e
   .rw[e];exact q0g
   .exact bK _ e
  let⟨g,i,d,ht,e⟩:=Li f;simp only[e,q0L,Prod.mk.injEq,q1s]at h;let⟨rfl,rfl⟩:=h;exact#[d,ht,x,b,rfl,e]
def gK(S:Hl)(r m:Int):Hl×PyData:=match lc S with
 |none=>(S,.tuple [.str "idle",.none])
 |some (v,k)=>if m<v then(S,.tuple [.str "idle",.int v]) else
  (match S.ds[k]? with
  |some d=>(er S #[m,r,if kt S.a S.ss d (bI S k) m=true then .left else .begun,k,bI S k],.tuple [.str (df (if kt S.a S.ss d (bI S k) m=true then .left else .begun)),ai k,ai (bI S k)])
  |none=>(S,.none))
def nG{U:ag}:cF c (some (.own io (.o c fs))::U) 0=!(io,fs):=by simp[cF]
def pq{U:ag}(h:fs.lookup f=!.d d):cG c 0 f (some (.own io (.o c fs))::U)=.ok d (some (.own io (.o c fs))::U):=by simp[cG,nG,h]
def Yv{C}(ok:bL S)(b:wO C [.own true (hB C S)]=.rt (.dat (pp (gi S))) [hB C S])(i:∀w  k,k<S.ds.length->jj C [.own true (hB C S),.dat (.tuple [.int m,.int r,.str (df w),.int k,.int (bI S k)])]=.rt (.dat (.tuple [.str (df w),.int k,.int (bI S k)])) [hB C (er S #[m,r,w,k,bI S k])]):lX C [.own true (hB C S),.dat (.int r),.dat (.int m)]=.rt (.dat (gK S r m).2) [hB C (gK S r m).1]:=by
 have sz:1000000<sizeLine:=by decide
 unfold gK;cases j:lc S with
 |none=>rw[Lj j]at b;simp[lX,tD,nG,pq,dZ,cO,cq,b,pp,show(2:Nat)<=sizeLine by lia]
 |some p=>
  let⟨v,k⟩:=p;let⟨g,ht,x,o,n,e⟩:=xD j;rw[n,pp,e]at b;simp only[bo,q0h,q07]at b
  by_cases hv:m<v
  .simp[lX,tD,nG,pq,dZ,cO,cq,b,hv,show(2:Nat)<=sizeLine by lia]
  .have lo:=Yo (a:=S.a) (ss:=S.ss) (d:=S.ds[k]) (c:=bI S k) (now:=m) ok.z.len (ok.pl _ (q0G g)) #[v,ht];simp only[q0j g];rw[if_neg hv];cases l:kt S.a S.ss S.ds[k] (bI S k) m with
   |true=>rw[l]at lo;have h:=i .left k g;have f:jj C [.own true (hB C S),.dat (.tuple [.int m,.int r,.str "left",.int k,.int (bI S k)])]=.rt (.dat (.tuple [.str "left",.int k,.int (bI S k)])) [hB C (er S #[m,r,.left,k,bI S k])]:=h;simp[lX,tD,nG,pq,dZ,cO,cq,cq,b,jG,qK g,lo,hv,f,show(5:Nat)<=sizeLine by lia]
   |false=>rw[l]at lo;have h:=i .begun k g;have f:jj C [.own true (hB C S),.dat (.tuple [.int m,.int r,.str "begun",.int k,.int (bI S k)])]=.rt (.dat (.tuple [.str "begun",.int k,.int (bI S k)])) [hB C (er S #[m,r,.begun,k,bI S k])]:=h;simp[lX,tD,nG,pq,dZ,cO,cq,cq,b,jG,qK g,lo,hv,f,show(5:Nat)<=sizeLine by lia]
def Yw(ok:bL S)(a:S.rows.length<1000000)(b:S.words.length<1000000):lX C [.own true (hB C S),.dat (.int r),.dat (.int m)]=.rt (.dat (gK S r m).2) [hB C (gK S r m).1]:=
 Yv ok (by
    have dl:=ok.dl;let⟨a,b,c,g⟩:=BM ok S.ds.length 0 [] none none none 'a' 'd';rw[q0r,<-List.range_eq_range']at g;change cz _ _ (L3.intsFrom 0 S.ds.length) [_,!.own false (.l []),_,_,_]=eF.nx [_,!.own false (.l ((gi S).map bo)),_,_,_]at g;have d:=Yt 'a' 'a' (Yr (S:=S)) (by rw[q1s];exact g);have e:il 1 (iM aE) [!.own true (hB C S),none,none,none,none]=.nx [!.own true (hB C S),!.own false (.l []),none,none,none]:=by simp
    have f:bc (mW 1) [!.own true (hB C S),!.own false (.l ((gi S).map bo)),a,b,c]=.rt (.dat (pp (gi S))) [!.own true (hB C S),!.own false (.l ((gi S).map bo)),a,b,c]:=by show ef (mW 1 _) _=_;rw[Ys rfl];rfl
    have h:(ak (il 1 (iM aE)) (ak (fW (eO dk (aj (cn cK (aj (cG C 0 "deeds") aE)) aE)) (aw 2) (oZ C)) (bc (mW 1)))) [!.own true (hB C S),none,none,none,none]=.rt (.dat (pp (gi S))) [!.own true (hB C S),!.own false (.l ((gi S).map bo)),a,b,c]:=by rw[bp e,bp d,f]
    exact ku (n:=1) (N:=5) rfl h rfl) λw k c=>xA (S:=S) (r:=#[m,r,w,k,bI S k]) a b ok.nd (by rw[ok.sl];exact c)
def mj(S:Hl)(r m:Int)(d c:Nat):Hl×PyData:=match S.ds[d]? with
 |some x=>(er S #[m,r,if x.again=true then .begun else .unsure,d,c],.tuple [.str (df (if x.again=true then .begun else .unsure)),ai d,ai c])
 |none=>(S,.none)
def Yx(ok:bL S)(f:S.rows.length<1000000)(g:S.words.length<1000000)(e:S.begun=!(d,c,h)):qr C [.own true (hB C S),.dat (.int r),.dat (.int m)]=.rt (.dat (mj S r m d c).2) [hB C (mj S r m d c).1]:=by
 have sz:1000000<sizeLine:=by decide
 have hd:=ok.bg d c h e;unfold mj;simp only[q0j hd];cases i:(S.ds[d]).again with
 |true=>have b:=xA (S:=S) (r:=#[m,r,.begun,d,c]) f g ok.nd (by rw[ok.sl];exact hd);have a:jj C [.own true (hB C S),.dat (.tuple [.int m,.int r,.str "begun",.int d,.int c])]=.rt (.dat (.tuple [.str "begun",.int d,.int c])) [hB C (er S #[m,r,.begun,d,c])]:=b;simp[qr,AV,cq,e,kr,jG,qK hd,i,a,show(5:Nat)<=sizeLine by lia]
 |false=>have b:=xA (S:=S) (r:=#[m,r,.unsure,d,c]) f g ok.nd (by rw[ok.sl];exact hd);have a:jj C [.own true (hB C S),.dat (.tuple [.int m,.int r,.str "unsure",.int d,.int c])]=.rt (.dat (.tuple [.str "unsure",.int d,.int c])) [hB C (er S #[m,r,.unsure,d,c])]:=b;simp[qr,AV,cq,e,kr,jG,qK hd,i,a,show(5:Nat)<=sizeLine by lia]
theorem bL.last(ok:bL S)(x):bL { S with last:=x }:=#[ok.z,ok.dl,ok.pl,ok.sl,ok.nd,ok.bg]
def eZ(S:Hl)(r m:Int):Hl×PyData:=match S.begun with
 |some (d,c,h)=>if h=S.holds then({ S with last:=!m },.tuple [.str "busy",ai d,ai c]) else mj { S with last:=!m } r m d c
 |none=>gK { S with last:=!m } r m
def Yy{C}(b:gc C [.own true (hB C S),.dat (.int r),.dat (.int m)]=.rt (.dat .none) [hB C S])(a:oO C [.own true (hB C { S with last:=!m })]=.rt (.dat (.bool (lb { S with last:=!m }))) [hB C { S with last:=!m }])(i:lX C [.own true (hB C { S with last:=!m }),.dat (.int r),.dat (.int m)]=.rt (.dat (gK { S with last:=!m } r m).2) [hB C (gK { S with last:=!m } r m).1])(j:∀d c h,S.begun=!(d,c,h)->qr C [.own true (hB C { S with last:=!m }),.dat (.int r),.dat (.int m)]=.rt (.dat (mj { S with last:=!m } r m d c).2) [hB C (mj { S with last:=!m } r m d c).1]):ko C [.own true (hB C S),.dat (.int r),.dat (.int m)]=.rt (.dat (eZ S r m).2) [hB C (eZ S r m).1]:=by
 have sz:1000000<sizeLine:=by decide
 unfold lb at a;unfold eZ;cases hb:S.begun with
 |none=>have f:=i;simp only[hb]at a f ⊢;simp[ko,tE,nG,pq,dZ,cO,cq,kg,kI,cq,b,eh,a,hb,kr,f]
 |some p=>
  let⟨d,c,h⟩:=p;have g:=j d c h hb;simp only[hb]at a g ⊢
  by_cases e:h=S.holds
  .rw[if_pos e];rw[decide_eq_true e]at a;simp[ko,tE,nG,pq,dZ,cO,cq,kg,kI,cq,b,eh,a,hb,kr,show(3:Nat)<=sizeLine by lia]
  .rw[if_neg e];rw[decide_eq_false e]at a;simp[ko,tE,nG,pq,dZ,cO,cq,kg,kI,cq,b,eh,a,hb,kr,g]
def Yz(ok:bL S)(a:S.rows.length<1000000)(b:S.words.length<1000000)(c:gc C [.own true (hB C S),.dat (.int r),.dat (.int m)]=.rt (.dat .none) [hB C S]):ko C [.own true (hB C S),.dat (.int r),.dat (.int m)]=.rt (.dat (eZ S r m).2) [hB C (eZ S r m).1]:=
 Yy c BL (Yw (ok.last _) a b) λ_ _ _=>Yx (S:={ S with last:=!m }) (ok.last _) a b
def YB(ok:bL S)(f:S.rows.length<1000000)(g:S.words.length<1000000)(h:gc C [.own true (hB C S),.dat (.int r),.dat (.int m)]=.rt (.dat .none) [hB C S])(e:S.begun=!(d,c,S.holds)):kT C [.own true (hB C S),.dat (.int r),.dat (.int m)]=.rt (.dat (.tuple [.str "done",ai d,ai c])) [hB C (er { S with last:=!m } #[m,r,.done,d,c])]:=by
 have sz:1000000<sizeLine:=by decide
 have b:=BL (S:=S);unfold lb at b;rw[e]at b;simp only[decide_true]at b;have hd:=ok.bg d c _ e;have i:=xA (S:={ S with last:=!m }) (r:=#[m,r,.done,d,c]) f g ok.nd (by show d<S.settled.length;rw[ok.sl];exact hd);have a:jj C [.own true (hB C { S with last:=!m }),.dat (.tuple [.int m,.int r,.str "done",.int d,.int c])]=.rt (.dat (.tuple [.str "done",.int d,.int c])) [hB C (er { S with last:=!m } #[m,r,.done,d,c])]:=i;simp only[e]at a;simp[kT,wT,cq,h,b,eh,e,kr,a,show(5:Nat)<=sizeLine by lia]
@[simp]def G1:fV "tuple" "str" = !false:=rfl
def lg:PyData.strOk "take" = true:=by decide +kernel
def lh:PyData.strOk "give" = true:=by decide +kernel
def lp:PyData.strOk "step" = true:=by decide +kernel
def qL:PyData.strOk "finish" = true:=by decide +kernel
def Lk:(("take":Str)==("take":Str))=true:=by decide +kernel
def Ll:(("give":Str)==("take":Str))=false:=by decide +kernel
def Lm:(("give":Str)==("give":Str))=true:=by decide +kernel
def Ln:(("step":Str)==("take":Str))=false:=by decide +kernel
def Lo:(("step":Str)==("give":Str))=false:=by decide +kernel
def Lp:(("step":Str)==("step":Str))=true:=by decide +kernel
def Lq:(("finish":Str)==("take":Str))=false:=by decide +kernel
def Lr:(("finish":Str)==("give":Str))=false:=by decide +kernel
def Ls:(("finish":Str)==("step":Str))=false:=by decide +kernel
def YC(h:kS C [.own true (hB C S),.dat r,.dat m,.dat t]=.rt (.dat d) [hB C S']):fj C [.own true (hB C S),.dat (.tuple [.str "take",r,m,t])]=.rt (.dat d) [hB C S']:=by simp[fj,kU,ke,cf lg lg,Lk,cq,h,mi]
def YD(h:kS C [.own true (hB C S),.dat r,.dat m,.dat t]=.ex c [hB C S])(a:c∈fi)(b:lV [.exc c]=.rt (.dat q) []):fj C [.own true (hB C S),.dat (.tuple [.str "take",r,m,t])]=.rt (.dat q) [hB C S]:=by simp[fj,kU,ke,cf lg lg,cq,h,mi,a,b]
def YE(h:ny C [.own true (hB C S),.dat r,.dat m]=.rt (.dat d) [hB C S']):fj C [.own true (hB C S),.dat (.tuple [.str "give",r,m])]=.rt (.dat d) [hB C S']:=by simp[fj,kU,ke,cf lh lg,Ll,cf lh lh,Lm,cq,h]
def Lu(h:ny C [.own true (hB C S),.dat r,.dat m]=.ex c [hB C S])(a:c∈fi)(b:lV [.exc c]=.rt (.dat q) []):fj C [.own true (hB C S),.dat (.tuple [.str "give",r,m])]=.rt (.dat q) [hB C S]:=by simp[fj,kU,ke,cf lh lg,Ll,cf lh lh,Lm,cq,h,a,b]
def YF(h:ko C [.own true (hB C S),.dat r,.dat m]=.rt (.dat d) [hB C S']):fj C [.own true (hB C S),.dat (.tuple [.str "step",r,m])]=.rt (.dat d) [hB C S']:=by simp[fj,kU,ke,cf lp lg,Ln,cf lp lh,Lo,cf lp lp,Lp,cq,h]
def Lv(h:ko C [.own true (hB C S),.dat r,.dat m]=.ex c [hB C S])(a:c∈fi)(b:lV [.exc c]=.rt (.dat q) []):fj C [.own true (hB C S),.dat (.tuple [.str "step",r,m])]=.rt (.dat q) [hB C S]:=by simp[fj,kU,ke,cf lp lg,Ln,cf lp lh,Lo,cf lp lp,cq,h,a,b]
def YG(h:kT C [.own true (hB C S),.dat r,.dat m]=.rt (.dat d) [hB C S']):fj C [.own true (hB C S),.dat (.tuple [.str "finish",r,m])]=.rt (.dat d) [hB C S']:=by simp[fj,kU,ke,cf qL lg,Lq,cf qL lh,Lr,cf qL lp,Ls,cq,h]
def BP(h:kT C [.own true (hB C S),.dat r,.dat m]=.ex c [hB C S])(a:c∈fi)(b:lV [.exc c]=.rt (.dat q) []):fj C [.own true (hB C S),.dat (.tuple [.str "finish",r,m])]=.rt (.dat q) [hB C S]:=by simp[fj,kU,ke,cf qL lg,Lq,cf qL lh,Lr,cf qL lp,Ls,cq,h,a,b]
def YH(b:PyData.strOk x=true)(a:PyData.strOk y=true):av true (.str x) (.str y)=!.bool (x != y):=by simp[av,qD b,qD a,Ky,bne]
def lq:gd->Prop
 |.within n=>0<=n/\n<=999
 |_=>True
def YI(ok:lq x):qu [.dat (fm x)]=.rt (.dat (.bool true)) []:=by
 cases x with
 |all=>simp[qu,wB,cf mf mf,KY]
 |last=>simp[qu,wB,cf iQ mf,cf iQ iQ,BG,BH]
 |within n=>
  have a:(("within":Str)==("within":Str))=true:=by decide +kernel
  simp[qu,wB,pc BF BF,a,kX (d:=.int n) rfl,cT,ok.1,ok.2]
def YJ(a:dN d.plan)(b:lq d.late):wH [.dat (cg d)]=.rt (.dat (.bool true)) []:=by have c:=XA a;have e:=YI b;simp[wH,Iz,tI,iF,c,e]
theorem Lw:∀(b:List bP)  a (U:ag),(∃x,U=[x])->(∀d∈b,dN d.plan/\lq d.late)->a.length+b.length<=sizeLine->cE (aw 0) dL wL (b.map cg) a U=some (a++(b.map λ_=>PyData.bool true))
 |[],a,U,_,_,_=>by simp[cE]
 |d::b,a,U,⟨x,c⟩,h,e=>by
  subst c;simp only[q0t]at e;have hd:=h d q0g;have f:=Lw b (a++[.bool true]) [!.dat (cg d)] #[_,rfl] (λx c=>h x (bK _ c)) (by simp;lia);have g:wL [!.dat (cg d)]=.ok (.bool true) [!.dat (cg d)]:=by simp[wL,YJ hd.1 hd.2]
  rw[q0h,cE];simp[dL,g,show a.length<sizeLine by lia,f]
theorem Lx:∀n,bools? (List.replicate n (PyData.bool true))=some (List.replicate n true)
 |0=>rfl
 |n+1=>by rw[q0F,bools?,Lx n];rfl
def YK(b:ds.length<=6)(h:∀d∈ds,dN d.plan/\lq d.late):tq [.dat (ck ds)]=.rt (.dat .none) []:=by
 have sz:1000<sizeLine:=by decide
 have g:=Lw ds [] [none] #[_,rfl] h (by simp;lia);rw[q0r,q1K]at g;have a:pU [.list (List.replicate ds.length (PyData.bool true))]=!.bool true:=by simp[pU,Lx]
 unfold ck;simp[-pU,tq,ID,AZ,IB,g,a,show ¬ (6:Int)<ds.length by lia,show ds.length<=sizeLine by lia]
def YL(a:ns.length<=63)(I:t.length<=700)(C:made.length<100) :
  ∃d t' n o,(dN d.plan/\qG d.plan)/\lq d.late/\t'.length<=t.length+9/\wQ [!.scr ns,!.own true (.l t),!.own false (.l made),x3,x4,x5]=.nx [!.scr ns,!.own true (.l t'),!.own false (.l (made++[cg d])),x3,n,o]:=by
 have sz:1000<sizeLine:=by decide
 let⟨w,f,q⟩:=nC (ns:=ns) (t:=t) (ds:=[.int 30,.int 30,.int 1000]) a 'a' 'd' 'd';have:∃i:Int,w=.int i/\0<i/\i<=1000:=by simp only[q0c,q0z,or_false]at f;rcases f with rfl |rfl |rfl<;>exact#[_,rfl,by lia,by lia]
 let⟨i,rfl,r,D⟩:=this;let⟨c,s,E,g⟩:=fE (ns:=ns) (t:=t++[.int 0]) (many:=i) a (by simp;lia) r;let⟨B,b,h⟩:=nC (ns:=ns) (t:=t++[.int 0]++[.int 0]) (ds:=[.str "all",.str "last",.tuple [.str "within",.int c]]) a (by simp;lia) 'd' 'd';have:∃x:gd,B=fm x/\lq x:=by
  simp only[q0c,q0z,or_false]at b;rcases b with rfl |rfl |rfl
  .exact#[.all,rfl,trivial]
  .exact#[.last,rfl,trivial]
  .exact#[.within c,rfl,s,by lia]
 let⟨x,rfl,hx⟩:=this;let⟨p,j,u,v,m⟩:=XJ (ns:=ns) (t:=t++[.int 0]++[.int 0]++[.int 0]) a (by simp;lia);simp only[q0I,q0t,q0T]at v;let⟨k,G,H,y⟩:=fE (ns:=ns) (t:=j) (many:=2) a 'a' 'a';simp only[q0m,q0U,q0r]at g h m;refine#[#[p,x,decide (k=0)],j++[.int 0],!.dat (.int c),!.dat (fm x),u,hx,by simp;lia,?_];generalize z:gv p=P at *;generalize A:fm x=L at *;have e:cg #[p,x,decide (k=0)]=.tuple [P,L,.bool (decide (k=0))]:=by unfold cg;rw[z,A]
 rw[e];simp[wQ,q,g,h,m,y,kq,show(2:Nat)<=sizeLine by lia,show(3:Nat)<=sizeLine by lia,show made.length<sizeLine by lia]
theorem Lz(g:ns.length<=63):∀n  i {t made}{x3 x4 x5},t.length+9 * n<=700->made.length+n<100->∃(a:List bP) (t':List PyData) (h b c:Option af),(∀d∈a,(dN d.plan/\qG d.plan)/\lq d.late)/\a.length=n/\t'.length<=t.length+9 * n/\
   cz (aw 3) wQ (L3.intsFrom i n) [!.scr ns,!.own true (.l t),!.own false (.l made),x3,x4,x5]=.nx [!.scr ns,!.own true (.l t'),!.own false (.l (made++a.map cg)),h,b,c]
 |0,i,t,made,x3,x4,x5,_,_=>#[[],t,x3,x4,x5,by simp,rfl,by lia,by simp[L3.intsFrom,cz]]
 |n+1,i,t,made,x3,x4,x5,ht,w=>by
  let⟨d,j,b,c,k,m,y,e⟩:=YL (ns:=ns) (t:=t) (made:=made) (x3:=!.dat (.int i)) (x4:=x4) (x5:=x5) g 'a' 'a';let⟨a,o,p,q,r,s,u,z,v⟩:=Lz g n (i+1) (t:=j) (made:=made++[cg d]) (x3:=!.dat (.int i)) (x4:=b) (x5:=c) 'a' (by simp;lia);refine#[d::a,o,p,q,r,λx f=>?_,by simp[u],by lia,?_]
  .rcases q0c.mp f with rfl |f
   .exact#[k,m]
   .exact s x f
  .rw[q0h,show made++cg d::a.map cg=made++[cg d]++a.map cg by simp,<-v,qF,cz];simp[e]
def YM(b:ns.length<=63)(u:t.length<=600):∃(a:List bP) (t':List PyData),(∀d∈a,(dN d.plan/\qG d.plan)/\lq d.late)/\a.length<=6/\t'.length<=t.length+60/\wR [.scr ns,.own true (.l t)]=.rt (.dat (.tuple (a.map cg))) [.l t']:=by
 have sz:1000<sizeLine:=by decide
 let⟨w,c,g⟩:=nC (ns:=ns) (t:=t) (ds:=[.int 5,.int 5,.int 7]) b 'a' 'd' 'd';have:∃i:Int,w=.int i/\0<i/\i<=7:=by simp only[q0c,q0z,or_false]at c;rcases c with rfl |rfl |rfl<;>exact#[_,rfl,by lia,by lia]
 let⟨i,rfl,h,n⟩:=this;let⟨k,o,p,f⟩:=fE (ns:=ns) (t:=t++[.int 0]) (many:=i) b (by simp;lia) h;simp only[q0m,q0U,q0r]at f;let⟨a,j,q,r,s,hd,nd,m,e⟩:=Lz (ns:=ns) b k.toNat 0 (t:=t++[.int 0,.int 0]) (made:=[]) (x3:=none) (x4:=none) (x5:=none) (by simp;lia) (by simp;lia);simp only[q0I,q0t,q0T]at m;refine#[a,j,hd,by lia,by lia,?_];rw[q0r]at e;simp[wR,IE,g,f,e,show -4611686018427387904<=k by lia,show k<4611686018427387904 by lia,show(3:Nat)<=sizeLine by lia]
inductive Cl where
 |take (r m t:Int) |give (r m:Int) |step (r m:Int) |finish (r m:Int)
noncomputable def cj:Cl->PyData
 |.take r m t=>.tuple [.str "take",.int r,.int m,.int t]
 |.give r m=>.tuple [.str "give",.int r,.int m]
 |.step r m=>.tuple [.str "step",.int r,.int m]
 |.finish r m=>.tuple [.str "finish",.int r,.int m]
noncomputable def Cl.ru:Cl->Int
 |.take r _ _=>r
 |.give r _=>r
 |.step r _=>r
 |.finish r _=>r
noncomputable def Cl.mo:Cl->Int
 |.take _ m _=>m
 |.give _ m=>m
 |.step _ m=>m
 |.finish _ m=>m
structure ml (c:Cl) (now:Int):Prop where
 r:0<=c.ru/\c.ru<=3
 m:now<=c.mo/\c.mo<=now+29
 t:∀r m t,c=.take r m t->1<=t/\t<=99
abbrev LA:SM:=(aV (fz (aC (aa fS (xV 3) (xC .none))) (aC (aa gG (aO (aI cX (aN 0 (aN 1 (ao (xC (.int 4)) aG))))) (xC (.int 0))))) (bh (xV 3) (aw 4)) aY)
def YN(n:ns.length<=63)(ht:t.length<=100000)(D:∀h,holder=!h->0<=h/\h<=3) :
  ∃c t',nv [.scr ns,.own true (.l t),.dat (.int now),.dat (cm holder)]=.rt (.dat (cj c)) [.l t']/\ml c now/\t'.length<=t.length+7:=by
 have sz:1000<sizeLine:=by decide
 let⟨o,E,Y,M⟩:=fE (ns:=ns) (t:=t) (many:=4) n 'a' 'a';have first:∃r f,0<=r/\r<=3/\f.length<=t.length+2/\LA [!.scr ns,!.own true (.l (t++[.int 0])),!.dat (.int now),!.dat (cm holder),!.dat (.int o),none,none]=.nx [!.scr ns,!.own true (.l f),!.dat (.int now),!.dat (cm holder),!.dat (.int r),none,none]:=by
  cases holder with
  |none=>exact#[o,t++[.int 0],E,by lia,by simp,by simp[cm]]
  |some h=>
   let⟨k,Z,b2,p⟩:=fE (ns:=ns) (t:=t++[.int 0]) (many:=4) n (by simp;lia) 'a';simp only[q0m,q0U,q0r]at p
   by_cases g:0<k
   .exact#[h,t++[.int 0,.int 0],(D h rfl).1,(D h rfl).2,by simp,by simp[cm,p,g]]
   .exact#[o,t++[.int 0,.int 0],E,by lia,by simp,by simp[cm,p,g]]
 let⟨r,f,G,H,l2,N⟩:=first
 let⟨x,x1,x2,O⟩:=fE (ns:=ns) (t:=f) (many:=30) n 'a' 'a';let⟨v,hv,I⟩:=nC (ns:=ns) (t:=f++[.int 0]) (ds:=[.int 0,.int 0,.int 0,.int 1,.int 2,.int x]) n (by simp;lia) 'd' 'd';have:∃i:Int,v=.int i/\0<=i/\i<=29:=by simp only[q0c,q0z,or_false]at hv;rcases hv with rfl |rfl |rfl |rfl |rfl |rfl<;>exact#[_,rfl,by lia,by lia]
 let⟨i,rfl,i0,i1⟩:=this;let⟨k,k0,k1,J⟩:=fE (ns:=ns) (t:=f++[.int 0]++[.int 0]) (many:=10) n (by simp;lia) 'a';simp only[q0m,q0U,q0r]at I J;have pre:∀{q:SM},(ak (bh (aO (aI cX (aN 0 (aN 1 (ao (xC (.int 4)) aG))))) (aw 4)) (ak LA (ak (bh (aa cL (xV 2) (aO (aI jF (aN 0 (aN 1 (ao (dj (aj (xC (.int 0)) (aj (xC (.int 0)) (aj (xC (.int 0)) (aj (xC (.int 1)) (aj (xC (.int 2)) (aj (aO (aI cX (aN 0 (aN 1 (ao (xC (.int 30)) aG))))) aE))))))) aG)))))) (aw 5)) (ak (bh (aO (aI cX (aN 0 (aN 1 (ao (xC (.int 10)) aG))))) (aw 6)) q))))
   [!.scr ns,!.own true (.l t),!.dat (.int now),!.dat (cm holder),none,none,none]=q [!.scr ns,!.own true (.l (f++[.int 0,.int 0,.int 0])),!.dat (.int now),!.dat (cm holder),!.dat (.int r),!.dat (.int (now+i)),!.dat (.int k)]:=by
  intro q;refine(bp (by simp[M]<;>rfl)).trans ?_;refine(bp N).trans ?_;refine(bp (by simp[O,I,show(6:Nat)<=sizeLine by lia]<;>rfl)).trans ?_;exact bp (by simp[J])
 by_cases g:holder=none\/k<2
 .let⟨w,L,s⟩:=nC (ns:=ns) (t:=f++[.int 0,.int 0,.int 0]) (ds:=[.int 4,.int 99]) n (by simp;lia) 'd' 'd';have:∃j:Int,w=.int j/\0<j/\j<=99:=by simp only[q0c,q0z,or_false]at L;rcases L with rfl |rfl<;>exact#[_,rfl,by lia,by lia]
  let⟨j,rfl,Q,j1⟩:=this;let⟨y,y0,y1,u⟩:=fE (ns:=ns) (t:=f++[.int 0,.int 0,.int 0]++[.int 0]) (many:=j) n (by simp;lia) Q;simp only[q0m,q0U,q0r]at s u;refine#[.take r (now+i) (1+y),f++[.int 0,.int 0,.int 0,.int 0,.int 0],?_,#[#[G,H],#[by show now<=now+i;lia,by show now+i<=_;lia],λ_ _ _ e=>by cases e;lia],by simp;lia];refine ku (U:=[!.scr ns,!.own true (.l (f++[.int 0,.int 0,.int 0,.int 0,.int 0])),!.dat (.int now),!.dat (cm holder),!.dat (.int r),!.dat (.int (now+i)),!.dat (.int k)]) rfl (pre.trans ?_) rfl;rcases g with rfl |g
  .simp[cm,s,u,cj,show(2:Nat)<=sizeLine by lia,show(4:Nat)<=sizeLine by lia]
  .cases holder<;>simp[cm,s,u,g,cj,show(2:Nat)<=sizeLine by lia,show(4:Nat)<=sizeLine by lia]
 .obtain⟨h,rfl⟩:∃h,holder=!h:=by cases holder with
   |none=>exact absurd (.inl rfl) g
   |some h=>exact#[h,rfl]
  have k2:¬ k<2:=λz=>g (.inr z);have ok:∀c:Cl,c.ru=r->c.mo=now+i->(∀r m t,c≠.take r m t)->ml c now:=λc A B C=>#[by rw[A];exact#[G,H],by rw[B];lia,λa b d e=>absurd e (C a b d)]
  by_cases B:k=2
  .subst B;refine#[.give r (now+i),f++[.int 0,.int 0,.int 0],?_,ok _ rfl rfl 'd',by simp;lia];refine ku (U:=[!.scr ns,!.own true (.l (f++[.int 0,.int 0,.int 0])),!.dat (.int now),!.dat (cm (!h)),!.dat (.int r),!.dat (.int (now+i)),!.dat (.int 2)]) rfl (pre.trans ?_) rfl;simp[cm,kq,cj,show(3:Nat)<=sizeLine by lia]
  .have R:(k=3\/k=5\/k=7\/k=9)\/k=4\/k=6\/k=8:=by lia
   have mk:∀c:Cl,c.ru=r->c.mo=now+i->(∀r m t,c≠.take r m t)->nv [.scr ns,.own true (.l t),.dat (.int now),.dat (cm (!h))]=.rt (.dat (cj c)) [.l (f++[.int 0,.int 0,.int 0])]->∃c t',nv [.scr ns,.own true (.l t),.dat (.int now),.dat (cm (!h))]=.rt (.dat (cj c)) [.l t']/\ml c now/\t'.length<=t.length+7:=λc A C S T=>#[c,_,T,ok c A C S,by simp;lia]
   have s3:(3:Nat)<=sizeLine:=by lia
   have s8:(8:Nat)<=sizeLine:=by lia
   have run:∀{c:Cl},_->nv [.scr ns,.own true (.l t),.dat (.int now),.dat (cm (!h))]=.rt (.dat (cj c)) [.l (f++[.int 0,.int 0,.int 0])]:=λX=>ku (U:=[!.scr ns,!.own true (.l (f++[.int 0,.int 0,.int 0])),!.dat (.int now),!.dat (cm (!h)),!.dat (.int r),!.dat (.int (now+i)),!.dat (.int k)]) rfl (pre.trans X) rfl;rcases R with(rfl |rfl |rfl |rfl) |rfl |rfl |rfl
   iterate 4 exact mk (.step r (now+i)) rfl rfl 'd' (run 'k')
   all_goals exact mk (.finish r (now+i)) rfl rfl 'd' (run 'k')
def cY(S:Hl):Hl:=S.rows.foldl er (ek S.a S.ss S.ds)
structure gL (S:Hl) (m:Int) (n:Nat):Prop where
 ok:bL S
 lt:∀d∈S.ds,lq d.late
 rl:S.rows.length<=n
 wl:S.words.length<=n
 ho:∀h,S.holder=!h->0<=h/\h<=3
 la:∀l,S.last=!l->l<=m
 ti:S.til<=m+99
 dr:∀x∈S.rows,x.dd<S.ds.length
 w1:(cY S).words=S.words
 w2:(cY S).settled=S.settled
def bL.add(ok:bL S)(h:r.dd<S.ds.length):bL (er S r):=by
 refine#[ok.z,ok.dl,ok.pl,?_,Ld ok.nd,?_]
 .show(if r.wd=.begun then S.settled else S.settled.set r.dd (r.ct+1)).length=S.ds.length;split
  .exact ok.sl
  .rw[q0u];exact ok.sl
 .intro d c k e;have a:(if r.wd=.begun then some (r.dd,r.ct,S.holds) else none)=!(d,c,k):=e;split at a
  .cases a;exact h
  .cases a
theorem gL.add(p:gL S m n)(h:r.dd<S.ds.length):gL (er S r) m (n+1):=by
 have c:cY (er S r)=er (cY S) r:=by show(S.rows++[r]).foldl er (ek S.a S.ss S.ds)=_;rw[List.foldl_append];rfl
 refine#[p.ok.add h,p.lt,?_,?_,p.ho,p.la,p.ti,?_,?_,?_]
 .have:=p.rl;show(S.rows++[r]).length<=n+1;simp;lia
 .have:=p.wl;have:=Lf (r.dd,r.ct) r.wd S.words;show(fL S.words (r.dd,r.ct) r.wd).length<=n+1;lia
 .intro x b;rcases q0b.mp b with b |b
  .exact p.dr x b
  .rw[q0l.mp b];exact h
 .rw[c];show fL (cY S).words _ _=fL S.words _ _;rw[p.w1]
 .rw[c];show(if r.wd=.begun then(cY S).settled else(cY S).settled.set r.dd (r.ct+1))=(if r.wd=.begun then S.settled else S.settled.set r.dd (r.ct+1));rw[p.w2]
def gL.mono(p:gL S m n)(h:m<=a)(c:n<=b):gL S a b:=
 #[p.ok,p.lt,q0C p.rl c,q0C p.wl c,p.ho,λl e=>q1Y (p.la l e) h,by have:=p.ti;lia,p.dr,p.w1,p.w2]
theorem gL.last(p:gL S m n)(h:m<=a):gL { S with last:=!a } a n:=
 #[p.ok.last _,p.lt,p.rl,p.wl,p.ho,λl e=>by cases e;lia,by have:=p.ti;show S.til<=_;lia,p.dr,p.w1,p.w2]
def gL.hold(p:gL S m n)(h:m<=a)(b:∀h,w=!h->0<=h/\h<=3)(c:u<=a+99):gL { S with last:=!a,holder:=w,til:=u,holds:=k } a n:=
 #[#[p.ok.z,p.ok.dl,p.ok.pl,p.ok.sl,p.ok.nd,p.ok.bg],p.lt,p.rl,p.wl,b,λl e=>by cases e;lia,c,p.dr,p.w1,p.w2]
def YO(z:eG a f)(g:b.length<=6)(hd:∀d∈b,pk d.plan/\lq d.late):gL (ek a f b) 0 0:=
 #[#[z,g,λd h=>(hd d h).1,by simp[ek],by simp[ek],λd c h e=>(by cases e)],λd h=>(hd d h).2,by simp[ek],by simp[ek],λh e=>(by cases e),λl e=>(by cases e),by simp[ek],by simp[ek],rfl,rfl]
def gL.call(p:gL S m n)(c:0<=r/\r<=3)(h:m<=a)(d:0<=a/\a<=9999):fZ C [.own true (hB C S),.dat (.int r),.dat (.int a)]=.rt (.dat .none) [hB C S]:=
 XX rfl (by simp[cT];lia) (by simp[cT];lia) (by
  cases b:S.last with
  |none=>unfold pd;rw[b]
  |some l=>
   have:=p.la l b;unfold pd;rw[b];exact decide_eq_false 'a')
@[irreducible]noncomputable def aQ(D R:PyData)(a:List PyData)(b c e hold f:PyData)(log:List PyData):List (Str×Fl):=[("deeds",.d D),("rows",.d R),("at",.l a),("now",.d b),("who",.d c),("until",.d e),("hold",.d hold),("on",.d f),("log",.l log)]
def tS:List.lookup ("deeds":Str) (aQ D R ats now who til hold on log)=!.d D:=by unfold aQ;kernel_rfl
def xE:List.lookup ("rows":Str) (aQ D R ats now who til hold on log)=!.d R:=by kernel_rfl
def pu:List.lookup ("at":Str) (aQ D R ats now who til hold on log)=!.l ats:=by unfold aQ;kernel_rfl
def nH:List.lookup ("now":Str) (aQ D R ats now who til hold on log)=!.d now:=by unfold aQ;kernel_rfl
def px:List.lookup ("who":Str) (aQ D R ats now who til hold on log)=!.d who:=by unfold aQ;kernel_rfl
def LB:List.lookup ("until":Str) (aQ D R ats now who til hold on log)=!.d til:=by unfold aQ;kernel_rfl
def mq:List.lookup ("hold":Str) (aQ D R ats now who til hold on log)=!.d hold:=by unfold aQ;kernel_rfl
def jn:List.lookup ("on":Str) (aQ D R ats now who til hold on log)=!.d on:=by unfold aQ;kernel_rfl
def BQ:List.lookup ("log":Str) (aQ D R ats now who til hold on log)=!.l log:=by kernel_rfl
def YP:bi ("at":Str) (.l l2) (aQ D R ats now who til hold on log)=aQ D R l2 now who til hold on log:=by unfold aQ;kernel_rfl
def YQ:bi ("now":Str) (.d x) (aQ D R ats now who til hold on log)=aQ D R ats x who til hold on log:=by unfold aQ;kernel_rfl
def YR:bi ("who":Str) (.d x) (aQ D R ats now who til hold on log)=aQ D R ats now x til hold on log:=by unfold aQ;kernel_rfl
def YS:bi ("hold":Str) (.d x) (aQ D R ats now who til hold on log)=aQ D R ats now who til x on log:=by unfold aQ;kernel_rfl
def xF:bi ("on":Str) (.d x) (aQ D R ats now who til hold on log)=aQ D R ats now who til hold x log:=by unfold aQ;kernel_rfl
def YT:bi ("log":Str) (.l l2) (aQ D R ats now who til hold on log)=aQ D R ats now who til hold on l2:=by unfold aQ;kernel_rfl
def YV:oM (aQ D R ats now who til hold on log) [("who",.d x),("until",.d y)]=aQ D R ats now x y hold on log:=by kernel_rfl
def YW:oN (aQ D R ats now who til hold on log) [("who",.d x),("until",.d y)]=true:=by unfold aQ;kernel_rfl
def nI:((aQ D R ats now who til hold on log).map (·.1)).Nodup:=by unfold aQ;show(["deeds","rows","at","now","who","until","hold","on","log"]:List Str).Nodup;decide +kernel
def nJ:(aQ D R ats now who til hold on log).length=9:=by unfold aQ;rfl
def dg(h:U[i]? = !!.own io (.sd fs))(a:fs.lookup k=!.d d):xQ (ba i k) U=.ok d U:=by unfold xQ ba kP;rw[h];simp only[a];rfl
def tT(h:U[i]? = !!.own io (.sd fs))(a:g U=!.int n)(b:fs.lookup k=!.l ds)(c:bT ds n=!d):xQ (iq i k g) U=.ok d U:=by unfold xQ iq kP;rw[h,a];simp only[b];rw[c];rfl
def YX(h:U[i]? = !!.own io (.sd fs))(a:fs.lookup k=!.d b)(e:(fs.map (·.1)).Nodup)(c:fs.length<1000):so i k d U=.nx (U.set i (!.own io (.sd (bi k (.d d) fs)))):=by unfold so eu;rw[h];simp only;rw[if_pos #[e,by rw[a];rfl,by rw[a];rfl,c]]
def YY(h:U[i]? = !!.own io (.sd fs))(a:g U=!.int n)(b:fs.lookup k=!.l ds)(c:dR ds.length n=!j):sr i k g v U=.nx (U.set i (!.own io (.sd (bi k (.l (ds.set j v)) fs)))):=by unfold sr eu;simp_all
def YZ(h:U[i]? = !!.own io (.sd fs))(a:g U=!d)(b:fs.lookup k=!.l ds)(c:ds.length<sizeLine):sE i k g U=.nx (U.set i (!.own io (.sd (bi k (.l (ds++[d])) fs)))):=by unfold sE eu;rw[h,a];simp only[b];rw[if_pos c]
def tU(b:m U=.ok d U)(h:U[i]? = !!.own io (.sd fs))(c:fs.lookup k=!.d a)(f:(fs.map (·.1)).Nodup)(e:fs.length<1000):gq i k m U=.nx (U.set i (!.own io (.sd (bi k (.d d) fs)))):=by unfold gq;rw[b];exact YX h c f e
def Za(a:m U=.ok v U)(h:U[i]? = !!.own io (.sd fs))(b:g U=!.int n)(c:fs.lookup k=!.l ds)(e:dR ds.length n=!j):su i k g m U=.nx (U.set i (!.own io (.sd (bi k (.l (ds.set j v)) fs)))):=by unfold su;rw[a];exact YY h b c e
def xG(h:k<l):dR l (k:Int)=!k:=by unfold dR;rw[if_pos 'a',if_pos 'a'];simp
def tV{a:List Nat}{d :Nat}(h:a[d]? = !c):bT (a.map ai) (d:Int)=!ai c:=by have hd:d<a.length:=(q0a.mp h).1;unfold bT;rw[q0d,xG hd];simp[h]
def Zb(a):av true (.str (df a)) (.str "begun")=!.bool (decide (a≠.begun)):=by rw[YH (by cases a<;>decide +kernel) nF];cases a<;>kernel_rfl
def iw(h:T U=.ok true b):aV T a aY U=a b:=by simp[h]
def gw(h:T U=.ok false b):aV T a aY U=.nx b:=by simp[aV,h]
def jo(h:m U=.rt c a):ak m k U=.rt c a:=by simp[h]
def Zc(a:A U=.ok x U)(c:B U=.ok y U)(d:av n x y=!.bool b):aC (aa (av n) A B) U=.ok b U:=by simp[a,c,d]
def Zd{a:List Nat}(hd:a[d]? = !c)(C:rows.length<1000) :
  iu [.own true (.sd (aQ D R (a.map ai) (.int mo) f k hold l (rows.map ej))),.dat (.int r),.dat (.str (df wd)),.dat (ai d)]=.rt (.dat (.tuple [.str (df wd),ai d,ai c])) [.sd (aQ D R ((if wd=.begun then a else a.set d (c+1)).map ai) (.int mo) f k hold l ((rows++[dG.mk mo r wd d c]).map ej))]:=by
 have sz:1000<sizeLine:=by decide
 have m:d<a.length:=(q0a.mp hd).1;have p:=tV hd;have s:=Zb wd;have t:(rows++[dG.mk mo r wd d c]).map ej=rows.map ej++[.tuple [.int mo,.int r,.str (df wd),ai d,ai c]]:=by simp
 have ll:(rows.map ej).length<sizeLine:=by rw[q0d];lia
 rw[t];generalize rows.map ej=L at *;have body:∀(w:Str) (b:Bool),av true (.str w) (.str "begun")=!.bool b->AK [!.own true (.sd (aQ D R (a.map ai) (.int mo) f k hold l L)),!.dat (.int r),!.dat (.str w),!.dat (ai d),none]=.rt (.dat (.tuple [.str w,ai d,ai c])) [!.own true (.sd (aQ D R (if b=true then(a.map ai).set d (ai (c+1)) else a.map ai) (.int mo) f k hold l (L++[.tuple [.int mo,.int r,.str w,ai d,ai c]]))),!.dat (.int r),!.dat (.str w),!.dat (ai d),!.dat (ai c)]:=λw b u=>by
  unfold AK;have x:bh (xQ (iq 0 "at" (fB 3))) (aw 4) [!.own true (.sd (aQ D R (a.map ai) (.int mo) f k hold l L)),!.dat (.int r),!.dat (.str w),!.dat (ai d),none]=.nx [!.own true (.sd (aQ D R (a.map ai) (.int mo) f k hold l L)),!.dat (.int r),!.dat (.str w),!.dat (ai d),!.dat (ai c)]:=by have q:=tT (U:=[!.own true (.sd (aQ D R (a.map ai) (.int mo) f k hold l L)),!.dat (.int r),!.dat (.str w),!.dat (ai d),none]) (g:=fB 3) (i:=0) rfl rfl pu p;simp[q]
  rw[bp x,bp (YZ rfl (by
   unfold vX L3.gCons L3.gNil ba kP fB en;simp[nH,show(5:Nat)<=sizeLine by lia];rfl) BQ ll),YT]
  simp only[q0N];have y:aV (aC (aa (av true) (xV 2) (xC (.str "begun")))) (su 0 "at" (fB 3) (aa cL (xV 4) (xC (.int 1)))) aY [!.own true (.sd (aQ D R (a.map ai) (.int mo) f k hold l (L++[.tuple [.int mo,.int r,.str w,ai d,ai c]]))),!.dat (.int r),!.dat (.str w),!.dat (ai d),!.dat (ai c)]=.nx [!.own true (.sd (aQ D R (if b=true then(a.map ai).set d (ai (c+1)) else a.map ai) (.int mo) f k hold l (L++[.tuple [.int mo,.int r,.str w,ai d,ai c]]))),!.dat (.int r),!.dat (.str w),!.dat (ai d),!.dat (ai c)]:=by
   have o:aC (aa (av true) (xV 2) (xC (.str "begun"))) [!.own true (.sd (aQ D R (a.map ai) (.int mo) f k hold l (L++[.tuple [.int mo,.int r,.str w,ai d,ai c]]))),!.dat (.int r),!.dat (.str w),!.dat (ai d),!.dat (ai c)]=.ok b [!.own true (.sd (aQ D R (a.map ai) (.int mo) f k hold l (L++[.tuple [.int mo,.int r,.str w,ai d,ai c]]))),!.dat (.int r),!.dat (.str w),!.dat (ai d),!.dat (ai c)]:=Zc rfl rfl u;cases b with
   |false=>rw[gw o];rfl
   |true=>rw[iw o,Za (v:=ai (c+1)) (n:=d) (j:=d) 'd' rfl rfl pu (by rw[q0d];exact xG m),YP];rfl
  rw[bp y];simp[show(3:Nat)<=sizeLine by lia]
 have e:=body _ _ s;have z:(if decide (wd≠.begun)=true then(a.map ai).set d (ai (c+1)) else a.map ai)=(if wd=.begun then a else a.set d (c+1)).map ai:=by
  by_cases h:wd=.begun
  .simp[h]
  .simp[h]
 rw[z]at e;generalize A:aQ D R (a.map ai) (.int mo) f k hold l L=E at *;generalize B:aQ D R ((if wd=.begun then a else a.set d (c+1)).map ai) (.int mo) f k hold l (L++[.tuple [.int mo,.int r,.str (df wd),ai d,ai c]])=M2 at *;generalize df wd=w at *;unfold iu;simp[bf,e]
def BR(z:eG a b)(c k):ei a b h (c+k)<=ei a b h c+24 * k+26:=by
 let⟨f,d,_⟩:=kQ (g:=(fK a b h+c) * 24+h) (a:=a) z.rise;let⟨_,_,e⟩:=kQ (g:=(fK a b h+((c+k:Nat):Int)) * 24+h) (a:=a) z.rise;have ah:=λm=>ql (m:=m) z.ah;unfold ei;generalize gu ((fK a b h+c) * 24+h) 0 a b=u at *;generalize gu ((fK a b h+((c+k:Nat):Int)) * 24+h) 0 a b=w at *
 by_cases q:w<=u+24 * k+26
 .exact q
 .have:=e (u+24 * k+26) 'a' 'a';have i:=ah u;have j:=ah (u+24 * k+26);unfold cW at d this;lia
def LC(z:eG a b):ei a b h 0<=50:=by
 let⟨_,_,c⟩:=kQ (g:=(fK a b h+((0:Nat):Int)) * 24+h) (a:=a) z.rise;have fd:=we (a:=a) (h:=h) (ss:=b);have ah:=λm=>ql (m:=m) z.ah;unfold ei;generalize gu ((fK a b h+((0:Nat):Int)) * 24+h) 0 a b=w at *
 by_cases q:w<=50
 .exact q
 .have:=c 50 'a' 'a';have d:=ah 0;have e:=ah 50;unfold cW at fd this;lia
def nK(a:Int)(b:Sh)(p:aU)(c:Nat)(m:Int):Prop:=c=0\/∃u,bE a b p (c - 1)=!u/\u<=m
def Ze(z:eG a k)(ok:dN p)(l:qG p)(h:nK a k p c 1740)(t:j<=2)(b:bE a k p (c+j)=!v):v<=4500:=by
 cases p with
 |once m=>
  rw[bE]at b;have:m<=2500:=l
  by_cases e:c+j=0
  .rw[if_pos e]at b;cases b;lia
  .rw[if_neg e]at b;cases b
 |every f s=>
  rw[bE]at b;cases b;have w:f<=50:=l;have hs:=ok.2;have n:((c+j:Nat):Int) * s=c * s+j * s:=by rw[Int.natCast_add,Int.add_mul]
  have x:(j:Int) * s<=2 * s:=q03 'a' 'a';rw[n];rcases h with h |⟨u,d,o⟩
  .subst h;simp;lia
  .rw[bE]at d;cases d
   by_cases y:c<=2
   .have:(c:Int) * s<=2 * s:=q03 'a' 'a';lia
   .have A:(2:Int) * s<=((c - 1:Nat):Int) * s:=q03 'a' 'a';have B:(c:Int) * s=((c - 1:Nat):Int) * s+s:=by
     have:(c:Int)=((c - 1:Nat):Int)+1:=by lia
     rw[this,Int.add_mul];simp
    have:=ok.1.1;lia
 |daily g=>
  rw[bE]at b;cases b;rcases h with h |⟨u,d,o⟩
  .subst h;have i:=BR (h:=g) z 0 j;have q:=LC (h:=g) z;lia
  .rw[bE]at d;cases d
   by_cases r:c=0
   .subst r;have i:=BR (h:=g) z 0 j;have q:=LC (h:=g) z;lia
   .have i:=BR (h:=g) z (c - 1) (1+j);rw[show c - 1+(1+j)=c+j by lia]at i;lia
abbrev gM(a:Int)(b:Sh)(p:aU)(n c:Nat):List Int:=(bX a b p n).drop c
def LD(h:c<n):gM a b p n c=nj a b p c::gM a b p n (c+1):=by unfold gM;rw[q0E (by simp[bX];exact h)];simp[bX]
def tW(h:n<=c):gM a b p n c=[]:=q1l (by simp[bX];exact h)
def BS(z:eG a ss)(ok:dN p)(u:bV a ss p 4500 n)(b:bE a ss p c=!v)(h:v<=4500):c<n:=by
 rcases q1r c n with q |q
 .exact q
 .have:=lU z ok u q b;lia
def xH(b:bE a ss p c=!v):nj a ss p c=v:=by unfold nj;rw[b];rfl
def LF(z:eG a ss)(ok:dN p)(u:bV a ss p 4500 n)(b:bE a ss p c=!v)(h:v<=4500):gM a ss p n c=v::gM a ss p n (c+1):=by rw[LD (BS z ok u b h),xH b]
def LG(u:bV a ss p 4500 n)(d:bE a ss p c=none):gM a ss p n c=[]:=by
 apply tW;rcases q1r c n with q |q
 .let⟨w,b,_⟩:=u.in_ c q;lia
 .exact q
def Zf(z:eG a ss)(ok:dN p)(u:bV a ss p 4500 n)(e:c<n)(f:b<=4500):(match bE a ss p (c+1) with |some w=>decide (w<=b) |none=>false)=match gM a ss p n (c+1) with |w::_=>decide (w<=b) |[]=>false:=by
 cases ht:bE a ss p (c+1) with
 |none=>rw[LG u ht]
 |some w=>
  simp only
  by_cases q:w<=4500
  .rw[LF z ok u ht q]
  .have:decide (w<=b)=false:=decide_eq_false 'a';rw[this];rcases q1r (c+1) n with q2 |q2
   .let⟨g,d,h⟩:=u.in_ _ q2;lia
   .rw[tW q2]
noncomputable def fF:Nat->List (List Int)->List (List Int)
 |_,[]=>[]
 |k,[]::r=>fF (k+1) r
 |k,(v::_)::r=>[v,(k:Int)]::fF (k+1) r
theorem pz:∀{lf k x},x∈fF k lf↔∃d v t,lf[d]? = !v::t/\x=[v,((k+d:Nat):Int)]
 |[],k,x=>by simp[fF]
 |[]::r,k,x=>by
  rw[fF,pz];constructor
  .rintro⟨d,v,t,a,b⟩;exact#[d+1,v,t,by simpa using a,by rw[b];congr 3;lia]
  .rintro⟨d,v,t,a,b⟩;cases d with
   |zero=>simp at a
   |succ d=>exact#[d,v,t,by simpa using a,by rw[b];congr 3;lia]
 | (w::q)::r,k,x=>by
  rw[fF,q0c,pz];constructor
  .rintro(h |⟨d,v,t,a,b⟩)
   .exact⟨0,w,q,rfl,by rw[h];rfl⟩
   .exact#[d+1,v,t,by simpa using a,by rw[b];congr 3;lia]
  .rintro⟨d,v,t,a,b⟩;cases d with
   |zero=>simp at a;left;rw[b,a.1];rfl
   |succ d=>exact .inr #[d,v,t,by simpa using a,by rw[b];congr 3;lia]
theorem xI:∀lf  k,(fF k lf).length<=lf.length
 |[],k=>bu _
 |[]::r,k=>by rw[fF];have:=xI r (k+1);simp;lia
 |(v::_)::r,k=>by rw[fF];have:=xI r (k+1);simp;lia
def tY(h:TS.lexLe [v,k,c] [w,j,e]=true):TS.lexLe [v,k] [w,j]=true:=by
 unfold TS.lexLe at *;rw[HT.lexLt_cons]at h ⊢
 by_cases q:w=v
 .rw[if_pos q]at h ⊢;rw[HT.lexLt_cons]at h ⊢
  by_cases q2:j=k
  .rw[if_pos q2];rfl
  .rw[if_neg q2]at h ⊢;exact h
 .rw[if_neg q]at h ⊢;exact h
def Zh(a:TS.lexLe [v,k] [w,j]=true)(b:TS.lexLe [w,j] [v,k]=true):v=w/\k=j:=by
 unfold TS.lexLe at *;rw[HT.lexLt_cons]at a b
 by_cases q:v=w
 .subst q;rw[if_pos rfl,HT.lexLt_cons]at a b
  by_cases q2:k=j
  .exact#[rfl,q2]
  .rw[if_neg (Ne.symm q2)]at a;rw[if_neg q2]at b;simp at a b;lia
 .rw[if_neg (Ne.symm q)]at a;rw[if_neg q]at b;simp at a b;lia
def Zi(a:[v,k]∈L)(b:∀x∈L,∃w j,x=[w,j])(c:∀x∈L,TS.lexLe [v,k] x=true):∃t,TS.sortR L=[v,k]::t:=by
 have pm:=TS.sortR_perm L;have pw:(TS.sortR L).Pairwise (λx y=>TS.lexLe x y=true):=q1h TS.lexLe_tr TS.lexLe_tt _;cases hs:TS.sortR L with
 |nil=>simp_all
 |cons x t=>
  rw[hs]at pm pw;have hx:=pm.mem_iff.mp q0g;let⟨w,j,rfl⟩:=b x hx;rcases q0c.mp (pm.mem_iff.mpr a) with e |e
  .exact#[t,by rw[e]]
  .let⟨rfl,rfl⟩:=Zh (c _ hx) ((List.pairwise_cons.mp pw).1 _ e);exact#[t,rfl]
def nL:Option (Nat×Nat×Int)->PyData
 |none=>.none
 |some (d,_,h)=>.tuple [ai d,.int h]
abbrev bN(R:PyData)(S:Hl):List (Str×Fl):=aQ (ck S.ds) R (S.settled.map ai) (.int (S.last.getD (-1))) (cm S.holder) (.int S.til) (.int S.holds) (nL S.begun) (S.rows.map ej)
noncomputable abbrev iL(l:List Int):PyData:=.list (l.map PyData.int)
abbrev bx(L:List (List Int)):PyData:=.list (L.map iL)
abbrev bF(un:aU->Nat)(S:Hl):List (List Int):=S.ds.map λd=>bX S.a S.ss d.plan (un d.plan)
def fo(un:aU->Nat)(S:Hl):List (List Int):=List.zipWith (λd c=>gM S.a S.ss d.plan (un d.plan) c) S.ds S.settled
def xJ(ok:bL S):(fo un S).length=S.ds.length:=by unfold fo;rw[List.length_zipWith,ok.sl,Nat.min_self]
def mr(ok:bL S)(a:k<S.ds.length):S.settled[k]? = !bI S k:=by have:=ok.sl;unfold bI;simp_all
def BT(ok:bL S)(b):(fo un S)[k]? = !gM S.a S.ss (S.ds[k]).plan (un (S.ds[k]).plan) (bI S k):=by unfold fo;rw[List.getElem?_zipWith,q0j b,mr ok b]
def LH(l)(c:Nat):ip (iL l) (!(c:Int)) none=!iL (l.drop c):=by
 show some (PyData.list (L3.cutD ..))=_;unfold L3.cutD;rw[(HT.sIx_nat _ _ c),q0d,show HT.sIx l.length l.length none=l.length from rfl]
 congr 2
 rw[List.map_drop,q1O 'd'];simp_all
def BU{k:Nat}(h:L[k]? = !l):au (bx L) (.int k)=!iL l:=by show bT (L.map iL) k=_;unfold bT;rw[q0d,xG ((q0a.mp h).1)];simp[h]
def Zj(e:g d U=!b)(f:m b=.ok y c)(h:a.length<sizeLine):gX g dL m (d::r) a U=gX g dL m r (a++[y]) c:=by rw[gX,e];simp only[dL,f];rw[if_pos h]
def Zk(ok:bL S)(c:M.lookup ("rows":Str)=!.d (bx (bF un S)))(e:M.lookup ("at":Str)=!.l (S.settled.map ai))(b:k<S.ds.length):sS [!.dat (.int k),!.own true (.sd M)]=.ok (iL (gM S.a S.ss (S.ds[k]).plan (un (S.ds[k]).plan) (bI S k))) [!.dat (.int k),!.own true (.sd M)]:=by have q1:=dg (U:=[!.dat (.int k),!.own true (.sd M)]) (i:=1) rfl c;have q2:=tT (U:=[!.dat (.int k),!.own true (.sd M)]) (i:=1) (g:=fB 0) rfl rfl e (tV (mr ok b));have x:=BU (L:=bF un S) (k:=k) (l:=bX S.a S.ss (S.ds[k]).plan (un (S.ds[k]).plan)) (by simp[b]);have sl:=LH (bX S.a S.ss (S.ds[k]).plan (un (S.ds[k]).plan)) (bI S k);generalize bx (bF un S)=f at *;generalize iL (bX S.a S.ss (S.ds[k]).plan (un (S.ds[k]).plan))=T at *;generalize iL ((bX S.a S.ss (S.ds[k]).plan (un (S.ds[k]).plan)).drop (bI S k))=h at *;unfold sS;simp_all
theorem LI(ok:bL S)(g:M.lookup ("rows":Str)=!.d (bx (bF un S)))(h:M.lookup ("at":Str)=!.l (S.settled.map ai)):∀q k  b  x,k+q=S.ds.length->b.length+q<1000->∃y,gX (aw 0) dL sS (L3.intsFrom k q) b [x,!.own true (.sd M)]=some (b++((fo un S).drop k).map iL,[y,!.own true (.sd M)])
 |0,k,b,x,i,_=>#[x,by
  have:=xJ (un:=un) ok;rw[q1l 'a'];simp[L3.intsFrom,gX]]
 |q+1,k,b,x,i,n=>by
  have sz:1000<sizeLine:=by decide
  have c:k<S.ds.length:=by lia
  have e:=Zk ok g h c;let⟨f,j⟩:=q0a.mp (BT (un:=un) ok c);let⟨y,m⟩:=LI ok g h q (k+1) (b++[iL (gM S.a S.ss (S.ds[k]).plan (un (S.ds[k]).plan) (bI S k))]) (!.dat (.int k)) 'a' (by simp;lia);refine#[y,?_];rw[qF,Zj (by simp[aw]) e 'a',show(k+1)=((k+1:Nat):Int) by lia,m,q0E f,j];simp
noncomputable abbrev bz(M:List (Str×Fl))(r m:Int)(a b c d e:Option af):ag:=[!.own true (.sd M),!.dat (.int r),!.dat (.int m),a,b,c,d,e]
abbrev tZ:SM:=(aV (fz (aC (aa fS (xQ (ba 0 "on")) (xC .none))) (aC (aa (av false) (aa au (xQ (ba 0 "on")) (xC (.int 1))) (xQ (ba 0 "hold"))))) (bc (cc (aj (xC (.str "busy")) (aj (aa au (xQ (ba 0 "on")) (xC (.int 0))) (aj (xQ (iq 0 "at" (sk (ba 0 "on") (si (.int 0))))) aE))))) aY)
abbrev nt(w:Str):SM:=(dD (aI iu (aN 0 (ao (xV 1) (ao (xC (.str w)) (ao (xV 3) aG))))))
abbrev xK:SM:=(aV (aC (aa fS (xQ (ba 0 "on")) (xC .none))) (ak (bh (aa au (xQ (ba 0 "on")) (xC (.int 0))) (aw 3))
  (ak (gq 0 "on" (xC .none))
  (ak (aV (ee (aC (aa au (aa au (xQ (ba 0 "deeds")) (xV 3)) (xC (.int 2))))) (nt "unsure") aY)
  (ak (gq 0 "on" (cc (aj (xV 3) (aj (xQ (ba 0 "hold")) aE))))
  (nt "begun"))))) aY)
abbrev BV:SM:=(bh (kj 1 [0] 0 0 (eO dk (aj (cn cK (aj (xQ (ba 0 "deeds")) aE)) aE)) (aw 0) dL sS) (aw 4))
abbrev xL:SM:=(bh (cn oI (aj (iK 2 [] (eO fX (aj (xV 4) aE)) (dB 2 (bC (aw 0) (bC (aw 1) dJ))) kR oQ) aE)) (aw 5))
abbrev ua:SM:=(aV (fg (aC (aa (av false) (xV 5) (dj aE))) (aC (aa gG (aa au (aa au (xV 5) (xC (.int 0))) (xC (.int 0))) (xV 2)))) (bc (cc (aj (xC (.str "idle")) (aj (aa au (aa au (aa lG (xV 5) (dj (aj (cc (aj (xC .none) (aj (xC .none) aE))) aE))) (xC (.int 0))) (xC (.int 0))) aE)))) aY)
abbrev BW:SM:=(bh (aa au (aa au (xV 5) (xC (.int 0))) (xC (.int 1))) (aw 3))
abbrev BX:SM:=(bh (aa au (aa au (xQ (ba 0 "deeds")) (xV 3)) (xC (.int 1))) (aw 6))
abbrev BY:SM:=(bh (fy (aa (av false) (xV 6) (xC (.str "last"))) (fy (aa gG (cn cK (aj (aa au (xV 4) (xV 3)) aE)) (xC (.int 1))) (aa im (aa au (aa au (xV 4) (xV 3)) (xC (.int 1))) (xV 2)))) (aw 7))
abbrev BZ:SM:=(aV (aC (kb "tuple" (xV 6))) (bh (aa gG (aa fc (xV 2) (aa au (aa au (xV 4) (xV 3)) (xC (.int 0)))) (aa au (xV 6) (xC (.int 1)))) (aw 7)) aY)
abbrev Ca:SM:=(aV (aC (xV 7)) (nt "left") aY)
abbrev Zl:SM:=(gq 0 "on" (cc (aj (xV 3) (aj (xQ (ba 0 "hold")) aE))))
def qM:AU=ak tZ (ak xK (ak BV (ak xL (ak ua (ak BW (ak BX (ak BY (ak BZ (ak Ca (ak Zl (nt "begun"))))))))))):=rfl
def xM(e:iu [.own true (.sd M),.dat (.int r),.dat (.str w),.dat (ai d)]=.rt (.dat K) [.sd M']):nt w (bz M r m (!.dat (ai d)) x4 x5 x6 x7)=.rt (.dat K) (bz M' r m (!.dat (ai d)) x4 x5 x6 x7):=by simp[e]
def Zm{ats:List Nat}(a:M.lookup ("on":Str)=!.d (.tuple [ai d,.int h]))(b:M.lookup ("hold":Str)=!.d (.int h))(e:M.lookup ("at":Str)=!.l (ats.map ai))(hd:ats[d]? = !c):tZ (bz M r m x3 x4 x5 x6 x7)=.rt (.dat (.tuple [.str "busy",ai d,ai c])) (bz M r m x3 x4 x5 x6 x7):=by
 have sz:1000<sizeLine:=by decide
 have q3:=tT (U:=bz M r m x3 x4 x5 x6 x7) (i:=0) (g:=sk (ba 0 "on") (si (.int 0))) rfl (by
  unfold sk ba kP si;simp[a]) e (tV hd)
 simp[(dg (U:=bz M r m x3 x4 x5 x6 x7) (i:=0) rfl a),(dg (U:=bz M r m x3 x4 x5 x6 x7) (i:=0) rfl b),q3,kq]
def Cb(a:M.lookup ("on":Str)=!.d .none):tZ (bz M r m x3 x4 x5 x6 x7)=.nx (bz M r m x3 x4 x5 x6 x7):=by simp[(dg (U:=bz M r m x3 x4 x5 x6 x7) (i:=0) rfl a)]
def Zn(b:M.lookup ("on":Str)=!.d (.tuple [ai d,.int h]))(a:M.lookup ("hold":Str)=!.d (.int h'))(ne:h≠h'):tZ (bz M r m x3 x4 x5 x6 x7)=.nx (bz M r m x3 x4 x5 x6 x7):=by simp[(dg (U:=bz M r m x3 x4 x5 x6 x7) (i:=0) rfl b),(dg (U:=bz M r m x3 x4 x5 x6 x7) (i:=0) rfl a),kq,ne]
def Cc(a:M.lookup ("on":Str)=!.d .none):xK (bz M r m x3 x4 x5 x6 x7)=.nx (bz M r m x3 x4 x5 x6 x7):=by
 have q1:=dg (U:=bz M r m x3 x4 x5 x6 x7) (i:=0) rfl a;simp_all
def Cd(e:(M.map (·.1)).Nodup)(a:M.length<1000)(f:M.lookup ("on":Str)=!.d x)(b:mm (bz M r m x3 x4 x5 x6 x7)=.ok y (bz M r m x3 x4 x5 x6 x7)):gq 0 "on" mm (bz M r m x3 x4 x5 x6 x7)=.nx (bz (bi "on" (.d y) M) r m x3 x4 x5 x6 x7):=
 tU b rfl f e a
def LJ(a:M.lookup ("hold":Str)=!.d (.int h)):cc (aj (xV 3) (aj (xQ (ba 0 "hold")) aE)) (bz M r m (!.dat (ai d)) x4 x5 x6 x7)=.ok (.tuple [ai d,.int h]) (bz M r m (!.dat (ai d)) x4 x5 x6 x7):=by
 have q2:=dg (U:=bz M r m (!.dat (ai d)) x4 x5 x6 x7) (i:=0) rfl a;simp_all
def Zo{ats:List Nat}(f:au D (ai d)=!.tuple [P,A,.bool b])(hold)
  (e:iu [.own true (.sd (aQ D R (ats.map ai) T W L (.int hold) (if b=true then .tuple [ai d,.int hold]else .none) log)),.dat (.int r),.dat (.str (if b=true then "begun" else "unsure")),.dat (ai d)]=.rt (.dat K) [.sd M']) :
  xK (bz (aQ D R (ats.map ai) T W L (.int hold) (.tuple [ai d,.int h]) log) r m x3 x4 x5 x6 x7)=.rt (.dat K) (bz M' r m (!.dat (ai d)) x4 x5 x6 x7):=by
 have t:aC (aa fS (xQ (ba 0 "on")) (xC .none)) (bz (aQ D R (ats.map ai) T W L (.int hold) (.tuple [ai d,.int h]) log) r m x3 x4 x5 x6 x7)=.ok true (bz (aQ D R (ats.map ai) T W L (.int hold) (.tuple [ai d,.int h]) log) r m x3 x4 x5 x6 x7):=by have q1:=dg (U:=bz (aQ D R (ats.map ai) T W L (.int hold) (.tuple [ai d,.int h]) log) r m x3 x4 x5 x6 x7) (i:=0) rfl jn;simp[q1,bR]
 have g:bh (aa au (xQ (ba 0 "on")) (xC (.int 0))) (aw 3) (bz (aQ D R (ats.map ai) T W L (.int hold) (.tuple [ai d,.int h]) log) r m x3 x4 x5 x6 x7)=.nx (bz (aQ D R (ats.map ai) T W L (.int hold) (.tuple [ai d,.int h]) log) r m (!.dat (ai d)) x4 x5 x6 x7):=by have q1:=dg (U:=bz (aQ D R (ats.map ai) T W L (.int hold) (.tuple [ai d,.int h]) log) r m x3 x4 x5 x6 x7) (i:=0) rfl jn;simp[q1]
 have a:ee (aC (aa au (aa au (xQ (ba 0 "deeds")) (xV 3)) (xC (.int 2)))) (bz (aQ D R (ats.map ai) T W L (.int hold) .none log) r m (!.dat (ai d)) x4 x5 x6 x7)=.ok (not b) (bz (aQ D R (ats.map ai) T W L (.int hold) .none log) r m (!.dat (ai d)) x4 x5 x6 x7):=by have q1:=dg (U:=bz (aQ D R (ats.map ai) T W L (.int hold) .none log) r m (!.dat (ai d)) x4 x5 x6 x7) (i:=0) rfl tS;have j:au (.tuple [P,A,.bool b]) (.int 2)=!.bool b:=rfl;simp[-au,q1,f,j]
 refine(iw t).trans ?_;rw[bp g,bp (Cd nI (by rw[nJ];decide) jn (mm:=xC .none) (y:=.none) rfl),xF];cases b with
 |false=>exact jo ((iw a).trans (xM e))
 |true=>refine(bp (gw a)).trans ?_;rw[bp (Cd nI (by rw[nJ];decide) jn (LJ mq)),xF];exact xM e
def Ly(k:Nat)(d:PyData):Prop:=PyData.canLay0 d=true/\PyData.depth d<=k
theorem Ce:∀{l},(∀x∈l,Ly k x)->PyData.canLayAll0 l=true/\PyData.depthAll l<=k
 |[],_=>#[rfl,q0K _]
 |d::l,h=>by have a:=h d q0g;have b:=Ce λx c=>h x (bK _ c);refine#[by simp[PyData.canLayAll0,a.1,b.1],?_];have:=a.2;simp only[PyData.depthAll];lia
def ub(h:∀x∈l,Ly k x):Ly (k+1) (.tuple l):=by have:=Ce h;exact#[by simpa[PyData.canLay0] using this.1,by simp only[PyData.depth];lia]
def xN(h:∀x∈l,Ly k x):Ly (k+1) (.list l):=by have:=Ce h;exact#[by simpa[PyData.canLay0] using this.1,by simp only[PyData.depth];lia]
def iR(i k):Ly k (.int i):=#[by simp[PyData.canLay0],by simp[PyData.depth]]
def Cf(k):Ly k .none:=#[by simp[PyData.canLay0],by simp[PyData.depth]]
def Zq(b k):Ly k (.bool b):=#[by simp[PyData.canLay0],by simp[PyData.depth]]
def Cg(h:PyData.strOk s=true)(k):Ly k (.str s):=#[by simp[PyData.canLay0,h],by simp[PyData.depth]]
def pA(h:Ly k d)(e:k<=64):SeqAt.shaped d=true:=by unfold SeqAt.shaped;rw[h.1,Bool.true_and];exact decide_eq_true (q0C h.2 e)
def Zr(x k):Ly k (cm x):=by cases x;exact Cf k;exact iR _ k
def xO(w):PyData.strOk (df w)=true:=by cases w<;>decide +kernel
def Zs(r):Ly 1 (ej r):=ub λx a=>by
 simp only[q0c,q0z,or_false]at a;rcases a with rfl |rfl |rfl |rfl |rfl
 .exact iR _ _
 .exact iR _ _
 .exact Cg (xO _) _
 .exact iR _ _
 .exact iR _ _
def LL(L:List (List Int)):Ly 2 (.list (L.map bo)):=xN λx a=>by let⟨l,_,rfl⟩:=q0Q.mp a;exact ub λx a=>by let⟨i,_,rfl⟩:=q0Q.mp a;exact iR i 0
def Ci:SeqAt.shaped (.list [])=true:=by kernel_rfl
def uc(h:SeqAt.shaped (.list l)=true):av n (.list l) (.list [])=!.bool (l.isEmpty != n):=by
 cases l with
 |nil=>cases n<;>kernel_rfl
 |cons x r=>cases n<;>simp[av,h,Ci,PyData.eqv,PyData.eqvAll]
def Zx(h:∀r∈L,r≠[]):Au [.list (L.map bo)]=!.list ((TS.sortR L).map bo):=by
 unfold Au;dsimp only;cases L with
 |nil=>unfold oH;simp[kh,At,TS.sortR]
 |cons r L=>
  have e:kh ((r::L).map bo)=none:=by rw[q0h];rfl
  have a:((r::L).all λr=>not r.isEmpty)=true:=by
   grind
  unfold oH;rw[e,BN];simp only[a,if_true,q1H]
def Zy(a:L.length<64)(h:∀r∈L,r≠[]):oI [.list (L.map bo)]=!.list ((TS.sortR L).map bo):=by have:=Zx h;unfold Au at this;show(if (L.map bo).length<64 then _ else none)=_;simp_all
theorem LM:∀c  b,∀r∈b::c,TS.lexLe (gp c b) r=true
 |[],b,r,h=>by simp only[q0c,q0z,or_false]at h;subst h;have:=TS.lexLe_tt r r;simpa[gp] using this
 |x::c,b,r,h=>by
  rw[gp];have e:=LM c (if HT.lexLt x b=true then x else b);have hb:=e _ q0g;have a:TS.lexLe (if HT.lexLt x b=true then x else b) b=true/\TS.lexLe (if HT.lexLt x b=true then x else b) x=true:=by
   by_cases q:HT.lexLt x b=true
   .rw[if_pos q];have t:=TS.lexLe_tt x b;have f:TS.lexLe b x=false:=by unfold TS.lexLe;rw[q];rfl
    rw[f,Bool.or_false]at t;have d:=TS.lexLe_tt x x;exact#[t,by simpa using d]
   .rw[if_neg q];have d:=TS.lexLe_tt b b;exact#[by simpa using d,by unfold TS.lexLe;simpa using q]
  rcases q0c.mp h with rfl |h
  .exact TS.lexLe_tr _ _ _ hb a.1
  .rcases q0c.mp h with rfl |h
   .exact TS.lexLe_tr _ _ _ hb a.2
   .exact e r (bK _ h)
def LN(b)(h:bE S.a S.ss (S.ds[k]).plan (bI S k)=!v):[v,(k:Int),(bI S k:Int)]∈gi S:=by refine q2v.mpr #[k,q2f.mpr b,?_];unfold qJ;simp_all
structure jH (un:aU->Nat) (S:Hl):Prop where
 ok:bL S
 up:∀d∈S.ds,bV S.a S.ss d.plan 4500 (un d.plan)
 nx:∀k,(hk:k<S.ds.length)->∀j v,j<=2->bE S.a S.ss (S.ds[k]).plan (bI S k+j)=!v->v<=4500
def jH.lf(T:jH un S)(b)(h:bE S.a S.ss (S.ds[k]).plan (bI S k)=!v):(fo un S)[k]? = !v::gM S.a S.ss (S.ds[k]).plan (un (S.ds[k]).plan) (bI S k+1):=by have c:=q0G b;rw[BT T.ok b,LF T.ok.z (T.ok.pl _ c).plan (T.up _ c) h (T.nx k b 0 v 'a' h)]
def jH.lf0(T:jH un S)(b)(h:bE S.a S.ss (S.ds[k]).plan (bI S k)=none):(fo un S)[k]? = ![]:=by rw[BT T.ok b,LG (T.up _ (q0G b)) h]
def jH.of(T:jH un S)(h:(fo un S)[k]? = !v::t):∃b,bE S.a S.ss (S.ds[k]).plan (bI S k)=!v:=by
 have b:k<S.ds.length:=by rw[<-xJ T.ok];exact(q0a.mp h).1
 refine#[b,?_];cases e:bE S.a S.ss (S.ds[k]).plan (bI S k) with
 |none=>rw[T.lf0 b e]at h;cases h
 |some w=>rw[T.lf b e]at h;cases h;rfl
def jH.none_(T:jH un S)(h:lc S=none):fF 0 (fo un S)=[]:=by
 cases e:fF 0 (fo un S) with
 |nil=>rfl
 |cons x r=>
  exfalso;let⟨d,v,t,a,_⟩:=pz.mp (by rw[e];exact q0g);let⟨b,ht⟩:=T.of a;have:=LN b ht;rw[Lj h]at this;cases this
def jH.some_(T:jH un S)(h:lc S=!(v,k)):∃t,TS.sortR (fF 0 (fo un S))=[v,(k:Int)]::t:=by
 let⟨g,ht,x,i,j,a⟩:=xD h;refine Zi ?_ (λy c=>?_) λy c=>?_
 .exact pz.mpr #[k,v,_,T.lf g ht,by rw[q1X]]
 .let⟨d,w,t,_,e⟩:=pz.mp c;exact#[_,_,e]
 .let⟨d,w,t,b,e⟩:=pz.mp c;let⟨hd,f⟩:=T.of b;have b:=LM i x _ (by rw[<-j];exact LN hd f);rw[a]at b;rw[e,q1X];exact tY b
noncomputable def hF:Nat->List PyData->List PyData
 |_,[]=>[]
 |k,d::l=>.tuple [.int k,d]::hF (k+1) l
def Cj(l):L3.numbered l=hF 0 l:=by
 have:∀(l:List PyData) (k:Nat),l.mapIdx (λi d=>PyData.tuple [.int ((k+i:Nat)),d])=hF k l:=λl=>by
  induction l with
  |nil=>intro k;rfl
  |cons d l a=>
   intro k;rw[List.mapIdx_cons,hF,<-a (k+1)];simp only[Nat.add_zero,q2c,true_and]
   congr 1
   funext i d;rw[Nat.add_assoc,Nat.add_comm 1 i]
 have h:=this l 0;simp only[q1X]at h;exact h
theorem Ck:∀L  k  a  c d,a.length+L.length<1000->cE (dB 2 (bC (aw 0) (bC (aw 1) dJ))) kR oQ (hF k (L.map iL)) a [c,d]=some (a++(fF k L).map bo)
 |[],k,a,c,d,_=>by simp[hF,cE,fF]
 |[]::L,k,a,c,d,h=>by
  have b:=Ck L (k+1) a (!.dat (.int k)) (!.dat (.list [])) (by simp at h;lia);have st:kR [!.dat (.int k),!.dat (.list [])]=.ok false [!.dat (.int k),!.dat (.list [])]:=by have e:av true (.list []) (.list [])=!.bool false:=uc (n:=true) Ci;simp[kR,e]
  rw[fF,q0h,hF,cE,show iL []=.list [] from rfl,<-b];generalize kR=f at *;simp[st]
 | (v::t)::L,k,a,c,d,h=>by
  have sz:1000<sizeLine:=by decide
  have b:=Ck L (k+1) (a++[bo [v,(k:Int)]]) (!.dat (.int k)) (!.dat (iL (v::t))) (by simp at h ⊢;lia);have e:av true (iL (v::t)) (.list [])=!.bool true:=uc (n:=true) (pA (xN λx a=>by let⟨i,_,rfl⟩:=q0Q.mp a;exact iR i 0) 'f');have g:au (iL (v::t)) (.int 0)=!.int v:=by simp
  simp only[q0t]at h;have i:a.length<sizeLine:=by lia
  have j:bo [v,(k:Int)]=.tuple [.int v,.int k]:=rfl;rw[fF,q0h,q0h,hF,cE];rw[q0m,q04]at b;rw[j]at b ⊢;rw[<-b];generalize iL (v::t)=I at *;generalize hF (k+1) (L.map iL)=m at *;have st:kR [!.dat (.int k),!.dat I]=.ok true [!.dat (.int k),!.dat I]:=by simp[kR,e]
  have l:oQ [!.dat (.int k),!.dat I]=.ok (.tuple [.int v,.int k]) [!.dat (.int k),!.dat I]:=by simp[-au,oQ,g,show(2:Nat)<=sizeLine by lia]
  generalize kR=f at *;generalize oQ=o at *;simp[st,l,i]
def Zz{V }{U:ag}(b:a (some (.own true (.sd M))::U)=.ok V (some (.own true (.sd M))::U))(f:(1:Nat)=1)(c:gX g t e V [] [none,!.own true (.sd M)]=!(L,[y,!.own true (.sd M)]))(d:L.length<=sizeLine):kj 1 [0] 0 0 a g t e (some (.own true (.sd M))::U)=.ok (.list L) (some (.own true (.sd M))::U):=by unfold kj;rw[b];simp only[gF.bind,sh,q1L];simp[c,d]
def ZA{V}(e:M.lookup ("deeds":Str)=!.d a)(f:b [a]=!.int N)(g:c [.int N]=!V):eO c (aj (cn b (aj (xQ (ba 0 "deeds")) aE)) aE) (bz M r m x3 x4 x5 x6 x7)=.ok V (bz M r m x3 x4 x5 x6 x7):=by simp[(dg (U:=bz M r m x3 x4 x5 x6 x7) (i:=0) rfl e),f,g]
def Cn(ok:bL S)(b:M.lookup ("rows":Str)=!.d (bx (bF un S)))(c:M.lookup ("at":Str)=!.l (S.settled.map ai))(e:M.lookup ("deeds":Str)=!.d (ck S.ds)):BV (bz M r m x3 x4 x5 x6 x7)=.nx (bz M r m x3 (!.dat (bx (fo un S))) x5 x6 x7):=by
 have sz:1000<sizeLine:=by decide
 have dl:=ok.dl;have f:cK [ck S.ds]=!.int S.ds.length:=by rw[jG];simp
 have a:=xB (j:=S.ds.length) 'a' 'a';rw[q1s]at a;let⟨y,go⟩:=LI ok b c S.ds.length 0 [] none 'a' (by simp;lia);rw[q2J,q0r,Int.natCast_zero]at go;exact (by simp[(Zz (ZA e f a) rfl go (by rw[q0d,xJ ok];lia))])
def ZB(go:cE (dB 2 (bC (aw 0) (bC (aw 1) dJ))) kR oQ (L3.numbered a) [] [none,none]=!b)(e:b.length<=sizeLine)(d:oI [.list b]=!.list c):xL (bz M r m x3 (!.dat (.list a)) x5 x6 x7)=.nx (bz M r m x3 (!.dat (.list a)) (!.dat (.list c)) x6 x7):=by simp_all
def LO(b:L.length<64):xL (bz M r m x3 (!.dat (bx L)) x5 x6 x7)=.nx (bz M r m x3 (!.dat (bx L)) (!.dat (.list ((TS.sortR (fF 0 L)).map bo))) x6 x7):=by
 have sz:1000<sizeLine:=by decide
 have ul:=xI L 0;have go:=Ck L 0 [] none none (by simp;lia);have a:=Zy (L:=fF 0 L) 'a' (λx h z=>by let⟨d,v,t,_,e⟩:=pz.mp h;simp_all);rw[<-Cj,q0r]at go;exact ZB go (by rw[q0d];lia) a
def ZE(a:¬ m<v):ua (bz M r m x3 x4 (!.dat (.list (([v,k]::t).map bo))) x6 x7)=.nx (bz M r m x3 x4 (!.dat (.list (([v,k]::t).map bo))) x6 x7):=by have e:=uc (n:=false) (pA (LL ([v,k]::t)) 'f');rw[q0h]at e ⊢;generalize t.map bo=b at *;simp[e,a]
def ZF{k:Nat}:BW (bz M r m x3 x4 (!.dat (.list (([v,(k:Int)]::t).map bo))) x6 x7)=.nx (bz M r m (!.dat (ai k)) x4 (!.dat (.list (([v,(k:Int)]::t).map bo))) x6 x7):=by simp_all
def ZG(a:M.lookup ("deeds":Str)=!.d D)(b:au D (ai d)=!.tuple [P,L,A]):BX (bz M r m (!.dat (ai d)) x4 x5 x6 x7)=.nx (bz M r m (!.dat (ai d)) x4 x5 (!.dat L) x7):=by have q1:=dg (U:=bz M r m (!.dat (ai d)) x4 x5 x6 x7) (i:=0) rfl a;simp_all
noncomputable def b8(a:gd)(t:List Int)(m:Int):Bool:=match a with
 |.last=>(match t with |w::_=>decide (w<=m) |[]=>false)
 |_=>false
def b9(a:gd)(v:Int)(t:List Int)(m:Int):Bool:=match a with
 |.within n=>decide (m - v>n)
 |a=>b8 a t m
def ZH(h:L[d]? = !v::t):BY (bz M r m (!.dat (ai d)) (!.dat (bx L)) x5 (!.dat (fm a)) x7)=.nx (bz M r m (!.dat (ai d)) (!.dat (bx L)) x5 (!.dat (fm a)) (!.dat (.bool (b8 a t m)))):=by
 have x:=BU h;generalize bx L=c at *;cases a with
 |all=>have e:av false (fm .all) (.str "last")=!.bool false:=(cf mf iQ).trans 'k';simp only[fm]at e ⊢;simp[-au,e,b8]
 |within n=>have e:av false (fm (.within n)) (.str "last")=!.bool false:=BI (BJ n) iQ;simp only[fm]at e ⊢;simp[-au,e,b8]
 |last=>
  have e:av false (fm .last) (.str "last")=!.bool true:=(cf iQ iQ).trans 'k';have b:au c (ai d)=!iL (v::t):=x;simp only[fm]at e ⊢;cases t with
  |nil=>simp[-au,e,b,b8]
  |cons w t=>
   have f:au (iL (v::w::t)) (.int 1)=!.int w:=by simp
   have g:cK [iL (v::w::t)]=!.int ((t.length:Int)+2):=by simp[cK];lia
   generalize iL (v::w::t)=I at *;have g1:(1:Int)<(t.length:Int)+2:=by lia
   simp[-au,-cK,e,b,f,g,b8,g1]
def ZI(h:L[d]? = !v::t):BZ (bz M r m (!.dat (ai d)) (!.dat (bx L)) x5 (!.dat (fm a)) (!.dat (.bool (b8 a t m))))=.nx (bz M r m (!.dat (ai d)) (!.dat (bx L)) x5 (!.dat (fm a)) (!.dat (.bool (b9 a v t m)))):=by
 have x:=BU h;generalize bx L=b at *;cases a with
 |all=>simp[-au,b9,fm]
 |last=>simp[-au,b9,fm]
 |within n=>
  have c:au b (ai d)=!iL (v::t):=x;have e:au (iL (v::t)) (.int 0)=!.int v:=by simp
  have f:au (.tuple [.str "within",.int n]) (.int 1)=!.int n:=rfl;generalize iL (v::t)=I at *;simp only[fm];simp[-au,c,e,f,b9]
def ZJ:Ca (bz M r m x3 x4 x5 x6 (!.dat (.bool false)))=.nx (bz M r m x3 x4 x5 x6 (!.dat (.bool false))):=by simp
def ZK(e:iu [.own true (.sd M),.dat (.int r),.dat (.str "left"),.dat (ai d)]=.rt (.dat K) [.sd a]):Ca (bz M r m (!.dat (ai d)) x4 x5 x6 (!.dat (.bool true)))=.rt (.dat K) (bz a r m (!.dat (ai d)) x4 x5 x6 (!.dat (.bool true))):=(iw 'd').trans (xM e)
structure br (un:aU->Nat) (S:Hl) (m:Int) (n:Nat):Prop where
 run:gL S m n
 bg:∀d c h,S.begun=!(d,c,h)->∃x v,S.ds[d]? = !x/\bE S.a S.ss x.plan c=!v/\v<=m/\S.settled[d]? = some c
 st:∀(k c:Nat) (x:bP),S.ds[k]? = !x->S.settled[k]? = !c->nK S.a S.ss x.plan c m
 pb:∀d∈S.ds,qG d.plan
 up:∀d∈S.ds,bV S.a S.ss d.plan 4500 (un d.plan)
 lm:S.last.getD 0=m
 m0:0<=m
 sb:∀x∈S.settled,x<=n
structure ZL (S:Hl) (m:Int) (d c:Nat) (x:bP) (v:Int):Prop where
 hx:S.ds[d]? = some x
 ht:bE S.a S.ss x.plan c=some v
 hv:v<=m
 hs:S.settled[d]? = !c
def nK.mono(h:nK a d p c m)(e:m<=b):nK a d p c b:=by
 rcases h with h |⟨u,f,g⟩
 .exact .inl h
 .exact .inr #[u,f,by lia]
def br.tm(I:br un S m n)(e:m<=1740):jH un S:=#[I.run.ok,I.up,λk b j v f g=>by
 have a:=q0G b;exact Ze I.run.ok.z (I.run.ok.pl _ a).plan (I.pb _ a) ((I.st k (bI S k) (S.ds[k]) (q0j b) (mr I.run.ok b)).mono e) f g]
theorem br.add(I:br un S m n)(h:m<=m')(R:ZL S m' d c x v):br un (er { S with last:=!m' } #[m',ru,wd,d,c]) m' (n+1):=by
 let⟨hd,ex⟩:=q0a.mp R.hx;let⟨s,t⟩:=q0a.mp R.hs;refine#[(I.run.last h).add hd,λu j w e=>?_,λk j l o p=>?_,I.pb,I.up,rfl,by have:=I.m0;lia,λy z=>?_]
 .have e':(if wd=.begun then some (d,c,S.holds) else none)=!(u,j,w):=e
  by_cases f:wd=.begun
  .rw[if_pos f]at e';cases e';refine#[x,v,R.hx,R.ht,R.hv,?_];show(if wd=.begun then S.settled else S.settled.set d (c+1))[d]? = !c;rw[if_pos f];exact R.hs
  .rw[if_neg f]at e';cases e'
 .have g:S.ds[k]? = !l:=o;have b:(if wd=.begun then S.settled else S.settled.set d (c+1))[k]? = !j:=p;show nK S.a S.ss l.plan j m'
  by_cases f:wd=.begun
  .rw[if_pos f]at b;exact(I.st k j l g b).mono h
  .rw[if_neg f,List.getElem?_set]at b
   by_cases q:d=k
   .subst q;rw[if_pos rfl,if_pos s]at b;cases b;rw[R.hx]at g;cases g;exact .inr #[v,R.ht,R.hv]
   .rw[if_neg q]at b;exact(I.st k j l g b).mono h
 .have A:c<=n:=I.sb c (by rw[<-t];exact q0G s);have i:y∈(if wd=.begun then S.settled else S.settled.set d (c+1)):=z
  by_cases f:wd=.begun
  .rw[if_pos f]at i;have:=I.sb y i;lia
  .rw[if_neg f]at i;rcases List.mem_or_eq_of_mem_set i with h |h
   .have:=I.sb y h;lia
   .omega
def br.same(I:br un S m n)(r:gL b m' g)(h:m<=m')(z:b.last.getD 0=m')(s:b.begun=S.begun)(i:b.settled=S.settled)(j:b.a=S.a)(l:b.ss=S.ss)(f:b.ds=S.ds)(A:n<=g:=by lia):br un b m' g:=
 #[r,λd c k e=>by
  rw[s]at e;let⟨x,v,t,u,B,w⟩:=I.bg d c k e;exact#[x,v,by rw[f];exact t,by rw[j,l];exact u,by lia,by rw[i];exact w],λk c x p q=>by
  rw[f]at p;rw[i]at q;rw[j,l];exact(I.st k c x p q).mono h,by rw[f];exact I.pb,by rw[f,j,l];exact I.up,z,by have:=I.m0;lia,λy o=>by rw[i]at o;have:=I.sb y o;lia]
def ud(hd:S.settled[d]? = !c)(a:S.rows.length<1000)(b:S.last=!m):iu [.own true (.sd (aQ (ck S.ds) R (S.settled.map ai) (.int m) (cm S.holder) (.int S.til) (.int S.holds) (if wd=.begun then .tuple [ai d,.int S.holds]else .none) (S.rows.map ej))),.dat (.int r),.dat (.str (df wd)),.dat (ai d)]=.rt (.dat (.tuple [.str (df wd),ai d,ai c])) [.sd (bN R (er S #[m,r,wd,d,c]))]:=by
 rw[Zd hd a];have e:nL (er S #[m,r,wd,d,c]).begun=if wd=.begun then .tuple [ai d,.int S.holds]else .none:=by cases wd<;>rfl
 have f:(er S #[m,r,wd,d,c]).last.getD (-1)=m:=by show S.last.getD (-1)=m;rw[b];rfl
 show _=oh.rt _ [.sd (aQ (ck S.ds) R ((if wd=.begun then S.settled else S.settled.set d (c+1)).map ai) (.int ((er S #[m,r,wd,d,c]).last.getD (-1))) (cm S.holder) (.int S.til) (.int S.holds) (nL (er S #[m,r,wd,d,c]).begun) ((S.rows++[_]).map ej))];rw[e,f]
def qN(b:AU (bz M r m none none none none none)=.rt (.dat K) (bz a r m x3 x4 x5 x6 x7)):oR [.own true (.sd M),.dat (.int r),.dat (.int m)]=.rt (.dat K) [.sd a]:=ku rfl b 'd'
def ZM(T:jH un S)(g)(i:m<=4500)(f:bE S.a S.ss (S.ds[k]).plan (bI S k)=!v):b9 (S.ds[k]).late v (gM S.a S.ss (S.ds[k]).plan (un (S.ds[k]).plan) (bI S k+1)) m=kt S.a S.ss S.ds[k] (bI S k) m:=by
 have b:=q0G g;have h:=(T.ok.pl _ b).plan;have u:=T.up _ b;unfold kt;cases e:(S.ds[k]).late with
 |all=>rfl
 |last=>have:=Zf T.ok.z h u (BS T.ok.z h u f (T.nx k g 0 v 'a' f)) i;exact this.symm
 |within n=>simp only[b9];rw[xH f]
def LP(h):au (ck a) (ai k)=!.tuple [gv (a[k]).plan,fm (a[k]).late,.bool (a[k]).again]:=by rw[jG];exact qK h
def ZN(I:br un S m n)(B:n<900)(w:m<=1740)(g:S.last=!m) :
  oR [.own true (.sd (bN (bx (bF un S)) S)),.dat (.int r),.dat (.int m)]=.rt (.dat (eZ S r m).2) [.sd (bN (bx (bF un S)) (eZ S r m).1)]:=by
 have y:{ S with last:=!m }=S:=by cases S;simp only at g;subst g;rfl
 have T:=I.tm w;have rl:=I.run.rl;have l:∀R,bN R S=aQ (ck S.ds) R (S.settled.map ai) (.int m) (cm S.holder) (.int S.til) (.int S.holds) (nL S.begun) (S.rows.map ej):=λR=>by show aQ (ck S.ds) R (S.settled.map ai) (.int (S.last.getD (-1))) _ _ _ _ _=_;rw[g];rfl
 have z:eZ S r m=match S.begun with
  |some (d,c,h)=>if h=S.holds then(S,.tuple [.str "busy",ai d,ai c]) else mj S r m d c
  |none=>gK S r m:=by
  unfold eZ;rw[y]
  first |done |(rcases S.begun with _ |⟨_,_,_⟩<;>rfl)
 rw[z];cases hb:S.begun with
 |some b=>
  let⟨d,c,k⟩:=b;let⟨x,v,q1,q2,q3,q4⟩:=I.bg d c k hb;simp only
  by_cases f:k=S.holds
  .rw[if_pos f];refine qN (x3:=none) (x4:=none) (x5:=none) (x6:=none) (x7:=none) ?_;rw[qM];refine jo (Zm (h:=k) (ats:=S.settled) ?_ ?_ pu q4)
   .rw[jn,hb];rfl
   .rw[mq,f]
  .let⟨hd,ex⟩:=q0a.mp q1;rw[if_neg f];unfold mj;rw[q1];simp only;refine qN (x3:=!.dat (ai d)) (x4:=none) (x5:=none) (x6:=none) (x7:=none) ?_;rw[qM,l,hb];refine(bp (Zn (d:=d) (h:=k) (h':=S.holds) jn mq f)).trans (jo ?_);have q:=LP hd;rw[ex]at q;refine Zo q S.holds ?_;cases C:x.again with
   |true=>exact ud (wd:=.begun) q4 'a' g
   |false=>exact ud (wd:=.unsure) q4 'a' g
 |none=>
  simp only;have dl:=I.run.ok.dl;have ll:=xJ (un:=un) I.run.ok;have e:(bN (bx (bF un S)) S).lookup ("on":Str)=!.d .none:=by rw[jn,hb];rfl
  unfold gK;cases o:lc S with
  |none=>simp only;refine qN (x3:=none) (x4:=!.dat (bx (fo un S))) (x5:=!.dat (.list [])) (x6:=none) (x7:=none) ?_;have i:=LO (M:=bN (bx (bF un S)) S) (r:=r) (m:=m) (x3:=none) (x5:=none) (x6:=none) (x7:=none) (L:=fo un S) 'a';rw[T.none_ o,show TS.sortR []=[] from by simp[TS.sortR],q07]at i;rw[qM,bp (Cb e),bp (Cc e),bp (Cn I.run.ok xE pu tS),bp i];exact jo (by
     have sz:1000<sizeLine:=by decide
     have e:=uc (n:=false) Ci;simp[e,show(1:Nat)<=sizeLine by lia,show(2:Nat)<=sizeLine by lia])
  |some p=>
   let⟨v,k⟩:=p;let⟨f,ht,_⟩:=xD o;let⟨t,hs⟩:=T.some_ o;have A:t.length<900:=by have s:=(TS.sortR_perm (fF 0 (fo un S))).length_eq;have D:=xI (fo un S) 0;rw[hs]at s;simp only[q0t]at s;lia
   have i:=LO (M:=bN (bx (bF un S)) S) (r:=r) (m:=m) (x3:=none) (x5:=none) (x6:=none) (x7:=none) (L:=fo un S) 'a';rw[hs]at i;simp only
   by_cases hv:m<v
   .rw[if_pos hv];refine qN (x3:=none) (x4:=!.dat (bx (fo un S))) (x5:=!.dat (.list (([v,(k:Int)]::t).map bo))) (x6:=none) (x7:=none) ?_;rw[qM,bp (Cb e),bp (Cc e),bp (Cn I.run.ok xE pu tS),bp i];exact jo (by
      have sz:1000<sizeLine:=by decide
      have e:=uc (n:=false) (pA (LL ([v,k]::t)) 'f');rw[q0h]at e ⊢;have d:(t.map bo).length<900:=by rw[q0d];exact A
      generalize t.map bo=a at *;simp[e,hv,show a.length+1+1<=sizeLine by lia,show(1:Nat)<=sizeLine by lia,show(2:Nat)<=sizeLine by lia])
   .rw[if_neg hv,q0j f];simp only;have lf:=T.lf f ht;have bl:=ZM (m:=m) T f 'a' ht;have u:=mr I.run.ok f;have pre:∀K:SM,ak tZ (ak xK (ak BV (ak xL (ak ua (ak BW (ak BX (ak BY (ak BZ K)))))))) (bz (bN (bx (bF un S)) S) r m none none none none none)=K (bz (bN (bx (bF un S)) S) r m (!.dat (ai k)) (!.dat (bx (fo un S))) (!.dat (.list (([v,(k:Int)]::t).map bo))) (!.dat (fm (S.ds[k]).late)) (!.dat (.bool (kt S.a S.ss S.ds[k] (bI S k) m)))):=λK=>by rw[bp (Cb e),bp (Cc e),bp (Cn I.run.ok xE pu tS),bp i,bp (ZE hv),bp ZF,bp (ZG tS (LP f)),bp (ZH lf),bp (ZI lf),bl]
    cases j:kt S.a S.ss S.ds[k] (bI S k) m with
    |true=>rw[j]at pre;simp only[if_true];refine qN (x3:=!.dat (ai k)) (x4:=!.dat (bx (fo un S))) (x5:=!.dat (.list (([v,(k:Int)]::t).map bo))) (x6:=!.dat (fm (S.ds[k]).late)) (x7:=!.dat (.bool true)) ?_;rw[qM,pre];refine jo (ZK ?_);rw[l,hb];exact ud (wd:=.left) u 'a' g
    |false=>rw[j]at pre;simp only[q08,if_false];refine qN (x3:=!.dat (ai k)) (x4:=!.dat (bx (fo un S))) (x5:=!.dat (.list (([v,(k:Int)]::t).map bo))) (x6:=!.dat (fm (S.ds[k]).late)) (x7:=!.dat (.bool false)) ?_;rw[qM,pre,bp ZJ,l,hb];refine(bp (Cd nI (by rw[nJ];decide) jn (LJ mq))).trans ?_;rw[xF];exact xM (ud (wd:=.begun) u 'a' g)
noncomputable abbrev aZ(M:List (Str×Fl))(K:PyData)(a b c d:Option af):ag:=[!.own true (.sd M),!.dat K,a,b,c,d]
abbrev mu:XM PyData:=aa au (xV 1) (xC (.int 0))
abbrev xP:SM:=(bh (ki (xV 1) (jh (xC (.int 1))) (jh (xC (.int 3)))) (dB 2 (bC (aw 2) (bC (aw 3) dJ))))
abbrev ue:SM:=(aV (aC (aa gV (xV 3) (xQ (ba 0 "now")))) (bc (cc (aj (xC (.str "refused")) (aj (xC (.int 2)) aE)))) aY)
abbrev xR:SM:=(bh (rF (aa iJ (xQ (ba 0 "who")) (xC .none)) (aa zU (xV 3) (xQ (ba 0 "until")))) (aw 4))
abbrev xS:SM:=(aV (fz (aC (aa (av true) mu (xC (.str "take")))) (fg (aC (xV 4)) (aC (aa (av true) (xQ (ba 0 "who")) (xV 2))))) (bc (cc (aj (xC (.str "refused")) (aj (xC (.int 8)) aE)))) aY)
abbrev xT:SM:=(aV (fz (aC (aa (av false) mu (xC (.str "finish")))) (fg (aC (aa iJ (xQ (ba 0 "on")) (xC .none))) (aC (aa (av true) (aa au (xQ (ba 0 "on")) (xC (.int 1))) (xQ (ba 0 "hold")))))) (bc (cc (aj (xC (.str "refused")) (aj (xC (.int 9)) aE)))) aY)
abbrev LQ:SM:=(gq 0 "now" (xV 3))
abbrev mw:SM:=(aV (fz (ee (aC (xV 4))) (aC (aa (av true) (xQ (ba 0 "who")) (xV 2)))) (bc (xC (.bool false))) aY)
abbrev xW:SM:=(aV (aC (xV 4)) (gq 0 "hold" (aa cL (xQ (ba 0 "hold")) (xC (.int 1)))) aY)
abbrev xX:SM:=(ni 0 (iO (ez "who" (xV 2) (ez "until" (aa cL (xV 3) (aa au (xV 1) (xC (.int 3)))) (qj [])))))
abbrev LR:SM:=(aV (aC (aa (av false) mu (xC (.str "take")))) (ak mw (ak xW (ak xX (bc (xC (.bool true)))))) aY)
abbrev Co:SM:=(aV (aC (aa (av false) mu (xC (.str "give")))) (ak (gq 0 "who" (xC .none)) (bc (xC .none))) aY)
abbrev Cp:SM:=(aV (aC (aa (av false) mu (xC (.str "step")))) (dD (aI oR (aN 0 (ao (xV 2) (ao (xV 3) aG))))) aY)
abbrev LS:SM:=(bh (aa au (xQ (ba 0 "on")) (xC (.int 0))) (aw 5))
abbrev LU:SM:=(gq 0 "on" (xC .none))
abbrev LV:SM:=(dD (aI iu (aN 0 (ao (xV 2) (ao (xC (.str "done")) (ao (xV 5) aG))))))
def pB:AY=ak xP (ak ue (ak xR (ak xS (ak xT (ak LQ (ak LR (ak Co (ak Cp (ak LS (ak LU LV)))))))))):=rfl
def pC(b:AY (aZ M K none none none none)=.rt (.dat Q) (aZ a K x2 x3 x4 x5)):jD [.own true (.sd M),.dat K]=.rt (.dat Q) [.sd a]:=ku rfl b 'd'
def LW(a:ip K (!1) (!3)=!.tuple [.int r,.int m]):xP (aZ M K x2 x3 x4 x5)=.nx (aZ M K (!.dat (.int r)) (!.dat (.int m)) x4 x5):=by simp[a]
def ZO(a:M.lookup ("now":Str)=!.d (.int nw))(h:¬ m<nw):ue (aZ M K x2 (!.dat (.int m)) x4 x5)=.nx (aZ M K x2 (!.dat (.int m)) x4 x5):=by simp[(dg (U:=aZ M K x2 (!.dat (.int m)) x4 x5) (i:=0) rfl a),h]
def ZP(a:M.lookup ("now":Str)=!.d (.int nw))(h:m<nw):ue (aZ M K x2 (!.dat (.int m)) x4 x5)=.rt (.dat (me 2)) (aZ M K x2 (!.dat (.int m)) x4 x5):=by
 have q:=dg (U:=aZ M K x2 (!.dat (.int m)) x4 x5) (i:=0) rfl a;simp_all
noncomputable abbrev eT(ho:Option Int)(m til:Int):Bool:=not ((ho.isSome&&decide (m<til)))
def ZQ(a:M.lookup ("who":Str)=!.d (cm ho))(c:M.lookup ("until":Str)=!.d (.int til)):xR (aZ M K x2 (!.dat (.int m)) x4 x5)=.nx (aZ M K x2 (!.dat (.int m)) (!.dat (.bool (eT ho m til))) x5):=by
 have q1:=dg (U:=aZ M K x2 (!.dat (.int m)) x4 x5) (i:=0) rfl a;cases ho with
 |none=>simp[q1,cm,eT]
 |some h=>
  simp[q1,(dg (U:=aZ M K x2 (!.dat (.int m)) x4 x5) (i:=0) rfl c),cm,eT]
  lia
def jI(a:au K (.int 0)=!.str w)(e:av n (.str w) (.str x)=!.bool b):aC (aa (av n) mu (xC (.str x))) (aZ M K x2 x3 x4 x5)=.ok b (aZ M K x2 x3 x4 x5):=by simp[-au,a,e]
def xY(h:A U=.ok false a):fz A B U=.ok false a:=by simp[h]
def nM(h:A U=.ok true a):fz A B U=B a:=by simp[h]
def Cq(h:A U=.ok true a):fg A B U=.ok true a:=by simp[h]
def uf(h:A U=.ok false a):fg A B U=B a:=by simp[h]
def ug:aC (xV 4) (aZ M K x2 x3 (!.dat (.bool b)) x5)=.ok b (aZ M K x2 x3 (!.dat (.bool b)) x5):=by simp
def LX(a:M.lookup ("who":Str)=!.d (.int h)):aC (aa (av true) (xQ (ba 0 "who")) (xV 2)) (aZ M K (!.dat (.int r)) x3 x4 x5)=.ok (decide (h≠r)) (aZ M K (!.dat (.int r)) x3 x4 x5):=by
 have q:=dg (U:=aZ M K (!.dat (.int r)) x3 x4 x5) (i:=0) rfl a;have e:av true (.int h) (.int r)=!.bool (decide (h≠r)):=by rw[Bw];simp
 simp_all
def Cr:bc (cc (aj (xC (.str "refused")) (aj (xC (.int k)) aE))) U=.rt (.dat (me k)) U:=by
 simp_all
def LZ(a:au K (.int 0)=!.str w)(e:av true (.str w) (.str "take")=!.bool true)(c:M.lookup ("who":Str)=!.d (cm ho)):fz (aC (aa (av true) mu (xC (.str "take")))) (fg (aC (xV 4)) (aC (aa (av true) (xQ (ba 0 "who")) (xV 2)))) (aZ M K (!.dat (.int r)) x3 (!.dat (.bool (eT ho m til))) x5)=.ok (not (((ho.isSome&&decide (m<til))&&decide (ho=!r)))) (aZ M K (!.dat (.int r)) x3 (!.dat (.bool (eT ho m til))) x5):=by
 rw[nM (jI a e)];cases ho with
 |none=>exact Cq (ug)
 |some h=>
  by_cases q:m<til
  .have f:eT (!h) m til=false:=by simp[eT,q]
   rw[f,uf ug,LX c]
   simp_all
  simp_all
def Cs(a:au K (.int 0)=!.str w)(e:av false (.str w) (.str "finish")=!.bool false):xT (aZ M K x2 x3 x4 x5)=.nx (aZ M K x2 x3 x4 x5):=gw (xY (jI a e))
def ZT(a:au K (.int 0)=!.str w)(e:av false (.str w) (.str "finish")=!.bool true)(c:M.lookup ("on":Str)=!.d .none):xT (aZ M K x2 x3 x4 x5)=.rt (.dat (me 9)) (aZ M K x2 x3 x4 x5):=by refine(iw ((nM (jI a e)).trans (Cq ?_))).trans Cr;simp[(dg (U:=aZ M K x2 x3 x4 x5) (i:=0) rfl c)]
def Ma(c:au K (.int 0)=!.str w)(e:av false (.str w) (.str "finish")=!.bool true)(g:M.lookup ("on":Str)=!.d (.tuple [ai d,.int h]))(j:M.lookup ("hold":Str)=!.d (.int h')):xT (aZ M K x2 x3 x4 x5)=if h=h' then .nx (aZ M K x2 x3 x4 x5) else .rt (.dat (me 9)) (aZ M K x2 x3 x4 x5):=by
 have q:=dg (U:=aZ M K x2 x3 x4 x5) (i:=0) rfl g;have q2:=dg (U:=aZ M K x2 x3 x4 x5) (i:=0) rfl j;have f:aC (aa iJ (xQ (ba 0 "on")) (xC .none)) (aZ M K x2 x3 x4 x5)=.ok false (aZ M K x2 x3 x4 x5):=by simp[q,bR]
 have a:aC (aa (av true) (aa au (xQ (ba 0 "on")) (xC (.int 1))) (xQ (ba 0 "hold"))) (aZ M K x2 x3 x4 x5)=.ok (decide (h≠h')) (aZ M K x2 x3 x4 x5):=by
  have e:av true (.int h) (.int h')=!.bool (decide (h≠h')):=by rw[Bw];simp
  simp_all
 simp_all
def xZ:LQ (aZ (aQ D R A T W L H O G) K x2 (!.dat (.int m)) x4 x5)=.nx (aZ (aQ D R A (.int m) W L H O G) K x2 (!.dat (.int m)) x4 x5):=by have:=tU (U:=aZ (aQ D R A T W L H O G) K x2 (!.dat (.int m)) x4 x5) (i:=0) (m:=xV 3) rfl rfl nH nI (by rw[nJ];decide);rw[YQ]at this;exact this
def Cu(a:au K (.int 0)=!.str w)(e:av false (.str w) (.str "take")=!.bool false):LR (aZ M K x2 x3 x4 x5)=.nx (aZ M K x2 x3 x4 x5):=gw (jI a e)
def Mb(a:au K (.int 0)=!.str w)(e:av false (.str w) (.str "give")=!.bool false):Co (aZ M K x2 x3 x4 x5)=.nx (aZ M K x2 x3 x4 x5):=gw (jI a e)
def ZU(a:au K (.int 0)=!.str w)(e:av false (.str w) (.str "step")=!.bool false):Cp (aZ M K x2 x3 x4 x5)=.nx (aZ M K x2 x3 x4 x5):=gw (jI a e)
def ZV(a:au K (.int 0)=!.str w)(e:av false (.str w) (.str "give")=!.bool true):Co (aZ (aQ D R A T W L H O G) K x2 x3 x4 x5)=.rt (.dat .none) (aZ (aQ D R A T .none L H O G) K x2 x3 x4 x5):=by have:=tU (U:=aZ (aQ D R A T W L H O G) K x2 x3 x4 x5) (i:=0) (d:=.none) rfl rfl px nI (by rw[nJ];decide);rw[YR]at this;refine(iw (jI a e)).trans ((bp this).trans ?_);simp
def ZX(a:au K (.int 0)=!.str w)(e:av false (.str w) (.str "step")=!.bool true)(h:oR [.own true (.sd M),.dat (.int r),.dat (.int m)]=.rt (.dat Q) [.sd M']):Cp (aZ M K (!.dat (.int r)) (!.dat (.int m)) x4 x5)=.rt (.dat Q) (aZ M' K (!.dat (.int r)) (!.dat (.int m)) x4 x5):=by apply(iw (jI a e)).trans;simp[h]
def ZY:LS (aZ (aQ D R A T W L H (.tuple [ai d,.int h]) G) K x2 x3 x4 x5)=.nx (aZ (aQ D R A T W L H (.tuple [ai d,.int h]) G) K x2 x3 x4 (!.dat (ai d))):=by simp[(dg (U:=aZ (aQ D R A T W L H (.tuple [ai d,.int h]) G) K x2 x3 x4 x5) (i:=0) rfl jn)]
def ZZ:LU (aZ (aQ D R A T W L H O G) K x2 x3 x4 x5)=.nx (aZ (aQ D R A T W L H .none G) K x2 x3 x4 x5):=by have:=tU (U:=aZ (aQ D R A T W L H O G) K x2 x3 x4 x5) (i:=0) (d:=.none) rfl rfl jn nI (by rw[nJ];decide);rw[xF]at this;exact this
def a_(h:iu [.own true (.sd M),.dat (.int r),.dat (.str "done"),.dat (ai d)]=.rt (.dat Q) [.sd M']):LV (aZ M K (!.dat (.int r)) x3 x4 (!.dat (ai d)))=.rt (.dat Q) (aZ M' K (!.dat (.int r)) x3 x4 (!.dat (ai d))):=by simp[h]
def Cv:ee (aC (xV 4)) (aZ M K x2 x3 (!.dat (.bool b)) x5)=.ok (not b) (aZ M K x2 x3 (!.dat (.bool b)) x5):=by simp
def b_:xW (aZ (aQ D R A T W L (.int hd) O G) K x2 x3 (!.dat (.bool true)) x5)=.nx (aZ (aQ D R A T W L (.int (hd+1)) O G) K x2 x3 (!.dat (.bool true)) x5):=by have:=tU (U:=aZ (aQ D R A T W L (.int hd) O G) K x2 x3 (!.dat (.bool true)) x5) (i:=0) (m:=aa cL (xQ (ba 0 "hold")) (xC (.int 1))) (d:=.int (hd+1)) (by simp[(dg (U:=aZ (aQ D R A T W L (.int hd) O G) K x2 x3 (!.dat (.bool true)) x5) (i:=0) rfl mq)]) rfl mq nI (by rw[nJ];decide);rw[YS]at this;exact(iw ug).trans this
def Md(c:au K (.int 3)=!.int t):xX (aZ (aQ D R A T W L H O G) K (!.dat (.int r)) (!.dat (.int m)) x4 x5)=.nx (aZ (aQ D R A T (.int r) (.int (m+t)) H O G) K (!.dat (.int r)) (!.dat (.int m)) x4 x5):=by
 have e:iO (ez "who" (xV 2) (ez "until" (aa cL (xV 3) (aa au (xV 1) (xC (.int 3)))) (qj []))) (aZ (aQ D R A T W L H O G) K (!.dat (.int r)) (!.dat (.int m)) x4 x5)=.ok (.own false (.sd [("who",.d (.int r)),("until",.d (.int (m+t)))])) (aZ (aQ D R A T W L H O G) K (!.dat (.int r)) (!.dat (.int m)) x4 x5):=by
  have s:ez "who" (xV 2) (ez "until" (aa cL (xV 3) (aa au (xV 1) (xC (.int 3)))) (qj [])) (aZ (aQ D R A T W L H O G) K (!.dat (.int r)) (!.dat (.int m)) x4 x5)=.ok [("who",.d (.int r)),("until",.d (.int (m+t)))] (aZ (aQ D R A T W L H O G) K (!.dat (.int r)) (!.dat (.int m)) x4 x5):=by simp[-au,ez,sB,sA,qj,qi,c]
  unfold iO;rw[s];show ng _ _=_;unfold ng;rw[if_pos #[show(["who","until"]:List Str).Nodup by decide +kernel,show 2<=15 by decide]];rfl
 have u:=YW (D:=D) (R:=R) (ats:=A) (now:=T) (who:=W) (til:=L) (hold:=H) (on:=O) (log:=G) (x:=.int r) (y:=.int (m+t));have f:=YV (D:=D) (R:=R) (ats:=A) (now:=T) (who:=W) (til:=L) (hold:=H) (on:=O) (log:=G) (x:=.int r) (y:=.int (m+t));have nd:=nI (D:=D) (R:=R) (ats:=A) (now:=T) (who:=W) (til:=L) (hold:=H) (on:=O) (log:=G);have g:=nJ (D:=D) (R:=R) (ats:=A) (now:=T) (who:=W) (til:=L) (hold:=H) (on:=O) (log:=G);rw[<-f];generalize aQ D R A T W L H O G=a at *;unfold xX ni;rw[show eu (aZ a K (!.dat (.int r)) (!.dat (.int m)) x4 x5) 0=some (true,a) from rfl];simp only;rw[e];simp only[ef];unfold sH;rw[show eu (aZ a K (!.dat (.int r)) (!.dat (.int m)) x4 x5) 0=some (true,a) from rfl];show(if _ then _ else _)=_;rw[if_pos #[nd,u,by rw[g];show 9+2<1000;decide]];rfl
def ya(h:PyData.strOk w=true)(d c):Ly 1 (.tuple [.str w,ai d,ai c]):=ub λx a=>by
 simp only[q0c,q0z,or_false]at a;rcases a with rfl |rfl |rfl
 .exact Cg h _
 .exact iR _ _
 .exact iR _ _
def Cw(h:PyData.strOk w=true)(b:Ly 0 x):Ly 1 (.tuple [.str w,x]):=ub λy a=>by
 simp only[q0c,q0z,or_false]at a;rcases a with rfl |rfl
 .exact Cg h _
 .exact b
def uh(k):Ly 1 (me k):=Cw 'g' (iR _ _)
structure pD (un:aU->Nat) (C:Addr) (S:Hl) (c:PyData) (m:Int) (n:Nat) (d:PyData) (S':Hl):Prop where
 do_:fj C [.own true (hB C S),.dat c]=.rt (.dat d) [hB C S']
 ow:jD [.own true (.sd (bN (bx (bF un S)) S)),.dat c]=.rt (.dat d) [.sd (bN (bx (bF un S)) S')]
 inv:br un S' m (n+1)
 fx:S'.a=S.a/\S'.ss=S.ss/\S'.ds=S.ds
 ly:Ly 1 d
def Cy(I:br un S m n)(d:m<=c.mo)(K):ak xP (ak ue (ak xR K)) (aZ (bN R S) (cj c) none none none none)=K (aZ (bN R S) (cj c) (!.dat (.int c.ru)) (!.dat (.int c.mo)) (!.dat (.bool (eT S.holder c.mo S.til))) none):=by
 have b:¬ c.mo<S.last.getD (-1):=by
  have a:=I.lm;have:=I.m0;cases e:S.last with
  |none=>show ¬ c.mo < -1;lia
  |some l=>simp_all
 rw[bp (LW (by cases c<;>kernel_rfl)),bp (ZO nH b),bp (ZQ px LB)]
def d_(I:br un S m n)(s:m<=a):jD [.own true (.sd (bN R S)),.dat (cj (.take r a t))]=.rt (.dat (.bool (nE S r a t).2)) [.sd (bN R (nE S r a t).1)]:=by
 have i:au (cj (.take r a t)) (.int 0)=!.str "take":=rfl;have p:au (cj (.take r a t)) (.int 3)=!.int t:=rfl;have u:av true (.str "take") (.str "take")=!.bool false:=by kernel_rfl
 have v:av false (.str "take") (.str "finish")=!.bool false:=by kernel_rfl
 have w:av false (.str "take") (.str "take")=!.bool true:=by kernel_rfl
 have pre:=Cy (R:=R) (c:=.take r a t) I s;have go:∀(Q:PyData) (j:List (Str×Fl)),ak mw (ak xW (ak xX (bc (xC (.bool true))))) (aZ (bN R { S with last:=!a }) (cj (.take r a t)) (!.dat (.int r)) (!.dat (.int a)) (!.dat (.bool (eT S.holder a S.til))) none)=.rt (.dat Q) (aZ j (cj (.take r a t)) (!.dat (.int r)) (!.dat (.int a)) (!.dat (.bool (eT S.holder a S.til))) none)->jD [.own true (.sd (bN R S)),.dat (cj (.take r a t))]=.rt (.dat Q) [.sd j]:=λQ j h=>by refine pC (x2:=!.dat (.int r)) (x3:=!.dat (.int a)) (x4:=!.dat (.bool (eT S.holder a S.til))) (x5:=none) ?_;rw[pB,pre];refine(bp (gw (xY (jI i u)))).trans ?_;refine(bp (Cs i v)).trans ?_;refine(bp xZ).trans ?_;exact jo ((iw (jI i w)).trans h)
 refine go _ _ ?_;unfold nE;have k:gf S a = (S.holder.isSome&&decide (a<S.til)):=rfl;cases b:gf S a with
 |false=>
  rw[if_pos rfl];have f:eT S.holder a S.til=true:=by rw[k]at b;simp only[eT,b];rfl
  rw[f];refine(bp (gw (xY Cv))).trans ?_;refine(bp b_).trans ?_;refine(bp (Md p)).trans ?_;simp;rfl
 |true=>
  rw[if_neg 'd'];have f:eT S.holder a S.til=false:=by rw[k]at b;simp only[eT,b];rfl
  rw[f];obtain⟨h,l⟩:∃h,S.holder=!h:=by
   cases e:S.holder with
   |none=>rw[k,e]at b;cases b
   |some h=>exact#[h,rfl]
  have g:aC (aa (av true) (xQ (ba 0 "who")) (xV 2)) (aZ (bN R { S with last:=!a }) (cj (.take r a t)) (!.dat (.int r)) (!.dat (.int a)) (!.dat (.bool false)) none)=.ok (decide (h≠r)) (aZ (bN R { S with last:=!a }) (cj (.take r a t)) (!.dat (.int r)) (!.dat (.int a)) (!.dat (.bool false)) none):=LX (by rw[px];show some (Fl.d (cm S.holder))=_;rw[l];rfl)
  by_cases q:S.holder=some r
  .rw[if_pos q];have o:h=r:=by rw[l]at q;cases q;rfl
   rw[show decide (h≠r)=false by simp[o]]at g;refine(bp (gw ((nM Cv).trans g))).trans ?_;refine(bp (gw ug)).trans ?_;refine(bp (Md p)).trans ?_;simp;rfl
  .rw[if_neg q];have o:h≠r:=λz=>q (by rw[l,z]);rw[show decide (h≠r)=true by simp[o]]at g;refine jo ((iw ((nM Cv).trans g)).trans ?_);simp
def Cz(I:br un S m n)(d:m<=c.mo)(f:au (cj c) (.int 0)=!.str w)(e:av true (.str w) (.str "take")=!.bool true)(g:(gf S c.mo&&decide (S.holder=!c.ru))=false):jD [.own true (.sd (bN R S)),.dat (cj c)]=.rt (.dat (me 8)) [.sd (bN R S)]:=by apply pC (x2:=!.dat (.int c.ru)) (x3:=!.dat (.int c.mo)) (x4:=!.dat (.bool (eT S.holder c.mo S.til))) (x5:=none);rw[pB,Cy I d];have a:=LZ (M:=bN R S) (r:=c.ru) (m:=c.mo) (til:=S.til) (x3:=!.dat (.int c.mo)) (x5:=none) f e px;have b:((S.holder.isSome&&decide (c.mo<S.til))&&decide (S.holder=!c.ru))=false:=g;rw[b]at a;exact jo ((iw a).trans Cr)
def yb(I:br un S m n)(d:m<=c.mo)(f:au (cj c) (.int 0)=!.str w)(e:av true (.str w) (.str "take")=!.bool true)(g:(gf S c.mo&&decide (S.holder=!c.ru))=true)(K):ak xP (ak ue (ak xR (ak xS K))) (aZ (bN R S) (cj c) none none none none)=K (aZ (bN R S) (cj c) (!.dat (.int c.ru)) (!.dat (.int c.mo)) (!.dat (.bool (eT S.holder c.mo S.til))) none):=by rw[Cy I d];have a:=LZ (M:=bN R S) (r:=c.ru) (m:=c.mo) (til:=S.til) (x3:=!.dat (.int c.mo)) (x5:=none) f e px;have b:((S.holder.isSome&&decide (c.mo<S.til))&&decide (S.holder=!c.ru))=true:=g;rw[b]at a;exact bp (gw a)
def br.rest(I:br un S m n):br un S m (n+1):=I.same (I.run.mono (q0M _) 'a') (q0M _) I.lm rfl rfl rfl rfl rfl
def br.at_(I:br un S m n)(h:m<=a):br un { S with last:=!a } a (n+1):=I.same ((I.run.last h).mono (q0M _) 'a') h rfl rfl rfl rfl rfl rfl
def e_(I:br un S m n)(h:m<=f):br un (eZ S r f).1 f (n+1)/\((eZ S r f).1.a=S.a/\(eZ S r f).1.ss=S.ss/\(eZ S r f).1.ds=S.ds)/\Ly 1 (eZ S r f).2:=by
 have l:=I.at_ h;cases hb:S.begun with
 |some b=>
  let⟨d,c,k⟩:=b;let⟨x,v,q1,q2,q3,q4⟩:=I.bg d c k hb
  by_cases i:k=S.holds
  .have e:eZ S r f = ({ S with last:=!f },.tuple [.str "busy",ai d,ai c]):=by unfold eZ;rw[hb];simp only;rw[if_pos i]
   rw[e];exact#[l,#[rfl,rfl,rfl],ya 'g' d c]
  .have e:eZ S r f = (er { S with last:=!f } #[f,r,if x.again=true then .begun else .unsure,d,c],.tuple [.str (df (if x.again=true then .begun else .unsure)),ai d,ai c]):=by unfold eZ;rw[hb];simp only;rw[if_neg i];unfold mj;show(match S.ds[d]? with |some x=>_ |none=>_)=_;rw[q1]
   rw[e];exact#[I.add h #[q1,q2,by lia,q4],#[rfl,rfl,rfl],ya (xO _) d c]
 |none=>
  have o:eZ S r f = gK { S with last:=!f } r f:=by unfold eZ;rw[hb]
  rw[o];cases j:lc { S with last:=!f } with
  |none=>
   have e:gK { S with last:=!f } r f = ({ S with last:=!f },.tuple [.str "idle",.none]):=by unfold gK;rw[j]
   rw[e];exact#[l,#[rfl,rfl,rfl],Cw 'g' (Cf _)]
  |some p=>
   let⟨v,k⟩:=p;let⟨i,ht,_⟩:=xD j;have g:k<S.ds.length:=i
   by_cases hv:f<v
   .have e:gK { S with last:=!f } r f = ({ S with last:=!f },.tuple [.str "idle",.int v]):=by unfold gK;rw[j];simp only;rw[if_pos hv]
    rw[e];exact#[l,#[rfl,rfl,rfl],Cw 'g' (iR _ _)]
   .have q1:S.ds[k]? = !S.ds[k]:=q0j g;have e:gK { S with last:=!f } r f = (er { S with last:=!f } #[f,r,if kt S.a S.ss S.ds[k] (bI S k) f = true then .left else .begun,k,bI S k],.tuple [.str (df (if kt S.a S.ss S.ds[k] (bI S k) f = true then .left else .begun)),ai k,ai (bI S k)]):=by unfold gK;rw[j];simp only;rw[if_neg hv];show(match S.ds[k]? with |some d=>_ |none=>_)=_;rw[q1];rfl
    rw[e];exact#[I.add h #[q1,ht,by lia,mr I.run.ok g],#[rfl,rfl,rfl],ya (xO _) _ _]
def f_(I:br un S m n)(L:n<900)(l:ml c m)(q:c.mo<=1740):∃d N y,pD un C S (cj c) y n d N/\m<=y/\y<=c.mo:=by
 have p:=I.run;have Y:=p.rl;have Z:=p.wl;have m0:=I.m0;have f:=l.m.1;have O:0<=c.mo/\c.mo<=9999:=by lia
 have s:=p.call l.r l.m.1 O;have w1:av true (.str "give") (.str "take")=!.bool true/\av true (.str "step") (.str "take")=!.bool true/\av true (.str "finish") (.str "take")=!.bool true:=#[by kernel_rfl,by kernel_rfl,by kernel_rfl]
 have w2:av false (.str "give") (.str "finish")=!.bool false/\av false (.str "step") (.str "finish")=!.bool false/\av false (.str "finish") (.str "finish")=!.bool true:=#[by kernel_rfl,by kernel_rfl,by kernel_rfl]
 have z:av false (.str "give") (.str "take")=!.bool false/\av false (.str "step") (.str "take")=!.bool false/\av false (.str "finish") (.str "take")=!.bool false:=#[by kernel_rfl,by kernel_rfl,by kernel_rfl]
 have A:av false (.str "give") (.str "give")=!.bool true/\av false (.str "step") (.str "give")=!.bool false/\av false (.str "finish") (.str "give")=!.bool false:=#[by kernel_rfl,by kernel_rfl,by kernel_rfl]
 have B:av false (.str "step") (.str "step")=!.bool true/\av false (.str "finish") (.str "step")=!.bool false:=#[by kernel_rfl,by kernel_rfl]
 cases c with
 |take r a t=>
  have ht:=l.t r a t rfl;simp only[Cl.mo]at f q;have i:fZ C [.own true (hB C S),.dat (.int r),.dat (.int a)]=.rt (.dat .none) [hB C S]:=s;have h:=YC (XZ i (by simp[cT];lia) (t:=t));have o:=d_ (R:=bx (bF un S)) (r:=r) (t:=t) I f;refine#[_,_,a,#[h,o,?_,?_,Zq _ _],f,q0M _]
  .unfold nE
   by_cases D:gf S a = false
   .rw[if_pos D];exact I.same ((p.hold l.m.1 (λh e=>by cases e;exact l.r) (by show a+t<=a+99;lia)).mono (q0M _) 'a') f rfl rfl rfl rfl rfl rfl
   .rw[if_neg D]
    by_cases E:S.holder=some r
    .rw[if_pos E];exact I.same ((p.hold (k:=S.holds) l.m.1 (λh e=>by cases e;exact l.r) (by show a+t<=a+99;lia)).mono (q0M _) 'a') f rfl rfl rfl rfl rfl rfl
    .rw[if_neg E];exact I.at_ f
  .unfold nE;split
   .exact#[rfl,rfl,rfl]
   .split<;>exact#[rfl,rfl,rfl]
 |give r a=>
  simp only[Cl.mo]at f q;have i:fZ C [.own true (hB C S),.dat (.int r),.dat (.int a)]=.rt (.dat .none) [hB C S]:=s;cases hb:(gf S a&&decide (S.holder=!r)) with
  |false=>exact#[_,S,m,#[Lu (KR (BC i hb)) Bv 'k',Cz (c:=.give r a) (w:="give") I f rfl w1.1 hb,I.rest,#[rfl,rfl,rfl],uh 8],q0M _,f]
  |true=>have g:=hb;rw[q0B]at g;have h:=YE (Ya (BD i g.1 (of_decide_eq_true g.2)));refine#[_,{ S with last:=!a,holder:=none },a,#[h,?_,I.same ((p.hold (k:=S.holds) (u:=S.til) l.m.1 (λh e=>by cases e) (by have:=p.ti;show S.til<=a+99;lia)).mono (q0M _) 'a') f rfl rfl rfl rfl rfl rfl,#[rfl,rfl,rfl],Cf _],f,q0M _];refine pC (x2:=!.dat (.int r)) (x3:=!.dat (.int a)) (x4:=!.dat (.bool (eT S.holder a S.til))) (x5:=none) ?_;rw[pB];refine(yb (c:=.give r a) (w:="give") I f rfl w1.1 hb _).trans ?_;refine(bp (Cs (w:="give") rfl w2.1)).trans ((bp xZ).trans ((bp (Cu (w:="give") rfl z.1)).trans (jo (ZV (w:="give") rfl A.1))))
 |step r a=>
  simp only[Cl.mo]at f q;have i:fZ C [.own true (hB C S),.dat (.int r),.dat (.int a)]=.rt (.dat .none) [hB C S]:=s;cases hb:(gf S a&&decide (S.holder=!r)) with
  |false=>exact#[_,S,m,#[Lv (KS (BC i hb)) Bv 'k',Cz (c:=.step r a) (w:="step") I f rfl w1.2.1 hb,I.rest,#[rfl,rfl,rfl],uh 8],q0M _,f]
  |true=>have g:=hb;rw[q0B]at g;have h:=YF (Yz p.ok 'a' 'a' (BD i g.1 (of_decide_eq_true g.2)));let⟨Q,T,U⟩:=e_ (r:=r) I f;refine#[_,(eZ S r a).1,a,#[h,?_,Q,T,U],f,q0M _];refine pC (x2:=!.dat (.int r)) (x3:=!.dat (.int a)) (x4:=!.dat (.bool (eT S.holder a S.til))) (x5:=none) ?_;rw[pB];refine(yb (c:=.step r a) (w:="step") I f rfl w1.2.1 hb _).trans ?_;have G:=ZN (r:=r) (I.same (I.run.last f) f rfl rfl rfl rfl rfl rfl:br un { S with last:=!a } a n) L q rfl;have X:eZ { S with last:=!a } r a = eZ S r a:=rfl;rw[X]at G;refine(bp (Cs (w:="step") rfl w2.2.1)).trans ((bp xZ).trans ((bp (Cu (w:="step") rfl z.2.1)).trans ((bp (Mb (w:="step") rfl A.2.1)).trans (jo (ZX (w:="step") rfl B.1 G)))))
 |finish r a=>
  simp only[Cl.mo]at f q;have i:fZ C [.own true (hB C S),.dat (.int r),.dat (.int a)]=.rt (.dat .none) [hB C S]:=s;cases hb:(gf S a&&decide (S.holder=!r)) with
  |false=>exact#[_,S,m,#[BP (KU (BC i hb)) Bv 'k',Cz (c:=.finish r a) (w:="finish") I f rfl w1.2.2 hb,I.rest,#[rfl,rfl,rfl],uh 8],q0M _,f]
  |true=>
   have g:=hb;rw[q0B]at g;have H:=BD i g.1 (of_decide_eq_true g.2);have no:lb S=false->jD [.own true (.sd (bN (bx (bF un S)) S)),.dat (cj (.finish r a))]=.rt (.dat (me 9)) [.sd (bN (bx (bF un S)) S)]:=λj=>by
    refine pC (x2:=!.dat (.int r)) (x3:=!.dat (.int a)) (x4:=!.dat (.bool (eT S.holder a S.til))) (x5:=none) ?_;rw[pB];refine(yb (c:=.finish r a) (w:="finish") I f rfl w1.2.2 hb _).trans (jo ?_);unfold lb at j;cases hx:S.begun with
    |none=>exact ZT (w:="finish") rfl w2.2.2 (by rw[jn,hx];rfl)
    |some b=>let⟨d,c,k⟩:=b;rw[hx]at j;refine(Ma (w:="finish") (d:=d) (h:=k) (h':=S.holds) rfl w2.2.2 (by rw[jn,hx];rfl) mq).trans ?_;rw[if_neg (of_decide_eq_false j)];rfl
   cases j:lb S with
   |false=>exact#[_,S,m,#[BP (by have a:=BL (S:=S);rw[j]at a;simp[kT,wT,cq,H,a]) Xz 'k',no j,I.rest,#[rfl,rfl,rfl],uh 9],q0M _,f]
   |true=>
    obtain⟨d,c,e⟩:∃d c,S.begun=!(d,c,S.holds):=by
     unfold lb at j;cases hx:S.begun with
     |none=>rw[hx]at j;cases j
     |some x=>let⟨d,c,k⟩:=x;rw[hx]at j;exact#[d,c,by rw[of_decide_eq_true j]]
    let⟨x,v,q1,q2,q3,q4⟩:=I.bg d c _ e;refine#[_,er { S with last:=!a } #[a,r,.done,d,c],a,#[YG (YB p.ok 'a' 'a' H e),?_,I.add f #[q1,q2,by lia,q4],#[rfl,rfl,rfl],ya 'g' d c],f,q0M _];refine pC (x2:=!.dat (.int r)) (x3:=!.dat (.int a)) (x4:=!.dat (.bool (eT S.holder a S.til))) (x5:=!.dat (ai d)) ?_;rw[pB];refine(yb (c:=.finish r a) (w:="finish") I f rfl w1.2.2 hb _).trans ?_;have J:=Ma (w:="finish") (M:=bN (bx (bF un S)) S) (K:=cj (.finish r a)) (x2:=!.dat (.int r)) (x3:=!.dat (.int a)) (x4:=!.dat (.bool (eT S.holder a S.til))) (x5:=none) (d:=d) (h:=S.holds) (h':=S.holds) rfl w2.2.2 (by rw[jn,e];rfl) mq;rw[if_pos rfl]at J;refine(bp J).trans ((bp xZ).trans ((bp (Cu (w:="finish") rfl z.2.2)).trans ((bp (Mb (w:="finish") rfl A.2.2)).trans ((bp (ZU (w:="finish") rfl B.2)).trans ?_))));rw[e];refine(bp ZY).trans ((bp ZZ).trans (a_ ?_));exact ud (S:={ S with last:=!a }) (wd:=.done) q4 (by show S.rows.length<1000;lia) rfl
noncomputable def nN:Cl->Int->Cl
 |.take r _ t,m=>.take r m t
 |.give r _,m=>.give r m
 |.step r _,m=>.step r m
 |.finish r _,m=>.finish r m
def ui(I:br un S m n)(f:0<=c.ru/\c.ru<=3)(d:S.last=!l)(g:0<=c.mo/\c.mo<=9999)(e:c.mo<l):pD un C S (cj c) m n (me 2) S:=by
 have a:fZ C [.own true (hB C S),.dat (.int c.ru),.dat (.int c.mo)]=.ex "NoMoment" [hB C S]:=XW rfl (by simp[cT];lia) (by simp[cT];lia) (by unfold pd;simp_all);refine#[?_,?_,I.rest,#[rfl,rfl,rfl],uh 2]
 .cases c with
  |take r b t=>exact YD (XY a) xi xj
  |give r b=>exact Lu (KR (BB a)) xi xj
  |step r b=>exact Lv (KS (BB a)) xi xj
  |finish r b=>exact BP (KU (BB a)) xi xj
 .refine pC (x2:=!.dat (.int c.ru)) (x3:=!.dat (.int c.mo)) (x4:=none) (x5:=none) ?_;rw[pB,bp (LW (by cases c<;>kernel_rfl))];refine jo (ZP nH ?_);rw[d];exact e
noncomputable def pE(l:List Int)(m:Int):Nat:=(l.filter λt=>decide (t<=m)).length
theorem CA(z:eG a ss)(ok:dN p)(u:bV a ss p m n)(b:bV a ss p 4500 N)(g:m<=4500):∀q c,c+q=N->pE (gM a ss p N c) m=n - c
 |0,c,h=>by
  rw[tW 'a'];have:n<=N:=by
   rcases q1r N n with q |q
   .let⟨v,d,i⟩:=u.in_ N q;have:=lU z ok b (bu _) d;lia
   .exact q
  show 0=n - c;lia
 |q+1,c,h=>by
  have e:=CA z ok u b g q (c+1) 'a';rw[LD 'a'];let⟨v,d,i⟩:=b.in_ c 'a';unfold pE at e ⊢;rw[q1j,xH d]
  by_cases k:c<n
  .let⟨w,f,j⟩:=u.in_ c k;rw[d]at f;cases f;rw[if_pos (decide_eq_true j),q0t,e];lia
  .have:=lU z ok u (by lia:n<=c) d;rw[if_neg (by simp;lia),e];lia
def Mf(z:eG a ss)(ok:dN p)(u:bV a ss p m n)(s:nK a ss p c m):c<=n:=by
 rcases s with s |⟨v,b,d⟩
 .omega
 .rcases q1r (c - 1) n with q |q
  .omega
  .have:=lU z ok u q b;lia
abbrev wW(un:aU->Nat)(S:Hl)(m:Int)(d:bP)(c:Nat):PyData:=.int (pE (gM S.a S.ss d.plan (un d.plan) c) m)
theorem Mg(ok:bL S)(o:S.last=!m)(r:m<=4500)(up:∀d∈S.ds,bV S.a S.ss d.plan 4500 (un d.plan)):∀b  f  g  x y,(∀d∈b,d∈S.ds)->(∀(k c:Nat)  d,b[k]? = !d->f[k]? = !c->nK S.a S.ss d.plan c m)->g.length+b.length<900->cE (dB 2 (bC (aw 0) (bC (aw 1) dJ))) dL (oS C) (cN (b.map cg) (f.map ai)) g [x,y,!.vw (hB C S)]=some (g++List.zipWith (wW un S m) b f)
 |[],f,g,x,y,_,_,h=>by simp[cN,cE]
 |e::b,[],g,x,y,_,_,h=>by simp[cN,cE]
 |e::b,k::f,g,x,y,hd,hs,h=>by
  have sz:1000<sizeLine:=by decide
  simp only[q0t]at h;have s:=hd e q0g;have i:=(ok.pl e s).plan;let⟨n,u⟩:=wg (p:=e.plan) (last:=m) ok.z i 'a';have w:=XH ok.z i u;have s0:=Mf ok.z i u (hs 0 k e rfl rfl);have A:PyData.int ((n:Int) - k)=wW un S m e k:=by
   have:=up e s;rcases Nat.le_total k (un e.plan) with q |q
   .rw[wW,CA ok.z i u this r (un e.plan - k) k 'a']
    congr 1;lia
   .have L:n<=un e.plan:=by
     rcases q1r (un e.plan) n with q2 |q2
     .let⟨v,l,t⟩:=u.in_ _ q2;have:=lU ok.z i this (bu _) l;lia
     .exact q2
    rw[wW,tW q];show PyData.int _=.int ((0:Nat):Int)
    congr 1;lia
  have B:=Mg ok o r up b f (g++[wW un S m e k]) (!.dat (cg e)) (!.dat (ai k)) (λd h=>hd d (bK _ h)) (λj c d l t=>hs (j+1) c d (by simpa using l) (by simpa using t)) (by simp;lia);have D:au (cg e) (.int 0)=!gv e.plan:=rfl;have E:oS C [!.dat (cg e),!.dat (ai k),!.vw (hB C S)]=.ok (.int ((n:Int) - k)) [!.dat (cg e),!.dat (ai k),!.vw (hB C S)]:=by
   have G:kL C 2 "zone" [!.dat (cg e),!.dat (ai k),!.vw (hB C S)]=.ok (bY S.a S.ss) [!.dat (cg e),!.dat (ai k),!.vw (hB C S)]:=by simp[kL,qe]
   have H:kL C 2 "last" [!.dat (cg e),!.dat (ai k),!.vw (hB C S)]=.ok (.int m) [!.dat (cg e),!.dat (ai k),!.vw (hB C S)]:=by simp[kL,qe,o,cm]
   generalize bY S.a S.ss=M at *;generalize gv e.plan=N at *;generalize cg e=dd at *;unfold oS;generalize kL C 2 "zone" = O at *;generalize kL C 2 "last" = Q at *;simp[-au,G,H,D,w]
  have I:dB 2 (bC (aw 0) (bC (aw 1) dJ)) (PyData.tuple [cg e,ai k]) [x,y,!.vw (hB C S)]=![!.dat (cg e),!.dat (ai k),!.vw (hB C S)]:=by simp
  have J:cN ((e::b).map cg) ((k::f).map ai)=.tuple [cg e,ai k]::cN (b.map cg) (f.map ai):=rfl;rw[J,cE];simp only[I,dL,E];rw[if_pos 'a',A,B,q2A,q0m,q04]
theorem Mh:∀l a  x,a.length+l.length<900->cE (aw 0) dL (wJ C) l a [x]=some (a++List.replicate l.length (.int 0))
 |[],a,x,_=>by simp[cE]
 |d::l,a,x,h=>by
  have sz:1000<sizeLine:=by decide
  simp only[q0t]at h;have b:=Mh l (a++[.int 0]) (!.dat d) (by simp;lia);have c:wJ C [!.dat d]=.ok (.int 0) [!.dat d]:=by simp[wJ]
  rw[cE];simp only[aw,q0N,dL,c];rw[if_pos 'a',b,q0t,q0F,q0m,q04]
def fb(un:aU->Nat)(S:Hl):List PyData:=List.zipWith (wW un S (S.last.getD (-1))) S.ds S.settled
def CB(ok:bL S):(fb un S).length=S.ds.length:=by unfold fb;rw[List.length_zipWith,ok.sl,Nat.min_self]
def g_:(fb un S).all kK=true:=by rw[q02];intro x a;unfold fb at a;let⟨i,b,rfl⟩:=q1B a;simp_all
def h_(I:br un S m n)(h:S.last=none):fb un S=List.replicate S.ds.length (.int 0):=by
 have f:∀d∈S.ds,∀c,wW un S (-1) d c=.int 0:=λd hd c=>by
  have e:=(I.run.ok.pl d hd).plan;have u:bV S.a S.ss d.plan (-1) 0:=AD I.run.ok.z e;unfold wW;rcases Nat.le_total c (un d.plan) with q |q
  .rw[CA I.run.ok.z e u (I.up d hd) 'a' (un d.plan - c) c 'a',Nat.zero_sub];rfl
  .rw[tW q];rfl
 apply List.ext_getElem
 .rw[CB I.run.ok,q0V]
 .intro i g j;rw[List.getElem_replicate];simp only[fb,List.getElem_zipWith,h];exact f _ (q0G _) _
def i_(I:br un S m n)(f:m<=4500):oU C [.own true (hB C S)]=.rt (.own false (.l (fb un S))) [hB C S]:=by
 have sz:1000<sizeLine:=by decide
 have ok:=I.run.ok;have de:=jG S.ds;have t:=ok.dl;have wl:=CB (un:=un) ok;have at_:=g_ (un:=un) (S:=S);cases h:S.last with
 |none=>
  have g:=Mh (S.ds.map cg) [] none (by simp;lia);rw[q0r,q0d,<-h_ I h]at g;have ll:(fb un S).length<=sizeLine:=by lia
  generalize fb un S=L at *;rw[q02]at at_;have i:=eq_true at_;simp[i,oU,wK,oK,AA,h,cm,de,g,ll]
 |some e=>
  have j:e=m:=by have:=I.lm;rw[h]at this;exact this
  subst j;have g:=Mg (un:=un) ok h f I.up S.ds S.settled [] none none (λd h=>h) (λk c d o p=>I.st k c d o p) (by simp;lia);have q:List.zipWith (wW un S e) S.ds S.settled=fb un S:=by unfold fb;rw[h];rfl
  rw[q0r,q]at g;have ll:(fb un S).length<=sizeLine:=by lia
  generalize fb un S=L at *;generalize r:cN (S.ds.map cg) (S.settled.map ai)=P at *;have a:lP C 0 "deeds" "settled" [!.own true (hB C S)]=.ok P [!.own true (hB C S)]:=by simp[lP,cF,de,r,show S.ds.length<=S.settled.length from q2B ok.sl.symm]
  have k:rZ 2 [0] (lP C 0 "deeds" "settled") (dB 2 (bC (aw 0) (bC (aw 1) dJ))) dL (oS C) [!.own true (hB C S)]=.ok (.list L) [!.own true (hB C S)]:=by generalize lP C 0 "deeds" "settled" = u at *;have lw:rY 2 [0] [!.own true (hB C S)]=[none,none,!.vw (hB C S)]:=rfl;simp only[rZ,a,gF.bind,Ah,lw,g,Option.bind_some,ll,at_,and_self,if_true,lift]
  have b:wK C [!.own true (hB C S)]=.rt (.own false (.l L)) [!.own true (hB C S)]:=by
   unfold wK;have s:oK 2 [0] (lP C 0 "deeds" "settled") (dB 2 (bC (aw 0) (bC (aw 1) dJ))) dL (oS C) [!.own true (hB C S)]=.ok (.own false (.l L)) [!.own true (hB C S)]:=by unfold oK;rw[k];rfl
   generalize oK 2 [0] (lP C 0 "deeds" "settled") (dB 2 (bC (aw 0) (bC (aw 1) dJ))) dL (oS C)=v at *;simp[h,cm,s]
  exact ku rfl b rfl
def yc{U:ag}(a:List.lookup m (aD S)=none)(h:f [.own true (hB C S)]=.rt c [hB C S]):dZ C 0 m f (some (.own true (hB C S))::U)=.ok c (some (.own true (hB C S))::U):=by simp[dZ,a,h]
def uj(h:m U=.ok (.own false (.l a)) U)(b:a.length<sizeLine):sG m U=.nx U:=by simp[sG,h,vY,sF,b]
abbrev ed(C:Addr)(S:Hl)(M:List (Str×Fl))(a b c:Option af):ag:=[!.own true (hB C S),!.own true (.sd M),a,b,c]
def l_{V }{U:ag}(c:a (b::some (.own true (.sd M))::U)=.ok V (b::some (.own true (.sd M))::U))(d:gX g t e V [] [none,!.own true (.sd M)]=!(L,[y,!.own true (.sd M)]))(f:L.length<=sizeLine):kj 1 [1] 0 1 a g t e (b::some (.own true (.sd M))::U)=.ok (.list L) (b::some (.own true (.sd M))::U):=by unfold kj;rw[c];simp only[gF.bind,sh,List.getElem?_cons_succ,q1L];simp[d,f]
def m_(a:M.lookup ("now":Str)=!.d (.int now)):oW C [!.dat (.int t),!.own true (.sd M)]=.ok (decide (t<=now)) [!.dat (.int t),!.own true (.sd M)]:=by simp[oW,(dg (U:=[!.dat (.int t),!.own true (.sd M)]) (i:=1) rfl a)]
theorem CC(f:M.lookup ("now":Str)=!.d (.int now)):∀(l:List Int)  b  x,b.length+l.length<=900000->∃y,gX (aw 0) (oW C) (qx C) (l.map PyData.int) b [x,!.own true (.sd M)]=some (b++(l.filter λt=>decide (t<=now)).map PyData.int,[y,!.own true (.sd M)])
 |[],b,x,_=>#[x,by simp[gX]]
 |t::l,b,x,h=>by
  have sz:1000000<sizeLine:=by decide
  simp only[q0t]at h;have a:=m_ (t:=t) f;have e:qx C [!.dat (.int t),!.own true (.sd M)]=.ok (.int t) [!.dat (.int t),!.own true (.sd M)]:=by simp[qx]
  rw[q0h,gX,q1j];simp only[aw,q0N,q0t,q0T]
  by_cases q:t<=now
  .rw[decide_eq_true q]at a ⊢;let⟨y,c⟩:=CC f l (b++[.int t]) (!.dat (.int t)) (by simp;lia);refine#[y,?_];rw[if_pos rfl,q0h];rw[q0m,q04]at c;rw[<-c];generalize oW C=g at *;generalize qx C=i at *;simp[a,e,show b.length<sizeLine by lia]
  .rw[decide_eq_false q]at a ⊢;let⟨y,c⟩:=CC f l b (!.dat (.int t)) 'a';refine#[y,?_];rw[if_neg 'd',<-c];generalize oW C=g at *;simp[a]
def n_{b:List Nat}(f:M.lookup ("now":Str)=!.d (.int now))(h:M.lookup ("at":Str)=!.l (b.map ai))(j:b[k]? = !c)(r:l.length<=20000)(s:a.length<900):oX C (ed C S M (!.own false (.l a)) (!.dat (ai k)) (!.dat (iL l)))=.nx (ed C S M (!.own false (.l (a++[.int (pE (l.drop c) now)]))) (!.dat (ai k)) (!.dat (iL l))):=by
 have sz:1000000<sizeLine:=by decide
 have q:=tT (U:=ed C S M (!.own false (.l a)) (!.dat (ai k)) (!.dat (iL l))) (i:=1) (g:=fB 3) (n:=k) rfl rfl h (tV j);have sl:=LH l c;have e:mP (ki (xV 4) (jh (xQ (iq 1 "at" (fB 3)))) lQ) (ed C S M (!.own false (.l a)) (!.dat (ai k)) (!.dat (iL l)))=.ok ((l.drop c).map PyData.int) (ed C S M (!.own false (.l a)) (!.dat (ai k)) (!.dat (iL l))):=by have m:iL (l.drop c)=.list ((l.drop c).map PyData.int):=rfl;rw[m]at sl;generalize (l.drop c).map PyData.int=V at *;generalize iL l=I at *;simp[q,sl]
 have dl:(l.drop c).length<=20000:=by rw[q2s];lia
 let⟨y,go⟩:=CC f (l.drop c) [] none (by simp only[q0T];lia);rw[q0r]at go;have u:((l.drop c).filter λt=>decide (t<=now)).length<=(l.drop c).length:=q1q _ _;have o:=l_ e go (by rw[q0d];lia);have p:cK [.list (((l.drop c).filter λt=>decide (t<=now)).map PyData.int)]=!.int (pE (l.drop c) now):=by simp[cK,pE]
 generalize ((l.drop c).filter λt=>decide (t<=now)).map PyData.int=W at *;generalize pE (l.drop c) now=N at *;unfold oX;generalize kj 1 [1] 0 1 (mP (ki (xV 4) (jh (xQ (iq 1 "at" (fB 3)))) lQ)) (aw 0) (oW C) (qx C)=v at *;generalize iL l=I at *;simp[-cK,o,p,show a.length<sizeLine by lia]
theorem Mj{ats:List Nat}(r:M.lookup ("now":Str)=!.d (.int now))(s:M.lookup ("at":Str)=!.l (ats.map ai))(up:∀d∈S.ds,bV S.a S.ss d.plan 4500 (un d.plan)):∀g  i  k  f  m n,(∀d∈g,d∈S.ds)->(∀j c,i[j]? = !c->ats[k+j]? = !c)->g.length=i.length->f.length+g.length<900->∃o p,cz (dB 2 (bC (aw 3) (bC (aw 4) dJ))) (oX C) (hF k ((g.map λd=>bX S.a S.ss d.plan (un d.plan)).map iL)) (ed C S M (!.own false (.l f)) m n)=.nx (ed C S M (!.own false (.l (f++List.zipWith (wW un S now) g i))) o p)
 |[],i,k,f,m,n,_,_,_,_=>#[m,n,by simp[hF,cz]]
 |e::g,[],k,f,m,n,_,_,h,_=>by cases h
 |e::g,c::i,k,f,m,n,hd,t,v,x=>by
  simp only[q0t]at v x;have q:=up e (hd e q0g);have b:=n_ (S:=S) (l:=bX S.a S.ss e.plan (un e.plan)) r s (t 0 c rfl) (by have:=q.le;simp[bX];exact this) (by lia:f.length<900);let⟨o,p,u⟩:=Mj r s up g i (k+1) (f++[wW un S now e c]) (!.dat (ai k)) (!.dat (iL (bX S.a S.ss e.plan (un e.plan)))) (λd h=>hd d (bK _ h)) (λj z h=>by have:=t (j+1) z (by simpa using h);rw[<-this];congr 1;lia) 'a' (by simp;lia);refine#[o,p,?_];rw[q0h,q0h,hF,cz,q2A];simp_all
abbrev o_(C:Addr):SM:=(aV (fg (aC (sI 1 "log" (aO (dZ C 0 "log" (lW C))))) (aC (aa (av true) (aO (dZ C 0 "held" (nq C))) (cc (aj (xQ (ba 1 "who")) (aj (xQ (ba 1 "until")) (aj (xQ (ba 1 "hold")) aE))))))) (bc (xC (.bool false))) aY)
def p_{H :PyData}(b:lW C [.own true (hB C S)]=.rt (.own false (.l G)) [hB C S])(c:nq C [.own true (hB C S)]=.rt (.dat (.tuple [W,L,O])) [hB C S])(e:M.lookup ("log":Str)=!.l G)(f:M.lookup ("who":Str)=!.d W)(g:M.lookup ("until":Str)=!.d L)(h:M.lookup ("hold":Str)=!.d O)(j:av true (.list G) (.list G)=!.bool false)(k:av true (.tuple [W,L,O]) (.tuple [W,L,O])=!.bool false):o_ C (ed C S M x2 x3 x4)=.nx (ed C S M x2 x3 x4):=by
 have sz:1000<sizeLine:=by decide
 have n:=yc (m:="log") (U:=[!.own true (.sd M),x2,x3,x4]) (by unfold aD;kernel_rfl) b;have o:=yc (m:="held") (U:=[!.own true (.sd M),x2,x3,x4]) (by unfold aD;kernel_rfl) c;have q2:=dg (U:=ed C S M x2 x3 x4) (i:=1) rfl f;have q3:=dg (U:=ed C S M x2 x3 x4) (i:=1) rfl g;have q4:=dg (U:=ed C S M x2 x3 x4) (i:=1) rfl h;have p:aC (sI 1 "log" (aO (dZ C 0 "log" (lW C)))) (ed C S M x2 x3 x4)=.ok false (ed C S M x2 x3 x4):=by have a:eu (ed C S M x2 x3 x4) 1=!(true,M):=rfl;generalize dZ C 0 "log" (lW C)=q at *;simp[sI,wb,n,a,e,j]
 simp_all
def q_{TG}(g:M.lookup ("rows":Str)=!.d (.list e))(h:cz TG f (L3.numbered e) (ed C S M a b c)=o):fW (eO fX (aj (xQ (ba 1 "rows")) aE)) TG f (ed C S M a b c)=o:=by rw[<-h];simp[(dg (U:=ed C S M a b c) (i:=1) rfl g)]
def r_(I:br un S m n)(r:m<=4500)(L:n<900):oY C [.own true (hB C S),.own true (.sd (bN (bx (bF un S)) S))]=.rt (.dat (.bool true)) [hB C S,.sd (bN (bx (bF un S)) S)]:=by
 have sz:1000<sizeLine:=by decide
 have ok:=I.run.ok;have rl:=I.run.rl;have dl:=ok.dl;have sl:=ok.sl;have wl:=CB (un:=un) ok;have o:=Yc (S:=S);have s:=i_ I r;have t:=Yb (S:=S);have u:=p_ (M:=bN (bx (bF un S)) S) (H:=.none) (x2:=none) (x3:=none) (x4:=none) o t BQ px LB mq (tN (pA (xN λx a=>by let⟨r,_,rfl⟩:=q0Q.mp a;exact Zs r) 'f')) (tN (pA (ub (k:=0) λx a=>by
    simp only[q0c,q0z,or_false]at a;rcases a with rfl |rfl |rfl
    .exact Zr _ _
    .exact iR _ _
    .exact iR _ _) 'f'));let⟨a,e,p⟩:=Mj (un:=un) (S:=S) (M:=bN (bx (bF un S)) S) (now:=S.last.getD (-1)) (ats:=S.settled) nH pu I.up S.ds S.settled 0 [] none none (λd h=>h) (λj c h=>by rw[q1X];exact h) sl.symm (by simp;lia);rw[<-Cj,q0r]at p;have f:cz (dB 2 (bC (aw 3) (bC (aw 4) dJ))) (oX C) (L3.numbered ((bF un S).map iL)) (ed C S (bN (bx (bF un S)) S) (!.own false (.l [])) none none)=.nx (ed C S (bN (bx (bF un S)) S) (!.own false (.l (fb un S))) a e):=p;have w1:=λv w y=>yc (m:="waiting") (U:=[!.own true (.sd (bN (bx (bF un S)) S)),v,w,y]) (by unfold aD;kernel_rfl) s;have g1:=yc (m:="log") (U:=[!.own true (.sd (bN (bx (bF un S)) S)),none,none,none]) (by unfold aD;kernel_rfl) o;have z:av false (.list (fb un S)) (.list (fb un S))=!.bool true:=Kx (pA (xN (k:=0) λx q=>by
  unfold fb at q;let⟨i,N,rfl⟩:=q1B q;rw[List.getElem_zipWith];exact iR _ _) 'f')
 have A:(S.rows.map ej).length<sizeLine:=by rw[q0d];lia
 have g:(fb un S).length<sizeLine:=by lia
 have B:=uj g1 A;have D:=uj (w1 none none none) g;have E:=q_ xE f;have G:bc (aa (av false) (aO (dZ C 0 "waiting" (oU C))) (xV 2)) (ed C S (bN (bx (bF un S)) S) (!.own false (.l (fb un S))) a e)=.rt (.dat (.bool true)) (ed C S (bN (bx (bF un S)) S) (!.dat (.list (fb un S))) a e):=by have w2:=w1 (!.own false (.l (fb un S))) a e;generalize dZ C 0 "waiting" (oU C)=O at *;generalize fb un S=Q at *;generalize bN (bx (bF un S)) S=J at *;simp[w2,z]
 have b:Bc C (ed C S (bN (bx (bF un S)) S) none none none)=.rt (.dat (.bool true)) (ed C S (bN (bx (bF un S)) S) (!.dat (.list (fb un S))) a e):=by
  unfold Bc;rw[bp B,bp D,bp u];refine(bp (U':=ed C S (bN (bx (bF un S)) S) (!.own false (.l [])) none none) ?_).trans ?_
  .generalize bN (bx (bF un S)) S=J at *;simp
  .exact(bp E).trans G
 unfold oY;exact ku rfl b (by simp[dX])
def hR(S:Hl)(k c:Nat):Str:=match S.words.lookup (k,c) with
 |some w=>df w
 |none=>(match bE S.a S.ss ((S.ds[k]?.map bP.plan).getD (.once 0)) c with
  |none=>"none"
  |some v=>(match S.last with
   |some l=>if v<=l then "due" else "coming"
   |none=>"coming"))
def s_(S k c):PyData.strOk (hR S k c)=true:=by
 unfold hR;split
 .exact xO _
 .split
  .decide +kernel
  .split
   .split<;>decide +kernel
   .decide +kernel
def t_(h:eS d=true):wq [.dat d]=if cT d 0 9999=true then .rt (.dat .none) []else .ex "NoCount" []:=by have:=kX (lo:=0) (hi:=9999) h;cases e:cT d 0 9999<;>simp[wq,Ij,this,e]
def u_(ok:bL S)(n:k<S.ds.length)(G:c<=9999):tp C [.own true (hB C S),.dat (ai k),.dat (ai c)]=.rt (.dat (.str (hR S k c))) [hB C S]:=by
 have sz:1000<sizeLine:=by decide
 have de:=jG S.ds;have s:=kX (d:=ai k) (lo:=0) (hi:=(S.ds.length:Int) - 1) rfl;have y:cT (ai k) 0 ((S.ds.length:Int) - 1)=true:=by simp[cT];lia
 rw[y]at s;have g:=t_ (d:=ai c) rfl;have o:cT (ai c) 0 9999=true:=by simp[cT];lia
 rw[if_pos o]at g;have f:=xz k c S.words;have kp:=xy k c;have tm:=KD (a:=S.a) (ss:=S.ss) (p:=(S.ds[k]).plan) (c:=c) ok.z.len (ok.pl _ (q0G n)).plan;have i:au (ck S.ds) (ai k)=!cg S.ds[k]:=by have:=qK n;rw[jG];simpa[au] using this
 have j:au (cg S.ds[k]) (.int 0)=!gv (S.ds[k]).plan:=rfl;have A:(S.ds[k]?.map bP.plan).getD (.once 0)=(S.ds[k]).plan:=by rw[q0j n];rfl
 have B:S.ds.length=(S.ds.map cg).length:=by simp
 have t:cn cK (aj (cG C 0 "deeds") aE) [!.own true (hB C S),!.dat (ai k),!.dat (ai c),none]=.ok (.int S.ds.length) [!.own true (hB C S),!.dat (ai k),!.dat (ai c),none]:=by simp[de]
 have body:wP C [!.own true (hB C S),!.dat (ai k),!.dat (ai c),none]=.rt (.dat (.str (hR S k c))) [!.own true (hB C S),!.dat (ai k),!.dat (ai c),none]\/∃x,wP C [!.own true (hB C S),!.dat (ai k),!.dat (ai c),none]=.rt (.dat (.str (hR S k c))) [!.own true (hB C S),!.dat (ai k),!.dat (ai c),!x]:=by
  unfold wP hR;rw[A];generalize b:ck S.ds=dd at *;generalize cg S.ds[k]=H at *;generalize gv (S.ds[k]).plan=I at *;generalize bE S.a S.ss (S.ds[k]).plan c=D at *;generalize m:bY S.a S.ss=J at *;have E:∀q:SM,ak (aV (ee (aC (aO (aI gY (ao (xV 1) (ao (xC (.int 0)) (ao (aa fc (cn cK (aj (cG C 0 "deeds") aE)) (xC (.int 1))) aG))))))) (jy "NoDeed") aY) q [!.own true (hB C S),!.dat (ai k),!.dat (ai c),none]=q [!.own true (hB C S),!.dat (ai k),!.dat (ai c),none]:=λq=>by generalize cn cK (aj (cG C 0 "deeds") aE)=L at t ⊢;simp[t,s]
  rw[E];cases u:S.words.lookup (k,c) with
  |some w=>left;rw[u]at f;simp[-au,g,mZ,nb,kl,cF,en,kp,f]
  |none=>
   rw[u]at f;cases D with
   |none=>right;exact#[.dat .none,by simp[-au,g,mZ,nb,kl,cF,en,kp,f,m,b,i,j,tm,eI]]
   |some v=>
    right;cases r:S.last with
    |none=>exact#[.dat (.int v),by simp[-au,g,mZ,nb,kl,cF,en,kp,f,m,b,i,j,tm,eI,r,cm]]
    |some l=>
     by_cases h:v<=l
     .exact#[.dat (.int v),by simp[-au,g,mZ,nb,kl,cF,en,kp,f,m,b,i,j,tm,eI,r,cm,h]]
     .exact#[.dat (.int v),by simp[-au,g,mZ,nb,kl,cF,en,kp,f,m,b,i,j,tm,eI,r,cm,h]]
 rcases body with e |⟨x,e⟩<;>exact ku rfl e rfl
def v_(w):av false (.str (df w)) (.str "")=!.bool false:=by cases w<;>kernel_rfl
@[irreducible]noncomputable def iS(D R:PyData)(a:List PyData)(b c e hold f log:PyData):List (Str×Fl):=[("deeds",.d D),("rows",.d R),("at",.l a),("now",.d b),("who",.d c),("until",.d e),("hold",.d hold),("on",.d f),("log",.d log)]
def z_:bi ("log":Str) (.d x) (aQ D R ats now who til hold on L)=iS D R ats now who til hold on x:='k'
abbrev bZ(C:Addr)(S:Hl)(M:List (Str×Fl))(W:List (PyData×PyData))(a b c d e f g:Option af):ag:=[!.own true (hB C S),!.own true (.sd M),!.own false (.m true W),a,b,c,d,e,f,g]
def qO:List ((Nat×Nat)×Wd)->List dG->List ((Nat×Nat)×Wd)
 |W,[]=>W
 |W,r::a=>qO (fL W (r.dd,r.ct) r.wd) a
theorem Ml:∀a  T,(a.foldl er T).words=qO T.words a
 |[],T=>rfl
 |r::a,T=>by rw[q1G,Ml a];rfl
def A_{r:dG}(a:(W.map (·.1)).Nodup)(b:W.length<900):tt C (bZ C S M (cx W) (!.dat (.int r.mo)) (!.dat (.int r.ru)) (!.dat (.str (df r.wd))) (!.dat (ai r.dd)) (!.dat (ai r.ct)) x8 x9)=.nx (bZ C S M (cx (fL W (r.dd,r.ct) r.wd)) (!.dat (.int r.mo)) (!.dat (.int r.ru)) (!.dat (.str (df r.wd))) (!.dat (ai r.dd)) (!.dat (ai r.ct)) x8 x9):=by
 have sz:1000<sizeLine:=by decide
 have wl:(cx W).length<sizeLine:=by unfold cx;rw[q0d];lia
 rw[<-(Lc a)];generalize cx W=e at *;simp[tt,zL,vk,vj,jf,je,jw,jx,wl]
theorem Mm:∀a  W  x3 x4 x5 x6 x7,(W.map (·.1)).Nodup->W.length+a.length<900->∃c d e f g,cz (dB 5 (bC (aw 3) (bC (aw 4) (bC (aw 5) (bC (aw 6) (bC (aw 7) dJ)))))) (tt C) (a.map ej) (bZ C S M (cx W) x3 x4 x5 x6 x7 x8 x9)=.nx (bZ C S M (cx (qO W a)) c d e f g x8 x9)
 |[],W,x3,x4,x5,x6,x7,_,_=>#[x3,x4,x5,x6,x7,by simp[cz,qO]]
 |r::a,W,x3,x4,x5,x6,x7,nd,h=>by simp only[q0t]at h;have pl:=Lf (r.dd,r.ct) r.wd W;let⟨c,d,e,f,g,i⟩:=Mm a (fL W (r.dd,r.ct) r.wd) (!.dat (.int r.mo)) (!.dat (.int r.ru)) (!.dat (.str (df r.wd))) (!.dat (ai r.dd)) (!.dat (ai r.ct)) (Ld nd) 'a';refine#[c,d,e,f,g,?_];have b:=A_ (S:=S) (M:=M) (r:=r) (x8:=x8) (x9:=x9) nd 'a';rw[q0h,cz,qO,<-i];simp_all
abbrev Mo:SM:=(bh (rK 2 (cc (aj (xV 6) (aj (xV 7) aE))) (xC (.str ""))) (aw 9))
abbrev yd:SM:=(aV (aC (aa gV (xV 7) (cn cK (aj (xV 8) aE)))) (bh (aa au (dj (aj (xC (.str "coming")) (aj (xC (.str "due")) aE))) (cn ox (aj (aa im (aa au (xV 8) (xV 7)) (xQ (ba 1 "now"))) aE))) (aw 9)) aY)
abbrev CD:SM:=(aV (aC (aa (av false) (xV 9) (xC (.str "")))) (ak (bh (xC (.str "none")) (aw 9)) yd) aY)
abbrev Mp(C:Addr):SM:=(aV (aC (aa (av true) (aO (cO C 0 "state" (tp C) (ao (xV 6) (ao (xV 7) aG)))) (xV 9))) (bc (xC (.bool false))) aY)
def B_:tw C=ak Mo (ak CD (Mp C)):=rfl
def C_:Mo (bZ C S M (cx W) x3 x4 x5 (!.dat (ai k)) (!.dat (ai c)) x8 x9)=.nx (bZ C S M (cx W) x3 x4 x5 (!.dat (ai k)) (!.dat (ai c)) x8 (!.dat (((W.lookup (k,c)).map λw=>PyData.str (df w)).getD (.str "")))):=by
 rw[<-(xz k c W)];generalize cx W=b at *;simp[rK,vi,jf,je,jw,jx]
def E_:CD (bZ C S M a x3 x4 x5 x6 x7 x8 (!.dat (.str (df w))))=.nx (bZ C S M a x3 x4 x5 x6 x7 x8 (!.dat (.str (df w)))):=by
 have e:=v_ w;simp_all
def F_(h:yd (bZ C S M b x3 x4 x5 x6 x7 x8 (!.dat (.str "none")))=.nx c):CD (bZ C S M b x3 x4 x5 x6 x7 x8 (!.dat (.str "")))=.nx c:=by
 have e:av false (.str "") (.str "")=!.bool true:=by kernel_rfl
 have a:bh (xC (.str "none")) (aw 9) (bZ C S M b x3 x4 x5 x6 x7 x8 (!.dat (.str "")))=.nx (bZ C S M b x3 x4 x5 x6 x7 x8 (!.dat (.str "none"))):=by simp
 exact(iw (by simp[e])).trans ((bp a).trans h)
def G_(h:l.length<=c):yd (bZ C S M a x3 x4 x5 x6 (!.dat (ai c)) (!.dat (iL l)) x9)=.nx (bZ C S M a x3 x4 x5 x6 (!.dat (ai c)) (!.dat (iL l)) x9):=by
 have b:cK [iL l]=!.int l.length:=by simp
 generalize iL l=I at *;exact gw (by simp[-cK,b];lia)
def H_(h:l[c]? = !v):au (iL l) (ai c)=!.int v:=by show bT (l.map PyData.int) c=_;unfold bT;rw[q0d,xG ((q0a.mp h).1)];simp[h]
def I_(e:M.lookup ("now":Str)=!.d (.int now))(h:l[c]? = !v):yd (bZ C S M WW x3 x4 x5 x6 (!.dat (ai c)) (!.dat (iL l)) x9)=.nx (bZ C S M WW x3 x4 x5 x6 (!.dat (ai c)) (!.dat (iL l)) (!.dat (.str (if v<=now then("due":Str) else("coming":Str))))):=by
 have sz:1000<sizeLine:=by decide
 have f:cK [iL l]=!.int l.length:=by simp[cK]
 have g:=(q0a.mp h).1;have b:=H_ h;generalize iL l=I at *;have t:aC (aa gV (xV 7) (cn cK (aj (xV 8) aE))) (bZ C S M WW x3 x4 x5 x6 (!.dat (ai c)) (!.dat I) x9)=.ok true (bZ C S M WW x3 x4 x5 x6 (!.dat (ai c)) (!.dat I) x9):=by simp[-cK,f];lia
 have q:=dg (U:=bZ C S M WW x3 x4 x5 x6 (!.dat (ai c)) (!.dat I) x9) (i:=1) rfl e;refine(iw t).trans ?_
 by_cases z:v<=now
 .rw[if_pos z];have a:au (.list [.str "coming",.str "due"]) (.int 1)=!.str "due":=rfl;simp[-au,b,q,z,a,ox,show(2:Nat)<=sizeLine by lia]
 .rw[if_neg z];have a:au (.list [.str "coming",.str "due"]) (.int 0)=!.str "coming":=rfl;simp[-au,b,q,z,a,ox,show(2:Nat)<=sizeLine by lia]
def J_(ok:bL S)(a:k<S.ds.length)(b:c<=9999):Mp C (bZ C S M WW x3 x4 x5 (!.dat (ai k)) (!.dat (ai c)) x8 (!.dat (.str (hR S k c))))=.nx (bZ C S M WW x3 x4 x5 (!.dat (ai k)) (!.dat (ai c)) x8 (!.dat (.str (hR S k c)))):=by
 have d:=u_ ok a b;have e:=tN (qD (s_ S k c));generalize hR S k c=w at *;exact gw (by simp[cq,d,e])
def K_(I:br un S m n)(r:m<=1740)(s:M.lookup ("now":Str)=!.d (.int (S.last.getD (-1))))(e)(D:c<=bI S k+2)(j:c<=9999):tw C (bZ C S M (cx S.words) x3 x4 x5 (!.dat (ai k)) (!.dat (ai c)) (!.dat (iL (bX S.a S.ss (S.ds[k]).plan (un (S.ds[k]).plan)))) x9)=.nx (bZ C S M (cx S.words) x3 x4 x5 (!.dat (ai k)) (!.dat (ai c)) (!.dat (iL (bX S.a S.ss (S.ds[k]).plan (un (S.ds[k]).plan)))) (!.dat (.str (hR S k c)))):=by
 have ok:=I.run.ok;have b:S.ds[k]∈S.ds:=q0G e;have f:=(ok.pl _ b).plan;have g:=I.up _ b;have T:=I.tm r;have fin:=J_ (M:=M) (WW:=cx S.words) (x3:=x3) (x4:=x4) (x5:=x5) (x8:=!.dat (iL (bX S.a S.ss (S.ds[k]).plan (un (S.ds[k]).plan)))) ok e j;have t:(S.ds[k]?.map bP.plan).getD (.once 0)=(S.ds[k]).plan:=by rw[q0j e];rfl
 rw[B_,bp C_];cases o:S.words.lookup (k,c) with
 |some w=>
  have h:hR S k c=df w:=by unfold hR;rw[o]
  rw[h]at fin ⊢;exact(bp E_).trans fin
 |none=>
  have h:hR S k c=(match bE S.a S.ss (S.ds[k]).plan c with |none=>"none" |some v=>(match S.last with |some l=>if v<=l then "due" else "coming" |none=>"coming")):=by unfold hR;rw[o,t]
  refine(bp (F_ ?_)).trans fin;have x:(bX S.a S.ss (S.ds[k]).plan (un (S.ds[k]).plan)).length=un (S.ds[k]).plan:=by simp[bX]
  cases ht:bE S.a S.ss (S.ds[k]).plan c with
  |none=>
   rw[ht]at h;rw[h];refine G_ ?_;rw[x];rcases q1r c (un (S.ds[k]).plan) with q |q
   .let⟨v,i,_⟩:=g.in_ c q;rw[ht]at i;cases i
   .exact q
  |some v=>
   have v4:v<=4500:=by
    rcases q1r c (bI S k) with q |q
    .let⟨n1,u⟩:=wg (p:=(S.ds[k]).plan) (last:=m) ok.z f 'a';have:=Mf ok.z f u (I.st k (bI S k) (S.ds[k]) (q0j e) (mr ok e));let⟨w,i,E⟩:=u.in_ c 'a';rw[ht]at i;cases i;lia
    .exact T.nx k e (c - bI S k) v 'a' (by rw[show bI S k+(c - bI S k)=c by lia];exact ht)
   have A:=BS ok.z f g ht v4;have hx:(bX S.a S.ss (S.ds[k]).plan (un (S.ds[k]).plan))[c]? = !v:=by unfold bX;rw[q0q,List.getElem?_range A];show some (nj S.a S.ss (S.ds[k]).plan c)=!v;rw[xH ht]
   have y:=I_ (S:=S) (M:=M) (WW:=cx S.words) (x3:=x3) (x4:=x4) (x5:=x5) (x6:=!.dat (ai k)) (x9:=!.dat (.str "none")) s hx;have B:hR S k c=if v<=S.last.getD (-1) then("due":Str) else("coming":Str):=by
    rw[h,ht];cases G:S.last with
    |some l=>rfl
    |none=>
     have:=lU ok.z f (AD ok.z f) (q0K c) ht;show("coming":Str)=if v<=-1 then("due":Str) else("coming":Str)
     rw[if_neg 'a']
   rw[B];exact y
theorem Mq(I:br un S m n)(j:m<=1740)(o:n<900)(l:M.lookup ("now":Str)=!.d (.int (S.last.getD (-1))))(e):∀q i  x7 x9,i+q=bI S k+3->∃f g,cz (aw 7) (tw C) (L3.intsFrom i q) (bZ C S M (cx S.words) x3 x4 x5 (!.dat (ai k)) x7 (!.dat (iL (bX S.a S.ss (S.ds[k]).plan (un (S.ds[k]).plan)))) x9)=.nx (bZ C S M (cx S.words) x3 x4 x5 (!.dat (ai k)) f (!.dat (iL (bX S.a S.ss (S.ds[k]).plan (un (S.ds[k]).plan)))) g)
 |0,i,x7,x9,_=>#[x7,x9,by simp[L3.intsFrom,cz]]
 |q+1,i,x7,x9,h=>by have s:=I.sb _ (q0w (mr I.run.ok e));have b:=K_ (x3:=x3) (x4:=x4) (x5:=x5) (x9:=x9) (c:=i) I j l e 'a' 'a';let⟨f,g,p⟩:=Mq I j o l e q (i+1) (!.dat (ai i)) (!.dat (.str (hR S k i))) 'a';refine#[f,g,?_];rw[qF,cz];simp only[aw,q09,q0N];rw[b,show(i+1)=((i+1):Int) by lia];exact p
def L_{V}(q:xQ (iq 1 "at" (fB 6)) (bZ C S M a x3 x4 x5 x6 x7 x8 x9)=.ok (.int N) (bZ C S M a x3 x4 x5 x6 x7 x8 x9))(d:b [.int (N+3)]=!V)(e:cz (aw 7) c V (bZ C S M a x3 x4 x5 x6 x7 x8 x9)=o):fW (eO b (aj (aa cL (xQ (iq 1 "at" (fB 6))) (xC (.int 3))) aE)) (aw 7) c (bZ C S M a x3 x4 x5 x6 x7 x8 x9)=o:=by simp_all
def M_(I:br un S m n)(i:m<=1740)(o:n<900)(p:M.lookup ("now":Str)=!.d (.int (S.last.getD (-1))))(q:M.lookup ("at":Str)=!.l (S.settled.map ai))(b):∃c e,wS C (bZ C S M (cx S.words) x3 x4 x5 (!.dat (ai k)) x7 (!.dat (iL (bX S.a S.ss (S.ds[k]).plan (un (S.ds[k]).plan)))) x9)=.nx (bZ C S M (cx S.words) x3 x4 x5 (!.dat (ai k)) c (!.dat (iL (bX S.a S.ss (S.ds[k]).plan (un (S.ds[k]).plan)))) e):=by let⟨c,e,f⟩:=Mq I i o p b (bI S k+3) 0 x7 x9 'a';have r:=I.sb _ (q0w (mr I.run.ok b));have h:=xB (j:=(bI S k)+3) 'a' 'a';rw[show((bI S k:Int)+3).toNat=bI S k+3 by lia]at h;rw[Int.natCast_zero]at f;exact#[c,e,L_ (tT rfl rfl q (tV (mr I.run.ok b))) h f]
theorem Mr(I:br un S m n)(f:m<=1740)(g:n<900)(i:M.lookup ("now":Str)=!.d (.int (S.last.getD (-1))))(j:M.lookup ("at":Str)=!.l (S.settled.map ai)):∀q k  x6 x7 x8 x9,k+q=S.ds.length->∃p c r e,cz (dB 2 (bC (aw 6) (bC (aw 8) dJ))) (wS C) (hF k (((bF un S).drop k).map iL)) (bZ C S M (cx S.words) x3 x4 x5 x6 x7 x8 x9)=.nx (bZ C S M (cx S.words) x3 x4 x5 p c r e)
 |0,k,x6,x7,x8,x9,h=>#[x6,x7,x8,x9,by
  rw[q1l (by simp;lia)];simp[hF,cz]]
 |q+1,k,x6,x7,x8,x9,h=>by
  have o:k<S.ds.length:=by lia
  let⟨c,e,b⟩:=M_ (M:=M) (x3:=x3) (x4:=x4) (x5:=x5) (x7:=x7) (x9:=x9) I f g i j o;let⟨s,t,u,v,w⟩:=Mr I f g i j q (k+1) (!.dat (ai k)) c (!.dat (iL (bX S.a S.ss (S.ds[k]).plan (un (S.ds[k]).plan)))) e 'a';refine#[s,t,u,v,?_];have pZ:k<(bF un S).length:=by simp;exact o
  have x:(bF un S)[k]=bX S.a S.ss (S.ds[k]).plan (un (S.ds[k]).plan):=by simp
  rw[q0E pZ,q0h,hF,cz,x,<-w];simp_all
def N_{TG}(e:M.lookup ("rows":Str)=!.d (.list b))(f:cz TG c (L3.numbered b) (bZ C S M a x3 x4 x5 x6 x7 x8 x9)=o):fW (eO fX (aj (xQ (ba 1 "rows")) aE)) TG c (bZ C S M a x3 x4 x5 x6 x7 x8 x9)=o:=by rw[<-f];simp[(dg (U:=bZ C S M a x3 x4 x5 x6 x7 x8 x9) (i:=1) rfl e)]
def O_{TG}(c:cz TG b G (bZ C S (iS D R A T W L H O (.list G)) a x3 x4 x5 x6 x7 x8 x9)=o):fW (mP (qk 1 "log")) TG b (bZ C S (aQ D R A T W L H O G) a x3 x4 x5 x6 x7 x8 x9)=o:=by
 have e:qk 1 "log" (bZ C S (aQ D R A T W L H O G) a x3 x4 x5 x6 x7 x8 x9)=.ok (.list G) (bZ C S (iS D R A T W L H O (.list G)) a x3 x4 x5 x6 x7 x8 x9):=by unfold qk;rw[show eu (bZ C S (aQ D R A T W L H O G) a x3 x4 x5 x6 x7 x8 x9) 1=some (true,aQ D R A T W L H O G) from rfl];simp only[BQ,z_];rfl
 rw[<-c];simp[e]
def P_(I:br un S m n)(f:m<=1740)(q:n<800):∃o,tz C [.own true (hB C S),.own true (.sd (bN (bx (bF un S)) S))]=.rt (.dat (.bool true)) [hB C S,.sd o]:=by
 have rl:=I.run.rl;let⟨a,c,d,g,h,lw⟩:=Mm (S:=S) (x8:=none) (x9:=none) S.rows [] none none none none none q1k (by simp;lia);have i:qO [] S.rows=S.words:=by rw[<-I.run.w1];unfold cY;rw[Ml];rfl
 rw[i]at lw;let⟨j,k,l,p,e⟩:=Mr (M:=iS (ck S.ds) (bx (bF un S)) (S.settled.map ai) (.int (S.last.getD (-1))) (cm S.holder) (.int S.til) (.int S.holds) (nL S.begun) (.list (S.rows.map ej))) (x3:=a) (x4:=c) (x5:=d) I f 'a' (by unfold iS;kernel_rfl) (by unfold iS;kernel_rfl) S.ds.length 0 g h none none 'a';rw[q2J,<-Cj]at e;have b:Be C [!.own true (hB C S),!.own true (.sd (bN (bx (bF un S)) S)),none,none,none,none,none,none,none,none]=.rt (.dat (.bool true)) (bZ C S (iS (ck S.ds) (bx (bF un S)) (S.settled.map ai) (.int (S.last.getD (-1))) (cm S.holder) (.int S.til) (.int S.holds) (nL S.begun) (.list (S.rows.map ej))) (cx S.words) a c d j k l p):=by
  unfold Be;refine(bp (U':=bZ C S (bN (bx (bF un S)) S) (cx []) none none none none none none none) ?_).trans ?_
  .generalize bN (bx (bF un S)) S=r at *;simp[zK,cx]
  .refine(bp (O_ lw)).trans ((bp (N_ (by unfold iS;kernel_rfl) e)).trans ?_);simp
 refine#[iS (ck S.ds) (bx (bF un S)) (S.settled.map ai) (.int (S.last.getD (-1))) (cm S.holder) (.int S.til) (.int S.holds) (nL S.begun) (.list (S.rows.map ej)),?_];unfold tz;exact ku rfl b (by simp[dX])
def Q_(z:eG a b)(h:last<=9999):∃un:aU->Nat,∀p,dN p->bV a b p last (un p):=by
 classical
 exact#[λp=>if q:dN p then(wg z q h).choose else 0,λp q=>by simp only[q];exact(wg z q h).choose_spec]
theorem Ms{un:aU->Nat}(z:eG a ss)(i:∀p,dN p->bV a ss p 4500 (un p)):∀(b:List bP)  f  x,(∀d∈b,dN d.plan)->f.length+b.length<900->cE (aw 0) dL sT (b.map cg) f [x,!.dat (bY a ss)]=some (f++(b.map λd=>bX a ss d.plan (un d.plan)).map iL)
 |[],f,x,_,_=>by simp[cE]
 |e::b,f,x,hd,h=>by
  have sz:1000<sizeLine:=by decide
  simp only[q0t]at h;have j:=hd e q0g;let⟨c,k,l⟩:=XL (last:=4500) z j 'a' (i _ j);have m:=Ms z i b (f++[iL (bX a ss e.plan (un e.plan))]) (!.dat (cg e)) (λd h=>hd d (bK _ h)) (by simp;lia);have n:au (cg e) (.int 0)=!gv e.plan:=rfl;have o:sT [!.dat (cg e),!.dat (bY a ss)]=.ok (iL (bX a ss e.plan (un e.plan))) [!.dat (cg e),!.dat (bY a ss)]:=by generalize bY a ss=q at *;generalize gv e.plan=r at *;generalize cg e=dd at *;unfold sT;simp_all
  rw[q0h,cE];simp only[aw,q0N,dL,o];rw[if_pos 'a',m,q0h,q0h,q0m,q04]
def CF{n:Nat}(h:n<=6):jV (.list [.int 0]) (.int n)=!.list ((List.replicate n (0:Nat)).map ai):=by
 obtain rfl |rfl |rfl |rfl |rfl |rfl |rfl:n=0\/n=1\/n=2\/n=3\/n=4\/n=5\/n=6:=by lia
 all_goals kernel_rfl
noncomputable abbrev eJ(Z D:PyData)(a b:Option af):ag:=[!.dat Z,!.dat D,a,b]
@[irreducible]noncomputable def gx(D R:PyData)(A:List PyData):List (Str×Fl):=[("deeds",.d D),("rows",.d R),("at",.l A),("now",.d (.int (-1))),("who",.d .none),("until",.d (.int 0)),("hold",.d (.int 0))]
def Mt:((gx D R A).map (·.1)).Nodup:=by unfold gx;show(["deeds","rows","at","now","who","until","hold"]:List Str).Nodup;decide +kernel
def Mu:(gx D R A).length=7:=by unfold gx;rfl
def R_:oM (gx D R A) [("on",.d .none),("log",.l [])]=aQ D R A (.int (-1)) .none (.int 0) (.int 0) .none []:=by kernel_rfl
def S_:oN (gx D R A) [("on",.d .none),("log",.l [])]=true:=by kernel_rfl
def T_{V}(b:a [D]=!.int N)(r:jV (.list [.int 0]) (.int N)=!.list V):il 3 (iO (ez "deeds" (xV 1) (ez "rows" (xV 2) (jC "at" (lT (dj (aj (xC (.int 0)) aE)) (cn a (aj (xV 1) aE))) [("now",(.int (-1))),("who",.none),("until",(.int 0)),("hold",(.int 0))])))) (eJ Z D (!.dat R) none)=.nx (eJ Z D (!.dat R) (!.own false (.sd (gx D R V)))):=by
 have sz:1000<sizeLine:=by decide
 have c:(1:Nat)<=sizeLine:=by lia
 clear sz;have d:lT (dj (aj (xC (.int 0)) aE)) (cn a (aj (xV 1) aE)) (eJ Z D (!.dat R) none)=.ok (.own false (.l V)) (eJ Z D (!.dat R) none):=by
  have e:dj (aj (xC (.int 0)) aE) (eJ Z D (!.dat R) none)=.ok (.list [.int 0]) (eJ Z D (!.dat R) none):=by simp[c]
  have f:cn a (aj (xV 1) aE) (eJ Z D (!.dat R) none)=.ok (.int N) (eJ Z D (!.dat R) none):=by simp[b]
  unfold lT;rw[e];show vV _ _ _=_;unfold vV;rw[f];show vU _ _ _=_;unfold vU;rw[r];rfl
 have g:ez "deeds" (xV 1) (ez "rows" (xV 2) (jC "at" (lT (dj (aj (xC (.int 0)) aE)) (cn a (aj (xV 1) aE))) [("now",(.int (-1))),("who",.none),("until",(.int 0)),("hold",(.int 0))])) (eJ Z D (!.dat R) none)=.ok (gx D R V) (eJ Z D (!.dat R) none):=by generalize lT (dj (aj (xC (.int 0)) aE)) (cn a (aj (xV 1) aE))=h at *;unfold gx;simp[ez,sB,sA,jC,vT,qi,d]
 have hs:iO (ez "deeds" (xV 1) (ez "rows" (xV 2) (jC "at" (lT (dj (aj (xC (.int 0)) aE)) (cn a (aj (xV 1) aE))) [("now",(.int (-1))),("who",.none),("until",(.int 0)),("hold",(.int 0))]))) (eJ Z D (!.dat R) none)=.ok (.own false (.sd (gx D R V))) (eJ Z D (!.dat R) none):=by unfold iO;rw[g];show ng _ _=_;unfold ng;rw[if_pos #[Mt,by rw[Mu];decide]];rfl
 simp_all
def U_:ni 3 (iO (ez "on" (xC .none) (jC "log" (iM aE) []))) (eJ Z D x2 (!.own false (.sd (gx D R A))))=.nx (eJ Z D x2 (!.own false (.sd (aQ D R A (.int (-1)) .none (.int 0) (.int 0) .none [])))):=by
 have u:=S_ (D:=D) (R:=R) (A:=A);have b:=R_ (D:=D) (R:=R) (A:=A);have nd:=Mt (D:=D) (R:=R) (A:=A);have c:=Mu (D:=D) (R:=R) (A:=A);have e:iO (ez "on" (xC .none) (jC "log" (iM aE) [])) (eJ Z D x2 (!.own false (.sd (gx D R A))))=.ok (.own false (.sd [("on",.d .none),("log",.l [])])) (eJ Z D x2 (!.own false (.sd (gx D R A)))):=by
  have s:ez "on" (xC .none) (jC "log" (iM aE) []) (eJ Z D x2 (!.own false (.sd (gx D R A))))=.ok [("on",.d .none),("log",.l [])] (eJ Z D x2 (!.own false (.sd (gx D R A)))):=by simp[ez,sB,sA,jC,vT,qi]
  unfold iO;rw[s];show ng _ _=_;unfold ng;rw[if_pos #[show(["on","log"]:List Str).Nodup by decide +kernel,show 2<=15 by decide]];rfl
 rw[<-b];generalize gx D R A=a at *;unfold ni;rw[show eu (eJ Z D x2 (!.own false (.sd a))) 3=some (false,a) from rfl];simp only;rw[e];simp only[ef];unfold sH;rw[show eu (eJ Z D x2 (!.own false (.sd a))) 3=some (false,a) from rfl];show(if _ then _ else _)=_;rw[if_pos #[nd,u,by rw[c];show 7+2<1000;decide]];rfl
def V_(z:eG a e)(f:∀p,dN p->bV a e p 4500 (un p))(hd:∀d∈c,dN d.plan)(dl:c.length<=6):sU [.dat (bY a e),.dat (ck c)]=.rt (.own false (.sd (bN (bx (bF un (ek a e c))) (ek a e c)))) []:=by
 have sz:1000<sizeLine:=by decide
 have go:=Ms z f c [] none hd (by simp;lia);rw[q0r]at go;have g:cK [ck c]=!.int c.length:=by rw[jG];simp[cK]
 have de:=jG c;have ll:((c.map λd=>bX a e d.plan (un d.plan)).map iL).length<=sizeLine:=by simp;lia
 have h:bh (iK 1 [0] (kc (xV 1)) (aw 0) dL sT) (aw 2) (eJ (bY a e) (ck c) none none)=.nx (eJ (bY a e) (ck c) (!.dat (bx (c.map λd=>bX a e d.plan (un d.plan)))) none):=by simp_all
 have b:AW (eJ (bY a e) (ck c) none none)=.rt (.own false (.sd (bN (bx (bF un (ek a e c))) (ek a e c)))) (eJ (bY a e) (ck c) (!.dat (bx (c.map λd=>bX a e d.plan (un d.plan)))) none):=by unfold AW;refine(bp h).trans ((bp (T_ g (CF dl))).trans ((bp U_).trans ?_));show rG 3 _=.rt (.own false (.sd (aQ (ck c) (bx (c.map λd=>bX a e d.plan (un d.plan))) ((List.replicate c.length (0:Nat)).map ai) (.int (-1)) .none (.int 0) (.int 0) .none []))) _;simp_all
 unfold sU;exact ku rfl b (by simp[dX])
abbrev cU(C:Addr)(c:List Int)(t:List PyData)(Z D:PyData)(S:Hl)(M:List (Str×Fl))(a b:Option af):ag:=[!.scr c,!.own false (.l t),!.dat Z,!.dat D,!.own false (hB C S),!.own false (.sd M),a,b]
abbrev Mw:SM:=(bh (aO (aI nv (aN 0 (aN 1 (ao (cn ou (aj (xC (.int 0)) (aj (xQ (ba 5 "now")) aE))) (ao (xQ (ba 5 "who")) aG)))))) (aw 7))
abbrev ye:SM:=(aV (fz (aC (aa (av false) (aO (aI cX (aN 0 (aN 1 (ao (xC (.int 12)) aG))))) (xC (.int 0)))) (aC (aa gG (xQ (ba 5 "now")) (xC (.int 0))))) (bh (aa oq (aa oq (ki (xV 7) lQ (jh (xC (.int 2)))) (cc (aj (aa fc (xQ (ba 5 "now")) (xC (.int 1))) aE))) (ki (xV 7) (jh (xC (.int 3))) lQ)) (aw 7)) aY)
abbrev Mx(C:Addr):SM:=(aV (fg (aC (aa (av true) (aO (aI (fj C) (aN 4 (ao (xV 7) aG)))) (aO (aI jD (aN 5 (ao (xV 7) aG)))))) (ee (aC (aO (aI (oY C) (aN 4 (aN 5 aG))))))) (bc (xC (.bool false))) aY)
def W_(C):qy C=ak Mw (ak ye (Mx C)):=rfl
def X_(a:M.lookup ("now":Str)=!.d (.int now))(b:M.lookup ("who":Str)=!.d W)(c:max 0 now=m)(h:nv [.scr ns,.own true (.l t),.dat (.int m),.dat W]=.rt (.dat K) [.l t']):Mw (cU C ns t Z D S M x6 x7)=.nx (cU C ns t' Z D S M x6 (!.dat K)):=by simp[(dg (U:=cU C ns t Z D S M x6 x7) (i:=5) rfl a),(dg (U:=cU C ns t Z D S M x6 x7) (i:=5) rfl b),c,h]
def My(h:cX [.scr ns,.own true (.l t),.dat (.int 12)]=.rt (.dat (.int k)) [.l t']):aC (aa (av false) (aO (aI cX (aN 0 (aN 1 (ao (xC (.int 12)) aG))))) (xC (.int 0))) (cU C ns t Z D S M x6 x7)=.ok (decide (k=0)) (cU C ns t' Z D S M x6 x7):=by
 have e:av false (.int k) (.int 0)=!.bool (decide (k=0)):=by rw[kq]
 simp[h,e]
def Mz(a:M.lookup ("now":Str)=!.d (.int now)):aC (aa gG (xQ (ba 5 "now")) (xC (.int 0))) (cU C ns t Z D S M x6 x7)=.ok (decide (0<now)) (cU C ns t Z D S M x6 x7):=by simp[(dg (U:=cU C ns t Z D S M x6 x7) (i:=5) rfl a)]
def Y_(b:M.lookup ("now":Str)=!.d (.int now))(h:cX [.scr ns,.own true (.l t),.dat (.int 12)]=.rt (.dat (.int k)) [.l t'])(c:¬ (k=0/\0<now)):ye (cU C ns t Z D S M x6 x7)=.nx (cU C ns t' Z D S M x6 x7):=by
 have a:=My (Z:=Z) (D:=D) (S:=S) (M:=M) (x6:=x6) (x7:=x7) h
 by_cases z:k=0
 .rw[decide_eq_true z]at a;have g:=Mz (ns:=ns) (t:=t') (Z:=Z) (D:=D) (S:=S) (x6:=x6) (x7:=x7) b;rw[decide_eq_false (λy=>c #[z,y])]at g;exact gw ((nM a).trans g)
 .rw[decide_eq_false z]at a;exact gw (xY a)
def Z_(k:M.lookup ("now":Str)=!.d (.int now))(h:cX [.scr ns,.own true (.l t),.dat (.int 12)]=.rt (.dat (.int 0)) [.l t'])(n:0<now):ye (cU C ns t Z D S M x6 (!.dat (cj c)))=.nx (cU C ns t' Z D S M x6 (!.dat (cj (nN c (now - 1))))):=by
 have sz:1000<sizeLine:=by decide
 have o:=My (Z:=Z) (D:=D) (S:=S) (M:=M) (x6:=x6) (x7:=!.dat (cj c)) h;have g:=Mz (ns:=ns) (t:=t') (Z:=Z) (D:=D) (S:=S) (x6:=x6) (x7:=!.dat (cj c)) k;rw[decide_eq_true n]at g;have q1:=dg (U:=cU C ns t' Z D S M x6 (!.dat (cj c))) (i:=5) rfl k;refine(iw ((nM o).trans g)).trans ?_;have e:(3:Nat)<=sizeLine:=by lia
 have f:(4:Nat)<=sizeLine:=by lia
 have j:(1:Nat)<=sizeLine:=by lia
 clear sz;cases c with
 |take r m u=>
  have a:ip (cj (.take r m u)) none (!2)=!.tuple [.str "take",.int r]:=by kernel_rfl
  have b:ip (cj (.take r m u)) (!3) none=!.tuple [.int u]:=by kernel_rfl
  have fin:cj (nN (.take r m u) (now - 1))=.tuple [.str "take",.int r,.int (now - 1),.int u]:=rfl;rw[fin];generalize cj (.take r m u)=KK at *;simp[q1,a,b,j,e,f]
 |give r m=>
  have a:ip (cj (.give r m)) none (!2)=!.tuple [.str "give",.int r]:=by kernel_rfl
  have b:ip (cj (.give r m)) (!3) none=!.tuple []:=by kernel_rfl
  have fin:cj (nN (.give r m) (now - 1))=.tuple [.str "give",.int r,.int (now - 1)]:=rfl;rw[fin];generalize cj (.give r m)=KK at *;simp[q1,a,b,j,e,f]
 |step r m=>
  have a:ip (cj (.step r m)) none (!2)=!.tuple [.str "step",.int r]:=by kernel_rfl
  have b:ip (cj (.step r m)) (!3) none=!.tuple []:=by kernel_rfl
  have fin:cj (nN (.step r m) (now - 1))=.tuple [.str "step",.int r,.int (now - 1)]:=rfl;rw[fin];generalize cj (.step r m)=KK at *;simp[q1,a,b,j,e,f]
 |finish r m=>
  have a:ip (cj (.finish r m)) none (!2)=!.tuple [.str "finish",.int r]:=by kernel_rfl
  have b:ip (cj (.finish r m)) (!3) none=!.tuple []:=by kernel_rfl
  have fin:cj (nN (.finish r m) (now - 1))=.tuple [.str "finish",.int r,.int (now - 1)]:=rfl;rw[fin];generalize cj (.finish r m)=KK at *;simp[q1,a,b,j,e,f]
def k7(a:fj C [.own true (hB C S),.dat K]=.rt (.dat d) [hB C S'])(b:jD [.own true (.sd M),.dat K]=.rt (.dat d) [.sd M'])(c:oY C [.own true (hB C S'),.own true (.sd M')]=.rt (.dat (.bool true)) [hB C S',.sd M'])(e:av true d d=!.bool false):Mx C (cU C ns t Z D S M x6 (!.dat K))=.nx (cU C ns t Z D S' M' x6 (!.dat K)):=by
 simp_all
def uk(u:ns.length<=63)(Y:t.length<=90000)(I:br un S m n)(J:n<60)(L:m<=29 * n) :
  ∃b f t' o,qy C (cU C ns t (bY S.a S.ss) (ck S.ds) S (bN (bx (bF un S)) S) x6 x7)=.nx (cU C ns t' (bY S.a S.ss) (ck S.ds) b (bN (bx (bF un S)) b) x6 o)/\br un b f (n+1)/\(b.a=S.a/\b.ss=S.ss/\b.ds=S.ds)/\f<=29 * (n+1:Nat)/\t'.length<=t.length+8:=by
 have m0:=I.m0;have g:max 0 (S.last.getD (-1))=m:=by
  have:=I.lm;cases e:S.last with
  |none=>rw[e]at this;show max 0 (-1)=m;have:(0:Int)=m:=this;lia
  |some l=>rw[e]at this;have:l=m:=this;show max 0 l=m;lia
 let⟨c,i,z,p,N⟩:=YN (ns:=ns) (t:=t) (now:=m) (holder:=S.holder) u 'a' I.run.ho;let⟨k,O,Q,v⟩:=fE (ns:=ns) (t:=i) (many:=12) u 'a' 'a';have A:=p.m;have rest:∀(K d:PyData) (b:Hl) (h:Int),ye (cU C ns i (bY S.a S.ss) (ck S.ds) S (bN (bx (bF un S)) S) x6 (!.dat (cj c)))=.nx (cU C ns (i++[.int 0]) (bY S.a S.ss) (ck S.ds) S (bN (bx (bF un S)) S) x6 (!.dat K))->pD un C S K h n d b->h<=m+29->∃b f t' o,qy C (cU C ns t (bY S.a S.ss) (ck S.ds) S (bN (bx (bF un S)) S) x6 x7)=.nx (cU C ns t' (bY S.a S.ss) (ck S.ds) b (bN (bx (bF un S)) b) x6 o)/\br un b f (n+1)/\(b.a=S.a/\b.ss=S.ss/\b.ds=S.ds)/\f<=29 * (n+1:Nat)/\t'.length<=t.length+8:=λK d b h H R B=>by
  refine#[b,h,i++[.int 0],!.dat K,?_,R.inv,R.fx,by lia,by simp;lia];have w:=r_ R.inv 'a' 'a';have E:bF un b = bF un S:=by show(b.ds.map λd=>bX b.a b.ss d.plan (un d.plan))=_;rw[R.fx.1,R.fx.2.1,R.fx.2.2]
  rw[E]at w;rw[W_,bp (X_ nH px g z),bp H];exact k7 R.do_ R.ow w (tN (pA R.ly 'f'))
 by_cases x:k=0/\0<S.last.getD (-1)
 .let⟨rfl,j⟩:=x;cases e:S.last with
  |none=>rw[e]at j;exact absurd j 'f'
  |some l=>
   have T:l=m:=by have:=I.lm;rw[e]at this;exact this
   rw[e]at j;have q:0<l:=j;have s:=Z_ (Z:=bY S.a S.ss) (D:=ck S.ds) (S:=S) (M:=bN (bx (bF un S)) S) (now:=l) (x6:=x6) (c:=c) (by rw[nH,e];rfl) v q;have G:(nN c (l - 1)).ru=c.ru:=by cases c<;>rfl
   have y:(nN c (l - 1)).mo=l - 1:=by cases c<;>rfl
   exact rest _ _ _ _ s (ui (c:=nN c (l - 1)) I (by rw[G];exact p.r) e (by rw[y];lia) (by rw[y];lia)) 'a'
 .have s:=Y_ (Z:=bY S.a S.ss) (D:=ck S.ds) (S:=S) (M:=bN (bx (bF un S)) S) (x6:=x6) (x7:=!.dat (cj c)) nH v x;let⟨d,b,h,R,U,X⟩:=f_ I 'a' p 'a';exact rest _ _ _ _ s R 'a'
theorem nP(p:ns.length<=63):∀q  i {t}{S}{m}{n}{x6 x7},t.length+8 * q<=80000->br un S m n->n+q<=60->m<=29 * n->
  ∃b c t' u f,cz (aw 6) (qy C) (L3.intsFrom i q) (cU C ns t (bY S.a S.ss) (ck S.ds) S (bN (bx (bF un S)) S) x6 x7)=.nx (cU C ns t' (bY S.a S.ss) (ck S.ds) b (bN (bx (bF un S)) b) u f)/\br un b c (n+q)/\(b.a=S.a/\b.ss=S.ss/\b.ds=S.ds)/\c<=29 * (n+q:Nat)
 |0,i,t,S,m,n,x6,x7,_,I,_,r=>#[S,m,t,x6,x7,by simp[L3.intsFrom,cz],I,#[rfl,rfl,rfl],by lia]
 |q+1,i,t,S,m,n,x6,x7,ht,I,G,r=>by
  obtain⟨b,c,t',f,e,v,⟨g,h,j⟩,k,l⟩:=uk (x6:=!.dat (.int i)) (x7:=x7) p (by lia:t.length<=90000) I 'a' r;obtain⟨w,x,y,z,A,s,B,⟨D,fs,fd⟩,o⟩:=nP p q (i+1) (t:=t') (S:=b) (x6:=!.dat (.int i)) (x7:=f) 'a' v 'a' k;have E:bF un b = bF un S:=by show(b.ds.map λd=>bX b.a b.ss d.plan (un d.plan))=_;rw[g,h,j]
  rw[g,h,j,E]at s;refine#[w,x,y,z,A,?_,by rw[show n+(q+1)=n+1+q by lia];exact B,#[by rw[D,g],by rw[fs,h],by rw[fd,j]],by rw[show n+(q+1)=n+1+q by lia];exact o];rw[qF,cz];simp only[aw,q0t,q0T,q09,q0N];rw[e];exact s
def CG{V}(c:cX [.scr a,.own true (.l t),.dat (.int 61)]=.rt (.dat (.int k)) [.l t'])(d:g [.int k]=!V)(e:cz (aw 6) B V (cU C a t' Z D S M none none)=.nx b) :
  (fW (eO g (aj (aO (aI cX (aN 0 (aN 1 (ao (xC (.int 61)) aG))))) aE)) (aw 6) B) (cU C a t Z D S M none none)=.nx b:=by
 simp_all
def CH(h:sU [.dat Z,.dat D]=.rt (.own false (.sd M)) []):Bg C [!.scr ns,!.own false (.l t),!.dat Z,!.dat D,!.own false (hB C S),none,none,none]=.nx (cU C ns t Z D S M none none):=by simp[Bg,h]
def um(h:tz C [.own true (hB C S),.own true (.sd M)]=.rt (.dat (.bool true)) [hB C S,.sd a]):Bh C (cU C ns t Z D S M x6 x7)=.rt (.dat (.bool true)) (cU C ns t Z D S a x6 x7):=by simp[Bh,h]
def k8(m:g.length<=63):IM C [.scr g]=.rt (.dat (.bool true)) []:=by
 have sz:1000<sizeLine:=by decide
 let⟨a,ss,E,G,H,zr,I,J,L⟩:=Xy (ns:=g) (t:=[]) m 'd';have o:eG a ss:=#[H,zr,I,λp M=>by have:=J p M;lia]
 simp only[q0T]at L;let⟨b,q,hd,dl,l2,v⟩:=YM (ns:=g) (t:=E) m 'a';rw[<-jG]at v;let⟨un,w⟩:=Q_ (last:=4500) o 'a';let⟨k,k0,k1,y⟩:=fE (ns:=g) (t:=q) (many:=61) m 'a' 'a';have r:=Ye (Xt o) (YK (ds:=b) dl λd f=>#[(hd d f).1.1,(hd d f).2]) dl;have z:=V_ o w (λd f=>(hd d f).1.1) dl;have N:br un (ek a ss b) 0 0:=#[YO o dl λd f=>#[(hd d f).1.1,(hd d f).2],λd c h e=>(by cases e),λk c x f Y=>.inl (q2n (q0w (show(List.replicate b.length 0)[k]? = some c from Y))),λd f=>(hd d f).1.2,λd f=>w _ (hd d f).1.1,rfl,by lia,λx f=>by
  have:=q2n (show x∈List.replicate b.length 0 from f);lia]
 let⟨i,m',t',s,u,A,O,fx,Q⟩:=nP (un:=un) m k.toNat 0 (t:=q++[.int 0]) (S:=ek a ss b) (x6:=none) (x7:=none) (by simp;lia) N 'a' 'a';have R:bF un i = bF un (ek a ss b):=by show(i.ds.map λd=>bX i.a i.ss d.plan (un d.plan))=_;rw[fx.1,fx.2.1,fx.2.2]
 let⟨M',st⟩:=P_ O 'a' 'a';rw[R]at st;have B:=xB (j:=k) 'a' 'a';have l:cz (aw 6) (qy C) (L3.intsFrom 0 k.toNat) (cU C g (q++[.int 0]) (bY a ss) (ck b) (ek a ss b) (bN (bx (bF un (ek a ss b))) (ek a ss b)) none none)=.nx (cU C g t' (bY a ss) (ck b) i (bN (bx (bF un (ek a ss b))) i) s u):=A;clear A;have T:=CG y B l;have U:=CH (ns:=g) (t:=q) (S:=ek a ss b) z;have X:=um (ns:=g) (t:=t') (Z:=bY a ss) (D:=ck b) (x6:=s) (x7:=u) st;clear l y B z st;generalize bN (bx (bF un (ek a ss b))) (ek a ss b)=M1 at *;generalize bN (bx (bF un (ek a ss b))) i = M2 at *;generalize ek a ss b=S at *;generalize bY a ss=Z at *;generalize ck b=D at *;refine XI (n:=7) ?_;unfold IL;simp only[List.replicate];refine qE (by simp[IG]<;>rfl) ?_;refine qE (by simp[IH,G]<;>rfl) ?_;refine qE (by simp[II,v]<;>rfl) ?_;refine qE (by simp[IJ,Ab,rS,r]<;>rfl) ?_;refine qE U ?_;refine qE (U':=cU C g t' Z D i M2 s u) (by unfold IK;exact T) ?_;exact#[_,_,X]
end K3
namespace K3
open PySem PySem.Spec L2 L2.L3 PyProof.Rows
def k9{K}(i:GH g H)(j:∀c,c.length<=63->f [.scr c]=.rt (.dat (.bool true)) [])(h:∃a c,vs=[.ref a]/\kC K H a c/\∀d,Q (.bl true) d):ff K g f vs H Q E:=by let⟨a,c,rfl,hs,q⟩:=h;refine#[i,[.scr c],[[]],[],.oth (λ_ z=>by cases z) (λ_ _ z=>by cases z) #[a,rfl,hs] .nil,q1k,λb k=>by simp at k,?_];rw[j c hs.1];intro v d fp e l _ _;rw[DV.bl_inv l];exact q d
def CI(K:Frag):Sp:=λvs H Q _=>∃a c,vs=[.ref a]/\kC K H a c/\∀b,Q (.bl true) b
abbrev LK(K:Frag)(f:Addr)(a:Value)(b:Option Addr)(n q:Str)(s:Stmt)(k d p:Value)(e:Option Addr)(c t:Value)(l:Array (Option Value)):Prop:=K.lookup f=!#[a,b,.func (fnOf n q (lx s) (iY s) (dS s) .none k d p e c t),l]
abbrev NI(K:Frag)(n:Str)(f:Addr):Prop:=nsIn K mainGlobals n=!some (.ref f)
abbrev NV(K:Frag)(n:Str)(i:Int)(t:Tok):Prop:=nsIn K mainGlobals n=!some (.int i t)
abbrev NZ(K:Frag)(n:Str):Prop:=nsIn K mainGlobals n=!none
abbrev KI(K:Frag)(f:Addr):Prop:=keepIn K (.ref f)=true
def all_mk{l:PySem.W.OpenLaw}{K}(X:K.In h)(G:h.Ns mainGlobals D)(b3:D "law" = !.ref fa)
  {b8 b9 }
  (o:NI K "Hall" C)
  (l0:DF K "is_whole" IP)
  (l1:DF K "is_tuple_of" IQ)
  (l2:DF K "is_ahead" IR)
  (l3:DF K "is_moment" IS)
  (l4:DF K "is_runner" IT)
  (l5:DF K "is_term" IU)
  (l6:DF K "are_shifts" IV)
  (l7:DF K "is_zone" IW)
  (l8:DF K "has_word" IX)
  (l9:DF K "is_plan" IY)
  (c4:DF K "is_late" IZ)
  (c5:DF K "is_deed" Ja)
  (c6:DF K "are_deeds" Jb)
  (c7:DF K "check_zone" Jc)
  (c8:DF K "check_moment" Jd)
  (c9:DF K "check_count" Je)
  (d0:DF K "check_deeds" Jf)
  (d1:DF K "check_runner" Jg)
  (d2:DF K "check_term" Jh)
  (d3:DF K "shown" Ji)
  (d4:DF K "stretches" Jj)
  (d5:DF K "is_ahead_of" Jk)
  (d6:DF K "first_showing" Jl)
  (d7:DF K "furthest_shown" Jm)
  (d8:DF K "first_day" Jn)
  (d9:DF K "daily_time" Jo)
  (e0:DF K "time_of" Jp)
  (e1:DF K "times_by" Jq)
  (e2:DF K "is_left_out" Jr)
  (e3:MF K C "__init__" "Hall.__init__" Js)
  (e4:MF K C "is_held" "Hall.is_held" Jt)
  (e5:MF K C "check_call" "Hall.check_call" Ju)
  (e6:MF K C "check_holder" "Hall.check_holder" Jv)
  (e7:MF K C "take" "Hall.take" Jw)
  (e8:MF K C "give" "Hall.give" Jx)
  (e9:MF K C "add_row" "Hall.add_row" Jy)
  (f0:MF K C "is_busy" "Hall.is_busy" Jz)
  (f1:MF K C "first_unsettled" "Hall.first_unsettled" JA)
  (f2:MF K C "step" "Hall.step" JB)
  (f3:MF K C "step_behind_a_fall" "Hall.step_behind_a_fall" JC)
  (f4:MF K C "step_ahead" "Hall.step_ahead" JD)
  (f5:MF K C "finish" "Hall.finish" JE)
  (f6:MF K C "state" "Hall.state" JF)
  (f7:MF K C "held" "Hall.held" JG)
  (f8:MF K C "log" "Hall.log" JH)
  (f9:MF K C "waiting" "Hall.waiting" JI)
  (g0:DF K "_law_cell_at" JJ)
  (g1:DF K "_law_mixed" JK)
  (g2:DF K "_law_draw" JL)
  (g3:DF K "_law_pick" JM)
  (g4:DF K "_law_zone" JN)
  (g5:DF K "_law_clock" JO)
  (g6:DF K "_law_plan" JP)
  (g7:DF K "_law_dues" JQ)
  (g8:DF K "_law_deeds" JR)
  (g9:DF K "_law_call" JS)
  (h0:DF K "_law_new" JT)
  (h1:DF K "_law_note" JU)
  (h2:DF K "_law_step" JV)
  (h3:DF K "_law_own" JW)
  (h4:DF K "_law_which" wX)
  (h5:DF K "_law_do" JX)
  (h6:DF K "_law_alike" JY)
  (h7:DF K "_law_stands" JZ)
  (U:NI K "law" d)
  (h8:LK K d L I "law" "law" nA u x y t f z J)
  (h9:codeIn K f "law" = true)
  (i0:KI K d)
  (i1:NV K "LAST_MOMENT" (9999) b4)
  (i2:NV K "LAST_COUNT" (9999) b5)
  (i3:NV K "LAST_HOUR" (23) b6)
  (i4:NV K "LEAST_AHEAD" (-12) b7)
  (i5:NV K "MOST_AHEAD" (14) b8)
  (i6:NV K "MOST_SHIFTS" (6) b9)
  (Y:NV K "MOST_STEP" (999) M)
  (i7:NV K "MOST_DEEDS" (6) c0)
  (i8:NV K "MOST_WITHIN" (999) c1)
  (i9:NV K "LAST_RUNNER" (3) c2)
  (Z:NV K "MOST_TERM" (99) c3)
  (j0:NV K "DAY_HOURS" (24) N)
  (a0:NV K "PLAN" (0) O)
  (a1:NV K "LATE" (1) R)
  (a2:NV K "AGAIN" (2) S)
  (j1:NZ K "ANY_ZONE")
  (j2:NZ K "NO_DEEDS")
  (j3:NZ K "ValueError")
  (a3:NZ K "all")
  (j4:NZ K "bool")
  (j5:NZ K "enumerate")
  (a4:NZ K "int")
  (j6:NZ K "isinstance")
  (a5:NZ K "len")
  (j7:NZ K "list")
  (a6:NZ K "max")
  (a7:NZ K "min")
  (j8:NZ K "range")
  (j9:NZ K "sorted")
  (a8:NZ K "str")
  (k0:NZ K "tuple")
  (a9:NZ K "zip")
  (k1:plainGet K C Str.empty=true)
  (k2:PySem.W.hasDictIn K C=true)
  (k3:PySem.W.plainOver K C=true)
  (k4:findIn K (.ref C) "__setattr__" = !!.builtin "object.__setattr__")
  (b0:PySem.W.makesIn K C=true)
  (b1:KI K C)
  (g:findIn K (.ref C) "begun" = !none)
  (i:findIn K (.ref C) "deeds" = !none)
  (b:findIn K (.ref C) "holder" = !none)
  (j:findIn K (.ref C) "holds" = !none)
  (p:findIn K (.ref C) "last" = !none)
  (q:findIn K (.ref C) "rows" = !none)
  (a:findIn K (.ref C) "settled" = !none)
  (k:findIn K (.ref C) "until" = !none)
  (m:findIn K (.ref C) "words" = !none)
  (r:findIn K (.ref C) "zone" = !none)
  (n:NI K "DueError" D_)
  (A:excIn K D_ rL "ValueError.__new__" = true)
  (B:Gy K D_ fi=true) :
  ∃fd,(∀s  v,BindsTo s fd #[[v],[]] [("_law_script",v)])/\∀base,K.In base->base.Ns mainGlobals D->cR l.prog w K D base (du l.prog w) 9 fa fd ["_law_script"] (CI K):=by
 have e:=b3.symm.trans (mg_of X G U);cases e;have b2:=qY (st:=nA) h8 h9 i0;have k5:FD K D "law" nA ["_law_script"] _ _:=#[b2,mg_of X G U,b2.binds λ_ _ _ _ _ _=>vQ λ_=>rfl]
 have HC:eR K D C:=#[#[k1,k2,k3,k4],mg_of X G o,b0,b1,g,i,b,j,p,q,a,k,m,r,e3.md,e4.md,e5.md,e6.md,e7.md,e8.md,e9.md,f0.md,f1.md,f2.md,f3.md,f4.md,f5.md,f6.md,f7.md,f8.md,f9.md]
 have T:Tx K D:=#[l0.fd X G,l1.fd X G,l2.fd X G,l3.fd X G,l4.fd X G,l5.fd X G,l6.fd X G,l7.fd X G,l8.fd X G,l9.fd X G,c4.fd X G,c5.fd X G,c6.fd X G,c7.fd X G,c8.fd X G,c9.fd X G,d0.fd X G,d1.fd X G,d2.fd X G,d3.fd X G,d4.fd X G,d5.fd X G,d6.fd X G,d7.fd X G,d8.fd X G,d9.fd X G,e0.fd X G,e1.fd X G,e2.fd X G,g0.fd X G,g1.fd X G,g2.fd X G,g3.fd X G,g4.fd X G,g5.fd X G,g6.fd X G,g7.fd X G,g8.fd X G,g9.fd X G,h0.fd X G,h1.fd X G,h2.fd X G,h3.fd X G,h4.fd X G,h5.fd X G,h6.fd X G,h7.fd X G,#[_,mg_of X G i1],#[_,mg_of X G i2],#[_,mg_of X G i3],#[_,mg_of X G i4],#[_,mg_of X G i5],#[_,mg_of X G i6],#[_,mg_of X G Y],#[_,mg_of X G i7],#[_,mg_of X G i8],#[_,mg_of X G i9],#[_,mg_of X G Z],#[_,mg_of X G j0],#[_,mg_of X G a0],#[_,mg_of X G a1],#[_,mg_of X G a2],mg_none_of X G j3,mg_none_of X G a3,mg_none_of X G j4,mg_none_of X G j5,mg_none_of X G a4,mg_none_of X G j6,mg_none_of X G a5,mg_none_of X G j7,mg_none_of X G a6,mg_none_of X G a7,mg_none_of X G j8,mg_none_of X G j9,mg_none_of X G a8,mg_none_of X G k0,mg_none_of X G a9,#[D_,#[#[mg_of X G n,n,A],B,λc C e=>mg_of X G e]]]
 exact#[fnOf "law" "law" (lx nA) (iY nA) (dS nA) .none u x y t f z,λs v=>.of_eq rfl,λbase _ _=>(Xq _ _ _ T HC k5).imp λvs H Q E h=>k9 (VC (mg_none_of X G j1) (mg_none_of X G j2) H) (λns hn=>k8 hn) h]
def law_walk{l:PySem.W.OpenLaw}{K:Params->Frag}(r:l.most=!63)(g:d.params.defaults=[])
  (t:∀w  h,j w h->(K w.params).In h)
  (F:∀w  e  m  h,(K w.params).In h->h.Ns mainGlobals e->e d.name=!.ref m->
   ∃fd,(∀s  u,BindsTo s fd #[[u],[]] [("_law_script",u)])/\∀base,(K w.params).In base->base.Ns mainGlobals e->cR l.prog w (K w.params) e base (du l.prog w) 9 m fd ["_law_script"] (CI (K w.params))) :
  PySem.W.WalkO q c p j l.row.toRowW d [] (λf vs=>PySem.call f vs):=by
 refine L2.walk_of r 'f' g #[rfl,by decide,by decide] t F (λw H a C v A B=>?hsp) (λ_ _ _ _ _ y=>by let⟨_,_,_,_,_,_,_,_,_,z⟩:=y;exact z);refine#[a,C,rfl,#[v,?_],λ_=>rfl];rcases B with(b |b) |b
 .rcases A a with i |⟨o,D,i⟩
  .simp_all
  simp_all
 .exact .inl b
 .exact .inr b
end K3
end
namespace PySem.W.Fast
def tw9474197128387646542:=Nat
def tw13160763065708031660:=Nat
def tw2867278631182842097:=Nat
def tw17796182859729088018:=Nat
def tw7004143240842921640:=Nat
def tw12154167863579589516:=Nat
def tw5055811709685396683:=Nat
def tw5390767367146410812:=Nat
def tw2307398754221342252:=Nat
def tw4013749982401933575:=Nat
def tw8945792960000036876:=Nat
def tw4296723195964809692:=Nat
def tw1943696607849881029:=Nat
def tw12238553451705579298:=Nat
def tw1746792509654048149:=Nat
def tw13568580218062768692:=Nat
def tw14348120950765082686:=Nat
def tw8326145090472616140:=Nat
def tw14937546848144228337:=Nat
def tw3080416608267254908:=Nat
def tw2074113111087730434:=Nat
def tw10190855142077436631:=Nat
def tw1243484656102692824:=Nat
def tw13550743552982789043:=Nat
def tw13167432949927969353:=Nat
def tw16302329927211470638:=Nat
def tw1200861198758398409:=Nat
def tw5863936190351196310:=Nat
def tw11167534002160576607:=Nat
def tw2883309512276317830:=Nat
def tw4217974960888012332:=Nat
def tw6698316521304097221:=Nat
def tw6748166027274602534:=Nat
def tw9822257200458601342:=Nat
def tw585050818347399496:=Nat
def tw10234429186564239811:=Nat
def tw7228918689089430752:=Nat
def tw9443188023284830232:=Nat
def tw1084927138754509873:=Nat
def tw2064150123689140174:=Nat
def tw11293127235258651155:=Nat
def tw15111503049688512462:=Nat
def tw13797520192814921793:=Nat
def tw9980024329836485661:=Nat
def tw1605761094900027405:=Nat
def tw4083791526211014061:=Nat
def tw13110925362736854998:=Nat
def tw6746607592844757961:=Nat
def tw18383344874512737465:=Nat
def tw7962703149219631024:=Nat
def tw10187824649213091660:=Nat
def tw11475347670553360418:=Nat
def tw15143563292787429201:=Nat
def tw10770511509511202942:=Nat
def tw10838801191888473901:=Nat
def tw10932929113811840248:=Nat
def tw18110368314005395192:=Nat
def tw17960043571719165267:=Nat
def tw1170856246036046850:=Nat
def tw16908922595901021194:=Nat
def tw16966194209870721589:=Nat
def tw10074163442419519703:=Nat
def tw803567934020070601:=Nat
def tw13896050828682722663:=Nat
def tw14578073799076608906:=Nat
def tw7392110237923621825:=Nat
def tw4164793205695381100:=Nat
def tw17290322443150096159:=Nat
def tw12922586841652643777:=Nat
def tw3411469049017394966:=Nat
def tw6009185020898729191:=Nat
def tw15180922893339501915:=Nat
def tw816497217204659126:=Nat
def tw10085552188744096187:=Nat
def tw14406921425921338262:=Nat
def tw2537647046027460497:=Nat
def tw7877556950704081720:=Nat
def tw18357210176223304976:=Nat
def tw8671866585697959199:=Nat
def tw17534769308921845838:=Nat
def tw2256901565648296609:=Nat
def tw13448082813829307636:=Nat
def tw6914677088484453360:=Nat
def tw13219196616613366994:=Nat
def tw11851525421422997880:=Nat
def tw17439225690577833443:=Nat
def tw12039443440271244376:=Nat
def tw17227147967111222923:=Nat
def tw14068547927214445746:=Nat
def tw2936566239909441995:=Nat
def tw2721517417735739025:=Nat
def tw10291317001386836806:=Nat
def tw12949916009087801498:=Nat
def tw8471315440137083523:=Nat
def tw16141679016870724961:=Nat
def tw3578321279475955319:=Nat
def tw5336447483429236129:=Nat
def tw12232429406330747293:=Nat
def tw16713714285653771740:=Nat
def tw17260759317930544432:=Nat
def tw12159555006936429997:=Nat
def tw5371144910619218444:=Nat
def tw10094457938314795345:=Nat
def tw7856055895949649133:=Nat
def tw3193965210543561041:=Nat
def tw4059834685722906661:=Nat
def tw6056452458332586225:=Nat
def tw17102047700094966741:=Nat
def tw15401904536950962039:=Nat
def tw187357161817308100:=Nat
def tw8147357644124199821:=Nat
def tw15952371490278180975:=Nat
def tw11029603628767684416:=Nat
def tw8299071404635040206:=Nat
def tw14103061523969240884:=Nat
def tw4393480088779034350:=Nat
def tw10636925221411502423:=Nat
def tw939990048274174398:=Nat
def tw15041242318295453344:=Nat
def tw2476582406137861189:=Nat
def tw5264806455941701039:=Nat
def tw3990330214011390533:=Nat
def tw10073939560967440242:=Nat
def tw11674312919016524228:=Nat
def tw13388547783854246496:=Nat
def tw1494503168096023686:=Nat
def tw9181975631036144888:=Nat
def tw11775589505890838490:=Nat
def tw6058454363007382287:=Nat
def tw7257002004779054591:=Nat
def tw13434058882794501789:=Nat
def tw3086491881703558291:=Nat
def tw11877419694518149594:=Nat
def tw3814204605024489263:=Nat
def tw10805910302886191105:=Nat
def tw3607713769630623977:=Nat
def tw18021475245589330312:=Nat
def tw5651515198989369092:=Nat
def tw4929734078641408345:=Nat
def tw14666075504890266029:=Nat
def tw6218980328192984329:=Nat
def tw17819023051414007547:=Nat
def tw17692962775963919460:=Nat
def tw9415593630133497138:=Nat
def tw7257700502333922441:=Nat
def tw12683888521055260586:=Nat
def tw15087061006266516730:=Nat
def tw15857324950216932803:=Nat
def tw11941583427907371180:=Nat
def tw9250707144541826769:=Nat
def tw2388109497814960941:=Nat
def tw15670910131390855356:=Nat
def tw10614100944546511864:=Nat
def tw2412324672606794719:=Nat
def tw16809001353798111324:=Nat
def tw15108713270281060796:=Nat
def tw2399983010875491684:=Nat
def tw16098721899215909761:=Nat
def tw4252823930576735502:=Nat
def tw14724394447445393489:=Nat
def tw10987084365132873542:=Nat
def tw13438564733411829331:=Nat
def tw6202489453264246065:=Nat
def tw8852117701218631541:=Nat
def tw10497694992549847745:=Nat
def tw11483102542778935731:=Nat
def tw5661649030932506297:=Nat
def tw8848017455077206713:=Nat
def tw4920092244059377390:=Nat
def tw10889483777052177117:=Nat
def tw14490711474652447772:=Nat
def tw567101911294881678:=Nat
def tw16381902757857646669:=Nat
def tw11726262101753288871:=Nat
def tw4546780643252475876:=Nat
def tw4439768862587325081:=Nat
def tw1781616020873247567:=Nat
def tw7565705473349844375:=Nat
def tw9306571885614141895:=Nat
def tw2814634104667018662:=Nat
def tw13427079242599020275:=Nat
def tw13909587605079006092:=Nat
def tw2585681504587550528:=Nat
def tw15702226165981662692:=Nat
def tw2209566495711550401:=Nat
def tw7056558089949786350:=Nat
def tw3655216209081395561:=Nat
def tw5903288272836008092:=Nat
def tw3539532119493223467:=Nat
def tw14080459931396831883:=Nat
def tw16835197630988659036:=Nat
def tw17205714480370653176:=Nat
def tw17696530252384458694:=Nat
def tw14219050667323188550:=Nat
def tw833560532264556363:=Nat
def tw9615221820690880985:=Nat
def tw603545181290596607:=Nat
def tw12011031392410816974:=Nat
def tw12368466390249930625:=Nat
def tw15844463752036360244:=Nat
def tw11007689760972215261:=Nat
def tw1417798173664288806:=Nat
def tw10011920161690217447:=Nat
def tw12272133706045995591:=Nat
def tw2050802856318425752:=Nat
def tw12907956130553427829:=Nat
def tw10309432247478785651:=Nat
def tw9410602342993235021:=Nat
def tw17106173692254062716:=Nat
def tw17030230141076191224:=Nat
def tw6476978205914365131:=Nat
def tw5501556110973653142:=Nat
def tw8163589796060421226:=Nat
def tw17578026622253751352:=Nat
def tw17696211664788564524:=Nat
def tw563552139275160714:=Nat
def tw7144066051740480535:=Nat
def tw256862933059704685:=Nat
def tw14955865552295513934:=Nat
def tw13075322663820424217:=Nat
def tw16788903746227782176:=Nat
def tw1979666986552203752:=Nat
def tw10669626385108319041:=Nat
def tw13139538521625667776:=Nat
def tw6669929382459318323:=Nat
def tw13746381170652338487:=Nat
def tw17550353403043357894:=Nat
def tw10042378915180513885:=Nat
def tw10175904412449161667:=Nat
def tw10311469412699675985:=Nat
def tw10616798298553114633:=Nat
def tw1071286432482058337:=Nat
def tw109862296722155664:=Nat
def tw11016389491212103706:=Nat
def tw11205733878509519258:=Nat
def tw11376574280706990272:=Nat
def tw11403848876970835935:=Nat
def tw11680660956427351093:=Nat
def tw11738541360320671499:=Nat
def tw11739178824139649064:=Nat
def tw11743186529196083293:=Nat
def tw11869730703638430311:=Nat
def tw11903286997414735238:=Nat
def tw12206661379765530336:=Nat
def tw1224793598334413495:=Nat
def tw12527586543406821869:=Nat
def tw12710329961188990531:=Nat
def tw12801895490437688291:=Nat
def tw12848656272557021335:=Nat
def tw12966788535031355252:=Nat
def tw13075447047450032913:=Nat
def tw13182309994282786647:=Nat
def tw13210609981966646721:=Nat
def tw13212546551244807041:=Nat
def tw13238184006935082181:=Nat
def tw13444320378314056659:=Nat
def tw1346261861009462646:=Nat
def tw1364280248614583934:=Nat
def tw13651513183871305018:=Nat
def tw1366994809599800640:=Nat
def tw13682840219628789392:=Nat
def tw1377028617311690803:=Nat
def tw14167006040861428952:=Nat
def tw14606336314601079553:=Nat
def tw14950024025052157466:=Nat
def tw15053765503673327489:=Nat
def tw15342671133017284492:=Nat
def tw1552254911808169983:=Nat
def tw15707086924311203906:=Nat
def tw16058018543154149358:=Nat
def tw16067951165487691071:=Nat
def tw16098320116674615965:=Nat
def tw1611164906813266507:=Nat
def tw16123348068538515522:=Nat
def tw16265358702504448328:=Nat
def tw1641992581731830803:=Nat
def tw1642704695251312934:=Nat
def tw16498568154179092970:=Nat
def tw16572460693806838102:=Nat
def tw16713305237870942401:=Nat
def tw16812594743837238612:=Nat
def tw17171762617964060537:=Nat
def tw17421332128509583482:=Nat
def tw1745931683550408495:=Nat
def tw17504403047070424043:=Nat
def tw1775338162506394792:=Nat
def tw17781249489895210713:=Nat
def tw17931951419395639989:=Nat
def tw18014079202470532924:=Nat
def tw18048253213423804144:=Nat
def tw18149100943495295809:=Nat
def tw18158632212372768520:=Nat
def tw18277099486929356907:=Nat
def tw18356983182430048623:=Nat
def tw18412231316193497322:=Nat
def tw18429755264958364658:=Nat
def tw2188922500434161503:=Nat
def tw2267258211655188240:=Nat
def tw2323549845161267080:=Nat
def tw2374999540336529767:=Nat
def tw254787793828261414:=Nat
def tw2554464661203636703:=Nat
def tw2859321526571521327:=Nat
def tw2886418594338176711:=Nat
def tw3005298486048382519:=Nat
def tw320420723058301359:=Nat
def tw3360446828803291523:=Nat
def tw3380067053089685318:=Nat
def tw3458774535635491942:=Nat
def tw3596755638157722269:=Nat
def tw3698981865413826461:=Nat
def tw3915461765168660204:=Nat
def tw3915540027837277074:=Nat
def tw397325638782893889:=Nat
def tw4061829303581575495:=Nat
def tw4231522116199641544:=Nat
def tw4248948422385106386:=Nat
def tw4312232023313893999:=Nat
def tw4441852315545038180:=Nat
def tw4456849934236479858:=Nat
def tw4485583318336996324:=Nat
def tw4660560828148525636:=Nat
def tw4828173194781517229:=Nat
def tw4842235754284660847:=Nat
def tw4850625718990262898:=Nat
def tw5127577562808752312:=Nat
def tw5294023540621297927:=Nat
def tw5737829728622525010:=Nat
def tw5752434274856889625:=Nat
def tw5819437964450591424:=Nat
def tw584480910840141816:=Nat
def tw5861170738300246338:=Nat
def tw5914827930859810624:=Nat
def tw6039580130080024910:=Nat
def tw621798042289364587:=Nat
def tw6546826838026046513:=Nat
def tw6617505871988833957:=Nat
def tw6926758142101928360:=Nat
def tw7145885862643692384:=Nat
def tw7443926131903187665:=Nat
def tw7467566103621075708:=Nat
def tw770317131247837193:=Nat
def tw7920349374737796248:=Nat
def tw8072079694912875679:=Nat
def tw8345562281141573077:=Nat
def tw862198108936191013:=Nat
def tw863158682029100232:=Nat
def tw8932868642788669716:=Nat
def tw9029971197637112897:=Nat
def tw9339812317715676201:=Nat
def tw9352194752243437695:=Nat
def tw9376866505648331332:=Nat
def tw9495696167223451820:=Nat
def tw9659120929369864190:=Nat
def tw9839178569478024476:=Nat
def tw9938854435152344597:=Nat
def tw9960422882835709738:=Nat
end PySem.W.Fast
open PySem PySem.W PyProof.Rows
set_option maxRecDepth 100000 in
set_option maxHeartbeats 0 in
theorem PySem.Challenge.cw_duehall_k04_whole_model_holds : PySem.Challenge.rw_duehall_k04_whole_model.Holds := by
  w_on;o_law;k_head;(case hw => w_witness2)
  k_fill
  refine K3.law_walk (l := PySem.Challenge.rw_duehall_k04_whole_model) rfl rfl (fun w h Y => PySem.W.kIn_of Y) ?F
  case F =>
    intro w mg fa h KX G hmg
    refine' K3.all_mk KX G hmg ?a_Hall ?l0 ?l1 ?l2 ?l3 ?l4 ?l5 ?l6 ?l7 ?l8 ?l9 ?l10 ?l11 ?l12 ?l13 ?l14 ?l15 ?l16 ?l17 ?l18 ?l19 ?l20 ?l21 ?l22 ?l23 ?l24 ?l25 ?l26 ?l27 ?l28 ?l29 ?l30 ?l31 ?l32 ?l33 ?l34 ?l35 ?l36 ?l37 ?l38 ?l39 ?l40 ?l41 ?l42 ?l43 ?l44 ?l45 ?l46 ?l47 ?l48 ?l49 ?l50 ?l51 ?l52 ?l53 ?l54 ?l55 ?l56 ?l57 ?l58 ?l59 ?l60 ?l61 ?l62 ?l63 ?a64 ?l64 ?c64 ?k64 ?v2_ ?v7_ ?v8_ ?v0_ ?v6_ ?v1_ ?v11_ ?v5_ ?v3_ ?v4_ ?v10_ ?v9_ ?v13_ ?v14_ ?v12_ ?z4_ ?z3_ ?z0_ ?z15_ ?z8_ ?z2_ ?z14_ ?z1_ ?z10_ ?z9_ ?z16_ ?z12_ ?z6_ ?z5_ ?z13_ ?z7_ ?z11_ ?pg_ ?hd_ ?po_ ?sa_ ?mks_ ?kpC_ ?n_begun ?n_deeds ?n_holder ?n_holds ?n_last ?n_rows ?n_settled ?n_until ?n_words ?n_zone ?a_Due ?x_Due ?x_tab
    (case a_Hall => (first |unfold K3.LK |unfold K3.NI |unfold K3.NV |unfold K3.NZ |unfold K3.KI |skip);k_is)
    (case l0|l1|l2|l3|l4|l5|l6|l7|l8|l9|l10|l11|l12|l13|l14|l15|l16|l17|l18|l19|l20|l21|l22|l23|l24|l25|l26|l27|l28|l46|l47|l48|l49|l50|l51|l52|l53|l54|l55|l56|l57|l58|l59|l60|l61|l62|l63 => exact⟨_,_,_,_,_,_,_,_,_,_,by k_is,by k_is,by k_is,by k_is⟩)
    (case l29|l30|l31|l32|l33|l34|l35|l36|l37|l38|l39|l40|l41|l42|l43|l44|l45 => exact⟨_,_,_,_,_,_,_,_,_,_,by k_is,by k_is,by k_is,by k_is,by k_is⟩)
    (case a64|l64|c64|k64|v2_|v7_|v8_|v0_|v6_|v1_|v11_|v5_|v3_|v4_|v10_|v9_|v13_|v14_|v12_|z4_|z3_|z0_|z15_|z8_|z2_|z14_|z1_|z10_|z9_|z16_|z12_|z6_|z5_|z13_|z7_|z11_|pg_|hd_|po_|sa_|mks_|kpC_|n_begun|n_deeds|n_holder|n_holds|n_last|n_rows|n_settled|n_until|n_words|n_zone|a_Due => (first |unfold K3.LK |unfold K3.NI |unfold K3.NV |unfold K3.NZ |unfold K3.KI |skip);k_is)
    (case x_Due|x_tab => first |kernel_rfl |rfl)
