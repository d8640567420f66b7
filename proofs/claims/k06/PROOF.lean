import PyProof.Rows.All
import Wide.All
import OpenK.AllK
import Wide.FinOn
import Lean
import PyProof.EqAt
import PyProof.EqKinds
import PyProof.TupleCall
import PySem.Challenge.RW_duehall_k06_whole_one_runner
abbrev q0a:=@List.getElem?_eq_some_iff
abbrev q0b:=@List.mem_cons
abbrev q0c:=@List.getElem?_eq_getElem
abbrev q0d:=@List.mem_append
abbrev q0e:=@List.not_mem_nil
abbrev q0f:=@List.mem_cons_self
abbrev q0g:=@List.flatten_cons
abbrev q0h:=@List.length_map
abbrev q0i:=@List.mem_singleton
abbrev q0j:=@List.nodup_append
abbrev q0k:=@List.append_assoc
abbrev q0l:=@List.map_cons
abbrev q0m:=@List.size_toArray
abbrev q0n:=@Nat.lt_of_lt_of_le
abbrev q0o:=@List.length_cons
abbrev q0p:=@Option.map_eq_some_iff
abbrev q0q:=@List.length_append
abbrev q0r:=@Option.some.inj
abbrev q0s:=@List.lookup_cons
abbrev q0t:=@Nat.ne_of_lt
abbrev q0u:=@List.getElem?_set_ne
abbrev q0v:=@List.getElem?_set_self
abbrev q0w:=@List.nil_append
abbrev q0x:=@Bool.false_ne_true
abbrev q0y:=@List.getElem?_map
abbrev q0z:=@List.getElem?_append_right
abbrev q0A:=@List.length_set
abbrev q0B:=@List.cons_append
abbrev q0C:=@Nat.lt_irrefl
abbrev q0D:=@List.replicate_succ
abbrev q0E:=@Nat.le_trans
abbrev q0F:=@List.append_nil
abbrev q0G:=@List.getElem?_append_left
abbrev q0H:=@Array.length_toList
abbrev q0I:=@List.nodup_cons
abbrev q0J:=@List.drop_eq_getElem_cons
abbrev q0K:=@List.mem_of_getElem?
abbrev q0L:=@List.getElem_mem
abbrev q0M:=@List.nodup_nil
abbrev q0N:=@Option.some.injEq
abbrev q0O:=@List.take_of_length_le
abbrev q0P:=@PySem.mem_of_lookup
abbrev q0Q:=@Bool.and_eq_true
abbrev q0R:=@List.getD_eq_getElem?_getD
abbrev q0S:=@List.cons_merge_cons
abbrev q0T:=@List.map_map
abbrev q0U:=@Int.le_refl
abbrev q0V:=@Nat.ne_of_gt
abbrev q0W:=@List.getElem?_toArray
abbrev q0X:=@PySem.boot_len
abbrev q0Y:=@Nat.zero_le
abbrev q0Z:=@Option.isSome_iff_exists
abbrev q00:=@List.length_nil
abbrev q01:=@List.set_cons_zero
abbrev q02:=@Nat.add_sub_cancel_left
abbrev q03:=@Array.getD_eq_getD_getElem?
abbrev q04:=@List.mem_map
abbrev q05:=@Nat.lt_succ_self
abbrev q06:=@List.drop_eq_nil_of_le
abbrev q07:=@List.filterMap_cons
abbrev q08:=@Array.toList_append
abbrev q09:=@Array.getElem?_eq_getElem
abbrev q1a:=@List.length_replicate
abbrev q1b:=@List.take_append_drop
abbrev q1c:=@List.singleton_append
abbrev q1d:=@Bool.false_eq_true
abbrev q1e:=@Array.getElem?_eq_some_iff
abbrev q1f:=@Nat.le_add_right
abbrev q1g:=@List.getElem?_of_mem
abbrev q1h:=@List.getElem?_cons_zero
abbrev q1i:=@Nat.zero_add
abbrev q1j:=@Option.bind_eq_some_iff
abbrev q1k:=@Nat.le_of_not_lt
abbrev q1l:=@List.length_eq_one_iff
abbrev q1m:=@Nat.le_of_succ_le
abbrev q1n:=@List.length_pos_iff
abbrev q1o:=@List.map_congr_left
abbrev q1p:=@List.drop_drop
abbrev q1q:=@Nat.eq_zero_of_not_pos
abbrev q1r:=@List.set_cons_succ
abbrev q1s:=@List.getElem?_zip_eq_some
abbrev q1t:=@Nat.le_of_lt
abbrev q1u:=@Nat.le_succ
abbrev q1v:=@Int.toNat_natCast
abbrev q1w:=@Nat.lt_succ_of_lt
abbrev q1x:=@List.ext_getElem?
abbrev q1y:=@Nat.add_sub_assoc
abbrev q1z:=@List.exists_cons_of_length_eq_add_one
abbrev q1A:=@Nat.not_lt
abbrev q1B:=@List.flatten_append
abbrev q1C:=@Nat.add_lt_add_left
abbrev q1D:=@List.all_eq_true
abbrev q1E:=@Nat.succ.inj
abbrev q1F:=@List.getElem?_replicate
abbrev q1G:=@List.zip_cons_cons
abbrev q1H:=@List.foldl_cons
abbrev q1I:=@PySem.W.callWith_K
abbrev q1J:=@Nat.min_eq_left
abbrev q1K:=@Bool.or_eq_true
abbrev q1L:=@PySem.F.plainAttrs_list
abbrev q1M:=@List.getElem?_take
abbrev q1N:=@List.getElem?_drop
abbrev q1O:=@List.pairwise_mergeSort
abbrev q1P:=@List.map_append
abbrev q1Q:=@List.Sublist.refl
abbrev q1R:=@List.drop_left
abbrev q1S:=@Int.le_trans
abbrev q1T:=@Nat.lt_or_ge
abbrev q1U:=@List.length_filter_le
abbrev q1V:=@List.length_take
abbrev q1W:=@List.drop_length
abbrev q1X:=@Array.perm_iff_toList_perm
abbrev q1Y:=@List.drop_append_of_le_length
abbrev q1Z:=@List.take_append_of_le_length
abbrev q10:=@List.filter_cons
abbrev q12:=@Int.mul_le_mul_of_nonneg_left
abbrev q14:=@List.range'_succ
abbrev q15:=@PySem.W.hideAll_none
abbrev q16:=@Array.toList_reverse
abbrev q17:=@List.dropLast_concat
abbrev q18:=@List.range_eq_range'
abbrev q19:=@PySem.W.hideAll_get
abbrev q2a:=@PySem.W.plainGet_of
abbrev q2b:=@List.forIn_cons
abbrev q2c:=@List.mem_flatten
abbrev q2d:=@List.Sublist.append
abbrev q2e:=@Nat.not_lt_zero
abbrev q2f:=@Nat.lt_succ_iff_lt_or_eq
abbrev q2g:=@List.map_const'
abbrev q2h:=@List.cons.injEq
abbrev q2i:=@Array.toList_setIfInBounds
abbrev q2j:=@List.mem_filter
abbrev q2k:=@List.mem_range
abbrev q2l:=@List.map_nil
abbrev q2m:=@Nat.lt_of_le_of_lt
abbrev q2n:=@List.sublist_append_right
abbrev q2o:=@List.length_range
abbrev q2p:=@PySem.F.slot_list_append
abbrev q2q:=@PySem.F.type_list_append
abbrev q2r:=@List.pairwise_map
abbrev q2s:=@List.Pairwise.imp_of_mem
abbrev q2t:=@Nat.lt_trichotomy
abbrev q2u:=@List.mem_range'_1
abbrev q2v:=@List.flatMap_cons
abbrev q2w:=@List.eq_of_mem_replicate
abbrev q2x:=@Nat.add_assoc
abbrev q2y:=@Int.not_lt
abbrev q2z:=@List.length_drop
abbrev q2A:=@List.merge_right
abbrev q2B:=@List.ext_getElem
abbrev q2C:=@List.mem_filterMap
abbrev q2D:=@PySem.W.cellsFrom_some
abbrev q2E:=@List.Perm.append_right
abbrev q2F:=@List.drop_of_length_le
abbrev q2G:=@List.range_succ_eq_map
abbrev q2H:=@List.of_mem_zip
abbrev q2I:=@List.length_singleton
abbrev q2J:=@List.length_zip
abbrev q2K:=@Int.le_antisymm
abbrev q2L:=@PySem.W.methodCall_KW
abbrev q2M:=@List.filter_map
abbrev q2N:=@List.drop_zero
abbrev q2O:=@List.take_zero
abbrev q2P:=@List.any_cons
abbrev q2Q:=@List.all_cons
abbrev q2R:=@Nat.le_of_eq
abbrev q2S:=@Nat.sub_zero
abbrev q2T:=@Nat.add_zero
abbrev q2U:=@List.map_set
noncomputable section
set_option Elab.async false
set_option linter.all false
set_option maxRecDepth 100000
set_option compiler.extract_closed false
set_option genSizeOf false
set_option genInjectivity false
local macro_rules | `(tactic|lia)=>`(tactic|first|lia(splits:=9)|omega)
theorem af:type_of% @PySem.wpAny_bind:=@PySem.wpAny_bind
theorem aJ:type_of% @PySem.wpAny_pure:=@PySem.wpAny_pure
theorem aW:type_of% @PySem.Heap.get?_push_of_some:=@PySem.Heap.get?_push_of_some
theorem bm:type_of% @PySem.Heap.lt_size:=@PySem.Heap.lt_size
theorem ba:type_of% @Nat.le_refl:=@Nat.le_refl
theorem aN:type_of% @PyProof.Rows.wpS_bind:=@PyProof.Rows.wpS_bind
theorem be:type_of% @PyProof.Rows.wpS_pure:=@PyProof.Rows.wpS_pure
theorem bP:type_of% @bind_congr:=@bind_congr
theorem bp:type_of% @List.mem_append_right:=@List.mem_append_right
theorem bC:type_of% @List.mem_append_left:=@List.mem_append_left
theorem bt:type_of% @List.mem_cons_of_mem:=@List.mem_cons_of_mem
open PySem.W (instObj Frag plainGet findIn emptyDict keepIn kitOne kia_one fnOf codeIn nsIn mg_of mg_none_of)
theorem Zq(_:0=0:=by rfl):0=0:=rfl
theorem Zr(_:0=0:=by decide):0=0:=rfl
theorem Zs(_:Nat->0=0:=by intro _;rfl):0=0:=rfl
namespace L2
open PySem PySem.Spec PyProof.Rows
abbrev bf:=Sum Int Str
noncomputable def ng:bf->Value->Bool
 |.inl k,v=>Value.isInt k v
 |.inr x,v=>Value.isStrOf x v
noncomputable def HY(w:World):bf->Int
 |.inl k=>hashInt k
 |.inr x=>hashStr w x
theorem jT:∀{k v},ng k v=true->(∃i t,k=Sum.inl i/\v=Value.int i t)\/(∃x t,k=Sum.inr x/\v=Value.str x t)
 |.inl i,v,h=>by obtain⟨t,e⟩:=Value.isInt_shape h;exact .inl ⟨i,t,rfl,e⟩
 |.inr x,v,h=>by obtain⟨t,e⟩:=Value.isStrOf_shape h;exact .inr ⟨x,t,rfl,e⟩
theorem HZ(i t):ng (.inl i) (.int i t)=true:=by simp[ng,Value.isInt]
theorem Ia(x t):ng (.inr x) (.str x t)=true:=by simp[ng,Value.isStrOf]
theorem Ib(a b):decide ((Sum.inl a:bf)=Sum.inl b)=(a==b):=by
 by_cases e:a=b
 .subst e;simp
 .rw[decide_eq_false (fun q=>e (Sum.inl.inj q))];exact(beq_eq_false_iff_ne.mpr e).symm
theorem Ie(a b):decide ((Sum.inr a:bf)=Sum.inr b)=decide (a=b):=by
 by_cases e:a=b
 .simp
 .rw[decide_eq_false (fun q=>e (Sum.inr.inj q)),decide_eq_false e]
theorem Ig(a b):decide ((Sum.inl a:bf)=Sum.inr b)=false:=decide_eq_false (fun q=>nomatch q)
theorem Ih(a b):decide ((Sum.inr a:bf)=Sum.inl b)=false:=decide_eq_false (fun q=>nomatch q)
def hW(prog:Program)(w:World):PySem.KeyKind prog w bf where
 is:=ng
 hash:=HY w
 inj:=fun v a b ha hb=>by
  rcases jT ha with⟨i,t,rfl,rfl⟩ |⟨x,t,rfl,rfl⟩
  .rcases jT hb with⟨j,u,rfl,e⟩ |⟨y,u,rfl,e⟩
   .injection e with e1 _;rw[e1]
   .exact nomatch e
  .rcases jT hb with⟨j,u,rfl,e⟩ |⟨y,u,rfl,e⟩
   .exact nomatch e
   .injection e with e1 _;rw[e1]
 byValue:=fun k v h=>by rcases jT h with⟨i,t,rfl,rfl⟩ |⟨x,t,rfl,rfl⟩<;>rfl
 pyHash:=fun hv h=>by
  rcases jT hv with⟨i,t,rfl,rfl⟩ |⟨x,t,rfl,rfl⟩
  .exact wpAny_pyHash_int h
  .exact wpAny_pyHash_str h
 eqBool:=fun hu hv h=>by
  rcases jT hu with⟨i,t,rfl,rfl⟩ |⟨x,t,rfl,rfl⟩
  .rcases jT hv with⟨j,u,rfl,rfl⟩ |⟨y,u,rfl,rfl⟩
   .rw[Ib]at h;exact wpAny_eqBool_int h
   .rw[Ig]at h;exact SeqAt.EqAt.int_str i t y u _ _ _ _ h
  .rcases jT hv with⟨j,u,rfl,rfl⟩ |⟨y,u,rfl,rfl⟩
   .rw[Ih]at h;exact SeqAt.EqAt.str_int x t j u _ _ _ _ h
   .rw[Ie]at h;exact wpAny_eqBool_str h
 «strs»:=fun k x t v h=>by
  rcases jT h with⟨i,u,rfl,e⟩ |⟨y,u,rfl,e⟩
  .exact nomatch e
  .injection e with e1 _
   subst e1;cases v<;>rfl
theorem Ii(a w i t):(hW a w).is (.inl i) (.int i t)=true:=HZ i t
theorem Ij(a w x t):(hW a w).is (.inr x) (.str x t)=true:=Ia x t
inductive V where
 |non |bl (b:Bool) |int (i:Int) |str (x:Str) |byt (b:Array UInt8) |flt (b:UInt64) |ref (a:Addr) |ty (n:String)
 deriving DecidableEq
def bj:V->Value->Prop
 |.non,u=>u=Value.none
 |.bl b,u=>u=Value.bool b
 |.int i,u=>∃t,u=Value.int i t
 |.str x,u=>∃t,u=Value.str x t
 |.byt b,u=>∃t,u=Value.bytes b t
 |.flt b,u=>∃t,u=Value.float b t
 |.ref a,u=>u=Value.ref a
 |.ty n,u=>u=Value.type n
abbrev bi:List V->List Value->Prop:=Paired bj
theorem bi.length(r:bi a b):a.length=b.length:=Paired.length r
theorem bi.get:∀{a b}{i:Nat}{x},bi a b->a[i]? = some x->∃u,b[i]? = some u/\bj x u
 |_,_,_,_,.nil,e=>by simp at e
 |_,_,0,_,.cons r _,e=>by simp at e;subst e;exact⟨_,rfl,r⟩
 |_,_,i+1,x,.cons _ t,e=>by obtain⟨u,h1,h2⟩:=bi.get t (by simpa using e);exact⟨u,by simpa using h1,h2⟩
theorem bi.set(r:bj x u):∀{a b} i,bi a b->bi (a.set i x) (b.set i u)
 |_,_,_,.nil=>.nil
 |_,_,0,.cons _ t=>.cons r t
 |_,_,i+1,.cons q t=>.cons q (bi.set r i t)
theorem bi.append:∀{a b c d},bi a c->bi b d->bi (a++b) (c++d):=by
 intro a b c d h s
 induction h with
 |nil=>exact s
 |cons r _ e=>exact .cons r e
theorem bi.take:∀{a b} n,bi a b->bi (a.take n) (b.take n)
 |_,_,0,_=>.nil
 |_,_,_+1,.nil=>.nil
 |_,_,n+1,.cons r t=>.cons r (bi.take n t)
theorem bi.drop:∀{a b} n,bi a b->bi (a.drop n) (b.drop n)
 |_,_,0,r=>r
 |_,_,_+1,.nil=>.nil
 |_,_,n+1,.cons _ t=>bi.drop n t
def hZ:Option V->Option Value->Prop
 |some v,some u=>bj v u
 |none,none=>True
 |_,_=>False
def KV{κ:Type}:List (κ×V)->List (κ×Value)->Prop:=Paired fun(p:κ×V) (q:κ×Value)=>p.1=q.1/\bj p.2 q.2
noncomputable def kV:bf->V
 |.inl i=>.int i
 |.inr x=>.str x
inductive HO where
 |lst (xs:List V)
 |tup (xs:List V)
 |dK (kvs:List (bf×V)) |dT (kvs:List (List bf×V))
 |set (S:Int->Bool) (n:Nat)
 |ins (C dx:Addr) (fs:List (Str×V))
 |own (x:Addr)
 |xd (fs:List (Str×V))
 |met (f x:Addr)
 |rng (lo hi:Int)
 |frz (o:Obj) (u:HO)
 |tbl (ps:Array Value)
 |ext (φ:Heap->Prop)
abbrev Hp:=Addr->Option HO
noncomputable def aL(H:Hp)(a:Addr)(o:HO):Hp:=fun b=>if b=a then some o else H b
theorem cG:aL H a o a=some o:=by unfold aL;rw[if_pos rfl]
theorem bB(h:b≠a):aL H a o b=H b:=by unfold aL;rw[if_neg h]
theorem Ik{H:Hp}(h:H a=some o)(c:H b=some u)(d:o≠u):a≠b:=by intro e;subst e;rw[h]at c;exact d (q0r c)
theorem iQ{H:Hp}(h:H a=some o)(c:H b=none):a≠b:=by intro e;subst e;rw[h]at c;cases c
section
variable(P:Program)(w:World)
def cI(H:Hp)(h:Heap)(a:Addr):HO->Prop
 |.lst d=>d.length<=sizeLine/\∃(b:List Value) (n:Nat),bi d b/\h.get? a=some { cls:=.type "list",data:=.seq b.toArray n }
 |.tup d=>d.length<=sizeLine/\∃b:List Value,bi d b/\IsTup h a b.toArray
 |.dK c=>c.length<=sizeLine/\(a==sysModules)=false/\∃i,KV c i/\h.DictOf (hW P w) a i
 |.dT c=>c.length<=sizeLine/\(a==sysModules)=false/\∃d:List (List bf×Addr×Value),
   Paired (fun(p:List bf×V) (q:List bf×Addr×Value)=>p.1=q.1/\H q.2.1=some (.tup (p.1.map kV))/\bj p.2 q.2.2) c d/\
   ∃o j m,h.get? a=some o/\o.ExactDict/\o.data=.dict j m/\j.toList=d.map (entryOfKey (tupleKind (hW P w)))/\(d.map (·.1)).Nodup
 |.set S n=>h.SetOf (intKind P w) a S n
 |.ins C g fs=>H g=some (.own a)/\fs.length<=1000/\g≠a/\h.get? a=some (instObj C g)/\
   ∃e,h.Ns1 g e/\(∀f,hZ (fs.lookup f) (e f))/\PySem.Within e (fs.map (·.1))
 |.own _=>∃o,h.get? a=some o
 |.xd fs=>∃e,h.Ns1 a e/\∀f,hZ (fs.lookup f) (e f)
 |.rng lo r=>∃t u v,h.get? a=some { cls:=.type "range",data:=.fields #[.int lo t,.int r u,.int 1 v] }
 |.frz o u=>h.get? a=some o/\cI H h a u
 |.tbl s=>h.get? a=some { cls:=.none,data:=.fields s }
 |.met f x=>h.get? a=some (PySem.W.methodObj (.ref f) (.ref x))
 |.ext φ=>φ h/\(∃o,h.get? a=some o)/\∀k l:Heap,φ k->(∀o,k.get? a=some o->l.get? a=some o)->φ l
def bJ(H:Hp)(h:Heap):Prop:=∀a o,H a=some o->cI P w H h a o
end
theorem cI.lt(x:cI P w H h a o):a<h.objs.size:=by
 cases o with
 |lst c=>obtain⟨_,_,_,_,e⟩:=x;exact bm e
 |tup c=>obtain⟨_,_,_,p⟩:=x;exact p.lt
 |dK b=>obtain⟨_,_,_,_,o,_,_,e,_⟩:=x;exact bm e
 |dT b=>obtain⟨_,_,_,_,o,_,_,e,_⟩:=x;exact bm e
 |set S n=>obtain⟨o,_,_,_,e,_⟩:=x;exact bm e
 |ins C d fs=>obtain⟨_,_,_,e,_⟩:=x;exact bm e
 |own y=>obtain⟨_,e⟩:=x;exact bm e
 |xd fs=>obtain⟨_,⟨_,_,_,e,_⟩,_⟩:=x;exact bm e
 |rng lo g=>obtain⟨_,_,_,e⟩:=x;exact bm e
 |frz ob u=>obtain⟨e,_⟩:=x;exact bm e
 |tbl i=>exact bm (x)
 |met f y=>exact bm (x)
 |ext φ=>obtain⟨_,⟨_,e⟩,_⟩:=x;exact bm e
theorem Paired.mapP:∀{c:List α}{d},Paired F c d->(∀a b,F a b->G a b)->Paired G c d:=by
 intro c d h f
 induction h with
 |nil=>exact .nil
 |cons r _ e=>exact .cons (f _ _ r) e
theorem cI.stay(x:cI P w H h a o)(k:∀b u,(b=a\/H b=some (.own a))->h.get? b=some u->h'.get? b=some u)
  (L:∀b,H b=some (.own a)->Z b=some (.own a)) (E:∀b m,H b=some (.tup m)->Z b=some (.tup m)):cI P w Z h' a o:=by
 induction o with
 |lst m=>obtain⟨z,l,n,r,e⟩:=x;exact⟨z,l,n,r,k _ _ (.inl rfl) e⟩
 |tup m=>obtain⟨z,l,r,g,e,c⟩:=x;exact⟨z,l,r,g,k _ _ (.inl rfl) e,c⟩
 |dK s=>obtain⟨z,y,G,r,g,i,j,e,c⟩:=x;exact⟨z,y,G,r,g,i,j,k _ _ (.inl rfl) e,c⟩
 |dT s=>obtain⟨z,y,m,r,g,i,j,e,c⟩:=x;exact⟨z,y,m,Paired.mapP r fun p q z=>⟨z.1,E _ _ z.2.1,z.2.2⟩,g,i,j,k _ _ (.inl rfl) e,c⟩
 |set S n=>obtain⟨g,i,j,t,e,c⟩:=x;exact⟨g,i,j,t,k _ _ (.inl rfl) e,c⟩
 |ins C M fs=>obtain⟨d,z,ne,e,A,⟨B,i,j,I,c⟩,r⟩:=x;exact⟨L _ d,z,ne,k _ _ (.inl rfl) e,A,⟨B,i,j,k _ _ (.inr d) I,c⟩,r⟩
 |own y=>obtain⟨g,e⟩:=x;exact⟨g,k _ _ (.inl rfl) e⟩
 |xd fs=>obtain⟨A,⟨B,i,j,e,c⟩,r⟩:=x;exact⟨A,⟨B,i,j,k _ _ (.inl rfl) e,c⟩,r⟩
 |rng lo N=>obtain⟨t,u,v,e⟩:=x;exact⟨t,u,v,k _ _ (.inl rfl) e⟩
 |frz g u J=>obtain⟨e,q⟩:=x;exact⟨k _ _ (.inl rfl) e,J q⟩
 |tbl D=>exact k a _ (.inl rfl) x
 |met f y=>exact k a _ (.inl rfl) x
 |ext φ=>obtain⟨p,⟨o,e⟩,st⟩:=x;exact⟨st _ _ p fun o q=>k _ _ (.inl rfl) q,⟨o,k _ _ (.inl rfl) e⟩,st⟩
theorem bJ.lt(x:bJ P w H h)(e:H a=some o):a<h.objs.size:=(x a o e).lt
theorem bJ.fresh{a:Addr}(x:bJ P w H h)(e:h.objs.size<=a):H a=none:=by
 cases q:H a with
 |none=>rfl
 |some u=>exact absurd (q0n (x.lt q) e) (q0C _)
theorem bJ.kept(x:bJ P w H h)(k:∀b u,h.get? b=some u->h'.get? b=some u):bJ P w H h':=fun a o e=>(x a o e).stay (fun b u _ q=>k b u q) (fun _ q=>q) fun _ _ q=>q
theorem bJ.laid{a:Addr}(x:bJ P w H h)(k:∀b u,h.get? b=some u->h'.get? b=some u)(f:h.objs.size<=a)(new:cI P w (aL H a o) h' a o):bJ P w (aL H a o) h':=fun b u e=>by
 have d:=x.fresh f
 by_cases hb:b=a
 .subst hb;rw[cG]at e;cases e;exact new
 .rw[bB hb]at e;exact(x b u e).stay (fun c v _ q=>k c v q) (fun c q=>by rw[bB (iQ q d)];exact q) fun c g q=>by rw[bB (iQ q d)];exact q
def Rd(H:Hp)(a:Addr)(u:HO):Prop:=H a=some u\/∃o,H a=some (.frz o u)
theorem Rd.ok(r:Rd H a u)(x:bJ P w H h):cI P w H h a u:=by
 rcases r with r |⟨o,r⟩
 .exact x a u r
 .obtain⟨_,q⟩:=x a _ r;exact q
def oJ:Option HO->Prop
 |some (.lst _)=>True
 |some (.dK _)=>True
 |some (.dT _)=>True
 |some (.set _ _)=>True
 |some (.ins _ _ _)=>True
 |some (.ext _)=>True
 |_=>False
theorem bJ.write(ok:bJ P w H h)(g:oJ (H x))(m:e=x\/H e=some (.own x))(k:∀b u,b≠e->h.get? b=some u->Y.get? b=some u)(l:∃u,Y.get? e=some u)
  (new:cI P w (aL H x X) Y x X):bJ P w (aL H x X) Y:=fun b u q=>by
 have d:∀c y,H c=some (.own y)->c≠x:=fun c y r z=>by subst z;rw[r]at g;exact g
 by_cases hb:b=x
 .subst hb;rw[cG]at q;cases q;exact new
 .rw[bB hb]at q
  by_cases a:b=e
  .have n:H b=some (.own x):=by
    rcases m with z |z
    .exact absurd (a.trans z) hb
    .rw[a];exact z
   rw[q]at n;cases n;obtain⟨v,o⟩:=l;exact⟨v,by rw[a];exact o⟩
  .refine(ok b u q).stay (fun c v j r=>k c v ?_ r) (fun c r=>by rw[bB (d c b r)];exact r) fun c i r=>by rw[bB ((fun c i r z=>by subst z;rw[r]at g;exact g) c i r)];exact r
   rcases j with rfl |j
   .exact a
   .rintro rfl;rcases m with z |z
    .exact d c b j z
    .rw[j]at z;cases z;exact hb rfl
structure Un (fs ex:List Addr) (H H':Hp) (h h':Heap):Prop where
 keep:∀b o,h.get? b=some o->H b=none->b∉fs->b∉ex->h'.get? b=some o
 slot:∀b o,h.get? b=some o->H b=none->b∈fs->b∉ex->∃sl,h'.get? b=some { o with slots:=sl }
 free:∀b o,h.get? b=some o->H b=none->b∉ex->H' b=none
 there:∀b o,h.get? b=some o->b∉ex->∃o',h'.get? b=some o'
 tups:∀b xs,H b=some (.tup xs)->H' b=some (.tup xs)
 frzs:∀b o u,H b=some (.frz o u)->H' b=some (.frz o u)
 tbls:∀b ps,H b=some (.tbl ps)->∃more,H' b=some (.tbl (ps++more))
theorem Un.any(u:Un fs ex H T h h1)(q:h.get? b=some c)(n:H b=none)(d:b∉ex):∃f,h1.get? b=some { c with slots:=f }:=by
 by_cases hb:b∈fs
 .exact u.slot b c q n hb d
 .exact⟨c.slots,u.keep b c q n hb d⟩
theorem Un.kept(k:∀b u,h.get? b=some u->h'.get? b=some u):Un fs ex H H h h':=
 ⟨fun b c q _ _ _=>k b c q,fun b c q _ _ _=>⟨c.slots,k b c q⟩,fun _ _ _ n _=>n,fun b c q _=>⟨c,k b c q⟩,fun _ _ q=>q,fun _ _ _ q=>q,fun _ d q=>⟨#[],by rw[q];simp⟩⟩
theorem Un.refl:Un fs ex H H h h:=Un.kept fun _ _ q=>q
theorem Un.laid{h:Heap}{a:Addr}(k:∀b u,h.get? b=some u->h'.get? b=some u)(hp:h.objs.size<=a)(hn:H a=none):Un fs ex H (aL H a o) h h' where
 keep:=fun b u q _ _ _=>k b u q
 slot:=fun b u q _ _ _=>⟨u.slots,k b u q⟩
 free:=fun b u q n _=>by rw[bB (q0t (q0n (bm q) hp))];exact n
 there:=fun b u q _=>⟨u,k b u q⟩
 tups:=fun b xs q=>by rw[bB (iQ q hn)];exact q
 frzs:=fun b u xs q=>by rw[bB (iQ q hn)];exact q
 tbls:=fun b ps q=>⟨#[],by rw[bB (iQ q hn),q];simp⟩
theorem Un.write(d:oJ (H x))(j:e=x\/H e=some (.own x))(k:∀b u,b≠e->h.get? b=some u->h'.get? b=some u)(f:∃u,h'.get? e=some u):Un fs ex H (aL H x o) h h':=by
 have i:∀b,H b=none->b≠x:=fun b n z=>by subst z;rw[n]at d;exact d
 have hb:∀b,H b=none->b≠e:=fun b n z=>by
  subst z;rcases j with r |r
  .exact i b n r
  .rw[n]at r;cases r
 have g:∀b u,H b=some u->¬ oJ (some u)->b≠x:=fun b u q l z=>by subst z;rw[q]at d;exact l d
 refine⟨fun b u q n _ _=>k b u (hb b n) q,fun b u q n _ _=>⟨u.slots,k b u (hb b n) q⟩,fun b u q n _=>by rw[bB (i b n)];exact n,fun b u q _=>?_,
  fun b m q=>by rw[bB (g b _ q fun z=>z)];exact q,fun b u m q=>by rw[bB (g b _ q fun z=>z)];exact q,fun b p q=>⟨#[],by rw[bB (g b _ q fun z=>z),q];simp⟩⟩
 by_cases c:b=e
 .subst c;exact f
 .exact⟨u,k b u c q⟩
noncomputable def qX(h:Heap)(H:Hp):List Addr:=(List.range h.objs.size).filter fun a=>(H a).isSome
def jU(h:Heap)(H:Hp):Heap:=PySem.W.hideAll h (qX h H)
theorem Il(h H):(jU h H).objs.size=h.objs.size:=PySem.W.hideAll_size _ _
theorem Im(e:h.get? b=some o)(n:H b=none):(jU h H).get? b=some o:=
 q19 _ e fun a=>by have q:=(q2j.mp a).2;rw[n]at q;simp at q
theorem Io(e:(jU h H).get? b=some o):h.get? b=some o/\H b=none:=by
 have a:=PySem.W.of_hideAll (qX h H) e;refine⟨a,?_⟩;cases q:H b with
 |none=>rfl
 |some x=>have z:(jU h H).get? b=none:=q15 (qX h H) (q2j.mpr ⟨q2k.mpr (bm a),by simp[q]⟩);rw[z]at e;cases e
structure Mod (K:Frag) (mg:Str->Option Value) (base:Heap):Prop where
 kin:K.In base
 glob:base.Ns mainGlobals mg
 blt:∃mb,base.Ns builtinsNs mb/\∀x:Str,x≠"__name__"->mb x=bootBuiltins x
 nolimit:base.NoLimit
structure Cx where
 prog:Program
 w:World
 K:Frag
 mg:Str->Option Value
 base:Heap
 A:Around
 N:List Str
 s₀:Shared
 H₀:Hp
 env:Env
 outer:List Env
 stack:List Env
 ex:List Addr
 fn:Str->Bool
 calm:Bool
 pn:List (Addr×Obj)
 xe:Value->Shared->Prop
noncomputable def bW(l:List Env):List Addr:=l.filterMap (·.frame)
abbrev Cx.fs(X:Cx):List Addr:=bW X.outer
def qY(a:Scope)(x:Str):Prop:=a.names.lookup x=some .local\/a.names.lookup x=some .cell\/a.names.lookup x=some .free
def Loc(a:Scope)(x:Str):Prop:=a.names.lookup x=some .local\/a.names.lookup x=some .cell
def Ip(a:Env)(h:Heap)(m:Str->Option Value)(x:Str)(u:Value):Prop:=
 (a.kindOf x=some .local/\m x=some u)\/((a.kindOf x=some .cell\/a.kindOf x=some .free)/\∃c,a.cells.lookup x=some c/\h.IsCell c (some u))
structure Cx.Ok (X:Cx):Prop where
 mod:Mod X.K X.mg X.base
 kind:X.env.scope.kind=.function
 glob:X.env.globals=mainGlobals
 blt:X.env.builtins=builtinsNs
 above:X.s₀.heap.objs.size<=X.env.locals
 inj:∀x y c,X.env.cells.lookup x=some c->X.env.cells.lookup y=some c->x=y
 has:∀x,(X.env.kindOf x=some .cell\/X.env.kindOf x=some .free)->∃c,X.env.cells.lookup x=some c
 cab:∀x c,X.fn x=true->X.env.cells.lookup x=some c->X.s₀.heap.objs.size<=c
 hd:X.calm=true->X.A.handled=none
 frames:X.A.frames=some X.stack
 stk:X.stack=X.outer\/(X.stack=X.env::X.outer/\X.env.frame=some X.env.locals)
 exf:∀b∈X.ex,b≠X.env.locals/\∀x c,X.env.cells.lookup x=some c->c≠b
 bs:∀b o,X.base.get? b=some o->X.s₀.heap.get? b=some o/\X.H₀ b=none
 bsz:X.base.objs.size<=X.s₀.heap.objs.size
 noex:∀b o,X.base.get? b=some o->b∉X.ex
 exfs:∀b∈X.ex,b∉X.fs
 funs:X.s₀.heap.FunFrames X.base X.outer
 frf:∀b∈X.fs,X.H₀ b=none
structure Inv (X:Cx) (pins:List (Addr×Obj)) (Y:List (Option V)) (H:Hp) (s:Shared):Prop where
 ok:X.Ok
 os:s.os=X.s₀.os
 bare:AllBare s.gens
 base:Un X.fs X.ex X.H₀ H X.s₀.heap s.heap
 loc:∃m,s.heap.Ns X.env.locals m/\∀(i:Nat) (x:Str) (v:V),X.N[i]? = some x->Y[i]? = some (some v)->qY X.env.scope x->∃u,bj v u/\Ip X.env s.heap m x u
 cell:∀x c,X.env.cells.lookup x=some c->∃v,s.heap.IsCell c v
 free:H X.env.locals=none
 freeC:∀x c,X.env.cells.lookup x=some c->H c=none
 pin:∀p∈X.pn++pins,s.heap.get? p.1=some p.2/\H p.1=none/\p.1≠X.env.locals/\p.1∉X.fs/\∀v,p.2.data≠.cell v
 hok:bJ X.prog X.w H s.heap
 len:Y.length=X.N.length
theorem Cx.Ok.nofr{X:Cx}(ok:X.Ok)(e:X.base.get? b=some o):b∉X.fs:=fun a=>by have:=(ok.funs.mem a).1;rw[e]at this;cases this
theorem Inv.bs(I:Inv X R Y H s):∀b o,X.base.get? b=some o->s.heap.get? b=some o/\H b=none:=fun b o e=>⟨I.base.keep b o (I.ok.bs b o e).1 (I.ok.bs b o e).2 (I.ok.nofr e) (I.ok.noex b o e),I.base.free b o (I.ok.bs b o e).1 (I.ok.bs b o e).2 (I.ok.noex b o e)⟩
theorem Inv.bk(I:Inv X R Y H s):∀b o,X.base.get? b=some o->s.heap.get? b=some o:=fun b o e=>(I.bs b o e).1
theorem Inv.mod(I:Inv X R Y H s):Mod X.K X.mg X.base:=I.ok.mod
theorem Inv.kIn(I:Inv X R Y H s):X.K.In s.heap:=I.ok.mod.kin.keeps I.bk
theorem Inv.lt(I:Inv X R Y H s):X.env.locals<s.heap.objs.size:=let⟨_,a,_⟩:=I.loc;a.lt
theorem Inv.sz(I:Inv X R Y H s):X.s₀.heap.objs.size<=s.heap.objs.size:=q0E I.ok.above (q1t I.lt)
theorem Inv.nofs(I:Inv X R Y H s){a:Addr}(h:s.heap.objs.size<=a):a∉X.fs:=fun b=>by obtain⟨_,o,c,_⟩:=I.ok.funs.mem b;exact absurd (q0n (bm c) (q0E I.sz h)) (q0C _)
theorem Inv.cne(I:Inv X R Y H s):∀x c,X.env.cells.lookup x=some c->c≠X.env.locals:=fun x c e z=>by obtain⟨v,o,ho,hd⟩:=I.cell x c e;obtain⟨m,⟨d,f,g,a,b,_⟩,_⟩:=I.loc;rw[z,a]at ho;cases ho;rw[b]at hd;cases hd
theorem Inv.funs(I:Inv X R Y H s):s.heap.FunFrames X.base X.outer:=by
 have all:∀(l:List Env),(∀b∈bW l,b∈X.fs)->X.s₀.heap.FunFrames X.base l->s.heap.FunFrames X.base l:=by
  intro l
  induction l with
  |nil=>intro _ _;trivial
  |cons env r g=>intro f h;obtain⟨i,⟨L,o,a,j,ho,hd⟩,k⟩:=h;have c:=f L (by unfold bW;rw[q07,a];exact q0f);obtain⟨m,e⟩:=I.base.slot L o ho (I.ok.frf L c) c fun z=>I.ok.exfs L z c;exact⟨i,⟨L,_,a,j,e,hd⟩,g (fun b d=>f b (by unfold bW;rw[q07,a];exact bt _ d)) k⟩
 exact all X.outer (fun _ d=>d) I.ok.funs
theorem Inv.stack(I:Inv X R Y H s):s.heap.FunFrames X.base X.stack:=by
 rcases I.ok.stk with e |⟨e,a⟩
 .rw[e];exact I.funs
 .rw[e];obtain⟨m,b,_⟩:=I.loc;refine .cons (by rw[I.ok.kind];decide) a b ?_ I.funs;exact Heap.get?_none_of_le (q0E I.ok.bsz I.ok.above)
theorem Inv.stkSub(I:Inv X R Y H s):∀b∈bW X.stack,b∈X.env.locals::X.fs:=fun b a=>by
 rcases I.ok.stk with e |⟨e,c⟩
 .rw[e]at a;exact bt _ a
 .rw[e]at a;unfold bW at a;rw[q07,c]at a;exact a
theorem Inv.stkFree(I:Inv X R Y H s):∀b∈bW X.stack,H b=none:=fun b a=>by
 rcases q0b.mp (I.stkSub b a) with e |a
 .rw[e];exact I.free
 .obtain⟨_,o,c,_⟩:=I.ok.funs.mem a;exact I.base.free b o c (I.ok.frf b a) fun z=>I.ok.exfs b z a
theorem Inv.step{ch:List Addr}(I:Inv X R Y H s)
  (f:∀b∈ch,(b∈X.ex\/X.s₀.heap.objs.size<=b)/\b≠X.env.locals/\(∀x c,X.env.cells.lookup x=some c->c≠b)/\∀p∈X.pn++R,p.1≠b)
  (keep:∀b o,b≠X.env.locals->b∉X.fs->b∉ch->s.heap.get? b=some o->H b=none->h'.get? b=some o)
  (slot:∀b o,b≠X.env.locals->b∈X.fs->b∉ch->s.heap.get? b=some o->H b=none->∃N,h'.get? b=some { o with slots:=N }) (free:∀b o,b∉ch->s.heap.get? b=some o->H b=none->O b=none)
  (there:∀b o,b∉ch->s.heap.get? b=some o->∃B,h'.get? b=some B)
  (E:∀b y,H b=some (.tup y)->O b=some (.tup y)) (G:∀b o u,H b=some (.frz o u)->O b=some (.frz o u)) (J:∀b L,H b=some (.tbl L)->∃more,O b=some (.tbl (L++more)))
  (ns:∀m,s.heap.Ns X.env.locals m->h'.Ns X.env.locals m) (Q:bJ X.prog X.w O h') (Z:AllBare g') :
  Inv X R Y O { s with heap:=h',gens:=g',drawn:=d',toks:=t' }:=by
 have C:∀b o,X.s₀.heap.get? b=some o->b≠X.env.locals:=fun b o e=>q0t (q0n (bm e) I.ok.above);have j:∀b o,X.s₀.heap.get? b=some o->b∉X.ex->b∉ch:=fun b o e a A=>by
  rcases(f b A).1 with z |z
  .exact a z
  .exact absurd (q0n (bm e) z) (q0C _)
 have g:∀x c,X.env.cells.lookup x=some c->∀v,s.heap.IsCell c v->h'.IsCell c v:=fun x c e v ⟨o,ho,hd⟩=>by
  have h:=fun z=>(f c z).2.2.1 x c e rfl
  by_cases S:c∈X.fs
  .obtain⟨N,q⟩:=slot c o (I.cne x c e) S h ho (I.freeC x c e);exact⟨_,q,hd⟩
  .exact⟨o,keep c o (I.cne x c e) S h ho (I.freeC x c e),hd⟩
 refine⟨I.ok,I.os,Z,⟨fun b o e n A a=>?_,fun b o e n A a=>?_,fun b o e n a=>?_,fun b o e a=>?_,fun b y e=>E b y (I.base.tups b y e),fun b o y e=>G b o y (I.base.frzs b o y e),fun b L e=>?_⟩,?_,fun x c e=>?_,?_,fun x c e=>?_,fun p T=>?_,Q,I.len⟩
 .exact keep b o (C b o e) A (j b o e a) (I.base.keep b o e n A a) (I.base.free b o e n a)
 .obtain⟨N,t⟩:=I.base.slot b o e n A a;obtain⟨M,D⟩:=slot b _ (C b o e) A (j b o e a) t (I.base.free b o e n a);exact⟨M,D⟩
 .obtain⟨B,t⟩:=I.base.there b o e a;exact free b B (j b o e a) t (I.base.free b o e n a)
 .obtain⟨B,t⟩:=I.base.there b o e a;exact there b B (j b o e a) t
 .obtain⟨m1,t⟩:=I.base.tbls b L e;obtain⟨m2,D⟩:=J b _ t;exact⟨m1++m2,by rw[D,Array.append_assoc]⟩
 .obtain⟨m,hn,hl⟩:=I.loc;refine⟨m,ns m hn,fun i x v t D e3=>?_⟩;obtain⟨u,r,l⟩:=hl i x v t D e3;refine⟨u,r,?_⟩;rcases l with l |⟨k,c,e,z⟩
  .exact .inl l
  .exact .inr ⟨k,c,e,g x c e _ z⟩
 .obtain⟨v,z⟩:=I.cell x c e;exact⟨v,g x c e v z⟩
 .obtain⟨m,⟨o,_,_,ho,_⟩,_⟩:=I.loc;exact free _ o (fun z=>(f _ z).2.1 rfl) ho I.free
 .obtain⟨v,o,ho,hd⟩:=I.cell x c e;exact free c o (fun z=>(f c z).2.2.1 x c e rfl) ho (I.freeC x c e)
 .obtain⟨e,n,ne,U,d⟩:=I.pin p T;have h:=fun z=>(f p.1 z).2.2.2 p T rfl;exact⟨keep p.1 p.2 ne U h e n,free p.1 p.2 h e n,ne,U,d⟩
theorem Inv.un(I:Inv X R Y H s)(u:Un X.fs [] H O s.heap h')(f:bJ X.prog X.w O h'):Inv X R Y O { s with heap:=h',toks:=t' }:=by
 obtain⟨m,⟨o,k,l,ho,r⟩,_⟩:=id I.loc;obtain⟨t,h⟩:=u.any ho I.free (by simp);exact I.step (ch:=[]) (fun _ z=>nomatch z) (fun b o _ g _ e n=>u.keep b o e n g (by simp)) (fun b o _ g _ e n=>u.slot b o e n g (by simp)) (fun b o _ e n=>u.free b o e n (by simp)) (fun b o _ e=>u.there b o e (by simp)) u.tups u.frzs u.tbls (fun p i=>by
  obtain⟨q,c,d,a,j⟩:=i;rw[ho]at a;cases a;exact⟨_,c,d,h,j⟩) f I.bare
theorem Inv.call(I:Inv X R Y H s)(u:Un (bW X.stack) ch H O s.heap h')(j:bJ X.prog X.w O h')(k:AllBare g')
  (d:∀b∈ch,(b∈X.ex\/X.s₀.heap.objs.size<=b)/\b≠X.env.locals/\(∀x c,X.env.cells.lookup x=some c->c≠b)/\∀p∈X.pn++R,p.1≠b) :
  Inv X R Y O { s with heap:=h',gens:=g',drawn:=d',toks:=t' }:=by
 obtain⟨m,⟨o,v,y,ho,r⟩,_⟩:=id I.loc;obtain⟨B,g⟩:=u.any ho I.free fun z=>(d _ z).2.1 rfl;exact I.step d (fun b o g t a e n=>u.keep b o e n (fun z=>(q0b.mp (I.stkSub b z)).elim g t) a) (fun b o _ _ a e n=>u.any e n a) (fun b o a e n=>u.free b o e n a) (fun b o a e=>u.there b o e a) u.tups u.frzs u.tbls (fun m' l=>by
  obtain⟨A,h,i,f,q⟩:=l;rw[ho]at f;cases f;exact⟨_,h,i,g,q⟩) j k
theorem Inv.turned(I:Inv X R Y H s)(k:∀b o,b≠it->s.heap.get? b=some o->h'.get? b=some o)(g:H it=none)(f:it≠X.env.locals)
  (l:it∈X.ex\/X.s₀.heap.objs.size<=it) (t:∀x c,X.env.cells.lookup x=some c->c≠it) (w:∀p∈X.pn++R,p.1≠it):Inv X R Y H { s with heap:=h',toks:=t' }:=by
 have d:∀b u,H b=some u->b≠it:=fun b u e z=>by rw[z,g]at e;cases e
 refine I.step (ch:=[it]) (fun b y=>?_) (fun b o _ _ a e _=>k b o (fun z=>a (by simp[z])) e) (fun b o _ _ a e _=>⟨o.slots,k b o (fun z=>a (by simp[z])) e⟩) (fun _ _ _ _ n=>n)
  (fun b o a e=>⟨o,k b o (fun z=>a (by simp[z])) e⟩) (fun _ _ e=>e) (fun _ _ _ e=>e) (fun b A e=>⟨#[],by rw[e];simp⟩) (fun m h=>?_) (fun b u e=>?_) I.bare
 .have e:=by simpa using y
  subst e;exact⟨l,f,t,w⟩
 .obtain⟨o,i,j,ho,r⟩:=h;exact⟨o,i,j,k _ o f.symm ho,r⟩
 .refine(I.hok b u e).stay (fun c v a q=>k c v ?_ q) (fun _ q=>q) fun _ _ q=>q;rcases a with z |z
  .rw[z];exact d b u e
  .exact d c _ z
theorem Inv.tok(I:Inv X R Y H s)(t):Inv X R Y H { s with toks:=t }:=I.un Un.refl I.hok
theorem Inv.kept(I:Inv X R Y H s)(k:∀b u,s.heap.get? b=some u->h'.get? b=some u):Inv X R Y H { s with heap:=h',toks:=t' }:=I.un (Un.kept k) (I.hok.kept k)
theorem Inv.laid{a:Addr}(I:Inv X R Y H s)(k:∀b u,s.heap.get? b=some u->h'.get? b=some u)(c:s.heap.objs.size<=a)(new:cI X.prog X.w (aL H a o) h' a o) :
  Inv X R Y (aL H a o) { s with heap:=h',toks:=t' }:=I.un (Un.laid k c (I.hok.fresh c)) (I.hok.laid k c new)
theorem Inv.write(I:Inv X R Y H s)(c:oJ (H x))(d:e=x\/H e=some (.own x))(k:∀b u,b≠e->s.heap.get? b=some u->h'.get? b=some u)(a:∃u,h'.get? e=some u)
  (new:cI X.prog X.w (aL H x o) h' x o):Inv X R Y (aL H x o) { s with heap:=h',toks:=t' }:=I.un (Un.write c d k a) (I.hok.write c d k a new)
theorem Inv.pins_of(I:Inv X R Y H s)(h:∀p∈pins',s.heap.get? p.1=some p.2/\H p.1=none/\p.1≠X.env.locals/\p.1∉X.fs/\∀v,p.2.data≠.cell v):Inv X pins' Y H s:=
 ⟨I.ok,I.os,I.bare,I.base,I.loc,I.cell,I.free,I.freeC,fun p a=>(q0d.mp a).elim (fun z=>I.pin p (bC _ z)) (h p),I.hok,I.len⟩
theorem yD{N:List Str}(c:N.Nodup){j:Nat}(a:N[i]? = some x)(b:N[j]? = some x):i=j:=by obtain⟨f,d⟩:=q0a.mp a;obtain⟨g,e⟩:=q0a.mp b;exact(List.getElem_inj c).mp (d.trans e.symm)
theorem yE(I:Inv X R Y H s)(hN:X.N.Nodup)(T:X.N[i]? = some x)(B:Loc X.env.scope x)(r:bj v u)
  (h:∀s',Inv X R (Y.set i (some v)) H s'->(∃a,Heap.SameBut a s.heap s'.heap/\(a=X.env.locals\/X.env.cells.lookup x=some a))->Q () s') (hf:X.fn x=true\/X.env.scope.names.lookup x=some .local:=by first |exact .inl rfl |exact .inr rfl |assumption):wpAny M A (storeName X.env x u) Q E s:=by
 obtain⟨m,hn,hl⟩:=id I.loc;have Z:i<Y.length:=by rw[I.len];exact(q0a.mp T).1
 have cne:=I.cne;have g:∀{a:Addr}{h':Heap},(∃o,s.heap.get? a=some o/\H a=none)->Heap.SameBut a s.heap h'->bJ X.prog X.w H h':=fun {a h'} ha f b ob e=>by
  obtain⟨_,_,C⟩:=ha;refine(I.hok b ob e).stay (fun c w' t q=>(f.2 c ?_).trans q) (fun _ q=>q) fun _ _ q=>q;rintro rfl;rcases t with rfl |t
  .rw[C]at e;cases e
  .rw[C]at t;cases t
 rcases B with G |G
 .refine wpAny_storeName_local G hn (fun h' a4 f=>?_) (by rw[I.ok.kind];rfl);obtain⟨oL,_,_,a5,_⟩:=id hn;refine h _ ⟨I.ok,I.os,I.bare,⟨fun b o e n S B=>?_,fun b o e n S B=>?_,I.base.free,fun b o e B=>?_,I.base.tups,I.base.frzs,I.base.tbls⟩,⟨_,a4,fun j y v' l D e3=>?_⟩,fun y c e=>?_,I.free,I.freeC,fun p hp=>?_,g ⟨oL,a5,I.free⟩ f,by simpa using I.len⟩ ⟨_,f,.inl rfl⟩
  .exact(f.2 b (q0t (q0n (bm e) I.ok.above))).trans (I.base.keep b o e n S B)
  .obtain⟨sl,l⟩:=I.base.slot b o e n S B;exact⟨sl,(f.2 b (q0t (q0n (bm e) I.ok.above))).trans l⟩
  .obtain⟨o',l⟩:=I.base.there b o e B;exact⟨o',(f.2 b (q0t (q0n (bm e) I.ok.above))).trans l⟩
  .by_cases J:j=i
   .subst J;rw[T]at l;cases l;rw[q0v Z]at D;cases D;exact⟨u,r,.inl ⟨G,by simp⟩⟩
   .rw[q0u (Ne.symm J)]at D;obtain⟨u',r',q⟩:=hl j y v' l D e3;refine⟨u',r',?_⟩;rcases q with⟨k,e⟩ |⟨k,c,e,z⟩
    .refine .inl ⟨k,?_⟩;have:y≠x:=fun e=>J (yD hN l (e▸T));simp[this,e]
    .exact .inr ⟨k,c,e,z.sameBut f (cne y c e)⟩
  .obtain⟨w',z⟩:=I.cell y c e;exact⟨w',z.sameBut f (cne y c e)⟩
  .obtain⟨e,n,ne,nf,d⟩:=I.pin p hp;exact⟨(f.2 p.1 ne).trans e,n,ne,nf,d⟩
 .have L:X.fn x=true:=by
   rcases hf with z |z
   .exact z
   .rw[z]at G;cases G
  obtain⟨c,t⟩:=I.ok.has x (.inl G);obtain⟨w',z⟩:=I.cell x c t;refine wpAny_storeName_cell I.ok.kind G t z (fun h' a0 f=>?_);obtain⟨oc,a1,a2⟩:=id z;refine h { s with heap:=h' } ⟨I.ok,I.os,I.bare,⟨fun b o e n S B=>?_,fun b o e n S B=>?_,I.base.free,fun b o e B=>?_,I.base.tups,I.base.frzs,I.base.tbls⟩,⟨m,hn.sameBut f (Ne.symm (cne x c t)),fun j y v' l D e3=>?_⟩,fun y c' e=>?_,I.free,I.freeC,fun p hp=>?_,g ⟨oc,a1,I.freeC x c t⟩ f,by simpa using I.len⟩ ⟨c,f,.inr t⟩
  .exact(f.2 b (q0t (q0n (bm e) (I.ok.cab x c L t)))).trans (I.base.keep b o e n S B)
  .obtain⟨sl,l⟩:=I.base.slot b o e n S B;exact⟨sl,(f.2 b (q0t (q0n (bm e) (I.ok.cab x c L t)))).trans l⟩
  .obtain⟨o',l⟩:=I.base.there b o e B;exact⟨o',(f.2 b (q0t (q0n (bm e) (I.ok.cab x c L t)))).trans l⟩
  .by_cases J:j=i
   .subst J;rw[T]at l;cases l;rw[q0v Z]at D;cases D;exact⟨u,r,.inr ⟨.inl G,c,t,a0⟩⟩
   .rw[q0u (Ne.symm J)]at D;obtain⟨u',r',q⟩:=hl j y v' l D e3;refine⟨u',r',?_⟩;rcases q with q |⟨k,c',e,z'⟩
    .exact .inl q
    .refine .inr ⟨k,c',e,z'.sameBut f ?_⟩;rintro rfl;exact J (yD hN l (I.ok.inj _ _ _ e t▸T))
  .by_cases a3:c' = c
   .subst a3;exact⟨_,a0⟩
   .obtain⟨w2,z2⟩:=I.cell y c' e;exact⟨w2,z2.sameBut f a3⟩
  .obtain⟨e,n,ne,nf,d⟩:=I.pin p hp;refine⟨(f.2 p.1 ?_).trans e,n,ne,nf,d⟩;intro q;rw[q,a1]at e;exact d w' (by rw[<-(q0r e)];exact a2)
theorem yF(I:Inv X R Y H s)(b:X.N.Nodup)(c:X.N[i]? = some x)(d:Loc X.env.scope x)(r:bj v u)
  (h:∀a,Inv X R (Y.set i (some v)) H a->Q () a) (e:X.fn x=true\/X.env.scope.names.lookup x=some .local:=by first |exact .inl rfl |exact .inr rfl |assumption):wpAny M A (storeName X.env x u) Q E s:=
 yE I b c d r (fun a f _=>h a f) e
theorem Inv.call'(I:Inv X R Y H s)(k:a.os=s.os)(u:Un (bW X.stack) ch H O s.heap a.heap)(f:bJ X.prog X.w O a.heap)(g:AllBare a.gens)
  (d:∀b∈ch,(b∈X.ex\/X.s₀.heap.objs.size<=b)/\b≠X.env.locals/\(∀x c,X.env.cells.lookup x=some c->c≠b)/\∀p∈X.pn++R,p.1≠b):Inv X R Y O a:=by
 obtain⟨h',h,i,t',j⟩:=a;subst k;exact I.call u f g d
abbrev XK:=Value->Option Addr->Hp->Prop
abbrev St:=List (Option V)
abbrev VK:=V->Hp->Prop
abbrev TE:=St->Hp->VK->Prop
abbrev TT:=St->Hp->(Bool->Hp->Prop)->Prop
abbrev TA:=St->Hp->(List V->Hp->Prop)->Prop
structure ic where
 nx:St->Hp->Prop
 rt:VK
 bk:St->Hp->Prop:=fun _ _=>False
 ct:St->Hp->Prop:=fun _ _=>False
abbrev TS:=ic->St->Hp->Prop
def EP(X:Cx)(a:List (Addr×Obj))(Y:St)(Q:VK)(u:Value)(c:Shared):Prop:=∃v b,Inv X a Y b c/\bj v u/\Q v b
def TP(X:Cx)(a:List (Addr×Obj))(Y:St)(Q:Bool->Hp->Prop)(b:Bool)(d:Shared):Prop:=∃c,Inv X a Y c d/\Q b c
def AP(X:Cx)(a:List (Addr×Obj))(Y:St)(Q:List V->Hp->Prop)(d:List Value)(e:Shared):Prop:=∃b c,Inv X a Y c e/\bi b d/\Q b c
def SP(X:Cx)(a:List (Addr×Obj))(D:ic)(f:Flow)(d:Shared):Prop:=
 match f with
 |.next=>∃c b,Inv X a c b d/\D.nx c b
 |.brk=>∃c b,Inv X a c b d/\D.bk c b
 |.cont=>∃c b,Inv X a c b d/\D.ct c b
 |.ret u=>∃v c b,Inv X a c b d/\bj v u/\D.rt v b
def PE(X:Cx)(e:Expr)(t:TE):Prop:=
 ∀(a:List (Addr×Obj)) (s:Shared) (Y:St) (H:Hp) (Q:VK),Inv X a Y H s->t Y H Q->wpAny (model X.prog X.w) X.A (eval e X.env) (EP X a Y Q) X.xe s
def PT(X:Cx)(e:Expr)(t:TT):Prop:=
 ∀(a:List (Addr×Obj)) (s:Shared) (Y:St) (H:Hp) (Q:Bool->Hp->Prop),Inv X a Y H s->t Y H Q->wpAny (model X.prog X.w) X.A (isTrue e X.env (eval e X.env)) (TP X a Y Q) X.xe s
def PW(X:Cx)(e:Expr)(t:TT):Prop:=
 ∀(whole:Sem Value) (a:List (Addr×Obj)) (s:Shared) (Y:St) (H:Hp) (Q:Bool->Hp->Prop),Inv X a Y H s->t Y H Q->wpAny (model X.prog X.w) X.A (isTrue e X.env whole) (TP X a Y Q) X.xe s
theorem PW.pt(h:PW X e t):PT X e t:=h _
def PA(X:Cx)(b:List Expr)(t:TA):Prop:=
 ∀(pos:Pos) (a:List (Addr×Obj)) (s:Shared) (Y:St) (H:Hp) (Q:List V->Hp->Prop),Inv X a Y H s->t Y H Q->wpAny (model X.prog X.w) X.A (spliced (backTo pos (starEach b X.env))) (AP X a Y Q) X.xe s
def PS(X:Cx)(st:Stmt)(t:TS):Prop:=
 ∀(a:List (Addr×Obj)) (s:Shared) (Y:St) (H:Hp) (D:ic),Inv X a Y H s->t D Y H->wpAny (model X.prog X.w) X.A (exec st X.env) (SP X a D) X.xe s
def PSs(X:Cx)(st:List Stmt)(t:TS):Prop:=
 ∀(a:List (Addr×Obj)) (s:Shared) (Y:St) (H:Hp) (D:ic),Inv X a Y H s->t D Y H->wpAny (model X.prog X.w) X.A (execs st X.env) (SP X a D) X.xe s
theorem aU{t:Sem α}{Q b}(h:wpAny M A t Q E s)(c:∀a s,Q a s->b a s):wpAny M A t b E s:=wpAny_mono h c fun _ _ x=>x
def bZ(i:Nat):TE:=fun Y H Q=>∃v,Y[i]? = some (some v)/\Q v H
def tC(v:V):TE:=fun _ H Q=>Q v H
theorem Iq{X:Cx}{pos}(j:X.N[i]? = some x)(k:qY X.env.scope x)(hd:autoParam ((x==("__debug__":Str))=false) Zr._auto_1)(f:autoParam ((x==("__classdict__":Str))=false) Zr._auto_1):PE X (.Name x pos) (bZ i):=by
 intro d s Y H Q I h;obtain⟨v,e,h⟩:=h;obtain⟨m,n,o⟩:=I.loc;obtain⟨u,r,l⟩:=o i x v j e k;have fin:EP X d Y Q u s:=⟨v,H,I,r,h⟩
 rcases l with⟨b,p⟩ |⟨b,c,g,a⟩
 .exact wpAny_Name (wpAny_loadName_local I.ok.kind b n p fin) hd
 .rcases b with b |b
  .exact wpAny_Name (wpAny_loadName_cell I.ok.kind b g a fin) hd
  .exact wpAny_Name (wpAny_loadName_free I.ok.kind b g a fin f) hd
theorem uF:PE X (.Constant (.int i) j pos) (tC (.int i)):=fun _ _ _ H _ I h=>wpAny_Constant_int ⟨.int i,H,I.tok _,⟨_,rfl⟩,h⟩
theorem Ir:PE X (.Constant (.bool b) j pos) (tC (.bl b)):=fun _ _ _ H _ I h=>Constant_bool ⟨.bl b,H,I,rfl,h⟩
theorem yG:PE X (.Constant .none j pos) (tC .non):=fun _ _ _ H _ I h=>Constant_none ⟨.non,H,I,rfl,h⟩
theorem Iu:PE X (.Constant (.str x) j pos) (tC (.str x)):=fun _ _ _ H _ I h=>Calls.Constant_str ⟨.str x,H,I.tok _,⟨_,rfl⟩,h⟩
def Gl(X:Cx)(x:Str):Prop:=X.env.kindOf x=some .globalImplicit
theorem qZ{Y:St}(I:Inv X a Y H s)(b:Gl X x)(c:X.mg x=some u)(h:Q u s)
  (hd:autoParam ((x==("__debug__":Str))=false) Zr._auto_1):wpAny (model X.prog X.w) X.A (eval (.Name x pos) X.env) Q E s:=
 Calls.Name_function_global I.ok.kind b (Calls.loadGlobal_global (by rw[I.ok.glob];exact I.mod.glob.keeps I.bk) c h) hd
theorem iz{E}{Y:St}{pos}(I:Inv X a Y H s)(b:Gl X x)(c:X.mg x=none)(d:bootBuiltins x=some u)(h:Q u s)
  (e:autoParam (x≠"__name__") Zr._auto_1) (hd:autoParam ((x==("__debug__":Str))=false) Zr._auto_1):wpAny (model X.prog X.w) X.A (eval (.Name x pos) X.env) Q E s:=by
 obtain⟨f,h1,h2⟩:=I.mod.blt;exact Calls.Name_function_global I.ok.kind b (Calls.loadGlobal_builtin (by rw[I.ok.glob];exact I.mod.glob.keeps I.bk) c (by rw[I.ok.blt];exact h1.keeps I.bk) ((h2 x e).trans d) h) hd
theorem Iw(a:Gl X x)(b:X.mg x=some u)(r:bj v u)(hd:autoParam ((x==("__debug__":Str))=false) Zr._auto_1):PE X (.Name x pos) (tC v):=
 fun _ _ _ H _ I h=>qZ I a b ⟨v,H,I,r,h⟩ hd
theorem jV{pos}(a:Gl X x)(b:X.mg x=none)(c:bootBuiltins x=some u)(r:bj v u)(d:autoParam (x≠"__name__") Zr._auto_1)(hd:autoParam ((x==("__debug__":Str))=false) Zr._auto_1):PE X (.Name x pos) (tC v):=
 fun _ _ _ H _ I h=>iz I a b c ⟨v,H,I,r,h⟩ d hd
def tB(t:TE):TT:=fun Y H Q=>t Y H fun x d=>∃c,x=.bl c/\Q c d
theorem Ix(h:PE X e t)(f:autoParam (∀whole,isTrue e X.env whole=(do let v <-whole;standAt e.pos;holding [v] (truthy v))) Zs._auto_1):PT X e (tB t):=by intro c s Y H Q I g;refine isTrue_plain (aU (h c s Y H _ I g) fun v m i=>?_) (f _);obtain⟨x,j,I1,k,l⟩:=i;obtain⟨d,rfl,q⟩:=l;cases k;exact wpAny_truthy_bool ⟨j,I1,q⟩
def Iy(t u:TT):TT:=fun Y H Q=>t Y H fun c d=>if c=true then u Y d Q else Q false d
def Iz(t u:TT):TT:=fun Y H Q=>t Y H fun c d=>if c=true then Q true d else u Y d Q
def IA(t:TT):TT:=fun Y H Q=>t Y H fun c d=>Q (!c) d
theorem IB(f:PT X a J):PW X (.BoolOp .And [a] pos) J:=by
 intro g d s Y H Q I h;refine isTrue_and (aU (f d s Y H Q I h) fun c i e=>?_);cases c with
 |true=>exact isTrue_and_nil e
 |false=>exact e
theorem IC(f:PT X a J):PW X (.BoolOp .Or [a] pos) J:=by
 intro g d s Y H Q I h;refine isTrue_or (aU (f d s Y H Q I h) fun c i e=>?_);cases c with
 |false=>exact isTrue_or_nil e
 |true=>exact e
theorem ID(g:PT X a J)(l:PW X (.BoolOp .And (b::rest) pos) G):PW X (.BoolOp .And (a::b::rest) pos) (Iy J G):=by
 intro i d s Y H Q I h;refine isTrue_and (aU (g d s Y H _ I h) fun c j k=>?_);obtain⟨e,I1,f⟩:=k;cases c with
 |true=>exact l i d j Y e Q I1 f
 |false=>exact⟨e,I1,f⟩
theorem IE(g:PT X a J)(l:PW X (.BoolOp .Or (b::rest) pos) G):PW X (.BoolOp .Or (a::b::rest) pos) (Iz J G):=by
 intro i d s Y H Q I h;refine isTrue_or (aU (g d s Y H _ I h) fun c j k=>?_);obtain⟨e,I1,f⟩:=k;cases c with
 |true=>exact⟨e,I1,f⟩
 |false=>exact l i d j Y e Q I1 f
theorem IF(e:PT X a J):PT X (.UnaryOp .Not a pos) (IA J):=by intro d s Y H Q I h;exact isTrue_not (e d s Y H (fun c f=>Q (!c) f) I h)
def IG(M L:TE):TE:=fun Y H Q=>M Y H fun x d=>∃c,x=.bl c/\if c=true then L Y d Q else Q (.bl false) d
def IH(M L:TE):TE:=fun Y H Q=>M Y H fun x d=>∃c,x=.bl c/\if c=true then Q (.bl true) d else L Y d Q
def II(M:TE):TE:=fun Y H Q=>M Y H fun x d=>∃c,x=.bl c/\Q (.bl (!c)) d
theorem IJ(h:PE X a t):PE X (.BoolOp op [a] pos) t:=fun c s Y H Q I d=>BoolOp_one (h c s Y H Q I d)
theorem IK(i:PE X a M)(l:PE X (.BoolOp .And (b::rest) pos) L):PE X (.BoolOp .And (a::b::rest) pos) (IG M L):=by
 intro d s Y H Q I h;refine BoolOp_and (aU (i d s Y H _ I h) fun v j e=>?_);obtain⟨x,g,I1,k,f⟩:=e;obtain⟨c,rfl,f⟩:=f;cases k;apply wpAny_truthy_bool;cases c with
 |true=>exact l d j Y g Q I1 f
 |false=>exact⟨.bl false,g,I1,rfl,f⟩
theorem IL(i:PE X a M)(l:PE X (.BoolOp .Or (b::rest) pos) L):PE X (.BoolOp .Or (a::b::rest) pos) (IH M L):=by
 intro d s Y H Q I h;refine BoolOp_or (aU (i d s Y H _ I h) fun v j e=>?_);obtain⟨x,g,I1,k,f⟩:=e;obtain⟨c,rfl,f⟩:=f;cases k;apply wpAny_truthy_bool;cases c with
 |false=>exact l d j Y g Q I1 f
 |true=>exact⟨.bl true,g,I1,rfl,f⟩
theorem IM(g:PE X a M):PE X (.UnaryOp .Not a pos) (II M):=by intro d s Y H Q I h;refine UnaryOp_ (aU (g d s Y H _ I h) fun v k e=>?_);obtain⟨x,i,I1,j,f⟩:=e;obtain⟨c,rfl,f⟩:=f;cases j;exact not_of (wpAny_truthy_bool ⟨.bl (!c),i,I1,rfl,f⟩)
def IP(t:TT)(M L:TE):TE:=fun Y H Q=>t Y H fun c d=>if c=true then M Y d Q else L Y d Q
theorem IQ(j:PT X c J)(k:PE X a M)(m:PE X b L):PE X (.IfExp c a b pos) (IP J M L):=by
 intro e s Y H Q I h;refine wpAny_IfExp (aU (j e s Y H _ I h) fun d f l=>?_);obtain⟨g,I1,i⟩:=l;cases d with
 |true=>exact k e f Y g Q I1 i
 |false=>exact m e f Y g Q I1 i
def cZ(K:Frag)(H:Hp)(a:Addr)(c:List V):Prop:=
 Rd H a (.lst c)\/
  ∃(o:Obj) (b:Array Value) (n:Nat),K.lookup a=some o/\o.cls=.type "list"/\o.dict=none/\o.data=.seq b n/\b.size<=sizeLine/\bi c b.toList
def eL(K:Frag)(H:Hp)(a:Addr)(c:List V):Prop:=
 Rd H a (.tup c)\/
  ∃(o:Obj) (b:Array Value) (n:Nat),K.lookup a=some o/\o.cls=.type "tuple"/\o.data=.seq b n/\b.size<=sizeLine/\bi c b.toList
noncomputable def IR:Value->Option V
 |.none=>some .non
 |.bool b=>some (.bl b)
 |.int i _=>some (.int i)
 |.str x _=>some (.str x)
 |.bytes b _=>some (.byt b)
 |.float b _=>some (.flt b)
 |.ref a=>some (.ref a)
 |.type n=>some (.ty n)
 |_=>none
theorem bj.abs(r:bj x u):IR u=some x:=by
 cases x with
 |non=>cases r;rfl
 |bl _=>cases r;rfl
 |int _=>obtain⟨t,rfl⟩:=r;rfl
 |str _=>obtain⟨t,rfl⟩:=r;rfl
 |byt _=>obtain⟨t,rfl⟩:=r;rfl
 |flt _=>obtain⟨t,rfl⟩:=r;rfl
 |ref _=>cases r;rfl
 |ty _=>cases r;rfl
theorem bj.inj(r:bj x u)(q:bj y u):x=y:=q0r (r.abs.symm.trans q.abs)
theorem bi.inj:∀{b a c},bi b c->bi a c->b=a:=by
 intro b a c h
 induction h generalizing a with
 |nil=>intro g;cases g;rfl
 |cons r _ d=>intro g;cases g with
  |cons e t'=>rw[r.inj e,d t']
theorem cZ.of{K}(h:H a=some (.lst N)):cZ K H a N:=.inl (.inl h)
theorem Inv.list{Y:St}(I:Inv X Q Y H s)(h:cZ X.K H a N):∃b,bi N b/\PlainL s.heap a b.toArray/\N.length<=sizeLine:=by
 rcases h with h |⟨o,b,n,c,d,hd,hs,f,r⟩
 .obtain⟨z,b,n,r,e⟩:=h.ok I.hok;exact⟨b,r,⟨_,n,e,rfl,rfl,rfl⟩,z⟩
 .refine⟨b.toList,r,⟨o,n,I.kIn a o c,d,hd,by simpa using hs⟩,?_⟩;have e:=r.length;simp only[q0H]at e;lia
theorem Inv.tuple{Y:St}(I:Inv X Q Y H s)(h:eL X.K H a N):∃b,bi N b/\IsTup s.heap a b.toArray/\N.length<=sizeLine:=by
 rcases h with h |⟨o,b,n,c,d,hs,f,r⟩
 .obtain⟨z,b,r,p⟩:=h.ok I.hok;exact⟨b,r,p,z⟩
 .refine⟨b.toList,r,⟨o,I.kIn a o c,d,n,by simpa using hs⟩,?_⟩;have e:=r.length;simp only[q0H]at e;lia
theorem Inv.list_inj{Y:St}(I:Inv X Q Y H s)(h:cZ X.K H a N)(i:cZ X.K H a E):N=E:=by
 obtain⟨c,r,⟨o,n,e,_,_,d⟩,_⟩:=I.list h;obtain⟨b,j,⟨l,m,f,_,_,g⟩,_⟩:=I.list i;rw[e]at f;cases f;rw[d]at g;injection g with k _
 have:=by simpa using congrArg Array.toList k
 subst this;exact r.inj j
theorem Inv.tuple_inj{Y:St}(I:Inv X Q Y H s)(h:eL X.K H a N)(i:eL X.K H a E):N=E:=by
 obtain⟨c,r,⟨o,e,_,n,d⟩,_⟩:=I.tuple h;obtain⟨b,j,⟨l,f,_,m,g⟩,_⟩:=I.tuple i;rw[e]at f;cases f;rw[d]at g;injection g with k _
 have:=by simpa using congrArg Array.toList k
 subst this;exact r.inj j
def IS:TS:=fun D Y H=>D.nx Y H
def IT(t u:TS):TS:=fun D Y H=>t { D with nx:=u D } Y H
theorem IU:PSs X [] IS:=fun _ _ Y H _ I h=>wpAny_execs_nil ⟨Y,H,I,h⟩
theorem IW{st:Stmt}(i:PS X st t)(j:PSs X rest u):PSs X (st::rest) (IT t u):=by
 intro a s Y H D I h;refine wpAny_execs_cons (aU (i a s Y H { D with nx:=u D } I h) fun f b q=>?_);cases f with
 |next=>obtain⟨c,d,g,q⟩:=q;exact j a b c d D g q
 |ret v=>exact q
 |brk=>exact q
 |cont=>exact q
theorem IX{st:Stmt}(b:PS X st t):PSs X [st] t:=by
 intro a s Y H D I h;refine wpAny_execs_cons (aU (b a s Y H D I h) fun f c q=>?_);cases f with
 |next=>exact wpAny_execs_nil q
 |ret v=>exact q
 |brk=>exact q
 |cont=>exact q
def IY:TS:=fun D Y H=>D.bk Y H
theorem IZ:PS X (.Break pos) IY:=fun _ _ Y H _ I h=>wpAny_Break ⟨Y,H,I,h⟩
theorem Inv.quiet{Y:St}(I:Inv X a Y H s):interactive X.env=false:=by simp[interactive,I.ok.kind]
def Ja(C:TE):TS:=fun D Y H=>C Y H fun _ a=>D.nx Y a
theorem uG(c:PE X e C)(g:autoParam (swapsWith e none pos.line X.env=pure false) Zq._auto_1):PS X (.Expr e pos) (Ja C):=by intro a s Y H D I h;exact wpAny_Expr_any (aU (c a s Y H _ I h) fun v i b=>by obtain⟨x,d,I1,j,f⟩:=b;exact⟨Y,d,I1,f⟩) I.quiet g
def Jb(C:TE):TS:=fun D Y H=>C Y H D.rt
theorem uH(b:PE X e C):PS X (.Return (some e) pos) (Jb C):=by intro a s Y H D I h;exact wpAny_Return_some (aU (b a s Y H _ I h) fun v g ⟨x,c,I1,d,f⟩=>⟨x,Y,c,I1,d,f⟩)
def Jc(c:TT)(t u:TS):TS:=fun D Y H=>c Y H fun b a=>if b=true then t D Y a else u D Y a
theorem Jd(l:PT X c g)(m:PSs X a t)(o:PSs X b u):PS X (.If c a b pos) (Jc g t u):=by
 intro f s Y H D I h;refine wpAny_If (aU (l f s Y H _ I h) fun d i n=>?_);obtain⟨j,I1,k⟩:=n;cases d with
 |true=>exact m f i Y j D I1 k
 |false=>exact o f i Y j D I1 k
abbrev TG:=V->St->Hp->(St->Hp->Prop)->Prop
abbrev jW:=List V->St->Hp->(St->Hp->Prop)->Prop
def PG(X:Cx)(target:Expr)(t:TG):Prop:=
 ∀(a:List (Addr×Obj)) (s:Shared) (Y:St) (H:Hp) (v:V) (u:Value) (Q:St->Hp->Prop),Inv X a Y H s->bj v u->t v Y H Q->
  wpAny (model X.prog X.w) X.A (assign target X.env u) (fun _ d=>∃b c,Inv X a b c d/\Q b c) X.xe s
def PGs(X:Cx)(f:List Expr)(t:jW):Prop:=
 ∀(a:List (Addr×Obj)) (s:Shared) (Y:St) (H:Hp) (b:List V) (c:List Value) (Q:St->Hp->Prop),Inv X a Y H s->bi b c->t b Y H Q->
  wpAny (model X.prog X.w) X.A (assignInOrder ((assignEach f X.env).map (·.2)) c) (fun _ g=>∃d e,Inv X a d e g/\Q d e) X.xe s
abbrev uI:=V->V->V->Hp->(Hp->Prop)->Prop
def yH(X:Cx)(t:uI):Prop:=
 ∀(a:List (Addr×Obj)) (s:Shared) (Y:St) (H:Hp) (o i v:V) (b c u:Value) (Q:Hp->Prop),Inv X a Y H s->bj o b->bj i c->bj v u->t o i v H Q->
  wpAny (model X.prog X.w) X.A (setItem b c u) (fun _ e=>∃d,Inv X a Y d e/\Q d) X.xe s
section
variable{X:Cx}{pos:Pos}
def ra(i:Nat):TG:=fun v Y H Q=>Q (Y.set i (some v)) H
theorem Je(b:X.N.Nodup)(c:X.N[i]? = some x)(d:Loc X.env.scope x)(e:X.fn x=true\/X.env.scope.names.lookup x=some .local:=by first |exact .inl rfl |exact .inr rfl |assumption):PG X (.Name x pos) (ra i):=by intro a s Y H v u Q I r h;exact wpAny_assign_Name (yF I b c d r (fun g f=>⟨_,H,f,h⟩) e)
def Jf:jW:=fun a Y H Q=>a=[]/\Q Y H
def Jg(t:TG)(u:jW):jW:=fun a Y H Q=>∃v r,a=v::r/\t v Y H fun b c=>u r b c Q
theorem Jh:PGs X [] Jf:=by intro a s Y H b c Q I r h;obtain⟨e,h⟩:=h;subst e;cases r;exact assignInOrder_nil ⟨Y,H,I,h⟩
theorem Ji(l:PG X e t)(m:PGs X b u)
  (n:autoParam ((assignEach (e::b) X.env).map (·.2)=assign e X.env::(assignEach b X.env).map (·.2)) Zq._auto_1):PGs X (e::b) (Jg t u):=by
 intro a s Y H o p Q I r h;obtain⟨v,q,c,h⟩:=h;subst c;cases r with
 |cons r d=>rw[n];refine assignInOrder_cons (aU (l a s Y H _ _ _ I r h) fun _ f g=>?_);obtain⟨i,j,I1,k⟩:=g;exact m a f i j _ _ Q I1 d k
def Jj(K:Frag)(n:Nat)(t:jW):TG:=fun v Y H Q=>∃a b,v=.ref a/\eL K H a b/\b.length=n/\t b Y H Q
theorem Jk{k}(j:X.calm=true)(h:PGs X d t)
  (l:autoParam ((assignEach d X.env).length=n) Zq._auto_1) (f:autoParam ((assignEach d X.env).findIdx? (·.1)=none) Zq._auto_1):PG X (.Tuple d k pos) (Jj X.K n t):=by
 intro c s Y H v u Q I r g;obtain⟨a,m,p,q,w,g⟩:=g;subst p;cases r;obtain⟨x,i,y,B⟩:=I.tuple q;exact assign_Tuple_tuple (I.ok.hd j) y (by simp[l,<-w,i.length]) f fun z A=>h c _ Y H m _ Q (I.kept fun b o e=>A b o (q0t (bm e)) e) (by simpa using i) g
def fE(d e:TE)(t:uI):TG:=fun v Y H Q=>d Y H fun o a=>e Y a fun i b=>t o i v b fun c=>Q Y c
theorem yI(J:PE X o g)(k:PE X i j)(L:yH X t)
  (l:autoParam (∀v,assign (.Subscript o i pos) X.env v=(do
   let b <-holding [v] (eval o X.env);let c <-holding [v,b] (eval i X.env)
   standAt pos
   holding [v,b,c] (setItem b c v)
   release [v,b,c] [])) Zs._auto_1):PG X (.Subscript o i pos) (fE g j t):=by
 intro a s Y H v u Q I r h;rw[l];refine af (wpAny_holding (aU (J a s Y H _ I h) fun b m d=>?_));obtain⟨x,n,I1,p,q⟩:=d;refine af (wpAny_holding (aU (k a m Y n _ I1 q) fun c w e=>?_));obtain⟨y,z,A,B,C⟩:=e;refine af (wpAny_standAt (af (wpAny_holding (aU (L a w Y z x y v b c u _ A p B r C) fun _ M f=>?_))));obtain⟨D,E,G⟩:=f;exact wpAny_release ⟨Y,D,E,G⟩
def uJ(a:TE)(g:TG):TS:=fun D Y H=>a Y H fun x b=>g x Y b D.nx
theorem yJ(f:PE X e d)(i:PG X b g)(o:autoParam (swapsWithSole [b] e pos.line X.env=pure false) Zq._auto_1)(j:autoParam (swappedStores [b] e X.env=pure none) Zq._auto_1)
  (p:autoParam ((assignEach [b] X.env).map (·.2)=[assign b X.env]) Zq._auto_1):PS X (.Assign [b] e pos) (uJ d g):=by
 intro a s Y H D I h;refine wpAny_Assign_stores (aU (f a s Y H _ I h) fun v k c=>?_) o j;obtain⟨x,l,I1,m,n⟩:=c;rw[p];exact aU (i a k Y l x v _ I1 m n) fun _ r q=>q
theorem yK(f:X.N.Nodup)(g:X.N[i]? = some x)(j:Loc X.env.scope x)(k:PE X e d)(q:autoParam (swapsWith e (some (.Name x a)) pos.line X.env=pure false) Zq._auto_1)(l:X.fn x=true\/X.env.scope.names.lookup x=some .local:=by first |exact .inl rfl |exact .inr rfl |assumption) :
  PS X (.Assign [.Name x a] e pos) (uJ d (ra i)):=by
 intro b s Y H D I h;refine wpAny_Assign_Name (aU (k b s Y H _ I h) fun v r c=>?_) q;obtain⟨y,m,I1,n,o⟩:=c;exact yF I1 f g j n (fun t p=>⟨_,m,p,o⟩) l
end
def Jl(c:TT)(g:TS):TS:=fun D Y H=>∃W:Nat->St->Hp->Prop,(∃m,W m Y H)/\∀m Y H,W m Y H->
 c Y H fun b a=>if b=true then ∃N:St->Hp->Prop,(∀d e,N d e->∃f,f<m/\W f d e)/\g { D with nx:=N,ct:=N,bk:=D.nx } Y a else D.nx Y a
theorem Jm(u:PassesOwn (model X.prog X.w) X.A X.env X.xe)(G:PT X c r)(R:PSs X body t):PS X (.While c body [] pos) (Jl r t):=by
 intro a s Y H D I h;obtain⟨W,⟨J,L⟩,turn⟩:=h;refine wpAny_While (codeAny_whileLoop (fun n M=>∃x y,Inv X a x y M/\W n x y) ?_ J ⟨Y,H,I,L⟩);rintro n O ⟨i,z,I1,w1⟩;refine wpAny_passesOwn u (aU (G a O i z _ I1 (turn n i z w1)) fun b Q d=>?_);obtain⟨B,C,j⟩:=d;cases b with
 |true=>
  obtain⟨N,E,j⟩:=j;rw[if_pos rfl];refine wpAny_passesOwn u (aU (R a Q i B _ C j) fun f S k=>?_);cases f with
  |next=>obtain⟨e,g,l,m⟩:=k;obtain⟨o,p,q⟩:=E e g m;exact⟨o,p,e,g,l,q⟩
  |cont=>obtain⟨e,g,l,m⟩:=k;obtain⟨o,p,q⟩:=E e g m;exact⟨o,p,e,g,l,q⟩
  |brk=>exact k
  |ret v=>exact k
 |false=>rw[if_neg q0x];exact wpAny_execs_nil ⟨i,B,C,j⟩
structure It where
 go:Nat->Hp->Prop
 yld:Nat->Hp->V->Hp->Prop
 stop:Nat->Hp->Prop
def iA(X:Cx)(a:List (Addr×Obj))(H:Hp)(b:Addr):Prop:=
 H b=none/\b≠X.env.locals/\b∉X.fs/\(b∈X.ex\/X.s₀.heap.objs.size<=b)/\(∀x c,X.env.cells.lookup x=some c->c≠b)/\∀p∈X.pn++a,p.1≠b
theorem Inv.fpOk{Y:St}{b:Addr}(I:Inv X a Y H s)(d:s.heap.objs.size<=b)(g:f b=none):iA X a f b:=by
 refine⟨g,q0V (q0n I.lt d),I.nofs d,.inr (q0E I.sz d),fun x c e z=>?_,fun p h z=>?_⟩
 .obtain⟨v,q⟩:=I.cell x c e;exact absurd (q0n q.lt (by rw[z];exact d)) (q0C _)
 .exact absurd (q0n (bm (I.pin p h).1) (by rw[z];exact d)) (q0C _)
structure gn (P:Program) (w:World) (K:Frag) (tg:Expr) (J:It) (fp:List Addr) (it:Addr) (tn:Nat->Heap->Prop):Prop where
 mem:it∈fp
 obj:∀i h,tn i h->∀b∈fp,∃o,h.get? b=some o/\∀v,o.data≠.cell v
 keep:∀i h h',tn i h->(∀b∈fp,∀o,h.get? b=some o->h'.get? b=some o)->tn i h'
 item:∀(X:Cx),X.prog=P->X.w=w->X.K=K->X.calm=true->∀(i:Nat) (pins:List (Addr×Obj)) (s:Shared) (Y:St) (H:Hp) (E:Value->Shared->Prop),Inv X pins Y H s->(∀b∈fp,iA X pins H b)->tn i s.heap->J.go i H->
  wpAny (model P w) X.A (pyNext (.ref it)) (fun r s1=>∃u,r=some u/\
   wpAny (model P w) X.A (letOwnedTupleGo tg (.ref it) u) (fun _ s2=>∃x H',Inv X pins Y H' s2/\bj x u/\J.yld i H x H'/\tn (i+1) s2.heap/\∀b∈fp,H' b=none) E s1) E s
 done:∀(X:Cx),X.prog=P->X.w=w->X.K=K->X.calm=true->∀(i:Nat) (pins:List (Addr×Obj)) (s:Shared) (Y:St) (H:Hp) (E:Value->Shared->Prop),Inv X pins Y H s->(∀b∈fp,iA X pins H b)->tn i s.heap->J.stop i H->
  wpAny (model P w) X.A (pyNext (.ref it)) (fun r s1=>r=none/\Inv X pins Y H s1) E s
 self:∀(A:Around) (i:Nat) (s:Shared) (Q:Value->Shared->Prop) (E:Value->Shared->Prop),tn i s.heap->Q (.ref it) s->wpAny (model P w) A (pyIter (.ref it)) Q E s
abbrev TI:=St->Hp->(It->Hp->Prop)->Prop
def yL(X:Cx)(a:List (Addr×Obj))(Y:St)(h:Expr)(R:It->Hp->Prop)(c:Value)(e:Shared):Prop:=
 ∃(it:Addr) (f:List Addr) (g:Nat->Heap->Prop) (J:It) (d:Hp),c=.ref it/\Inv X a Y d e/\gn X.prog X.w X.K h J f it g/\g 0 e.heap/\(∀b∈f,iA X a d b)/\R J d
def PI(X:Cx)(b iter:Expr)(c:TI):Prop:=
 ∀(a:List (Addr×Obj)) (s:Shared) (Y:St) (H:Hp) (R:It->Hp->Prop),Inv X a Y H s->c Y H R->
  wpAny (model X.prog X.w) X.A (eval iter X.env) (fun v d=>wpAny (model X.prog X.w) X.A (pyIter v) (yL X a Y b R) X.xe d) X.xe s
theorem uK(f:s.heap.get? it=some o)(d:o.cls=.type n)(hd:o.data=.fields c)
    (e:["enumerate","zip","dict_itemiterator","dict_reverseitemiterator","odict_iterator","itertools.zip_longest","itertools.pairwise"].contains n=false) (a:Q () s):wpAny M A (letOwnedTupleGo b (.ref it) u) Q E s:=by
  cases b<;>first
    |exact aJ a
    | (cases u<;>first
        |exact aJ a
        | (refine af (wpAny_load f ?_)
           rw[d,hd];show wpAny M A (if (["enumerate","zip","dict_itemiterator","dict_reverseitemiterator","odict_iterator","itertools.zip_longest","itertools.pairwise"].contains n&&c[0]?==some (rawInt _))=true then _ else _) Q E s;rw[if_neg (by intro h;rw[e,Bool.false_and]at h;cases h)];exact aJ a))
noncomputable def uL(K:Frag)(a:Addr):It:=
 ⟨fun i H=>∃b x,cZ K H a b/\b[i]? = some x,fun i H x c=>c = H/\∀b,cZ K H a b->b[i]? = some x,fun i H=>∃b,cZ K H a b/\b.length<=i⟩
noncomputable def uM(K:Frag)(a:Addr):It:=
 ⟨fun i H=>∃b x,eL K H a b/\b[i]? = some x,fun i H x c=>c = H/\∀b,eL K H a b->b[i]? = some x,fun i H=>∃b,eL K H a b/\b.length<=i⟩
noncomputable def rb(lo:Int)(n:Nat):It:=⟨fun i _=>i<n,fun i H x a=>a = H/\x=.int (lo+i),fun i _=>n<=i⟩
theorem Jn{K}(a it):gn P w K tg (uL K a) [it] it (fun i h=>h.IsListIter it a i) where
 mem:=by simp
 obj:=fun i h st b hb=>by
  have e:=by simpa using hb
  subst e;obtain⟨o,e,c,d⟩:=st;exact⟨o,e,fun v z=>by rw[d]at z;cases z⟩
 keep:=fun i h h' st k=>st.at fun o e=>k it (by simp) o e
 item:=by intro X hP hw hK hc i pins s Y H E I hf st hg;subst hP hw hK;obtain⟨xs,x,hq,hx⟩:=hg;obtain⟨its,rv,p,hz⟩:=I.list hq;obtain⟨u,hu,ru⟩:=rv.get hx;obtain⟨f0,f1,f2,f3,f4,f5⟩:=hf it (by simp);refine wpAny_pyNext_list_item st p.isList (by simpa using hu) fun h' st' sb=>?_;obtain⟨o,e,c,d⟩:=id st';exact⟨u,rfl,uK e c d (by decide) ⟨x,H,(I.turned (fun b o hb e=>(sb.2 b hb).trans e) f0 f1 f3 f4 f5),ru,⟨rfl,fun ys hy=>by rw[I.list_inj hy hq];exact hx⟩,st',fun b hb=>(hf b hb).1⟩⟩
 done:=by intro X hP hw hK hc i pins s Y H E I hf st hg;subst hP hw hK;obtain⟨xs,hq,hx⟩:=hg;obtain⟨its,rv,p,hz⟩:=I.list hq;obtain⟨f0,f1,f2,f3,f4,f5⟩:=hf it (by simp);have hl:=rv.length;exact wpAny_pyNext_list_end (I.ok.hd hc) st p.isList (by simp;lia) fun h' eb=>⟨rfl,I.turned (fun b o hb e=>eb b o hb e) f0 f1 f3 f4 f5⟩
 self:=fun _ _ _ _ _ st h=>wpAny_pyIter_listiter st h
theorem Jo{K}(a it):gn P w K tg (uM K a) [it] it (fun i h=>h.IsTupleIter it a i) where
 mem:=by simp
 obj:=fun i h st b hb=>by
  have e:=by simpa using hb
  subst e;obtain⟨o,e,c,d⟩:=st;exact⟨o,e,fun v z=>by rw[d]at z;cases z⟩
 keep:=fun i h h' st k=>st.at fun o e=>k it (by simp) o e
 item:=by intro X hP hw hK hc i pins s Y H E I hf st hg;subst hP hw hK;obtain⟨xs,x,hq,hx⟩:=hg;obtain⟨its,rv,p,hz⟩:=I.tuple hq;obtain⟨u,hu,ru⟩:=rv.get hx;obtain⟨f0,f1,f2,f3,f4,f5⟩:=hf it (by simp);refine wpAny_pyNext_tuple_item st (p) (by simpa using hu) fun h' st' sb=>?_;have I1:Inv X pins Y H { s with heap:=h' }:=I.turned (fun b o hb e=>(sb.2 b hb).trans e) f0 f1 f3 f4 f5;obtain⟨o,e,c,d⟩:=id st';exact⟨u,rfl,uK (s:={ s with heap:=h' }) e c d (by decide) ⟨x,H,I1,ru,⟨rfl,fun ys hy=>by rw[I.tuple_inj hy hq];exact hx⟩,st',fun b hb=>(hf b hb).1⟩⟩
 done:=by intro X hP hw hK hc i pins s Y H E I hf st hg;subst hP hw hK;obtain⟨xs,hq,hx⟩:=hg;obtain⟨its,rv,p,hz⟩:=I.tuple hq;obtain⟨f0,f1,f2,f3,f4,f5⟩:=hf it (by simp);have hl:=rv.length;exact wpAny_pyNext_tuple_end (I.ok.hd hc) st (show s.heap.IsTuple a its.toArray from p) (by simp;lia) fun h' eb=>⟨rfl,I.turned (fun b o hb e=>eb b o hb e) f0 f1 f3 f4 f5⟩
 self:=fun _ _ _ _ _ st h=>wpAny_pyIter_tupleiter st h
theorem Jp{K}(it lo n):gn P w K tg (rb lo n) [it] it (fun i h=>IsRangeIter h it (lo+(i:Nat) * 1) ((n:Int) - (i:Nat)) 1) where
 mem:=by simp
 obj:=fun i h st b hb=>by
  have e:=by simpa using hb
  subst e;exact⟨_,st,fun v z=>by
   cases z⟩
 keep:=fun i h h' st k=>k it (by simp) _ st
 item:=by intro X hP hw hK hc i pins s Y H E I hf st hg;subst hP hw hK;obtain⟨f0,f1,f2,f3,f4,f5⟩:=hf it (by simp);refine (Walks.range (w:=X.w) (I.ok.hd hc) it lo 1 n).item i s _ _ hg st fun v h' tk hv st' kk=>?_;obtain⟨t,rfl⟩:=hv;refine⟨_,rfl,uK st' rfl rfl (by decide) ⟨.int (lo+i),H,(I.turned (fun b o hb e=>kk b o (by simpa using hb) e) f0 f1 f3 f4 f5),⟨t,?_⟩,⟨rfl,rfl⟩,st',fun b hb=>(hf b hb).1⟩⟩;rw[Int.mul_one]
 done:=by intro X hP hw hK hc i pins s Y H E I hf st hg;obtain⟨f0,f1,f2,f3,f4,f5⟩:=hf it (by simp);exact wpAny_pyNext_range_end (I.ok.hd hc) st (by have:n<=i:=hg;lia) fun h' eb=>⟨rfl,I.turned (fun b o hb e=>eb b o hb e) f0 f1 f3 f4 f5⟩
 self:=fun _ _ _ _ _ st h=>wpAny_pyIter_rangeiter st h
def Jq(K:Frag)(d:TE):TI:=fun Y H R=>d Y H fun x b=>∃a,x=.ref a/\(∃c,cZ K b a c)/\R (uL K a) b
def Jr(K:Frag)(d:TE):TI:=fun Y H R=>d Y H fun x b=>∃a,x=.ref a/\(∃c,eL K b a c)/\R (uM K a) b
theorem Js(i:PE X l g):PI X B l (Jq X.K g):=by
 intro c s Y H R I h;refine aU (i c s Y H _ I h) fun v f d=>?_;obtain⟨x,j,I1,k,m⟩:=d;obtain⟨a,e,⟨u,n⟩,q⟩:=m;subst e;cases k;obtain⟨r,w,p,y⟩:=I1.list n;apply wpAny_pyIter_list p.isList;refine⟨f.heap.objs.size,[f.heap.objs.size],_,_,j,rfl,I1.kept fun b o e=>aW _ e,Jn a _,⟨_,Heap.get?_push_size _ rfl,rfl,rfl⟩,fun b t=>?_,q⟩;have e:=by simpa using t
 subst e;exact I1.fpOk (ba _) (I1.hok.fresh (ba _))
theorem Jt(j:PE X l i):PI X B l (Jr X.K i):=by
 intro c s Y H R I h;refine aU (j c s Y H _ I h) fun v d f=>?_;obtain⟨x,k,I1,m,n⟩:=f;obtain⟨a,e,⟨u,r⟩,q⟩:=n;subst e;cases m;obtain⟨g,w,p,y⟩:=I1.tuple r;apply wpAny_pyIter_tuple (p);refine⟨d.heap.objs.size,[d.heap.objs.size],_,_,k,rfl,I1.kept fun b o e=>aW _ e,Jo a _,⟨_,Heap.get?_push_size _ rfl,rfl,rfl⟩,fun b t=>?_,q⟩;have e:=by simpa using t
 subst e;exact I1.fpOk (ba _) (I1.hok.fresh (ba _))
theorem Ju{Y:St}{lo }(I:Inv X c Y H s)(i:-(2 ^ 62)<=lo)(j:lo<2 ^ 62)(k:-(2 ^ 62)<=a)(f:a<2 ^ 62)
  (q:R (rb lo (a - lo).toNat) H):wpAny (model X.prog X.w) X.A (pyIter (.ref s.heap.objs.size)) (yL X c Y B R) E { s with heap:=s.heap.push { cls:=.type "range",data:=.fields #[.int lo t,.int a u,.int 1 v] },toks:=d }:=by
 refine wpAny_pyIter_range (IsRange.new ..) (small_one i j k f) ?_;have I1:Inv X c Y H { s with heap:=s.heap.push { cls:=.type "range",data:=.fields #[.int lo t,.int a u,.int 1 v] },toks:=d }:=I.kept fun b o e=>aW _ e;refine⟨(s.heap.push { cls:=.type "range",data:=.fields #[.int lo t,.int a u,.int 1 v] }).objs.size,[(s.heap.push { cls:=.type "range",data:=.fields #[.int lo t,.int a u,.int 1 v] }).objs.size],_,_,H,rfl,
  I1.kept fun b o e=>aW _ e,Jp _ lo (a - lo).toNat,?_,fun b l=>?_,q⟩
 .have g:lo+((0:Nat)) * 1=lo:=by simp
  have h:(((a - lo).toNat:Nat)) - ((0:Nat))=Builtin.Range.rangeSize lo a 1:=by rw[rangeSize_one];split<;>lia
  rw[g,h];exact Heap.get?_push_size _ rfl
 .have e:b=(s.heap.push { cls:=.type "range",data:=.fields #[.int lo t,.int a u,.int 1 v] }).objs.size:=by simpa using l
  subst e;exact I1.fpOk (ba _) (I1.hok.fresh (ba _))
def Jv(a:TA):TI:=fun Y H R=>a Y H fun b c=>∃j:Int,b=[.int j]/\-(2 ^ 62)<=j/\j<2 ^ 62/\R (rb 0 j.toNat) c
theorem Jw(g:Gl X "range")(i:X.mg "range" = none)(k:PA X [a] f)(o:autoParam (starEach [a] X.env=[(false,eval a X.env)]) Zq._auto_1):PI X B (.Call (.Name "range" p) [a] [] pos) (Jv f):=by
 intro b s Y H R I h;refine Call_ (iz I g i boot_range (PyProof.Rows.callWith_type1 (aU (k pos b s Y H _ I h) fun u v c=>?_) o rfl));obtain⟨w,x,I1,l,d⟩:=c;obtain⟨j,e,d,m,q⟩:=d;subst e;cases l with
 |cons r n=>cases n;obtain⟨t,rfl⟩:=r;exact call_range_1 (Ju I1 (by lia) (by lia) d m (by simpa using q))
def Jx(d:TI)(g:TG)(e:TS):TS:=fun D Y H=>d Y H fun J f=>∃W:Nat->Nat->St->Hp->Prop,(∃m,W 0 m Y f)/\∀i m Y H,W i m Y H->
 (J.stop i H/\D.nx Y H)\/(J.go i H/\∃N:St->Hp->Prop,(∀b a,N b a->∃c,c<m/\W (i+1) c b a)/\∀x a,J.yld i H x a->g x Y a fun h j=>e { D with nx:=N,ct:=N,bk:=D.nx } h j)
noncomputable def oK(a:List Addr)(h:Heap):List (Addr×Obj):=a.filterMap fun b=>(h.get? b).map fun o=>(b,o)
theorem rc(c:b∈a)(e:h.get? b=some o):(b,o)∈oK a h:=q2C.mpr ⟨b,c,by rw[e];rfl⟩
theorem Jy(c:p∈oK a h):p.1∈a/\h.get? p.1=some p.2:=by
 obtain⟨b,hb,e⟩:=q2C.mp c;cases q:h.get? b with
 |none=>rw[q]at e;cases e
 |some o=>rw[q]at e;have d:=q0r e;subst d;exact⟨hb,q⟩
theorem Inv.pinned{Y:St}(I:Inv X a Y H s)(h:∀b∈c,iA X a H b)(k:∀b∈c,∃o,s.heap.get? b=some o/\∀v,o.data≠.cell v):Inv X (a++oK c s.heap) Y H s:=
 I.pins_of fun p i=>(q0d.mp i).elim (fun z=>I.pin p (bp _ z)) fun z=>by obtain⟨g,e⟩:=Jy z;obtain⟨j,f1,f2,_⟩:=h p.1 g;obtain⟨o,f,d⟩:=k p.1 g;rw[e]at f;cases f;exact⟨e,j,f1,f2,d⟩
theorem Inv.unpinned{Y:St}(I:Inv X (a++c) Y H s):Inv X a Y H s:=I.pins_of fun p b=>I.pin p (bp _ (bC _ b))
theorem Jz(z:PassesOwn (model X.prog X.w) X.A X.env X.xe)(hc:X.calm=true)(hi:PI X B iter wi)(hg:PG X B g)(p:PSs X body tb)
  (hs:autoParam (∀x,foldedSetIterable iter X.env x=pure x) Zs._auto_1):PS X (.For B iter body [] pos) (Jx wi g tb):=by
 intro a s Y H D I h;refine wpAny_For (aU (hi a s Y H _ I h) fun v s1 h1=>aU h1 fun a3 s2 h2=>?_) hs;obtain⟨it,C,tn,J,H2,e,I2,T,a0,f2,W,⟨m0,w0⟩,turn⟩:=h2;subst e;have c:∀{q:Hp},(∀b∈C,q b=none)->∀b∈C,iA X a q b:=fun hn b p=>⟨hn b p,(f2 b p).2⟩
 refine codeAny_forLoop_any (fun n s'=>∃i E q,Inv X a E q s'/\tn i s'.heap/\(∀b∈C,q b=none)/\W i n E q) ?_ m0 ⟨0,Y,H2,I2,a0,fun b p=>(f2 b p).1,w0⟩;rintro n s3 ⟨i,G,Z,I3,L,M,w3⟩;rcases turn i n G Z w3 with⟨stop,qn⟩ |⟨go,N,hN,step⟩
 .refine wpAny_passesOwn z (aU (T.done X rfl rfl rfl hc i a s3 G Z X.xe I3 (c M) L stop) fun r s4 O=>?_);obtain⟨hr,I4⟩:=O;subst hr;exact wpAny_execs_nil ⟨G,Z,I4,qn⟩
 .refine wpAny_passesOwn z (aU (T.item X rfl rfl rfl hc i a s3 G Z X.xe I3 (c M) L go) fun r s4 Q=>?_);obtain⟨u,hr,h4⟩:=Q;subst hr;refine wpAny_passesOwn z (aU h4 fun _ s5 R=>?_);obtain⟨x,H5,I5,r5,y5,y,a1⟩:=R;have a2:=I5.pinned (c a1) (T.obj _ _ y);refine wpAny_passesOwn z (aU (hg _ s5 G H5 x u _ a2 r5 (step x H5 y5)) fun _ s6 S=>?_);obtain⟨Y6,H6,I6,q6⟩:=S;refine wpAny_passesOwn z (aU (p _ s6 Y6 H6 _ I6 q6) fun f s7 t=>?_);have again:∀{j:St}{k:Hp},Inv X (a++oK C s5.heap) j k s7->N j k->∃m,m<n/\∃i E q,Inv X a E q s7/\tn i s7.heap/\(∀b∈C,q b=none)/\W i m E q:=fun {j k} l U=>by obtain⟨m',hm,w7⟩:=hN j k U;refine⟨m',hm,i+1,j,k,l.unpinned,T.keep _ _ _ y fun b p o e=>(l.pin (b,o) (bp _ (bp _ (rc p e)))).1,fun b p=>?_,w7⟩;obtain⟨o,e,d⟩:=T.obj _ _ y b p;exact(l.pin (b,o) (bp _ (bp _ (rc p e)))).2.1
  cases f with
  |next=>obtain⟨j,k,l,U⟩:=t;exact again l U
  |cont=>obtain⟨j,k,l,U⟩:=t;exact again l U
  |brk=>obtain⟨j,k,l,t⟩:=t;exact⟨j,k,l.unpinned,t⟩
  |ret v=>obtain⟨x7,j,k,l,r7,t⟩:=t;exact⟨x7,j,k,l.unpinned,r7,t⟩
abbrev R2:=V->V->Hp->VK->Prop
def dk(X:Cx)(f:Value->Value->Sem Value)(r:R2):Prop:=
 ∀(a:List (Addr×Obj)) (s:Shared) (Y:St) (H:Hp) (x y:V) (v u:Value) (Q:VK),Inv X a Y H s->bj x v->bj y u->r x y H Q->
  wpAny (model X.prog X.w) X.A (f v u) (EP X a Y Q) X.xe s
def uN(X:Cx)(f:Value->Sem Value)(r:V->Hp->VK->Prop):Prop:=
 ∀(a:List (Addr×Obj)) (s:Shared) (Y:St) (H:Hp) (x:V) (v:Value) (Q:VK),Inv X a Y H s->bj x v->r x H Q->
  wpAny (model X.prog X.w) X.A (f v) (EP X a Y Q) X.xe s
def ie(X:Cx)(f:Value)(r:List V->Hp->VK->Prop):Prop:=
 ∀(a:List (Addr×Obj)) (s:Shared) (Y:St) (H:Hp) (b:List V) (c:List Value) (Q:VK),Inv X a Y H s->bi b c->r b H Q->
  wpAny (model X.prog X.w) X.A (call f c) (EP X a Y Q) X.xe s
def oM(r:R2)(a b:TE):TE:=fun Y H Q=>a Y H fun x c=>b Y c fun y d=>r x y d Q
def JA(r:V->Hp->VK->Prop)(a:TE):TE:=fun Y H Q=>a Y H fun x b=>r x b Q
def rI(C:Int->Int->Prop)(g:Int->Int->V):R2:=fun x y H Q=>∃i j,x=.int i/\y=.int j/\C i j/\Q (g i j) H
def jr(g:Int->Int->V):R2:=fun x y H Q=>∃i j,x=.int i/\y=.int j/\Q (g i j) H
def rU(g:Int->V):V->Hp->VK->Prop:=fun x H Q=>∃i,x=.int i/\Q (g i) H
theorem uO(k:PE X a D)(E:PE X b z){Y:St}{R:V->V->Hp->Prop}(I:Inv X d Y H s)
  (h:D Y H fun x i=>z Y i fun y e=>R x y e) {f:Value->Value->Sem Value}
  (l:∀v u g x y e,Inv X d Y e g->bj x v->bj y u->R x y e->wpAny (model X.prog X.w) X.A (f v u) Q X.xe g) :
  wpAny (model X.prog X.w) X.A (eval a X.env) (fun v m=>wpAny (model X.prog X.w) X.A (eval b X.env) (fun u n=>wpAny (model X.prog X.w) X.A (f v u) Q X.xe n) X.xe m) X.xe s:=by
 refine aU (k d s Y H _ I h) fun v o j=>?_;obtain⟨x,i,I1,q,r⟩:=j;refine aU (E d o Y i _ I1 r) fun u g j=>?_;obtain⟨y,e,t,B,C⟩:=j;exact l v u g x y e t q B C
theorem yM(l:dk X (binaryOp op) r)(e:PE X a D)(m:PE X b z):PE X (.BinOp a op b pos) (oM r D z):=by intro d s Y H Q I h;exact wpAny_BinOp (uO e m I h fun v u f x y g i j k q=>l d f Y g x y v u Q i j k q)
theorem JB(l:uN X (unaryOp op) r)(f:PE X a D):PE X (.UnaryOp op a pos) (JA r D):=by intro d s Y H Q I h;exact UnaryOp_ (aU (f d s Y H _ I h) fun v g e=>by obtain⟨x,i,I1,j,k⟩:=e;exact l d g Y i x v Q I1 j k)
theorem uP{g:Int->Int->Int}
  (rule:∀i j  t u  s  Q  E,C i j->Q (.int (g i j) s.toks) { s with toks:=s.toks+1 }->wpAny (model X.prog X.w) X.A (f (.int i t) (.int j u)) Q E s) :
  dk X f (rI C fun i j=>.int (g i j)):=by
 intro d s Y H x y v u Q I e k h;obtain⟨i,j,rfl,rfl,l,q⟩:=h;obtain⟨t,rfl⟩:=e;obtain⟨t',rfl⟩:=k;exact rule i j t t' s _ _ l ⟨.int (g i j),H,I.tok _,⟨_,rfl⟩,q⟩
theorem yN{g:Int->Int->Int}
  (rule:∀i j  t u  s  Q  E,Q (.int (g i j) s.toks) { s with toks:=s.toks+1 }->wpAny (model X.prog X.w) X.A (f (.int i t) (.int j u)) Q E s) :
  dk X f (jr fun i j=>.int (g i j)):=by
 intro d s Y H x y v u Q I e k h;obtain⟨i,j,rfl,rfl,q⟩:=h;obtain⟨t,rfl⟩:=e;obtain⟨t',rfl⟩:=k;exact rule i j t t' s _ _ ⟨.int (g i j),H,I.tok _,⟨_,rfl⟩,q⟩
theorem uQ{g:Int->Int->Bool}
  (rule:∀i j  t u  s  Q  E,Q (.bool (g i j)) s->wpAny (model X.prog X.w) X.A (f (.int i t) (.int j u)) Q E s) :
  dk X f (jr fun i j=>.bl (g i j)):=by
 intro d s Y H x y v u Q I e k h;obtain⟨i,j,rfl,rfl,q⟩:=h;obtain⟨t,rfl⟩:=e;obtain⟨t',rfl⟩:=k;exact rule i j t t' s _ _ ⟨.bl (g i j),H,I,rfl,q⟩
def uR(i j:Int):Prop:=0<j/\j<1073741824
def oN(i j:Int):Prop:=(-(2 ^ 64)<i/\i<2 ^ 64)\/(-(2 ^ 64)<j/\j<2 ^ 64)
theorem oN.ok(h:oN i j):IntMulOk i j:=by
 rcases h with⟨h1,h2⟩ |⟨h1,h2⟩
 .exact .of_left (intBits_le_64 h1 h2)
 .exact .of_right (intBits_le_64 h1 h2)
theorem JC:dk X (binaryOp .Add) (jr fun i j=>.int (i+j)):=yN fun _ _ _ _ _ _ _ q=>add_int q
theorem JD:dk X (binaryOp .Sub) (jr fun i j=>.int (i - j)):=yN fun _ _ _ _ _ _ _ q=>sub_int q
theorem JE:dk X (binaryOp .Mult) (rI oN fun i j=>.int (i * j)):=uP fun _ _ _ _ _ _ _ d q=>mul_int q d.ok
theorem JF:dk X (binaryOp .FloorDiv) (rI uR fun i j=>.int (i / j)):=uP fun i j _ _ _ _ _ d q=>by have h1:=d.1;have h2:=d.2;exact floordiv_int (by lia) (by rw[Int.fdiv_eq_ediv_of_nonneg i (by lia)];exact q) (.inl (PyProof.noPylong_small (by lia)))
theorem JG:dk X (binaryOp .Mod) (rI (fun _ j=>0<j) fun i j=>.int (i % j)):=uP fun i j _ _ _ _ _ d q=>mod_int' (by lia) (by rw[Int.fmod_eq_emod_of_nonneg i (by lia)];exact q)
theorem JH{g:Int->Int}
  (rule:∀i  t  s  Q  E,Q (.int (g i) s.toks) { s with toks:=s.toks+1 }->wpAny (model X.prog X.w) X.A (f (.int i t)) Q E s) :
  uN X f (rU fun i=>.int (g i)):=by
 intro d s Y H x v Q I e h;obtain⟨i,rfl,q⟩:=h;obtain⟨t,rfl⟩:=e;exact rule i t s _ _ ⟨.int (g i),H,I.tok _,⟨_,rfl⟩,q⟩
theorem JI:uN X (unaryOp .USub) (rU fun i=>.int (-i)):=JH fun _ _ _ _ _ q=>neg_int q
theorem yO{Y:St}(I:Inv X d Y H s)(q:Q (.bl k) H)(e:k=f):EP X d Y Q (.bool f) s:=by subst e;exact⟨.bl k,H,I,rfl,q⟩
theorem yP:dk X (compareOp .Lt) (jr fun i j=>.bl (decide (i<j))):=uQ fun _ _ _ _ _ _ _ q=>lt_int q
theorem re:dk X (compareOp .LtE) (jr fun i j=>.bl (decide (i<=j))):=uQ fun _ _ _ _ _ _ _ q=>le_int q
theorem yQ:dk X (compareOp .Gt) (jr fun i j=>.bl (decide (j<i))):=uQ fun _ _ _ _ _ _ _ q=>gt_int q
theorem yR:dk X (compareOp .Is) (fun x y H Q=>y=.non/\Q (.bl (decide (x=.non))) H):=by
 intro d s Y H x y v u Q I e f h;obtain⟨rfl,q⟩:=h;cases f;refine is_none_gen (yO I q ?_);cases x<;>first
  |(cases e;rfl)
  |(obtain⟨t,rfl⟩:=e;rfl)
theorem yS:dk X (compareOp .IsNot) (fun x y H Q=>y=.non/\Q (.bl (!decide (x=.non))) H):=by
 intro d s Y H x y v u Q I e f h;obtain⟨rfl,q⟩:=h;cases f;refine isnot_none_gen (yO I q ?_);cases x<;>first
  |(cases e;rfl)
  |(obtain⟨t,rfl⟩:=e;rfl)
theorem bD(b)(h:autoParam (op≠.In) Zr._auto_1)(f:autoParam (op≠.NotIn) Zr._auto_1):behindInMarks op b=false:=by
 have d:(op==CmpOp.In)=false:=by cases op<;>first |rfl |exact absurd rfl h
 have e:(op==CmpOp.NotIn)=false:=by cases op<;>first |rfl |exact absurd rfl f
 cases b<;>simp[behindInMarks,d,e]
theorem JK(o:dk X (compareOp op) r)(e:PE X a A)(p:PE X b n)(f:behindInMarks op b=false):PE X (.Compare a [op] [b] pos) (oM r A n):=by intro d s Y H Q I h;exact wpAny_Compare1 (uO e p I h fun v u g x y i j k l q=>o d g Y i x y v u Q j k l q) f
def JL(t:TE):TT:=fun Y H Q=>t Y H fun x d=>∃k,x=.bl k/\Q k d
theorem yT(J:dk X (compareOp op) r)(f:PE X a A)(L:PE X b n)(g:behindInMarks op b=false):PT X (.Compare a [op] [b] pos) (JL (oM r A n)):=by
 intro d s Y H Q I h;refine wpAny_isTrue_Compare1 (aU (f d s Y H _ I h) fun v i ⟨x,j,I1,l,o⟩=>aU (L d i Y j _ I1 o) fun u p ⟨y,q,t,w,B⟩=>
  aU (J d p Y q x y v u _ t l w B) fun c M ⟨z,C,D,E,k,e,G⟩=>?_) g
 subst e;cases E;exact wpAny_truthy_bool ⟨C,D,G⟩
def JM(r e:R2)(A n m:TE):TE:=fun Y H Q=>A Y H fun x f=>n Y f fun y g=>r x y g fun z d=>∃k,z=.bl k/\
 (if k=true then m Y d fun h i=>e y h i Q else Q (.bl false) d)
theorem JN(ho:dk X (compareOp op) r)(i:dk X (compareOp g) j)(t:PE X a A)(hb:PE X b n)(w:PE X c m)
  (B:lastMarks [op,g] [b,c]=false:=by with_unfolding_all rfl):PE X (.Compare a [op,g] [b,c] pos) (JM r j A n m):=by
 intro f s Y H Q I h;refine Compare_chain (aU (t f s Y H _ I h) fun v C ⟨x,D,I1,E,G⟩=>chain_link (aU (hb f C Y D _ I1 G) fun u J ⟨y,L,M,l,N⟩=>
  aU (ho f J Y L x y v u _ M E l N) fun d O ⟨z,o,p,R,k,e,q⟩=>?_)) B
 subst e;cases R;apply wpAny_truthy_bool;cases k with
 |false=>exact ite_ff ⟨.bl false,o,p,rfl,q⟩
 |true=>exact ite_tt (chain_last (aU (w f O Y o _ p q) fun S T ⟨z',U,Z,r4,q4⟩=>i f T Y U y z' u S Q Z l r4 q4))
theorem eY:(sizeLine:Nat)<2 ^ 63:=by rw[sizeLine_eq];decide
theorem vals1(r:bi [x] d):∃u,d=[u]/\bj x u:=by
 cases r with
 |cons e f=>cases f;exact⟨_,rfl,e⟩
theorem vals2(r:bi [x,y] d):∃u e,d=[u,e]/\bj x u/\bj y e:=by
 cases r with
 |cons f g=>
  cases g with
  |cons h i=>cases i;exact⟨_,_,rfl,f,h⟩
theorem uS(g:X.calm=true):ie X (.builtin "max") (fun e H Q=>∃i j,e=[.int i,.int j]/\Q (.int (if j>i then j else i)) H):=by
 intro f s Y H e l Q I r h;obtain⟨i,j,rfl,q⟩:=h;obtain⟨u,o,rfl,⟨t,rfl⟩,⟨t',rfl⟩⟩:=vals2 r;refine max_two_ints (I.ok.hd g) fun p v k=>⟨_,H,I.kept k,?_,q⟩
 by_cases d:j>i
 .rw[if_pos d,if_pos d];exact⟨_,rfl⟩
 .rw[if_neg d,if_neg d];exact⟨_,rfl⟩
theorem JO:ie X (.type "int") (fun d H Q=>(∃i,d=[.int i]/\Q (.int i) H)\/∃k,d=[.bl k]/\Q (.int (if k then 1 else 0)) H):=by
 intro e s Y H d g Q I r h;rcases h with⟨i,rfl,q⟩ |⟨k,rfl,q⟩
 .obtain⟨u,rfl,t,rfl⟩:=vals1 r;exact call_int_int ⟨.int i,H,I,⟨_,rfl⟩,q⟩
 .obtain⟨u,rfl,f⟩:=vals1 r;cases f;exact call_int_bool ⟨.int (if k then 1 else 0),H,I.tok _,⟨_,rfl⟩,q⟩
structure gp (h:Heap) (x dx C:Addr) (mA:Str->Option Value):Prop where
 obj:h.get? x=some (instObj C dx)
 ns:h.Ns1 dx mA
 ne:dx≠x
theorem JP{h:Heap}(n:h.Ns1 c d):∃f,h.get? c=some f/\∀name,PySem.W.lookIn name f=some (d name):=by
 obtain⟨o,g,m,ho,hd,i,_,j⟩:=n;refine⟨o,ho,fun name=>?_⟩;have e:=j name;unfold nsFind findBy at e;rw[<-Array.find?_toList]at e;unfold PySem.W.lookIn;rw[hd];dsimp only;split
 .rename_i y q;rw[q]at e;exact congrArg some e
 .rename_i q;rw[q]at e;have a:g.toList.any (·.refKey)=false:=by rw[List.any_eq_false];intro y k;obtain⟨z,t,b⟩:=i y (Array.mem_toList_iff.mp k);simp[DictEntry.refKey,b]
  rw[if_neg (by rw[a];exact q0x)];exact congrArg some e
theorem gp.look(I:gp h x b C c):∃a,PySem.W.InstAt h x (instObj C b) C (some a)/\∀name,PySem.W.lookIn name a=some (c name):=
 let⟨a,ho,d⟩:=JP I.ns
 ⟨a,⟨I.obj,rfl,rfl,ho⟩,d⟩
theorem JQ{K:Frag}(X:K.In s.heap)(I:gp s.heap x q C l)(b:plainGet K C name=true)(g:PySem.W.hasDictIn K C=true)
  (c:findIn K (.ref C) name=some none) (d:l name=some v) (a:PySem.W.handedIn v=true) (h:Q v { s with toks:=s.toks+1 }) :
  wpAny (model prog w) A (getAttr (.ref x) name expr) Q E s:=by
 obtain⟨i,J,e⟩:=I.look;exact PySem.W.get_value X J (q2a b).1 (PySem.W.findObj_own g c rfl (by rw[e,d])) a h
theorem JR{K:Frag}(X:K.In s.heap)(I:gp s.heap x q C l)(a:plainGet K C name=true)
  (b:findIn K (.ref C) name=some (some (.ref f))) (c:PySem.W.isFn K (.ref f)=true) (d:l name=none) (h:Q (.ref f,[.ref x]) s) :
  wpAny (model prog w) A (getMethod (.ref x) name i) Q E s:=by
 obtain⟨e,J,g⟩:=I.look;exact PySem.W.method_fn X J (q2a a).1 (q2a a).2 b (beq_iff_eq.mp c) (by show(PySem.W.lookIn name e).map (·.isSome)=some false;rw[g,d];rfl) h
theorem JS{K:Frag}(X:K.In s.heap)(I:gp s.heap x q C l)
  (G:findIn K (.ref C) "__setattr__" = some (some (.builtin "object.__setattr__"))) (n:PySem.W.plainOver K C=true) (o:PySem.W.takerIn K C name=some none) (H:PySem.W.hasDictIn K C=true)
  (p:PySem.Within l m) (t:m.length<=sizeLine)
  (h:∀e,gp e x q C (fun y=>if y=name then some v else l y)->Heap.SameBut q s.heap e->Q () { s with heap:=e,toks:=s.toks+2 }) :
  wpAny (model prog w) A (setAttr (.ref x) name v) Q E s:=by
 obtain⟨L,J,M⟩:=I.look;refine PySem.W.set_plain X J G (PySem.W.osa_open X J n o fun b=>?_);obtain⟨N,u,g⟩:=PySem.W.any_some H;refine af (aJ (af (af (wpAny_loadPart I.obj (af (PySem.W.Looks.here (PySem.W.looks_clsIn X u) ?_))))));rw[g];refine aJ (af (aJ (af (wpAny_nsSet1 I.ns fun e c d=>?_))));obtain⟨O,B,D,i,j,k⟩:=c.count (PySem.Within.cons name v p);exact af (wpAny_lookBehind i (by rw[j];exact pastItsLine_dict (q0E k (by rw[q0o];lia))) (aJ (h _ ⟨(d.2 _ I.ne.symm).trans I.obj,c,I.ne⟩ d)))
theorem JT{s:Shared}{K:Frag}(X:K.In s.heap)(c:PySem.W.makesIn K C=true)
  (e:findIn K (.ref C) "__init__" = some (some (.ref f))) (i:PySem.W.typeIn K (.ref f)=some (.type "function"))
  (h:codeAny (model prog w) (A.under (.builtin "type.__call__" ⟨.ref C::a,b⟩)) (.call (.ref f) ⟨.ref (s.heap.objs.size+1)::a,b⟩) (PySem.W.InitBack (s.heap.objs.size+1) R)
   { s with heap:=(s.heap.push emptyDict).push (instObj C s.heap.objs.size) }) :
  codeAny (model prog w) A (.call (.ref C) ⟨a,b⟩) R s:=by
 obtain⟨j,g,d,t,os⟩:=s;exact PySem.W.make_core (PySem.W.makes_of X c) (PySem.W.looks_findIn X e) (fun self=>PySem.W.bind_fn X self i) (.inl rfl) h
noncomputable def cS(f:Str)(v:V):List (Str×V)->List (Str×V)
 |[]=>[(f,v)]
 |(g,x)::r=>if g=f then(g,v)::r else(g,x)::cS f v r
theorem yU(f g v):∀fs,(cS f v fs).lookup g=if g=f then some v else fs.lookup g
 |[]=>by
  show List.lookup g [(f,v)]=_
  by_cases h:g=f
  .simp only[List.lookup,(beq_iff_eq.mpr h),if_pos h]
  .simp only[List.lookup,(beq_eq_false_iff_ne.mpr h),if_neg h]
 | (k,x)::r=>by
  rw[show cS f v ((k,x)::r)=(if k=f then(k,v)::r else(k,x)::cS f v r) from rfl]
  by_cases a:k=f
  .rw[if_pos a]
   by_cases h:g=k
   .simp only[List.lookup,(beq_iff_eq.mpr h),if_pos (h.trans a)]
   .simp only[List.lookup,(beq_eq_false_iff_ne.mpr h),if_neg (fun e:g=f=>h (e.trans a.symm))]
  .rw[if_neg a]
   by_cases h:g=k
   .simp only[List.lookup,(beq_iff_eq.mpr h),if_neg (fun e:g=f=>a (h.symm.trans e))]
   .simp only[List.lookup,(beq_eq_false_iff_ne.mpr h)];exact (yU f g v r)
theorem uT(f v):∀fs,f∈(cS f v fs).map (·.1)/\∀g,g∈fs.map (·.1)->g∈(cS f v fs).map (·.1)
 |[]=>⟨by simp[cS],fun g h=>by simp at h⟩
 | (k,x)::r=>by
  obtain⟨b,c⟩:=uT f v r;rw[show cS f v ((k,x)::r)=(if k=f then(k,v)::r else(k,x)::cS f v r) from rfl]
  by_cases a:k=f
  .rw[if_pos a];subst a;exact⟨by simp,fun g h=>by simpa using h⟩
  .rw[if_neg a];refine⟨?_,fun g h=>?_⟩
   .rw[q0l];exact bt _ b
   .rw[q0l]at h ⊢;rcases q0b.mp h with e |e
    .exact q0b.mpr (.inl e)
    .exact bt _ (c g e)
theorem yV(f v):∀fs,(cS f v fs).length<=fs.length+1
 |[]=>by simp[cS]
 | (k,x)::r=>by
  have b:=yV f v r;rw[show cS f v ((k,x)::r)=(if k=f then(k,v)::r else(k,x)::cS f v r) from rfl]
  by_cases a:k=f
  .rw[if_pos a,q0o,q0o];lia
  .rw[if_neg a,q0o,q0o];lia
theorem hZ.some_of(r:hZ (some v) o):∃u,o=some u/\bj v u:=by
 cases o with
 |none=>exact(r).elim
 |some u=>exact⟨u,rfl,r⟩
theorem hZ.none_of(r:hZ none o):o=none:=by
 cases o with
 |none=>rfl
 |some u=>exact(r).elim
theorem JU(r:bj v u):PySem.W.handedIn u=true:=by
 cases v with
 |non=>cases(r);rfl
 |bl b=>cases(r);rfl
 |int i=>obtain⟨t,e⟩:=(r);cases e;rfl
 |str x=>obtain⟨t,e⟩:=(r);cases e;rfl
 |byt b=>obtain⟨t,e⟩:=(r);cases e;rfl
 |flt b=>obtain⟨t,e⟩:=(r);cases e;rfl
 |ref a=>cases(r);rfl
 |ty n=>cases(r);rfl
theorem rf(c:bJ P w H h)(e:H a=some (.ins C I fs)):∃b,gp h a I C b/\(∀f,hZ (fs.lookup f) (b f))/\PySem.Within b (fs.map (·.1))/\fs.length<=1000/\H I=some (.own a):=by
 obtain⟨d,z,ne,ob,b,n,r,q⟩:=(c a _ e)
 exact⟨b,⟨ob,n,ne⟩,r,q,z,d⟩
structure dB (K:Frag) (C:Addr):Prop where
 pg:plainGet K C Str.empty=true
 hd:PySem.W.hasDictIn K C=true
 po:PySem.W.plainOver K C=true
 sa:findIn K (.ref C) "__setattr__" = some (some (.builtin "object.__setattr__"))
theorem dB.get{K}(c:dB K C)(f):plainGet K C f=true:=c.pg
def cJ(K:Frag)(C:Addr)(f:Str):Prop:=findIn K (.ref C) f=some none
theorem cJ.taker{K}(n:cJ K C f):PySem.W.takerIn K C f=some none:=by unfold PySem.W.takerIn;rw[n];rfl
structure iR (K:Frag) (C:Addr) (m:Str) (f:Addr):Prop where
 at_:findIn K (.ref C) m=some (some (.ref f))
 fn:PySem.W.isFn K (.ref f)=true
 kp:keepIn K (.ref f)=true
theorem yW{Y:St}(I:Inv X i Y H s)(e:H a=some (.ins C d fs))(c:dB X.K C)(n:cJ X.K C f)(l:fs.lookup f=some v)
  (h:∀u g,Inv X i Y H g->bj v u->Q u g):wpAny (model X.prog X.w) A (getAttr (.ref a) f b) Q E s:=by
 obtain⟨j,O,r,_,_,_⟩:=rf I.hok e;obtain⟨u,k,ru⟩:=hZ.some_of (by rw[<-l];exact r f);exact JQ I.kIn O (c.get f) c.hd n k (JU ru) (h u _ (I.tok _) ru)
theorem yX{Y:St}(I:Inv X i Y H s)(e:H a=some (.ins C d fs))(c:dB X.K C)(k:iR X.K C m g)(l:fs.lookup m=none)
  (h:Q (.ref g,[.ref a]) s):wpAny (model X.prog X.w) A (getMethod (.ref a) m n) Q E s:=by
 obtain⟨b,O,r,_,_,_⟩:=rf I.hok e;exact JR I.kIn O (c.get m) k.at_ k.fn (hZ.none_of (by rw[<-l];exact r m)) h
theorem yY{Y:St}(I:Inv X i Y H s)(e:H a=some (.ins C d fs))(c:dB X.K C)(n:cJ X.K C f)(N:fs.length<1000)(t:bj y u)
  (h:∀k,Inv X i Y (aL H a (.ins C d (cS f y fs))) k->Q () k):wpAny (model X.prog X.w) A (setAttr (.ref a) f u) Q E s:=by
 obtain⟨l,O,r,m,_,p⟩:=rf I.hok e;refine JS I.kIn O c.sa c.po n.taker c.hd m (by rw[q0h,sizeLine_eq];lia) fun D j L=>h _ (I.write (by rw[e];exact True.intro) (.inr p) (fun b q M z=>(L.2 b M).trans z) (let⟨o,_,_,G,_⟩:=j.ns;⟨o,G⟩) (⟨by rw[bB O.ne];exact p,?_,O.ne,j.obj,_,j.ns,fun g=>?_,fun g J=>?_⟩))
 .have:=yV f y fs;lia
 .rw[yU]
  by_cases q:g=f
  .rw[if_pos q,if_pos q];exact t
  .rw[if_neg q,if_neg q];exact r g
 .by_cases q:g=f
  .rw[q];exact(uT f y fs).1
  .refine(uT f y fs).2 g (m g fun z=>J ?_);show(if g=f then some u else l g)=none;rw[if_neg q];exact z
theorem Inv.made{Y:St}(I:Inv X i Y H s):Inv X i Y (aL (aL H s.heap.objs.size (.own (s.heap.objs.size+1))) (s.heap.objs.size+1) (.ins C s.heap.objs.size []))
  { s with heap:=(s.heap.push emptyDict).push (instObj C s.heap.objs.size) }:=by
 have c:(s.heap.push emptyDict).get? s.heap.objs.size=some emptyDict:=Heap.get?_push_size s.heap rfl;have g:=by
  have:=Heap.get?_push_size (s.heap.push emptyDict) (o:=instObj C s.heap.objs.size) rfl
  rwa [Heap.size_push]at this
 apply (I.laid (o:=.own (s.heap.objs.size+1)) (t':=s.toks) (fun b u q=>aW _ q) (ba _) ⟨_,c⟩).laid (fun b u q=>aW _ q) (q2R (Heap.size_push _ _));have ne:s.heap.objs.size≠s.heap.objs.size+1:=q0t (q05 _);refine⟨by rw[bB ne,cG],q0Y _,ne,g,fun _=>none,(Heap.Ns1.of_empty (⟨emptyDict,#[],_,c,rfl,(fun e j=>absurd j (by simp)),fun _=>rfl⟩)).at fun o q=>aW _ q,fun _=>True.intro,fun y k=>absurd rfl k⟩
theorem JV(j:attributeBase e f c (eval e c)=eval e c)
  (h:wpAny (model b w) A (eval e c) (fun o g=>wpAny (model b w) A (getAttr o f true) Q E g) E s):wpAny (model b w) A (eval (.Attribute e f pos) c) Q E s:=
 Attribute_any_ h (by rw[arm_eval_Attribute,j])
def JW(K:Frag)(c:TE)(f:Str):TE:=fun Y H Q=>c Y H fun x b=>∃a C d fs v,x=.ref a/\b a=some (.ins C d fs)/\dB K C/\cJ K C f/\fs.lookup f=some v/\Q v b
def JX(K:Frag)(d e:TE)(f:Str):TS:=fun D Y H=>e Y H fun y g=>d Y g fun x b=>∃a C c fs,x=.ref a/\b a=some (.ins C c fs)/\dB K C/\cJ K C f/\fs.length<1000/\
 D.nx Y (aL b a (.ins C c (cS f y fs)))
def yZ(X:Cx)(op:Operator)(rd:V->V->Hp->VK->Prop):Prop:=
 ∀(a:List (Addr×Obj)) (s:Shared) (Y:St) (H:Hp) (x y:V) (u v:Value) (Q:VK),Inv X a Y H s->bj x u->bj y v->rd x y H Q->wpAny (model X.prog X.w) X.A (inplaceOp op u v) (EP X a Y Q) X.xe s
def JY(K:Frag)(g h:TE)(rd:V->V->Hp->VK->Prop)(f:Str):TS:=fun D Y H=>g Y H fun x d=>∃a C i fs v,x=.ref a/\d a=some (.ins C i fs)/\dB K C/\cJ K C f/\fs.lookup f=some v/\
 h Y d fun y j=>rd v y j fun z e=>∃c b,e a=some (.ins C c b)/\b.length<1000/\D.nx Y (aL e a (.ins C c (cS f z b)))
theorem jX(i:PE X e g)(t:attributeBase e f X.env (eval e X.env)=eval e X.env):PE X (.Attribute e f pos) (JW X.K g f):=by intro b s Y H Q I h;refine JV t (aU (i b s Y H _ I h) fun u y d=>?_);obtain⟨x,j,I1,k,a,C,z,fs,v,ex,m,c,n,l,q⟩:=d;subst ex;obtain rfl:u=Value.ref a:=k;exact yW I1 m c n l fun A B p w=>⟨v,j,p,w,q⟩
theorem rg(i:PE X o g)(j:PE X value tv)(E:swapsWith value (some (.Attribute o f r)) pos.line X.env=pure false):PS X (.Assign [.Attribute o f r] value pos) (JX X.K g tv f):=by intro b s Y H D I h;refine plainObj_wpAny_Assign_Attribute (aU (j b s Y H _ I h) fun u k ⟨y,m,I1,p,q⟩=>aU (i b k Y m _ I1 q) fun t G d=>?_) E;obtain⟨x,J,v,w,a,C,L,fs,ex,z,c,n,l,A⟩:=d;subst ex;obtain rfl:t=Value.ref a:=w;exact yY v z c n l p fun M B=>⟨Y,_,B,A⟩
theorem JZ(m:PE X o g)(p:PE X value tv)(j:yZ X op rd):PS X (.AugAssign (.Attribute o f tpos) op value pos) (JY X.K g tv rd f):=by intro b s Y H D I h;refine wpAny_AugAssign_AttributeAny (aU (m b s Y H _ I h) fun t s1 d=>?_);obtain⟨x,w,I1,A,a,C,dx,fs,v,ex,B,c,n,l,q⟩:=d;subst ex;obtain rfl:t=Value.ref a:=A;refine yW I1 B c n l fun u E G ru=>aU (p b E Y w _ G q) fun J L ⟨y,M,N,O,Q⟩=>aU (j b L Y M v y u J _ N ru O Q) fun w4 s4 i=>?_;obtain⟨z,H3,R,S,T,U,k,Z,q4⟩:=i;exact yY R k c n Z S fun s5 I5=>⟨Y,_,I5,q4⟩
def Ka:V->V->Hp->VK->Prop:=fun x y H Q=>∃i j,x=.int i/\y=.int j/\Q (.int (i+j)) H
theorem Kb:yZ X .Add Ka:=by
 rintro a s Y H x y u v Q I b c ⟨i,j,rfl,rfl,q⟩;obtain⟨t,rfl⟩:=(b)
 obtain⟨t',rfl⟩:=(c)
 exact PyProof.Rows.iadd_int ⟨.int (i+j),H,I.tok _,⟨_,rfl⟩,q⟩
inductive dJ (K:Frag) (H:Hp):V->Value->Prop where
 |non:dJ K H .non (.type "NoneType")
 |bl (x:Bool):dJ K H (.bl x) (.type "bool")
 |int (i:Int):dJ K H (.int i) (.type "int")
 |str (x:Str):dJ K H (.str x) (.type "str")
 |flt (x:UInt64):dJ K H (.flt x) (.type "float")
 |lst {a:Addr}{xs:List V}(e:H a=some (.lst xs)):dJ K H (.ref a) (.type "list")
 |frz {a:Addr}{o:Obj}{xs:List V}(e:H a=some (.frz o (.lst xs))):dJ K H (.ref a) (.type "list")
 |tup {a:Addr}{xs:List V}(e:H a=some (.tup xs)):dJ K H (.ref a) (.type "tuple")
 |dK {a:Addr}{kvs:List (bf×V)}(e:H a=some (.dK kvs)):dJ K H (.ref a) (.type "dict")
 |dT {a:Addr}{kvs:List (List bf×V)}(e:H a=some (.dT kvs)):dJ K H (.ref a) (.type "dict")
 |ins {a C dx:Addr}{fs:List (Str×V)}(e:H a=some (.ins C dx fs)) (cl:dB K C) (ha:findIn K (.ref C) "__class__" = some (some (.builtin "object.__class__")))
   (hn:PySem.W.specialIn K (.builtin "object.__class__") "__get__" = some (some (.builtin "getset_descriptor.__get__"))) (htk:PySem.W.takesIn K (.builtin "object.__class__")=some true)
   (hm:PySem.W.mroIn K C (.type "object")=some true):dJ K H (.ref a) (.ref C)
theorem oO{Y:St}(I:Inv X pins Y H s)(d:bj x u)(G:dJ X.K H x t)(e:kitOne X.K t c=some b)(h:∀l,Q (.bool b) { s with toks:=l }) :
  wpAny (model X.prog X.w) A (call (.builtin "isinstance") [u,c]) Q E s:=by
 cases G with
 |non=>cases(d);exact kia_one PySem.W.kitx_none I.kIn True.intro e (fun z=>nomatch z) h
 |bl y=>cases(d);exact kia_one PySem.W.kitx_bool I.kIn True.intro e (fun z=>nomatch z) h
 |int i=>obtain⟨t,q⟩:=(d);cases q;exact kia_one PySem.W.kitx_int I.kIn True.intro e (fun z=>nomatch z) h
 |str y=>obtain⟨t,q⟩:=(d);cases q;exact kia_one PySem.W.kitx_str I.kIn True.intro e (fun z=>nomatch z) h
 |flt y=>obtain⟨t,q⟩:=(d);cases q;exact kia_one PySem.W.kitx_float I.kIn True.intro e (fun z=>nomatch z) h
 | @lst a j f=>
  cases(d);obtain⟨_,_,n,_,h1⟩:=(I.hok a _ f)
  exact kia_one PySem.W.kitx_list I.kIn ⟨_,h1,rfl⟩ e (fun z=>nomatch z) h
 | @frz a ob j f=>
  cases(d);obtain⟨_,_,_,n,_,h1⟩:=(I.hok a _ f)
  exact kia_one PySem.W.kitx_list I.kIn ⟨_,h1,rfl⟩ e (fun z=>nomatch z) h
 | @tup a j f=>
  cases(d);obtain⟨_,_,_,p⟩:=(I.hok a _ f)
  obtain⟨o,h1,h2,_⟩:=p;exact kia_one PySem.W.kitx_tuple I.kIn ⟨o,h1,h2⟩ e (fun z=>nomatch z) h
 | @dK a g f=>
  cases(d);obtain⟨_,_,L,_,p⟩:=(I.hok a _ f)
  obtain⟨o,m,r,h1,h2,_⟩:=p;exact kia_one PySem.W.kitx_dict I.kIn ⟨o,h1,h2.1⟩ e (fun z=>nomatch z) h
 | @dT a g f=>
  cases(d);obtain⟨_,_,j,_,o,m,r,h1,h2,_⟩:=(I.hok a _ f)
  exact kia_one PySem.W.kitx_dict I.kIn ⟨o,h1,h2.1⟩ e (fun z=>nomatch z) h
 | @ins a C M fs f cl v B k D=>cases(d);obtain⟨N,O,_⟩:=rf I.hok f;obtain⟨R,J,_⟩:=O.look;exact kia_one (PySem.W.kitx_own (cl.get _) cl.hd v B k D) I.kIn J e (fun z=>nomatch z) h
structure br (k:Nat) (A:Around):Prop where
 hd:A.handled=none
 dp:A.depth+3 * k+5<recursionLimit
 un:A.units+16 * k+200<cLine
theorem br.mono(r:br k A)(h:j<=k):br j A:=⟨r.hd,by have:=r.dp;lia,by have:=r.un;lia⟩
theorem br.deeper(r:br (k+1) A)(a):br k (A.deeper a):=
 ⟨r.hd,by have:=r.dp;show A.depth+1+3 * k+5<_;lia,by have:=r.un;show A.units+3+16 * k+200<_;lia⟩
theorem Kc{A:Around}:(A.under (.builtin "type.__call__" ⟨.ref C::a,b⟩)).depth=A.depth+1:=by first |rfl |simp
theorem Kd{A:Around}:(A.under (.builtin "type.__call__" ⟨.ref C::a,b⟩)).units=A.units+1:=by first |rfl |simp
theorem br.make(r:br (k+1) A)(C a b):br k (A.under (.builtin "type.__call__" ⟨.ref C::a,b⟩)):=
 ⟨r.hd,by have:=r.dp;rw[Kc];lia,by have:=r.un;rw[Kd];lia⟩
theorem br.depth(r:br k A):A.depth<recursionLimit:=by have:=r.dp;lia
theorem br.units(r:br k A):A.units+64<cLine:=by have:=r.un;lia
def za:TA:=fun _ H Q=>Q [] H
def zb(a:TE)(e:TA):TA:=fun Y H Q=>a Y H fun x b=>e Y b fun c d=>Q (x::c) d
theorem fS:PA X [] za:=fun _ _ _ _ H Q I h=>Calls.spliced_nil ⟨[],H,I,.nil,h⟩
theorem eM(d:PE X e te)(f:PA X es t)(q:autoParam (starEach (e::es) X.env=(false,eval e X.env)::starEach es X.env) Zq._auto_1):PA X (e::es) (zb te t):=by intro pos a s Y H Q I h;rw[q];refine Calls.spliced_cons (aU (d a s Y H _ I h) fun u g b=>?_);obtain⟨x,i,I1,j,k⟩:=b;exact aU (f pos a g Y i _ I1 k) fun r v c=>by obtain⟨l,m,n,o,p⟩:=c;exact⟨x::l,m,n,.cons j o,p⟩
def Ke(t:TA):TE:=fun Y H Q=>t Y H fun a b=>a.length<=sizeLine/\∀p,b p=none->Q (.ref p) (aL b p (.tup a))
def Kf(t:TA):TE:=fun Y H Q=>t Y H fun a b=>a.length<=sizeLine/\∀p,b p=none->Q (.ref p) (aL b p (.lst a))
theorem zc(h:PA X es t):PE X (.Tuple es f pos) (Ke t):=by intro a s Y H Q I g;refine wpAny_Tuple_spliced (aU (h pos a s Y H _ I g) fun i c ⟨j,d,I1,r,z,q⟩=>⟨by rw[<-r.length];exact z,⟨.ref c.heap.objs.size,aL d c.heap.objs.size (.tup j),I1.laid (fun b u e=>aW _ e) (ba _) ?_,rfl,q _ (I1.hok.fresh (ba _))⟩⟩);exact⟨z,i,r,⟨_,Heap.get?_push_size _ rfl,rfl,_,rfl⟩⟩
theorem rh(h:PA X es t):PE X (.List es pos) (Kf t):=by intro a s Y H Q I f;refine wpAny_List_spliced (aU (h pos a s Y H _ I f) fun g c ⟨i,d,I1,r,z,q⟩=>⟨by rw[<-r.length];exact z,⟨.ref c.heap.objs.size,aL d c.heap.objs.size (.lst i),I1.laid (fun b u e=>aW _ e) (ba _) ?_,rfl,q _ (I1.hok.fresh (ba _))⟩⟩);exact⟨z,g,0,r,Heap.get?_push_size _ rfl⟩
abbrev Sp:=List V->Hp->VK->XK->Prop
abbrev iS:=List Env->Hp->Shared->XK->Value->Shared->Prop
structure gq (P:Program) (w:World) (K:Frag) (mg:Str->Option Value) (base:Heap) (A:Around) (outer:List Env) (s:Shared) (H:Hp):Prop where
 frames:A.frames=some outer
 mod:Mod K mg base
 bs:∀b o,base.get? b=some o->s.heap.get? b=some o/\H b=none
 bsz:base.objs.size<=s.heap.objs.size
 funs:s.heap.FunFrames base outer
 frf:∀b∈bW outer,H b=none
 hok:bJ P w H s.heap
 bare:AllBare s.gens
def CE(a:List Env)(P:Program)(w:World)(H:Hp)(s:Shared)(Q:VK)(u:Value)(b:Shared):Prop:=
 ∃v c,b.os=s.os/\AllBare b.gens/\Un (bW a) [] H c s.heap b.heap/\bJ P w c b.heap/\bj v u/\Q v c
def CR(c:iS)(a:List Env)(P:Program)(w:World)(H:Hp)(s:Shared)(Q:VK)(E:XK)(r:Result)(b:Shared):Prop:=
 match r with
 |.ok (.ret u)=>CE a P w H s Q u b
 |.ok _=>False
 |.error e=>c a H s E e b
structure bX (P:Program) (w:World) (K:Frag) (mg:Str->Option Value) (base:Heap) (CX:iS) (k:Nat) (f:Addr) (fd:FuncData) (ps:List Str) (sp:Sp):Prop where
 len:∀vs H Q E,sp vs H Q E->vs.length=ps.length
 run:∀(A:Around) (outer:List Env) (s:Shared) (H:Hp) (args:Args) (us:List Value) (vs:List V) (Q:VK) (E:XK),br k A->gq P w K mg base A outer s H->BindsTo s fd args (ps.zip us)->bi vs us->sp vs H Q E->
  codeAny (model P w) A (.call (.ref f) args) (CR CX outer P w H s Q E) s
theorem bX.imp{K}(F:bX P w K mg base d k f fd e g)
  (h:∀b H Q E,c b H Q E->g b H Q E):bX P w K mg base d k f fd e c:=
 ⟨fun b H Q E q=>F.len b H Q E (h _ _ _ _ q),fun A a s H args i b Q E j l n m o=>F.run A a s H args i b Q E j l n m (h _ _ _ _ o)⟩
theorem gq.make{K}(e:gq P w K mg base A a s H)(C b)(c) :
  gq P w K mg base (A.under (.builtin "type.__call__" ⟨.ref C::b,c⟩)) a s H:=⟨by first |exact e.frames |(simpa[pushEnvs] using e.frames),e.mod,e.bs,e.bsz,e.funs,e.frf,e.hok,e.bare⟩
theorem Inv.env0{Y:St}(I:Inv X pins Y H s):gq X.prog X.w X.K X.mg X.base X.A X.stack s H:=
 ⟨I.ok.frames,I.ok.mod,I.bs,q0E I.ok.bsz I.sz,I.stack,I.stkFree,I.hok,I.bare⟩
theorem Inv.after{Y:St}(I:Inv X pins Y H s)(h:CE X.stack X.prog X.w H s Q u s'):EP X pins Y Q u s':=by obtain⟨v,c,os,bare,un,hok,r,q⟩:=h;obtain⟨e,g,d,t,a⟩:=s';obtain rfl:a = s.os:=os;exact⟨v,c,I.call un hok bare (fun b z=>absurd z (by simp)),r,q⟩
def iB(K:Frag)(fd:FuncData)(b:List Str)(c:List Value):Prop:=
 ∀(s:Shared) (a:List Value),K.In s.heap->(a++c).length=b.length->BindsTo s fd ⟨a,[]⟩ (b.zip (a++c))
theorem iB.all{K}(h:∀a,a.length=b.length->bindArgs fd ⟨a,[]⟩=pure (b.zip a)):iB K fd b []:=fun s a _ c=>by rw[q0F]at c ⊢;exact .of_eq (h a c)
structure Mk (K:Frag) (C f:Addr):Prop where
 makes:PySem.W.makesIn K C=true
 init:findIn K (.ref C) "__init__" = some (some (.ref f))
 fn:PySem.W.isFn K (.ref f)=true
 kp:keepIn K (.ref C)=true
def PK(X:Cx)(b:List Keyword)(t:TA):Prop:=
 ∀(pos:Pos) (a:List (Addr×Obj)) (s:Shared) (Y:St) (H:Hp) (Q:List V->Hp->Prop),Inv X a Y H s->t Y H Q->wpAny (model X.prog X.w) X.A (evalAll ((backToKw pos (keywordEach b X.env)).map (·.2))) (AP X a Y Q) X.xe s
theorem Kg:PK X [] za:=fun _ _ _ _ H Q I h=>wpAny_evalAll_nil ⟨[],H,I,.nil,h⟩
theorem Kh(b:PE X e te)(c:PK X kws t):PK X (⟨nm,e,kpos⟩::kws) (zb te t):=by intro pos a s Y H Q I h;exact wpAny_evalAll_cons (af (aU (b a s Y H _ I h) fun u d ⟨x,g,I1,i,j⟩=>af (wpAny_standAt (aJ (aU (c pos a d Y g _ I1 j) fun y z ⟨l,n,q,r,w⟩=>⟨x::l,n,q,.cons i r,w⟩)))))
structure cm (N P:List Str) (sc:Scope):Prop where
 kind:sc.kind=.function
 co:sc.isCoroutine=false
 gen:sc.isGenerator=false
 nd:N.Nodup
 pre:N.take P.length=P
 par:∀x∈P,sc.names.lookup x=some .local\/sc.names.lookup x=some .cell
 nofree:∀y∈sc.names,y.2≠.free
theorem zd{kindOf}:∀{binds m},(∀v,(x,v)∉binds)->bindL kindOf binds m x=m x
 |[],_,_=>rfl
 | (n,v)::r,m,h=>by
  unfold bindL;rw[zd fun w a=>h w (bt _ a)];split
  .have:x≠n:=by rintro rfl;exact h v q0f
   simp[this]
  .rfl
theorem ze{kindOf}:∀{binds m},(∀v,(x,v)∉binds)->bindC kindOf binds m x=m x
 |[],_,_=>rfl
 | (n,v)::r,m,h=>by
  unfold bindC;rw[ze fun w a=>h w (bt _ a)];split
  .rfl
  .have:x≠n:=by rintro rfl;exact h v q0f
   simp[this]
theorem zf{kindOf}:∀{P:List Str}{a}{i:Nat}{m},P.Nodup->P[i]? = some x->a[i]? = some v->kindOf x=some .local->
  bindL kindOf (P.zip a) m x=some v
 |[],_,_,_,_,h,_,_=>by simp at h
 |_::_,[],_,_,_,_,h,_=>by simp at h
 |p::P,w::a,0,m,nd,h1,h2,b=>by simp at h1 h2;subst h1;subst h2;show bindL kindOf ((p,w)::P.zip a) m p=_;unfold bindL;rw[zd fun v c=>(q0I.mp nd).1 (q2H c).1,if_pos b];simp
 |p::P,w::a,i+1,m,nd,h1,h2,b=>by unfold bindL;exact zf (q0I.mp nd).2 (by simpa using h1) (by simpa using h2) b
theorem zg{kindOf}:∀{P:List Str}{a}{i:Nat}{m},P.Nodup->P[i]? = some x->a[i]? = some v->kindOf x≠some .local->
  bindC kindOf (P.zip a) m x=some v
 |[],_,_,_,_,h,_,_=>by simp at h
 |_::_,[],_,_,_,_,h,_=>by simp at h
 |p::P,w::a,0,m,nd,h1,h2,b=>by simp at h1 h2;subst h1;subst h2;show bindC kindOf ((p,w)::P.zip a) m p=_;unfold bindC;rw[ze fun v c=>(q0I.mp nd).1 (q2H c).1,if_neg b];simp
 |p::P,w::a,i+1,m,nd,h1,h2,b=>by unfold bindC;exact zg (q0I.mp nd).2 (by simpa using h1) (by simpa using h2) b
noncomputable def start(N:List Str)(a:List V):St:=a.map some++List.replicate (N.length - a.length) none
noncomputable def iC(CX:iS)(P:Program)(w:World)(K:Frag)(mg:Str->Option Value)(base:Heap)(N:List Str)(qual:Str)(scope:Scope)(f:Addr)(cd:Value)(A:Around)(outer:List Env)(s:Shared)(H:Hp)(E:XK):Cx where
 prog:=P
 w:=w
 K:=K
 mg:=mg
 base:=base
 A:=A.deeper (envOfC qual scope s.heap.objs.size f cd)
 N:=N
 s₀:=s
 H₀:=H
 env:=envOfC qual scope s.heap.objs.size f cd
 outer:=outer
 stack:=envOfC qual scope s.heap.objs.size f cd::outer
 ex:=[]
 calm:=true
 fn:=fun _=>true
 pn:=[]
 xe:=fun e s'=>wpAny (model P w) (A.deeper (envOfC qual scope s.heap.objs.size f cd)) (leaving (envOfC qual scope s.heap.objs.size f cd) e) (fun _ s''=>CX outer H s E e s'') (fun e' s''=>CX outer H s E e' s'') s'
theorem zh{a:Scope}(h:a.names.lookup x=some .cell):∃c,(cellsFrom n a.names []).lookup x=some c:=q0Z.mp (q2D a.names n [] (.inl h))
theorem Ki{K}
  (S:cm N o d) (hd:A.handled=none) (m:gq P w K mg base A g s H) (Z:t.length=o.length) (r:bi t M)
  (x:InCallC s s.heap.objs.size (bindL (envOfC j d s.heap.objs.size f I).kindOf (o.zip M) fun _=>none) (cellsFrom (s.heap.objs.size+1) d.names []) (bindC (envOfC j d s.heap.objs.size f I).kindOf (o.zip M) fun _=>none) Q) :
  Inv (iC O P w K mg base N j d f I A g s H E) [] (start N t) H Q:=by
 have U:=by have:=congrArg List.length S.pre;rw[q1V]at this;lia
 obtain⟨L,tk,rfl,R⟩:=x.done;have B:∀b:Addr,b∉(iC O P w K mg base N j d f I A g s H E).ex:=fun b z=>absurd (show b∈([]:List Addr) from z) (by simp);refine⟨⟨m.mod,S.kind,rfl,rfl,ba _,fun y z c L l=>?_,fun y C=>?_,fun y c _ h=>?_,fun _=>hd,Around.frames_deeper m.frames,.inr ⟨rfl,rfl⟩,fun b z=>absurd z (B b),m.bs,m.bsz,fun b _ _=>B b,fun b z=>absurd z (B b),m.funs,m.frf⟩,
  rfl,m.bare,Un.kept R,⟨_,x.toInCall.ns,fun i y v L l h3=>?_⟩,fun y c h=>⟨_,x.cell y c h⟩,m.hok.fresh (ba _),fun y c h=>?_,fun p D=>absurd (show p∈([]) from D) (by simp),m.hok.kept R,?_⟩
 .exact name_of_addr x.apart (q0P L) (q0P l)
 .rcases C with C |C
  .exact zh C
  .exact absurd rfl (S.nofree _ (q0P C))
 .exact q1t (x.above y c (q0P h))
 .have J:i<t.length:=by
   unfold start at l
   by_cases J:i<t.length
   .exact J
   .rw[q0z (by simpa using J)]at l;rw[q1F]at l;split at l<;>cases l
  have X:t[i]? = some v:=by
   unfold start at l;rw[q0G (by simpa using J),q0y]at l;cases e:t[i]? with
   |none=>rw[e]at l;cases l
   |some a=>rw[e]at l;cases l;rfl
  obtain⟨u,T,Y⟩:=r.get X;have D:o[i]? = some y:=by rw[<-S.pre,List.getElem?_take_of_lt (by lia)];exact L
  have G:o.Nodup:=by rw[<-S.pre];exact S.nd.sublist (List.take_sublist _ _)
  refine⟨u,Y,?_⟩;rcases S.par y (q0K D) with k |k
  .exact .inl ⟨k,zf G D T k⟩
  .obtain⟨c,e⟩:=zh k;refine .inr ⟨.inl k,c,e,?_⟩;have q:=x.cell y c e;rw[zg G D T (by show d.names.lookup y≠_;rw[k];decide)]at q;exact q
 .exact m.hok.fresh (q1t (x.above y c (q0P h)))
 .unfold start;show _=N.length;rw[q0q,q0h,q1a];lia
theorem Kj{K}{kV }
  (lk:K.lookup f=some ⟨oc,od,.func (fnOf name d h body a dV kV z pm Z g ct),M⟩) (R:codeIn K g d=true) (S:cm N G a)
  (len:∀i H Q E,O i H Q E->i.length=G.length)
  (l:∀A  c  s  H  i  Q  E,br k (A.deeper (envOfC d a s.heap.objs.size f g))->O i H Q E->
   ∃t,PSs (iC D P w K mg base N d a f g A c s H E) body t/\t { nx:=fun _ j=>Q .non j,rt:=Q } (start N i) H) :
  bX P w K mg base D (k+1) f (fnOf name d h body a dV kV z pm Z g ct) G O:=by
 refine⟨len,fun A c s H args us i Q E T B hb r C=>?_⟩;have KX:=B.mod.kin.keeps fun b o e=>(B.bs b o e).1;have m:∀y∈G.zip us,a.names.lookup y.1=some .local\/(a.names.lookup y.1=some .cell/\((cellsFrom (s.heap.objs.size+1) a.names []).lookup y.1).isSome=true):=fun⟨n,v⟩ hy=>by
  rcases S.par n (q2H hy).1 with q |q
  .exact .inl q
  .exact .inr ⟨q,q2D _ _ _ (.inl q)⟩
 refine codeAny_call_function T.depth (KX _ _ lk) rfl S.co S.gen rfl (PySem.W.codeRec_of KX R) (hb _ _ _ _ (wpAny_newFunctionEnv_cells S.kind m fun a0 he s1 x=>?_));subst he;refine⟨(B.mod.nolimit.keeps fun b o e=>(B.bs b o e).1).keeps x.toInCall.keep,codeAny_func ?_⟩;obtain⟨t,ht,hq⟩:=l A c s H i Q E (T.deeper _) C;refine wpAny_mono (ht [] s1 (start N i) H _ (Ki S T.hd B (len _ _ _ _ C) r x) hq) (fun fl X p=>?_) fun e X p=>p;have fin:∀{L:St}{j:Hp}{v:V}{u:Value},Inv (iC D P w K mg base N d a f g A c s H E) [] L j X->bj v u->Q v j->CE c P w H s Q u X:=
  fun {L j v u} J Y q=>⟨v,j,J.os,J.bare,J.base,J.hok,Y,q⟩
 cases fl with
 |ret u=>obtain⟨v,L,j,J,Y,q⟩:=p;exact fin J Y q
 |next=>obtain⟨L,j,J,q⟩:=p;exact fin (v:=V.non) J rfl q
 |brk=>obtain⟨_,_,_,q⟩:=p;exact False.elim q
 |cont=>obtain⟨_,_,_,q⟩:=p;exact False.elim q
def uU(r:List V->Hp->VK->Prop)(t:TA):TE:=fun Y H Q=>t Y H fun a b=>r a b Q
theorem ri{p:Pos}{pos:Pos}{id:String}(f:ie X (.builtin id) r)(g:Gl X x)(i:X.mg x=none)(j:bootBuiltins x=some (.builtin id))(k:PA X (e::es) t)(l:autoParam (x≠"__name__") Zr._auto_1)(c:autoParam ((x==("__debug__":Str))=false) Zr._auto_1)
  (m:autoParam (starEach (e::es) X.env=(false,eval e X.env)::starEach es X.env) Zq._auto_1) (d:autoParam ((backTo pos (starEach es X.env)).any (·.1)=false) Zq._auto_1):PE X (.Call (.Name x p) (e::es) [] pos) (uU r t):=by
 intro a s Y H Q I h;refine wpAny_Call_Name_kw (iz I g i j ?_ l c);exact PyProof.Rows.callWith_builtin1 (aU (k pos a s Y H _ I h) fun n o b=>by obtain⟨q,u,I1,v,w⟩:=b;exact f a o Y u q n Q I1 v w) m d
theorem uV{p:Pos}{pos:Pos}(d:ie X (.type T) r)(f:Gl X x)(g:X.mg x=none)(i:bootBuiltins x=some (.type T))(j:PA X (e::es) t)(k:autoParam (x≠"__name__") Zr._auto_1)(b:autoParam ((x==("__debug__":Str))=false) Zr._auto_1)
  (l:autoParam (starEach (e::es) X.env=(false,eval e X.env)::starEach es X.env) Zq._auto_1) (c:autoParam ((backTo pos (starEach es X.env)).any (·.1)=false) Zq._auto_1):PE X (.Call (.Name x p) (e::es) [] pos) (uU r t):=by
 intro a s Y H Q I h;refine wpAny_Call_Name_kw (iz I f g i ?_ k b);exact PyProof.Rows.callWith_type1 (aU (j pos a s Y H _ I h) fun m n ⟨o,q,I1,u,v⟩=>d a n Y q o m Q I1 u v) l c
end L2
namespace HT
open PySem PyProof.Rows
noncomputable def lexLt:List Int->List Int->Bool
 |[],[]=>false
 |[],_::_=>true
 |_::_,[]=>false
 |x::a,y::b=>if x=y then lexLt a b else decide (x<y)
theorem lexLt_cons(x y a b):lexLt (x::a) (y::b)=if x=y then lexLt a b else decide (x<y):=rfl
theorem Kk:lexLt [] []=false:=rfl
theorem Kl(y a):lexLt [] (y::a)=true:=rfl
theorem Km(x a):lexLt (x::a) []=false:=rfl
theorem Kn(A s a t c u):∃e,SeqAt.EqAt A s (.int a t) (.int c u) e/\(e=true↔a=c):=
 ⟨(a==c),SeqAt.EqAt.int_int a t c u,by simp⟩
theorem Ko(A s a t c u b w E Q)(h:Q (.bool (decide (a<c))) s) :
  wpAny (model b w) A (richCompare .Lt (.int a t) (.int c u)) Q E s:=
 (PyProof.Rows.lt_int h)
section
open PySem.SeqAt
open PySem.AutoSeq1 (wpAny_loadPart')
open PySem.MeetsSeq PySem.MeetsSeq2 PySem.MeetsSeq3
theorem Kp(l b)(items f)(n Y dd M sl N L E)(T:IntsAre items.toList L)(U:IntsAre f.toList E) :
  Meets (Builtin.«tuple.__lt__» ⟨[.ref l,.ref b],[]⟩)
   (fun _ R s=>s.heap.get? l=some { cls:=.type "tuple",dict:=dd,data:=.seq items n,slots:=sl }/\s.heap.get? b=some { cls:=.type "tuple",dict:=M,data:=.seq f Y,slots:=N }/\
    R (.ok (.ret (.bool (lexLt L E)))) s):=
 .of_wp fun v w A R s h=>by
  obtain⟨G,g,d,H,os⟩:=s;obtain⟨Z,hb,h⟩:=h;have f2:=AutoSeq1.sub_tuple_tuple;have z1:items.size=L.length:=by rw[<-T.length];simp
  have z2:f.size=E.length:=by rw[<-U.length];simp
  wp_walk using wpAny_loadPart' Z,wpAny_loadPart' hb,wpAny_forIn_list _ (fun rest b O=>b.1=none/\O = ⟨G,g,d,H,os⟩/\∃(I J:List Value) (j k:List Int),rest=I.zip J/\
   IntsAre I j/\IntsAre J k/\j.length+f.size=k.length+items.size/\R (.ok (.ret (.bool (lexLt j k)))) ⟨G,g,d,H,os⟩) _
  case turn=>
   rintro⟨y,x⟩ rest b O ⟨hb',rfl,I,J,j,k,m,z,o,i,p⟩;cases z with
   |nil=>rw[List.zip_nil_left]at m;cases m
   |cons a t C=>
    cases o with
    |nil=>rw[List.zip_nil_right]at m;cases m
    |cons c u D=>
     rw[q1G]at m;injection m with Q B
     injection Q with hy hx
     subst hy hx;rw[lexLt_cons]at p;simp only[q0o]at i;obtain⟨e,he,r⟩:=Kn A.in1 ⟨G,g,d,H,os⟩ a t c u;refine af (he v w _ _ ?_);cases e with
     |true=>
      rw[if_pos (r.mp rfl)]at p
      wp_walk
      exact⟨rfl,rfl,_,_,_,_,B,C,D,by lia,p⟩
     |false=>
      rw[if_neg (fun q=>absurd (r.mpr q) q0x)]at p;have S:=Ko A.in1 ⟨G,g,d,H,os⟩ a t c u v w
      wp_walk using S
      exact⟨_,rfl,by simpa using p⟩
  case fin=>
   rintro⟨b1,b2⟩ O ⟨hb',rfl,I,J,j,k,m,z,o,i,p⟩;simp only at hb';subst hb';have X:lexLt j k = decide (items.size<f.size):=by
    cases z with
    |nil=>
     cases o with
     |nil=>simp only[q00]at i;rw[Kk];exact(decide_eq_false (by lia)).symm
     |cons c u hw=>simp only[q00,q0o]at i;rw[Kl];exact(decide_eq_true (by lia)).symm
    |cons a t X=>
     cases o with
     |nil=>simp only[q00,q0o]at i;rw[Km];exact(decide_eq_false (by lia)).symm
     |cons c u hw=>rw[q1G]at m;cases m
   rw[X]at p
   wp_walk
   exact⟨_,rfl,by simpa[Builtin.Tuple.tupleCompareSizes] using p⟩
  case h=>exact⟨rfl,rfl,items.toList,f.toList,L,E,rfl,T,U,by lia,h⟩
end
theorem lt_tupInts(o:IsTup s.heap l items)(u:IsTup s.heap b a)(p:IntsAre items.toList g)(q:IntsAre a.toList c)
  (r:A.units<cLine) (h:Q (.bool (lexLt g c)) s):wpAny (model prog w) A (compareOp .Lt (.ref l) (.ref b)) Q E s:=by
 obtain⟨⟨cls,dd,data,sl⟩,ho,k,n,hd⟩:=id o;obtain⟨⟨m,i,data2,j⟩,d,e,t,f⟩:=id u;subst k hd e f;exact richCompare_meets_room (op:=.Lt) ⟨_,ho,rfl⟩ ⟨_,d,rfl⟩ PySem.F.slot_tuple_lt PySem.F.entry_tuple_lt (PySem.F.args_tuple_lt_2 _ _) (Kp l b items a n t dd i sl j g c p q)
  ⟨ho,d,⟨(fun x=>nomatch x),h⟩⟩ r
noncomputable def sIx(n d:Nat):Option Int->Nat
 |none=>d
 |some v=>if v<0 then(v+(n:Int)).toNat else min v.toNat n
theorem sIx_none(n d):sIx n d none=d:=rfl
theorem sIx_nat(n d k:Nat):sIx n d (some (k:Int))=min k n:=by show(if k<0 then(k+(n:Int)).toNat else min (k:Int).toNat n)=min k n;rw[if_neg (by lia),q1v]
theorem Kq(n d)(hd:d<=n)(o):sIx n d o<=n:=by
 cases o with
 |none=>exact hd
 |some v=>
  show(if v<0 then(v+n).toNat else min v.toNat n)<=n
  by_cases a:v<0
  .rw[if_pos a];lia
  .rw[if_neg a];exact Nat.min_le_right _ _
theorem zi(v)(n d:Nat):(if v<0 then max (v+(n:Int)) 0 else min v (n:Int))=((sIx n d (some v):Nat):Int):=by
 show(if v<0 then max (v+n) 0 else min v n)=(((if v<0 then(v+n).toNat else min v.toNat n)))
 by_cases a:v<0
 .lia
 .lia
theorem Kr(lo a)(n:Nat):Builtin.Slice.sliceAdjust lo a 1 (n:Int)=(((sIx n 0 lo:Nat):Int),((sIx n n a:Nat):Int)):=by
 refine Prod.ext ?_ ?_
 .cases lo with
  |none=>rfl
  |some v=>exact zi v n 0
 .cases a with
  |none=>rfl
  |some v=>exact zi v n n
theorem Ks(i j:Nat):Builtin.Slice.slicePlaces (i:Int) (j:Int) 1=j - i:=by
 unfold Builtin.Slice.slicePlaces;split<;>lia
theorem zj(p:IsPart v o)(h:Q o s):wpAny (model prog w) A (Builtin.Slice.slicePartIndex v) Q E s:=by
 cases p with
 |none=>exact slicePart_none h
 |int i t=>exact slicePart_int h
theorem zk{lo }{n:Nat}(j:s.heap.IsSliceOf f d e .none)(k:IsPart d lo)(g:IsPart e a)
  (h:Q (((sIx n 0 lo:Nat):Int),1,sIx n n a - sIx n 0 lo) s):wpAny (model prog w) A (Builtin.Slice.sliceApplied (.ref f) (pure (n:Int))) Q E s:=by
 obtain⟨os,b,i,c⟩:=id j;refine af (af (wpAny_field b c rfl (af (wpAny_field b c rfl (af (wpAny_field b c rfl (aJ (af (slicePart_none ?_)))))))));rw[if_neg (by decide)];refine af (zj k (af (zj g (af (aJ ?_)))));show wpAny _ _ (match Builtin.Slice.sliceAdjust lo a 1 n with |(lo,a)=>pure (lo,(1:Int),Builtin.Slice.slicePlaces lo a 1)) _ _ s;rw[Kr lo a n];show wpAny _ _ (pure (((sIx n 0 lo):Int),(1),Builtin.Slice.slicePlaces ((sIx n 0 lo)) ((sIx n n a)) 1)) _ _ s;rw[Ks];exact aJ h
theorem Kt(a:Array Value)(i k:Nat):((List.range k).filterMap fun(m:Nat)=>a[((i:Int)+(m:Int) * 1).toNat]?).toArray=((a.toList.drop i).take k).toArray:=by
 have e:(fun(m:Nat)=>a[((i:Int)+m * 1).toNat]?)=fun m=>a[i+m]?:=by
  funext m;have:(i+(m:Int) * 1).toNat=i+m:=by lia
  rw[this]
 rw[e];have:=pick_run a i k;rw[List.filterMap_map]at this;have b:((fun x=>a[x]?)∘fun x=>i+x)=fun m=>a[i+m]?:=rfl;rw[b]at this;rw[this]
theorem getItem_tuple_cut{lo }(c:IsTup s.heap t items)(l:s.heap.IsSliceOf i j k .none)(u:IsPart j lo)(n:IsPart k b)
  (o:¬ (sIx items.size 0 lo=0/\sIx items.size items.size b=items.size))
  (h:Q (.ref s.heap.objs.size) { s with heap:=s.heap.push { cls:=.type "tuple",data:=.seq ((items.toList.drop (sIx items.size 0 lo)).take (sIx items.size items.size b - sIx items.size 0 lo)).toArray } })
  (p:items.size<=sizeLine):wpAny (model prog w) A (getItem (.ref t) (.ref i)) Q E s:=by
 have a:=by show((items.toList.drop (sIx items.size 0 lo)).take (sIx items.size items.size b - sIx items.size 0 lo)).toArray.size<=sizeLine;rw[q0m,q1V,q2z,q0H];lia
 obtain⟨os,d,e,r⟩:=id l;unfold getItem
 try with_reducible apply wpAny_holding
 first |refine af (aJ ?_) |skip
 refine af (wpAny_sequenceKey c.typeIs (by decide) ?_);refine af (wpAny_callSpecial?_slot c.typeIs PyProof.Rows.slot_tuple_getitem
  (wpAny_call_entry PyProof.Rows.slot_tuple_getitem c.typeIs entry_tuple_getitem ?_ (args_tuple_getitem _ _)))
 show wpAny _ _ (Builtin.Tuple.tupleItemsOf (.ref t) >>= _) _ _ s;refine af (tupleItemsOf_ c ?_);refine af (wpAny_typeOf (⟨os,d,e⟩) ?_);rw[if_pos (by decide)];refine af (zk l u n ?_);show wpAny _ _ (if (((sIx items.size 0 lo:Nat):Int)==0&&(1:Int)==1&&(sIx items.size items.size b - sIx items.size 0 lo)==items.size)=true then _ else _) _ _ s;rw[if_neg (by intro q;rw[q0Q,q0Q]at q;have x:((sIx items.size 0 lo:Nat):Int)=0:=eq_of_beq q.1.1;have y:sIx items.size items.size b - sIx items.size 0 lo=items.size:=eq_of_beq q.2;exact o ⟨by lia,by lia⟩),Kt]
 first
  |exact af (wpAny_newObj_type (aJ ⟨_,rfl,aJ h⟩) a)
  |exact af (wpAny_newObj_type (af (aJ (aJ ⟨_,rfl,aJ h⟩))) a)
  |exact af (af (m:=Builtin.Tuple.tupleExact _) (wpAny_newObj_type (aJ (aJ ⟨_,rfl,aJ h⟩)) a))
  |exact af (af (wpAny_newObj_type (aJ ⟨_,rfl,aJ h⟩) a))
end HT
namespace L2
open PySem PySem.Spec PyProof.Rows
abbrev TO:=St->Hp->(Option Int->Hp->Prop)->Prop
def PO(X:Cx)(e:Option Expr)(t:TO):Prop:=
 ∀(a:List (Addr×Obj)) (s:Shared) (Y:St) (H:Hp) (Q:Option Int->Hp->Prop),Inv X a Y H s->t Y H Q->
  wpAny (model X.prog X.w) X.A (evalPart e X.env) (fun u c=>∃o b,Inv X a Y b c/\IsPart u o/\Q o b) X.xe s
def Ku:TO:=fun _ H Q=>Q none H
def Kv(t:TE):TO:=fun Y H Q=>t Y H fun x a=>∃i,x=.int i/\Q (some i) a
theorem zl:PO X none Ku:=by intro a s Y H Q I h;rw[evalPart_none];exact aJ ⟨none,H,I,.none,h⟩
theorem zm(h:PE X e te):PO X (some e) (Kv te):=by intro a s Y H Q I c;rw[evalPart_some];refine aU (h a s Y H _ I c) fun u j b=>?_;obtain⟨x,d,I1,f,g⟩:=b;obtain⟨i,rfl,q⟩:=g;obtain⟨t,rfl⟩:=f;exact⟨some i,d,I1,.int i t,q⟩
def jt(X:Cx)(r:V->Option Int->Option Int->Hp->VK->Prop):Prop:=
 ∀(a:List (Addr×Obj)) (s:Shared) (Y:St) (H:Hp) (x:V) (v b c:Value) (lo hi:Option Int) (d:Addr) (Q:VK),Inv X a Y H s->bj x v->s.heap.IsSliceOf d b c .none->IsPart b lo->IsPart c hi->r x lo hi H Q->
  ∃T id,typeLookup (.type T) "__getitem__" = pure (some (.builtin id))/\s.TypeIs v T/\wpAny (model X.prog X.w) X.A (getItem v (.ref d)) (EP X a Y Q) X.xe s
theorem jt.or(h:jt X r)(l:jt X b):jt X (fun x lo hi H Q=>r x lo hi H Q\/b x lo hi H Q):=by
 intro a s Y H x v c d lo hi i Q I f j k g q;rcases q with q |q
 .exact h a s Y H x v c d lo hi i Q I f j k g q
 .exact l a s Y H x v c d lo hi i Q I f j k g q
def Kw(r:V->Option Int->Option Int->Hp->VK->Prop)(te:TE)(tl th:TO):TE:=fun Y H Q=>te Y H fun x a=>tl Y a fun l b=>th Y b fun u c=>r x l u c Q
theorem zn{lo:Option Expr}(k:jt X r)(m:PE X e te)(n:PO X lo tl)(o:PO X hi th):PE X (.Subscript e (.Slice lo hi none p2) pos) (Kw r te tl th):=by intro a s Y H Q I h;refine Subscript_ (aU (m a s Y H _ I h) fun v p d=>?_);obtain⟨x,t,I1,y,z⟩:=d;refine wpAny_Slice (aU (n a p Y t _ I1 z) fun g B ⟨l,C,D,pl,E⟩=>aU (o a B Y C _ D E) fun i c f=>?_);obtain⟨u,j,G,J,L⟩:=f;rw[evalPart_none];apply aJ;obtain⟨T,id,N,O,R⟩:=k a { c with heap:=c.heap.push { cls:=.type "slice",data:=.fields #[g,i,.none] } } Y j x v g i l u c.heap.objs.size Q (G.kept fun b S q=>aW _ q) y (Heap.IsSliceOf.new ..) pl J L;exact tail_any O N R (by with_unfolding_all rfl)
def ju(a:List V)(lo hi:Option Int):List V:=(a.drop (HT.sIx a.length 0 lo)).take (HT.sIx a.length a.length hi - HT.sIx a.length 0 lo)
theorem zo(a lo hi):(ju a lo hi).length<=a.length:=by unfold ju;rw[q1V,q2z];lia
def Kx(K:Frag):V->Option Int->Option Int->Hp->VK->Prop:=fun x lo hi H Q=>∃a b,x=.ref a/\eL K H a b/\
 ¬ (HT.sIx b.length 0 lo=0/\HT.sIx b.length b.length hi=b.length)/\∀p,H p=none->Q (.ref p) (aL H p (.tup (ju b lo hi)))
theorem Ky:jt X (Kx X.K):=by
 intro g s Y H x v u w lo hi y Q I k p t l h;obtain⟨a,d,rfl,m,n,q⟩:=h;cases k;obtain⟨f,r,i,j⟩:=I.tuple m;have c:f.toArray.size=d.length:=by rw[q0m];exact r.length.symm
 refine⟨"tuple",_,PyProof.Rows.slot_tuple_getitem.lookup,i.typeIs,HT.getItem_tuple_cut i p t l (by rw[c];exact n) ?_ (by rw[c];exact j)⟩;rw[c];refine⟨.ref s.heap.objs.size,_,I.laid (fun b z q=>aW _ q) (ba _) ?_,rfl,q _ (I.hok.fresh (ba _))⟩;exact⟨q0E (zo d lo hi) j,_,(r.drop (HT.sIx d.length 0 lo)).take (HT.sIx d.length d.length hi - HT.sIx d.length 0 lo),IsTup.new _ _⟩
noncomputable def cT(n:Nat)(i:Int):Option Nat:=if 0<=i then(if i<n then some i.toNat else none) else if -(n:Int)<=i then some (i+n).toNat else none
def bL{α:Type}(a:List α)(i:Int):Option α:=(cT a.length i).bind fun j=>a[j]?
theorem zp(h:cT n i=some j):seqIndex? i n=some j/\j<n/\-(n:Int)<=i/\i<n:=by
 unfold cT at h
 by_cases h0:0<=i
 .rw[if_pos h0]at h
  by_cases h1:i<n
  .rw[if_pos h1]at h;exact⟨by rw[seqIndex_of h0 h1,(q0r h)],by lia,by lia,h1⟩
  .rw[if_neg h1]at h;cases h
 .rw[if_neg h0]at h
  by_cases h1:-n<=i
  .rw[if_pos h1]at h;exact⟨by rw[seqIndex_neg (by lia) h1,(q0r h)],by lia,h1,by lia⟩
  .rw[if_neg h1]at h;cases h
theorem zq(h:bL a i=some v):∃j,seqIndex? i a.length=some j/\a[j]? = some v/\j<a.length/\-(a.length:Int)<=i/\i<a.length:=by
 unfold bL at h;cases e:cT a.length i with
 |none=>rw[e]at h;cases h
 |some j=>rw[e]at h;obtain⟨c,h2,h3,b⟩:=zp e;exact⟨j,c,h,h2,h3,b⟩
def nh(b:Expr):Prop:=∀o i,subscripted b false o i=operate [o,i] (getItem o i)
def jY(X:Cx)(r:R2):Prop:=
 ∀(value slice:Expr) (a:List (Addr×Obj)) (s:Shared) (Y:St) (H:Hp) (x y:V) (v u:Value) (Q:VK),Inv X a Y H s->bj x v->bj y u->r x y H Q->
  subscripted slice false v u=operate [v,u] (getItem v u)->wpAny (model X.prog X.w) X.A (subscriptTail value slice v u) (EP X a Y Q) X.xe s
def uW(X:Cx)(id:String)(r:V->List V->Hp->VK->Prop):Prop:=
 ∀(a:List (Addr×Obj)) (s:Shared) (Y:St) (H:Hp) (x:V) (b:List V) (v:Value) (c:List Value) (Q:VK),Inv X a Y H s->bj x v->bi b c->r x b H Q->
  wpAny (model X.prog X.w) X.A (call (.builtin id) (v::c)) (EP X a Y Q) X.xe s
theorem jY.or(h:jY X r)(i:jY X d):jY X (fun x y H Q=>r x y H Q\/d x y H Q):=by
 intro value slice c s Y H x y v u Q I e f q g;rcases q with q |q
 .exact h value slice c s Y H x y v u Q I e f q g
 .exact i value slice c s Y H x y v u Q I e f q g
theorem rm(d:jY X r)(e:PE X a ta)(l:PE X b tb)(m:nh b):PE X (.Subscript a b pos) (oM r ta tb):=by intro c s Y H Q I h;exact Subscript_ (uO e l I h fun v u f x y g i j k q=>d a b c f Y g x y v u Q i j k q (m _ _))
def uX(K:Frag):R2:=fun x y H Q=>∃p c i v,x=.ref p/\y=.int i/\cZ K H p c/\bL c i=some v/\Q v H
def uY(K:Frag):R2:=fun x y H Q=>∃p c i v,x=.ref p/\y=.int i/\eL K H p c/\bL c i=some v/\Q v H
theorem rn:jY X (uX X.K):=by
 intro value slice c s Y H x y v u Q I l m h k;obtain⟨p,E,i,z,rfl,rfl,n,o,q⟩:=h;cases l;obtain⟨t,rfl⟩:=m;obtain⟨d,r,pl,G⟩:=I.list n;obtain⟨j,h1,h2,h3,A,B⟩:=zq o;obtain⟨w,g,e⟩:=r.get h2;have C:=r.length;have J:=eY;have fin:EP X c Y Q w s:=⟨z,H,I,e,q⟩
 by_cases h0:0<=i
 .have f:=by rw[seqIndex_of h0 B]at h1;exact q0r h1
  exact item_listR pl.isList h0 (by lia) (by rw[f];simpa using g) fin k
 .have f:(i+d.toArray.size).toNat=j:=by rw[seqIndex_neg (by lia) A]at h1;rw[q0m,<-C];exact q0r h1
  exact subscriptTail_builtinR pl.isList.typeIs slot_list_getitem.lookup
   (wpAny_getItem_list_neg pl.isList (by lia) (by rw[q0m]<;>lia) (by lia) (by rw[f];simpa using g) ⟨rfl,fin⟩) k
theorem Kz:jY X (uY X.K):=by
 intro value slice c s Y H x y v u Q I e f h A;obtain⟨p,B,i,z,rfl,rfl,g,k,q⟩:=h;cases e;obtain⟨t,rfl⟩:=f;obtain⟨l,r,pl,C⟩:=I.tuple g;obtain⟨j,h1,h2,h3,D,E⟩:=zq k;obtain⟨w,m,d⟩:=r.get h2;have G:=eY;exact subscriptTail_builtinR pl.typeIs slot_tuple_getitem.lookup
  (getItem_tuple pl (by lia) (by lia) (by rw[q0m,<-r.length];exact h1) (by simpa using m) ⟨rfl,(⟨z,H,I,d,q⟩)⟩) A
theorem KA(c:List Value)(n j u):Obj.mapSeq (·.setIfInBounds j u) { cls:=.type "list",data:=.seq c.toArray n } = { cls:=.type "list",data:=.seq (c.set j u).toArray n }:=by simp[Obj.mapSeq]
theorem Inv.lst{Y:St}(I:Inv X d Y H s)(h:H p=some (.lst f)) :
  ∃(c:List Value) (n:Nat),bi f c/\s.heap.get? p=some { cls:=.type "list",data:=.seq c.toArray n }/\f.length<=sizeLine:=by
 obtain⟨z,c,n,r,e⟩:=I.hok p _ h;exact⟨c,n,r,e,z⟩
theorem Inv.lstUpd{Y:St}{g :List Value}(I:Inv X d Y H s)(h:H p=some (.lst l))
  (o:s.heap.get? p=some { cls:=.type "list",data:=.seq g.toArray n }) (k:f { cls:=.type "list",data:=.seq g.toArray n } = { cls:=.type "list",data:=.seq c.toArray j }) (r:bi i c) (m:i.length<=sizeLine) (t) :
  Inv X d Y (aL H p (.lst i)) { s with heap:=s.heap.update p f,toks:=t }:=by
 have e:(s.heap.update p f).get? p=some { cls:=.type "list",data:=.seq c.toArray j }:=by rw[Heap.get?_update_self f o (by rw[k]<;>rfl),k]
 exact I.write (by rw[h];trivial) (.inl rfl) (fun b u v q=>(Heap.get?_update_other _ _ v.symm).trans q) ⟨_,e⟩ (⟨m,c,j,r,e⟩)
def KB:V->V->V->Hp->(Hp->Prop)->Prop:=fun o i v H Q=>∃p c k j,o=.ref p/\i=.int k/\H p=some (.lst c)/\cT c.length k=some j/\Q (aL H p (.lst (c.set j v)))
theorem zr:yH X KB:=by
 intro c s Y H o i v D E u Q I x y z h;obtain⟨p,A,k,j,rfl,rfl,l,B,q⟩:=h;cases x;obtain⟨t,rfl⟩:=y;obtain⟨d,n,r,ho,C⟩:=I.lst l;obtain⟨e,h2,h3,m⟩:=zp B;have f:=r.length;have G:=eY;have w:=
  I.lstUpd l ho (KA d n j u) (r.set z j) (by rw[q0A];exact C) s.toks
 by_cases h0:0<=k
 .have g:=by rw[seqIndex_of h0 m]at e;exact q0r e
  exact PySem.W.ki_setAt ho h0 (by lia) (by rw[q0m,<-f];exact m) (by rw[g];exact⟨_,w,q⟩)
 .have g:(k+d.toArray.size).toNat=j:=by rw[seqIndex_neg (by lia) h3]at e;rw[q0m,<-f];exact q0r e
  exact PySem.W.ki_setBack ho (by lia) (by rw[q0m,<-f];exact h3) (by lia) (by rw[g];exact⟨_,w,q⟩)
theorem KC(lo c n):(sliceBounds lo c none n).1=((HT.sIx n 0 lo:Nat):Int)/\(sliceBounds lo c none n).2.1=((HT.sIx n n c:Nat):Int)/\(sliceBounds lo c none n).2.2=1:=by
 refine⟨?_,?_,rfl⟩
 .cases lo with
  |none=>simp[sliceBounds,HT.sIx]
  |some i=>
   simp only[sliceBounds,HT.sIx,Option.getD_none,if_true]
   by_cases h:i<0
   .simp only[h]<;>lia
   .simp only[h]<;>lia
 .cases c with
  |none=>simp[sliceBounds,HT.sIx]
  |some i=>
   simp only[sliceBounds,HT.sIx,Option.getD_none,if_true]
   by_cases h:i<0
   .simp only[h]<;>lia
   .simp only[h]<;>lia
theorem KD(c:List Value)(lo d):slicePick c.toArray lo d none=((c.drop (HT.sIx c.length 0 lo)).take (HT.sIx c.length c.length d - HT.sIx c.length 0 lo)).toArray:=by obtain⟨e,h2,h3⟩:=KC lo d c.toArray.size;unfold slicePick;rw[e,h2,h3];simp only[sliceRange_one,pick_run]<;>rfl
def KE(K:Frag):V->Option Int->Option Int->Hp->VK->Prop:=fun x lo d H Q=>∃a c,x=.ref a/\cZ K H a c/\∀p,H p=none->Q (.ref p) (aL H p (.lst (ju c lo d)))
theorem zt:jt X (KE X.K):=by intro f s Y H x v t u lo e w Q I i n p j h;obtain⟨a,c,rfl,k,q⟩:=h;cases i;obtain⟨l,r,g,m⟩:=I.list k;have d:=r.length;refine⟨"list",_,slot_list_getitem.lookup,g.isList.typeIs,wpAny_getItem_list_slice g.isList n p j .none (by simp) ?_ (by rw[q0m]<;>lia)⟩;rw[KD,<-d];refine⟨.ref s.heap.objs.size,_,I.laid (fun b y q=>aW _ q) (ba _) ?_,rfl,q _ (I.hok.fresh (ba _))⟩;exact⟨q0E (zo c lo e) m,_,0,(r.drop (HT.sIx c.length 0 lo)).take (HT.sIx c.length c.length e - HT.sIx c.length 0 lo),Heap.get?_push_size _ rfl⟩
noncomputable def jZ:V->Bool
 |.non=>true
 |.bl _=>true
 |.int _=>true
 |.str _=>true
 |_=>false
noncomputable def kR:V->V->Bool
 |.non,.non=>true
 |.bl a,.bl b=>a==b
 |.bl a,.int b=>(if a then 1 else 0)==b
 |.int a,.bl b=>a==(if b then 1 else 0)
 |.int a,.int b=>a==b
 |.str a,.str b=>a==b
 |_,_=>false
theorem KF(d:bj y u)(c:bj x v)(f:jZ y=true)(e:jZ x=true):SeqAt.EqAt A s u v (kR y x):=by
 cases y with
 |non=>
  cases d;cases x with
  |non=>cases c;exact SeqAt.EqAt.same _
  |bl b=>cases c;exact SeqAt.EqAt.none_bool b
  |int b=>obtain⟨t,rfl⟩:=c;exact SeqAt.EqAt.none_int b t
  |str b=>obtain⟨t,rfl⟩:=c;exact SeqAt.EqAt.none_str b t
  |_=>exact absurd (e) q0x
 |bl a=>
  cases d;cases x with
  |non=>cases c;exact SeqAt.EqAt.bool_none a
  |bl b=>cases c;exact SeqAt.EqAt.bool_bool a b
  |int b=>obtain⟨t,rfl⟩:=c;exact SeqAt.EqAt.bool_int a b t
  |str b=>obtain⟨t,rfl⟩:=c;exact SeqAt.EqAt.bool_str a b t
  |_=>exact absurd (e) q0x
 |int a=>
  obtain⟨t',rfl⟩:=d;cases x with
  |non=>cases c;exact SeqAt.EqAt.int_none a t'
  |bl b=>cases c;exact SeqAt.EqAt.int_bool a t' b
  |int b=>obtain⟨t,rfl⟩:=c;exact SeqAt.EqAt.int_int a t' b t
  |str b=>obtain⟨t,rfl⟩:=c;exact SeqAt.EqAt.int_str a t' b t
  |_=>exact absurd (e) q0x
 |str a=>
  obtain⟨t',rfl⟩:=d;cases x with
  |non=>cases c;exact SeqAt.EqAt.str_none a t'
  |bl b=>cases c;exact SeqAt.EqAt.str_bool a t' b
  |int b=>obtain⟨t,rfl⟩:=c;exact SeqAt.EqAt.str_int a t' b t
  |str b=>obtain⟨t,rfl⟩:=c;exact SeqAt.EqAt.str_str a t' b t
  |_=>exact absurd (e) q0x
 |_=>exact absurd (f) q0x
theorem iU:ie X (.builtin "len") (fun i H Q=>∃p d,i=[.ref p]/\(cZ X.K H p d\/eL X.K H p d)/\Q (.int d.length) H):=by
 intro j s Y H i m Q I r h;obtain⟨p,d,rfl,e,q⟩:=h;obtain⟨u,rfl,k⟩:=vals1 r;cases k;have n:=eY;rcases e with e |e
 .obtain⟨f,g,pl,l⟩:=I.list e;have c:=g.length;exact Calls.call_len_list pl.isList (by simp only[q0m]<;>lia) ⟨.int d.length,H,I.tok _,⟨s.toks+1,by rw[q0m,c]⟩,q⟩
 .obtain⟨f,g,pl,l⟩:=I.tuple e;have c:=g.length;exact len_tuple pl (by simp only[q0m]<;>lia) ⟨.int d.length,H,I.tok _,⟨s.toks+1,by rw[q0m,c]⟩,q⟩
theorem zu:ie X (.type "list") (fun y H Q=>∃p f,y=[.ref p]/\(cZ X.K H p f\/eL X.K H p f)/\∀l,H l=none->Q (.ref l) (aL H l (.lst f))):=by
 intro j s Y H y B Q I r h;obtain⟨p,f,rfl,k,q⟩:=h;obtain⟨u,rfl,A⟩:=vals1 r;cases A;have fin:∀(c:List Value),bi f c->f.length<=sizeLine->∀(d:Heap) (g:Nat),(∀b z,s.heap.get? b=some z->d.get? b=some z)->
   d.get? s.heap.objs.size=some { cls:=.type "list",dict:=none,data:=.seq c.toArray g,slots:=#[] }->EP X j Y Q (.ref s.heap.objs.size) { s with heap:=d }:=fun c i m d g v e=>
  ⟨.ref s.heap.objs.size,_,I.laid v (ba _) (show cI X.prog X.w _ d _ (.lst f) from⟨m,c,g,i,e⟩),rfl,q _ (I.hok.fresh (ba _))⟩
 rcases k with k |k
 .obtain⟨c,i,pl,m⟩:=I.list k;have t:=i.length;obtain⟨o,ho,x,n,hd⟩:=pl.isList;exact call_list_seq p (.inl rfl) ho x hd (fun d g v e=>fin c i m d g v e) (by simp only[q0m]<;>lia)
 .obtain⟨c,i,pl,m⟩:=I.tuple k;have t:=i.length;obtain⟨o,ho,x,n,hd⟩:=pl;exact call_list_seq p (.inr rfl) ho x hd (fun d g v e=>fin c i m d g v e) (by simp only[q0m]<;>lia)
theorem zv:ie X (.type "tuple") (fun k H Q=>∃p f,k=[.ref p]/\((cZ X.K H p f/\∀l,H l=none->Q (.ref l) (aL H l (.tup f)))\/(eL X.K H p f/\Q (.ref p) H))):=by
 intro c s Y H k y Q I r h;obtain⟨p,f,rfl,h⟩:=h;obtain⟨u,rfl,t⟩:=vals1 r;cases t;rcases h with⟨i,q⟩ |⟨i,q⟩
 .obtain⟨d,j,pl,m⟩:=I.list i;have n:=j.length;refine call_tuple_list pl.isList (fun g x=>?_) (by simp only[q0m]<;>lia);have I1:=I.kept (t':=s.toks) x;exact⟨.ref g.objs.size,_,(I1.laid (fun b o e=>aW _ e) (ba _) (show cI X.prog X.w _ _ _ (.tup f) from⟨m,d,j,IsTup.new _ _⟩)),rfl,q _ (I1.hok.fresh (ba _))⟩
 .obtain⟨d,j,pl,m⟩:=I.tuple i;exact call_tuple_same pl ⟨.ref p,H,I,rfl,q⟩
def zw(K:Frag)(T:String)(x:V)(H:Hp):Prop:=match x with
 |.str _=>T="str"
 |.int _=>T="int"
 |.ref p=>(T="list"/\∃d,cZ K H p d)\/(T="tuple"/\∃o,K.lookup p=some o/\o.cls=.type "tuple"/\o.dict=none)\/
   (T="dict"/\((∃c,H p=some (.dK c))\/∃c,H p=some (.dT c)))\/(T="set"/\∃S n,H p=some (.set S n))
 |_=>False
theorem KG{Y:St}(I:Inv X f Y H s)(r:bj x v)(g:zw X.K T x H) :
  s.TypeIs v T/\∀a,v=.ref a->∃k,s.heap.get? a=some k/\k.dict=none:=by
 cases x with
 |str z=>obtain⟨t,rfl⟩:=r;cases(g);exact⟨typeIs_str s z t,fun _ e=>nomatch e⟩
 |int i=>obtain⟨t,rfl⟩:=r;cases(g);exact⟨typeIs_int s i t,fun _ e=>nomatch e⟩
 |ref p=>
  cases r;rcases g with⟨rfl,u,l⟩ |⟨rfl,o,d,m,hd⟩ |⟨rfl,d⟩ |⟨rfl,S,n,d⟩
  .obtain⟨q,_,pl,_⟩:=I.list l;refine⟨pl.isList.typeIs,fun a e=>?_⟩;cases e;obtain⟨o,n,e,c,hd,_⟩:=pl;exact⟨o,e,hd⟩
  .refine⟨⟨o,I.kIn p o d,m⟩,fun a e=>?_⟩;cases e;exact⟨o,I.kIn _ o d,hd⟩
  .have z:∃o,s.heap.get? p=some o/\o.ExactDict:=by
    rcases d with⟨h,d⟩ |⟨h,d⟩
    .obtain⟨_,_,_,_,o,_,_,e,ex,_⟩:=I.hok p _ d;exact⟨o,e,ex⟩
    .obtain⟨_,_,_,_,o,_,_,e,ex,_⟩:=I.hok p _ d;exact⟨o,e,ex⟩
   obtain⟨o,e,ex⟩:=z;refine⟨⟨o,e,ex.1⟩,fun a j=>?_⟩;cases j;exact⟨o,e,ex.2.1⟩
  .obtain⟨o,_,_,_,e,ex,_⟩:=I.hok p _ d;refine⟨⟨o,e,ex.1⟩,fun a j=>?_⟩;cases j;exact⟨o,e,ex.2.1⟩
 |_=>exact False.elim g
def KH(K:Frag)(T:String)(r:V->List V->Hp->VK->Prop)(f:TE)(t:TA):TE:=fun Y H Q=>f Y H fun x c=>zw K T x c/\t Y c fun d e=>r x d e Q
theorem uZ{apos:Pos}{cpos:Pos}{id:String}(pa:PlainAttrs T)(slot:Slot T name id)(l:typeOf (.builtin id)=pure (.type "method_descriptor"))(p:uW X id r)(J:PE X o to)(q:PA X (e::es) t)
  (f:autoParam (attributeBase o name X.env (eval o X.env)=eval o X.env) Zq._auto_1)
  (i:autoParam (((backTo cpos (starEach (e::es) X.env)).all (fun x=>!x.1)&&(backToKw cpos (keywordEach [] X.env)).all (fun x=>x.1.isSome)
   && decide ((e::es).length+([]:List Keyword).length+(if ([]:List Keyword).isEmpty then 0 else 1)<30))=true) Zq._auto_1)
  (g:autoParam ((apos.endLine==cpos.line)=true) Zq._auto_1) (L:autoParam (starEach (e::es) X.env=(false,eval e X.env)::starEach es X.env) Zq._auto_1) (d:autoParam ((backTo cpos (starEach es X.env)).any (·.1)=false) Zq._auto_1) :
  PE X (.Call (.Attribute o name apos) (e::es) [] cpos) (KH X.K T r to t):=by
 intro c s Y H Q I h;refine wpAny_Call_method_late f i g rfl (aU (J c s Y H _ I h) fun v u j=>?_);obtain⟨x,w,I1,m,ty,y⟩:=j;obtain⟨M,h2⟩:=KG I1 m ty;refine⟨T,id,pa,slot,l,M,h2,?_⟩;have n:=q cpos c u Y w _ I1 y;rw[L]at n ⊢;exact Calls.callWith_builtin (by show(false||(backTo cpos (starEach es X.env)).any (·.1))=false;rw[d]<;>rfl) (Calls.evalArgs_plain (aU n fun z A k=>by obtain⟨B,C,D,E,G⟩:=k;exact p c A Y C x B v z Q D m E G))
def KJ(X:Cx)(id:String)(r:V->List V->Hp->VK->Prop):Prop:=
 ∀(a:List (Addr×Obj)) (s:Shared) (Y:St) (H:Hp) (x:V) (b:List V) (v:Value) (c:List Value) (Q:VK),Inv X a Y H s->bj x v->bi b c->r x b H Q->
  wpAny (model X.prog X.w) X.A (call (.builtin id) (v::c)) (EP X a Y Q) X.xe s
theorem bi.one:∀{x a},bi [x] a->∃u,a=[u]/\bj x u:=by
 intro x a h;cases h with
 |cons r t=>cases t;exact⟨_,rfl,r⟩
theorem bi.rep(h:bi a b):∀k,bi (List.replicate k a).flatten (List.replicate k b).flatten
 |0=>.nil
 |k+1=>by rw[q0D,q0D,q0g,q0g];exact bi.append h (bi.rep h k)
theorem zx(a):∀k (b:List Value),
  List.foldl (fun c d=>c++d) b.toArray (List.replicate k a.toArray)=(b++(List.replicate k a).flatten).toArray
 |0,b=>by simp
 |k+1,b=>by
  have e:b.toArray++a.toArray=(b++a).toArray:=by simp
  have f:(b++a)++(List.replicate k a).flatten=b++(List.replicate (k+1) a).flatten:=by rw[q0D,q0g,q0k]
  rw[<-f,<-zx a k (b++a),<-e,q0D,q1H]
theorem Inv.lset{Y:St}{a :List Value}(I:Inv X pins Y H s)(c:H l=some (.lst xs))
  (e:s.heap.get? l=some { cls:=.type "list",data:=.seq a.toArray n }) (d:f a.toArray=its'.toArray) (g:bi ys its') (h:ys.length<=sizeLine) :
  Inv X pins Y (aL H l (.lst ys)) { s with heap:=s.heap.update l (Obj.mapSeq f),toks:=t' }:=by
 have q:=PySem.IsL.update e f;rw[d]at q;exact I.write (by rw[c];exact trivial) (.inl rfl) (fun k u j i=>(Heap.get?_update_other s.heap (Obj.mapSeq f) j.symm).trans i) ⟨_,q⟩ (⟨h,its',_,g,q⟩)
theorem Inv.lnew{Y:St}(I:Inv X pins Y H s)(c:bi ys a)(d:ys.length<=sizeLine) :
  Inv X pins Y (aL H s.heap.objs.size (.lst ys)) { s with heap:=s.heap.push { cls:=.type "list",data:=.seq a.toArray },toks:=t' }:=
 I.laid (fun _ _ q=>aW _ q) (ba _) ⟨d,a,0,c,Heap.get?_push_size _ rfl⟩
theorem Inv.fresh{Y:St}(I:Inv X pins Y H s):H s.heap.objs.size=none:=I.hok.fresh (ba _)
theorem Inv.lstM{Y:St}(I:Inv X pins Y H s)(c:H l=some (.lst xs)):xs.length<=sizeLine/\∃(a:List Value) (n:Nat),bi xs a/\xs.length=a.length/\s.heap.get? l=some { cls:=.type "list",data:=.seq a.toArray n }:=by obtain⟨z,a,n,r,e⟩:=I.hok l _ c;exact⟨z,a,n,r,r.length,e⟩
theorem KL(h:n<=sizeLine):Builtin.List.listTooLong n=false:=decide_eq_false (by lia)
def KM:V->List V->Hp->VK->Prop:=fun x b H Q=>∃l a y,x=.ref l/\b=[y]/\H l=some (.lst a)/\a.length<sizeLine/\Q .non (aL H l (.lst (a++[y])))
theorem zy:KJ X "list.append" KM:=by intro b s Y H x g v i Q I d f h;obtain⟨l,j,y,rfl,rfl,c,k,q⟩:=h;cases d;obtain⟨u,rfl,ru⟩:=f.one;obtain⟨z,a,n,r,m,e⟩:=I.lstM c;refine call_meets F.slot_list_append ⟨_,e,rfl⟩ F.entry_list_append (F.args_list_append_2 _ _) (PySem.list_append l a.toArray n u (by rw[q0m];lia)) ⟨e,⟨.non,_,I.lset c e (by simp) (r.append (.cons ru .nil)) ?_,rfl,q⟩⟩;rw[q0q,q2I];lia
def zG:R2:=fun x y H Q=>∃l b a c,x=.ref l/\y=.ref b/\H l=some (.lst a)/\H b=some (.lst c)/\a.length+c.length<=sizeLine/\∀p,H p=none->Q (.ref p) (aL H p (.lst (a++c)))
theorem KN:dk X (binaryOp .Add) zG:=by
 intro d s Y H x y v u Q I f g h;obtain⟨l,b,p,t,rfl,rfl,i,hB,w,q⟩:=h;cases f;cases g;obtain⟨z,c,n,r,A,e⟩:=I.lstM i;obtain⟨B,a,C,j,k,m⟩:=I.lstM hB;refine PySem.P.add_list e m ?_ (by rw[q0m,q0m];lia);have o:c.toArray++a.toArray=(c++a).toArray:=by simp
 rw[o];exact⟨.ref _,_,I.lnew (r.append j) (by rw[q0q];lia),rfl,q _ I.fresh⟩
def zH:R2:=fun x y H Q=>∃l k a,x=.ref l/\y=.int k/\H l=some (.lst a)/\-(2 ^ 63)<=k/\k<2 ^ 63/\a.length * k.toNat<=sizeLine/\
 ∀p,H p=none->Q (.ref p) (aL H p (.lst (List.replicate k.toNat a).flatten))
theorem KO{α:Type}(a:List α)(k):(List.replicate k a).flatten.length=k * a.length:=by
 induction k with
 |zero=>simp
 |succ k b=>rw[q0D,q0g,q0q,b,Nat.succ_mul,Nat.add_comm]
theorem zI:dk X (binaryOp .Mult) zH:=by
 intro p s Y H x y v u Q I A B h;obtain⟨l,k,J,rfl,rfl,C,h1,h2,w,q⟩:=h;cases A;obtain⟨t,rfl⟩:=B;obtain⟨z,b,n,r,D,e⟩:=I.lstM C;have d:b.toArray.size * k.toNat<=sizeLine:=by rw[q0m,<-D];exact w
 have f:¬ b.toArray.size * k.toNat>(2 ^ 63 - 1) / 8:=by
  have:sizeLine<=(2 ^ 63 - 1) / 8:=by decide
  lia
 have i:List.foldl (fun j o=>j++o) #[] (List.replicate (if b.toArray.isEmpty=true then 0 else k.toNat) b.toArray)=(List.replicate k.toNat b).flatten.toArray:=by
  have E:=fun m=>by have:=zx b m [];rw[q0w]at this;exact this
  rw[E];cases b with
  |nil=>simp
  |cons a L=>rw[if_neg (by simp)]
 refine wpAny_binaryOp_repeat_ref (by decide) ⟨_,e,rfl⟩ (fun G=>typeIs_int G k t) noFill_list_mul F.fills_int_mul F.slot_int_rmul repeat_list F.slot_int_index.lookup
  (call_meets F.slot_int_rmul (typeIs_int s k t) F.entry_int_rmul (F.args_int_rmul_2 _ _) (int___rmul___int_list k t l b.toArray n)
   ⟨e,rfl,⟨_,e,rfl⟩,call_meets F.slot_list_mul ⟨_,e,rfl⟩ F.entry_list_mul (F.args_list_mul_2 _ _) (AutoListH.list___mul___list_int_3 l b.toArray n k t (by rw[fitsIndex_both h1 h2];exact q0x) f (by rw[KL d];exact q0x)) ⟨e,?_⟩⟩)
 rw[i];exact⟨.ref _,_,I.lnew (r.rep k.toNat) (by rw[KO,Nat.mul_comm];exact w),rfl,q _ I.fresh⟩
end L2
namespace Att
open PySem PySem.W PySem.Calls PyProof.Rows
theorem KP:∀c  d,WellAll P h d (c.map WData.int)->IntsAre d c:=by
 intro c
 induction c with
 |nil=>intro d w;rw[q2l]at w;cases w;exact .nil
 |cons n c e=>
  intro d w;rw[q0l]at w;cases w with
  |cons a b=>cases a;exact .cons _ _ (e _ b)
theorem KQ{l:OpenLaw}(s:l.most=some n)
  (e:l.row.toRowW.claim.pre args=true) (k:WellAll P h c args) :
  ∃a o b,c=[Value.ref a]/\args=[WData.list (b.map WData.int)]/\h.get? a=some { cls:=.type "list",data:=.seq o.toArray }/\IntsAre o b/\b.length<=n:=by
 obtain⟨d,r,rfl,h1,h2⟩:=hasAllW_cons ((pre_splitW e).1);obtain rfl:=hasAllW_nil h2;obtain⟨u,rfl,h3⟩:=hasW_list h1;obtain⟨b,rfl⟩:=items_int h3;have f:b.length<=n:=by
  have j:=condW_of (by have i:=(holds_andW ((pre_splitW e).2)).1;rw[s]at i;exact i) (w_not (w_lt w_lit (w_len_list (w_arg rfl))));rw[q0h]at j;refine q1k fun q=>?_;first
   |(rw[decide_eq_true t]at j;exact absurd j (by decide))
   |(lia)
 cases k with
 |cons w1 w2=>
  cases w2;cases w1 with
  |list ho g=>exact⟨_,_,b,rfl,rfl,ho,KP b _ g,f⟩
theorem KR(l:OpenLaw)(args):l.row.toRowW.claim.post args (.bool true) args=true:=
 postW_of
  (by first |rfl |decide |simp)
  (w_eq_bool (w_res rfl) w_lit) rfl
theorem attach_call{l:OpenLaw}
  (I:l.most=some n) (u:d.params.defaults=[])
  (call:∀w  A c  mg v  i  o  pm p e  a  h  t,
   Ground q b [] B w A mg v c.heap->C w c.heap->
   c.heap.get? i=some o->o.data=.func (docDef d.name d.params d.body d.scope pm p e)->c.heap.CodeRec p d.name->mg d.name=some (.ref i)->
   c.heap.get? a=some { cls:=.type "list",data:=.seq h.toArray }->IntsAre h t->t.length<=n->c.gens = #[]->
   codeAny (model l.prog w) callerA (.call (.ref i) ⟨[.ref a],[]⟩) (fun r s=>r=.ok (.ret (.bool true))/\OldK c.heap s.heap/\s.os=c.os/\AllBare s.gens) c) :
  WalkO q b B C l.row.toRowW d [] (fun f h=>PySem.call f h):=by
 intro w A c mg v G J i o pm p e dV kV U hd x D y L args E as j H M z N;obtain rfl:dV=.none:=Dflts.none D u;obtain rfl:kV=.none:=Dflts.noKw D;obtain⟨a,h,t,rfl,rfl,k,g,m⟩:=KQ I j z;refine enter_call (codeAny_mono (call w A c mg v i o pm p e a h t G J U (fd_plain hd) x y k g m L) fun r s O=>?_);obtain⟨rfl,h2,h3,Q⟩:=O;exact⟨.inl ⟨.bool true,.bool true,[],rfl,fun _=>rfl,.bool true,KR l _,fun _=>⟨List.Pairwise.nil,fun _ T=>(nomatch T)⟩⟩,h2,h3,Q⟩
end Att
namespace L2
open PySem PySem.Spec PyProof.Rows
theorem KS:∀{a b},IntsAre a b->bi (b.map V.int) a:=by
 intro a b h
 induction h with
 |nil=>exact .nil
 |cons n t _ c=>exact .cons ⟨t,rfl⟩ c
def va(H:Hp):Prop:=∀b,H b=none\/∃o a,H b=some (.frz o (.lst a))
theorem KU{K}
  (Y:K.In c.heap) (t:c.heap.Ns mainGlobals mg) (g:c.heap.Ns builtinsNs M) (O:∀x:Str,x≠"__name__"->M x=bootBuiltins x) (y:c.heap.NoLimit) (hg:c.gens = #[])
  (L:c.heap.get? a=some { cls:=.type "list",data:=.seq l.toArray }) (Z:IntsAre l I) (hl:I.length<=sizeLine) (hr:br k callerA)
  (F:∀base,K.In base->base.Ns mainGlobals mg->bX P w K mg base U k N fd [x] X) (p:∀s  u,BindsTo s fd ⟨[u],[]⟩ [(x,u)])
  (hsp:∀H,va H->cZ K H a (I.map V.int)->X [.ref a] H (fun v _=>v=.bl true) fun _ _ _=>False)
  (Q:∀H e i,U [] H c (fun _ _ _=>False) e i->False) :
  codeAny (model P w) callerA (.call (.ref N) ⟨[.ref a],[]⟩) (fun r i=>r=.ok (.ret (.bool true))/\OldK c.heap i.heap/\i.os=c.os/\AllBare i.gens) c:=by
 have rv:=KS Z;have A:=Z.length;have core:∀H:Hp,va H->cZ K H a (I.map V.int)->bJ P w H c.heap->(∀b,H b≠none->b=a)->(H a≠none->K.lookup a=none)->
   codeAny (model P w) callerA (.call (.ref N) ⟨[.ref a],[]⟩) (fun r i=>r=.ok (.ret (.bool true))/\OldK c.heap i.heap/\i.os=c.os/\AllBare i.gens) c:=by
  intro H hO hS J hA hK;have f:∀{b:Addr}{o:Obj},c.heap.get? b=some o->H b=none->(jU c.heap H).get? b=some o:=fun e n=>Im e n;have R:∀{b:Addr}{o:Obj}{B:Array DictEntry}{C:Nat},c.heap.get? b=some o->o.data=.dict B C->H b=none:=fun {b o B C} e d=>by
   cases q:H b with
   |none=>rfl
   |some u=>have S:b=a:=hA b (by rw[q];simp);subst S;rw[L]at e;cases e;have d':=d;cases d'
  have j:∀{b:Addr}{m:Str->Option Value},c.heap.Ns b m->(jU c.heap H).Ns b m:=fun {b m} D=>by obtain⟨o,B,C,e,d,r⟩:=D;exact⟨o,B,C,f e (R e d),d,r⟩
  have E:K.In (jU c.heap H):=fun b o e=>f (Y b o e) (by
   cases q:H b with
   |none=>rfl
   |some u=>
    have S:b=a:=hA b (by rw[q];simp);subst S;rw[hK (by rw[q];simp)]at e;cases e)
  have hM:Mod K mg (jU c.heap H):=⟨E,j t,⟨M,j g,O⟩,let⟨mc,h1,h2⟩:=y;⟨mc,j h1,h2⟩⟩
  have e0:gq P w K mg (jU c.heap H) callerA [] c H:=⟨rfl,hM,fun b o e=>Io e,q2R (Il _ _),trivial,fun b g=>absurd (show b∈([]:List Addr) from g) (by simp),J,.of_eq hg⟩
  refine codeAny_mono ((F _ E (j t)).run callerA [] c H ⟨[.ref a],[]⟩ [.ref a] [.ref a] _ _ hr e0 (p c (.ref a)) (.cons rfl .nil) (hsp H hO hS)) fun r i h=>?_;cases r with
  |error e=>exact(Q H e i h).elim
  |ok fl=>
   cases fl with
   |next=>exact False.elim h
   |brk=>exact False.elim h
   |cont=>exact False.elim h
   |ret u=>
    obtain⟨v,H',os,bare,un,G,r',q⟩:=h;have q':v=.bl true:=q;subst q';obtain rfl:u=Value.bool true:=r';refine⟨rfl,OldK.of_keep fun b o e=>?_,os,bare⟩;cases q:H b with
    |none=>exact un.keep b o e q (by intro z;exact absurd (show b∈([]:List Addr) from z) (by simp)) (by simp)
    |some u=>
     rcases hO b with z |⟨ob,xs,z⟩
     .rw[q]at z;cases z
     .have z2:=un.frzs b ob _ z;obtain⟨e1,_⟩:=J b _ z;obtain⟨e2,_⟩:=G b _ z2;rw[e]at e1;cases e1;exact e2
 cases T:K.lookup a with
 |some o=>have e:=Y a o T;rw[L]at e;cases e;refine core (fun _=>none) (fun _=>.inl rfl) (.inr ⟨_,l.toArray,_,T,rfl,rfl,rfl,by rw[q0m,A];exact hl,by simpa using rv⟩) (fun b u z=>by have z':(none:Option HO)=some u:=z;cases z') (fun b z=>absurd rfl z) fun z=>absurd rfl z
 |none=>
  refine core (fun b=>if b=a then some (.frz { cls:=.type "list",data:=.seq l.toArray } (.lst (I.map V.int))) else none) (fun b=>?_) (.inl (.inr ⟨{ cls:=.type "list",data:=.seq l.toArray },if_pos rfl⟩)) (fun b u z=>?_) (fun b z=>?_) fun _=>T
  .by_cases g:b=a
   .exact .inr ⟨_,_,if_pos g⟩
   .exact .inl (if_neg g)
  .by_cases g:b=a
   .have z':=(if_pos g).symm.trans z;cases z';subst g;exact⟨L,by rw[q0h];exact hl,l,_,rv,L⟩
   .have z':=(if_neg g).symm.trans z;cases z'
  .by_cases g:b=a
   .exact g
   .exact absurd (if_neg g) z
theorem walk_of{l:PySem.W.OpenLaw}{K:Params->Frag}{CX:World->iS}{sp:World->Sp}
  (J:l.most=some n) (t:n<=sizeLine) (y:d.params.defaults=[]) (L:br k callerA)
  (M:∀w  h,C w h->(K w.params).In h)
  (F:∀w  mg  p  h,(K w.params).In h->h.Ns mainGlobals mg->mg d.name=some (.ref p)->
   ∃fd,(∀s  u,BindsTo s fd ⟨[u],[]⟩ [(x,u)])/\
    ∀base,(K w.params).In base->base.Ns mainGlobals mg->bX l.prog w (K w.params) mg base (CX w) k p fd [x] (sp w))
  (hsp:∀w  H  a (r:List Int),r.length<=n->va H->cZ (K w.params) H a (r.map V.int)->sp w [.ref a] H (fun v _=>v=.bl true) fun _ _ _=>False)
  (z:∀w  H  s  e  A,CX w [] H s (fun _ _ _=>False) e A->False) :
  PySem.W.WalkO q i I C l.row.toRowW d [] (fun f D=>PySem.call f D):=by
 refine Att.attach_call J y fun w s₀ N mg Z p o pm cd O a D r G Q ho hd R B m j c S=>?_;have E:=M w _ Q;obtain⟨fd,hb,U⟩:=F w mg p _ E G.T.g B;exact KU E G.T.g G.T.b G.T.builtins G.T.nolimit S m j (q0E c t) L U hb (fun H X Y=>hsp w H a r c X Y) fun H e A=>z w H N e A
noncomputable def gr(s:Stmt)(j:Nat):Stmt:=match s with
 |.ClassDef _ _ _ body _ _ _ _ _ _ _=>body.getD j (.Pass ⟨0,0,0,0⟩)
 |_=>.Pass ⟨0,0,0,0⟩
noncomputable def ka(s:Stmt):Arguments:=match s with
 |.FunctionDef _ a _ _ _ _ _ _ _ _=>a
 |_=>{ posonlyargs:=[],args:=[],vararg:=none,kwonlyargs:=[],kw_defaults:=[],kwarg:=none,defaults:=[] }
noncomputable def iD(s:Stmt):List Stmt:=match s with
 |.FunctionDef _ _ b _ _ _ _ _ _ _=>b
 |_=>[]
noncomputable def ek(s:Stmt):Scope:=match s with
 |.FunctionDef _ _ _ _ _ _ a _ _ _=>a
 |_=>{ kind:=.function,names:=[],isGenerator:=false,isCoroutine:=false }
structure ni (K:Frag) (x qual:Str) (st:Stmt) (f:Addr) (fd:FuncData):Prop where
 ex:∃(oc:Value) (od:Option Addr) (kV doc pm:Value) (an:Option Addr) (cdv ct:Value) (osl:Array (Option Value)),
  fd=fnOf x qual (ka st) (iD st) (ek st) .none kV doc pm an cdv ct/\K.lookup f=some ⟨oc,od,.func fd,osl⟩/\codeIn K cdv qual=true
 kp:keepIn K (.ref f)=true
theorem ni.binds{K:Frag}{st}(F:ni K x a st f fd)
  (h:∀kV b pm  e  c i  g,g.length=d.length->bindArgs (fnOf x a (ka st) (iD st) (ek st) .none kV b pm e c i) ⟨g,[]⟩=pure (d.zip g)):iB K fd d []:=by
 obtain⟨l,m,kV,b,pm,e,c,i,j,rfl,lk,k⟩:=F.ex;exact .all (h kV b pm e c i)
theorem oP{K:Frag}{st}{kV }(l:K.lookup f=some ⟨i,j,.func (fnOf x a (ka st) (iD st) (ek st) .none kV d pm g b h),e⟩)
  (c:codeIn K b a=true) (k:keepIn K (.ref f)=true):ni K x a st f (fnOf x a (ka st) (iD st) (ek st) .none kV d pm g b h):=⟨⟨i,j,kV,d,pm,g,b,h,e,rfl,l,c⟩,k⟩
theorem zJ(a:br k A):A.units+1<cLine:=q2m (Nat.add_le_add_left (by decide) _) a.units
section
variable{X:Cx}
theorem pv(i){pos}(b:autoParam (X.N[i]? = some x) Zq._auto_1)(c:qY X.env.scope x:=by first |exact Or.inl rfl |exact Or.inr (Or.inl rfl) |exact Or.inr (Or.inr rfl))(hd:autoParam ((x==("__debug__":Str))=false) Zr._auto_1)
  (a:autoParam ((x==("__classdict__":Str))=false) Zr._auto_1):PE X (.Name x pos) (bZ i):=Iq b c hd a
end
theorem fm{B:Prop}(h:B):if false=true then A else B:=by rw[if_neg q0x];exact h
theorem fo{B:Prop}(h:A):if true=true then A else B:=by rw[if_pos rfl];exact h
def bY(H a:Hp):Prop:=∀b o,H b=some o->a b=some o
theorem bY.seq{K}(e:bY H b)(h:cZ K H a c):cZ K b a c:=by
 rcases h with(h |⟨o,h⟩) |h
 .exact .inl (.inl (e _ _ h))
 .exact .inl (.inr ⟨o,e _ _ h⟩)
 .exact .inr h
end L2
set_option maxHeartbeats 4000000
namespace L2
open PySem PySem.Spec PyProof.Rows
section
variable{κ:Type}[DecidableEq κ]
noncomputable def jv(a:List (κ×V))(k:κ):Option V:=(a.find? fun b=>decide (b.1=k)).map (·.2)
noncomputable def fT(a:List (κ×V))(k:κ)(v:V):List (κ×V):=
 if (a.any fun b=>decide (b.1=k))=true then a.map (fun b=>if b.1=k then(b.1,v) else b) else a++[(k,v)]
theorem vb{p:κ×V}(e:p.1=k):jv (p::r) k=some p.2:=by simp[jv,e]
theorem vc{p:κ×V}(e:¬ p.1=k):jv (p::r) k=jv r k:=by simp[jv,e]
theorem ro(k):∀a:List (κ×V),(a.any fun b=>decide (b.1=k))=(jv a k).isSome
 |[]=>rfl
 |p::r=>by
  rw[q2P]
  by_cases e:p.1=k
  .simp only[vb e,decide_eq_true e,Bool.true_or,Option.isSome_some]
  .rw[vc e,decide_eq_false e,Bool.false_or];exact ro k r
theorem zK(a)(k:κ)(v):(fT a k v).length<=a.length+1:=by
 unfold fT;split
 .rw[q0h];lia
 .rw[q0q,q0o,q00];lia
theorem KW{a:List (κ×V)}(v)(h:jv a k=none):fT a k v=a++[(k,v)]:=by unfold fT;rw[ro,h];exact if_neg (by decide)
theorem hZ.isSome_eq(r:hZ o u):o.isSome=u.isSome:=by
 cases o with
 |none=>cases u with
  |none=>rfl
  |some _=>exact(r).elim
 |some _=>cases u with
  |none=>exact(r).elim
  |some _=>rfl
theorem KV.any(r:KV a c)(k:κ):(a.any fun b=>decide (b.1=k))=c.any fun b=>decide (b.1=k):=by
 induction r with
 |nil=>rfl
 |cons h t d=>rw[q2P,q2P,d,h.1]
theorem KV.repl(r:KV b d)(k:κ)(f:bj y u) :
  KV (b.map fun a=>if a.1=k then(a.1,y) else a) (d.map fun a=>if a.1=k then(a.1,u) else a):=by
 induction r with
 |nil=>exact .nil
 | @cons p q i j h t g=>
  rw[q0l,q0l];refine .cons ?_ g;obtain⟨c,h2⟩:=h
  by_cases e:p.1=k
  .rw[if_pos e,if_pos (c.symm.trans e)];exact⟨c,f⟩
  .rw[if_neg e,if_neg (fun z=>e (c.trans z))];exact⟨c,h2⟩
theorem KV.put(r:KV a b)(k:κ)(c:bj y u):KV (fT a k y) (stored b k u):=by
 unfold fT stored;rw[r.any k]
 by_cases e:(b.any fun d=>decide (d.1=k))=true
 .rw[if_pos e,if_pos e];exact r.repl k c
 .rw[if_neg e,if_neg e];exact Paired.snoc r ⟨rfl,c⟩
theorem KV.length{a:List (κ×V)}(r:KV a b):a.length=b.length:=Paired.length r
end
theorem zL(r:bj (kV k) u):(hW P w).is k u=true:=by
 cases k with
 |inl i=>obtain⟨t,e⟩:=(r);subst e;exact Ii P w i t
 |inr x=>obtain⟨t,e⟩:=(r);subst e;exact Ij P w x t
theorem zM:∀{a b},bi (a.map kV) b->ItemsAre (hW P w) a b
 |[],_,r=>by rw[q2l]at r;cases r;exact .nil
 |k::a,_,r=>by
  rw[q0l]at r;cases r with
  |cons h t=>exact .cons (zL h) (zM t)
abbrev KT(H:Hp):List (List bf×V)->List (List bf×Addr×Value)->Prop:=Paired fun p q=>p.1=q.1/\H q.2.1=some (.tup (p.1.map kV))/\bj p.2 q.2.2
theorem KT.val(r:KT H a f)(k):hZ (jv a k) ((atKey f k).map (·.2)):=by
 induction r with
 |nil=>exact True.intro
 | @cons p q j c h t i=>
  obtain⟨g,_,h2⟩:=h
  by_cases e:p.1=k
  .have b:atKey (q::c) k=some q.2:=by simp[atKey,(g.symm.trans e)]
   rw[vb e,b];exact h2
  .have d:¬ q.1=k:=fun z=>e (g.trans z);have b:atKey (q::c) k=atKey c k:=by simp[atKey,d]
   rw[vc e,b];exact i
theorem KT.repl(r:KT H a d)(k)(f:bj y u) :
  KT H (a.map fun c=>if c.1=k then(c.1,y) else c) (d.map (putAt k u)):=by
 induction r with
 |nil=>exact .nil
 | @cons p q i j h t g=>
  rw[q0l,q0l];refine .cons ?_ g;obtain⟨b,h2,h3⟩:=h;unfold putAt
  by_cases e:p.1=k
  .rw[if_pos e,if_pos (b.symm.trans e)];exact⟨b,h2,f⟩
  .rw[if_neg e,if_neg (fun z=>e (b.trans z))];exact⟨b,h2,h3⟩
theorem KT.put(r:KT H a c)(k)(g:H b=some (.tup (k.map kV)))(d:bj y u) :
  KT H (fT a k y) (storedH c k b u):=by
 have e:(a.any fun f=>decide (f.1=k))=(atKey c k).isSome:=by rw[ro,(r.val k).isSome_eq,Option.isSome_map]
 unfold fT storedH;rw[e]
 by_cases q:(atKey c k).isSome=true
 .rw[if_pos q,if_pos q];exact r.repl k d
 .rw[if_neg q,if_neg q];exact Paired.snoc r ⟨rfl,g,d⟩
theorem KT.keeps(r:KT H a d)(f:∀b e,H b=some (.tup e)->c b=some (.tup e)):KT c a d:=
 Paired.mapP r fun _ _ z=>⟨z.1,f _ _ z.2.1,z.2.2⟩
theorem zN(ok:bJ P w H h)(e:Rd H a u):cI P w H h a u:=e.ok ok
theorem KY(ok:bJ P w H h)(e:Rd H a (.dK b)):b.length<=sizeLine/\(a==sysModules)=false/\∃c,KV b c/\h.DictOf (hW P w) a c:=
 zN ok e
theorem KZ(ok:bJ P w H h)(e:H a=some (.dK b)):b.length<=sizeLine/\(a==sysModules)=false/\∃c,KV b c/\h.DictOf (hW P w) a c:=KY ok (.inl e)
theorem zO(ok:bJ P w H h)(e:H a=some (.tup (b.map kV))):(tupleKind (hW P w)).is h b a:=by
 obtain⟨_,c,r,o,h1,h2,n,h3⟩:=(ok a _ e)
 exact⟨o,c.toArray,n,h1,h2,h3,by simpa using zM r⟩
theorem La(ok:bJ P w H h)(e:Rd H a (.dT b)):b.length<=sizeLine/\(a==sysModules)=false/\
  ∃d,KT H b d/\h.DictOfH (tupleKind (hW P w)) a d:=by
 obtain⟨z,y,d,r,o,g,i,h1,h2,h3,j,k⟩:=(zN ok e)
 refine⟨z,y,d,r,o,g,i,h1,h2,h3,j,fun x c=>?_,k⟩;have all:∀{l:List (List bf×V)}{m:List (List bf×Addr×Value)},KT H l m->∀x∈m,(tupleKind (hW P w)).is h x.1 x.2.1:=by
  intro l m q
  induction q with
  |nil=>intro x c;exact nomatch c
  | @cons p q s u f t n=>
   intro x c;rcases q0b.mp c with e |c
   .subst e;exact zO ok (by rw[<-f.1];exact f.2.1)
   .exact n x c
 exact all r x c
theorem Lb(ok:bJ P w H h)(e:H a=some (.dT b)):b.length<=sizeLine/\(a==sysModules)=false/\
  ∃c,KT H b c/\h.DictOfH (tupleKind (hW P w)) a c:=La ok (.inl e)
def mf(H:Hp)(a:Addr)(y v:V)(d:Hp):Prop:=
 (∃c k,H a=some (.dK c)/\y=kV k/\c.length<sizeLine/\d = aL H a (.dK (fT c k v)))\/
 ∃c k b,H a=some (.dT c)/\y=.ref b/\H b=some (.tup (k.map kV))/\c.length<sizeLine/\d = aL H a (.dT (fT c k v))
theorem mf.k{k}(e:H a=some (.dK b))(c:b.length<sizeLine):mf H a (kV k) v (aL H a (.dK (fT b k v))):=.inl ⟨b,k,e,rfl,c,rfl⟩
theorem mf.t{k}(e:H a=some (.dT c))(d:H b=some (.tup (k.map kV)))(f:c.length<sizeLine) :
  mf H a (.ref b) v (aL H a (.dT (fT c k v))):=.inr ⟨c,k,b,e,rfl,d,f,rfl⟩
theorem Inv.big{Y:St}(I:Inv X pins Y H s):sysModules<s.heap.objs.size:=Nat.lt_trans (by decide) ((I.mod.glob.keeps I.bk).lt)
theorem zP{Y:St}(I:Inv X pins Y H s)(f:oJ (H a))(h:Heap.SameBut a s.heap c)(g:∃q,c.get? a=some q)(new:cI X.prog X.w (aL H a d) c a d) :
  Inv X pins Y (aL H a d) { s with heap:=c,toks:=t' }:=
 I.write f (.inl rfl) (fun b q i z=>(h.2 b i).trans z) g new
theorem Lc(z:b.length<=sizeLine)(hd:(a==sysModules)=false)(rel:KV b c)(f:d.DictOf (hW P w) a c) :
  cI P w e d a (.dK b):=⟨z,hd,c,rel,f⟩
theorem Ld{Y:St}(M:A.units+1<cLine)(I:Inv X pins Y H s)(g:mf H a y v x)(B:bj y u)(C:bj v r)(h:∀D,Inv X pins Y x D->Q () D) :
  wpAny (model X.prog X.w) A (setItem (.ref a) u r) Q E s:=by
 rcases g with⟨d,k,e,j,l,m⟩ |⟨d,k,b,e,j,G,l,m⟩
 .subst j m;obtain⟨z,hd,N,rel,dd⟩:=KZ I.hok e;exact wpAny_setItem_pairs (hsz:=(by rw[<-rel.length];exact z)) (zL B) dd fun J f t=>h _ (zP I (by rw[e];exact True.intro) t (let⟨q,_,_,i,_⟩:=f;⟨q,i⟩) (Lc (by have:=zK d k v;lia) hd (rel.put k C) f))
 .subst j m;cases(B);obtain⟨z,hd,R,rel,dd⟩:=Lb I.hok e;refine wpAny_setItem_heap (hsz:=(by rw[<-Paired.length rel];exact z)) (tupleKind_room_in1 M) (zO I.hok G) dd fun J f t=>h _ ?_;obtain⟨q,S,T,i,h2,h3,U,_,Z⟩:=f;refine zP I (by rw[e];exact True.intro) t ⟨q,i⟩ ⟨(by have:=zK d k v;lia),hd,_,(rel.put k G C).keeps fun c ys L=>?_,q,S,T,i,h2,h3,U,Z⟩;rw[bB (Ik L e (fun z=>nomatch z))];exact L
def Le(c h d:TE):TS:=fun D Y H=>d Y H fun v e=>c Y e fun x f=>h Y f fun y g=>∃a b,x=.ref a/\mf g a y v b/\D.nx Y b
theorem Lf(d:X.A.units+1<cLine)(L:PE X o td)(f:PE X i ty)(j:PE X value tv)(M:swapsWith value (some (.Subscript o i pos')) pos.line X.env=pure false) :
  PS X (.Assign [.Subscript o i pos'] value pos) (Le td ty tv):=by
 intro b s Y H D I h;refine wpAny_Assign_Subscript (aU (j b s Y H _ I h) fun r k ⟨v,l,I1,m,n⟩=>aU (L b k Y l _ I1 n) fun u p ⟨x,q,t,w,z⟩=>aU (f b p Y q _ t z) fun N O c=>?_) M;obtain⟨y,Q,B,C,a,E,ex,g,G⟩:=c;subst ex;obtain rfl:u=Value.ref a:=w;exact Ld d B g C m fun R J=>⟨Y,E,J,G⟩
theorem Lg(h:Heap)(a:sysModules<h.objs.size):cI P w H (h.push { cls:=.type "dict",data:=.dict #[] }) h.objs.size (.dT []):=
 ⟨q0Y _,beq_eq_false_iff_ne.mpr (Ne.symm (q0t a)),[],.nil,_,#[],0,Heap.get?_push_size _ rfl,⟨rfl,rfl,rfl⟩,rfl,rfl,q0M⟩
def Lh:TE:=fun _ H Q=>∀p,H p=none->Q (.ref p) (aL H p (.dT []))
theorem Li:PE X (.Dict [] [] pos) Lh:=fun b s Y H Q I h=>wpAny_Dict_empty ⟨.ref s.heap.objs.size,_,I.laid (fun _ _ q=>aW _ q) (ba _) (Lg s.heap I.big),rfl,h _ (I.hok.fresh (ba _))⟩
noncomputable def dX(b:Env):List (Str×NameKind)->List (Str×Addr)->List (Str×Addr)
 |[],a=>a
 |(n,k)::r,a=>if k==.free then dX b r ((n,(b.cells.lookup n).getD 0)::a) else dX b r a
theorem kb{α:Type}{c a b:α}{l}(h:c∈a::l):c∈a::b::l:=by
 rcases q0b.mp h with h |h
 .exact h▸.head _
 .exact .tail _ (.tail _ h)
theorem zQ(d):∀b  e,(∀y∈b,y.2=.free->(d.cells.lookup y.1).isSome=true)->
  (forIn b e fun(x:Str×NameKind) (g:List (Str×Addr))=>if (x.2==NameKind.free)=true then(do let c <-cellOf d x.1;pure (ForInStep.yield ((x.1,c)::g))) else(pure (ForInStep.yield g):Sem (ForInStep (List (Str×Addr)))))=pure (dX d b e)
 |[],e,_=>rfl
 | (n,k)::r,e,h=>by
  have i:=fun a=>zQ d r a fun y l=>h y (bt _ l);rw[q2b];unfold dX
  by_cases f:(k==NameKind.free)=true
  .obtain⟨c,j⟩:=q0Z.mp (h (n,k) q0f (by simpa using f));simp only[f];have:cellOf d n=pure c:=by unfold cellOf;rw[j]
   rw[this,j];exact i _
  .simp only[f];exact i _
theorem zR(h:∀y∈a.names,y.2=.free->(b.cells.lookup y.1).isSome=true):closureFor a b=pure (dX b a.names []):=congrArg (fun m=>m >>= pure) (zQ b a.names [] h)
theorem vd:∀{a f c},(∀y∈a,y.2=.free->(b.cells.lookup y.1).isSome=true)->
  (∀c,f.lookup x=some c->b.cells.lookup x=some c)->(dX b a f).lookup x=some c->b.cells.lookup x=some c
 |[],_,_,_,g,h=>g _ h
 | (n,k)::r,f,c,i,g,h=>by
  unfold dX at h
  by_cases j:(k==NameKind.free)=true
  .rw[if_pos j]at h;refine vd (fun y l=>i y (bt _ l)) (fun o e=>?_) h;rw[q0s]at e;cases m:x==n with
   |true=>
    rw[m]at e;have:=by simpa using m
    subst this;obtain⟨d,hd⟩:=q0Z.mp (i (x,k) q0f (by simpa using j));rw[hd]at e ⊢;exact e
   |false=>rw[m]at e;exact g _ e
  .rw[if_neg j]at h;exact vd (fun y l=>i y (bt _ l)) g h
theorem rq:∀{a acc},((x,NameKind.free)∈a\/(acc.lookup x).isSome=true)->((dX env a acc).lookup x).isSome=true
 |[],_,h=>by rcases h with h |h;cases h;exact h
 | (n,k)::r,acc,h=>by
  unfold dX
  by_cases b:(k==NameKind.free)=true
  .rw[if_pos b];apply rq;rw[q0s];cases c:x==n with
   |true=>exact .inr rfl
   |false=>
    rcases h with h |h
    .rcases q0b.mp h with e |h
     .cases e;simp at c
     .exact .inl h
    .exact .inr h
  .rw[if_neg b];apply rq;rcases h with h |h
   .rcases q0b.mp h with e |h
    .cases e;simp at b
    .exact .inl h
   .exact .inr h
noncomputable abbrev gu(a:Env):Str×NameKind->Str×NameKind:=fun(n,k)=>if (k==NameKind.free&&a.scope.kind==.function&&a.kindOf n==some .cell) then(n,NameKind.cell) else(n,k)
theorem ve:∀{a:List (Str×NameKind)}{x}{k},a.lookup x=some k->
  (a.map (gu env)).lookup x=some k\/(k=.free/\(a.map (gu env)).lookup x=some .cell)
 |[],_,_,h=>by simp at h
 | (n,k)::r,x,f,h=>by
  rw[q0l];have e:gu env (n,k)=(n,k)\/(k=.free/\gu env (n,k)=(n,.cell)):=by
   by_cases c:(k==NameKind.free&&env.scope.kind==.function&&env.kindOf n==some .cell)=true
   .refine .inr ⟨?_,if_pos c⟩;cases k<;>first |rfl |(simp at c)
   .exact .inl (if_neg c)
  cases b:x==n with
  |true=>
   simp only[q0s,b]at h;cases h;rcases e with e |⟨d,e⟩
   .rw[e];exact .inl (by simp only[q0s,b])
   .rw[e];exact .inr ⟨d,by simp only[q0s,b]⟩
  |false=>simp only[q0s,b]at h;rcases e with e |⟨d,e⟩<;>(rw[e];simp only[q0s,b];exact (@ve env r x f) h)
theorem zS:∀{a:List (Str×NameKind)}{x},a.lookup x=none->(a.map (gu env)).lookup x=none
 |[],_,_=>rfl
 | (n,k)::r,x,h=>by
  rw[q0l];have e:gu env (n,k)=(n,k)\/gu env (n,k)=(n,.cell):=by
   by_cases c:(k==NameKind.free&&env.scope.kind==.function&&env.kindOf n==some .cell)=true
   .exact .inr (if_pos c)
   .exact .inl (if_neg c)
  cases b:x==n with
  |true=>simp only[q0s,b]at h;cases h
  |false=>simp only[q0s,b]at h;rcases e with e |e<;>(rw[e];simp only[q0s,b];exact (@zS env r x) h)
theorem Lj(I:Nat->Shared->Prop)
  (turn:∀n s,I n s->wpAny (model prog w) A (pyNext it) (fun r j=>match r with
   |none=>R (.ok .next) j
   |some v=>wpAny (model prog w) A (letOwnedTupleGo target it v) (fun _ i=>wpAny (model prog w) A (assign target a v) (fun _ o=>
     wpAny (model prog w) A (forIn f true fun c r=>if r=true then do let ok <-isTrue c a (eval c a);pure (ForInStep.yield ok) else pure (ForInStep.yield r)) (fun ok k=>
      if ok=true then wpAny (model prog w) A (eval e a) (fun x p=>
       wpAny (model prog w) A (call (.builtin "list.append") [g,x]) (fun _ q=>∃m,m<n/\I m q) (fun _ _=>False) p) (fun _ _=>False) k
      else ∃m,m<n/\I m k) (fun _ _=>False) o) (fun _ _=>False) i) (fun _ _=>False) j) (fun _ _=>False) s)
  (n) (h:I n s) :
  codeAny (model prog w) A (.compLoop (.ListComp e [⟨target,iter,f,0⟩] d pos) 0 it g a) R s:=by
 refine codeAny_loop rfl I (fun n s y=>?_) n h;refine wpAny_noted (wpAny_noRaise ?_);rw[compTurn_list];refine af (wpAny_standAt (af (wpAny_mono (turn n s y) (fun r j t=>?_) fun _ _ b=>b)));cases r with
 |none=>exact aJ t
 |some v=>
  refine af (wpAny_mono t (fun _ i l=>?_) fun _ _ b=>b);refine af (wpAny_mono l (fun _ o z=>af (wpAny_mono z (fun ok k u=>?_) fun _ _ b=>b)) fun _ _ b=>b);cases ok with
  |false=>exact aJ ⟨rfl,u⟩
  |true=>exact af (af (wpAny_mono u (fun x p B=>af (wpAny_mono B (fun _ q C=>aJ (aJ ⟨rfl,C⟩)) fun _ _ b=>b)) fun _ _ b=>b))
theorem rr:∀a  n  b,((x,NameKind.cell)∉a)->(cellsFrom n a b).lookup x=b.lookup x
 |[],_,_,_=>rfl
 | (y,k)::r,n,b,h=>by
  unfold cellsFrom;have c:=fun z=>h (bt _ z);split
  .rename_i d;rw[rr r _ _ c,q0s];have:(x==y)=false:=by
    cases e:x==y with
    |false=>rfl
    |true=>exact absurd (by rw[eq_of_beq e,<-eq_of_beq d];exact q0f) h
   rw[this]
  .exact rr r _ _ c
theorem vf:∀a (h:Heap)  b,(cellsFrom h.objs.size a b).lookup x=some c->b.lookup x=some c\/(h.objs.size<=c/\(x,NameKind.cell)∈a/\(pushCells h a).IsCell c none)
 |[],_,_,e=>.inl e
 | (y,k)::r,h,b,e=>by
  unfold cellsFrom at e;unfold pushCells;split at e
  .rename_i d;rw[if_pos d];have sz:(h.push { cls:=.type "cell",data:=.cell none }).objs.size=h.objs.size+1:=Heap.size_push ..;rw[<-sz]at e;rcases vf r _ _ e with z |⟨f,g,i⟩
   .rw[q0s]at z;split at z
    .rename_i j;cases z;refine .inr ⟨ba _,?_,⟨_,pushCells_keeps r _ _ _ (Heap.get?_push_size _ rfl),rfl⟩⟩;rw[eq_of_beq j,<-eq_of_beq d];exact q0f
    .exact .inl z
   .exact .inr ⟨by rw[sz]at f;lia,bt _ g,i⟩
  .rename_i d;rw[if_neg d];rcases vf r _ _ e with z |⟨f,g,i⟩
   .exact .inl z
   .exact .inr ⟨f,bt _ g,i⟩
theorem vg:∀a  n  b,(x,NameKind.cell)∈a->(cellsFrom n a b).lookup x=some c->n<=c
 | (y,k)::r,n,b,f,e=>by
  unfold cellsFrom at e
  by_cases d:(x,NameKind.cell)∈r
  .split at e
   .have:=vg r _ _ d e;lia
   .exact vg r _ _ d e
  .rcases q0b.mp f with z |z
   .cases z;rw[if_pos (by rfl),rr r _ _ d,q0s,beq_self_eq_true]at e;cases e;exact ba _
   .exact absurd z d
theorem vh:∀a  n  b,((x,NameKind.cell)∈a\/(b.lookup x).isSome=true)->((cellsFrom n a b).lookup x).isSome=true
 |[],_,_,h=>by rcases h with h |h;cases h;exact h
 | (y,k)::r,n,b,h=>by
  unfold cellsFrom;split
  .rename_i c;apply vh r _ _;rcases h with h |h
   .rcases q0b.mp h with z |z
    .cases z;right;rw[q0s,beq_self_eq_true];rfl
    .exact .inl z
   .right;rw[q0s];split
    .rfl
    .exact h
  .rename_i c;apply vh r _ _;rcases h with h |h
   .rcases q0b.mp h with z |z
    .cases z;exact absurd rfl c
    .exact .inl z
   .exact .inr h
theorem vi{c:Addr}{lo:Nat}:∀i (n:Nat) (d:List (Str×Addr)),(∀x y c,lo<=c->d.lookup x=some c->d.lookup y=some c->x=y)->(∀x c,d.lookup x=some c->c<n)->lo<=c->(cellsFrom n i d).lookup x=some c->(cellsFrom n i d).lookup y=some c->x=y
 |[],_,_,h,_,l,g,f=>h _ _ _ l g f
 | (z,k)::r,n,d,h,hb,l,g,f=>by
  unfold cellsFrom at g f;split at g
  .rename_i j;rw[if_pos j]at f;refine vi r (n+1) ((z,n)::d) (fun x y c l g f=>?_) (fun x c e=>?_) l g f
   .rw[q0s]at g f;split at g<;>split at f
    .rename_i a _ b;rw[eq_of_beq a,eq_of_beq b]
    .cases g;exact absurd (hb _ _ f) (q0C _)
    .cases f;exact absurd (hb _ _ g) (q0C _)
    .exact h _ _ _ l g f
   .rw[q0s]at e;split at e
    .cases e;exact q05 _
    .exact q1w (hb _ _ e)
  .rename_i j;rw[if_neg j]at f;exact vi r n d h hb l g f
theorem Lk
  (h:Q { scope,locals:=s.heap.objs.size,globals,cells:=cellsFrom (s.heap.objs.size+1) scope.names cl,qual,func:=none,code:=a.code,frame:=a.frame,builtins:=a.builtins } { s with heap:=pushCells (s.heap.push { cls:=.type "dict",data:=.dict #[] }) scope.names }) :
  wpAny M A (newFunctionEnv scope globals cl [] qual none .none (some a)) Q E s:=by
 refine af (wpAny_alloc (af (wpAny_layCells _ (fun name kind cells=>by cases b:kind==NameKind.cell<;>simp[b]) _ _ _ _ ?_)));rw[Heap.size_push ..];exact af (aJ (aJ h))
abbrev cf(X:Cx)(scope:Scope)(N':List Str)(C:Addr)(fp:List Addr)(s₂:Shared)(H₂:Hp)(pl:List (Addr×Obj)):Cx where
 prog:=X.prog
 w:=X.w
 K:=X.K
 mg:=X.mg
 base:=X.base
 A:=X.A
 N:=N'
 s₀:=s₂
 H₀:=H₂
 env:=compEnvC scope (cellsFrom (C+1) scope.names (dX X.env scope.names [])) C X.env
 outer:=X.stack
 stack:=X.stack
 ex:=fp
 fn:=fun y=>scope.names.lookup y==some .cell
 calm:=X.calm
 pn:=X.pn++pl
 xe:=fun _ _=>False
structure ag (X:Cx) (scope:Scope) (own capN:List Str) (caps:List Nat):Prop where
 kind:scope.kind=.function
 one:∀y∈scope.names,scope.names.lookup y.1=some y.2
 free:∀y∈scope.names,y.2=.free->X.env.kindOf y.1=some .cell\/X.env.kindOf y.1=some .free
 loc:∀y∈scope.names,y.2=.local->scope.names.lookup y.1=some .local
 caps:caps.map (fun j=>X.N[j]?)=capN.map some
 capf:∀x∈capN,scope.names.lookup x=some .free
noncomputable def jw(own:List Str)(a:List Nat)(Y:St):St:=own.map (fun _=>none)++a.map (fun j=>(Y[j]?).getD none)
theorem ag.cells{caps:List Nat}(S:ag X scope own capN caps)(ok:X.Ok):∀y∈scope.names,y.2=.free->(X.env.cells.lookup y.1).isSome=true:=fun y a b=>by obtain⟨c,d⟩:=ok.has y.1 (S.free y a b);rw[d];rfl
theorem ag.cl{caps:List Nat}(S:ag X scope own capN caps)(ok:X.Ok)(h:(dX X.env scope.names []).lookup x=some c):X.env.cells.lookup x=some c:=
 vd (S.cells ok) (fun _ e=>by simp at e) h
theorem Ll{Y:St}{C:Addr}{fp:List Addr}(S:ag X scope own capN caps)(I:Inv X f Y H₂ B)
  (hf:∀b∈fp,iA X f H₂ b) (M:∀b∈fp,b<B.heap.objs.size) (t:B.heap.objs.size<=C) (O:∀b o,B.heap.get? b=some o->L.get? b=some o) (hn:L.Ns C m) (Q:∀x c,(cellsFrom (C+1) scope.names (dX X.env scope.names [])).lookup x=some c->(dX X.env scope.names []).lookup x=some c\/(C+1<=c/\L.IsCell c none)) :
  Inv (cf X scope (own++capN) C fp B H₂ f) [] (jw own caps Y) H₂ { B with heap:=L,toks:=tk }:=by
 have cl:=fun {x:Str}{c:Addr}=>S.cl (x:=x) (c:=c) I.ok;have lt:∀{x:Str}{c:Addr},X.env.cells.lookup x=some c->c<B.heap.objs.size:=fun e=>by obtain⟨v,q⟩:=I.cell _ _ e;exact q.lt
 have D:∀{x:Str}{c:Addr},X.env.cells.lookup x=some c->C+1<=c->False:=fun e z=>absurd (q0n (lt e) (q0E t (q1m z))) (q0C _);have a:=fun {x c} e=>(Q x c e).imp (fun z=>cl z) fun z=>z;have r:∀x,((relabel scope X.env).names.lookup x=some .cell\/(relabel scope X.env).names.lookup x=some .free)->scope.names.lookup x=some .free\/scope.names.lookup x=some .cell:=fun x H=>by
  cases e:scope.names.lookup x with
  |none=>have z:(relabel scope X.env).names.lookup x=none:=zS (env:=X.env) e;rw[z]at H;rcases H with q |q<;>cases q
  |some k=>
   rcases ve (env:=X.env) e with z |⟨z,_⟩
   .have z':(relabel scope X.env).names.lookup x=some k:=z;rw[z']at H;rcases H with q |q
    .cases q;exact .inr rfl
    .cases q;exact .inl rfl
   .rw[z];exact .inl rfl
 have stk:∀b,b≠X.env.locals->b∉X.fs->b∉bW X.stack:=fun b J g z=>(q0b.mp (I.stkSub b z)).elim J g;refine⟨⟨I.ok.mod,S.kind,I.ok.glob,I.ok.blt,t,fun x y c J g=>?inj,fun x H=>?_,fun x c h e=>?cab,I.ok.hd,I.ok.frames,.inl rfl,fun b A=>⟨?_,fun x c h=>?exf⟩,
   I.bs,q0E I.ok.bsz I.sz,fun b o e A=>?_,fun b A=>stk b (hf b A).2.1 (hf b A).2.2.1,I.stack,I.stkFree⟩,
  rfl,I.bare,Un.kept O,⟨m,hn,fun i x v J g h3=>?_⟩,fun x c h=>?_,I.hok.fresh t,fun x c h=>?frc,fun p hp=>?_,I.hok.kept O,?_⟩
 case inj=>
  rcases a J with R |⟨R,_⟩<;>rcases a g with z2 |⟨z2,_⟩
  .exact I.ok.inj x y c R z2
  .exact(D R z2).elim
  .exact(D z2 R).elim
  .exact vi (lo:=C+1) scope.names (C+1) (dX X.env scope.names []) (fun x y c l e _=>(D (cl e) l).elim) (fun x c e=>Nat.lt_succ_of_le (q0E (q1t (lt (cl e))) t)) R J g
 case cab=>have e1:=eq_of_beq (show(scope.names.lookup x==some NameKind.cell)=true from h);have:=vg scope.names (C+1) (dX X.env scope.names []) (q0P e1) e;exact q0E t (q1m this)
 case exf=>
  rcases a h with z |⟨z,_⟩
  .exact(hf b A).2.2.2.2.1 x c z
  .exact Ne.symm (q0t (q0n (M b A) (q0E t (q1m z))))
 case frc=>
  rcases a h with z |⟨z,_⟩
  .exact I.freeC x c z
  .exact I.hok.fresh (q0E t (q1m z))
 .refine q0Z.mp (vh scope.names (C+1) (dX X.env scope.names []) ?_);rcases r x H with q |q
  .exact .inr (rq (env:=X.env) (.inl (q0P q)))
  .exact .inl (q0P q)
 .exact q0t (q0n (M b A) t)
 .rcases(hf b A).2.2.2.1 with z |z
  .exact I.ok.noex b o e z
  .exact absurd (q0n (bm (I.ok.bs b o e).1) z) (q0C _)
 .
  have hi:own.length<=i:=by
   refine q1k fun a1=>?_;unfold jw at g;rw[q0G (by simpa using a1),q0y]at g;cases q:own[i]? with
   |none=>rw[q]at g;cases g
   |some y=>rw[q]at g;cases g
  have T:capN[i - own.length]? = some x:=by
   have:(own++capN)[i]? = some x:=J
   rwa [q0z hi]at this
  have U:(caps.map (fun j=>(Y[j]?).getD none))[i - own.length]? = some (some v):=by
   unfold jw at g
   rwa [q0z (by simpa using hi),q0h]at g
  rw[q0y]at U;obtain⟨j,hj,s⟩:=q0p.mp U;have hX:X.N[j]? = some x:=by have q:=congrArg (fun l=>l[i - own.length]?) S.caps;simp only[q0y,hj,T,Option.map_some]at q;exact q0r q
  have hY:Y[j]? = some (some v):=by
   cases q:Y[j]? with
   |none=>rw[q]at s;cases s
   |some z=>rw[q]at s;simp at s;rw[s]
  have E:=S.capf x (q0K T);have w:(x,NameKind.free)∈scope.names:=q0P E;have Z:=S.free _ w rfl;obtain⟨m',a3,hl⟩:=I.loc;obtain⟨u,ru,l⟩:=hl j x v hX hY (Z.elim (fun q=>.inr (.inl q)) fun q=>.inr (.inr q));refine⟨u,ru,.inr ⟨?_,?_⟩⟩
  .rcases ve (env:=X.env) E with z |⟨_,z⟩
   .exact .inr z
   .exact .inl z
  .rcases l with⟨l,_⟩ |⟨_,c,hc,G⟩
   .have l':X.env.kindOf x=some .local:=l;rcases Z with q |q<;>(rw[l']at q;cases q)
   .obtain⟨c',a0⟩:=q0Z.mp (rq (env:=X.env) (acc:=[]) (.inl w));have:=cl a0;rw[hc]at this;cases this;obtain⟨o,ho,hd⟩:=G;have nc:(x,NameKind.cell)∉scope.names:=fun z=>by have:=S.one _ z;rw[E]at this;cases this
    exact⟨c,(rr scope.names (C+1) (dX X.env scope.names []) nc).trans a0,o,O c o ho,hd⟩
 .rcases a h with z |⟨_,z⟩
  .obtain⟨v,o,ho,hd⟩:=I.cell x c z;exact⟨v,o,O c o ho,hd⟩
  .exact⟨_,z⟩
 .have a2:p∈X.pn++f:=by simpa using hp
  obtain⟨e,n,ne,nf,d⟩:=I.pin p a2;exact⟨O _ _ e,n,q0t (q0n (bm e) t),stk p.1 ne nf,d⟩
 .unfold jw;have hl:=congrArg List.length S.caps;simp only[q0h]at hl;rw[q0q,q0q,q0h,q0h,hl]
def nj(X:Cx)(b:List Expr)(t:TT):Prop:=
 ∀(a:List (Addr×Obj)) (s:Shared) (Y:St) (H:Hp) (Q:Bool->Hp->Prop),Inv X a Y H s->t Y H Q->
  wpAny (model X.prog X.w) X.A (forIn b true fun c r=>if r=true then do let ok <-isTrue c X.env (eval c X.env);pure (ForInStep.yield ok) else pure (ForInStep.yield r)) (TP X a Y Q) X.xe s
def Lm:TT:=fun _ H Q=>Q true H
theorem Ln:nj X [] Lm:=fun _ _ _ H _ I h=>wpAny_tests_nil ⟨H,I,h⟩
theorem Lo(h:PT X c t):nj X [c] t:=fun a s Y H Q I q=>wpAny_tests_one (h a s Y H Q I q)
def kS(own:List Str)(d:List Nat)(k:TI)(g:TG)(l:TT)(n:TE):TE:=fun Y H Q=>k Y H fun J o=>∃W:Nat->Nat->List V->St->Hp->Prop,(∃m,W 0 m [] (jw own d Y) o)/\∀i m a f H,W i m a f H->
 (J.stop i H/\a.length<=sizeLine/\∀p,H p=none->Q (.ref p) (aL H p (.lst a)))\/
 (J.go i H/\∀x h,J.yld i H x h->g x f h fun e q=>l e q fun b j=>if b=true then n e j fun y r=>a.length<sizeLine/\∃c,c<m/\W (i+1) c (a++[y]) e r else ∃c,c<m/\W (i+1) c a e j)
theorem zT{Y:St}{RR:Value->Addr->Result->Shared->Prop}(S:ag X scope own capN caps)(hc:X.calm=true)(hi:PI X tg iter wi)
  (c5:∀C E s₂ H₂ pl,PG (cf X scope (own++capN) C E s₂ H₂ pl) tg g/\nj (cf X scope (own++capN) C E s₂ H₂ pl) ifs tc/\PE (cf X scope (own++capN) C E s₂ H₂ pl) elt te)
  (I:Inv X f Y H s) (h:kS own caps wi g tc te Y H Q)
  (c6:∀D C  s'  L  m,Inv X f Y L s'->iA X f L C->s'.heap.Ns C m->Q (.ref D) L->RR (.ref D) C (.ok .next) s') :
  wpAny (model X.prog X.w) X.A (eval iter X.env) (fun x s₁=>wpAny (model X.prog X.w) X.A (pyIter x) (fun it s₂=>wpAny (model X.prog X.w) X.A (newList []) (fun b4 s₃=>
   wpAny (model X.prog X.w) X.A (newFunctionEnv scope X.env.globals (dX X.env scope.names []) [] X.env.qual none .none (some X.env)) (fun a8 s₄=>
    codeAny (model X.prog X.w) X.A (.compStart (.ListComp elt [⟨tg,iter,ifs,0⟩] scope pos) 0 it b4 { a8 with scope:=relabel scope X.env }) (RR b4 a8.locals) s₄) X.xe s₃) X.xe s₂) X.xe s₁) X.xe s:=by
 refine aU (hi f s Y H _ I h) fun v s1 h1=>aU h1 fun d3 B h2=>?_;obtain⟨it,E,tn,J,U,e,Z,T,b1,f2,W,⟨m0,w0⟩,turn⟩:=h2;subst e;have a0:∀b∈E,b<B.heap.objs.size:=fun b t=>by obtain⟨o,e,_⟩:=T.obj _ _ b1 b t;exact bm e
 refine wpAny_newObj_type (Lk ?_);dsimp only;generalize a4:B.heap.push { cls:=.type "list",dict:=none,data:=.seq ([]:List Value).toArray }=HH;have hC:HH.objs.size=B.heap.objs.size+1:=by rw[<-a4,Heap.size_push]
 have l:B.heap.objs.size<=HH.objs.size:=by rw[hC];exact q1u _
 have a5:B.heap.objs.size≠HH.objs.size:=by rw[hC];exact q0t (q05 _)
 have below:∀b,b<B.heap.objs.size->b≠HH.objs.size:=fun b t=>by rw[hC];exact q0t (q1w t)
 have b5:(HH.push { cls:=.type "dict",data:=.dict #[] }).objs.size=HH.objs.size+1:=Heap.size_push ..;have G:∀x c,(cellsFrom (HH.objs.size+1) scope.names (dX X.env scope.names [])).lookup x=some c->(dX X.env scope.names []).lookup x=some c\/(HH.objs.size+1<=c/\(pushCells (HH.push { cls:=.type "dict",data:=.dict #[] }) scope.names).IsCell c none):=fun x c e=>by rw[<-b5]at e ⊢;exact(vf scope.names _ _ e).imp (fun z=>z) fun b6=>by obtain⟨z1,_,z2⟩:=b6;exact⟨z1,z2⟩
 have a1:(pushCells (HH.push { cls:=.type "dict",data:=.dict #[] }) scope.names).Ns HH.objs.size (fun _=>none):=(Heap.Ns.new HH (.type "dict")).keeps (pushCells_keeps _ _);have old:∀b o,B.heap.get? b=some o->(pushCells (HH.push { cls:=.type "dict",data:=.dict #[] }) scope.names).get? b=some o:=fun b o e=>pushCells_keeps _ _ b o (aW _ (a4▸aW _ e));have a2:(pushCells (HH.push { cls:=.type "dict",data:=.dict #[] }) scope.names).get? B.heap.objs.size=some { cls:=.type "list",dict:=none,data:=.seq ([]:List Value).toArray }:=pushCells_keeps _ _ _ _ (aW _ (a4▸Heap.get?_push_size _ rfl));generalize pushCells (HH.push { cls:=.type "dict",data:=.dict #[] }) scope.names=h₁ at G a1 old a2 ⊢;generalize c7:HH.objs.size=C at a1 a5 l below G ⊢;generalize j:B.heap.objs.size=D at a2 a5 ⊢;clear a4 hC c7 b5 HH;obtain⟨hg,ht,he⟩:=c5 C E B U f;have a6:∀x c,(cellsFrom (C+1) scope.names (dX X.env scope.names [])).lookup x=some c->c≠D:=fun x c e z=>by
  rcases G x c e with e |⟨e,_⟩
  .obtain⟨v,q⟩:=Z.cell x c (S.cl Z.ok e);exact absurd q.lt (by rw[z,j];exact q0C _)
  .rw[j]at l;exact absurd (q2m l (q0n (q05 C) e)) (by rw[z];exact q0C _)
 have a7:D∉bW X.stack:=fun z=>by
  rcases q0b.mp (Z.stkSub D z) with q |q
  .exact absurd Z.lt (by rw[<-q,j];exact q0C _)
  .exact Z.nofs (by rw[j];exact ba _) q
 have a3:∀p∈X.pn++f,p.1≠D:=fun p M z=>absurd (bm (Z.pin p M).1) (by rw[z,j];exact q0C _);have a9:∀{Y':St}{L:Hp}{s':Shared}{N:List Value}{k:Nat},Inv (cf X scope (own++capN) C E B U f) [] Y' L s'->s'.heap.get? D=some { cls:=.type "list",data:=.seq N.toArray k }->L D=none->
   Inv (cf X scope (own++capN) C E B U f) [(D,{ cls:=.type "list",data:=.seq N.toArray k })] Y' L s':=fun J e n=>J.pins_of fun p M=>by
  obtain rfl:=q0i.mp M;exact⟨e,n,a5,a7,fun v z=>by cases z⟩
 have b2:∀{L:Hp}{o:Obj},(∀b∈E,L b=none)->∀b∈E,iA (cf X scope (own++capN) C E B U f) [(D,o)] L b:=fun hn b t=>by
  obtain⟨f0,f1,c8,f3,f4,f5⟩:=f2 b t;refine⟨hn b t,q0t (q0n (a0 b t) (by rw[j];rw[j]at l;exact l)),fun z=>(q0b.mp (Z.stkSub b z)).elim f1 c8,.inl t,fun x c e=>?cl,fun p M=>?_⟩
  case cl=>
   rcases G x c e with e |⟨e,_⟩
   .exact f4 x c (S.cl Z.ok e)
   .exact Ne.symm (q0t (q0n (a0 b t) (q0E (by rw[j];rw[j]at l;exact l) (q1m e))))
  rcases q0d.mp M with M |M
  .exact f5 p M
  .obtain rfl:=q0i.mp M;intro z;have z':D=b:=z;exact absurd (a0 b t) (by rw[<-z',j];exact q0C _)
 have b0:codeAny (model X.prog X.w) X.A (.compLoop (.ListComp elt [⟨tg,iter,ifs,0⟩] scope pos) 0 (.ref it) (.ref D) (compEnvC scope (cellsFrom (C+1) scope.names (dX X.env scope.names [])) C X.env)) (RR (.ref D) C) { B with heap:=h₁,toks:=B.toks }:=by
  refine Lj (fun n s'=>∃i ys N k Y' L,Inv (cf X scope (own++capN) C E B U f) [(D,{ cls:=.type "list",data:=.seq N.toArray k })] Y' L s'/\tn i s'.heap/\(∀b∈E,L b=none)/\bi ys N/\W i n ys Y' L) ?_ m0
   ⟨0,[],[],0,_,U,a9 (Ll S Z f2 a0 (by rw[j];rw[j]at l;exact l) old a1 G) a2 (Z.hok.fresh (by rw[j];exact ba _)),T.keep _ _ _ b1 fun b _ o e=>old b o e,fun b t=>(f2 b t).1,.nil,w0⟩
  rintro n s3 ⟨i,ys,N,k,Y3,H3,I3,b7,b8,r3,w3⟩;rcases turn i n ys Y3 H3 w3 with⟨stop,hz,qn⟩ |⟨go,step⟩
  .refine aU (T.done (cf X scope (own++capN) C E B U f) rfl rfl rfl hc i _ s3 Y3 H3 _ I3 (b2 b8) b7 stop) fun r s4 b9=>?_;obtain⟨hr,O⟩:=b9;subst hr;obtain⟨eD,nD,_⟩:=O.pin (D,_) (bp _ (q0i.mpr rfl));have R:H3 D=none:=nD;have I5:Inv X f Y (aL H3 D (.lst ys)) s4:=by
    refine Z.call' (ch:=E) O.os ⟨O.base.keep,O.base.slot,fun b o e n hx=>?_,O.base.there,fun b xs e=>?_,fun b o u e=>?_,fun b ps e=>?_⟩ (fun b u e=>?_) O.bare fun b t=>⟨(f2 b t).2.2.2.1,(f2 b t).2.1,(f2 b t).2.2.2.2.1,(f2 b t).2.2.2.2.2⟩
    .rw[bB (by intro z;exact absurd (bm e) (by rw[z,j];exact q0C _))];exact O.base.free b o e n hx
    .have q:=O.base.tups b xs e;rw[bB (iQ q R)];exact q
    .have q:=O.base.frzs b o u e;rw[bB (iQ q R)];exact q
    .obtain⟨more,q⟩:=O.base.tbls b ps e;exact⟨more,by rw[bB (iQ q R)];exact q⟩
    .by_cases t:b=D
     .subst t;rw[cG]at e;cases e;exact⟨hz,N,k,r3,eD⟩
     .rw[bB t]at e;exact(O.hok b u e).stay (fun _ _ _ q=>q) (fun c q=>by rw[bB (iQ q R)];exact q) fun c xs q=>by rw[bB (iQ q R)];exact q
   obtain⟨m,hm,_⟩:=O.loc;exact c6 D C s4 _ m I5 (Z.fpOk (by rw[j];rw[j]at l;exact l) (by rw[bB (Ne.symm a5)];exact O.free)) hm (qn D R)
  .refine aU (T.item (cf X scope (own++capN) C E B U f) rfl rfl rfl hc i _ s3 Y3 H3 _ I3 (b2 b8) b7 go) fun r s4 c0=>?_;obtain⟨u,hr,h4⟩:=c0;subst hr;refine aU h4 fun _ s5 c1=>?_;obtain⟨x,H5,I5,r5,y5,b3,c9⟩:=c1;have d0:=I5.pinned (b2 c9) (T.obj _ _ b3);refine aU (hg _ s5 Y3 H5 x u _ d0 r5 (step x H5 y5)) fun _ s6 c2=>?_;obtain⟨Y6,H6,I6,q6⟩:=c2;refine aU (ht _ s6 Y6 H6 _ I6 q6) fun ok s7 c3=>?_;obtain⟨H7,I7,q7⟩:=c3;have cM:∀{Y8:St}{H8:Hp}{s8:Shared},Inv (cf X scope (own++capN) C E B U f) ([(D,{ cls:=.type "list",data:=.seq N.toArray k })]++oK E s5.heap) Y8 H8 s8->tn (i+1) s8.heap/\(∀b∈E,H8 b=none):=fun {Y8 H8 s8} I8=>by refine⟨T.keep _ _ _ b3 fun b t o e=>(I8.pin (b,o) (bp _ (bp _ (rc t e)))).1,fun b t=>?_⟩;obtain⟨o,e,d⟩:=T.obj _ _ b3 b t;exact(I8.pin (b,o) (bp _ (bp _ (rc t e)))).2.1
   cases ok with
   |false=>obtain⟨m',hm,w7⟩:=q7;obtain⟨t7,n7⟩:=cM I7;exact⟨m',hm,i+1,ys,N,k,Y6,H7,I7.unpinned,t7,n7,r3,w7⟩
   |true=>
    refine aU (he _ s7 Y6 H7 _ I7 q7) fun u8 s8 c4=>?_;obtain⟨y,H8,I8,r8,hz,m',hm,w8⟩:=c4;obtain⟨t8,n8⟩:=cM I8;have I9:=I8.unpinned;obtain⟨eD,nD,d1,d4,_⟩:=I9.pin (D,_) (bp _ (q0i.mpr rfl));have hl:=r3.length;refine call_meets F.slot_list_append ⟨_,eD,rfl⟩ F.entry_list_append (F.args_list_append_2 _ _) (PySem.list_append D N.toArray k u8 (by rw[q0m];lia)) ⟨eD,?_⟩;have q:=PySem.IsL.update eD (fun a=>a.push u8);have e2:N.toArray.push u8=(N++[u8]).toArray:=by simp
    rw[e2]at q;have keep:∀b o,b≠D->s8.heap.get? b=some o->(s8.heap.update D (Obj.mapSeq fun a=>a.push u8)).get? b=some o:=fun b o t e=>(Heap.get?_update_other s8.heap _ (Ne.symm t)).trans e;exact⟨m',hm,i+1,ys++[y],N++[u8],_,Y6,H8,a9 (by refine(I9.pins_of (pins':=[]) fun p M=>absurd M (by simp)).turned (t':=s8.toks) (it:=D) keep nD d1 (.inr (by rw[j];exact ba _)) a6 fun p M=>?_;exact a3 p (by simpa using M)) q nD,T.keep _ _ _ t8 fun b t o e=>keep b o (by intro z;exact absurd (a0 b t) (by rw[z,j];exact q0C _)) e,n8,r3.append (.cons r8 .nil),w8⟩
 exact codeAny_compStart_list b0 (wpAny_noRaise (T.self _ 0 _ _ _ (T.keep _ _ _ b1 fun b _ o e=>old b o e) b0))
theorem vj(S:ag X scope own capN caps)(n:X.calm=true)(p:PI X tg iter wi)
  (a:∀C c d i k,PG (cf X scope (own++capN) C c d i k) tg g/\nj (cf X scope (own++capN) C c d i k) ifs tc/\PE (cf X scope (own++capN) C c d i k) elt te)
  (w:autoParam (∀x,foldedSetIterable iter X.env x=pure x) Zs._auto_1):PE X (.ListComp elt [⟨tg,iter,ifs,0⟩] scope pos) (kS own caps wi g tc te):=by
 intro l s Y H Q I h;rw[eval_ListComp];exact wpAny_comprehension_free rfl w (zR (S.cells I.ok)) S.kind S.loc (zT S n p a I h fun D C r t m u f v q=>⟨m,v,fun z j=>⟨.ref D,t,u.turned (fun b o y e=>(j.2 b y).trans e) f.1 f.2.1 f.2.2.2.1 f.2.2.2.2.1 f.2.2.2.2.2,rfl,q⟩⟩)
theorem Lp{c}(B:X.N.Nodup)(j:X.N[i]? = some y)(E:Loc X.env.scope y)(S:ag X scope own capN caps)(G:X.calm=true)(J:PI X tg iter wi)
  (k:∀C l n p w,PG (cf X scope (own++capN) C l n p w) tg g/\nj (cf X scope (own++capN) C l n p w) ifs tc/\PE (cf X scope (own++capN) C l n p w) elt te)
  (r:autoParam (swapsWith (.ListComp elt [⟨tg,iter,ifs,0⟩] scope pos) (some (.Name y py)) c.line X.env=pure true) Zq._auto_1)
  (hs:autoParam (∀x,foldedSetIterable iter X.env x=pure x) Zs._auto_1) (L:X.fn y=true\/X.env.scope.names.lookup y=some .local:=by first |exact .inl rfl |exact .inr rfl |assumption) :
  PS X (.Assign [.Name y py] (.ListComp elt [⟨tg,iter,ifs,0⟩] scope pos) c) (uJ (kS own caps wi g tc te) (ra i)):=by
 intro d s Y H D I h;rw[exec_Assign_Name_used _ _ _ _ r];refine af (wpAny_standAt (af (af (wpAny_mono (wpAny_comprehension_free rfl hs (zR (S.cells I.ok)) S.kind S.loc ?_) (fun _ t M=>aJ (aJ M)) fun _ _ e=>e))));refine zT S G J k I h fun Da C t O m R f T q=>wpAny_assign_Name (yE R B j E (v:=.ref Da) rfl (fun U Z ⟨a,sb,ha⟩=>⟨m,?_,fun h' u=>?_⟩) L)
 .apply T.sameBut sb;rcases ha with z |z
  .rw[z];exact f.2.1
  .exact Ne.symm (f.2.2.2.2.1 y a z)
 .exact⟨_,O,Z.turned (fun b o hb e=>(u.2 b hb).trans e) f.1 f.2.1 f.2.2.2.1 f.2.2.2.2.1 f.2.2.2.2.2,q⟩
end L2
namespace L2
open PySem
theorem vk{α:Type}{c a b:α}{l}(h:c∈a::l):c∈a::b::l:=by
 rcases q0b.mp h with h |h
 .exact h▸.head _
 .exact .tail _ (.tail _ h)
theorem Lq(h:Q (s.heap.get? a) s):wpAny M A (loadIfAlive a) Q E s:=by intro Γ p b;unfold loadIfAlive;rw[Sem.wp_loadIfAlive];exact aJ h Γ p b
abbrev fU(h:Heap)(z TI TO:Addr)(a f1:Value):Prop:=
 h.get? z=some { cls:=.type "zip",dict:=none,data:=.fields #[a,f1,.bool false,.ref TI,.ref TO],slots:=#[] }
abbrev dY(h:Heap)(T:Addr)(a b c:Value):Prop:=h.get? T=some { cls:=.type "tuple",data:=.seq #[a,b,c] }
theorem vl(e:dY s.heap T a b c)
  (h:∀d,d.get? T=some { cls:=.type "tuple",data:=.seq ((#[a,b,c]:Array Value).setIfInBounds k x) }->Heap.SameBut T s.heap d->Q () { s with heap:=d }) :
  wpAny (model prog w) A (updateSeq T (·.setIfInBounds k x)) Q E s:=by
 refine wpAny_updateSeq e rfl (h _ ?_ (Heap.SameBut.update ..));rw[Heap.get?_update_self _ e rfl];simp[Obj.mapSeq]
theorem Lr{TI TO }{Q:Value->Shared->Prop}
  (nd:[z,TI,TO,n,r,B].Nodup) (hl:∀l∈[l1,l2,l3],∀j∈[z,TI,TO,n,r,B],l≠j)
  (hz:fU s.heap z TI TO .none (.bool false)) (a6:dY s.heap TI (.ref n) (.ref r) (.ref B)) (a7:dY s.heap TO a b c)
  (h1:s.heap.IsListIter n l1 k) (h2:s.heap.IsListIter r l2 k) (h3:s.heap.IsListIter B l3 k) (a8:s.heap.IsList l1 xs) (a9:s.heap.IsList l2 ys) (b0:s.heap.IsList l3 zs)
  (hx:xs[k]? = some x) (hy:ys[k]? = some y) (hv:zs[k]? = some v)
  (hQ:∀H,fU H z TI TO (rawInt s.heap.objs.size) (.bool false)->dY H TO x y v->H.IsListIter n l1 (k+1)->H.IsListIter r l2 (k+1)->H.IsListIter B l3 (k+1)->dY H s.heap.objs.size x y v->H.objs.size=s.heap.objs.size+1->
   (∀c o,c∉[z,TO,n,r,B]->s.heap.get? c=some o->H.get? c=some o)->Q (.ref s.heap.objs.size) { s with heap:=H }) :
  wpAny (model prog w) A (Builtin.«zip.__next__» ⟨[.ref z],[]⟩) (fun fin s'=>∃v,fin=.done (.ret v)/\Q v s') E s:=by
 simp only[q0I,q0b,q0e,or_false,not_or,not_false_eq_true,and_true,q0M]at nd;obtain⟨⟨c0,C,z1,z2,z3⟩,⟨b9,c6,c7,c8⟩,⟨I,J,L⟩,⟨a0,a1⟩,a2⟩:=nd;have n1:∀j∈[z,TI,TO,n,r,B],l1≠j:=hl l1 (by simp);have n2:∀j∈[z,TI,TO,n,r,B],l2≠j:=hl l2 (by simp);have n3:∀j∈[z,TI,TO,n,r,B],l3≠j:=hl l3 (by simp);show wpAny _ _ (field (.ref z) 2 >>= _) _ _ _;refine af (wpAny_field hz rfl (x:=.bool false) rfl ?_);show wpAny _ _ (field (.ref z) 3 >>= _) _ _ _;refine af (wpAny_field hz rfl (x:=.ref TI) rfl ?_);refine af (wpAny_seqItems a6 rfl ?_);refine af ?_;unfold Builtin.SmallTypes.ownedTupleIsFree;refine af (wpAny_field hz rfl (x:=.none) rfl (aJ ?_));simp only[if_true];refine af (wpAny_rule ?_);refine af (wpAny_field hz rfl (x:=.ref TO) rfl ?_);refine af (wpAny_setField_rec hz (by simp) fun h₁ U d=>?_)
 replace U:fU h₁ z TI TO .ellipsis (.bool false):=U
 refine af ?_;refine af (af (wpAny_onRaise ?_));refine af (wpAny_nextOf_list_item (h1.extBut d.extBut (Ne.symm z1)) (a8.extBut d.extBut (n1 z (by simp))) hx fun h₂ b1 f=>aJ ?_);have N:dY h₂ TO a b c:=f.extBut _ _ I (d.extBut _ _ (Ne.symm C) a7);refine af (wpAny_seqItems N rfl ?_);refine af (vl N fun h₃ D g=>?_)
 replace D:dY h₃ TO x b c:=D
 refine af (wpAny_letGo (aJ ?_));refine af (af (wpAny_onRaise ?_));show wpAny _ _ (Builtin.SmallTypes.nextOf (.ref r) >>= _) _ _ _;refine af (wpAny_nextOf_list_item (((h2.extBut d.extBut (Ne.symm z2)).extBut f.extBut (Ne.symm a0)).extBut g.extBut (Ne.symm J))
  (((a9.extBut d.extBut (n2 z (by simp))).extBut f.extBut (n2 n (by simp))).extBut g.extBut (n2 TO (by simp))) hy fun h₄ b2 i=>aJ ?_)
 have O:dY h₄ TO x b c:=i.extBut _ _ J D;refine af (wpAny_seqItems O rfl ?_);refine af (vl O fun h₅ G m=>?_)
 replace G:dY h₅ TO x y c:=G
 refine af (wpAny_letGo (aJ ?_));refine af (af (wpAny_onRaise ?_));show wpAny _ _ (Builtin.SmallTypes.nextOf (.ref B) >>= _) _ _ _;refine af (wpAny_nextOf_list_item (((((h3.extBut d.extBut (Ne.symm z3)).extBut f.extBut (Ne.symm a1)).extBut g.extBut (Ne.symm L)).extBut i.extBut (Ne.symm a2)).extBut m.extBut (Ne.symm L))
  (((((b0.extBut d.extBut (n3 z (by simp))).extBut f.extBut (n3 n (by simp))).extBut g.extBut (n3 TO (by simp))).extBut i.extBut (n3 r (by simp))).extBut m.extBut (n3 TO (by simp))) hv fun h₆ b3 t=>aJ ?_)
 have R:dY h₆ TO x y c:=t.extBut _ _ L G;refine af (wpAny_seqItems R rfl ?_);refine af (vl R fun h p u=>?_)
 replace p:dY h TO x y v:=p
 refine af (wpAny_letGo (aJ (aJ ?_)));refine af (wpAny_seqItems p rfl ?_);refine af (wpAny_newTuple ?_);have a3:h.objs.size=s.heap.objs.size:=by rw[u.1,t.1,m.1,i.1,g.1,f.1,d.1]
 have a4:fU h z TI TO .ellipsis (.bool false):=u.extBut _ _ C (t.extBut _ _ z3 (m.extBut _ _ C (i.extBut _ _ z2 (g.extBut _ _ C (f.extBut _ _ z1 U)))));have b5:h.IsListIter n l1 (k+1):=((((b1.extBut g.extBut (Ne.symm I)).extBut i.extBut a0).extBut m.extBut (Ne.symm I)).extBut t.extBut a1).extBut u.extBut (Ne.symm I);have b6:h.IsListIter r l2 (k+1):=((b2.extBut m.extBut (Ne.symm J)).extBut t.extBut a2).extBut u.extBut (Ne.symm J);have b7:h.IsListIter B l3 (k+1):=b3.extBut u.extBut (Ne.symm L);have S:z<h.objs.size:=bm a4;refine af ?_;unfold Builtin.SmallTypes.ownedTupleHandOut;refine af (wpAny_setField_rec (aW _ a4) (by simp) fun h₉ X Y=>?_)
 refine wpAny_setField_rec X (by simp) fun hA M Z=>?_
 replace M:fU hA z TI TO (rawInt h.objs.size) (.bool false):=M
 have up:∀c o,c≠z->h.get? c=some o->hA.get? c=some o:=fun c o c1 e=>Z.extBut _ _ c1 (Y.extBut _ _ c1 (aW _ e));have a5:dY hA h.objs.size x y v:=Z.extBut _ _ (q0V S) (Y.extBut _ _ (q0V S) (Heap.get?_push_size _ rfl));have T:hA.objs.size=h.objs.size+1:=by rw[Z.1,Y.1,Heap.size_push]
 rw[a3]at M a5 T;refine aJ ⟨_,rfl,?_⟩;show Q (.ref h.objs.size) _;rw[a3];exact hQ hA M (up _ _ (Ne.symm C) p) (b5.at fun o e=>up _ o (Ne.symm z1) e) (b6.at fun o e=>up _ o (Ne.symm z2) e) (b7.at fun o e=>up _ o (Ne.symm z3) e) a5 T fun c o hc e=>up c o (fun q=>hc (by simp[q])) ((fun c o hc e=>by simp only[q0b,q0e,or_false,not_or]at hc;obtain⟨c1,c2,c3,c4,c5⟩:=hc;exact u.extBut _ _ c2 (t.extBut _ _ c5 (m.extBut _ _ c2 (i.extBut _ _ c4 (g.extBut _ _ c2 (f.extBut _ _ c3 (d.extBut _ _ c1 e))))))) c o hc e)
theorem zU{TI TO T:Addr}(b:f1=.bool false\/f1=.bool true)(a:fU s.heap z TI TO (rawInt T) f1)(h:s.heap.get? T=some g)
  (f:∀c,fU c z TI TO (rawInt T) (.bool true)->Heap.SameBut z s.heap c->Q false { s with heap:=c }):wpAny (model prog w) A (Builtin.SmallTypes.ownedTupleIsFree (.ref z)) Q E s:=by
 refine af (wpAny_field a rfl rfl ?_);refine af (Lq ?_);rw[q1v,h];refine af (wpAny_field a rfl rfl ?_);rcases b with rfl |rfl
 .exact af (wpAny_setField_rec a (by simp) fun i d e=>aJ (f i d e))
 .exact aJ (f s.heap a (Heap.SameBut.refl ..))
theorem Ls{TI TO T:Addr}{Q:Value->Shared->Prop}
  (nd:[z,TI,TO,d,g,h].Nodup) (G:∀l∈[p,q,r],∀j∈[z,TI,TO,d,g,h],l≠j) (H:f1=.bool false\/f1=.bool true)
  (I:fU s.heap z TI TO (rawInt T) f1) (hT:s.heap.get? T=some oT) (J:dY s.heap TI (.ref d) (.ref g) (.ref h))
  (h1:s.heap.IsListIter d p k) (h2:s.heap.IsListIter g q k) (h3:s.heap.IsListIter h r k) (L:s.heap.IsList p Y) (M:s.heap.IsList q Z) (N:s.heap.IsList r zs)
  (hx:Y[k]? = some x) (hy:Z[k]? = some y) (hv:zs[k]? = some v)
  (hQ:∀m,fU m z TI TO (rawInt T) (.bool true)->m.IsListIter d p (k+1)->m.IsListIter g q (k+1)->m.IsListIter h r (k+1)->dY m s.heap.objs.size x y v->m.objs.size=s.heap.objs.size+1->
   (∀c o,c∉[z,d,g,h]->s.heap.get? c=some o->m.get? c=some o)->Q (.ref s.heap.objs.size) { s with heap:=m }) :
  wpAny (model prog w) A (Builtin.«zip.__next__» ⟨[.ref z],[]⟩) (fun fin s'=>∃v,fin=.done (.ret v)/\Q v s') E s:=by
 simp only[q0I,q0b,q0e,or_false,not_or,not_false_eq_true,and_true,q0M]at nd;obtain⟨⟨a1,a2,z1,z2,z3⟩,⟨a0,a3,a4,a5⟩,⟨a6,a7,a8⟩,⟨t,u⟩,B⟩:=nd;have n1:∀j∈[z,TI,TO,d,g,h],p≠j:=G p (by simp);have n2:∀j∈[z,TI,TO,d,g,h],q≠j:=G q (by simp);have O:∀j∈[z,TI,TO,d,g,h],r≠j:=G r (by simp);show wpAny _ _ (field (.ref z) 2 >>= _) _ _ _;refine af (wpAny_field I rfl (x:=.bool false) rfl ?_);refine af (wpAny_field I rfl (x:=.ref TI) rfl ?_);refine af (wpAny_seqItems J rfl ?_);refine af (zU H I hT fun h₁ R a=>?_);simp only[q1d,if_false];refine af ?_;simp only[List.forIn_toArray,q2b,List.forIn_nil];refine af (af (wpAny_holding ?_));refine af (wpAny_nextOf_list_item (h1.extBut a.extBut (Ne.symm z1)) (L.extBut a.extBut (n1 z (by simp))) hx fun h₂ S b=>aJ (aJ ?_));refine af (af (wpAny_holding ?_));refine af (wpAny_nextOf_list_item ((h2.extBut a.extBut (Ne.symm z2)).extBut b.extBut (Ne.symm t)) ((M.extBut a.extBut (n2 z (by simp))).extBut b.extBut (n2 d (by simp))) hy fun h₃ U f=>aJ (aJ ?_));refine af (af (wpAny_holding ?_));refine af (wpAny_nextOf_list_item (((h3.extBut a.extBut (Ne.symm z3)).extBut b.extBut (Ne.symm u)).extBut f.extBut (Ne.symm B)) (((N.extBut a.extBut (O z (by simp))).extBut b.extBut (O d (by simp))).extBut f.extBut (O g (by simp))) hv fun C X i=>aJ (aJ (aJ ?_)));show wpAny _ _ (newTuple [x,y,v] >>= _) _ _ _;refine af (wpAny_newTuple ?_);refine aJ ⟨_,rfl,?_⟩;have n:C.objs.size=s.heap.objs.size:=by rw[i.1,f.1,b.1,a.1]
 show Q (.ref C.objs.size) { s with heap:=C.push { cls:=.type "tuple",data:=.seq #[x,y,v] } };rw[n];refine hQ _ (aW _ (i.extBut _ _ z3 (f.extBut _ _ z2 (b.extBut _ _ z1 R)))) (((S.extBut f.extBut t).extBut i.extBut u).at fun o e=>aW _ e) ((U.extBut i.extBut B).at fun o e=>aW _ e)
  (X.at fun o e=>aW _ e) ?_ (by rw[Heap.size_push,n]) fun c o D e=>aW _ ((fun c o D e=>by simp only[q0b,q0e,or_false,not_or]at D;obtain⟨c1,c2,c3,c4⟩:=D;exact i.extBut _ _ c4 (f.extBut _ _ c3 (b.extBut _ _ c2 (a.extBut _ _ c1 e)))) c o D e)
 rw[<-n];exact Heap.get?_push_size _ rfl
theorem Lu{TI TO T:Addr}(hh:A.handled=none)
  (v:[z,TI,TO,a,f,g].Nodup) (B:∀l∈[d,l2,l3],∀j∈[z,TI,TO,a,f,g],l≠j) (h:f1=.bool false\/f1=.bool true)
  (i:fU s.heap z TI TO (rawInt T) f1) (C:s.heap.get? T=some y) (m:dY s.heap TI (.ref a) (.ref f) (.ref g))
  (h1:s.heap.IsListIter a d k) (n:s.heap.IsList d t) (D:t[k]? = none)
  (G:∀p e,(∀c o,c∉[z,a]->s.heap.get? c=some o->p.get? c=some o)->(∃o,p.get? e=some o/\o.cls=.type "StopIteration")->E (.ref e) { s with heap:=p }) :
  wpAny (model prog w) A (Builtin.«zip.__next__» ⟨[.ref z],[]⟩) Q E s:=by
 simp only[q0I,q0b,or_false,not_or,and_true]at v;obtain⟨⟨H,I,J,z2,z3⟩,⟨u,L,M,N⟩,⟨O,R,S⟩,⟨U,X⟩,Y⟩:=v;show wpAny _ _ (field (.ref z) 2 >>= _) _ _ _;refine af (wpAny_field i rfl rfl ?_);refine af (wpAny_field i rfl (x:=.ref TI) rfl ?_);refine af (wpAny_seqItems m rfl ?_);refine af (zU h i C fun h₁ a0 b=>?_);refine af ?_;simp only[List.forIn_toArray,q2b];refine af (af (wpAny_holding ?_));refine af (wpAny_nextOf_list_end hh (h1.extBut b.extBut (Ne.symm J)) (n.extBut b.extBut ((B d (by simp)) z (by simp))) D fun h₂ e q he=>?_);refine G h₂ e (fun c o r x=>?_) he;simp only[q0b,q0e,or_false,not_or]at r;exact q _ _ r.2 (b.extBut _ _ r.1 x)
structure Z3 (h:Heap) (z TI TO i1 i2 i3 l1 l2 l3:Addr) (xs ys zs:Array Value) (S:Addr) (i:Nat):Prop where
 zrec:∃(f0 f1:Value),fU h z TI TO f0 f1/\(f1=.bool false\/f1=.bool true)/\((i=0/\f0=.none/\f1=.bool false)\/(0<i/\∃(T:Addr) (oT:Obj),f0=rawInt T/\h.get? T=some oT/\T∉[S,z,TO,i1,i2,i3]))
 ti:dY h TI (.ref i1) (.ref i2) (.ref i3)
 to:∃a b c,dY h TO a b c
 h1:h.IsListIter i1 l1 i
 h2:h.IsListIter i2 l2 i
 h3:h.IsListIter i3 l3 i
 l1:h.IsList l1 xs
 l2:h.IsList l2 ys
 l3:h.IsList l3 zs
def ry(h:Heap)(n:Addr)(b c d:Array Value)(a:List Value):Prop:=
 ∀(j:Nat) (v:Value),a[j]? = some v->∃(T:Addr) (x y u:Value),v=Value.ref T/\n<=T/\dY h T x y u/\b[j]? = some x/\c[j]? = some y/\d[j]? = some u
theorem Lv{TI TO }
  (D:[z,TI,TO,f,g,h].Nodup) (Y:∀l∈[u,B,C],∀j∈[z,TI,TO,f,g,h],l≠j) (st:Z3 s.heap z TI TO f g h u B C R U X S i) (hS:S<s.heap.objs.size)
  (hx:R[i]? = some x) (hy:U[i]? = some y) (hv:X[i]? = some v)
  (hQ:∀k,Z3 k z TI TO f g h u B C R U X S (i+1)->dY k s.heap.objs.size x y v->k.objs.size=s.heap.objs.size+1->(∀c o,c∉[z,TO,f,g,h]->s.heap.get? c=some o->k.get? c=some o)->Q (some (.ref s.heap.objs.size)) { s with heap:=k }) :
  wpAny (model prog w) A (pyNext (.ref z)) Q E s:=by
 obtain⟨⟨f0,f1,N,Z,hf⟩,ti,⟨a,b,c,to⟩,h1,h2,h3,m,n,p⟩:=st;have hT:s.TypeIs (.ref z) "zip":=⟨_,N,rfl⟩
 have lt:∀{c o},s.heap.get? c=some o->s.heap.objs.size≠c:=fun e=>q0V (bm e);have sub:∀l∈[u,B,C],l∉[z,TO,f,g,h]:=fun l hm z'=>by simp only[q0b,q0e,or_false]at z';rcases z' with q |q |q |q |q<;>exact Y l hm _ (by simp) q
 have G:TI∉[z,TO,f,g,h]:=by simp only[q0I,q0b,q0e,or_false,not_or,not_false_eq_true,and_true,q0M]at D;obtain⟨⟨H,I,z1,z2,z3⟩,⟨r,J,L,M⟩,_⟩:=D;simp only[q0b,q0e,or_false,not_or];exact⟨Ne.symm H,r,J,L,M⟩
 unfold pyNext;refine af (wpAny_attempt (wpAny_callSpecial?_slot hT F.slot_zip_next (wpAny_call_entry F.slot_zip_next hT F.entry_zip_next ?_ (F.args_zip_next_1 _))));rcases hf with⟨hi,rfl,rfl⟩ |⟨hi,T,oT,rfl,eT,nT⟩
 .refine Lr D Y N ti to h1 h2 h3 m n p hx hy hv fun k a1 a2 a3 a4 a5 O a7 t=>aJ ?_;exact hQ k ⟨⟨_,_,a1,.inl rfl,.inr ⟨Nat.succ_pos _,_,_,rfl,O,(by simp only[q0b,q0e,or_false,not_or];exact⟨q0V hS,lt N,lt to,(by obtain⟨_,e,_⟩:=h1;exact lt e),(by obtain⟨_,e,_⟩:=h2;exact lt e),(by obtain⟨_,e,_⟩:=h3;exact lt e)⟩)⟩⟩,t _ _ G ti,⟨_,_,_,a2⟩,a3,a4,a5,m.at fun o e=>t _ o (sub u (by simp)) e,n.at fun o e=>t _ o (sub B (by simp)) e,p.at fun o e=>t _ o (sub C (by simp)) e⟩ O a7 t
 .refine Ls D Y Z N eT ti h1 h2 h3 m n p hx hy hv fun k a1 a3 a4 a5 O a7 t=>aJ ?_;have d:∀c o,c∉[z,TO,f,g,h]->s.heap.get? c=some o->k.get? c=some o:=fun c o hc e=>t c o (fun q=>hc (vk q)) e;refine hQ k ⟨⟨_,_,a1,.inr rfl,.inr ⟨Nat.succ_pos _,_,_,rfl,d T oT (fun q=>nT (bt _ q)) eT,nT⟩⟩,d _ _ G ti,⟨a,b,c,t _ _ (by simp only[q0I,q0b,q0e,or_false,not_or,not_false_eq_true,and_true,q0M]at D;obtain⟨⟨H,I,z1,z2,z3⟩,⟨r,J,L,M⟩,⟨a9,b0,b1⟩,_⟩:=D;simp only[q0b,q0e,or_false,not_or];exact⟨Ne.symm I,a9,b0,b1⟩) to⟩,a3,a4,a5,m.at fun o e=>d _ o (sub u (by simp)) e,n.at fun o e=>d _ o (sub B (by simp)) e,p.at fun o e=>d _ o (sub C (by simp)) e⟩ O a7 d
theorem Lw{TI TO }(O:A.handled=none)
  (R:[z,TI,TO,d,f,g].Nodup) (y:∀l∈[r,t,u],∀j∈[z,TI,TO,d,f,g],l≠j) (st:Z3 s.heap z TI TO d f g r t u n v x S i) (U:0<i) (B:n[i]? = none)
  (C:∀h,(∀c o,c∉[z,d]->s.heap.get? c=some o->h.get? c=some o)->Q none { s with heap:=h }) :
  wpAny (model prog w) A (pyNext (.ref z)) Q E s:=by
 obtain⟨⟨X,f1,p,k,D⟩,ti,⟨a,b,c,to⟩,h1,h2,h3,m,G,H⟩:=st;have q:s.TypeIs (.ref z) "zip":=⟨_,p,rfl⟩
 rcases D with⟨I,_⟩ |⟨_,T,Y,rfl,J,Z⟩
 .omega
 .refine af (wpAny_attempt (wpAny_callSpecial?_slot q F.slot_zip_next
   (wpAny_call_entry F.slot_zip_next q F.entry_zip_next (Lu O R y k p J ti h1 m B fun h e L M=>?_) (F.args_zip_next_1 _))))
  obtain⟨o,ho,N⟩:=M;exact af (wpAny_isInstance ⟨o,ho,N⟩ isSubtype_stop (aJ (C _ L)))
theorem Z3.keep{TI TO }(st:Z3 h z TI TO d f g r s t v x y S i)(B:S∉[z,TI,TO,d,f,g,r,s,t])(k:∀b o,b≠S->h.get? b=some o->u.get? b=some o) :
  Z3 u z TI TO d f g r s t v x y S i:=by
 simp only[q0b,q0e,or_false,not_or]at B;obtain⟨D,E,G,H,I,J,L,M,N⟩:=B;obtain⟨⟨O,f1,Q,j,l⟩,ti,⟨a,b,c,to⟩,h1,h2,h3,m,n,p⟩:=st;refine⟨⟨O,f1,k _ _ (Ne.symm D) Q,j,?_⟩,k _ _ (Ne.symm E) ti,⟨a,b,c,k _ _ (Ne.symm G) to⟩,h1.at fun o e=>k _ o (Ne.symm H) e,h2.at fun o e=>k _ o (Ne.symm I) e,h3.at fun o e=>k _ o (Ne.symm J) e,m.at fun o e=>k _ o (Ne.symm L) e,n.at fun o e=>k _ o (Ne.symm M) e,p.at fun o e=>k _ o (Ne.symm N) e⟩;rcases l with l |⟨U,T,X,e,Y,C⟩
 .exact .inl l
 .exact .inr ⟨U,T,X,e,k _ _ (fun q=>C (by simp[q])) Y,C⟩
noncomputable abbrev bu(a:Array Value)(v:Value)(c:Nat):Nat:=if (a.push v).size==a.size then c else c+1
theorem Lx{TI TO }(hh:A.handled=none)
  (nd:[z,TI,TO,p,D,E].Nodup) (hl:∀l∈[l1,l2,l3],∀j∈[z,TI,TO,p,D,E],l≠j) (hS:S∉[z,TI,TO,p,D,E,l1,l2,l3]) (I:∀j∈[S,z,TI,TO,p,D,E],j<n₀)
  (e2:L.size=h.size) (e3:M.size=h.size) (a6:0<h.size) (hn:h.size<=sizeLine) (res) :
  ∀k i  s  a  c,h.size - i=k->i<=h.size->Z3 s.heap z TI TO p D E l1 l2 l3 h L M S i->n₀<=s.heap.objs.size->s.heap.get? S=some { cls:=.type "list",dict:=none,data:=.seq a.toArray c,slots:=#[] }->a.length=i->ry s.heap n₀ h L M a->
  (∀n d c',(∀b o,b∉[S,z,TO,p,D,E]->s.heap.get? b=some o->n.get? b=some o)->n.get? S=some { cls:=.type "list",dict:=none,data:=.seq d.toArray c',slots:=#[] }->d.length=h.size->ry n n₀ h L M d->R (.ok (.ret res)) { s with heap:=n })->
  codeAny (model prog w) A (.builtin "list.extend.loop" ⟨[.ref S,.ref z,res],[]⟩) R s:=by
 intro k
 induction k with
 |zero=>
  intro i s a c hk hi st r B f tr hR;have N:i=h.size:=by lia
  refine codeAny_builtin F.entry_extend_loop ?_;rw[Around.under_plainId F.plain_extend_loop _];show wpAny _ A.in1 (pyNext (.ref z) >>= _) _ _ s;have nS:S∉[z,p]:=fun q=>hS (by simp only[q0b,q0e,or_false]at q ⊢;rcases q with q |q<;>simp[q]);refine af (Lw hh nd hl st (by lia) (by rw[N];exact Array.getElem?_eq_none (ba _)) fun n g=>?_);refine aJ (hR n a c (fun b o I e=>g b o (fun q=>I (by simp only[q0b,q0e,or_false]at q ⊢;rcases q with q |q<;>simp[q])) e) (g S _ nS B) (f.trans N) fun j v H=>?_);obtain⟨T,x,y,u,e,G,t,q⟩:=tr j v H;refine⟨T,x,y,u,e,G,g T _ (fun m=>?_) t,q⟩;simp only[q0b,q0e,or_false]at m;rcases m with m |m
  .exact absurd (I z (by simp)) (by rw[<-m];exact q1A.mpr G)
  .exact absurd (I p (by simp)) (by rw[<-m];exact q1A.mpr G)
 |succ k ih=>
  intro i s a c hk hi st r B f tr hR;have O:i<h.size:=by lia
  refine codeAny_builtin F.entry_extend_loop ?_;rw[Around.under_plainId F.plain_extend_loop _];show wpAny _ A.in1 (pyNext (.ref z) >>= _) _ _ s;refine af (Lv nd hl st (bm B) (x:=h[i]) (y:=L[i]) (v:=M[i]) (q09 O) (q09 (by lia)) (q09 (by lia)) fun n a0 a1 Q g=>?_);have nS:S∉[z,TO,p,D,E]:=fun q=>hS (bC [l1,l2,l3] (vk q));have U:=g S _ nS B;have ha:a.toArray.size=i:=by rw[q0m];exact f
  show wpAny _ A.in1 (updateSeq S (·.push (.ref s.heap.objs.size)) >>= _) _ _ _;refine af ?_;have old:∀b o,b≠S->n.get? b=some o->(n.update S (Obj.mapSeq (·.push (.ref s.heap.objs.size)))).get? b=some o:=fun b o I e=>(Heap.get?_update_other _ _ (Ne.symm I)).trans e;have big:∀T,n₀<=T->T∉[S,z,TO,p,D,E]:=fun T G m=>by simp only[q0b,q0e,or_false]at m;rcases m with m |m |m |m |m |m<;>exact absurd (I T (by rw[m];simp)) (q1A.mpr G)
  refine wpAny_updateSeq U rfl (aJ ⟨plainId_quiet F.plain_extend_loop _,ih (i+1) _ (a++[.ref s.heap.objs.size]) (bu a.toArray (.ref s.heap.objs.size) c) (by lia) O (a0.keep hS old) ?_ ?_ (by rw[q0q,f];rfl) ?_ fun a2 d c' X Y a3 Z=>?_⟩)
   (by rw[ha];lia) (by show(a.toArray.push _).size<=sizeLine+1;rw[Array.size_push,ha];lia)
  .show n₀<=(n.update S (Obj.mapSeq (·.push (.ref s.heap.objs.size)))).objs.size;rw[(Heap.SameBut.update ..).1,Q];exact Nat.le_succ_of_le r
  .have q:=Heap.get?_update_self (Obj.mapSeq (·.push (Value.ref s.heap.objs.size))) U rfl;have e:a.toArray.push (Value.ref s.heap.objs.size)=(a++[Value.ref s.heap.objs.size]).toArray:=by simp
   have q':(n.update S (Obj.mapSeq (·.push (Value.ref s.heap.objs.size)))).get? S=some { cls:=.type "list",dict:=none,data:=.seq (a.toArray.push (Value.ref s.heap.objs.size)) (bu a.toArray (Value.ref s.heap.objs.size) c),slots:=#[] }:=q;rw[e]at q';exact q'
  .intro j v H
   by_cases a4:j<a.length
   .rw[q0G a4]at H;obtain⟨T,x,y,u,e,G,t,q⟩:=tr j v H;have nb:=big T G;exact⟨T,x,y,u,e,G,old T _ (fun C=>nb (by simp[C])) (g T _ (fun C=>nb (bt _ C)) t),q⟩
   .have a5:j=a.length:=by have:=(q0a.mp H).1;rw[q0q,q2I]at this;lia
    subst a5;rw[q0z (ba _),Nat.sub_self]at H;cases H;have nb:=big s.heap.objs.size r;refine⟨s.heap.objs.size,h[i],L[i],M[i],rfl,r,old _ _ (fun C=>nb (by simp[C])) a1,?_,?_,?_⟩<;>(rw[f];exact q09 (by lia))
  .refine hR a2 d c' (fun b o J e=>X b o J (old b o (fun C=>J (by simp[C])) (g b o (fun C=>J (bt _ C)) e))) Y a3 Z
namespace F3
theorem zip_no_len:typeLookup (.type "zip") "__len__" = pure none:=by rw[typeLookup_type,builtinLookup_eq_fast];kernel_rfl
theorem zip_no_hint:typeLookup (.type "zip") "__length_hint__" = pure none:=by rw[typeLookup_type,builtinLookup_eq_fast];kernel_rfl
theorem typeCall_zip_3(a b c):checkTypeCall "zip" ⟨[a,b,c],[]⟩=pure ():=by kernel_rfl
theorem newCall_zip_3(a b c):checkBuiltinCall "zip.__new__" ⟨[.type "zip",a,b,c],[]⟩=pure ():=by kernel_rfl
theorem args_object_init_4(a b c d):argsOk "object.__init__" ⟨[a,b,c,d],[]⟩:=by unfold argsOk;rw[signature?_of (n:=['_','_','t','i','n','i','_','_']) (by kernel_rfl) F.owner_object];kernel_rfl
end F3
noncomputable abbrev zA(h:Heap)(a:Addr):Heap:=h.push { cls:=.type "list_iterator",data:=.fields #[.ref a,.int 0 0] }
abbrev zB(h:Heap)(a b:Addr):Heap:=(zA h a).push { cls:=.type "list_iterator",data:=.fields #[.ref b,.int 0 0] }
abbrev zC(h:Heap)(a b c:Addr):Heap:=(zB h a b).push { cls:=.type "list_iterator",data:=.fields #[.ref c,.int 0 0] }
abbrev zD(h:Heap)(a b c:Addr):Heap:=(zC h a b c).push { cls:=.type "tuple",data:=.seq #[.ref h.objs.size,.ref (zA h a).objs.size,.ref (zB h a b).objs.size] }
abbrev zE(h:Heap)(a b c:Addr):Heap:=(zD h a b c).push { cls:=.type "tuple",data:=.seq #[.none,.none,.none] }
abbrev zF(h:Heap)(a b c:Addr):Heap:=(zE h a b c).push { cls:=.type "zip",data:=.fields #[.none,.bool false,.bool false,.ref (zC h a b c).objs.size,.ref (zD h a b c).objs.size] }
theorem Lz(a b c)(o p q) :
  Meets (Builtin.«zip.__new__» ⟨[.type "zip",.ref a,.ref b,.ref c],[]⟩) (fun _ R s=>s.heap.IsList a o/\s.heap.IsList b p/\s.heap.IsList c q/\
   R (.ok (.ret (.ref (zE s.heap a b c).objs.size))) { s with heap:=zF s.heap a b c }):=
 .of_wp fun t w A R s h=>by
  obtain⟨e,g,d,f,os⟩:=s;obtain⟨i,j,k,h⟩:=h;have r:=sub_zip;have l:Heap.IsList (Shared.heap ⟨e,g,d,f,os⟩) a o:=i;have m:Heap.IsList (Shared.heap ⟨e.push { cls:=.type "list_iterator",data:=.fields #[.ref a,.int 0 0] },g,d,f,os⟩) b p:=Heap.IsList.push j _;have n:Heap.IsList (Shared.heap ⟨(e.push { cls:=.type "list_iterator",data:=.fields #[.ref a,.int 0 0] }).push { cls:=.type "list_iterator",data:=.fields #[.ref b,.int 0 0] },g,d,f,os⟩) c q:=Heap.IsList.push (Heap.IsList.push k _) _
  wp_walk using wpAny_pyIter_list l,wpAny_pyIter_list m,wpAny_pyIter_list n
  exact⟨_,rfl,h⟩
theorem LA{s:Shared}(f:s.heap.IsList a q)(g:s.heap.IsList b r)(i:s.heap.IsList d t)
  (h:∀e,fU e (s.heap.objs.size+5) (s.heap.objs.size+3) (s.heap.objs.size+4) .none (.bool false)->dY e (s.heap.objs.size+3) (.ref s.heap.objs.size) (.ref (s.heap.objs.size+1)) (.ref (s.heap.objs.size+2))->
   dY e (s.heap.objs.size+4) .none .none .none->e.IsListIter s.heap.objs.size a 0->e.IsListIter (s.heap.objs.size+1) b 0->e.IsListIter (s.heap.objs.size+2) d 0->e.objs.size=s.heap.objs.size+6->
   (∀c o,s.heap.get? c=some o->e.get? c=some o)->Q (.ref (s.heap.objs.size+5)) { s with heap:=e }) :
  wpAny (model prog w) A (call (.type "zip") [.ref a,.ref b,.ref d]) Q E s:=by
 refine callType_new F.called_zip (by decide) (F3.typeCall_zip_3 _ _ _) (F3.newCall_zip_3 _ _ _) (fun obj=>F3.args_object_init_4 obj _ _ _) F.entry_zip_new
  (Lz a b d q r t) ⟨f,g,i,?_⟩
 have j:(zA s.heap a).objs.size=s.heap.objs.size+1:=Heap.size_push ..;have k:(zB s.heap a b).objs.size=s.heap.objs.size+2:=by rw[Heap.size_push,j]
 have l:(zC s.heap a b d).objs.size=s.heap.objs.size+3:=by rw[Heap.size_push,k]
 have m:(zD s.heap a b d).objs.size=s.heap.objs.size+4:=by rw[Heap.size_push,l]
 have n:(zE s.heap a b d).objs.size=s.heap.objs.size+5:=by rw[Heap.size_push,m]
 have y:(zF s.heap a b d).objs.size=s.heap.objs.size+6:=by rw[Heap.size_push,n]
 have p:(zF s.heap a b d).get? (zE s.heap a b d).objs.size=some _:=Heap.get?_push_size _ rfl;have u:(zF s.heap a b d).get? (zD s.heap a b d).objs.size=some _:=aW _ (Heap.get?_push_size _ rfl);have v:(zF s.heap a b d).get? (zC s.heap a b d).objs.size=some _:=aW _ (aW _ (Heap.get?_push_size _ rfl));have g3:(zF s.heap a b d).get? (zB s.heap a b).objs.size=some _:=aW _ (aW _ (aW _ (Heap.get?_push_size _ rfl)));have g2:(zF s.heap a b d).get? (zA s.heap a).objs.size=some _:=aW _ (aW _ (aW _ (aW _ (Heap.get?_push_size _ rfl))));have g1:(zF s.heap a b d).get? s.heap.objs.size=some _:=aW _ (aW _ (aW _ (aW _ (aW _ (Heap.get?_push_size _ rfl)))));show _/\_;rw[l,m,n]at p;rw[j,k,l]at v;rw[m]at u;rw[k]at g3;rw[j]at g2;rw[n];exact⟨⟨_,p,rfl⟩,h _ p v u ⟨_,g1,rfl,rfl⟩ ⟨_,g2,rfl,rfl⟩ ⟨_,g3,rfl,rfl⟩ y fun c o x=>
  aW _ (aW _ (aW _ (aW _ (aW _ (aW _ x)))))⟩
theorem LB{s:Shared}{TI TO :Addr}(hh:A.handled=none)
  (nd:[z,TI,TO,k,n,p].Nodup) (hl:∀l∈[x,y,B],∀j∈[z,TI,TO,k,n,p],l≠j) (C:∀j∈[z,TI,TO,k,n,p,x,y,B],j<s.heap.objs.size)
  (D:fU s.heap z TI TO .none (.bool false)) (ti:dY s.heap TI (.ref k) (.ref n) (.ref p)) (to:dY s.heap TO .none .none .none)
  (h1:s.heap.IsListIter k x 0) (h2:s.heap.IsListIter n y 0) (h3:s.heap.IsListIter p B 0) (T:s.heap.IsList x g) (U:s.heap.IsList y R) (X:s.heap.IsList B S)
  (e2:R.size=g.size) (e3:S.size=g.size) (G:0<g.size) (hn:g.size<=sizeLine)
  (hQ:∀f r c,(∀b o,b∉[z,TO,k,n,p]->s.heap.get? b=some o->f.get? b=some o)->f.get? s.heap.objs.size=some { cls:=.type "list",dict:=none,data:=.seq r.toArray c,slots:=#[] }->r.length=g.size->ry f (s.heap.objs.size+1) g R S r->
   Q (.ref s.heap.objs.size) { s with heap:=f }):wpAny (model prog w) A (call (.type "list") [.ref z]) Q E s:=by
 have H:s.heap.objs.size∉[z,TI,TO,k,n,p,x,y,B]:=fun hm=>q0C _ (C _ hm);have Y:s.heap.objs.size≠z:=fun e=>H (by simp[e]);refine callType_codes (Q₁:=fun obj s₁=>obj=.ref s.heap.objs.size/\s₁ = { s with heap:=s.heap.push { cls:=.type "list",data:=.seq #[] } }) F.called_list (F.typeCall_list_1 _) F.entry_list_init
  (code_list_new _ ⟨rfl,rfl⟩) fun obj s₁ h₁=>?_
 obtain⟨rfl,rfl⟩:=h₁;have O:(s.heap.push { cls:=.type "list",data:=.seq #[] }).get? s.heap.objs.size=some { cls:=.type "list",data:=.seq #[] }:=Heap.get?_push_size _ rfl;have t:∀f,fU f z TI TO .none (.bool false)->Shared.TypeIs { s with heap:=f } (.ref z) "zip":=fun f q=>⟨_,q,rfl⟩
 refine⟨⟨_,O,rfl⟩,F.args_list_init_2 _ _,?_⟩;refine af ?_;unfold Builtin.List.listItems;refine af (wpAny_seqItems O rfl (aJ ?_));refine af (wpAny_updateSeq O rfl ?_);have u:=Heap.get?_update_self (Obj.mapSeq (fun _=>(#[]:Array Value))) O rfl;refine af (wpAny_letGo ?_);generalize I:(s.heap.push { cls:=.type "list",data:=.seq #[] }).update s.heap.objs.size (Obj.mapSeq (fun _=>(#[]:Array Value)))=i at u ⊢;have d:∀b o,s.heap.get? b=some o->i.get? b=some o:=fun b o e=>by rw[<-I];exact(Heap.get?_update_other _ _ (q0V (bm e))).trans ((fun b o e=>aW _ e) b o e)
 have Gc:i.objs.size=s.heap.objs.size+1:=by rw[<-I,(Heap.SameBut.update ..).1,Heap.size_push]
 unfold Builtin.List.listExtendWith;refine af (wpAny_typeOf (t _ (d _ _ D)) ?_);have g1:Builtin.List.listSameRef (.ref s.heap.objs.size) (.ref z)=false:=by simp[Builtin.List.listSameRef,Y]
 have g2:(Value.type "zip"==Value.type "list")=false:=by decide
 have g3:(Value.type "zip"==Value.type "tuple")=false:=by decide
 simp only[g1,g2,g3,Bool.or_false,q1d,if_false];refine af (wpAny_pyIter_zip (s:={ s with heap:=i }) (d _ _ D) ?_);refine af (wpAny_holding ?_);unfold Builtin.List.listLengthHint;refine af (wpAny_specialOf (t _ (d _ _ D)) F3.zip_no_len ?_);show wpAny _ _ (specialOf (Value.ref z) (Str.ofString "__length_hint__") >>= _) _ _ _;refine af (wpAny_specialOf (t _ (d _ _ D)) F3.zip_no_hint ?_);refine aJ ?_;refine af (wpAny_rule ?_);refine af ?_;refine af (wpAny_updateSeq u rfl ?_);have J:=Heap.get?_update_self (Obj.mapSeq (·.push Value.none)) u rfl;refine wpAny_updateSeq (hz:=by seq_fits) J rfl ?_;have L:=Heap.get?_update_self (Obj.mapSeq (·.pop)) J rfl;generalize M:(i.update s.heap.objs.size (Obj.mapSeq (·.push Value.none))).update s.heap.objs.size (Obj.mapSeq (·.pop))=H2 at L ⊢;have a:∀b o,s.heap.get? b=some o->H2.get? b=some o:=fun b o e=>by rw[<-M];exact(Heap.get?_update_other _ _ (q0V (bm e))).trans ((Heap.get?_update_other _ _ (q0V (bm e))).trans (d b o e))
 have Ge:H2.objs.size=s.heap.objs.size+1:=by
  rw[<-M,(Heap.SameBut.update ..).1,
   show(i.update s.heap.objs.size (Obj.mapSeq (·.push Value.none))).objs.size=i.objs.size from(Heap.SameBut.update ..).1,Gc]
 refine aJ ⟨plainId_quiet F.plain_extend_loop _,Lx (A:=A.in1) (n₀:=s.heap.objs.size+1) (show A.in1.handled=none from hh) nd hl H (fun j Z=>?_) e2 e3 G hn _ g.size 0 _ [] _ rfl (q0Y _)
  ⟨⟨_,_,a _ _ D,.inl rfl,.inl ⟨rfl,rfl,rfl⟩⟩,a _ _ ti,⟨_,_,_,a _ _ to⟩,h1.at fun o e=>a _ o e,h2.at fun o e=>a _ o e,h3.at fun o e=>a _ o e,T.at fun o e=>a _ o e,U.at fun o e=>a _ o e,X.at fun o e=>a _ o e⟩
  (q2R Ge.symm) L rfl (fun j v h=>by simp at h) fun f N c' a0 a1 a2 a3=>?_⟩
 .rcases q0b.mp Z with rfl |Z
  .exact q05 _
  .exact q1w (C j (bC [x,y,B] Z))
 .refine⟨rfl,hQ f N c' (fun b o hb e=>a0 b o (fun m=>?_) (a b o e)) a1 a2 a3⟩;rcases q0b.mp m with q |q
  .exact absurd (bm e) (by rw[q];exact q0C _)
  .exact hb q
end L2
namespace L2
open PySem PySem.Spec PyProof.Rows
theorem LC(s:bY H c)(h:Rd H a u):Rd c a u:=h.imp (fun e=>s _ _ e) fun b=>by obtain⟨o,e⟩:=b;exact⟨o,s _ _ e⟩
theorem zV(n:H a=none)(h:Rd H a u):False:=by rcases h with h |⟨o,h⟩<;>(rw[n]at h;cases h)
theorem LD(h:Rd H a (.tup c))(b:Rd H a (.tup d)):c=d:=by rcases h with h |⟨o,h⟩<;>rcases b with b |⟨e,b⟩<;>(rw[h]at b;cases b<;>rfl)
noncomputable def da:List PyData->Bool
 |[]=>true
 |.tuple _::_=>true
 |_::ds=>!ds.isEmpty&&da ds
def nk(H:Hp)(a:Addr)(b:List V)(c:List PyData):Prop:=H a=some (.tup b)\/(∃o,H a=some (.frz o (.tup b)))/\da c=true
theorem nk.mono(s:bY H c)(h:nk H a d f):nk c a d f:=h.imp (fun e=>s _ _ e) fun b=>by obtain⟨⟨o,e⟩,k⟩:=b;exact⟨⟨o,s _ _ e⟩,k⟩
theorem nk.rd(h:nk H a b c):Rd H a (.tup b):=h.imp id fun z=>z.1
mutual
inductive DV (H:Hp):V->PyData->Prop where
 |non:DV H .non .none
 |bl (b:Bool):DV H (.bl b) (.bool b)
 |int (i:Int):DV H (.int i) (.int i)
 |str (x:Str):DV H (.str x) (.str x)
 |lst {a:Addr}{xs:List V}{ds:List PyData}:H a=some (.lst xs)->aG H xs ds->DV H (.ref a) (.list ds)
 |tup {a:Addr}{xs:List V}{ds:List PyData}:nk H a xs ds->aG H xs ds->DV H (.ref a) (.tuple ds)
inductive aG (H:Hp):List V->List PyData->Prop where
 |nil:aG H [] []
 |cons {x:V}{xs:List V}{d:PyData}{ds:List PyData}:DV H x d->aG H xs ds->aG H (x::xs) (d::ds)
end
theorem DV.mono(s:bY H H'):∀{v d},DV H v d->DV H' v d:=fun h=>DV.rec .non .bl .int .str (fun h _ k=>.lst (s _ _ h) k) (fun h _ k=>.tup (h.mono s) k) .nil (fun _ _ a b=>.cons a b) h
theorem aG.mono(s:bY H H'):∀{c e},aG H c e->aG H' c e:=fun h=>aG.rec .non .bl .int .str (fun h _ k=>.lst (s _ _ h) k) (fun h _ k=>.tup (h.mono s) k) .nil (fun _ _ a b=>.cons a b) h
theorem aG.length:∀{b a},aG H b a->b.length=a.length:=by
 intro b a
 induction a generalizing b with
 |nil=>intro h;cases h;rfl
 |cons d a c=>intro h;cases h with
  |cons _ r=>exact congrArg (·+1) (c r)
theorem aG.append:∀{b c a e},aG H b a->aG H c e->aG H (b++c) (a++e):=by
 intro b c a e
 induction a generalizing b with
 |nil=>intro h s;cases h;exact s
 |cons d a f=>intro h s;cases h with
  |cons h r=>exact .cons h (f r s)
theorem aG.get:∀{a b}{i:Nat}{d},aG H a b->b[i]? = some d->∃v,a[i]? = some v/\DV H v d
 |_,_,_,_,.nil,e=>by simp at e
 |_,_,0,_,.cons h _,e=>by simp at e;subst e;exact⟨_,rfl,h⟩
 |_,_,i+1,d,.cons _ r,e=>by obtain⟨v,h1,h2⟩:=r.get (by simpa using e);exact⟨v,by simpa using h1,h2⟩
theorem aG.get':∀{a b}{i:Nat}{v},aG H a b->a[i]? = some v->∃d,b[i]? = some d/\DV H v d
 |_,_,_,_,.nil,e=>by simp at e
 |_,_,0,_,.cons h _,e=>by simp at e;subst e;exact⟨_,rfl,h⟩
 |_,_,i+1,d,.cons _ r,e=>by obtain⟨v,h1,h2⟩:=r.get' (by simpa using e);exact⟨v,by simpa using h1,h2⟩
theorem aG.drop:∀{a b} n,aG H a b->aG H (a.drop n) (b.drop n)
 |_,_,0,r=>r
 |_,_,_+1,.nil=>.nil
 |_,_,n+1,.cons _ r=>r.drop n
theorem bS(h:H a=none):bY H (aL H a o):=fun b u e=>by rw[bB (iQ e h)];exact e
theorem DV.tup_inv(h:DV H v (.tuple c)):∃a b,v=.ref a/\Rd H a (.tup b)/\aG H b c:=by cases h with |tup h r=>exact⟨_,_,rfl,h.rd,r⟩
theorem DV.tup_invK(h:DV H v (.tuple b))(d:da b=false):∃a c,v=.ref a/\H a=some (.tup c)/\aG H c b:=by cases h with |tup h r=>exact⟨_,_,rfl,h.elim id (fun z=>by rw[d]at z;cases z.2),r⟩
theorem DV.lst_inv(h:DV H v (.list c)):∃a b,v=.ref a/\H a=some (.lst b)/\aG H b c:=by cases h with |lst h r=>exact⟨_,_,rfl,h,r⟩
theorem DV.int_inv(h:DV H v (.int i)):v=.int i:=by cases h;rfl
theorem DV.str_inv(h:DV H v (.str x)):v=.str x:=by cases h;rfl
theorem DV.bl_inv(h:DV H v (.bool b)):v=.bl b:=by cases h;rfl
theorem DV.non_inv(h:DV H v .none):v=.non:=by cases h;rfl
theorem Inv.reads{Y:St}(I:Inv X pins Y H s)(h:DV H v d):bj v u->∃as,Reads s.heap u d as:=
 DV.rec (motive_2:=fun j p _=>∀a,bi j a->∃as,ReadsAll s.heap a p as)
  (fun u r=>by cases r;exact⟨_,.none⟩) (fun b u r=>by cases r;exact⟨_,.bool b⟩) (fun i u r=>by obtain⟨t,rfl⟩:=r;exact⟨_,.int i t⟩) (fun x u r=>by obtain⟨t,rfl⟩:=r;exact⟨_,.str x t⟩)
  (fun h q k u r=>by
   cases r;obtain⟨_,f,n,g,e⟩:=I.hok _ _ h;obtain⟨as,z⟩:=k _ g;exact⟨_,reads_list_at e rfl rfl (by simpa using z)⟩)
  (fun h q k u r=>by
   cases r;obtain⟨_,f,g,o,e,c,n,d⟩:=h.rd.ok I.hok;obtain⟨as,z⟩:=k _ g;exact⟨_,reads_tuple_at e c d (by simpa using z)⟩)
  (fun a r=>by cases r;exact⟨_,.nil⟩)
  (fun h q w l a r=>by
   cases r with
   |cons r m=>
   obtain⟨as,z⟩:=w _ r;obtain⟨bs,z'⟩:=l _ m;exact⟨_,.cons z z'⟩) h u
def vm(neg:Bool):R2:=fun x y H Q=>∃d e,DV H x d/\DV H y e/\SeqAt.shaped d=true/\SeqAt.shaped e=true/\Q (.bl (PyData.eqv d e != neg)) H
theorem zW(b:X.A.units+64<cLine):dk X (compareOp .Eq) (vm false):=by intro a s Y H x y v u Q I c f h;obtain⟨d,e,h1,h2,h3,g,q⟩:=h;obtain⟨as,i⟩:=I.reads h1 c;obtain⟨bs,j⟩:=I.reads h2 f;exact eq_dataH i j h3 g b ⟨_,H,I,by show Value.bool (PyData.eqv d e)=Value.bool (PyData.eqv d e != false);rw[Bool.bne_false],q⟩
theorem LF(b:X.A.units+64<cLine):dk X (compareOp .NotEq) (vm true):=by intro a s Y H x y v u Q I c f h;obtain⟨d,e,h1,h2,h3,g,q⟩:=h;obtain⟨as,i⟩:=I.reads h1 c;obtain⟨bs,j⟩:=I.reads h2 f;exact ne_dataH i j h3 g b ⟨_,H,I,by show Value.bool (!PyData.eqv d e)=Value.bool (PyData.eqv d e != true);rw[Bool.bne_true],q⟩
@[simp]noncomputable def vn:PyData->String
 |.none=>"NoneType"
 |.bool _=>"bool"
 |.int _=>"int"
 |.str _=>"str"
 |.list _=>"list"
 |.tuple _=>"tuple"
 |.dict _=>"dict"
def LG:List V->Hp->VK->Prop:=fun a H Q=>∃x d n b,a=[x,.ty n]/\DV H x d/\(∀K:Frag,kitOne K (.type (vn d)) (.type n)=some b)/\Q (.bl b) H
theorem LH:ie X (.builtin "isinstance") LG:=by
 intro g s Y H k m Q I r h;obtain⟨x,d,n,b,rfl,hd,e,q⟩:=h;obtain⟨u,w,rfl,f,l⟩:=vals2 r;cases l;have fin:∀j,EP X g Y Q (.bool b) { s with toks:=j }:=fun j=>⟨.bl b,H,I.tok j,rfl,q⟩
 cases hd with
 |non=>exact oO I f .non (e _) fin
 |bl c=>exact oO I f (.bl c) (e _) fin
 |int i=>exact oO I f (.int i) (e _) fin
 |str z=>exact oO I f (.str z) (e _) fin
 |lst h r=>exact oO I f (.lst h) (e _) fin
 | @tup a k ds h r=>cases(f);obtain⟨_,_,_,p⟩:=h.rd.ok I.hok;obtain⟨o,h1,h2,_⟩:=p;exact kia_one PySem.W.kitx_tuple I.kIn ⟨o,h1,h2⟩ (e _) (fun z=>nomatch z) fin
theorem Inv.turnedNew{Y:St}{ch:List Addr}{a:Addr}(I:Inv X pins Y H s)(f:∀b∈ch,iA X pins H b)(k:∀b d,b∉ch->s.heap.get? b=some d->h'.get? b=some d)(p:s.heap.objs.size<=a)
  (there:∀b∈ch,∀d,s.heap.get? b=some d->∃l,h'.get? b=some l) (new:cI X.prog X.w (aL H a o) h' a o):Inv X pins Y (aL H a o) { s with heap:=h',toks:=t' }:=by
 have i:=I.hok.fresh p;have j:∀b u,H b=some u->b∉ch:=fun b u e z=>by rw[(f b z).1]at e;cases e
 refine I.step (fun b h=>⟨(f b h).2.2.2.1,(f b h).2.1,(f b h).2.2.2.2.1,(f b h).2.2.2.2.2⟩) (fun b d _ _ g e _=>k b d g e) (fun b d _ _ g e _=>⟨d.slots,k b d g e⟩)
  (fun b d _ e n=>by rw[bB (q0t (q0n (bm e) p))];exact n) (fun b d g e=>⟨d,k b d g e⟩) (fun b x e=>bS i b _ e) (fun b d u e=>bS i b _ e) (fun b C e=>⟨#[],by rw[bS i b _ e];simp⟩) (fun m y=>?_) (fun b u e=>?_) I.bare
 .obtain⟨t,A,B,ho,r⟩:=y;exact⟨t,A,B,k _ t (fun z=>(f _ z).2.1 rfl) ho,r⟩
 .by_cases h:b=a
  .subst h;rw[cG]at e;cases e;exact new
  .rw[bB h]at e;refine(I.hok b u e).stay (fun c v g q=>k c v ?_ q) (fun c q=>bS i c _ q) fun c x q=>bS i c _ q;rcases g with z |z
   .rw[z];exact j b u e
   .exact j c _ z
def zX(K:Frag)(a:Addr):It:=
 ⟨fun i H=>∃b x,cZ K H a b/\b[i]? = some x,fun i H v c=>∃T x,v=.ref T/\H T=none/\c = aL H T (.tup [.int i,x])/\∀b,cZ K H a b->b[i]? = some x,fun i H=>∃b,cZ K H a b/\b.length<=i⟩
theorem LI{K}(a e it)(hne:e≠it):gn P w K (.Tuple elts kk tpos) (zX K a) [e,it] e (fun i h=>(∃old,IsEnum h e it i old)/\h.IsListIter it a i) where
 mem:=by simp
 obj:=fun i h st b hb=>by
  obtain⟨⟨old,he⟩,o,e1,c,d⟩:=st;rcases q0b.mp hb with rfl |hb
  .exact⟨_,he,fun v z=>by cases z⟩
  .obtain rfl:=q0i.mp hb;exact⟨o,e1,fun v z=>by rw[d]at z;cases z⟩
 keep:=fun i h h' st k=>⟨st.1.elim fun old he=>⟨old,k e (by simp) _ he⟩,st.2.at fun o e'=>k it (by simp) o e'⟩
 item:=by
  intro X hP hw hK hc i pins s Y H E I hf st hg;subst hP hw hK;obtain⟨⟨old,he⟩,hit⟩:=st;obtain⟨xs,x,hq,hx⟩:=hg;obtain⟨its,rv,p,hz⟩:=I.list hq;obtain⟨u,hu,ru⟩:=rv.get hx;refine wpAny_pyNext_enum_item he hit p.isList (by simpa using hu) hne fun h' ho hi' hT hsz hk=>⟨_,rfl,?_⟩
  refine wpAny_letOwnedTupleGo_enum ho fun h2 he2 hs2=>?_;have I1:Inv X pins Y (aL H s.heap.objs.size (.tup [.int i,x])) { s with heap:=h2,toks:=s.toks+1 }:=by
   refine I.turnedNew hf (fun b ob hb q=>by simp only[q0b,q0e,or_false,not_or]at hb;exact(hs2.2 b hb.1).trans (hk b ob hb.1 hb.2 q)) (ba _) (fun b hb ob q=>?_) ?_
   .rcases q0b.mp hb with rfl |hb
    .exact⟨_,he2⟩
    .obtain rfl:=q0i.mp hb;obtain⟨o,e1,_⟩:=hi';exact⟨o,(hs2.2 b hne.symm).trans e1⟩
   .exact⟨by show 2<=sizeLine;decide,[.int i s.toks,u],.cons ⟨_,rfl⟩ (.cons ru .nil),⟨_,(hs2.2 _ (q0V (bm he))).trans hT,rfl,_,rfl⟩⟩
  refine⟨.ref s.heap.objs.size,_,I1,rfl,⟨_,x,rfl,I.hok.fresh (ba _),rfl,fun ys hy=>by rw[I.list_inj hy hq];exact hx⟩,⟨⟨_,by simpa using he2⟩,hi'.at fun o e1=>(hs2.2 it hne.symm).trans e1⟩,fun b hb=>?_⟩;have hb':b<s.heap.objs.size:=by
   rcases q0b.mp hb with rfl |hb
   .exact bm he
   .obtain rfl:=q0i.mp hb;obtain⟨o,e1,_⟩:=hit;exact bm e1
  rw[bB (q0t hb')];exact(hf b hb).1
 done:=by intro X hP hw hK hc i pins s Y H E I hf st hg;subst hP hw hK;obtain⟨⟨old,he⟩,hit⟩:=st;obtain⟨xs,hq,hx⟩:=hg;obtain⟨its,rv,p,hz⟩:=I.list hq;obtain⟨f0,f1,f2,f3,f4,f5⟩:=hf it (by simp);have hl:=rv.length;exact wpAny_pyNext_enum_end (I.ok.hd hc) he hit p.isList (by simp;lia) fun h' eb=>⟨rfl,I.turned (fun b o hb e=>eb b o hb e) f0 f1 f3 f4 f5⟩
 self:=fun _ _ _ _ _ st h=>st.1.elim fun _ he=>wpAny_pyIter_enum he h
def LJ(K:Frag)(c:TA):TI:=fun Y H R=>c Y H fun d b=>∃a e,d=[.ref a]/\cZ K b a e/\R (zX K a) b
theorem LL(j:Gl X "enumerate")(k:X.mg "enumerate" = none)(m:PA X [a] g)(A:autoParam (starEach [a] X.env=[(false,eval a X.env)]) Zq._auto_1):PI X (.Tuple elts kk tpos) (.Call (.Name "enumerate" p) [a] [] pos) (LJ X.K g):=by
 intro d s Y H R I h;refine Call_ (iz I j k (show bootBuiltins "enumerate" = some (.type "enumerate") by decide +kernel) (PyProof.Rows.callWith_type1 (aU (m pos d s Y H _ I h) fun B c e=>?_) A rfl));obtain⟨C,n,I1,o,r⟩:=e;obtain⟨l,D,rfl,t,q⟩:=r;obtain⟨u,rfl,ru⟩:=vals1 o;cases ru;obtain⟨v,E,p,G⟩:=I1.list t;refine call_enumerate_list p.isList fun w i x y z=>?_;apply wpAny_pyIter_enum i;refine⟨c.heap.objs.size+1,[c.heap.objs.size+1,c.heap.objs.size],_,_,n,rfl,I1.kept z,LI l _ _ (Nat.succ_ne_self _),⟨⟨_,i⟩,x⟩,fun b f=>?_,q⟩;have hb':c.heap.objs.size<=b:=by
  rcases q0b.mp f with rfl |f
  .exact q1u _
  .obtain rfl:=q0i.mp f;exact ba _
 exact I1.fpOk hb' (I1.hok.fresh hb')
end L2
namespace L2.L3
open PySem PySem.Spec PyProof.Rows
noncomputable def au(O:List Addr)(H:Hp):Hp:=fun b=>if b∈O then none else H b
theorem iV(h:H b=some o)(n:b∉O):au O H b=some o:=by unfold au;rw[if_neg n];exact h
theorem cK(h:au O H b=some o):H b=some o/\b∉O:=by
 unfold au at h
 by_cases e:b∈O
 .rw[if_pos e]at h;cases h
 .rw[if_neg e]at h;exact⟨h,e⟩
theorem ig(h:Rd (au O H) a u):Rd H a u/\a∉O:=by
 rcases h with h |⟨o,h⟩
 .obtain⟨e,n⟩:=cK h;exact⟨.inl e,n⟩
 .obtain⟨e,n⟩:=cK h;exact⟨.inr ⟨o,e⟩,n⟩
theorem rz:bY (au O H) H:=fun b o h=>(cK h).1
structure aQ (O:List Addr) (H:Hp) (O':List Addr) (H':Hp):Prop where
 keep:∀b o,b∉O->H b=some o->H' b=some o
 new:∀a∈O',a∈O\/H a=none
theorem aQ.refl:aQ O H O H:=⟨fun _ _ _ h=>h,fun _ h=>.inl h⟩
theorem aQ.trans(a:aQ f H1 g H2)(b:aQ g H2 i j):aQ f H1 i j:=by
 have k:∀c o,c∉f->H1 c=some o->c∉g:=fun c o d e z=>(a.new c z).elim d fun n=>by rw[n]at e;cases e
 refine⟨fun c o d e=>b.keep c o (k c o d e) (a.keep c o d e),fun c h=>?_⟩
 by_cases d:c∈f
 .exact .inl d
 .refine .inr ?_;cases e:H1 c with
  |none=>rfl
  |some o=>
   rcases b.new c h with z |z
   .exact absurd z (k c o d e)
   .rw[a.keep c o d e]at z;cases z
theorem aQ.same(s:bY H H'):aQ O H O H':=⟨fun b o _ e=>s b o e,fun _ h=>.inl h⟩
theorem aQ.hid(s:aQ O H O' H'):bY (au O H) (au O' H'):=fun b o e=>by
 obtain⟨a,n⟩:=cK e;refine iV (s.keep b o n a) fun z=>?_;rcases s.new b z with q |q
 .exact n q
 .rw[q]at a;cases a
theorem oQ(s:bY H H'):bY (au O H) (au O H'):=(aQ.same s).hid
theorem rA(s:∀a∈O',a∈O):bY (au O H) (au O' H):=fun b o e=>by obtain⟨c,n⟩:=cK e;exact iV c fun z=>n (s b z)
set_option genInjectivity true in
inductive Fl where
 |d (x:PyData) |l (ds:List PyData) |m (tk:Bool) (kvs:List (PyData×PyData))
set_option genInjectivity true in
inductive Bx where
 |l (ds:List PyData) |m (tk:Bool) (kvs:List (PyData×PyData)) |o (C:Addr) (fs:List (Str×Fl)) |sd (fs:List (Str×Fl)) |ll (xs:List (List PyData)) |pr (C:Addr) (fs:List (Str×Fl)) (d:PyData) |oo (C:Addr) (fss:List (List (Str×Fl)))
set_option genInjectivity true in
inductive aa where
 |dat (d:PyData)
 |own (io:Bool) (b:Bx)
 |scr (ns:List Int)
 |exc (c:Str)
 |vw (b:Bx)
abbrev aj:=List (Option aa)
structure Fx where
 H₀:Hp
 A₀:List Addr
 O₀:List Addr
 I₀:Nat->Addr
def jx(K:Frag)(H:Hp)(a:Addr)(c:List Int):Prop:=c.length<=63/\((∃o,H a=some (.frz o (.lst (c.map V.int))))\/
 ∃(o:Obj) (b:Array Value) (n:Nat),K.lookup a=some o/\o.cls=.type "list"/\o.dict=none/\o.data=.seq b n/\b.size<=sizeLine/\bi (c.map V.int) b.toList)
theorem jx.sq{K}(h:jx K H a c):cZ K H a (c.map V.int):=h.2.elim (fun b=>by obtain⟨o,e⟩:=b;exact .inl (.inr ⟨o,e⟩)) .inr
theorem jx.mono{K}(h:jx K H a d)(k:∀o u,H a=some (.frz o u)->c a=some (.frz o u)):jx K c a d:=⟨h.1,h.2.imp (fun b=>by obtain⟨o,e⟩:=b;exact⟨o,k _ _ e⟩) id⟩
def LM(K:Frag)(a:Addr)(c:Str)(h:Heap):Prop:=∃C o,nsIn K mainGlobals c=some (some (.ref C))/\h.get? a=some o/\o.cls=.ref C
noncomputable def iW:bf->PyData
 |.inl i=>.int i
 |.inr x=>.str x
def rB(a:List bf):PyData:=.tuple (a.map iW)
def kc(G H:Hp)(a:Addr):Bool->List (PyData×PyData)->Prop
 |false,b=>∃c:List (bf×V),H a=some (.dK c)/\Paired (fun(p:bf×V) (q:PyData×PyData)=>iW p.1=q.1/\DV G p.2 q.2) c b
 |true,b=>∃c:List (List bf×V),H a=some (.dT c)/\Paired (fun(p:List bf×V) (q:PyData×PyData)=>rB p.1=q.1/\DV G p.2 q.2) c b
def gH(G H:Hp)(v:V):Fl->List Addr->Prop
 |.d x,b=>b=[]/\DV G v x
 |.l ds,b=>∃a e,v=.ref a/\b=[a]/\H a=some (.lst e)/\aG G e ds
 |.m f c,b=>∃a,v=.ref a/\b=[a]/\kc G H a f c
inductive bq (G H:Hp):List (Str×V)->List (Str×Fl)->List (List Addr)->Prop where
 |nil:bq G H [] [] []
 |cons {n:Str}{v:V}{f:Fl}{fp:List Addr}{gs:List (Str×V)}{fs:List (Str×Fl)}{fps:List (List Addr)}:gH G H v f fp->bq G H gs fs fps->bq G H ((n,v)::gs) ((n,f)::fs) (fp::fps)
def rC(G H:Hp)(b:Addr)(c:List PyData):Prop:=∃a,H b=some (.lst a)/\aG G a c
def LN(G H:Hp)(C b:Addr)(fs:List (Str×Fl))(e:List Addr):Prop:=∃c d a,e=b::c::a.flatten/\H b=some (.ins C c d)/\H c=some (.own b)/\bq G H d fs a
inductive bQ (G H:Hp) (C:Addr):List Addr->List (List (Str×Fl))->List (List Addr)->Prop where
 |nil:bQ G H C [] [] []
 |cons {b:Addr}{fs:List (Str×Fl)}{fp:List Addr}{bs:List Addr}{fss:List (List (Str×Fl))}{fps:List (List Addr)}:LN G H C b fs fp->bQ G H C bs fss fps->bQ G H C (b::bs) (fs::fss) (fp::fps)
def fF(G H:Hp)(a:Addr):Bx->List Addr->Prop
 |.l ds,c=>c=[a]/\∃g,H a=some (.lst g)/\aG G g ds
 |.m k i,c=>c=[a]/\kc G H a k i
 |.o C fs,c=>∃f e b,c=a::f::b.flatten/\H a=some (.ins C f e)/\H f=some (.own a)/\bq G H e fs b
 |.sd fs,c=>∃e b,c=a::b.flatten/\H a=some (.dK (e.map fun p=>(Sum.inr p.1,p.2)))/\bq G H e fs b
 |.ll g,c=>∃bs:List Addr,c=a::bs/\H a=some (.lst (bs.map V.ref))/\Paired (rC G H) bs g
 |.pr C fs d,c=>∃h v f e b,G a=some (.tup [.ref h,v])/\c=h::f::b.flatten/\H h=some (.ins C f e)/\H f=some (.own h)/\bq G H e fs b/\DV G v d
 |.oo C j,c=>∃bs b,c=a::b.flatten/\H a=some (.lst (bs.map V.ref))/\bQ G H C bs j b
def Mv:HO->Prop
 |.lst _=>True
 |.dK _=>True
 |.dT _=>True
 |.ins _ _ _=>True
 |.own _=>True
 |_=>False
def eZ(K:Frag)(H:Hp)(O:List Addr)(v:V):aa->List Addr->Prop
 |.dat d,_=>DV (au O H) v d
 |.own _ b,e=>∃a,v=.ref a/\fF (au O H) H a b e
 |.scr ns,_=>∃a,v=.ref a/\jx K H a ns
 |.exc c,_=>∃a φ,v=.ref a/\au O H a=some (.ext φ)/\∀h,φ h->LM K a c h
 |.vw b,_=>∃a e,v=.ref a/\fF (au O H) (au O H) a b e
theorem kc.keep(h:kc G H a c b)(k:H' a=H a)(g:bY G G'):kc G' H' a c b:=by
 cases c with
 |false=>obtain⟨d,e,p⟩:=h;exact⟨d,k.trans e,Paired.mapP p fun _ _ z=>⟨z.1,DV.mono g z.2⟩⟩
 |true=>obtain⟨d,e,p⟩:=h;exact⟨d,k.trans e,Paired.mapP p fun _ _ z=>⟨z.1,DV.mono g z.2⟩⟩
theorem kc.live(h:kc G H a c b):∃o,H a=some o/\Mv o:=by
 cases c with
 |false=>obtain⟨d,e,p⟩:=h;exact⟨_,e,trivial⟩
 |true=>obtain⟨d,e,p⟩:=h;exact⟨_,e,trivial⟩
theorem gH.keep(h:gH G H v f fp)(k:∀c∈fp,H' c=H c)(g:bY G G'):gH G' H' v f fp:=by
 cases f with
 |d x=>exact⟨h.1,DV.mono g h.2⟩
 |l ds=>obtain⟨a,j,e,b,i,n⟩:=h;exact⟨a,j,e,b,(k a (by simp[b])).trans i,aG.mono g n⟩
 |m p o=>obtain⟨a,e,b,i⟩:=h;exact⟨a,e,b,i.keep (k a (by simp[b])) g⟩
theorem gH.live(h:gH G H v f fp):∀c∈fp,∃o,H c=some o/\Mv o:=by
 cases f with
 |d x=>obtain⟨rfl,_⟩:=h;intro c b;cases b
 |l ds=>obtain⟨a,j,g,rfl,e,k⟩:=h;intro c b;obtain rfl:=q0i.mp b;exact⟨_,e,trivial⟩
 |m n i=>obtain⟨a,g,rfl,e⟩:=h;intro c b;obtain rfl:=q0i.mp b;exact e.live
theorem bq.keep(h:bq G H f fs d)(k:∀c∈d.flatten,H' c=H c)(g:bY G G'):bq G' H' f fs d:=by
 induction h with
 |nil=>exact .nil
 |cons a b i=>exact .cons (a.keep (fun c e=>k c (by simp[e])) g) (i fun c e=>k c (by rw[q0g];exact bp _ e))
theorem bq.live(h:bq G H f fs e):∀c∈e.flatten,∃o,H c=some o/\Mv o:=by
 induction h with
 |nil=>intro c d;cases d
 |cons a b g=>
  intro c d;rw[q0g]at d;rcases q0d.mp d with d |d
  .exact a.live c d
  .exact g c d
theorem Lls.keep(h:Paired (rC G H) bs f)(k:∀c∈bs,H' c=H c)(g:bY G G'):Paired (rC G' H') bs f:=by
 induction h with
 |nil=>exact .nil
 |cons a b i=>obtain⟨j,e,d⟩:=a;exact .cons ⟨j,(k _ q0f).trans e,aG.mono g d⟩ (i fun c l=>k c (bt _ l))
theorem Lls.live(h:Paired (rC G H) bs g):∀c∈bs,∃o,H c=some o/\Mv o:=by
 induction h with
 |nil=>intro c f;cases f
 |cons a b i=>
  intro c f;obtain⟨j,e,d⟩:=a;rcases q0b.mp f with rfl |f
  .exact⟨_,e,trivial⟩
  .exact i c f
theorem bQ.keep(h:bQ G H C bs d b)(k:∀c∈b.flatten,H' c=H c)(g:bY G G'):bQ G' H' C bs d b:=by
 induction h with
 |nil=>exact .nil
 |cons o _ j=>obtain⟨i,l,b,rfl,m,n,f⟩:=o;exact .cons ⟨i,l,b,rfl,(k _ (by simp)).trans m,(k i (by simp)).trans n,f.keep (fun c e=>k c (by simp[e])) g⟩ (j fun c e=>k c (by rw[q0g];exact bp _ e))
theorem bQ.live(h:bQ G H C bs e d):∀c∈d.flatten,∃o,H c=some o/\Mv o:=by
 induction h with
 |nil=>intro c b;cases b
 |cons o _ g=>
  obtain⟨k,l,d,rfl,i,j,f⟩:=o;intro c b;rw[q0g]at b;rcases q0d.mp b with b |b
  .rcases q0b.mp b with rfl |b
   .exact⟨_,i,trivial⟩
   .rcases q0b.mp b with rfl |b
    .exact⟨_,j,trivial⟩
    .exact f.live c b
  .exact g c b
theorem fF.keep(h:fF G H a b fp)(k:∀c∈fp,H' c=H c)(g:bY G G'):fF G' H' a b fp:=by
 cases b with
 |l ds=>obtain⟨rfl,s,e,d⟩:=h;exact⟨rfl,s,(k a (by simp)).trans e,aG.mono g d⟩
 |m z u=>obtain⟨rfl,d⟩:=h;exact⟨rfl,d.keep (k a (by simp)) g⟩
 |o C fs=>obtain⟨p,q,i,rfl,j,r,f⟩:=h;exact⟨p,q,i,rfl,(k a (by simp)).trans j,(k p (by simp)).trans r,f.keep (fun c n=>k c (by simp[n])) g⟩
 |sd fs=>obtain⟨q,i,rfl,j,f⟩:=h;exact⟨q,i,rfl,(k a (by simp)).trans j,f.keep (fun c n=>k c (by simp[n])) g⟩
 |ll s=>obtain⟨bs,rfl,j,f⟩:=h;exact⟨bs,rfl,(k a (by simp)).trans j,Lls.keep f (fun c n=>k c (by simp[n])) g⟩
 |pr C fs d=>obtain⟨t,v,p,q,i,w,rfl,j,r,f,x⟩:=h;exact⟨t,v,p,q,i,g _ _ w,rfl,(k t (by simp)).trans j,(k p (by simp)).trans r,f.keep (fun c n=>k c (by simp[n])) g,DV.mono g x⟩
 |oo C y=>obtain⟨bs,i,rfl,j,f⟩:=h;exact⟨bs,i,rfl,(k a (by simp)).trans j,bQ.keep f (fun c n=>k c (bt _ n)) g⟩
theorem fF.live(h:fF G H a b fp):∀c∈fp,∃o,H c=some o/\Mv o:=by
 cases b with
 |l ds=>obtain⟨rfl,p,e,d⟩:=h;intro c g;obtain rfl:=q0i.mp g;exact⟨_,e,trivial⟩
 |m t q=>obtain⟨rfl,d⟩:=h;intro c g;obtain rfl:=q0i.mp g;exact d.live
 |o C fs=>
  obtain⟨r,n,j,rfl,i,k,f⟩:=h;intro c g;rcases q0b.mp g with rfl |g
  .exact⟨_,i,trivial⟩
  .rcases q0b.mp g with rfl |g
   .exact⟨_,k,trivial⟩
   .exact f.live c g
 |sd fs=>
  obtain⟨n,j,rfl,i,f⟩:=h;intro c g;rcases q0b.mp g with rfl |g
  .exact⟨_,i,trivial⟩
  .exact f.live c g
 |ll p=>
  obtain⟨bs,rfl,i,f⟩:=h;intro c g;rcases q0b.mp g with rfl |g
  .exact⟨_,i,trivial⟩
  .exact Lls.live f c g
 |pr C fs d=>
  obtain⟨x,v,r,n,j,u,rfl,i,k,f,w⟩:=h;intro c g;rcases q0b.mp g with rfl |g
  .exact⟨_,i,trivial⟩
  .rcases q0b.mp g with rfl |g
   .exact⟨_,k,trivial⟩
   .exact f.live c g
 |oo C s=>
  obtain⟨bs,j,rfl,i,f⟩:=h;intro c g;rcases q0b.mp g with rfl |g
  .exact⟨_,i,trivial⟩
  .exact bQ.live f c g
theorem eZ.keep{K}(h:eZ K H O v c fp)(s:aQ O H j H')(k:∀b∈fp,H' b=H b)(z:∀b o u,H b=some (.frz o u)->H' b=some (.frz o u)):eZ K H' j v c fp:=by
 cases c with
 |dat d=>exact DV.mono s.hid h
 |own io b=>obtain⟨a,e,q⟩:=h;exact⟨a,e,q.keep k s.hid⟩
 |scr ns=>obtain⟨a,f,q⟩:=h;exact⟨a,f,q.mono fun o u w=>z _ _ _ w⟩
 |exc c=>obtain⟨a,φ,f,g,q⟩:=h;exact⟨a,φ,f,s.hid _ _ g,q⟩
 |vw b=>obtain⟨a,i,f,q⟩:=h;exact⟨a,i,f,q.keep (fun c l=>by obtain⟨o,g,_⟩:=q.live c l;rw[g];exact s.hid _ _ g) s.hid⟩
structure cL (K:Frag) (F:Fx) (H:Hp) (Y:St) (U:aj) (W:List (List Addr)):Prop where
 at_:∀(i:Nat) (c:aa),U[i]? = some (some c)->∃v fp,Y[i]? = some (some v)/\W[i]? = some fp/\eZ K H (W.flatten++F.O₀) v c fp
 nd:(W.flatten++F.O₀).Nodup
 kept:∀b o,b∉F.A₀->F.H₀ b=some o->H b=some o
 new:∀a∈W.flatten,a∈F.A₀\/F.H₀ a=none
 live:∀a∈W.flatten++F.O₀,∃o,H a=some o/\Mv o
 len:U.length=Y.length
 lw:W.length=U.length
 io:∀(i:Nat) (b:Bx),U[i]? = some (some (.own true b))->Y[i]? = some (some (.ref (F.I₀ i)))
def aD(K:Frag)(F:Fx)(H:Hp)(Y:St)(U:aj)(O:List Addr):Prop:=∃W,cL K F H Y U W/\O=W.flatten++F.O₀
theorem kd{α:Type}{l:List α}{x y}(e:(l.set i x)[j]? = some y):(j=i/\y=x/\i<l.length)\/(j≠i/\l[j]? = some y):=by
 by_cases b:j=i
 .subst b;have a:=by
   have:=(q0a.mp e).1
   rwa [q0A]at this
  rw[q0v a]at e;exact .inl ⟨rfl,(q0r e).symm,a⟩
 .rw[q0u (Ne.symm b)]at e;exact .inr ⟨b,e⟩
theorem gJ{α:Type}{W:List (List α)}{c}{a}(h:a∈(W.set i c).flatten):a∈c\/∃j l,j≠i/\W[j]? = some l/\a∈l:=by
 obtain⟨l,f,d⟩:=q2c.mp h;obtain⟨j,g⟩:=q1g f;rcases kd g with⟨_,rfl,_⟩ |⟨b,e⟩
 .exact .inl d
 .exact .inr ⟨j,l,b,e,d⟩
theorem cw{α:Type}{W:List (List α)}{j:Nat}{l}{a}(h:W[j]? = some l)(b:a∈l):a∈W.flatten:=q2c.mpr ⟨l,q0K h,b⟩
theorem LO{α:Type}{W:List (List α)}{b l}{a}(c:j≠i)(h:W[j]? = some l)(d:a∈l):a∈(W.set i b).flatten:=cw (by rw[q0u c.symm];exact h) d
theorem zY{α:Type}{W:List (List α)}{b}{a}(c:i<W.length)(d:a∈b):a∈(W.set i b).flatten:=cw (q0v c) d
theorem mh{α:Type}:∀{W:List (List α)}{i j:Nat}{l m}{a},W.flatten.Nodup->W[i]? = some l->W[j]? = some m->i≠j->a∈l->a∉m
 |[],_,_,_,_,_,_,h,_,_,_=>by simp at h
 |w::W,0,0,_,_,_,_,_,_,d,_=>absurd rfl d
 |w::W,0,j+1,l,m,a,nd,h1,h2,_,b=>fun c=>by
  have e:=by simpa using h1
  subst e;rw[q0g]at nd;exact(q0j.mp nd).2.2 a b a (cw (by simpa using h2) c) rfl
 |w::W,i+1,0,l,m,a,nd,h1,h2,_,b=>fun c=>by
  have e:=by simpa using h2
  subst e;rw[q0g]at nd;exact(q0j.mp nd).2.2 a c a (cw (by simpa using h1) b) rfl
 |w::W,i+1,j+1,l,m,a,nd,h1,h2,d,b=>mh (by rw[q0g]at nd;exact(q0j.mp nd).2.1) (by simpa using h1) (by simpa using h2) (by lia) b
theorem rD{α:Type}[DecidableEq α]:∀{W:List (List α)}{i}{fp O},(W.flatten++O).Nodup->fp.Nodup->(∀a∈fp,(∀j l,j≠i->W[j]? = some l->a∉l)/\a∉O)->((W.set i fp).flatten++O).Nodup
 |[],i,fp,O,h,_,_=>by simpa using h
 |w::W,0,fp,O,h,f,hd=>by
  rw[q01,q0g,q0k];rw[q0g,q0k]at h;refine q0j.mpr ⟨f,(q0j.mp h).2.1,fun a d b c e=>?_⟩;subst e;rcases q0d.mp c with c |c
  .obtain⟨l,g,k⟩:=q2c.mp c;obtain⟨j,m⟩:=q1g g;exact(hd a d).1 (j+1) l (by lia) (by simpa using m) k
  .exact(hd a d).2 c
 |w::W,i+1,fp,O,h,f,hd=>by
  rw[q1r,q0g,q0k];rw[q0g,q0k]at h;obtain⟨o,h2,h3⟩:=q0j.mp h;refine q0j.mpr ⟨o,(rD h2 f fun a d=>⟨fun j l m e=>(hd a d).1 (j+1) l (by lia) (by simpa using e),(hd a d).2⟩),fun a d b c e=>?_⟩;subst e;rcases q0d.mp c with c |c
  .rcases gJ c with c |⟨j,l,m,e,g⟩
   .exact(hd a c).1 0 w (by lia) (by simp) d
   .exact h3 a d a (bC _ (cw e g)) rfl
  .exact h3 a d a (bp _ c) rfl
section
variable{K:Frag}{F:Fx}{H H':Hp}{Y:St}{U:aj}{O O':List Addr}{W:List (List Addr)}
theorem cL.nofrz(st:cL K F H Y U W)(h:b∈W.flatten++F.O₀):H b≠some (.frz o u):=fun z=>by obtain⟨a,e,m⟩:=st.live b h;rw[z]at e;cases e;exact m
theorem cL.put(st:cL K F H Y U W)(r:i<U.length)
  (keep:∀j l b,j≠i->W[j]? = some l->b∈l->H' b=H b) (f:∀b∈F.O₀,H' b=H b) (frz:∀b o,b∉W.flatten++F.O₀->H b=some o->H' b=some o)
  (C:fp.Nodup) (ap:∀a∈fp,(∀j l,j≠i->W[j]? = some l->a∉l)/\a∉F.O₀) (new:∀a∈fp,a∈W.flatten\/H a=none) (s:∀a∈fp,∃o,H' a=some o/\Mv o)
  (A:aQ (W.flatten++F.O₀) H ((W.set i fp).flatten++F.O₀) H'->eZ K H' ((W.set i fp).flatten++F.O₀) v c fp) (t:∀b,c=.own true b->v=.ref (F.I₀ i)) :
  cL K F H' (Y.set i (some v)) (U.set i (some c)) (W.set i fp)/\aQ (W.flatten++F.O₀) H ((W.set i fp).flatten++F.O₀) H':=by
 have k:aQ (W.flatten++F.O₀) H ((W.set i fp).flatten++F.O₀) H':=⟨frz,fun a h=>by
  rcases q0d.mp h with h |h
  .rcases gJ h with h |⟨j,l,_,e,n⟩
   .exact(new a h).imp (bC _) id
   .exact .inl (bC _ (cw e n))
  .exact .inl (bp _ h)⟩
 refine⟨⟨fun j d e=>?_,rD st.nd C ap,fun b o p e=>?_,fun a h=>?_,fun a h=>?_,by rw[q0A,q0A,st.len],by rw[q0A,q0A,st.lw],fun j b e=>?_⟩,k⟩
 .rcases kd e with⟨rfl,g,_⟩ |⟨m,g⟩
  .cases g;exact⟨v,fp,q0v (by rw[<-st.len];exact r),q0v (by rw[st.lw];exact r),A k⟩
  .obtain⟨w,l,h1,h2,h3⟩:=st.at_ j d g;exact⟨w,l,by rw[q0u m.symm];exact h1,by rw[q0u m.symm];exact h2,h3.keep k (fun b D=>keep j l b m h2 D) (fun b o u e=>frz b _ (fun z=>st.nofrz z e) e)⟩
 .have g:=st.kept b o p e
  by_cases y:b∈F.O₀
  .rw[f b y];exact g
  .refine frz b o (fun z=>?_) g;rcases q0d.mp z with z |z
   .rcases st.new b z with q |q
    .exact p q
    .rw[q]at e;cases e
   .exact y z
 .rcases gJ h with h |⟨j,l,_,e,n⟩
  .rcases new a h with q |q
   .exact st.new a q
   .by_cases p:a∈F.A₀
    .exact .inl p
    .refine .inr ?_;cases e:F.H₀ a with
     |none=>rfl
     |some o=>rw[st.kept a o p e]at q;cases q
  .exact st.new a (cw e n)
 .rcases q0d.mp h with h |h
  .rcases gJ h with h |⟨j,l,m,e,n⟩
   .exact s a h
   .obtain⟨o,h1,h2⟩:=st.live a (bC _ (cw e n));exact⟨o,by rw[keep j l a m e n];exact h1,h2⟩
  .obtain⟨o,h1,h2⟩:=st.live a (bp _ h);exact⟨o,by rw[f a h];exact h1,h2⟩
 .rcases kd e with⟨rfl,g,_⟩ |⟨m,g⟩
  .rw[q0v (by rw[<-st.len];exact r),t b (q0r g).symm]
  .rw[q0u m.symm];exact st.io j b g
theorem cL.grow(st:cL K F H Y U W)(s:bY H H'):cL K F H' Y U W where
 at_:=fun i c e=>let⟨v,fp,h1,h2,h3⟩:=st.at_ i c e;⟨v,fp,h1,h2,h3.keep (.same s) (fun b hb=>by
  obtain⟨o,e1,_⟩:=st.live b (bC _ (cw h2 hb));rw[e1];exact s _ _ e1) fun b o u e=>s _ _ e⟩
 nd:=st.nd
 kept:=fun b o n e=>s b o (st.kept b o n e)
 new:=st.new
 live:=fun a h=>let⟨o,e,m⟩:=st.live a h;⟨o,s _ _ e,m⟩
 len:=st.len
 lw:=st.lw
 io:=st.io
theorem aD.grow(st:aD K F H Y U O)(s:bY H H'):aD K F H' Y U O:=let⟨W,h,e⟩:=st;⟨W,h.grow s,e⟩
theorem aD.nofree(st:aD K F H Y U O):∀p,H p=none->p∉O:=fun p a z=>by obtain⟨W,h,rfl⟩:=st;obtain⟨o,e,_⟩:=h.live p z;rw[a]at e;cases e
theorem aD.dat(st:aD K F H Y U O){i:Nat}(e:U[i]? = some (some (.dat d))):∃v,Y[i]? = some (some v)/\DV (au O H) v d:=by obtain⟨W,h,rfl⟩:=st;obtain⟨v,a,h1,h2,h3⟩:=h.at_ i _ e;exact⟨v,h1,h3⟩
theorem aD.scr(st:aD K F H Y U O){i:Nat}(e:U[i]? = some (some (.scr b))):∃a,Y[i]? = some (some (.ref a))/\jx K H a b:=by obtain⟨W,h,rfl⟩:=st;obtain⟨v,c,h1,h2,a,rfl,h3⟩:=h.at_ i _ e;exact⟨a,h1,h3⟩
theorem aD.set(st:aD K F H Y U O)(h:DV (au O H) v d):aD K F H (Y.set i (some v)) (U.set i (some (.dat d))) O:=by
 obtain⟨W,st,rfl⟩:=st;refine⟨W,⟨fun j c e=>?_,st.nd,st.kept,st.new,st.live,by rw[q0A,q0A,st.len],by rw[q0A,st.lw],fun j b e=>?_⟩,rfl⟩
 rotate_left
 .rcases kd e with⟨rfl,a,_⟩ |⟨g,a⟩
  .cases a
  .rw[q0u g.symm];exact st.io j b a
 rcases kd e with⟨rfl,a,f⟩ |⟨g,a⟩
 .cases a;obtain⟨k,m⟩:∃k,W[j]? = some k:=⟨W[j]'(by rw[st.lw];exact f),q0c _⟩
  exact⟨v,k,q0v (by rw[<-st.len];exact f),m,h⟩
 .obtain⟨w,l,h1,h2,h3⟩:=st.at_ j c a;exact⟨w,l,by rw[q0u g.symm];exact h1,h2,h3⟩
theorem aD.box(st:aD K F H Y U O)(e:U[i]? = some (some (.own io b))):∃a m,Y[i]? = some (some (.ref a))/\fF (au O H) H a b m/\(∀c∈m,c∈O)/\
  ∀H'  t  f,(∀c o,c∉m->H c=some o->H' c=some o)->f.Nodup->(∀c∈f,c∈m\/H c=none)->(∀G,(∀O',aQ O H O' H'->G=au O' H'->(∀c∈f,c∈O')->bY (au O H) G/\fF G H' a t f))->
   ∃O',aD K F H' Y (U.set i (some (.own io t))) O'/\aQ O H O' H'/\(∀c∈O',c∈f\/c∈O):=by
 obtain⟨W,st,rfl⟩:=st;obtain⟨v,m,h1,h2,a,rfl,h3⟩:=st.at_ i _ e;have A:=(q0a.mp e).1;have u:i<W.length:=by rw[st.lw];exact A
 refine⟨a,m,h1,h3,fun c d=>bC _ (cw h2 d),fun H' t f keep M w N=>?_⟩;have p:=(q0j.mp st.nd).1;have B:=fun c d z=>(q0j.mp st.nd).2.2 c (cw h2 d) c z rfl;have ap:∀c∈f,(∀j l,j≠i->W[j]? = some l->c∉l)/\c∉F.O₀:=fun c d=>by
  rcases w c d with q |q
  .exact⟨fun j l n k z=>mh p h2 k (Ne.symm n) q z,B c q⟩
  .refine⟨fun j l _ k z=>?_,fun z=>?_⟩
   .obtain⟨o,g,_⟩:=st.live c (bC _ (cw k z));rw[q]at g;cases g
   .obtain⟨o,g,_⟩:=st.live c (bp _ z);rw[q]at g;cases g
 have frz:∀c o,c∉W.flatten++F.O₀->H c=some o->H' c=some o:=fun c o d I=>keep c o (fun z=>d (bC _ (cw h2 z))) I;have x:aQ (W.flatten++F.O₀) H ((W.set i f).flatten++F.O₀) H':=⟨frz,fun c h=>by
  rcases q0d.mp h with h |h
  .rcases gJ h with h |⟨j,l,_,k,y⟩
   .exact(w c h).imp (fun z=>bC _ (cw h2 z)) id
   .exact .inl (bC _ (cw k y))
  .exact .inl (bp _ h)⟩
 have s:=(N _ _ x rfl (fun c d=>bC _ (zY u d))).2;obtain⟨C,J⟩:=st.put (H':=H') (i:=i) (c:=.own io t) (fp:=f) A (fun j l c n k d=>by obtain⟨o,g,_⟩:=st.live c (bC _ (cw k d));rw[g];exact keep c o (fun z=>mh p k h2 n d z) g) (fun c d=>by obtain⟨o,g,_⟩:=st.live c (bp _ d);rw[g];exact keep c o (fun z=>B c z d) g) frz M ap (fun c d=>(w c d).imp (fun z=>cw h2 z) id) (fun c d=>s.live c d) (fun _=>⟨a,rfl,s⟩) (fun Q z=>by cases z;have:=st.io i b e;rw[h1]at this;exact(q0r (q0r this)));have L:Y.set i (some (.ref a))=Y:=by
  apply q1x;intro j
  by_cases n:j=i
  .subst n;rw[q0v (q0a.mp h1).1,h1]
  .rw[q0u (Ne.symm n)]
 rw[L]at C;refine⟨_,⟨_,C,rfl⟩,J,fun c d=>?_⟩;rcases q0d.mp d with d |d
 .rcases gJ d with d |⟨j,l,_,k,y⟩
  .exact .inl d
  .exact .inr (bC _ (cw k y))
 .exact .inr (bp _ d)
theorem aD.freeze(st:aD K F H Y U O)(e:U[i]? = some (some (.own false (.l b)))) :
  ∃v O',Y[i]? = some (some v)/\aD K F H Y (U.set i (some (.dat (.list b)))) O'/\aQ O H O' H/\DV (au O' H) v (.list b):=by
 obtain⟨W,st,rfl⟩:=st;obtain⟨v,u,h1,h2,a,rfl,rfl,w,h3,o⟩:=st.at_ i _ e;have g:a∉(W.set i []).flatten++F.O₀:=fun z=>by
  rcases q0d.mp z with z |z
  .rcases gJ z with z |⟨j,l,d,q,r⟩
   .cases z
   .exact mh ((q0j.mp st.nd).1) h2 q d.symm q0f r
  .exact(q0j.mp st.nd).2.2 a (cw h2 q0f) a z rfl
 have k:aQ (W.flatten++F.O₀) H ((W.set i []).flatten++F.O₀) H->DV (au ((W.set i []).flatten++F.O₀) H) (.ref a) (.list b):=fun s=>.lst (iV h3 g) (aG.mono s.hid o);obtain⟨m,n⟩:=st.put (c:=.dat (.list b)) ((q0a.mp e).1) (fun _ _ _ _ _ _=>rfl) (fun _ _=>rfl) (fun _ _ _ e=>e) q0M (fun a h=>by cases h) (fun a h=>by cases h) (fun a h=>by cases h) (fun s=>k s) (fun _ z=>by cases z);have t:Y.set i (some (.ref a))=Y:=by
  apply q1x;intro j
  by_cases d:j=i
  .subst d;rw[q0v (q0a.mp h1).1,h1]
  .rw[q0u (Ne.symm d)]
 rw[t]at m;exact⟨_,_,h1,⟨_,m,rfl⟩,n,k n⟩
end
abbrev DT:=aj->(PyData->aj->Prop)->Prop
def Mn(t:DT):Prop:=∀U Q a,(∀d b,Q d b->a d b)->t U Q->t U a
def gK(K:Frag)(F:Fx)(t:DT):TE:=fun Y H Q=>∃U O,aD K F H Y U O/\t U fun d c=>∀v a b,aD K F a Y c b->aQ O H b a->DV (au b a) v d->Q v a
structure DE (X:Cx) (F:Fx) (e:Expr) (t:DT):Prop where
 mn:Mn t
 pe:PE X e (gK X.K F t)
theorem _root_.L2.PE.imp(h:PE X e t)(k:∀Y H Q,t' Y H Q->t Y H Q):PE X e t':=fun a s Y H Q I q=>h a s Y H Q I (k Y H Q q)
theorem _root_.L2.PT.imp(h:PT X e t)(k:∀Y H Q,t' Y H Q->t Y H Q):PT X e t':=fun a s Y H Q I q=>h a s Y H Q I (k Y H Q q)
theorem _root_.L2.PS.imp(h:PS X e t)(k:∀D Y H,t' D Y H->t D Y H):PS X e t':=fun a s Y H D I q=>h a s Y H D I (k D Y H q)
theorem _root_.L2.PSs.imp(h:PSs X e t)(k:∀D Y H,t' D Y H->t D Y H):PSs X e t':=fun a s Y H D I q=>h a s Y H D I (k D Y H q)
def dC(d:PyData):DT:=fun U Q=>Q d U
def dV(i:Nat):DT:=fun U Q=>(∃d,U[i]? = some (some (.dat d))/\Q d U)\/∃c,U[i]? = some (some (.own false (.l c)))/\Q (.list c) (U.set i (some (.dat (.list c))))
theorem LP:Mn (dC d):=fun _ _ _ h q=>h _ _ q
theorem oR(h:PE X e (tC v))(hd:∀H,DV H v d):DE X F e (dC d):=
 ⟨LP,h.imp fun Y H Q c=>by obtain⟨U,O,st,q⟩:=c;exact q v H O st .refl (hd _)⟩
theorem ao:DE X F (.Constant (.int i) j pos) (dC (.int i)):=oR uF fun _=>.int i
theorem jy:DE X F (.Constant (.bool i) j pos) (dC (.bool i)):=oR Ir fun _=>.bl i
theorem fG:DE X F (.Constant .none j pos) (dC .none):=oR yG fun _=>.non
theorem ca:DE X F (.Constant (.str x) j pos) (dC (.str x)):=oR Iu fun _=>.str x
theorem zZ(i)(h:PE X (.Name x pos) (bZ i)):DE X F (.Name x pos) (dV i):=
 ⟨fun _ _ _ k q=>q.imp (fun c=>by obtain⟨d,e,q⟩:=c;exact⟨d,e,k _ _ q⟩) fun f=>by obtain⟨d,e,q⟩:=f;exact⟨d,e,k _ _ q⟩,h.imp fun Y H Q g=>by
  obtain⟨U,O,st,q⟩:=g;rcases q with⟨d,e,q⟩ |⟨ds,e,q⟩
  .obtain⟨v,h1,h2⟩:=st.dat e;exact⟨v,h1,q v H O st .refl h2⟩
  .obtain⟨v,j,h1,h2,h3,l⟩:=st.freeze e;exact⟨v,h1,q v H j h2 h3 l⟩⟩
abbrev D2:=PyData->PyData->(PyData->Prop)->Prop
def dD(f:D2)(ta tb:DT):DT:=fun U Q=>ta U fun x c=>tb c fun y g=>f x y fun d=>Q d g
structure fV (r:R2) (f:D2):Prop where
 mn:∀x y Q Q',(∀d,Q d->Q' d)->f x y Q->f x y Q'
 ok:∀(O:List Addr) (H:Hp) (u v:V) (x y:PyData) (Q:VK),(∀p,H p=none->p∉O)->DV (au O H) u x->DV (au O H) v y->f x y (fun d=>∀w H',bY H H'->DV (au O H') w d->Q w H')->r u v H Q
theorem rE(o:fV r f)(l:Mn ta)(E:Mn tb){K}:∀Y H Q,gK K F (dD f ta tb) Y H Q->oM r (gK K F ta) (gK K F tb) Y H Q:=fun Y H Q c=>by obtain⟨U,O,st,q⟩:=c;refine⟨U,O,st,l _ _ _ (fun x m n v1 G p h s t=>?_) q⟩;refine⟨m,p,h,E _ _ _ (fun y I u v z i g j A=>?_) n⟩;refine o.ok i z v1 v x y Q g.nofree (DV.mono j.hid t) A (o.mn _ _ _ _ (fun d B w C k D=>?_) u);exact B w C i (g.grow k) (s.trans (j.trans (.same k))) D
theorem oS(o:fV r f)(c:Mn ta)(i:Mn tb):Mn (dD f ta tb):=fun _ _ _ k q=>c _ _ _ (fun _ _ d=>i _ _ _ (fun _ _ g=>o.mn _ _ _ _ (fun _ h=>k _ _ h) g) d) q
theorem mi(g:dk X (binaryOp op) r)(o:fV r f)(c:DE X F a ta)(d:DE X F b tb):DE X F (.BinOp a op b pos) (dD f ta tb):=
 ⟨oS o c.mn d.mn,(yM g c.pe d.pe).imp (rE o c.mn d.mn)⟩
theorem nq(h:dk X (compareOp op) r)(o:fV r f)(c:DE X F a ta)(d:DE X F b tb)(g:behindInMarks op b=false):DE X F (.Compare a [op] [b] pos) (dD f ta tb):=
 ⟨oS o c.mn d.mn,(JK h c.pe d.pe g).imp (rE o c.mn d.mn)⟩
theorem LQ(g:jY X r)(o:fV r f)(c:DE X F a ta)(d:DE X F b tb)(h:nh b):DE X F (.Subscript a b pos) (dD f ta tb):=
 ⟨oS o c.mn d.mn,(rm g c.pe d.pe h).imp (rE o c.mn d.mn)⟩
def fI(C:Int->Int->Prop)(g:Int->Int->PyData):D2:=fun x y Q=>∃i j,x=.int i/\y=.int j/\C i j/\Q (g i j)
theorem vo(hg:∀i j H,DV H (g i j) (g' i j)):fV (rI C g) (fI C g') where
 mn:=fun _ _ _ _ k zq1a=>by obtain⟨i,j,e1,e2,c,q⟩:=zq1a;exact⟨i,j,e1,e2,c,k _ q⟩
 ok:=fun O H u v x y Q hO h1 h2 zq2a=>by obtain⟨i,j,e1,e2,c,q⟩:=zq2a;subst e1 e2;exact⟨i,j,h1.int_inv,h2.int_inv,c,q _ H (fun _ _ h=>h) (hg i j _)⟩
theorem kT(hg:∀i j H,DV H (g i j) (g' i j)):fV (jr g) (fI (fun _ _=>True) g') where
 mn:=fun _ _ _ _ k zq1a=>by obtain⟨i,j,e1,e2,c,q⟩:=zq1a;exact⟨i,j,e1,e2,c,k _ q⟩
 ok:=fun O H u v x y Q hO h1 h2 zq2a=>by obtain⟨i,j,e1,e2,_,q⟩:=zq2a;subst e1 e2;exact⟨i,j,h1.int_inv,h2.int_inv,q _ H (fun _ _ h=>h) (hg i j _)⟩
def oU(neg:Bool):D2:=fun x y Q=>SeqAt.shaped x=true/\SeqAt.shaped y=true/\Q (.bool (PyData.eqv x y != neg))
theorem vr:fV (vm neg) (oU neg) where
 mn:=fun _ _ _ _ k zq1a=>by obtain⟨e1,e2,q⟩:=zq1a;exact⟨e1,e2,k _ q⟩
 ok:=fun O H u v x y Q hO h1 h2 zq2a=>by obtain⟨e1,e2,q⟩:=zq2a;exact⟨x,y,DV.mono rz h1,DV.mono rz h2,e1,e2,q _ H (fun _ _ h=>h) (.bl _)⟩
@[simp]noncomputable def isNone:PyData->Bool
 |.none=>true
 |_=>false
def rF:D2:=fun x y Q=>y=.none/\Q (.bool (isNone x))
def vt:D2:=fun x y Q=>y=.none/\Q (.bool (!isNone x))
theorem Aa(h:DV H v d):decide (v=.non)=isNone d:=by cases h<;>first |rfl |(exact decide_eq_false (fun z=>by cases z))
theorem Ab:fV (fun x y H Q=>y=.non/\Q (.bl (decide (x=.non))) H) rF where
 mn:=fun _ _ _ _ k zq1a=>by obtain⟨e,q⟩:=zq1a;exact⟨e,k _ q⟩
 ok:=fun O H u v x y Q hO h1 h2 zq2a=>by obtain⟨e,q⟩:=zq2a;subst e;exact⟨h2.non_inv,by rw[Aa h1];exact q _ H (fun _ _ h=>h) (.bl _)⟩
theorem Ac:fV (fun x y H Q=>y=.non/\Q (.bl (!decide (x=.non))) H) vt where
 mn:=fun _ _ _ _ k zq1a=>by obtain⟨e,q⟩:=zq1a;exact⟨e,k _ q⟩
 ok:=fun O H u v x y Q hO h1 h2 zq2a=>by obtain⟨e,q⟩:=zq2a;subst e;exact⟨h2.non_inv,by rw[Aa h1];exact q _ H (fun _ _ h=>h) (.bl _)⟩
def Ad:D2:=fun x y Q=>∃c i d,x=.tuple c/\y=.int i/\bL c i=some d/\Q d
def Ae:D2:=fun x y Q=>∃c i d,x=.list c/\y=.int i/\bL c i=some d/\Q d
theorem vu(h:aG H f c)(e:bL c i=some d):∃v,bL f i=some v/\DV H v d:=by
 unfold bL at e ⊢;rw[h.length];cases q:cT c.length i with
 |none=>rw[q]at e;cases e
 |some j=>rw[q]at e;exact h.get e
theorem Af{K}:fV (uY K) Ad where
 mn:=fun _ _ _ _ k zq1a=>by obtain⟨ds,i,d,e1,e2,e3,q⟩:=zq1a;exact⟨ds,i,d,e1,e2,e3,k _ q⟩
 ok:=fun O H u v x y Q hO h1 h2 zq2a=>by obtain⟨ds,i,d,e1,e2,e3,q⟩:=zq2a;subst e1 e2;obtain⟨a,xs,rfl,ha,hd⟩:=h1.tup_inv;obtain⟨w,ew,hw⟩:=vu hd e3;exact⟨a,xs,i,w,rfl,h2.int_inv,.inl (ig ha).1,ew,q w H (fun _ _ h=>h) hw⟩
theorem Ag{K}:fV (uX K) Ae where
 mn:=fun _ _ _ _ k zq1a=>by obtain⟨ds,i,d,e1,e2,e3,q⟩:=zq1a;exact⟨ds,i,d,e1,e2,e3,k _ q⟩
 ok:=fun O H u v x y Q hO h1 h2 zq2a=>by obtain⟨ds,i,d,e1,e2,e3,q⟩:=zq2a;subst e1 e2;obtain⟨a,xs,rfl,ha,hd⟩:=h1.lst_inv;obtain⟨w,ew,hw⟩:=vu hd e3;exact⟨a,xs,i,w,rfl,h2.int_inv,.of (cK ha).1,ew,q w H (fun _ _ h=>h) hw⟩
theorem jz(f:H p=none)(g:p∉O)(h:aG (au O H) c d):DV (au O (aL H p (.lst c))) (.ref p) (.list d):=
 .lst (iV cG g) (aG.mono (oQ (bS f)) h)
theorem mj(f:H p=none)(g:p∉O)(h:aG (au O H) c d):DV (au O (aL H p (.tup c))) (.ref p) (.tuple d):=
 .tup (.inl (iV cG g)) (aG.mono (oQ (bS f)) h)
def vv:D2:=fun x y Q=>∃d c,x=.list d/\y=.list c/\d.length+c.length<=sizeLine/\Q (.list (d++c))
theorem LR:fV zG vv where
 mn:=fun _ _ _ _ k zq1a=>by obtain⟨ds,es,e1,e2,e3,q⟩:=zq1a;exact⟨ds,es,e1,e2,e3,k _ q⟩
 ok:=fun O H u v x y Q hO h1 h2 zq2a=>by obtain⟨ds,es,e1,e2,e3,q⟩:=zq2a;subst e1 e2;obtain⟨a,xs,rfl,ha,hd⟩:=h1.lst_inv;obtain⟨b,ys,rfl,hb,he⟩:=h2.lst_inv;refine⟨a,b,xs,ys,rfl,rfl,(cK ha).1,(cK hb).1,by rw[hd.length,he.length];exact e3,fun p hp=>q _ _ (bS hp) (jz hp (hO p hp) (hd.append he))⟩
theorem kU{B:Prop}(h:if true=true then A else B):A:=by rw[if_pos rfl]at h;exact h
theorem kW{B:Prop}(h:if false=true then A else B):B:=by rw[if_neg q0x]at h;exact h
abbrev dG:=aj->(List PyData->aj->Prop)->Prop
def rG(t:dG):Prop:=∀U Q a,(∀d b,Q d b->a d b)->t U Q->t U a
def Ah(K:Frag)(F:Fx)(t:dG):TA:=fun Y H Q=>∃U O,aD K F H Y U O/\t U fun e d=>∀c a b,aD K F a Y d b->aQ O H b a->aG (au b a) c e->Q c a
structure DA (X:Cx) (F:Fx) (es:List Expr) (t:dG):Prop where
 mn:rG t
 pa:PA X es (Ah X.K F t)
theorem _root_.L2.PA.imp(h:PA X e t)(k:∀Y H Q,t' Y H Q->t Y H Q):PA X e t':=fun pos a s Y H Q I q=>h pos a s Y H Q I (k Y H Q q)
def LS:dG:=fun U Q=>Q [] U
def LU(ta:DT)(h:dG):dG:=fun U Q=>ta U fun d f=>h f fun i g=>Q (d::i) g
theorem LV:DA X F [] LS:=⟨fun _ _ _ k q=>k _ _ q,fS.imp fun Y H Q d=>by obtain⟨U,O,st,q⟩:=d;exact q [] H O st .refl .nil⟩
theorem LW(g:DE X F e ta)(h:DA X F es tA)(y:autoParam (starEach (e::es) X.env=(false,eval e X.env)::starEach es X.env) Zq._auto_1):DA X F (e::es) (LU ta tA):=
 ⟨fun _ _ _ k q=>g.mn _ _ _ (fun _ _ i=>h.mn _ _ _ (fun _ _ j=>k _ _ j) i) q,(eM g.pe h.pa y).imp fun Y H Q f=>by obtain⟨U,O,st,q⟩:=f;exact 
  ⟨U,O,st,g.mn _ _ _ (fun d o i v z p l r s=>⟨o,p,l,h.mn _ _ _ (fun B A j t u w m n x=>j (v::t) u w m (r.trans n) (.cons (DV.mono n.hid s) x)) i⟩) q⟩⟩
def LX(t:dG):DT:=fun U Q=>t U fun d f=>d.length<=sizeLine/\Q (.tuple d) f
def LY(t:dG):DT:=fun U Q=>t U fun d f=>d.length<=sizeLine/\Q (.list d) f
theorem LZ(h:DA X F es tA):DE X F (.Tuple es l pos) (LX tA):=
 ⟨fun _ _ _ k q=>h.mn _ _ _ (fun _ _ d=>⟨d.1,k _ _ d.2⟩) q,(zc h.pa).imp fun Y H Q f=>by obtain⟨U,O,st,q⟩:=f;exact 
  ⟨U,O,st,h.mn _ _ _ (fun t o d r s m g n j=>⟨by rw[j.length];exact d.1,fun p i=>d.2 _ _ m (g.grow (bS i)) (n.trans (.same (bS i))) (mj i (g.nofree p i) j)⟩) q⟩⟩
theorem Ma(h:DA X F es tA):DE X F (.List es pos) (LY tA):=
 ⟨fun _ _ _ k q=>h.mn _ _ _ (fun _ _ d=>⟨d.1,k _ _ d.2⟩) q,(rh h.pa).imp fun Y H Q f=>by obtain⟨U,O,st,q⟩:=f;exact 
  ⟨U,O,st,h.mn _ _ _ (fun s n d o r l g m j=>⟨by rw[j.length];exact d.1,fun p i=>d.2 _ _ l (g.grow (bS i)) (m.trans (.same (bS i))) (jz i (g.nofree p i) j)⟩) q⟩⟩
def Mb(ta:DT):DT:=fun U Q=>ta U fun d f=>∃i,d=.int i/\Q (.int (-i)) f
theorem Mc(j:DE X F a ta):DE X F (.UnaryOp .USub a pos) (Mb ta):=
 ⟨fun _ _ _ k q=>j.mn _ _ _ (fun _ _ f=>by obtain⟨i,e,q⟩:=f;exact⟨i,e,k _ _ q⟩) q,(JB JI j.pe).imp fun Y H Q g=>by obtain⟨U,O,st,q⟩:=g;exact 
  ⟨U,O,st,j.mn _ _ _ (fun d s h v m n l o p=>by obtain⟨i,e,r⟩:=h;subst e;exact⟨i,p.int_inv,r _ m n l o (.int _)⟩) q⟩⟩
def Md(ta:DT):DT:=fun U Q=>ta U fun d f=>∃b,d=.bool b/\Q (.bool (!b)) f
theorem Me(j:DE X F a ta):DE X F (.UnaryOp .Not a pos) (Md ta):=
 ⟨fun _ _ _ k q=>j.mn _ _ _ (fun _ _ f=>by obtain⟨i,e,q⟩:=f;exact⟨i,e,k _ _ q⟩) q,(IM j.pe).imp fun Y H Q g=>by obtain⟨U,O,st,q⟩:=g;exact 
  ⟨U,O,st,j.mn _ _ _ (fun d s h v m n l o p=>by obtain⟨i,e,r⟩:=h;subst e;exact⟨i,p.bl_inv,r _ m n l o (.bl _)⟩) q⟩⟩
def Mf(ta tb:DT):DT:=fun U Q=>ta U fun d f=>∃b,d=.bool b/\if b=true then tb f Q else Q (.bool false) f
def Mg(ta tb:DT):DT:=fun U Q=>ta U fun d f=>∃b,d=.bool b/\if b=true then Q (.bool true) f else tb f Q
theorem Mh(h:DE X F a ta):DE X F (.BoolOp op [a] pos) ta:=⟨h.mn,IJ h.pe⟩
theorem Mi(l:DE X F a ta)(n:DE X F (.BoolOp .And (b::rest) pos) tb):DE X F (.BoolOp .And (a::b::rest) pos) (Mf ta tb):=
 ⟨fun _ _ _ k q=>l.mn _ _ _ (fun _ _ f=>by obtain⟨i,e,q⟩:=f;exact⟨i,e,by cases i<;>first |exact k _ _ q |exact n.mn _ _ _ k q⟩) q,(IK l.pe n.pe).imp fun Y H Q g=>by obtain⟨U,O,st,q⟩:=g;exact 
  ⟨U,O,st,l.mn _ _ _ (fun d s h v t o j p u=>by
   obtain⟨i,e,r⟩:=h;subst e;refine⟨i,u.bl_inv,?_⟩;cases i with
   |true=>exact fo ⟨s,o,j,n.mn _ _ _ (fun d C x w y z m A B=>x w y z m (p.trans A) B) (kU r)⟩
   |false=>exact fm (kW r _ t o j p (.bl _))) q⟩⟩
theorem Mj(l:DE X F a ta)(n:DE X F (.BoolOp .Or (b::rest) pos) tb):DE X F (.BoolOp .Or (a::b::rest) pos) (Mg ta tb):=
 ⟨fun _ _ _ k q=>l.mn _ _ _ (fun _ _ f=>by obtain⟨i,e,q⟩:=f;exact⟨i,e,by cases i<;>first |exact k _ _ q |exact n.mn _ _ _ k q⟩) q,(IL l.pe n.pe).imp fun Y H Q g=>by obtain⟨U,O,st,q⟩:=g;exact 
  ⟨U,O,st,l.mn _ _ _ (fun d s h v t o j p u=>by
   obtain⟨i,e,r⟩:=h;subst e;refine⟨i,u.bl_inv,?_⟩;cases i with
   |false=>exact fm ⟨s,o,j,n.mn _ _ _ (fun d C x w y z m A B=>x w y z m (p.trans A) B) (kW r)⟩
   |true=>exact fo (kU r _ t o j p (.bl _))) q⟩⟩
def vA(p f:Int->Int->Bool)(ta tb tc:DT):DT:=fun U Q=>ta U fun x g=>tb g fun y d=>∃i j,x=.int i/\y=.int j/\if p i j=true then tc d (fun z h=>∃k,z=.int k/\Q (.bool (f j k)) h) else Q (.bool false) d
theorem Ml(ho:dk X (compareOp op) (jr fun i j=>.bl (p i j)))(s:dk X (compareOp f) (jr fun i j=>.bl (M i j)))(t:DE X F a ta)(L:DE X F b tb)(A:DE X F c tc)
  (Z:lastMarks [op,f] [b,c]=false:=by with_unfolding_all rfl):DE X F (.Compare a [op,f] [b,c] pos) (vA p M ta tb tc):=
 ⟨fun _ _ _ k q=>t.mn _ _ _ (fun _ _ B=>L.mn _ _ _ (fun _ _ ⟨i,j,C,D,d⟩=>⟨i,j,C,D,by
   by_cases h:p i j=true
   .rw[if_pos h]at d ⊢;exact A.mn _ _ _ (fun _ _ g=>by obtain⟨l,e,E⟩:=g;exact⟨l,e,k _ _ E⟩) d
   .rw[if_neg h]at d ⊢;exact k _ _ d⟩) B) q,
  (JN ho s t.pe L.pe A.pe Z).imp fun Y H Q m=>by obtain⟨U,O,st,q⟩:=m;exact 
  ⟨U,O,st,t.mn _ _ _ (fun x U1 B v H1 O1 G N d1=>⟨U1,O1,G,L.mn _ _ _ (fun y U2 n w H2 R o I S=>by
   obtain⟨i,j,C,D,d⟩:=n;subst C D;refine⟨i,j,(DV.mono I.hid d1).int_inv,S.int_inv,p i j,rfl,?_⟩
   by_cases h:p i j=true
   .rw[if_pos h]at d ⊢;exact⟨U2,R,o,A.mn _ _ _ (fun z U3 r u H3 O3 J T d3=>by obtain⟨l,e,E⟩:=r;subst e;exact⟨j,l,(DV.mono T.hid S).int_inv,d3.int_inv,E _ H3 O3 J (N.trans (I.trans T)) (.bl _)⟩) d⟩
   .rw[if_neg h]at d ⊢;exact d _ H2 R o (N.trans I) (.bl _)) B⟩) q⟩⟩
abbrev cU:=aj->(Bool->aj->Prop)->Prop
def iX(t:cU):Prop:=∀U Q a,(∀d b,Q d b->a d b)->t U Q->t U a
def jA(K:Frag)(F:Fx)(t:cU):TT:=fun Y H Q=>∃U O,aD K F H Y U O/\t U fun b d=>∀a c,aD K F a Y d c->aQ O H c a->Q b a
structure DB (X:Cx) (F:Fx) (e:Expr) (t:cU):Prop where
 mn:iX t
 pt:PT X e (jA X.K F t)
def gL(ta:DT):cU:=fun U Q=>ta U fun d f=>∃b,d=.bool b/\Q b f
theorem Ai(h:Mn ta):iX (gL ta):=fun _ _ _ k q=>h _ _ _ (fun _ _ d=>by obtain⟨b,e,f⟩:=d;exact⟨b,e,k _ _ f⟩) q
theorem Aj{K}(h:Mn ta):∀Y H Q,jA K F (gL ta) Y H Q->gK K F ta Y H fun x j=>∃k,x=.bl k/\Q k j:=fun Y H Q f=>by obtain⟨U,O,st,q⟩:=f;exact 
 ⟨U,O,st,h _ _ _ (fun d r g v l m i n o=>by obtain⟨b,e,p⟩:=g;subst e;exact⟨b,o.bl_inv,p l m i n⟩) q⟩
theorem dZ(h:DE X F e ta)(d:autoParam (∀whole,isTrue e X.env whole=(do let v <-whole;standAt e.pos;holding [v] (truthy v))) Zs._auto_1):DB X F e (gL ta):=⟨Ai h.mn,(Ix h.pe d).imp (Aj h.mn)⟩
theorem ml(i:dk X (compareOp op) r)(o:fV r f)(d:DE X F a ta)(g:DE X F b tb)(h:behindInMarks op b=false):DB X F (.Compare a [op] [b] pos) (gL (dD f ta tb)):=
 ⟨Ai (oS o d.mn g.mn),(yT i d.pe g.pe h).imp fun Y H Q q=>rE o d.mn g.mn Y H _ (Aj (oS o d.mn g.mn) Y H Q q)⟩
def Mm(t:cU):cU:=fun U Q=>t U fun b d=>Q (!b) d
theorem Mo(h:DB X F a tA):DB X F (.UnaryOp .Not a pos) (Mm tA):=⟨fun _ _ _ k q=>h.mn _ _ _ (fun _ _ q=>k _ _ q) q,(IF h.pt).imp fun Y H Q d=>by obtain⟨U,O,st,q⟩:=d;exact⟨U,O,st,h.mn _ _ _ (fun b m g i j f l=>g i j f l) q⟩⟩
structure DW (X:Cx) (F:Fx) (e:Expr) (t:cU):Prop where
 mn:iX t
 pw:PW X e (jA X.K F t)
theorem _root_.L2.PW.imp(h:PW X e t)(k:∀Y H Q,t' Y H Q->t Y H Q):PW X e t':=fun f d s Y H Q I q=>h f d s Y H Q I (k Y H Q q)
theorem DW.db(h:DW X F e t):DB X F e t:=⟨h.mn,h.pw.pt⟩
def Mp(t u:cU):cU:=fun U Q=>t U fun b d=>if b=true then u d Q else Q false d
def Mq(t u:cU):cU:=fun U Q=>t U fun b d=>if b=true then Q true d else u d Q
theorem Mr(h:DB X F a tA):DW X F (.BoolOp .And [a] pos) tA:=⟨h.mn,IB h.pt⟩
theorem Ms(h:DB X F a tA):DW X F (.BoolOp .Or [a] pos) tA:=⟨h.mn,IC h.pt⟩
theorem Mt{tB:cU}(g:DB X F a tA)(i:DW X F (.BoolOp .And (b::rest) pos) tB):DW X F (.BoolOp .And (a::b::rest) pos) (Mp tA tB):=
 ⟨fun _ _ _ k q=>g.mn _ _ _ (fun b _ q=>by cases b<;>first |exact k _ _ q |exact i.mn _ _ _ k q) q,(ID g.pt i.pw).imp fun Y H Q d=>by obtain⟨U,O,st,q⟩:=d;exact 
  ⟨U,O,st,g.mn _ _ _ (fun b n j o l f m=>by
   cases b with
   |true=>exact fo ⟨n,l,f,i.mn _ _ _ (fun b u p r s h t=>p r s h (m.trans t)) (kU j)⟩
   |false=>exact fm (kW j o l f m)) q⟩⟩
theorem Mu{tB:cU}(g:DB X F a tA)(i:DW X F (.BoolOp .Or (b::rest) pos) tB):DW X F (.BoolOp .Or (a::b::rest) pos) (Mq tA tB):=
 ⟨fun _ _ _ k q=>g.mn _ _ _ (fun b _ q=>by cases b<;>first |exact k _ _ q |exact i.mn _ _ _ k q) q,(IE g.pt i.pw).imp fun Y H Q d=>by obtain⟨U,O,st,q⟩:=d;exact 
  ⟨U,O,st,g.mn _ _ _ (fun b n j o l f m=>by
   cases b with
   |false=>exact fm ⟨n,l,f,i.mn _ _ _ (fun b u p r s h t=>p r s h (m.trans t)) (kW j)⟩
   |true=>exact fo (kU j o l f m)) q⟩⟩
def Mw(t:cU)(ta tb:DT):DT:=fun U Q=>t U fun b d=>if b=true then ta d Q else tb d Q
theorem Mx(i:DB X F c tA)(j:DE X F a ta)(r:DE X F b tb):DE X F (.IfExp c a b pos) (Mw tA ta tb):=
 ⟨fun _ _ _ k q=>i.mn _ _ _ (fun b _ q=>by cases b<;>first |exact j.mn _ _ _ k q |exact r.mn _ _ _ k q) q,(IQ i.pt j.pe r.pe).imp fun Y H Q g=>by obtain⟨U,O,st,q⟩:=g;exact 
  ⟨U,O,st,i.mn _ _ _ (fun b s t y u h w=>by
   cases b with
   |true=>exact fo ⟨s,u,h,j.mn _ _ _ (fun d x l v m n f o p=>l v m n f (w.trans o) p) (kU t)⟩
   |false=>exact fm ⟨s,u,h,r.mn _ _ _ (fun d x l v m n f o p=>l v m n f (w.trans o) p) (kW t)⟩) q⟩⟩
abbrev DN:=List PyData->(PyData->Prop)->Prop
structure iY (r:List V->Hp->VK->Prop) (f:DN):Prop where
 mn:∀xs Q Q',(∀d,Q d->Q' d)->f xs Q->f xs Q'
 ok:∀(O:List Addr) (H:Hp) (vs:List V) (xs:List PyData) (Q:VK),(∀p,H p=none->p∉O)->aG (au O H) vs xs->f xs (fun d=>∀w H',bY H H'->DV (au O H') w d->Q w H')->r vs H Q
def oV(f:DN)(t:dG):DT:=fun U Q=>t U fun b a=>f b fun d=>Q d a
theorem Ak{K}(o:iY r f)(h:rG tA):∀Y H Q,gK K F (oV f tA) Y H Q->uU r (Ah K F tA) Y H Q:=fun Y H Q a=>by obtain⟨U,O,st,q⟩:=a;exact 
 ⟨U,O,st,h _ _ _ (fun u v i j k c b l m=>o.ok c k j u Q b.nofree m (o.mn _ _ _ (fun d n w s g t=>n w s c (b.grow g) (l.trans (.same g)) t) i)) q⟩
theorem Al(o:iY r f)(h:rG tA):Mn (oV f tA):=fun _ _ _ k q=>h _ _ _ (fun _ _ a=>o.mn _ _ _ (fun _ b=>k _ _ b) a) q
theorem gv{pos:Pos}{p:Pos}{id:String}(d:ie X (.builtin id) r)(o:iY r f)(g:Gl X x)(h:X.mg x=none)(i:bootBuiltins x=some (.builtin id))(a:DA X F (e::es) tA)(j:autoParam (x≠"__name__") Zr._auto_1)(b:autoParam ((x==("__debug__":Str))=false) Zr._auto_1)
  (k:autoParam (starEach (e::es) X.env=(false,eval e X.env)::starEach es X.env) Zq._auto_1) (c:autoParam ((backTo pos (starEach es X.env)).any (·.1)=false) Zq._auto_1):DE X F (.Call (.Name x p) (e::es) [] pos) (oV f tA):=
 ⟨Al o a.mn,(ri d g h i a.pa j b k c).imp (Ak o a.mn)⟩
theorem vB{pos:Pos}{p:Pos}(d:ie X (.type T) r)(o:iY r f)(g:Gl X x)(h:X.mg x=none)(i:bootBuiltins x=some (.type T))(a:DA X F (e::es) tA)(j:autoParam (x≠"__name__") Zr._auto_1)(b:autoParam ((x==("__debug__":Str))=false) Zr._auto_1)
  (k:autoParam (starEach (e::es) X.env=(false,eval e X.env)::starEach es X.env) Zq._auto_1) (c:autoParam ((backTo pos (starEach es X.env)).any (·.1)=false) Zq._auto_1):DE X F (.Call (.Name x p) (e::es) [] pos) (oV f tA):=
 ⟨Al o a.mn,(uV d g h i a.pa j b k c).imp (Ak o a.mn)⟩
def Am(n:String)(a:DT):DT:=fun U Q=>a U fun d c=>∃b,(∀K:Frag,kitOne K (.type (vn d)) (.type n)=some b)/\Q (.bool b) c
theorem ke{pos:Pos}{p:Pos}(m:Gl X "isinstance")(n:X.mg "isinstance" = none)(h:DE X F e ta)(o:PE X (.Name x p2) (tC (.ty T)))
  (l:autoParam (starEach [e,.Name x p2] X.env=(false,eval e X.env)::starEach [.Name x p2] X.env) Zq._auto_1) (g:autoParam (starEach [.Name x p2] X.env=(false,eval (.Name x p2) X.env)::starEach [] X.env) Zq._auto_1) (i:autoParam ((backTo pos (starEach [.Name x p2] X.env)).any (·.1)=false) Zq._auto_1) :
  DE X F (.Call (.Name "isinstance" p) [e,.Name x p2] [] pos) (Am T ta):=
 ⟨fun _ _ _ k q=>h.mn _ _ _ (fun _ _ a=>by obtain⟨b,e,q⟩:=a;exact⟨b,e,k _ _ q⟩) q,
  (ri LH m n (by decide +kernel) (eM h.pe (eM o fS g) l) (by decide) (by decide) l i).imp fun Y H Q c=>by obtain⟨U,O,st,q⟩:=c;exact 
  ⟨U,O,st,h.mn _ _ _ (fun d y f v r s j t u=>by obtain⟨b,e,w⟩:=f;exact⟨v,d,T,b,rfl,DV.mono rz u,e,w _ r s j t (.bl b)⟩) q⟩⟩
structure ij (g:Heap) (H:Hp) (h:Heap) (a:Addr) (C:Value) (fl:Option Value):Prop where
 gh:∀b o,g.get? b=some o->∃o',h.get? b=some o'
 lo:g.get? a=none
 un:H a=none
 ob:∃oe vs a0,h.get? a=some oe/\oe.cls=C/\oe.data=.fields vs/\vs[0]? = some a0/\
  ((fl=none/\vs[1]? = some .none)\/∃T oT ts f,fl=some f/\vs[1]? = some (.ref T)/\g.get? T=none/\H T=none/\T≠a/\h.get? T=some oT/\oT.data=.fields ts/\ts[3]? = some f)
structure Ch (g:Heap) (H:Hp) (fs:List Addr) (h h':Heap):Prop where
 keep:∀b o,h.get? b=some o->((∃o',g.get? b=some o')\/H b≠none)->b∉fs->h'.get? b=some o
 slot:∀b o,b∈fs->h.get? b=some o->∃sl,h'.get? b=some { o with slots:=sl }
 there:∀b o,h.get? b=some o->∃o',h'.get? b=some o'
theorem Ch.refl:Ch g H fs h h:=⟨fun _ _ e _ _=>e,fun b o _ e=>⟨o.slots,e⟩,fun b o e=>⟨o,e⟩⟩
theorem Ch.trans(x:Ch g H fs h h1)(y:Ch g H fs h1 h2):Ch g H fs h h2 where
 keep:=fun b o e q n=>y.keep b o (x.keep b o e q n) q n
 slot:=fun b o m e=>let⟨_,e1⟩:=x.slot b o m e;let⟨sl,e2⟩:=y.slot b _ m e1;⟨sl,e2⟩
 there:=fun b o e=>let⟨o1,e1⟩:=x.there b o e;y.there b o1 e1
theorem bJ.some_of(k:bJ P w H h)(e:h.get? b=none):H b=none:=by
 cases q:H b with
 |none=>rfl
 |some u=>
  exfalso;have:∀(u:HO),cI P w H h b u->∃o,h.get? b=some o:=by
   intro u
   induction u with
   |lst z=>exact fun d=>by obtain⟨_,_,_,_,e⟩:=d;exact⟨_,e⟩
   |tup z=>exact fun g=>by obtain⟨_,_,_,o,e,_⟩:=g;exact⟨_,e⟩
   |dK t=>exact fun i=>by obtain⟨_,_,_,_,o,_,_,e,_⟩:=i;exact⟨_,e⟩
   |dT t=>exact fun j=>by obtain⟨_,_,_,_,o,_,_,e,_⟩:=j;exact⟨_,e⟩
   |set S n=>exact fun l=>by obtain⟨o,_,_,_,e,_⟩:=l;exact⟨_,e⟩
   |ins C A fs=>exact fun m=>by obtain⟨_,_,_,e,_⟩:=m;exact⟨_,e⟩
   |own y=>exact fun p=>by obtain⟨_,e⟩:=p;exact⟨_,e⟩
   |xd fs=>exact fun r=>by obtain⟨_,⟨_,_,_,e,_⟩,_⟩:=r;exact⟨_,e⟩
   |rng lo B=>exact fun s=>by obtain⟨_,_,_,e⟩:=s;exact⟨_,e⟩
   |frz ob u _=>exact fun a=>by obtain⟨e,_⟩:=a;exact⟨_,e⟩
   |tbl D=>exact fun e=>⟨_,e⟩
   |met f y=>exact fun e=>⟨_,e⟩
   |ext φ=>exact fun c=>by obtain⟨_,⟨_,e⟩,_⟩:=c;exact⟨_,e⟩
  obtain⟨o,v⟩:=this u (k b u q);rw[e]at v;cases v
theorem An{h :Heap}:∀{l},(∀b∈bW l,a.get? b=none)->h.FunFrames base l->h.FunFrames a l
 |[],_,_=>trivial
 |c::r,hb,⟨f,⟨L,o,d,_,ho,hd⟩,g⟩=>by
  have e:bW (c::r)=L::bW r:=by unfold bW;rw[q07,d]
  exact⟨f,⟨L,o,d,hb L (by rw[e];exact q0f),ho,hd⟩,An (fun b h=>hb b (by rw[e];exact bt _ h)) g⟩
theorem Ao{L:Addr}(y:A.frames=some (env::outer))(B:s.heap.FunFrames base (env::outer))(hf:env.frame=some L)(hk:∀b,s.heap.get? b=none->H b=none)
  (gh:∀b o,g.get? b=some o->∃i,s.heap.get? b=some i) (lo:g.get? a=none) (un:H a=none) (he:s.heap.get? a=some u) (hc:u.cls=C) (hd:u.data=.fields v) (D:1<v.size) (h0:v[0]? = some a0)
  (h:∀f,Ch g H (bW (env::outer)) s.heap f->ij g H f a C (some (rawInt L))->Q () { s with heap:=f }) :
  wpAny M A (do let x <-frameOf env;let pl <-entryPlaceOf L d;let b <-EntryCells.newEntry head x .none (rawInt L) .none pl;setField (.ref a) 1 b) Q E s:=by
 refine wpAny_entryW y (An (fun b m=>q15 _ (bt _ m)) B) hf he (fun b o e=>PySem.W.of_hideAll _ e) (q15 _ q0f) hd D h0 fun f k=>?_;obtain⟨k1,k2,k3,k4⟩:=k;obtain⟨G,I,T,oT,R,S,⟨e2,J⟩,e3,e4,U,e6,X,Y,e9⟩:=k3;have p:∀b o,b∈bW (env::outer)->s.heap.get? b=some o->∃p,f.get? b=some { o with slots:=p }:=fun b o m e=>by obtain⟨_,i,c,N⟩:=B.mem m;rw[e]at c;cases c;exact k4 b o e N
 have kp:=fun b o e r t=>k1 b o (q19 _ e fun z=>(q0b.mp z).elim r t);have Z:g.get? T=none/\H T=none:=by
  cases q:s.heap.get? T with
  |some o=>
   exfalso
   by_cases j:T∈bW (env::outer)
   .obtain⟨_,i,c,N⟩:=B.mem j;rw[q]at c;cases c;obtain⟨O,l⟩:=p T o j q;rw[X]at l;cases l;exact N R Y
   .rw[q19 _ q (fun z=>(q0b.mp z).elim e6 j)]at U;cases U
  |none=>
   refine⟨?_,hk T q⟩;cases q2:g.get? T with
   |none=>rfl
   |some o=>obtain⟨i,c⟩:=gh T o q2;rw[q]at c;cases c
 have ch:Ch g H (bW (env::outer)) s.heap f:=⟨fun b o e q n=>kp b o e (fun z=>?_) n,fun b o m e=>p b o m e,fun b o e=>?_⟩
 .refine h f ch ⟨fun b o e=>?_,lo,un,G,I,a0,S,e2.trans hc,e3,J,.inr ⟨T,oT,R,_,rfl,e4,Z.1,Z.2,e6,X,Y,e9⟩⟩;obtain⟨i,c⟩:=gh b o e;exact ch.there b i c
 .subst z;rcases q with⟨i,q⟩ |q
  .rw[lo]at q;cases q
  .exact q un
 .by_cases t:b∈bW (env::outer)
  .obtain⟨O,c⟩:=p b o t e;exact⟨_,c⟩
  .by_cases r:b=a
   .subst r;exact⟨_,S⟩
   .exact⟨o,kp b o e r t⟩
theorem My{h:Heap}(i:h.FunFrames base l)(j:h.get? T=some d)(hd:d.data=.fields e):(h.update T f).FunFrames base l:=
 i.of_keeps fun b o c k=>⟨o,by rw[Heap.get?_update_other _ _ (fun z=>k e (by subst z;rw[j]at c;cases c;exact hd))];exact c,rfl⟩
theorem Ap(j:h.get? T=some c)(hd:c.data=.fields i)(k:g.get? T=none)(l:H T=none)(d:T∉fs):Ch g H fs h (h.update T (Obj.mapFields f)):=by
 refine⟨fun b o e q n=>?_,fun b o m e=>⟨o.slots,?_⟩,fun b o e=>?_⟩
 .rw[Heap.get?_update_other _ _ (fun z=>?_)]
  .exact e
  .subst z;rcases q with⟨p,q⟩ |q
   .rw[k]at q;cases q
   .exact q l
 .rw[Heap.get?_update_other _ _ (fun z=>d (by rw[z];exact m))];exact e
 .by_cases z:b=T
  .subst z;exact⟨_,(Heap.get?_update_self _ j (Obj.isFreed_of_fields (Obj.data_mapFields hd f)))⟩
  .exact⟨o,by rw[Heap.get?_update_other _ _ (Ne.symm z)];exact e⟩
theorem Mz{L:Addr}(k:A.frames=some (env::outer))(t:s.heap.FunFrames base (env::outer))(u:env.frame=some L)(I:∀b,s.heap.get? b=none->H b=none)(x:ij g H s.heap a C fl)
  (h:∀l,Ch g H (bW (env::outer)) s.heap l->ij g H l a C (some (rawInt L))->Q () { s with heap:=l }):wpAny M A (noteFrame (.ref a) env) Q E s:=by
 obtain⟨G,lo,un,J,O,a0,m,v,hd,h0,R⟩:=x;unfold noteFrame;simp only[u];rcases R with⟨_,h1⟩ |⟨T,S,N,f,_,h1,n,p,r,j,c,h3⟩
 .refine af (wpAny_field m hd h1 ?_);rw[if_neg (by decide)];exact Ao k t u I G lo un m v hd (q1e.mp h1).1 h0 h
 .refine af (wpAny_field m hd h1 ?_);rw[if_pos (by simp)];refine af (wpAny_field j c h3 ?_)
  by_cases d:(f==rawInt L)=true
  .rw[if_pos d];have e:=by simpa using d
   subst e;exact aJ (h s.heap .refl ⟨G,lo,un,J,O,a0,m,v,hd,h0,.inr ⟨T,S,N,_,rfl,h1,n,p,r,j,c,h3⟩⟩)
  .rw[if_neg d];refine af (wpAny_setField j c (q1e.mp h3).1 ?_);have y:T∉bW (env::outer):=fun z=>by obtain⟨_,B,i,U⟩:=t.mem z;rw[j]at i;cases i;exact U N c
   have D:=Ap (g:=g) (f:=(·.setIfInBounds 3 Value.none)) j c n p y;refine Ao k (My t j c) u (fun b e=>?_) (fun b o e=>?_) lo un ?_ v hd (q1e.mp h1).1 h0 fun l ch X=>h l (D.trans ch) X
   .refine I b ?_;cases q:s.heap.get? b with
    |none=>rfl
    |some o=>obtain⟨B,i⟩:=D.there b o q;rw[show({ s with heap:=s.heap.update T (Obj.mapFields (·.setIfInBounds 3 Value.none)) }:Shared).heap=s.heap.update T (Obj.mapFields (·.setIfInBounds 3 Value.none)) from rfl]at e;rw[e]at i;cases i
   .obtain⟨B,i⟩:=G b o e;exact D.there b B i
   .rw[Heap.get?_update_other _ _ r];exact m
theorem MA(m)(n:∀b∈fs,∃o,s.heap.get? b=some o/\∀p,o.data≠.fields p)(x:ij g H s.heap a C (some fv))
  (h:∀q,Ch g H fs s.heap q->ij g H q a C (some (m.elim Value.none fun f=>rawInt f))->Q () { s with heap:=q }):wpAny M A (setFlight (.ref a) m) Q E s:=by
 obtain⟨O,lo,un,y,p,a0,t,B,hd,h0,D⟩:=x;rcases D with⟨z,_⟩ |⟨T,R,G,f,_,h1,d,i,j,l,c,h3⟩
 .cases z
 .refine af (wpAny_field t hd h1 ?_);rw[if_pos (by simp)];have k:=(q1e.mp h3).1;have v:=Ap (f:=(·.setIfInBounds 3 (m.elim Value.none fun f=>rawInt f))) l c d i (fun z=>by obtain⟨o,u,I⟩:=n T z;rw[l]at u;cases u;exact I G c);refine wpAny_setField l c k (h _ v ⟨fun b o e=>?_,lo,un,y,p,a0,?_,B,hd,h0,.inr ⟨T,_,_,_,rfl,h1,d,i,j,Heap.get?_update_self _ l (Obj.isFreed_of_fields (Obj.data_mapFields c _)),Obj.data_mapFields c _,?_⟩⟩)
  .obtain⟨J,N⟩:=O b o e;exact v.there b J N
  .rw[Heap.get?_update_other _ _ j];exact t
  .simp[k]
theorem MB{h:Heap}(c:h.FunFrames base l):∀b∈bW l,∃o,h.get? b=some o/\∀d,o.data≠.fields d:=fun b f=>let⟨_,o,e,n⟩:=c.mem f;⟨o,e,n⟩
theorem Ch.frames(c:Ch g H fs h d)(i:∀b∈bW l,b∈fs)(j:h.FunFrames base l):d.FunFrames base l:=by
 induction l with
 |nil=>trivial
 |cons env r k=>
  obtain⟨m,⟨L,o,f,n,ho,hd⟩,p⟩:=j;have e:bW (env::r)=L::bW r:=by unfold bW;rw[q07,f]
  obtain⟨u,q⟩:=c.slot L o (i L (by rw[e];exact q0f)) ho;exact⟨m,⟨L,_,f,n,q,hd⟩,k (fun b t=>i b (by rw[e];exact bt _ t)) p⟩
theorem MC(c:A.frames=some (env::outer))(e:s.heap.FunFrames base (env::outer))(i:env.frame=some L)(j:∀b,s.heap.get? b=none->H b=none)(x:ij g H s.heap a C fl)
  (h:∀d,Ch g H (bW (env::outer)) s.heap d->ij g H d a C (some .none)->Q () { s with heap:=d }):wpAny M A (leaving env (.ref a)) Q E s:=by
 refine af (Mz c e i j x fun n f k=>MA none (MB (f.frames (fun _ h=>h) e)) k fun o l m=>h o (f.trans l) m)
structure rH (X:Cx) (pins:List (Addr×Obj)) (g:Heap):Prop where
 s0:∀b o,X.s₀.heap.get? b=some o->b∉X.ex->∃o',g.get? b=some o'
 loc:∃o,g.get? X.env.locals=some o
 cell:∀x c,X.env.cells.lookup x=some c->∃o,g.get? c=some o
 pin:∀p∈X.pn++pins,∃o,g.get? p.1=some o
theorem _root_.L2.Inv.cov{Y:St}(I:Inv X pins Y H s):rH X pins s.heap:=by
 refine⟨fun b o e n=>I.base.there b o e n,?_,fun x c e=>?_,fun p a=>⟨_,(I.pin p a).1⟩⟩
 .obtain⟨m,⟨o,d,f,ho,_⟩,_⟩:=I.loc;exact⟨o,ho⟩
 .obtain⟨v,o,ho,_⟩:=I.cell x c e;exact⟨o,ho⟩
theorem _root_.L2.Inv.stkIn{Y:St}(I:Inv X pins Y H s)(h:b∉bW X.stack):b∉X.fs:=by
 rcases I.ok.stk with e |⟨e,a⟩
 .rw[e]at h;exact h
 .rw[e]at h;unfold bW at h;rw[q07,a]at h;exact fun z=>h (bt _ z)
theorem _root_.L2.Inv.stkOut{Y:St}(I:Inv X pins Y H s)(h:b∉X.fs)(a:b≠X.env.locals):b∉bW X.stack:=fun z=>(q0b.mp (I.stkSub b z)).elim a h
theorem ME{h h':Heap}(k:∀o,h.get? a=some o->∃b,h'.get? a=some { o with slots:=b })(c:h.Ns a m):h'.Ns a m:=by obtain⟨o,d,e,ho,hd,r⟩:=c;obtain⟨b,hs⟩:=k o ho;exact⟨_,d,e,hs,hd,r⟩
theorem _root_.L2.Inv.ch{Y:St}(I:Inv X pins Y H s)(B:rH X pins g)(c:Ch g H (bW X.stack) s.heap h'):Inv X pins Y H { s with heap:=h' }:=by
 have E:∀x a,X.env.cells.lookup x=some a->∀o,s.heap.get? a=some o->∃y,h'.get? a=some y/\y.data=o.data:=fun x a e o h=>by
  by_cases hs:a∈bW X.stack
  .obtain⟨S,w⟩:=c.slot a o hs h;exact⟨_,w,rfl⟩
  .exact⟨o,c.keep a o h (.inl (B.cell x a e)) hs,rfl⟩
 refine⟨I.ok,I.os,I.bare,⟨fun b o e n A t=>?_,fun b o e n A t=>?_,fun b o e n t=>I.base.free b o e n t,fun b o e t=>?_,I.base.tups,I.base.frzs,I.base.tbls⟩,?_,fun x a e=>?_,I.free,I.freeC,fun p G=>?_,fun b u e=>?_,I.len⟩
 .refine c.keep b o (I.base.keep b o e n A t) (.inl (B.s0 b o e t)) (I.stkOut A fun z=>?_);have f:=bm e;rw[z]at f;exact q0C _ (q0n f I.ok.above)
 .obtain⟨S,w⟩:=I.base.slot b o e n A t
  by_cases hs:b∈bW X.stack
  .obtain⟨D,M⟩:=c.slot b _ hs w;exact⟨D,M⟩
  .exact absurd A (I.stkIn hs)
 .obtain⟨N,w⟩:=I.base.there b o e t;exact c.there b N w
 .obtain⟨m,O,Q⟩:=I.loc;refine⟨m,ME (fun o h=>?_) O,fun i x v j f C=>?_⟩
  .by_cases hs:X.env.locals∈bW X.stack
   .exact c.slot _ o hs h
   .exact⟨o.slots,c.keep _ o h (.inl B.loc) hs⟩
  .obtain⟨u,r,l⟩:=Q i x v j f C;refine⟨u,r,?_⟩;rcases l with l |⟨k,a,e,o,h,hd⟩
   .exact .inl l
   .obtain⟨y,j,f⟩:=E x a e o h;exact .inr ⟨k,a,e,y,j,f.trans hd⟩
 .obtain⟨v,o,h,hd⟩:=I.cell x a e;obtain⟨y,j,f⟩:=E x a e o h;exact⟨v,y,j,f.trans hd⟩
 .obtain⟨j,f,C,J,R⟩:=I.pin p G;exact⟨c.keep _ _ j (.inl (B.pin p G)) (I.stkOut J C),f,C,J,R⟩
 .refine(I.hok b u e).stay (fun d v hd q=>(fun b o e n=>c.keep b o e (.inr n) fun z=>n (I.stkFree b z)) d v q ?_) (fun _ q=>q) fun _ _ q=>q;rcases hd with rfl |hd
  .rw[e];exact fun z=>by cases z
  .rw[hd];exact fun z=>by cases z
def dR(P:Program)(w:World):iS:=fun b H s E e c=>∃a C d,e=.ref a/\c.os=s.os/\AllBare c.gens/\Un (bW b) [] H d s.heap c.heap/\bJ P w d c.heap/\ij s.heap d c.heap a C (some .none)/\E C none d
structure MG (X:Cx) (pins:List (Addr×Obj)) (Y:St) (H:Hp) (s:Shared) (e:Value) (c:Str):Prop where
 inv:Inv X pins Y H s
 ex:∃a C g fl,e=.ref a/\rH X pins g/\ij g H s.heap a C fl/\X.mg c=some C
noncomputable def glob(x:Str):Option PyData:=if x="ANY_ZONE" then some (.tuple [.int 0,.tuple []]) else if x="NO_DEEDS" then some (.tuple []) else none
noncomputable def gM:HO->Bool
 |.tup _=>true
 |.frz _ (.tup _)=>true
 |_=>false
theorem MI(h:gM u=true):¬ Mv u:=fun m=>by
 cases u with
 |tup _=>exact m
 |frz _ _=>exact m
 |_=>cases h
def oW(H:Hp):Hp:=fun b=>match H b with
 |some u=>if gM u=true then some u else none
 |none=>none
theorem MJ(h:oW H b=some o):gM o=true/\H b=some o:=by
 unfold oW at h;split at h
 .rename_i u e;split at h
  .rename_i t;cases h;exact⟨t,e⟩
  .cases h
 .cases h
theorem MK(t:gM u=true)(h:H b=some u):oW H b=some u:=by unfold oW;rw[h];exact if_pos t
def GH(mg:Str->Option Value)(H:Hp):Prop:=∀x d u,glob x=some d->mg x=some u->∃v,bj v u/\DV (oW H) v d
def GF(mg:Str->Option Value)(F:Fx):Prop:=GH mg fun b=>if b∈F.A₀ then none else F.H₀ b
theorem GH.mono(g:GH mg H)(k:∀b u,gM u=true->H b=some u->a b=some u):GH mg a:=fun x d u h i=>by obtain⟨v,r,c⟩:=g x d u h i;exact⟨v,r,DV.mono (fun b o e=>by obtain⟨t,f⟩:=MJ e;exact MK t (k b o t f)) c⟩
theorem GF.at{K}(g:GF mg F)(st:aD K F H Y U O):GH mg H:=GH.mono g fun b c t e=>by
 obtain⟨W,st,rfl⟩:=st;split at e
 .cases e
 .rename_i a;exact st.kept b _ a e
theorem GH.frame(g:GH mg H)(h:∀a∈A,∃o,H a=some o/\Mv o):GF mg ⟨H,A,O,io⟩:=GH.mono g fun b d t e=>by show(if b∈A then none else H b)=_;rw[if_neg,e];intro z;obtain⟨o,c,m⟩:=h b z;rw[e]at c;cases c;exact MI t m
theorem GF.into{K}(g:GF mg F)(st:aD K F H Y U O):GF mg ⟨H,[],b,io⟩:=(g.at st).frame fun a h=>by cases h
def fH(X:Cx)(F:Fx)(E:Str->aj->Prop):Prop:=GF X.mg F/\∀(pins:List (Addr×Obj)) (Y:St) (H:Hp) (s:Shared) (e:Value) (c:Str) (U:aj) (O:List Addr),MG X pins Y H s e c->aD X.K F H Y U O->E c U->X.xe e s
theorem ij.weak(x:ij g H h a C j)(k:∀b o,c.get? b=some o->∃d,g.get? b=some d):ij c H h a C j:=by
 have l:∀b,g.get? b=none->c.get? b=none:=fun b e=>by
  cases q:c.get? b with
  |none=>rfl
  |some o=>obtain⟨d,i⟩:=k b o q;rw[e]at i;cases i
 obtain⟨y,lo,un,m,n,a0,p,r,hd,h0,t⟩:=x;refine⟨fun b o e=>let⟨d,i⟩:=k b o e;y b d i,l a lo,un,m,n,a0,p,r,hd,h0,t.imp id ?_⟩;rintro⟨T,u,v,f,h1,h2,h3,w⟩;exact⟨T,u,v,f,h1,h2,l T h3,w⟩
theorem _root_.L2.Inv.flies{Y:St}(I:Inv X pins Y H s)(h:dR X.prog X.w X.stack H s E e f):∃a C c,e=.ref a/\Inv X pins Y c f/\rH X pins s.heap/\ij s.heap c f.heap a C (some .none)/\E C none c:=by obtain⟨a,C,c,j,os,bare,un,hok,ex,q⟩:=h;obtain⟨k,g,d,t,i⟩:=f;obtain rfl:i = s.os:=os;exact⟨a,C,c,j,I.call un hok bare (fun b z=>absurd z (by simp)),I.cov,ex,q⟩
theorem ML{K}
  (u:GF mg F) (v:∀c C n x p y,mg c=some C->aD K F p x n y->m c n->E C none p):fH (iC (dR P w) P w K mg base N i d f j A h s H E) F m:=by
 refine⟨u,?_⟩;rintro r Y k B e c U O ⟨I,a,C,g,Q,D,t,ex,G⟩ st q;subst D;refine MC I.ok.frames I.stack rfl (fun b z=>bJ.some_of I.hok z) ex fun R ch l=>?_;have J:=I.ch t ch;refine⟨a,C,k,rfl,J.os,J.bare,J.base,J.hok,l.weak fun b o M=>t.s0 b o M (by intro z;cases z),v c C U Y k O G st q⟩
noncomputable def Fx.plus(F:Fx)(a:List Addr):Fx:={ F with O₀:=a++F.O₀ }
theorem Fx.plus_plus{F:Fx}:(F.plus l).plus m=F.plus (m++l):=by unfold Fx.plus;simp
structure gw (K:Frag) (F:Fx) (H:Hp) (Y:St) (U:aj) (O:List Addr) (v:V) (c:aa) (fp:List Addr):Prop where
 st:aD K (F.plus fp) H Y U O
 at_:eZ K H O v c fp
 new:∀a∈fp,a∈F.A₀\/F.H₀ a=none
theorem iZ(h:∀a∈O',a∈O):aQ O H O' H:=⟨fun _ _ _ e=>e,fun a z=>.inl (h a z)⟩
theorem cL.less{K:Frag}(st:cL K F H Y U W)(d:b.H₀=F.H₀)(f:b.A₀=F.A₀)(g:b.I₀=F.I₀)(m:b.O₀.Sublist F.O₀):cL K b H Y U W:=by have sub:(W.flatten++b.O₀).Sublist (W.flatten++F.O₀):=q2d (q1Q _) m;have mem:∀a∈W.flatten++b.O₀,a∈W.flatten++F.O₀:=fun a h=>sub.subset h;refine⟨fun i c e=>?_,st.nd.sublist sub,by rw[d,f];exact st.kept,by rw[d,f];exact st.new,fun a h=>st.live a (mem a h),st.len,st.lw,by rw[g];exact st.io⟩;obtain⟨v,fp,j,k,l⟩:=st.at_ i c e;exact⟨v,fp,j,k,l.keep (iZ mem) (fun _ _=>rfl) (fun _ _ _ e=>e)⟩
theorem aD.unplus{K:Frag}(st:aD K (F.plus fp) H Y U O):∃O',aD K F H Y U O'/\aQ O H O' H/\(∀a∈fp,a∉O'):=by
 obtain⟨W,st,rfl⟩:=st;refine⟨_,⟨W,(st.less rfl rfl rfl (q2n _ _)),rfl⟩,iZ fun a h=>?_,fun a d z=>?_⟩
 .rcases q0d.mp h with h |h
  .exact bC _ h
  .exact bp _ (bp _ h)
 .obtain⟨_,e,f⟩:=q0j.mp st.nd;rcases q0d.mp z with z |z
  .exact f a z a (bC _ d) rfl
  .exact(q0j.mp e).2.2 a d a z rfl
theorem gw.drop{K:Frag}(r:gw K F H Y U O v c fp):∃O',aD K F H Y U O'/\aQ O H O' H:=let⟨O',h1,h2,_⟩:=r.st.unplus;⟨O',h1,h2⟩
@[simp]noncomputable def frz:aa->Option PyData
 |.dat d=>some d
 |.own _ (.l ds)=>some (.list ds)
 |_=>none
theorem gw.frz{K:Frag}(r:gw K F H Y U O v c fp)(e:frz c=some d):∃O',aD K F H Y U O'/\aQ O H O' H/\DV (au O' H) v d:=by
 obtain⟨O',h1,h2,h3⟩:=r.st.unplus;refine⟨O',h1,h2,?_⟩;have f:=r.at_;cases c with
 |dat x=>cases e;exact DV.mono h2.hid f
 |scr ns=>cases e
 |exc c=>cases e
 |vw c=>cases e
 |own io b=>
  cases b with
  |l ds=>cases e;obtain⟨a,rfl,rfl,i,g,h⟩:=f;exact .lst (iV g (h3 a (by simp))) (aG.mono h2.hid h)
  |m _ _=>cases e
  |o _ _=>cases e
  |sd _=>cases e
  |ll _=>cases e
  |pr _ _ _=>cases e
  |oo _ _=>cases e
theorem MM{K:Frag}(st:aD K F H Y U O)(h:DV (au O H) v d):gw K F H Y U O v (.dat d) []:=⟨st,h,fun a h=>by cases h⟩
theorem aD.put1{K:Frag}{io:Bool}(st:aD K (F.plus fp) H Y U O)(s:eZ K H O v c fp)(new:∀a∈fp,a∈F.A₀\/F.H₀ a=none)(n:i<U.length)(o:∀b,c=.own true b->v=.ref (F.I₀ i)) :
  ∃O',aD K F H (Y.set i (some v)) (U.set i (some c)) O'/\aQ O H O' H:=by
 obtain⟨W,st,rfl⟩:=st;obtain⟨t,u,r⟩:=q0j.mp st.nd;obtain⟨x,y,A⟩:=q0j.mp u;have sub:∀a∈(W.set i fp).flatten++F.O₀,a∈W.flatten++(fp++F.O₀):=fun a h=>by
  rcases q0d.mp h with h |h
  .rcases gJ h with h |⟨j,l,_,e,q⟩
   .exact bp _ (bC _ h)
   .exact bC _ (cw e q)
  .exact bp _ (bp _ h)
 have f:=iZ (H:=H) sub;refine⟨_,⟨W.set i fp,⟨fun j d e=>?_,rD (q0j.mpr ⟨t,y,fun a k b B=>r a k b (bp _ B)⟩) x fun a k=>⟨fun j l _ e z=>r a (cw e z) a (bC _ k) rfl,fun z=>A a k a z rfl⟩,st.kept,fun a h=>?_,fun a h=>st.live a (sub a h),by rw[q0A,q0A,st.len],by rw[q0A,q0A,st.lw],fun j b e=>?_⟩,rfl⟩,f⟩
 .rcases kd e with⟨rfl,g,_⟩ |⟨m,g⟩
  .cases g;exact⟨v,fp,q0v (by rw[<-st.len];exact n),q0v (by rw[st.lw];exact n),s.keep f (fun _ _=>rfl) (fun _ _ _ e=>e)⟩
  .obtain⟨w,l,h1,h2,h3⟩:=st.at_ j d g;exact⟨w,l,by rw[q0u m.symm];exact h1,by rw[q0u m.symm];exact h2,h3.keep f (fun _ _=>rfl) (fun _ _ _ e=>e)⟩
 .rcases gJ h with h |⟨j,l,_,e,q⟩
  .exact new a h
  .exact st.new a (cw e q)
 .rcases kd e with⟨rfl,g,_⟩ |⟨m,g⟩
  .rw[q0v (by rw[<-st.len];exact n),o b (q0r g).symm]
  .rw[q0u m.symm];exact st.io j b g
theorem aD.take{K:Frag}(st:aD K F H Y U O)(e:U[i]? = some (some (.own io b))):∃a fp O',Y[i]? = some (some (.ref a))/\aD K (F.plus fp) H Y (U.set i none) O'/\fF (au O' H) H a b fp/\aQ O H O' H/\aQ O' H O H/\(∀a∈fp,a∈F.A₀\/F.H₀ a=none)/\(io=true->a=F.I₀ i):=by
 obtain⟨W,st,rfl⟩:=st;obtain⟨v,fp,h1,h2,a,rfl,h3⟩:=st.at_ i _ e;have G:=(q0a.mp e).1;obtain⟨D,J,L⟩:=q0j.mp st.nd;have E:∀x∈(W.set i []).flatten++(fp++F.O₀),x∈W.flatten++F.O₀:=fun x h=>by
  rcases q0d.mp h with h |h
  .rcases gJ h with h |⟨j,l,_,g,m⟩
   .cases h
   .exact bC _ (cw g m)
  .rcases q0d.mp h with h |h
   .exact bC _ (cw h2 h)
   .exact bp _ h
 have M:∀x∈W.flatten++F.O₀,x∈(W.set i []).flatten++(fp++F.O₀):=fun x h=>by
  rcases q0d.mp h with h |h
  .obtain⟨l,m,f⟩:=q2c.mp h;obtain⟨j,n⟩:=q1g m
   by_cases s:j=i
   .subst s;rw[h2]at n;cases n;exact bp _ (bC _ f)
   .exact bC _ (LO s n f)
  .exact bp _ (bp _ h)
 have t:=by
  have:∀{W:List (List Addr)}{i:Nat}{l:List Addr},W.flatten.Nodup->W[i]? = some l->l.Nodup:=fun {W i l} R m=>R.sublist (by
   have:=q0K m;exact List.sublist_flatten_of_mem this)
  exact this D h2
 have u:=by
  obtain⟨A,_,B⟩:=q0j.mp (rD (fp:=[]) (O:=F.O₀) st.nd q0M (fun a h=>by cases h));refine q0j.mpr ⟨A,q0j.mpr ⟨t,J,fun x f y o z=>L x (cw h2 f) y o z⟩,fun x f y o z=>?_⟩;subst z;rcases q0d.mp o with o |o
  .rcases gJ f with f |⟨j,l,n,g,m⟩
   .cases f
   .exact mh D h2 g (Ne.symm n) o m
  .exact B x f x o rfl
 have p:=iZ (H:=H) E;refine⟨a,fp,_,h1,⟨W.set i [],⟨fun j d g=>?_,u,st.kept,fun x h=>?_,fun x h=>st.live x (E x h),by rw[q0A,st.len],by rw[q0A,q0A,st.lw],fun j N g=>?_⟩,rfl⟩,h3.keep (fun _ _=>rfl) p.hid,p,(iZ (H:=H) M),fun x f=>st.new x (cw h2 f),fun C=>?_⟩
 .rcases kd g with⟨rfl,r,_⟩ |⟨n,r⟩
  .cases r
  .obtain⟨w,l,A,Q,B⟩:=st.at_ j d r;exact⟨w,l,A,by rw[q0u (Ne.symm n)];exact Q,B.keep p (fun _ _=>rfl) (fun _ _ _ e=>e)⟩
 .rcases gJ h with h |⟨j,l,_,g,m⟩
  .cases h
  .exact st.new x (cw g m)
 .rcases kd g with⟨rfl,r,_⟩ |⟨n,r⟩
  .cases r
  .exact st.io j N r
 .subst C;have:=st.io i b e;rw[h1]at this;cases this;rfl
theorem aD.swap{K:Frag}{F:Fx}(st:aD K (F.plus L) H Y U O)(keep:∀b o,b∉L->H b=some o->H' b=some o)(D:L'.Nodup)(new:∀a∈L',a∈L\/H a=none)(t:∀a∈L,a∈F.A₀\/F.H₀ a=none)(l:∀a∈L',∃o,H' a=some o/\Mv o) :
  ∃O',aD K (F.plus L') H' Y U O'/\aQ O H O' H'/\(∀a∈L',a∈O')/\(∀a∈O',a∈L'\/a∈O/\a∉L)/\∀a∈O,a∉L->a∈O':=by
 obtain⟨W,st,rfl⟩:=st;obtain⟨w,x,p⟩:=q0j.mp st.nd;obtain⟨E,y,A⟩:=q0j.mp x;have wl:=fun a h z=>p a h a (bC _ z) rfl;have ol:=fun a h z=>A a z a h rfl;have j:=fun a h=>st.live a (by
  rcases q0d.mp h with h |h
  .exact bC _ h
  .exact bp _ (bp _ h))
 have kp:∀a∈W.flatten++F.O₀,H' a=H a:=fun a h=>by obtain⟨o,e,_⟩:=j a h;rw[e];exact keep a o ((q0d.mp h).elim (wl a) (ol a)) e
 have ap:∀a∈L',a∉W.flatten++F.O₀:=fun a h z=>by
  rcases new a h with q |q
  .rcases q0d.mp z with z |z
   .exact wl a z q
   .exact ol a z q
  .obtain⟨o,e,_⟩:=j a z;rw[q]at e;cases e
 have f:aQ (W.flatten++(L++F.O₀)) H (W.flatten++(L'++F.O₀)) H':=⟨fun b o d e=>keep b o (fun z=>d (bp _ (bC _ z))) e,fun a h=>by
  rcases q0d.mp h with h |h
  .exact .inl (bC _ h)
  .rcases q0d.mp h with h |h
   .exact(new a h).imp (fun z=>bp _ (bC _ z)) id
   .exact .inl (bp _ (bp _ h))⟩
 refine⟨_,⟨W,⟨fun i c e=>?_,?_,fun b o d e=>?_,st.new,fun a h=>?_,st.len,st.lw,st.io⟩,rfl⟩,f,fun a h=>bp _ (bC _ h),fun a h=>?_,fun a h C=>?_⟩
 .obtain⟨v,fp,h1,h2,h3⟩:=st.at_ i c e;exact⟨v,fp,h1,h2,h3.keep f (fun b d=>kp b (bC _ (cw h2 d))) (fun b o u e=>keep b _ (fun z=>st.nofrz (bp _ (bC _ z)) e) e)⟩
 .refine q0j.mpr ⟨w,q0j.mpr ⟨D,y,fun a k b d z=>?_⟩,fun a k b d z=>?_⟩
  .subst z;exact ap a k (bp _ d)
  .subst z;rcases q0d.mp d with d |d
   .exact ap a d (bC _ k)
   .exact p a k a (bp _ d) rfl
 .have g:=st.kept b o d e
  by_cases r:b∈L
  .rcases t b r with q |q
   .exact absurd q d
   .have s:F.H₀ b=some o:=e;rw[q]at s;cases s
  .exact keep b o r g
 .rcases q0d.mp h with h |h
  .obtain⟨o,g,n⟩:=j a (bC _ h);exact⟨o,by rw[kp a (bC _ h)];exact g,n⟩
  .rcases q0d.mp h with h |h
   .exact l a h
   .obtain⟨o,g,n⟩:=j a (bp _ h);exact⟨o,by rw[kp a (bp _ h)];exact g,n⟩
 .rcases q0d.mp h with h |h
  .exact .inr ⟨bC _ h,wl a h⟩
  .rcases q0d.mp h with h |h
   .exact .inl h
   .exact .inr ⟨bp _ (bp _ h),ol a h⟩
 .rcases q0d.mp h with h |h
  .exact bC _ h
  .rcases q0d.mp h with h |h
   .exact absurd h C
   .exact bp _ (bp _ h)
abbrev iF:=aj->(aa->aj->Prop)->Prop
def Aq(t:iF):Prop:=∀U Q a,(∀c b,Q c b->a c b)->t U Q->t U a
def MN(K:Frag)(F:Fx)(t:iF):TE:=fun Y H Q=>∃U O,aD K F H Y U O/\t U fun c d=>∀v a b e,gw K F a Y d b v c e->aQ O H b a->Q v a
structure DO (X:Cx) (F:Fx) (e:Expr) (t:iF):Prop where
 mn:Aq t
 pe:PE X e (MN X.K F t)
def MO(t:iF):DT:=fun U Q=>t U fun c a=>∃d,frz c=some d/\Q d a
theorem DO.de(h:DO X F e to):DE X F e (MO to):=
 ⟨fun _ _ _ k q=>h.mn _ _ _ (fun _ _ a=>by obtain⟨d,e,q⟩:=a;exact⟨d,e,k _ _ q⟩) q,h.pe.imp fun Y H Q g=>by
 obtain⟨U,O,st,q⟩:=g;exact⟨U,O,st,h.mn _ _ _ (fun c n b v i o p r s=>by
  obtain⟨d,e,q⟩:=b;obtain⟨j,f,l,m⟩:=r.frz e;exact q v i j f (s.trans l) m) q⟩⟩
abbrev fJ:=PyData->aj->(aj->Prop)->Prop
def mm(K:Frag)(F:Fx)(t:fJ):TG:=fun v Y H Q=>∃U O d,aD K F H Y U O/\DV (au O H) v d/\t d U fun e=>∀b a c,aD K F a b e c->aQ O H c a->Q b a
structure DG (X:Cx) (F:Fx) (tg:Expr) (t:fJ):Prop where
 mn:∀d U Q Q',(∀U',Q U'->Q' U')->t d U Q->t d U Q'
 pg:PG X tg (mm X.K F t)
abbrev kX:=List PyData->aj->(aj->Prop)->Prop
def MP(K:Frag)(F:Fx)(t:kX):jW:=fun e Y H Q=>∃U O d,aD K F H Y U O/\aG (au O H) e d/\t d U fun f=>∀b a c,aD K F a b f c->aQ O H c a->Q b a
structure oX (X:Cx) (F:Fx) (tg:List Expr) (t:kX):Prop where
 mn:∀d U Q Q',(∀U',Q U'->Q' U')->t d U Q->t d U Q'
 pg:PGs X tg (MP X.K F t)
theorem _root_.L2.PG.imp(h:PG X e t)(k:∀v Y H Q,t' v Y H Q->t v Y H Q):PG X e t':=fun a s Y H v u Q I r q=>h a s Y H v u Q I r (k v Y H Q q)
theorem _root_.L2.PGs.imp(h:PGs X e t)(k:∀v Y H Q,t' v Y H Q->t v Y H Q):PGs X e t':=fun a s Y H v u Q I r q=>h a s Y H v u Q I r (k v Y H Q q)
def gN(i:Nat):fJ:=fun d U Q=>Q (U.set i (some (.dat d)))
theorem MQ(h:PG X (.Name x pos) (ra i)):DG X F (.Name x pos) (gN i):=⟨fun _ _ _ _ k q=>k _ q,h.imp fun v Y H Q a=>by obtain⟨U,O,d,st,hd,q⟩:=a;exact q _ H O (st.set hd) .refl⟩
def MR:kX:=fun a U Q=>a=[]/\Q U
def MS(t:fJ)(u:kX):kX:=fun b U Q=>∃d r,b=d::r/\t d U fun a=>u r a Q
theorem MT:oX X F [] MR:=⟨fun _ _ _ _ k q=>⟨q.1,k _ q.2⟩,Jh.imp fun b Y H Q a=>by
 obtain⟨U,O,ds,st,hd,e,q⟩:=a;subst e;cases hd;exact⟨rfl,q _ H O st .refl⟩⟩
theorem MU(h:DG X F e t)(i:oX X F es ts)(w:autoParam ((assignEach (e::es) X.env).map (·.2)=assign e X.env::(assignEach es X.env).map (·.2)) Zq._auto_1):oX X F (e::es) (MS t ts):=
 ⟨fun _ _ _ _ k a=>by obtain⟨d,r,e,q⟩:=a;exact⟨d,r,e,h.mn _ _ _ _ (fun _ c=>i.mn _ _ _ _ k c) q⟩,(Ji h.pg i.pg w).imp fun y Y H Q b=>by
  obtain⟨U,O,ds,st,hd,d,r,e,q⟩:=b;subst e;cases hd with
  |cons hd l=>
   exact⟨_,_,rfl,U,O,d,st,hd,h.mn _ _ _ _ (fun m c z A n f j=>⟨m,n,r,f,aG.mono j.hid l,i.mn _ _ _ _ (fun B o p s u g v=>o p s u g (j.trans v)) c⟩) q⟩⟩
def MV(n:Nat)(t:kX):fJ:=fun d U Q=>∃a,d=.tuple a/\a.length=n/\t a U Q
theorem MW{pos:Pos}{k }(j:X.calm=true)(h:oX X F es ts)(m:autoParam ((assignEach es X.env).length=n) Zq._auto_1)(f:autoParam ((assignEach es X.env).findIdx? (·.1)=none) Zq._auto_1):DG X F (.Tuple es k pos) (MV n ts):=
 ⟨fun _ _ _ _ k b=>by obtain⟨g,e,l,q⟩:=b;exact⟨g,e,l,h.mn _ _ _ _ k q⟩,(Jk j h.pg m f).imp fun v Y H Q c=>by
  obtain⟨U,O,d,st,hd,g,e,l,q⟩:=c;subst e;obtain⟨a,o,rfl,p,i⟩:=hd.tup_inv;exact⟨a,o,rfl,.inl (ig p).1,by rw[i.length];exact l,U,O,g,st,i,q⟩⟩
structure fK where
 nx:aj->Prop
 rt:aa->aj->Prop
 bk:aj->Prop:=fun _=>False
 ct:aj->Prop:=fun _=>False
abbrev dL:=fK->aj->Prop
structure kf (K:Frag) (F:Fx) (O:List Addr) (H:Hp) (D:ic) (DD:fK):Prop where
 nx:∀Y' H' U' O',aD K F H' Y' U' O'->aQ O H O' H'->DD.nx U'->D.nx Y' H'
 rt:∀v Y' H' c U' O' fp,gw K F H' Y' U' O' v c fp->aQ O H O' H'->DD.rt c U'->D.rt v H'
 bk:∀Y' H' U' O',aD K F H' Y' U' O'->aQ O H O' H'->DD.bk U'->D.bk Y' H'
 ct:∀Y' H' U' O',aD K F H' Y' U' O'->aQ O H O' H'->DD.ct U'->D.ct Y' H'
theorem kf.later{K}(f:kf K F O H D e)(s:aQ O H b d):kf K F b d D e:=
 ⟨fun Y H U O st a q=>f.nx Y H U O st (s.trans a) q,fun v Y H c U O g r a q=>f.rt v Y H c U O g r (s.trans a) q,fun Y H U O st a q=>f.bk Y H U O st (s.trans a) q,fun Y H U O st a q=>f.ct Y H U O st (s.trans a) q⟩
def Ar(K:Frag)(F:Fx)(t:dL):TS:=fun D Y H=>∃U O a,aD K F H Y U O/\t a U/\kf K F O H D a
def DS(X:Cx)(F:Fx)(s:Stmt)(t:dL):Prop:=PS X s (Ar X.K F t)
def ik(X:Cx)(F:Fx)(s:List Stmt)(t:dL):Prop:=PSs X s (Ar X.K F t)
def MX:dL:=fun D U=>D.nx U
def MY(t u:dL):dL:=fun D U=>t { D with nx:=fun a=>u D a } U
theorem MZ:ik X F [] MX:=IU.imp fun D Y H a=>by obtain⟨U,O,b,st,q,f⟩:=a;exact f.nx Y H U O st .refl q
theorem Na{st:Stmt}(j:DS X F st t)(k:ik X F rest u):ik X F (st::rest) (MY t u):=
 (IW j k).imp fun D Y H a=>by obtain⟨U,O,c,s,q,f⟩:=a;exact⟨U,O,_,s,q,⟨fun l m d g b h i=>⟨d,g,c,b,i,f.later h⟩,f.rt,f.bk,f.ct⟩⟩
theorem Nb{st:Stmt}(h:DS X F st t):ik X F [st] t:=IX h
def vC(te:DT)(tg:fJ):dL:=fun D U=>te U fun d a=>tg d a D.nx
theorem Nc{pos:Pos}(h:X.N.Nodup)(j:X.N[i]? = some x)(k:Loc X.env.scope x)(g:DE X F e te)(s:autoParam (swapsWith e (some (.Name x a)) pos.line X.env=pure false) Zq._auto_1)
  (l:X.fn x=true\/X.env.scope.names.lookup x=some .local:=by first |exact .inl rfl |exact .inr rfl |assumption):DS X F (.Assign [.Name x a] e pos) (vC te (gN i)):=
 (yK h j k g.pe s l).imp fun D Y H b=>by obtain⟨U,O,w,st,q,f⟩:=b;exact⟨U,O,st,g.mn _ _ _ (fun d y m v n o c p r=>f.nx _ n _ o (c.set r) p m) q⟩
def Nd(te:DT):dL:=fun D U=>te U fun d a=>D.rt (.dat d) a
theorem As(c:DE X F e te):DS X F (.Return (some e) pos) (Nd te):=
 (uH c.pe).imp fun D Y H a=>by obtain⟨U,O,m,st,q,f⟩:=a;exact⟨U,O,st,c.mn _ _ _ (fun d g h v i j b k l=>f.rt v Y i (.dat d) g j [] (MM b l) k h) q⟩
def Nf(to:iF):dL:=fun D U=>to U fun c a=>D.rt c a
theorem Ng(b:DO X F e to):DS X F (.Return (some e) pos) (Nf to):=
 (uH b.pe).imp fun D Y H a=>by obtain⟨U,O,l,st,q,f⟩:=a;exact⟨U,O,st,b.mn _ _ _ (fun c d g v h i j r k=>f.rt v Y h c d i j r k g) q⟩
def Nh(i:Nat):dL:=fun D U=>∃b,U[i]? = some (some (.own false b))/\D.rt (.own false b) (U.set i none)
theorem Ni(g:PE X (.Name x d) (bZ i)):DS X F (.Return (some (.Name x d)) pos) (Nh i):=
 (uH g).imp fun D Y H c=>by obtain⟨U,O,m,st,⟨b,e,q⟩,f⟩:=c;obtain⟨a,h,j,h1,h2,h3,k,n,l,_⟩:=st.take e;exact⟨_,h1,f.rt _ Y H (.own false b) _ j h ⟨h2,⟨a,rfl,h3⟩,l⟩ k q⟩
def Nj(i:Nat)(to:iF):dL:=fun D U=>to U fun c a=>i<a.length/\(∀b,c≠.own true b)/\D.nx (a.set i (some c))
theorem Nk{pos:Pos}(j:X.N.Nodup)(k:X.N[i]? = some x)(l:Loc X.env.scope x)(h:DO X F e to)(C:autoParam (swapsWith e (some (.Name x a)) pos.line X.env=pure false) Zq._auto_1)
  (m:X.fn x=true\/X.env.scope.names.lookup x=some .local:=by first |exact .inl rfl |exact .inr rfl |assumption):DS X F (.Assign [.Name x a] e pos) (Nj i to):=
 (yK j k l h.pe C m).imp fun D Y H n=>by
 obtain⟨U,O,E,st,q,f⟩:=n;exact⟨U,O,st,h.mn _ _ _ (fun c G d v o I J r p=>by
  obtain⟨s,w,y⟩:=d;obtain⟨A,g,B⟩:=aD.put1 (io:=true) r.st r.at_ r.new s (fun b z=>absurd z (w b));exact f.nx _ o _ A g (p.trans B) y) q⟩
def Nl(to:iF):dL:=fun D U=>to U fun _ a=>D.nx a
theorem Nm(b:DO X F e to)(j:autoParam (swapsWith e none pos.line X.env=pure false) Zq._auto_1):DS X F (.Expr e pos) (Nl to):=
 (uG b.pe j).imp fun D Y H d=>by
 obtain⟨U,O,k,st,q,f⟩:=d;exact⟨U,O,st,b.mn _ _ _ (fun c l g v m n o r h=>by
  obtain⟨p,a,i⟩:=r.drop;exact f.nx _ _ _ _ a (h.trans i) g) q⟩
def Nn(tc:cU)(t u:dL):dL:=fun D U=>tc U fun b a=>if b=true then t D a else u D a
theorem No(g:DB X F c tc)(m:ik X F a t)(o:ik X F b u):DS X F (.If c a b pos) (Nn tc t u):=
 (Jd g.pt m o).imp fun D Y H n=>by
 obtain⟨U,O,h,st,q,f⟩:=n;exact⟨U,O,st,g.mn _ _ _ (fun b i j p k d l=>by
  cases b with
  |true=>exact fo ⟨i,k,h,d,kU j,f.later l⟩
  |false=>exact fm ⟨i,k,h,d,kW j,f.later l⟩) q⟩
set_option genInjectivity true in
inductive vD where
 |rt (c:aa) (outs:List Bx) |ex (c:Str) (outs:List Bx) |bad
abbrev FM:=List aa->vD
inductive aS (K:Frag) (H:Hp) (O:List Addr):List V->List aa->List (List Addr)->Prop where
 |nil:aS K H O [] [] []
 |dat {v:V}{d:PyData}{vs:List V}{cs:List aa}{fps:List (List Addr)}:DV (au O H) v d->aS K H O vs cs fps->aS K H O (v::vs) (.dat d::cs) ([]::fps)
 |oth {v:V}{c:aa}{vs:List V}{cs:List aa}{fps:List (List Addr)}:(∀d,c≠.dat d)->(∀io b,c≠.own io b)->eZ K H O v c []->aS K H O vs cs fps->aS K H O (v::vs) (c::cs) ([]::fps)
 |own {a:Addr}{b:Bx}{fp:List Addr}{vs:List V}{cs:List aa}{fps:List (List Addr)}:fF (au O H) H a b fp->aS K H O vs cs fps->aS K H O (.ref a::vs) (.own true b::cs) (fp::fps)
inductive aY (H:Hp) (O:List Addr):List V->List aa->List Bx->List (List Addr)->Prop where
 |nil:aY H O [] [] [] []
 |skip {v:V}{c:aa}{vs:List V}{cs:List aa}{bs:List Bx}{fps:List (List Addr)}:(∀io b,c≠.own io b)->aY H O vs cs bs fps->aY H O (v::vs) (c::cs) bs fps
 |own {a:Addr}{io:Bool}{b b':Bx}{fp:List Addr}{vs:List V}{cs:List aa}{bs:List Bx}{fps:List (List Addr)}:fF (au O H) H a b' fp->aY H O vs cs bs fps->aY H O (.ref a::vs) (.own io b::cs) (b'::bs) (fp::fps)
structure kg (H H':Hp) (L L' O₀:List Addr):Prop where
 nd:(L'++O₀).Nodup
 live:∀a∈L',∃o,H' a=some o/\Mv o
 keep:∀b o,b∉L->H b=some o->H' b=some o
 new:∀a∈L',a∈L\/H a=none
def fq(K:Frag)(mg:Str->Option Value)(f:FM):Sp:=fun k H Q E=>GH mg H/\∃(i:List aa) (d:List (List Addr)) (h:List Addr),aS K H (d.flatten++h) k i d/\(d.flatten++h).Nodup/\(∀a∈d.flatten++h,∃o,H a=some o/\Mv o)/\
 match f i with
 |.rt c e=>∀v g j b,eZ K g (b.flatten++j++h) v c j->aY g (b.flatten++j++h) k i e b->kg H g d.flatten (b.flatten++j) h->Q v g
 |.ex c e=>∀C g b,mg c=some C->aY g (b.flatten++h) k i e b->kg H g d.flatten b.flatten h->E C none g
 |.bad=>False
theorem aS.len{K}(h:aS K H O d c b):d.length=c.length/\b.length=c.length:=by
 induction h with
 |nil=>exact⟨rfl,rfl⟩
 |dat _ _ a=>exact⟨congrArg Nat.succ a.1,congrArg Nat.succ a.2⟩
 |oth _ _ _ _ a=>exact⟨congrArg Nat.succ a.1,congrArg Nat.succ a.2⟩
 |own _ _ a=>exact⟨congrArg Nat.succ a.1,congrArg Nat.succ a.2⟩
theorem aS.get{K}(h:aS K H O d f a):∀(i:Nat)  c,f[i]? = some c->∃v g,d[i]? = some v/\a[i]? = some g/\eZ K H O v c g:=by
 induction h with
 |nil=>intro i c e;simp at e
 |dat h _ b=>
  intro i c e;cases i with
  |zero=>simp at e;subst e;exact⟨_,_,rfl,rfl,h⟩
  |succ i=>exact b i c (by simpa using e)
 |oth _ _ h _ b=>
  intro i c e;cases i with
  |zero=>simp at e;subst e;exact⟨_,_,rfl,rfl,h⟩
  |succ i=>exact b i c (by simpa using e)
 |own h _ b=>
  intro i c e;cases i with
  |zero=>simp at e;subst e;exact⟨_,_,rfl,rfl,⟨_,rfl,h⟩⟩
  |succ i=>exact b i c (by simpa using e)
theorem aS.mono{K}(h:aS K H O d f a)(s:aQ O H c H):aS K H c d f a:=by
 induction h with
 |nil=>exact .nil
 |dat h _ b=>exact .dat (DV.mono s.hid h) b
 |oth h1 h2 h _ b=>exact .oth h1 h2 (h.keep s (fun _ _=>rfl) (fun _ _ _ e=>e)) b
 |own h _ b=>exact .own (h.keep (fun _ _=>rfl) s.hid) b
theorem aY.mono(h:aY H O d e bs a)(s:aQ O H c H):aY H c d e bs a:=by
 induction h with
 |nil=>exact .nil
 |skip h1 _ b=>exact .skip h1 b
 |own h _ b=>exact .own (h.keep (fun _ _=>rfl) s.hid) b
set_option genInjectivity true in
inductive fc where
 |nx (U:aj) |rt (c:aa) (U:aj) |bk (U:aj) |ct (U:aj) |ex (c:Str) (U:aj) |bad
abbrev SM:=aj->fc
def wpS(E:Str->aj->Prop)(m:SM):dL:=fun D U=>match m U with
 |.nx a=>D.nx a
 |.rt c a=>D.rt c a
 |.bk a=>D.bk a
 |.ct a=>D.ct a
 |.ex c a=>E c a
 |.bad=>False
@[simp]noncomputable def en:List aa->aj->Option (List Bx)
 |[],_=>some []
 |.own _ _::a,some (.own true b)::U=>(en a U).map (b::·)
 |.own _ _::_,_=>none
 |_::a,_::U=>en a U
 |_::_,[]=>none
@[simp] def bz(n N:Nat)(m:SM):FM:=fun a=>if a.length=n then(match m (a.map some++List.replicate (N - n) none) with
 |.nx U=>(match en a U with |some o=>.rt (.dat .none) o |none=>.bad)
 |.rt c U=>(match en a U with |some o=>.rt c o |none=>.bad)
 |.ex c U=>(match en a U with |some o=>.ex c o |none=>.bad)
 |_=>.bad) else .bad
theorem vE{α:Type}{l:List α}{x}{r}(h:l.drop k=x::r):l[k]? = some x/\l.drop (k+1)=r:=by
 constructor
 .rw[<-List.head?_drop,h];rfl
 .rw[<-q1p,h];rfl
theorem vF{K:Frag}(st:cL K F H Y U W):∀l  m  k  g,m.length=l.length->(∀(i:Nat) io b,l[i]? = some (.own io b)->m[i]? = some (.ref (F.I₀ (k+i))))->en l (U.drop k)=some g->
  ∃j,aY H (W.flatten++F.O₀) m l g j/\j.flatten.Sublist (W.drop k).flatten
 |[],[],k,g,_,_,e=>by cases e;exact⟨[],.nil,by simp⟩
 |[],_::_,_,_,p,_,_=>by cases p
 |_::_,[],_,_,p,_,_=>by cases p
 |c::l,v::m,k,g,p,G,e=>by
  have t:=q1E p;have y:∀(i:Nat) io b,l[i]? = some (.own io b)->m[i]? = some (.ref (F.I₀ (k+1+i))):=fun i io b h=>by have:=G (i+1) io b (by simpa using h);rw[show k+1+i=k+(i+1) by lia];simpa using this
  have A:(W.drop (k+1)).flatten.Sublist (W.drop k).flatten:=by
   cases B:W.drop k with
   |nil=>rw[show W.drop (k+1)=[] from by rw[<-q1p,B];rfl];exact q1Q _
   |cons w r=>rw[(vE B).2,q0g];exact q2n _ _
  cases hd:U.drop k with
  |nil=>
   rw[hd]at e;cases c with
   |own io b=>cases e
   |dat d=>cases e
   |scr n=>cases e
   |exc n=>cases e
   |vw n=>cases e
  |cons x r=>
   obtain⟨J,h2⟩:=vE hd;rw[hd]at e;have f:(∀io b,c≠.own io b)->en l r=some g->∃j,aY H (W.flatten++F.O₀) (v::m) (c::l) g j/\j.flatten.Sublist (W.drop k).flatten:=fun M N=>by obtain⟨j,o,s⟩:=vF st l m (k+1) g t y (by rw[h2];exact N);exact⟨j,.skip M o,s.trans A⟩
   cases c with
   |dat d=>exact f (fun _ _ z=>by cases z) e
   |scr n=>exact f (fun _ _ z=>by cases z) e
   |exc n=>exact f (fun _ _ z=>by cases z) e
   |vw n=>exact f (fun _ _ z=>by cases z) e
   |own io b=>
    cases x with
    |none=>cases e
    |some x=>
     cases x with
     |dat d=>cases e
     |scr n=>cases e
     |exc n=>cases e
     |vw n=>cases e
     |own C O=>
      cases C with
      |false=>cases e
      |true=>
       cases q:en l r with
       |none=>simp[en,q]at e
       |some Q=>
        simp[en,q]at e;subst e;obtain⟨j,o,s⟩:=vF st l m (k+1) Q t y (by rw[h2];exact q);obtain⟨u,R,S,D,a,rfl,T⟩:=st.at_ k _ J;have I:=st.io k O J;rw[S]at I;have X:a=F.I₀ k:=by cases I;rfl
        have Z:=G 0 io b rfl;have E:v=.ref a:=by rw[X];simpa using Z
        subst E;refine⟨R::j,.own T o,?_⟩;cases B:W.drop k with
        |nil=>rw[<-List.head?_drop,B]at D;cases D
        |cons w wr=>obtain⟨L,w2⟩:=vE B;rw[D]at L;cases L;rw[q0g,q0g];rw[w2]at s;exact q2d (q1Q _) s
theorem vG{α:Type}(n):(List.replicate n ([]:List α)).flatten=[]:=by induction n with |zero=>rfl |succ n a=>rw[q0D,q0g,a];rfl
noncomputable def kh(N n:Nat)(a:List aa):aj:=a.map some++List.replicate (N - n) none
noncomputable def nr(b:List V)(i:Nat):Addr:=match b[i]? with
 |some (.ref a)=>a
 |_=>0
theorem Np{K:Frag}(q:aS K H (g.flatten++p) l j g)(s:(g.flatten++p).Nodup)(live:∀a∈g.flatten++p,∃o,H a=some o/\Mv o)(u:j.length<=N.length) :
  cL K ⟨H,g.flatten,p,nr l⟩ H (start N l) (kh N.length j.length j) (g++List.replicate (N.length - j.length) []):=by
 have n:(g++List.replicate (N.length - j.length) ([]:List Addr)).flatten=g.flatten:=by rw[q1B,vG,q0F]
 obtain⟨t,l2⟩:=q.len;have get:∀(i:Nat) c,(kh N.length j.length j)[i]? = some (some c)->j[i]? = some c:=fun i c e=>by
  unfold kh at e
  by_cases h:i<j.length
  .rw[q0G (by simpa using h),q0y]at e;obtain⟨d,h1,h2⟩:=q0p.mp e;cases h2;exact h1
  .rw[q0z (by simpa using q1k h),q1F]at e;split at e<;>cases e
 have put:∀(i:Nat) v,l[i]? = some v->(start N l)[i]? = some (some v):=fun i v e=>by unfold start;rw[q0G (by simpa using(q0a.mp e).1),q0y,e];rfl
 refine⟨fun i c e=>?_,by rw[n];exact s,fun _ _ _ h=>h,fun a h=>.inl (by rw[n]at h;exact h),by rw[n];exact live,?_,?_,fun i b e=>?_⟩
 .obtain⟨v,r,h1,h2,h3⟩:=q.get i c (get i c e);exact⟨v,r,put i v h1,by rw[q0G (q0a.mp h2).1];exact h2,by rw[n];exact h3⟩
 .unfold kh start;rw[q0q,q0q,q0h,q0h,q1a,q1a,t]
 .unfold kh;rw[q0q,q0q,q0h,q1a,q1a,l2]
 .obtain⟨v,r,h1,h2,a,rfl,h3⟩:=q.get i _ (get i _ e);rw[put i _ h1];show _=some (some (V.ref (nr l i)));unfold nr;rw[h1]
theorem aS.ios{K:Frag}(h:aS K H O c g d):∀(i:Nat) io b,g[i]? = some (.own io b)->c[i]? = some (.ref (nr c (0+i))):=fun i io b e=>by obtain⟨v,j,h1,_,a,rfl,_⟩:=h.get i _ e;rw[q1i];unfold nr;rw[h1]
theorem vH{K:Frag}{st:Stmt}(Fn:ni K x qual st f fd)(S:cm N ps (ek st))(hN:ps.length<=N.length)
  (a0:∀y  A  t  s  H  E  F  Z,br k (A.deeper (envOfC qual (ek st) s.heap.objs.size f y))->fH (iC (dR P w) P w K mg base N qual (ek st) f y A t s H E) F Z->
   ik (iC (dR P w) P w K mg base N qual (ek st) f y A t s H E) F (iD st) (wpS Z m)):bX P w K mg base (dR P w) (k+1) f fd ps (fq K mg (bz ps.length N.length m)):=by
 obtain⟨oc,od,kV,a4,pm,an,y,ct,a5,rfl,lk,a1⟩:=Fn.ex;have G:∀B H Q E,fq K mg (bz ps.length N.length m) B H Q E->B.length=ps.length:=fun B H Q E L=>by
  obtain⟨_,l,u,O₀,M,_,_,q⟩:=L;rw[M.len.1];unfold bz at q
  by_cases h:l.length=ps.length
  .exact h
  .rw[if_neg h]at q;exact q.elim
 refine Kj lk a1 S G fun A t s H B Q E hr O=>?_;have a6:=G B H Q E O;obtain⟨gh,l,u,O₀,M,nd,live,q⟩:=O;obtain⟨l1,l2⟩:=M.len;have R:l.length=ps.length:=by lia
 let F:Fx:=⟨H,u.flatten,O₀,nr B⟩
 have T:=Np (N:=N) M nd live (by lia);have fin:∀{X:St}{j:Hp}{n:aj}{J:List Addr}{fp:List Addr}{g:List Bx},aD K (F.plus fp) j X n J->(∀a∈fp,a∈F.A₀\/F.H₀ a=none)->en l n = some g->∃d,aY j (d.flatten++fp++O₀) B l g d/\kg H j u.flatten (d.flatten++fp) O₀/\aQ J j (d.flatten++fp++O₀) j:=by
  rintro X j n J fp g ⟨W,p,rfl⟩ a2 ho;obtain⟨d,o,sb⟩:=vF p l B 0 g l1 (fun i io b e=>M.ios i io b e) ho;have Y:=sb;have sub:(d.flatten++fp++O₀).Sublist (W.flatten++(fp++O₀)):=by rw[q0k];exact q2d Y (q1Q _)
  have D:aQ (W.flatten++(fp++O₀)) j (d.flatten++fp++O₀) j:=iZ fun a h=>sub.subset h;refine⟨d,o.mono D,⟨p.nd.sublist sub,fun a h=>p.live a (sub.subset (bC _ h)),fun b o hb e=>p.kept b o hb e,fun a h=>?_⟩,D⟩;rcases q0d.mp h with h |h
  .exact p.new a (Y.subset h)
  .exact a2 a h
 have a3:bz ps.length N.length m l=(match m (kh N.length ps.length l) with
  |.nx U=>(match en l U with |some o=>.rt (.dat .none) o |none=>.bad)
  |.rt c U=>(match en l U with |some o=>.rt c o |none=>.bad)
  |.ex c U=>(match en l U with |some o=>.ex c o |none=>.bad)
  |_=>.bad):=by unfold bz kh;rw[if_pos R]
 rw[a3]at q;rw[R]at T;let Z:Str->aj->Prop:=fun c n=>∃g,en l n = some g/\∀C j d,mg c=some C->aY j (d.flatten++O₀) B l g d->kg H j u.flatten d.flatten O₀->E C none j;refine⟨_,a0 y A t s H E F Z hr (ML (gh.frame fun a h=>live a (bC _ h)) fun c C n X j J I p ⟨g,ho,k⟩=>?_),?_⟩
 .obtain⟨d,o,b,_⟩:=fin (fp:=[]) p (fun a h=>by cases h) ho;rw[q0F]at o b;exact k C j d I o b
 .refine⟨kh N.length ps.length l,_,⟨fun n=>∃g,en l n = some g/\∀j d,aY j (d.flatten++[]++O₀) B l g d->kg H j u.flatten (d.flatten++[]) O₀->Q .non j,fun c n=>∃g,en l n = some g/\∀v j fp d,eZ K j (d.flatten++fp++O₀) v c fp->aY j (d.flatten++fp++O₀) B l g d->kg H j u.flatten (d.flatten++fp) O₀->Q v j,fun _=>False,fun _=>False⟩,⟨_,T,rfl⟩,?_,?_⟩
  .unfold wpS;cases I:m (kh N.length ps.length l) with
   |nx n=>
    rw[I]at q;cases ho:en l n with
    |none=>simp[ho]at q
    |some g=>simp only[ho]at q;exact⟨g,ho,fun j d o b=>q .non j [] d .non o b⟩
   |rt c n=>
    rw[I]at q;cases ho:en l n with
    |none=>simp[ho]at q
    |some g=>simp only[ho]at q;exact⟨g,ho,q⟩
   |ex c n=>
    rw[I]at q;cases ho:en l n with
    |none=>simp[ho]at q
    |some g=>simp only[ho]at q;exact⟨g,ho,q⟩
   |bk n=>rw[I]at q;exact q
   |ct n=>rw[I]at q;exact q
   |bad=>rw[I]at q;exact q
  .refine⟨fun X j n J p s' ⟨g,ho,k⟩=>?_,fun v X j c n J fp r s' ⟨g,ho,k⟩=>?_,fun _ _ _ _ _ _ z=>z.elim,fun _ _ _ _ _ _ z=>z.elim⟩
   .obtain⟨d,o,b,_⟩:=fin (fp:=[]) p (fun a h=>by cases h) ho;exact k j d o b
   .obtain⟨d,o,b,D⟩:=fin r.st r.new ho;exact k v j fp d (r.at_.keep D (fun _ _=>rfl) (fun _ _ _ e=>e)) o b
inductive AX where
 |d (x:PyData) |s (j:Nat)
inductive dM (Y:St) (G:Hp):List V->List AX->Prop where
 |nil:dM Y G [] []
 |d {v:V}{x:PyData}{vs:List V}{as:List AX}:DV G v x->dM Y G vs as->dM Y G (v::vs) (.d x::as)
 |s {v:V}{j:Nat}{vs:List V}{as:List AX}:Y[j]? = some (some v)->dM Y G vs as->dM Y G (v::vs) (.s j::as)
abbrev iG:=aj->(List AX->aj->Prop)->Prop
def At(t:iG):Prop:=∀U Q a,(∀d b,Q d b->a d b)->t U Q->t U a
def Nq(K:Frag)(F:Fx)(t:iG):TA:=fun Y H Q=>∃U O,aD K F H Y U O/\t U fun as d=>∀c a b,aD K F a Y d b->aQ O H b a->dM Y (au b a) c as->Q c a
structure DX (X:Cx) (F:Fx) (es:List Expr) (t:iG):Prop where
 mn:At t
 pa:PA X es (Nq X.K F t)
def Nr:iG:=fun U Q=>Q [] U
def Nt(te:DT)(t:iG):iG:=fun U Q=>te U fun d a=>t a fun as b=>Q (.d d::as) b
def Nu(j:Nat)(t:iG):iG:=fun U Q=>(∃c,U[j]? = some (some c))/\t U fun as a=>Q (.s j::as) a
theorem Nv:DX X F [] Nr:=⟨fun _ _ _ k q=>k _ _ q,fS.imp fun Y H Q a=>by obtain⟨U,O,st,q⟩:=a;exact q [] H O st .refl .nil⟩
theorem Nw(b:DE X F e te)(c:DX X F es tX)(y:autoParam (starEach (e::es) X.env=(false,eval e X.env)::starEach es X.env) Zq._auto_1):DX X F (e::es) (Nt te tX):=
 ⟨fun _ _ _ k q=>b.mn _ _ _ (fun _ _ f=>c.mn _ _ _ (fun _ _ g=>k _ _ g) f) q,(eM b.pe c.pa y).imp fun Y H Q a=>by obtain⟨U,O,st,q⟩:=a;exact 
  ⟨U,O,st,b.mn _ _ _ (fun d m f v z n h o r=>⟨m,n,h,c.mn _ _ _ (fun as A g s t u i l w=>g (v::s) t u i (o.trans l) (.d (DV.mono l.hid r) w)) f⟩) q⟩⟩
theorem Nx(i:PE X (.Name x p) (bZ j))(d:DX X F es tX)(u:autoParam (starEach (.Name x p::es) X.env=(false,eval (.Name x p) X.env)::starEach es X.env) Zq._auto_1):DX X F (.Name x p::es) (Nu j tX):=
 ⟨fun _ _ _ k a=>by obtain⟨h,q⟩:=a;exact⟨h,d.mn _ _ _ (fun _ _ f=>k _ _ f) q⟩,(eM i d.pa u).imp fun Y H Q b=>by
  obtain⟨U,O,st,⟨c,l⟩,q⟩:=b;obtain⟨W,h,rfl⟩:=id st;obtain⟨v,w,h1,h2,h3⟩:=h.at_ j c l;exact⟨v,h1,U,_,st,d.mn _ _ _ (fun as y f m n o g r t=>f (v::m) n o g r (.s h1 t)) q⟩⟩
@[simp]noncomputable def iH(U:aj):List AX->Option (List aa×List (Nat×Bool))
 |[]=>some ([],[])
 |.d x::as=>(match iH U as with |some (e,a)=>some (.dat x::e,a) |none=>none)
 |.s j::as=>(match iH U as with
  |some (e,a)=>(match U[j]? with
   |some (some (.own io b))=>if a.any (fun p=>p.1==j) then none else some (.own true b::e,(j,io)::a)
   |some (some c)=>some (c::e,a)
   |_=>none)
  |none=>none)
@[simp]noncomputable def gO:List (Nat×Bool)->aj->aj
 |[],U=>U
 |(j,_)::r,U=>(gO r U).set j none
@[simp]noncomputable def cM:List (Nat×Bool)->List Bx->aj->aj
 |(j,io)::r,b::bs,U=>cM r bs (U.set j (some (.own io b)))
 |_,_,U=>U
theorem Au:(gO a U).length=U.length:=by
 induction a with
 |nil=>rfl
 |cons p r b=>obtain⟨j,io⟩:=p;rw[gO,q0A,b]
theorem Ny(h:∀p∈a,p.1≠i):(gO a U)[i]? = U[i]?:=by
 induction a with
 |nil=>rfl
 |cons p r b=>obtain⟨j,io⟩:=p;rw[gO,q0u (h (j,io) q0f),b fun q c=>h q (bt _ c)]
inductive fL (Y:St) (F:Fx) (n:Nat):List V->List aa->List (Nat×Bool)->Prop where
 |nil:fL Y F n [] [] []
 |skip {v:V}{c:aa}{vs:List V}{cs:List aa}{js:List (Nat×Bool)}:(∀io b,c≠.own io b)->fL Y F n vs cs js->fL Y F n (v::vs) (c::cs) js
 |own {a:Addr}{io:Bool}{b:Bx}{j:Nat}{vs:List V}{cs:List aa}{js:List (Nat×Bool)}:Y[j]? = some (some (.ref a))->(io=true->a=F.I₀ j)->j<n->fL Y F n vs cs js->fL Y F n (.ref a::vs) (.own true b::cs) ((j,io)::js)
section
variable{K:Frag}{F:Fx}{H H':Hp}{Y:St}{U:aj}{O O':List Addr}
theorem vI(st:aD K F H Y U O):∀as  l  t  u,iH U as=some (t,u)->dM Y (au O H) l as->
  ∃f O',aD K (F.plus f.flatten) H Y (gO u U) O'/\aS K H O' l t f/\aQ O H O' H/\aQ O' H O H/\(∀a∈f.flatten,a∈F.A₀\/F.H₀ a=none)/\fL Y F U.length l t u
 |[],l,t,u,e,h=>by cases e;cases h;refine⟨[],O,st,.nil,.refl,.refl,?_,.nil⟩;intro a h;cases h
 |.d x::as,l,t,u,e,h=>by
  cases h with
  |d y G=>
   unfold iH at e;cases q:iH U as with
   |none=>rw[q]at e;cases e
   |some p=>obtain⟨k,g⟩:=p;rw[q]at e;simp only[q0N,Prod.mk.injEq]at e;obtain⟨X,Z⟩:=e;obtain⟨f,O',m,r,o,B,C,D⟩:=vI st as _ k g q G;subst X Z;exact⟨[]::f,O',m,.dat (DV.mono o.hid y) r,o,B,C,.skip (fun _ _ z=>by cases z) D⟩
 |.s j::as,l,t,u,e,h=>by
  cases h with
  | @s v _ l _ y G=>
   unfold iH at e;cases q:iH U as with
   |none=>rw[q]at e;cases e
   |some p=>
    obtain⟨k,g⟩:=p;rw[q]at e;obtain⟨f,O',m,r,o,B,C,D⟩:=vI st as _ k g q G;cases w:U[j]? with
    |none=>rw[w]at e;cases e
    |some oc=>
     cases oc with
     |none=>rw[w]at e;cases e
     |some c=>
      rw[w]at e;obtain⟨W,I,J⟩:=id st;obtain⟨E,a0,h1,h2,h3⟩:=I.at_ j c w;rw[y]at h1;have L:E = v:=by cases h1;rfl
      subst L;rw[<-J]at h3;have other:(∀io b,c≠.own io b)->∃f O',aD K (F.plus f.flatten) H Y (gO g U) O'/\aS K H O' (E::l) (c::k) f/\aQ O H O' H/\aQ O' H O H/\(∀a∈f.flatten,a∈F.A₀\/F.H₀ a=none)/\fL Y F U.length (E::l) (c::k) g:=fun Q=>by
       refine⟨[]::f,O',m,?_,o,B,C,.skip Q D⟩;cases c with
       |dat d=>exact .dat (DV.mono o.hid h3) r
       |own io b=>exact absurd rfl (Q io b)
       |scr ns=>exact .oth (fun _ z=>by cases z) (fun _ _ z=>by cases z) (eZ.keep (c:=.scr ns) (fp:=[]) h3 o (fun _ _=>rfl) (fun _ _ _ e=>e)) r
       |exc n=>exact .oth (fun _ z=>by cases z) (fun _ _ z=>by cases z) (eZ.keep (c:=.exc n) (fp:=[]) h3 o (fun _ _=>rfl) (fun _ _ _ e=>e)) r
       |vw n=>exact .oth (fun _ z=>by cases z) (fun _ _ z=>by cases z) (eZ.keep (c:=.vw n) (fp:=[]) h3 o (fun _ _=>rfl) (fun _ _ _ e=>e)) r
      cases c with
      |dat d=>simp only[q0N,Prod.mk.injEq]at e;rw[<-e.1,<-e.2];exact other (fun _ _ z=>by cases z)
      |scr ns=>simp only[q0N,Prod.mk.injEq]at e;rw[<-e.1,<-e.2];exact other (fun _ _ z=>by cases z)
      |exc n=>simp only[q0N,Prod.mk.injEq]at e;rw[<-e.1,<-e.2];exact other (fun _ _ z=>by cases z)
      |vw n=>simp only[q0N,Prod.mk.injEq]at e;rw[<-e.1,<-e.2];exact other (fun _ _ z=>by cases z)
      |own io b=>
       by_cases M:g.any (fun p=>p.1==j)=true
       .simp only[if_pos M]at e;cases e
       .simp only[if_neg M,q0N,Prod.mk.injEq]at e;rw[<-e.1,<-e.2];obtain⟨a,fp,O2,R,S,t3,T,t5,t6,t7⟩:=m.take (i:=j) (io:=io) (b:=b) (by rw[Ny (fun p hp z=>M (List.any_eq_true.mpr ⟨p,hp,by simp[z]⟩))];exact w);rw[y]at R;have L:E = .ref a:=by cases R;rfl
        subst L;rw[Fx.plus_plus]at S;refine⟨fp::f,O2,S,.own t3 (r.mono T),o.trans T,t5.trans B,fun x A=>?_,.own y t7 (q0a.mp w).1 D⟩;rcases q0d.mp A with A |A
        .exact t6 x A
        .exact C x A
theorem Av(u:fL Y F n m o p):∀{d e U O},U.length=n->aD K (F.plus (e.flatten++fp)) H Y U O->aY H O m o d e->(∀a∈e.flatten,a∈F.A₀\/F.H₀ a=none)->
  ∃O',aD K (F.plus fp) H Y (cM p d U) O'/\aQ O H O' H:=by
 induction u with
 |nil=>intro d e U O h st f k;cases f;exact⟨O,st,.refl⟩
 |skip g _ q=>
  intro d e U O h st f k;cases f with
  |skip _ f=>exact q h st f k
  |own _ _=>exact absurd rfl (g _ _)
 | @own a io b j m o p h1 h2 h3 u q=>
  intro d e U O h st f k;cases f with
  |skip g _=>exact absurd rfl (g _ _)
  | @own _ _ _ A f1 _ _ bs B hb f=>
   have r:aD K ((F.plus (B.flatten++fp)).plus f1) H Y U O:=by rw[Fx.plus_plus,<-q0k];exact st
   obtain⟨G,l,w⟩:=aD.put1 (io:=true) (c:=.own io A) r ⟨a,rfl,hb⟩ (fun x s=>k x (by rw[q0g];exact bC _ s)) (by rw[h];exact h3) (fun b z=>by cases z;rw[h2 rfl];rfl);have C:Y.set j (some (.ref a))=Y:=by
    apply q1x;intro i
    by_cases y:i=j
    .subst y;rw[q0v (q0a.mp h1).1,h1]
    .rw[q0u (Ne.symm y)]
   rw[C]at l;obtain⟨D,t,E⟩:=q (by rw[q0A];exact h) l (f.mono w) (fun x s=>k x (by rw[q0g];exact bp _ s));exact⟨D,t,w.trans E⟩
end
def jb(f:FM)(E:Str->aj->Prop)(Q:aa->aj->Prop)(as:List AX)(U:aj):Prop:=match iH U as with
 |some (d,b)=>(match f d with
  |.rt c a=>Q c (cM b a (gO b U))
  |.ex c a=>E c (cM b a (gO b U))
  |.bad=>False)
 |none=>False
def Aw(f:FM)(E:Str->aj->Prop)(t:iG):iF:=fun U Q=>t U fun as a=>jb f E Q as a
theorem Nz(h:∀c d,Q c d->b c d)(q:jb f E Q as U):jb f E b as U:=by
 unfold jb at q ⊢;split
 .rename_i i j e;rw[e]at q;simp only at q;split
  .rename_i a;rw[a]at q;exact h _ _ q
  .rename_i a;rw[a]at q;exact q
  .rename_i a;rw[a]at q;exact q
 .rename_i e;rw[e]at q;exact q
theorem vJ{Y:St}(hx:fH X F E)(G:bX X.prog X.w X.K X.mg X.base (dR X.prog X.w) k g fd ps (fq X.K X.mg f))(hr:br k X.A)(hb:iB X.K fd ps [])
  (I:Inv X m Y H s) (r:bi vs us) (st:aD X.K F H Y U O) (ax:dM Y (au O H) vs as) (q:jb f E QC as U) (hQ:∀c L,QC c L->∀v b S M,gw X.K F b Y L S v c M->aQ O H S b->Q v b) :
  wpAny (model X.prog X.w) X.A (call (.ref g) us) (EP X m Y Q) X.xe s:=by
 unfold jb at q;cases hc:iH U as with
 |none=>rw[hc]at q;exact q.elim
 |some p=>
  obtain⟨cs,js⟩:=p;rw[hc]at q;simp only at q;obtain⟨i,O2,T,ar,s1,a6,nw,ja⟩:=vI st as vs cs js hc ax;obtain⟨W,y,Z⟩:=id T;have a2:(W.flatten++(i.flatten++F.O₀)).Nodup:=y.nd;have l:∀a,a∈O2↔a∈i.flatten++(W.flatten++F.O₀):=fun a=>by
   rw[Z];show a∈W.flatten++(i.flatten++F.O₀)↔_;simp only[q0d];constructor
   .rintro(h |h |h)<;>simp[h]
   .rintro(h |h |h)<;>simp[h]
  have perm:(i.flatten++(W.flatten++F.O₀)).Perm (W.flatten++(i.flatten++F.O₀)):=by rw[<-q0k,<-q0k];exact q2E _ List.perm_append_comm
  have a0:(i.flatten++(W.flatten++F.O₀)).Nodup:=perm.nodup_iff.mpr a2;have a3:aQ O2 H (i.flatten++(W.flatten++F.O₀)) H:=iZ fun a h=>(l a).mpr h;have N:∀(b:Hp) (n:List Addr) (a:Addr),(a∈n++(W.flatten++F.O₀))->a∈n\/(a∈O2/\a∉i.flatten):=fun b n a h=>by
   rcases q0d.mp h with h |h
   .exact .inl h
   .refine .inr ⟨(l a).mpr (bp _ h),fun z=>?_⟩;exact(q0j.mp a0).2.2 a z a h rfl
  have j:∀(b:Hp) (n:List Addr),kg H b i.flatten n (W.flatten++F.O₀)->∃B,aD X.K (F.plus n) b Y (gO js U) B/\aQ O2 H B b/\∀a,a∈B↔a∈n++(W.flatten++F.O₀):=fun b n t=>by
   obtain⟨B,t1,t2,t3,t4,t5⟩:=T.swap (H':=b) (L':=n) t.keep (q0j.mp t.nd).1 t.new nw t.live;refine⟨B,t1,t2,fun a=>⟨fun h=>?_,fun h=>?_⟩⟩
   .rcases t4 a h with z |⟨z1,z2⟩
    .exact bC _ z
    .rcases q0d.mp ((l a).mp z1) with z |z
     .exact absurd z z2
     .exact bp _ z
   .rcases N b n a h with z |⟨z1,z2⟩
    .exact t3 a z
    .exact t5 a z1 z2
  have r2:bi (vs++[]) (us++[]):=by rw[q0F,q0F];exact r
  let EX:XK:=fun C _ b=>∃c L S,X.mg c=some C/\aD X.K F b Y L S/\E c L;have sp:fq X.K X.mg f vs H Q EX:=by
   refine⟨hx.1.at st,cs,i,W.flatten++F.O₀,ar.mono a3,a0,fun a h=>?_,?_⟩
   .exact y.live a (by have:=(l a).mpr h;rw[Z]at this;exact this)
   .cases hf:f cs with
    |bad=>rw[hf]at q;exact q
    |rt c a1=>
     rw[hf]at q;simp only at q ⊢;intro v b M d a4 R t;obtain⟨B,t1,t2,t3⟩:=j b (d.flatten++M) t;have D:aQ (d.flatten++M++(W.flatten++F.O₀)) b B b:=iZ fun a h=>(t3 a).mp h;have J:∀a∈d.flatten++M,a∈F.A₀\/F.H₀ a=none:=fun a h=>by
      rcases t.new a h with z |z
      .exact nw a z
      .by_cases hA:a∈F.A₀
       .exact .inl hA
       .refine .inr ?_;cases e:F.H₀ a with
        |none=>rfl
        |some o=>have:=y.kept a o hA e;rw[z]at this;cases this
     have lj:(gO js U).length=U.length:=Au;obtain⟨O4,u1,u2⟩:=Av (fp:=M) ja lj t1 (R.mono D) fun a h=>J a (bC _ h);exact hQ c _ q v b O4 M ⟨u1,a4.keep (D.trans u2) (fun _ _=>rfl) (fun _ _ _ e=>e),fun a h=>J a (bp _ h)⟩ (s1.trans (t2.trans u2))
    |ex c a1=>
     rw[hf]at q;simp only at q ⊢;intro C b d hm R t;obtain⟨B,t1,t2,t3⟩:=j b d.flatten t;have D:aQ (d.flatten++(W.flatten++F.O₀)) b B b:=iZ fun a h=>(t3 a).mp h;have J:∀a∈d.flatten,a∈F.A₀\/F.H₀ a=none:=fun a h=>by
      rcases t.new a h with z |z
      .exact nw a z
      .by_cases hA:a∈F.A₀
       .exact .inl hA
       .refine .inr ?_;cases e:F.H₀ a with
        |none=>rfl
        |some o=>have:=y.kept a o hA e;rw[z]at this;cases this
     have lj:(gO js U).length=U.length:=Au;obtain⟨O4,u1,u2⟩:=Av (fp:=[]) ja lj (by rw[q0F];exact t1) (R.mono D) J;exact⟨c,_,O4,hm,u1,q⟩
  have hl:(us++[]).length=ps.length:=by rw[q0F,<-r.length];exact G.len _ _ _ _ sp
  refine wpAny_call (codeAny_mono (G.run X.A X.stack s H ⟨us,[]⟩ us vs Q EX hr I.env0 (by have:=hb s us I.kIn hl;rw[q0F]at this;exact this) r sp) fun r s' hq=>?_);cases r with
  |error e=>obtain⟨a,C,b,e1,I',cv,ex,c,L,S,hm,a5,hE⟩:=I.flies hq;exact hx.2 m Y b s' e c L S ⟨I',a,C,s.heap,_,e1,cv,ex,hm⟩ a5 hE
  |ok fl=>
   cases fl with
   |ret u=>exact I.after hq
   |next=>exact False.elim hq
   |brk=>exact False.elim hq
   |cont=>exact False.elim hq
theorem NA{pos:Pos}{p:Pos}(N:fH X F E)(G:bX X.prog X.w X.K X.mg X.base (dR X.prog X.w) k g fd ps (fq X.K X.mg f))(R:br k X.A)(S:Gl X x)(T:X.mg x=some (.ref g))(Z:keepIn X.K (.ref g)=true)(hb:iB X.K fd ps [])
  (t:DX X F (e::es) tX) (u:autoParam ((x==("__debug__":Str))=false) Zr._auto_1) (he:autoParam (starEach (e::es) X.env=(false,eval e X.env)::starEach es X.env) Zq._auto_1) (y:autoParam ((backTo pos (starEach es X.env)).any (·.1)=false) Zq._auto_1) :
  DO X F (.Call (.Name x p) (e::es) [] pos) (Aw f E tX):=by
 refine⟨fun U Q Q' k q=>t.mn _ _ _ (fun as b i=>Nz k i) q,fun j s Y H Q I l=>?_⟩;obtain⟨U,O,st,q⟩:=l;refine wpAny_Call_Name_kw (qZ I S T ?_ u);refine q1I I.ok.mod.kin Z (aU (t.pa pos j s Y H (fun z m=>∃as b d,aD X.K F m Y b d/\aQ O H d m/\dM Y (au d m) z as/\jb f E (fun c J=>∀v n o B,gw X.K F n Y J o v c B->aQ O H o n->Q v n) as b) I ⟨U,O,st,t.mn _ _ _ (fun as b i z m d a L C=>⟨as,b,d,a,L,C,i⟩) q⟩) fun us L M=>⟨by obtain⟨_,_,I1,_⟩:=M;exact I1.kIn,?_⟩) he y;obtain⟨z,m,I1,r,as,b,d,a,D,C,i⟩:=M;exact vJ N G R hb I1 r a C i fun c J h v n o B res s2=>h v n o B res (D.trans s2)
def mq(H:Hp)(O:List Addr):Prop:=∀a∈O,∃o,H a=some o/\Mv o
theorem mq.nofree(h:mq H O):∀p,H p=none->p∉O:=fun p a z=>by obtain⟨o,e,_⟩:=h p z;rw[a]at e;cases e
theorem aD.live{K}(st:aD K F H Y U O):mq H O:=by obtain⟨W,h,rfl⟩:=st;exact h.live
abbrev fe:=aj->(List PyData->aj->Prop)->Prop
def Wk(O:List Addr)(H:Hp)(J:It)(c:List PyData):Prop:=∀e b,aQ O H e b->mq b e->
 (∀i d,c[i]? = some d->J.go i b/\∀x a,J.yld i b x a->bY b a/\DV (au e a) x d)/\J.stop c.length b
def rJ(K:Frag)(F:Fx)(s:fe):TI:=fun Y H R=>∃U O,aD K F H Y U O/\s U fun b d=>∀J a c,aD K F a Y d c->aQ O H c a->Wk c a J b->R J a
structure DI (X:Cx) (F:Fx) (tg iter:Expr) (s:fe):Prop where
 mn:∀U Q Q',(∀d U',Q d U'->Q' d U')->s U Q->s U Q'
 pi:PI X tg iter (rJ X.K F s)
theorem _root_.L2.PI.imp(h:PI X b e t)(k:∀Y H Q,t' Y H Q->t Y H Q):PI X b e t':=fun a s Y H Q I q=>h a s Y H Q I (k Y H Q q)
def iL(te:DT):fe:=fun U Q=>te U fun d f=>∃c,d=.list c/\Q c f
def iT(te:DT):fe:=fun U Q=>te U fun d f=>∃c,d=.tuple c/\Q c f
theorem NB{K}(l:au O H a=some (.lst c))(hd:aG (au O H) c k):Wk O H (uL K a) k:=fun u w s ok=>by obtain⟨t,m⟩:=cK l;have h2:=s.keep a _ m t;refine⟨fun i d e=>?_,⟨c,.of h2,by rw[hd.length];exact ba _⟩⟩;obtain⟨v,j,n⟩:=(aG.mono s.hid hd).get e;refine⟨⟨c,v,.of h2,j⟩,fun x o f=>?_⟩;obtain⟨q,r⟩:=f;subst q;have:=r c (.of h2);rw[j]at this;cases this;exact⟨fun _ _ h=>h,n⟩
theorem NC{K}(n:Rd (au O H) a (.tup c))(hd:aG (au O H) c m):Wk O H (uM K a) m:=fun z q s ok=>by
 obtain⟨y,k⟩:=ig n;have h2:Rd q a (.tup c):=y.imp (fun e=>s.keep a _ k e) fun f=>by obtain⟨o,e⟩:=f;exact⟨o,s.keep a _ k e⟩
 have j:=aG.mono s.hid hd;refine⟨fun i d e=>?_,⟨c,.inl h2,by rw[hd.length];exact ba _⟩⟩;obtain⟨v,l,r⟩:=j.get e;refine⟨⟨c,v,.inl h2,l⟩,fun x t g=>?_⟩;obtain⟨u,w⟩:=g;subst u;have:=w c (.inl h2);rw[l]at this;cases this;exact⟨fun _ _ h=>h,r⟩
theorem ND(h:DE X F e te):DI X F tg e (iL te):=
 ⟨fun _ _ _ k q=>h.mn _ _ _ (fun _ _ c=>by obtain⟨l,e,q⟩:=c;exact⟨l,e,k _ _ q⟩) q,(Js h.pe).imp fun Y H R f=>by obtain⟨U,O,st,q⟩:=f;exact 
  ⟨U,O,st,h.mn _ _ _ (fun d u g v m n i o r=>by
   obtain⟨l,e,s⟩:=g;subst e;obtain⟨a,t,rfl,j,hd⟩:=r.lst_inv;exact⟨a,rfl,⟨t,.of (cK j).1⟩,s _ m n i o (NB j hd)⟩) q⟩⟩
theorem NE(h:DE X F e te):DI X F tg e (iT te):=
 ⟨fun _ _ _ k q=>h.mn _ _ _ (fun _ _ c=>by obtain⟨l,e,q⟩:=c;exact⟨l,e,k _ _ q⟩) q,(Jt h.pe).imp fun Y H R f=>by obtain⟨U,O,st,q⟩:=f;exact 
  ⟨U,O,st,h.mn _ _ _ (fun d u g v m n i o r=>by
   obtain⟨l,e,s⟩:=g;subst e;obtain⟨a,t,rfl,j,hd⟩:=r.tup_inv;exact⟨a,rfl,⟨t,.inl (ig j).1⟩,s _ m n i o (NC j hd)⟩) q⟩⟩
noncomputable def intsFrom(lo:Int)(n:Nat):List PyData:=(List.range n).map fun(i:Nat)=>PyData.int (lo+i)
theorem rK(lo n):(intsFrom lo n).length=n:=by unfold intsFrom;rw[q0h,q2o]
theorem NF{lo}:Wk O H (rb lo n) (intsFrom lo n):=fun r t s ok=>by refine⟨fun i d e=>?_,by rw[rK];exact ba _⟩;unfold intsFrom at e;rw[q0y]at e;obtain⟨j,k,l⟩:=q0p.mp e;obtain⟨c,g⟩:=q0a.mp k;rw[q2o]at c;rw[List.getElem_range]at g;subst g l;exact⟨c,fun x m f=>by obtain⟨o,q⟩:=f;subst o q;exact⟨fun _ _ h=>h,.int _⟩⟩
def Ax(t:dG):fe:=fun U Q=>t U fun d c=>∃j:Int,d=[.int j]/\-(2 ^ 62)<=j/\j<2 ^ 62/\Q (intsFrom 0 j.toNat) c
theorem nt(l:Gl X "range")(m:X.mg "range" = none)(h:DA X F [a] tA)(v:autoParam (starEach [a] X.env=[(false,eval a X.env)]) Zq._auto_1):DI X F tg (.Call (.Name "range" p) [a] [] pos) (Ax tA):=
 ⟨fun _ _ _ k q=>h.mn _ _ _ (fun _ _ c=>by obtain⟨j,e,h1,h2,q⟩:=c;exact⟨j,e,h1,h2,k _ _ q⟩) q,(Jw l m h.pa v).imp fun Y H R f=>by obtain⟨U,O,st,q⟩:=f;exact 
  ⟨U,O,st,h.mn _ _ _ (fun y w g x n o i s t=>by
   obtain⟨j,e,h1,h2,u⟩:=g;subst e;cases t with
   |cons d r=>
    cases r;obtain rfl:=d.int_inv;exact⟨j,rfl,h1,h2,u _ n o i s NF⟩) q⟩⟩
noncomputable def numbered(c:List PyData):List PyData:=c.mapIdx fun i d=>PyData.tuple [.int i,d]
def iE(t:dG):fe:=fun U Q=>t U fun f d=>∃c,f=[.list c]/\Q (numbered c) d
theorem Ay(E:Gl X "enumerate")(G:X.mg "enumerate" = none)(t:DA X F [a] tA)(hs:autoParam (starEach [a] X.env=[(false,eval a X.env)]) Zq._auto_1):DI X F (.Tuple c D f) (.Call (.Name "enumerate" p) [a] [] pos) (iE tA):=
 ⟨fun _ _ _ k q=>t.mn _ _ _ (fun _ _ g=>by obtain⟨j,e,q⟩:=g;exact⟨j,e,k _ _ q⟩) q,(LL E G t.pa hs).imp fun Y H R h=>by obtain⟨U,O,st,q⟩:=h;exact 
  ⟨U,O,st,t.mn _ _ _ (fun ds U1 l vs I J u L M=>by
   obtain⟨es,e,w⟩:=l;subst e;cases M with
   |cons d r=>
    cases r;obtain⟨a,o,rfl,N,hd⟩:=d.lst_inv;obtain⟨m,z⟩:=cK N;refine⟨a,o,rfl,.of m,w _ I J u L fun O' H' s ok=>?_⟩;have h2:=s.keep a _ z m;refine⟨fun i d e=>?_,⟨o,.of h2,by unfold numbered;rw[List.length_mapIdx,hd.length];exact ba _⟩⟩;unfold numbered at e;rw[List.getElem?_mapIdx]at e;obtain⟨d0,Q,S⟩:=q0p.mp e;subst S;obtain⟨v,C,Z⟩:=(aG.mono s.hid hd).get Q;refine⟨⟨o,v,.of h2,C⟩,fun x a0 n=>?_⟩;obtain⟨T,y,w,B,q3,q4⟩:=n;subst w q3;have:=q4 o (.of h2);rw[C]at this;cases this;exact⟨bS B,mj B (ok.nofree T B) (.cons (.int _) (.cons Z .nil))⟩) q⟩⟩
noncomputable def cC(d c:List PyData):List PyData:=(d.zip c).map fun q=>PyData.tuple [q.1,q.2]
def NG(s:fe)(g:fJ)(c:dL):dL:=fun D U=>s U fun a e=>∃b:Nat->aj->Prop,b 0 e/\(∀i d U,a[i]? = some d->b i U->g d U fun f=>c { D with nx:=b (i+1),ct:=b (i+1),bk:=D.nx } f)/\∀U,b a.length U->D.nx U
theorem NH(hp:PassesOwn (model X.prog X.w) X.A X.env X.xe)(hc:X.calm=true)(hi:DI X F tg iter s)(hg:DG X F tg g)(hb:ik X F body tb)(hs:autoParam (∀x,foldedSetIterable iter X.env x=pure x) Zs._auto_1):DS X F (.For tg iter body [] pos) (NG s g tb):=
 (Jz hp hc hi.pi hg.pg hb hs).imp fun D Y H y=>by
  obtain⟨U,O,DD,st,q,f⟩:=y;refine⟨U,O,st,hi.mn _ _ _ (fun a U1 z J N B R S wk=>?_) q⟩;obtain⟨Q,i0,step,fin⟩:=z;refine⟨fun i m T C=>∃l u,aD X.K F C T l u/\aQ B N u C/\Q i l/\i<=a.length/\m=a.length - i,⟨a.length,U1,B,R,.refl,i0,q0Y _,rfl⟩,?_⟩;rintro i m T C ⟨l,u,n,Z,iv,a4,rfl⟩;obtain⟨w1,w2⟩:=wk u C Z n.live
  by_cases o:i<a.length
  .obtain⟨go,yld⟩:=w1 i a[i] (q0c o);refine .inr ⟨go,fun Y2 E=>∃c p,aD X.K F E Y2 c p/\aQ B N p E/\Q (i+1) c,fun Y2 E G=>by obtain⟨c,p,a0,s2,a1⟩:=G;exact⟨a.length - (i+1),by lia,c,p,a0,s2,a1,o,rfl⟩,fun x E hy=>?_⟩;obtain⟨sm,dv⟩:=yld x E hy;refine⟨l,u,a[i],n.grow sm,dv,hg.mn _ _ _ _ (fun c q2 Y3 H3 O3 a2 s3=>?_) (step i a[i] l (q0c o) iv)⟩;have r:=Z.trans ((aQ.same sm).trans s3);have I:∀t h j k,aD X.K F h t j k->aQ O3 H3 k h->Q (i+1) j->∃c p,aD X.K F h t c p/\aQ B N p h/\Q (i+1) c:=fun t h j k b L M=>⟨j,k,b,r.trans L,M⟩
   exact⟨c,O3,_,a2,q2,⟨I,fun v t h d j k a3 b L M=>f.rt v t h d j k a3 b (S.trans (r.trans L)) M,fun t h j k b L M=>f.nx t h j k b (S.trans (r.trans L)) M,I⟩⟩
  .have e:i=a.length:=by lia
   subst e;exact .inl ⟨w2,f.nx T C l u n (S.trans Z) (fin l iv)⟩
def NJ(c:cU)(f:dL):dL:=fun D U=>∃(d:aj->Prop) (μ:aj->Nat),d U/\∀U,d U->c U fun b e=>if b=true then f { D with nx:=fun a=>d a/\μ a<μ U,ct:=fun a=>d a/\μ a<μ U,bk:=D.nx } e else D.nx e
theorem NK(R:PassesOwn (model X.prog X.w) X.A X.env X.xe)(J:DB X F c tc)(hb:ik X F body tb):DS X F (.While c body [] pos) (NJ tc tb):=
 (Jm R J.pt hb).imp fun D Y H n=>by
  obtain⟨U,O,DD,st,⟨t,μ,S,step⟩,f⟩:=n;refine⟨fun m L z=>∃g u,aD X.K F z L g u/\aQ O H u z/\t g/\m=μ g,⟨μ U,U,O,st,.refl,S,rfl⟩,?_⟩;rintro m L z ⟨g,u,B,x,T,rfl⟩;refine⟨g,u,B,J.mn _ _ _ (fun b Z M H1 N o y=>?_) (step g T)⟩;cases b with
  |false=>exact fm (f.nx _ _ _ _ o (x.trans y) (kW M))
  |true=>
   refine fo ⟨fun Q C=>∃e k,aD X.K F C Q e k/\aQ O H k C/\t e/\μ e<μ g,fun Q C p=>by obtain⟨e,k,E,s2,G,lt⟩:=p;exact⟨μ e,lt,e,k,E,s2,G,rfl⟩,?_⟩;have q:∀l h i j,aD X.K F h l i j->aQ N H1 j h->(t i/\μ i<μ g)->∃e k,aD X.K F h l e k/\aQ O H k h/\t e/\μ e<μ g:=fun l h i j a r s=>⟨i,j,a,x.trans (y.trans r),s⟩
   exact⟨Z,N,_,o,kU M,⟨q,fun v l h d i j I a r s=>f.rt v l h d i j I a (x.trans (y.trans r)) s,fun l h i j a r s=>f.nx l h i j a (x.trans (y.trans r)) s,q⟩⟩
@[simp]noncomputable def vK:Option (Option aa)->Option aa
 |some (some (.dat d))=>some (.dat d)
 |some (some (.scr ns))=>some (.scr ns)
 |some (some (.vw b))=>some (.vw b)
 |_=>none
def kY(own:List Str)(a:List Nat)(U:aj):aj:=own.map (fun _=>none)++a.map fun j=>vK U[j]?
def oY(own:List Str)(f:List Nat)(s:fe)(g:fJ)(l:cU)(m:DT):DT:=fun U Q=>s U fun c j=>∃e:Nat->List PyData->aj->Prop,e 0 [] (kY own f j)/\
 (∀i d a h,c[i]? = some d->e i a h->g d h fun n=>l n fun b k=>if b=true then m k fun y o=>a.length<sizeLine/\e (i+1) (a++[y]) o else e (i+1) a k)/\
 ∀a h,e c.length a h->a.length<=sizeLine/\Q (.list a) j
def mu(s:fe):Prop:=∀U Q a,(∀d b,Q d b->a d b)->s U Q->s U a
theorem vL(e:mu s):Mn (oY own caps s g tc te):=fun _ _ _ k q=>e _ _ _ (fun _ _ a=>by obtain⟨d,h0,h1,h2⟩:=a;exact⟨d,h0,h1,fun b c h=>⟨(h2 b c h).1,k _ _ (h2 b c h).2⟩⟩) q
theorem Az{P:aa->V->Prop}(b:∀j∈caps,∀c,f j=some c->∃v,Y[j]? = some (some v)/\P c v){i:Nat}(e:(own.map (fun _=>none)++caps.map f)[i]? = some (some c)):∃v,(jw own caps Y)[i]? = some (some v)/\P c v:=by
 unfold jw
 by_cases a:i<own.length
 .rw[q0G (by simpa using a),q0y]at e;cases h:own[i]? with
  |none=>rw[h]at e;cases e
  |some y=>rw[h]at e;cases e
 .rw[q0z (by simpa using q1k a),q0h,q0y]at e;rw[q0z (by simpa using q1k a),q0h,q0y];obtain⟨j,h1,h2⟩:=q0p.mp e;obtain⟨v,d,k⟩:=b j (q0K h1) c h2;rw[h1];exact⟨v,by show some ((Y[j]?).getD none)=_;rw[d];rfl,k⟩
abbrev vM(K:Frag)(H:Hp)(O:List Addr)(c:aa)(v:V):Prop:=(∀io b,c≠.own io b)/\eZ K H O v c []
theorem NL{K:Frag}(f:aD K F l Y e m)(j:Nat)(c)(a:vK e[j]? = some c):∃v,Y[j]? = some (some v)/\vM K l m c v:=by
 obtain⟨W,h,rfl⟩:=id f;cases h3:e[j]? with
 |none=>rw[h3]at a;cases a
 |some o=>
  cases o with
  |none=>rw[h3]at a;cases a
  |some n=>
   rw[h3]at a;obtain⟨v,p,i,_,k⟩:=h.at_ j n h3;cases n with
   |dat d=>cases a;exact⟨v,i,(fun _ _ z=>by cases z),k⟩
   |scr ns=>cases a;exact⟨v,i,(fun _ _ z=>by cases z),k⟩
   |own _ _=>cases a
   |exc _=>cases a
   |vw b=>cases a;exact⟨v,i,(fun _ _ z=>by cases z),k⟩
theorem AA{K:Frag}(l:∀j∈caps,∀c,f j=some c->∃v,Y[j]? = some (some v)/\vM K d L c v)(q:L.Nodup)(m:mq d L):aD K ⟨d,[],L,fun _=>0⟩ d (jw own caps Y) (own.map (fun _=>none)++caps.map f) L:=by
 have k:(List.replicate (own.map (fun _=>none)++caps.map f).length ([])).flatten++L=L:=by rw[vG];rfl
 refine⟨List.replicate (own.map (fun _=>none)++caps.map f).length [],⟨fun i c e=>?_,by rw[k];exact q,fun _ _ _ h=>h,fun a h=>?_,by rw[k];exact m,by unfold jw;simp,by simp,fun i b e=>?_⟩,k.symm⟩
 .obtain⟨v,o,_,p⟩:=Az l e;refine⟨v,[],o,?_,by rw[k];exact p⟩;rw[q1F,if_pos (q0a.mp e).1]
 .rw[vG]at h;cases h
 .obtain⟨_,_,n,_⟩:=Az l e;exact absurd rfl (n true b)
abbrev rL(K:Frag)(f:Fx)(a:List PyData)(h:Nat->List PyData->aj->Prop):Nat->Nat->List V->St->Hp->Prop:=fun i m j k b=>∃c d e,aD K f b k c d/\h i e c/\aG (au d b) j e/\i<=a.length/\m=a.length - i
theorem AB{K:Frag}{r:Fx->Prop}(w:r h)(R:∀d U Q L,(∀c,Q c->L c)->g d U Q->g d U L)(S:iX tc)(T:Mn te)
  (step:∀i d e c,a[i]? = some d->k i e c->g d c fun z=>tc z fun b m=>if b=true then te m fun y A=>e.length<sizeLine/\k (i+1) (e++[y]) A else k (i+1) e m)
  (j) (C:aD K h B M c t) (X:k i l c) (Y:aG (au t B) e l) (o:bY B n) (Z:DV (au t n) x a[i]) :
  ∃f,r f/\mm K f g x M n fun u n=>∃f,r f/\jA K f tc u n fun b D=>if b=true then ∃f,r f/\gK K f te u D fun y E=>e.length<sizeLine/\∃p,p<a.length - i/\rL K h a k (i+1) p (e++[y]) u E else ∃p,p<a.length - i/\rL K h a k (i+1) p e u D:=by
 refine⟨h,w,c,t,a[i],C.grow o,Z,R _ _ _ _ (fun z q2 Y3 D O3 G s3=>?_) (step i a[i] l c (q0c j) X)⟩;refine⟨h,w,z,O3,G,S _ _ _ (fun b m N E H q s4=>?_) q2⟩;have I:=aG.mono s4.hid (aG.mono s3.hid (aG.mono (oQ o) Y));cases b with
 |false=>exact fm ⟨a.length - (i+1),by lia,m,H,l,q,kW N,I,j,rfl⟩
 |true=>refine fo ⟨h,w,m,H,q,T _ _ _ (fun y A O v H5 O5 J s5 dy=>?_) (kU N)⟩;exact⟨by rw[I.length];exact O.1,a.length - (i+1),by lia,A,O5,l++[y],J,O.2,(aG.mono s5.hid I).append (.cons dy .nil),j,rfl⟩
theorem AC{K:Frag}{M:Fx->Prop}(hP:∀A Y B C O2,aD K F A Y B C->M ⟨A,[],O2,fun _=>0⟩)(hs:mu s)(hg:∀d U Q Q',(∀r,Q r->Q' r)->g d U Q->g d U Q')(ht:iX tc)(he:Mn te):∀Y  H  Q,(∃U O,aD K F H Y U O/\s U fun f B=>∃u:Nat->List PyData->aj->Prop,u 0 [] (kY own caps B)/\
   (∀i d l r,f[i]? = some d->u i l r->g d r fun U2=>tc U2 fun b U3=>if b=true then te U3 fun y U4=>l.length<sizeLine/\u (i+1) (l++[y]) U4 else u (i+1) l U3)/\
   ∀l r,u f.length l r->l.length<=sizeLine/\∀n D vs p,aD K F n Y B D->aQ O H D n->aG (au D n) vs l->n p=none->Q (.ref p) (aL n p (.lst vs)))->
  kS own caps (rJ K F s) (fun v Y H Q=>∃t,M t/\mm K t g v Y H Q) (fun Y H Q=>∃t,M t/\jA K t tc Y H Q) (fun Y H Q=>∃t,M t/\gK K t te Y H Q) Y H Q:=fun Y H Q E=>by
 obtain⟨U,O,st,q⟩:=E;refine⟨U,O,st,hs _ _ _ (fun f B G J A C k s1 wk=>?_) q⟩;obtain⟨u,i0,step,fin⟩:=G;obtain⟨W,N,R⟩:=id k;refine⟨rL K ⟨A,[],C,fun _=>0⟩ f u,⟨f.length,kY own caps B,C,[],AA (fun j _ c h=>NL k j c h) (by rw[R];exact N.nd) k.live,i0,.nil,q0Y _,rfl⟩,?_⟩;rintro i m l Y' n ⟨r,D,ds,w,iv,S,hi,rfl⟩;obtain⟨W',h',I⟩:=id w;have T:=fun b o e=>h'.kept b o (by simp) e;have X:aQ C A D n:=⟨fun b o _ e=>T b o e,fun a h=>by
  rw[I]at h;rcases q0d.mp h with h |h
  .exact(h'.new a h).elim (fun z=>absurd z (by simp)) .inr
  .exact .inl h⟩
 obtain⟨w1,w2⟩:=wk D n X w.live
 by_cases L:i<f.length
 .obtain⟨go,yld⟩:=w1 i f[i] (q0c L);refine .inr ⟨go,fun x H2 hy=>?_⟩;obtain⟨Z,dx⟩:=yld x H2 hy;exact AB (hP _ _ _ _ _ k) hg ht he step L w iv S Z dx
 .obtain rfl:i=f.length:=by lia
  obtain⟨hz,q⟩:=fin ds r iv;exact .inl ⟨w2,by rw[S.length];exact hz,fun p hp=>q n C l p (k.grow T) (s1.trans (.same T)) (aG.mono (rA fun a h=>by rw[I];exact bp _ h) S) hp⟩
theorem AD{K:Frag}{i:Fx->Prop}(t:∀k Y l u w,aD K F k Y l u->i ⟨k,[],w,fun _=>0⟩)(r:mu s)(x:∀d U Q m,(∀c,Q c->m c)->g d U Q->g d U m)(y:iX tc)(A:Mn te):∀Y H Q,gK K F (oY own caps s g tc te) Y H Q->
  kS own caps (rJ K F s) (fun v Y H Q=>∃a,i a/\mm K a g v Y H Q) (fun Y H Q=>∃a,i a/\jA K a tc Y H Q) (fun Y H Q=>∃a,i a/\gK K a te Y H Q) Y H Q:=fun Y H Q z=>by
 obtain⟨U,O,st,q⟩:=z;refine AC t r x y A Y H Q ⟨U,O,st,r _ _ _ (fun B l z=>?_) q⟩;obtain⟨C,D,step,fin⟩:=z;exact⟨C,D,step,fun n c h=>⟨(fin n c h).1,fun J E L p f G I j=>(fin n c h).2 (.ref p) _ E (f.grow fun b o e=>bS j _ _ e) (G.trans (.same fun b o e=>bS j _ _ e)) (jz j (f.nofree p j) I)⟩⟩
def nu(X:Cx)(F:Fx)(a:List Expr)(t:cU):Prop:=iX t/\nj X a (jA X.K F t)
def NM:cU:=fun U Q=>Q true U
theorem NN:nu X F [] NM:=⟨fun _ _ _ k q=>k _ _ q,fun a s Y H Q I b=>by obtain⟨U,O,st,q⟩:=b;exact Ln a s Y H Q I (q H O st .refl)⟩
theorem NO(h:DB X F c t):nu X F [c] t:=⟨h.mn,Lo h.pt⟩
theorem NP(k:GF X.mg F)(S:ag X scope own capN caps)(l:X.calm=true)(j:DI X F tg iter s)
  (c:∀C d e f h b,GF X.mg b->DG (cf X scope (own++capN) C d e f h) b tg g/\nu (cf X scope (own++capN) C d e f h) b ifs tc/\DE (cf X scope (own++capN) C d e f h) b elt te)
  (p:autoParam (∀x,foldedSetIterable iter X.env x=pure x) Zs._auto_1):DE X F (.ListComp elt [⟨tg,iter,ifs,0⟩] scope pos) (oY own caps s g tc te):=by
 obtain⟨m,n,o⟩:=c 0 [] (PySem.start X.prog).1 (fun _=>none) [] F k;refine⟨vL j.mn,(vj S l j.pi (fun C d e f h=>⟨fun a s Y H v u Q I r ⟨b,i,q⟩=>(c C d e f h b i).1.pg a s Y H v u Q I r q,fun a s Y H Q I ⟨b,i,q⟩=>(c C d e f h b i).2.1.2 a s Y H Q I q,fun a s Y H Q I ⟨b,i,q⟩=>(c C d e f h b i).2.2.pe a s Y H Q I q⟩) p).imp (AD (fun _ _ _ _ _ st=>k.into st) j.mn m.mn n.1 o.mn)⟩
theorem NQ{e}(z:X.N.Nodup)(n:X.N[i]? = some y)(A:Loc X.env.scope y)(w:GF X.mg F)(S:ag X scope own capN caps)(B:X.calm=true)(o:DI X F tg iter s)
  (c:∀C h j k l b,GF X.mg b->DG (cf X scope (own++capN) C h j k l) b tg g/\nu (cf X scope (own++capN) C h j k l) b ifs tc/\DE (cf X scope (own++capN) C h j k l) b elt te)
  (p:autoParam (swapsWith (.ListComp elt [⟨tg,iter,ifs,0⟩] scope pos) (some (.Name y py)) e.line X.env=pure true) Zq._auto_1)
  (hs:autoParam (∀x,foldedSetIterable iter X.env x=pure x) Zs._auto_1) (E:X.fn y=true\/X.env.scope.names.lookup y=some .local:=by first |exact .inl rfl |exact .inr rfl |assumption) :
  DS X F (.Assign [.Name y py] (.ListComp elt [⟨tg,iter,ifs,0⟩] scope pos) e) (vC (oY own caps s g tc te) (gN i)):=by
 obtain⟨G,J,L⟩:=c 0 [] (PySem.start X.prog).1 (fun _=>none) [] F w;refine(Lp z n A S B o.pi (fun C h j k l=>⟨fun a s Y H v u Q I r ⟨b,m,q⟩=>(c C h j k l b m).1.pg a s Y H v u Q I r q,fun a s Y H Q I ⟨b,m,q⟩=>(c C h j k l b m).2.1.2 a s Y H Q I q,fun a s Y H Q I ⟨b,m,q⟩=>(c C h j k l b m).2.2.pe a s Y H Q I q⟩) p hs E).imp
  fun D Y H ⟨U,O,DD,st,q,f⟩=>AD (fun _ _ _ _ _ st=>w.into st) o.mn G.mn J.1 L.mn Y H _ ⟨U,O,st,vL o.mn _ _ _ (fun d U1 M v R T t Z d1=>f.nx _ R _ T (t.set d1) Z M) q⟩
end L2.L3
namespace L2
open PySem PySem.Spec PyProof.Rows
theorem Inv.track{Y:St}(I:Inv X pins Y H s)(f:iA X pins H a)(new:cI X.prog X.w (aL H a o) s.heap a o):Inv X pins Y (aL H a o) s:=by
 have g:=f.1;refine I.step (fun b h=>by obtain rfl:=q0i.mp h;exact⟨f.2.2.2.1,f.2.1,f.2.2.2.2.1,f.2.2.2.2.2⟩) (fun b d _ _ _ e _=>e) (fun b d _ _ _ e _=>⟨d.slots,e⟩)
  (fun b d i _ n=>by rw[bB (fun z=>i (by simp[z]))];exact n) (fun b d _ e=>⟨d,e⟩) (fun b j e=>bS g b _ e) (fun b d u e=>bS g b _ e) (fun b l e=>⟨#[],by rw[bS g b _ e];simp⟩) (fun m k=>k) (fun b u e=>?_) I.bare
 by_cases h:b=a
 .subst h;rw[cG]at e;cases e;exact new
 .rw[bB h]at e;exact(I.hok b u e).stay (fun _ _ _ q=>q) (fun c q=>bS g c _ q) fun c j q=>bS g c _ q
theorem vals3(r:bi [x,y,z] a):∃u v w,a=[u,v,w]/\bj x u/\bj y v/\bj z w:=by
 cases r with
 |cons b r=>cases r with
  |cons c r=>cases r with
   |cons d r=>cases r;exact⟨_,_,_,rfl,b,c,d⟩
def NR(t:TA):TE:=fun Y H Q=>t Y H fun n d=>∃k l m e g h,n=[.ref k,.ref l,.ref m]/\d k=some (.lst e)/\d l=some (.lst g)/\d m=some (.lst h)/\g.length=e.length/\h.length=e.length/\0<e.length/\
 ∀p f (j:List Addr),bY d f->d p=none->f p=some (.lst (j.map V.ref))->j.length=e.length->(∀(i:Nat) (q:Addr),j[i]? = some q->∃x y z,e[i]? = some x/\g[i]? = some y/\h[i]? = some z/\d q=none/\f q=some (.tup [x,y,z]))->Q (.ref p) f
theorem AE:∀{acc},(∀(j:Nat)  w,acc[j]? = some w->∃T,w=Value.ref T)->∃d:List Addr,acc=d.map Value.ref
 |[],_=>⟨[],rfl⟩
 |v::r,h=>by obtain⟨T,e⟩:=h 0 v rfl;obtain⟨d,f⟩:=AE fun j w e=>h (j+1) w (by simpa using e);exact⟨T::d,by rw[f,e];rfl⟩
theorem NS(t:ry h n f g i d):∃k:List Addr,d=k.map Value.ref:=
 AE fun j w e=>by obtain⟨T,_,_,_,e,_⟩:=t j w e;exact⟨T,e⟩
theorem NT{pos:Pos}{p1:Pos}(hc:X.calm=true)(c2:Gl X "list")(c3:X.mg "list" = none)(c4:Gl X "zip")(c5:X.mg "zip" = none)(ha:PA X [a,b,c] t)
  (he:autoParam (starEach [.Call (.Name "zip" p2) [a,b,c] [] pos2] X.env=[(false,eval (.Call (.Name "zip" p2) [a,b,c] [] pos2) X.env)]) Zq._auto_1)
  (hs:autoParam (starEach [a,b,c] X.env=(false,eval a X.env)::starEach [b,c] X.env) Zq._auto_1) (c6:autoParam ((backTo pos2 (starEach [b,c] X.env)).any (·.1)=false) Zq._auto_1) :
  PE X (.Call (.Name "list" p1) [.Call (.Name "zip" p2) [a,b,c] [] pos2] [] pos) (NR t):=by
 intro g s Y H Q I h;refine wpAny_Call_Name_kw (iz I c2 c3 (show bootBuiltins "list" = some (.type "list") by decide +kernel) ?_ (by decide) (by decide));refine PyProof.Rows.callWith_type1 ?_ (by rw[he];rfl) rfl;rw[he];show wpAny _ _ (spliced [(false,eval (.Call (.Name "zip" p2) [a,b,c] [] pos2) X.env)]) _ _ s;refine Calls.spliced_cons ?_;refine wpAny_Call_Name_kw (iz I c4 c5 boot_zip ?_ (by decide) (by decide));refine PyProof.Rows.callWith_type1 (aU (ha pos2 g s Y H _ I h) fun us d U=>?_) hs c6;obtain⟨vs,B,I1,r1,q1⟩:=U;obtain⟨l1,l2,l3,A,R,S,rfl,h1,N,h3,e2,e3,e6,q⟩:=q1;obtain⟨u1,u2,u3,rfl,c7,c8,c9⟩:=vals3 r1;cases c7;cases c8;cases c9;obtain⟨z1,Z,n1,a0,g1⟩:=I1.hok _ _ h1;obtain⟨z2,a6,n2,a7,g2⟩:=I1.hok _ _ N;obtain⟨z3,a8,n3,a9,g3⟩:=I1.hok _ _ h3;have L1:d.heap.IsList l1 Z.toArray:=⟨_,g1,rfl,_,rfl⟩
 have b0:d.heap.IsList l2 a6.toArray:=⟨_,g2,rfl,_,rfl⟩
 have b1:d.heap.IsList l3 a8.toArray:=⟨_,g3,rfl,_,rfl⟩
 have b2:=a0.length;have qE:=a7.length;have qF:=a9.length;refine LA L1 b0 b1 fun v hz d0 d1 wq d2 d3 d4 hk=>?_;refine Calls.spliced_nil ?_;have b3:l1<d.heap.objs.size:=bm g1;have b4:l2<d.heap.objs.size:=bm g2;have b5:l3<d.heap.objs.size:=bm g3;have ge:∀j∈[d.heap.objs.size+5,d.heap.objs.size+3,d.heap.objs.size+4,d.heap.objs.size,d.heap.objs.size+1,d.heap.objs.size+2],d.heap.objs.size<=j:=fun j w=>by
  simp only[q0b,q0e,or_false]at w;rcases w with rfl |rfl |rfl |rfl |rfl |rfl
  all_goals first |exact ba _ |exact q1f _ _
 have I2:Inv X g Y B { d with heap:=v }:=I1.kept (t':=d.toks) hk;refine LB (s:={ d with heap:=v }) (I1.ok.hd hc) (by generalize d.heap.objs.size=n;simp only[q0I,q0b,q0e,or_false,not_or,not_false_eq_true,and_true,q0M];refine⟨⟨?_,?_,?_,?_,?_⟩,⟨?_,?_,?_,?_⟩,⟨?_,?_,?_⟩,⟨?_,?_⟩,?_⟩<;>exact(by intro e;exact absurd (show(_:Nat)=_ from e) (by lia))) (fun l hl j w=>?_) (fun j w=>?_) hz d0 d1 wq d2 d3 (L1.at fun o e=>hk _ _ e) (b0.at fun o e=>hk _ _ e) (b1.at fun o e=>hk _ _ e)
  (by simp only[q0m];lia) (by simp only[q0m];lia) (by simp only[q0m];lia) (by simp only[q0m];lia) fun N e7 cc pp hS hl tr=>?_
 .simp only[q0b,q0e,or_false]at hl;rcases hl with rfl |rfl |rfl
  .exact q0t (q0n b3 (ge j w))
  .exact q0t (q0n b4 (ge j w))
  .exact q0t (q0n b5 (ge j w))
 .show j<v.objs.size;rw[d4];simp only[q0b,q0e,or_false]at w;generalize d.heap.objs.size=n at *;rcases w with rfl |rfl |rfl |rfl |rfl |rfl |rfl |rfl |rfl
  .exact q05 _
  .exact q1C (show(3:Nat)<6 by decide) _
  .exact q1C (show(4:Nat)<6 by decide) _
  .exact Nat.lt_add_of_pos_right (by decide)
  .exact q1C (show(1:Nat)<6 by decide) _
  .exact q1C (show(2:Nat)<6 by decide) _
  .exact q0n b3 (q1f _ _)
  .exact q0n b4 (q1f _ _)
  .exact q0n b5 (q1f _ _)
 .
  have kp:∀b ob,d.heap.get? b=some ob->N.get? b=some ob:=fun b ob e=>pp b ob (fun z=>absurd (ge b (vk z)) (Nat.not_le.mpr (bm e))) (hk b ob e);have I3:Inv X g Y B { d with heap:=N }:=I1.kept (t':=d.toks) kp;obtain⟨f,C⟩:=NS tr;have big:∀b,v.objs.size<=b->iA X g B b:=fun b O=>I2.fpOk O (I2.hok.fresh O);have D:f.length=A.length:=by have:=congrArg List.length C;rw[q0h]at this;rw[<-this,hl,q0m];exact b2.symm
  have vq:∀f:List Addr,bi (f.map V.ref) (f.map Value.ref):=fun f=>by
   induction f with
   |nil=>exact .nil
   |cons q r ih=>exact .cons rfl ih
  have I4:Inv X g Y (aL B v.objs.size (.lst (f.map V.ref))) { d with heap:=N }:=I3.track (big _ (ba _)) ⟨by rw[q0h,D];exact z1,_,_,vq f,by rw[<-C];exact hS⟩;have all:∀k,k<=f.length->∃u,bY B u/\Inv X g Y u { d with heap:=N }/\u v.objs.size=some (.lst (f.map V.ref))/\(∀b,v.objs.size<b->u b=none\/∃row,u b=some (.tup row))/\
    ∀(i:Nat) (q:Addr),i<k->f[i]? = some q->∃x y z,A[i]? = some x/\R[i]? = some y/\S[i]? = some z/\B q=none/\u q=some (.tup [x,y,z]):=fun k=>by
   induction k with
   |zero=>exact fun _=>⟨_,bS (big _ (ba _)).1,I4,cG,fun b O=>.inl (by rw[bB (q0V O)];exact(big b (q1t O)).1),fun i q h=>absurd h (q2e _)⟩
   |succ k ih=>
    intro b6;obtain⟨u,sm,J,hp,E,m⟩:=ih (q1m b6);have b7:k<f.length:=b6;have G:f[k]? = some f[k]:=q0c b7;obtain⟨T,x',y',u',eT,hT,b8,ex,ey,eu⟩:=tr k (.ref f[k]) (by rw[C,q0y,G];rfl);cases eT;have p:v.objs.size<f[k]:=hT;have kx:k<A.length:=by rw[<-D];exact b7
    have vx:A[k]? = some A[k]:=q0c kx;have vy:R[k]? = some (R[k]'(by lia)):=q0c (by lia);have vz:S[k]? = some (S[k]'(by lia)):=q0c (by lia);obtain⟨w1,d5,d6⟩:=a0.get vx;obtain⟨w2,d7,d8⟩:=a7.get vy;obtain⟨w3,d9,e0⟩:=a9.get vz;have e1:x' = w1:=by simp only[q0W]at ex;rw[d5]at ex;exact(q0r ex).symm
    have e4:y' = w2:=by simp only[q0W]at ey;rw[d7]at ey;exact(q0r ey).symm
    have e5:u' = w3:=by simp only[q0W]at eu;rw[d9]at eu;exact(q0r eu).symm
    subst e1 e4 e5;have rel:bi [A[k],R[k]'(by lia),S[k]'(by lia)] [x',y',u']:=.cons d6 (.cons d8 (.cons e0 .nil));have b9:B f[k]=none:=(big _ (q1t p)).1;rcases E f[k] p with hn |⟨row,hr⟩
    .refine⟨aL u f[k] (.tup [A[k],R[k]'(by lia),S[k]'(by lia)]),fun b o e=>bS hn _ _ (sm b o e),J.track ⟨hn,(big _ (q1t p)).2⟩ ⟨by show 3<=sizeLine;decide,_,rel,⟨_,b8,rfl,_,rfl⟩⟩,
      by rw[bB (q0t p)];exact hp,fun b O=>?_,fun i q L M=>?_⟩
     .by_cases e:b=f[k]
      .subst e;exact .inr ⟨_,cG⟩
      .rw[bB e];exact E b O
     .rcases q2f.mp L with L |rfl
      .obtain⟨x,y,z,a1,a2,a3,a4,a5⟩:=m i q L M;exact⟨x,y,z,a1,a2,a3,a4,bS hn _ _ a5⟩
      .rw[G]at M;cases M;exact⟨_,_,_,vx,vy,vz,b9,cG⟩
    .have same:row=[A[k],R[k]'(by lia),S[k]'(by lia)]:=by
      obtain⟨_,c0,rv,o,eo,co,n,dn⟩:=J.hok _ _ hr;have c1:N.get? f[k]=some o:=eo;rw[b8]at c1;cases c1;have d':(#[x',y',u']:Array Value)=c0.toArray:=by injection dn
      have:c0=[x',y',u']:=by have:=congrArg Array.toList d';simpa using this.symm
      subst this;exact rv.inj rel
     refine⟨u,sm,J,hp,E,fun i q L M=>?_⟩;rcases q2f.mp L with L |rfl
     .exact m i q L M
     .rw[G]at M;cases M;exact⟨_,_,_,vx,vy,vz,b9,by rw[hr,same]⟩
  obtain⟨u,sm,J,hp,_,m⟩:=all f.length (ba _);exact⟨.ref v.objs.size,u,J,rfl,q v.objs.size u f sm (big _ (ba _)).1 hp D fun i qq e=>m i qq (q0a.mp e).1 e⟩
theorem NU(E:X.calm=true):ie X (.builtin "all") (fun p H Q=>∃(l:Addr) (bs:List Bool),p=[.ref l]/\H l=some (.lst (bs.map V.bl))/\Q (.bl (bs.all id)) H):=by
 intro y s Y H p U Q I r h;obtain⟨l,bs,rfl,G,q⟩:=h;obtain⟨u,rfl,ru⟩:=vals1 r;cases ru;obtain⟨z,d,n,B,e⟩:=I.hok _ _ G;have L:s.heap.IsList l d.toArray:=⟨_,e,rfl,_,rfl⟩
 have f:=bm e;have len:=B.length;rw[q0h]at len;refine call_all_walk (wpAny_pyIter_list L ?_);refine⟨s.heap.objs.size,_,_,_,_,_,fun i=>bs.getD i true,rfl,Walks.list (A:=X.A.in1) (I.ok.hd E) s.heap.objs.size l (q0t f) d.toArray,⟨⟨_,Heap.get?_push_size _ rfl,rfl,rfl⟩,L.push _⟩,?_,fun Z tk J=>?_⟩
 .intro i v M N E' O k;have g:=by simpa using O
  have f:i<bs.length:=by rw[len];exact(q0a.mp g).1
  obtain⟨w,C,m⟩:=B.get (i:=i) (by rw[q0y,q0c f];rfl);rw[g]at C;cases C;cases m;refine wpAny_truthy_bool ?_;have:bs.getD i true=bs[i]:=by simp[f]
  have k:N (bs.getD i true) M:=k;rw[this]at k;exact k
 .have R:(List.range d.toArray.size).all (fun i=>bs.getD i true)=bs.all id:=by
   rw[q0m,<-len];rw[Bool.eq_iff_iff,q1D,q1D];constructor
   .intro h b T;obtain⟨i,g,rfl⟩:=List.getElem_of_mem T;have:=h i (q2k.mpr g);simpa[g] using this
   .intro h i g;have j:=q2k.mp g;have:=h bs[i] (q0L j);simpa[j] using this
  rw[R];exact⟨.bl (bs.all id),H,I.kept fun b o D=>J b o (fun S=>absurd (bm D) (by rw[q0i.mp S];exact q0C _)) (aW _ D),rfl,q⟩
end L2
namespace L2.L3
open PySem PySem.Spec PyProof.Rows
def AF:DN:=fun b Q=>∃a,(b=[.list a]\/b=[.tuple a])/\Q (.int a.length)
theorem ki{K}:iY (fun xs H Q=>∃p ys,xs=[.ref p]/\(cZ K H p ys\/eL K H p ys)/\Q (.int ys.length) H) AF where
 mn:=fun _ _ _ k zq1a=>by obtain⟨ds,e,q⟩:=zq1a;exact⟨ds,e,k _ q⟩
 ok:=fun O H vs xs Q hO hd zq2a=>by
  obtain⟨ds,e,q⟩:=zq2a;rcases e with rfl |rfl
  .cases hd with
   |cons d r=>cases r;obtain⟨a,ys,rfl,ha,hy⟩:=d.lst_inv;exact⟨a,ys,rfl,.inl (.of (cK ha).1),by rw[hy.length];exact q _ H (fun _ _ h=>h) (.int _)⟩
  .cases hd with
   |cons d r=>cases r;obtain⟨a,ys,rfl,ha,hy⟩:=d.tup_inv;exact⟨a,ys,rfl,.inr (.inl (ig ha).1),by rw[hy.length];exact q _ H (fun _ _ h=>h) (.int _)⟩
theorem vN(h:aG H c [a,b]):∃x y,c=[x,y]/\DV H x a/\DV H y b:=by cases h with |cons d r=>cases r with |cons e r=>cases r;exact⟨_,_,rfl,d,e⟩
theorem gx(h:aG H b [a]):∃x,b=[x]/\DV H x a:=by cases h with |cons d r=>cases r;exact⟨_,rfl,d⟩
theorem oZ(h:aG H f [a,b,c]):∃x y z,f=[x,y,z]/\DV H x a/\DV H y b/\DV H z c:=by cases h with |cons d r=>cases r with |cons g r=>cases r with |cons e r=>cases r;exact⟨_,_,_,rfl,d,g,e⟩
def AG:DN:=fun a Q=>∃i j:Int,a=[.int i,.int j]/\Q (.int (max i j))
theorem vO:iY (fun xs H Q=>∃i j,xs=[.int i,.int j]/\Q (.int (if j>i then j else i)) H) AG where
 mn:=fun _ _ _ k zq1a=>by obtain⟨i,j,e,q⟩:=zq1a;exact⟨i,j,e,k _ q⟩
 ok:=fun O H vs xs Q hO hd zq2a=>by
  obtain⟨i,j,e,q⟩:=zq2a;subst e;obtain⟨x,y,rfl,h1,h2⟩:=vN hd;have e:(if j>i then j else i)=max i j:=by split<;>lia
  exact⟨i,j,by rw[h1.int_inv,h2.int_inv],by rw[e];exact q _ H (fun _ _ h=>h) (.int _)⟩
def AH:DN:=fun a Q=>(∃i,a=[.int i]/\Q (.int i))\/∃b:Bool,a=[.bool b]/\Q (.int (if b then 1 else 0))
theorem NW:iY (fun xs H Q=>(∃i,xs=[.int i]/\Q (.int i) H)\/∃k,xs=[.bl k]/\Q (.int (if k then 1 else 0)) H) AH where
 mn:=fun _ _ _ k q=>q.imp (fun zq1a=>by obtain⟨i,e,q⟩:=zq1a;exact⟨i,e,k _ q⟩) fun zq2a=>by obtain⟨i,e,q⟩:=zq2a;exact⟨i,e,k _ q⟩
 ok:=fun O H vs xs Q hO hd q=>by
  rcases q with⟨i,e,q⟩ |⟨i,e,q⟩
  .subst e;obtain⟨x,rfl,h1⟩:=gx hd;exact .inl ⟨i,by rw[h1.int_inv],q _ H (fun _ _ h=>h) (.int _)⟩
  .subst e;obtain⟨x,rfl,h1⟩:=gx hd;exact .inr ⟨i,by rw[h1.bl_inv],q _ H (fun _ _ h=>h) (.int _)⟩
def AI:DN:=fun b Q=>(∃a,b=[.list a]/\Q (.tuple a))\/∃a,b=[.tuple a]/\Q (.tuple a)
theorem AJ{K}:iY (fun xs H Q=>∃p ys,xs=[.ref p]/\((cZ K H p ys/\∀l,H l=none->Q (.ref l) (aL H l (.tup ys)))\/(eL K H p ys/\Q (.ref p) H))) AI where
 mn:=fun _ _ _ k q=>q.imp (fun zq1a=>by obtain⟨i,e,q⟩:=zq1a;exact⟨i,e,k _ q⟩) fun zq2a=>by obtain⟨i,e,q⟩:=zq2a;exact⟨i,e,k _ q⟩
 ok:=fun O H vs xs Q hO hd q=>by
  rcases q with⟨ds,e,q⟩ |⟨ds,e,q⟩
  .subst e;obtain⟨x,rfl,h1⟩:=gx hd;obtain⟨a,ys,rfl,ha,hy⟩:=h1.lst_inv;exact⟨a,ys,rfl,.inl ⟨.of (cK ha).1,fun p hp=>q _ _ (bS hp) (mj hp (hO p hp) hy)⟩⟩
  .subst e;obtain⟨x,rfl,h1⟩:=gx hd;obtain⟨a,ys,e,ha,hy⟩:=h1.tup_inv;subst e;exact⟨a,ys,rfl,.inr ⟨.inl (ig ha).1,q _ H (fun _ _ h=>h) h1⟩⟩
def AK:DN:=fun a Q=>∃bs:List Bool,a=[.list (bs.map .bool)]/\Q (.bool (bs.all id))
theorem AL:∀{bs:List Bool}{a},aG H a (bs.map PyData.bool)->a=bs.map V.bl
 |[],_,h=>by cases h;rfl
 |b::r,_,h=>by
  cases h with
  |cons d q=>rw[d.bl_inv,AL q];rfl
theorem NX:iY (fun xs H Q=>∃(l:Addr) (bs:List Bool),xs=[.ref l]/\H l=some (.lst (bs.map V.bl))/\Q (.bl (bs.all id)) H) AK where
 mn:=fun _ _ _ k zq1a=>by obtain⟨bs,e,q⟩:=zq1a;exact⟨bs,e,k _ q⟩
 ok:=fun O H vs xs Q hO hd zq2a=>by obtain⟨bs,e,q⟩:=zq2a;subst e;obtain⟨x,rfl,h1⟩:=gx hd;obtain⟨a,ys,rfl,ha,hy⟩:=h1.lst_inv;exact⟨a,bs,rfl,by rw[(cK ha).1,AL hy],q _ H (fun _ _ h=>h) (.bl _)⟩
noncomputable def pc(as bs a:List PyData):List PyData:=(as.zip (bs.zip a)).map fun q=>PyData.tuple [q.1,q.2.1,q.2.2]
def AM(t:dG):DT:=fun U Q=>t U fun c b=>∃as bs a,c=[.list as,.list bs,.list a]/\bs.length=as.length/\a.length=as.length/\0<as.length/\Q (.list (pc as bs a)) b
theorem vP:∀{H a b},a.length=b.length->(∀(i:Nat) v d,a[i]? = some v->b[i]? = some d->DV H v d)->aG H a b
 |_,[],[],_,_=>.nil
 |_,[],_::_,e,_=>by cases e
 |_,_::_,[],e,_=>by cases e
 |H,v::a,d::b,e,h=>.cons (h 0 v d rfl rfl) (vP (by simpa using e) fun i c f g j=>h (i+1) c f (by simpa using g) (by simpa using j))
theorem NY{pos:Pos}{p1:Pos}(hc:X.calm=true)(t:Gl X "list")(u:X.mg "list" = none)(w:Gl X "zip")(A:X.mg "zip" = none)(B:DA X F [a,b,c] tA)
  (he:autoParam (starEach [.Call (.Name "zip" p2) [a,b,c] [] pos2] X.env=[(false,eval (.Call (.Name "zip" p2) [a,b,c] [] pos2) X.env)]) Zq._auto_1)
  (hs:autoParam (starEach [a,b,c] X.env=(false,eval a X.env)::starEach [b,c] X.env) Zq._auto_1) (C:autoParam ((backTo pos2 (starEach [b,c] X.env)).any (·.1)=false) Zq._auto_1) :
  DE X F (.Call (.Name "list" p1) [.Call (.Name "zip" p2) [a,b,c] [] pos2] [] pos) (AM tA):=
 ⟨fun _ _ _ k q=>B.mn _ _ _ (fun _ _ g=>by obtain⟨x,y,z,e,h1,h2,h3,q⟩:=g;exact⟨x,y,z,e,h1,h2,h3,k _ _ q⟩) q,(NT hc t u w A B.pa he hs C).imp fun Y H Q h=>by obtain⟨U,O,st,q⟩:=h;exact 
  ⟨U,O,st,B.mn _ _ _ (fun ds U1 j vs H1 D l s1 E=>by
   obtain⟨as,bs,cs,e,l1,l2,l3,q1⟩:=j;subst e;obtain⟨x,y,z,rfl,h1,h2,h3⟩:=oZ E;obtain⟨a1,xs,rfl,G,n⟩:=h1.lst_inv;obtain⟨a2,ys,rfl,I,S⟩:=h2.lst_inv;obtain⟨a3,zs,rfl,J,T⟩:=h3.lst_inv;refine⟨a1,a2,a3,xs,ys,zs,rfl,(cK G).1,(cK I).1,(cK J).1,by rw[n.length,S.length];exact l1,by rw[n.length,T.length];exact l2,by rw[n.length];exact l3,fun p H2 qs L hp M hl o=>?_⟩;have Z:=l.nofree;refine q1 _ H2 D (l.grow L) (s1.trans (.same L)) (.lst (iV M (Z p hp)) (vP ?_ fun i v d e1 N=>?_))
   .unfold pc;rw[q0h,q0h,q2J,q2J,hl,n.length];lia
   .rw[q0y]at e1;obtain⟨qq,e3,e4⟩:=q0p.mp e1;subst e4;obtain⟨x,y,z,g1,g2,g3,g4,g5⟩:=o i qq e3;unfold pc at N;rw[q0y]at N;obtain⟨⟨d0,E,d2⟩,e5,e6⟩:=q0p.mp N;subst e6;obtain⟨e7,e8⟩:=q1s.mp e5;obtain⟨e9,R⟩:=q1s.mp e8;obtain⟨dx,k1,k2⟩:=n.get' g1;obtain⟨dy,k3,k4⟩:=S.get' g2;obtain⟨dz,k5,k6⟩:=T.get' g3;have r:=e7;have s:=e9;have f:=R;rw[k1]at r;rw[k3]at s;rw[k5]at f;cases r;cases s;cases f;have m:=oQ (O:=D) L;exact .tup (.inl (iV g5 (Z qq g4))) (.cons (DV.mono m k2) (.cons (DV.mono m k4) (.cons (DV.mono m k6) .nil)))) q⟩⟩
def AN(te:DT)(k:Nat):DT:=fun U Q=>te U fun d g=>∃f,d=.list f/\Q (.list (f.drop k)) g
theorem Oa{k :Nat}(o:DE X F e te):DE X F (.Subscript e (.Slice (some (.Constant (.int (k:Int)) j A)) none none s) pos) (AN te k):=
 ⟨fun _ _ _ k q=>o.mn _ _ _ (fun _ _ f=>by obtain⟨r,e,q⟩:=f;exact⟨r,e,k _ _ q⟩) q,(zn zt o.pe (zm uF) zl).imp fun Y H Q g=>by obtain⟨U,O,st,q⟩:=g;exact 
  ⟨U,O,st,o.mn _ _ _ (fun d B i v C t l u w=>by
   obtain⟨r,e,x⟩:=i;subst e;obtain⟨a,m,rfl,y,z⟩:=w.lst_inv;refine⟨k,rfl,a,m,rfl,.of (cK y).1,fun p n=>x _ _ t (l.grow (bS n)) (u.trans (.same (bS n))) (jz n (l.nofree p n) ?_)⟩;have:ju m (some k) none=m.drop k:=by
    unfold ju;rw[HT.sIx_none,HT.sIx_nat]
    by_cases h:k<=m.length
    .rw[q1J h,q0O (by rw[q2z];exact ba _)]
    .rw[Nat.min_eq_right (by lia),q2F (ba _),q2F (by lia)];simp
   rw[this];exact z.drop k) q⟩⟩
def AO(i:Nat):DT:=fun U Q=>∃d,U[i]? = some (some (.scr d))/\(d.length<=63->Q (.int d.length) U)
theorem AQ{F:Fx}{pos:Pos}{p:Pos}(m:Gl X "len")(n:X.mg "len" = none)(h:PE X (.Name x p1) (bZ i))(l:autoParam (starEach [.Name x p1] X.env=(false,eval (.Name x p1) X.env)::starEach [] X.env) Zq._auto_1)(g:autoParam ((backTo pos (starEach [] X.env)).any (·.1)=false) Zq._auto_1) :
  DE X F (.Call (.Name "len" p) [.Name x p1] [] pos) (AO i):=
 ⟨fun _ _ _ k d=>by obtain⟨j,e,q⟩:=d;exact⟨j,e,fun h=>k _ _ (q h)⟩,(ri iU m n q0X (eM h fS l) (by decide) (by decide) l g).imp fun Y H Q f=>by
  obtain⟨U,O,st,j,e,q⟩:=f;obtain⟨r,o,hs⟩:=st.scr e;refine⟨_,o,r,j.map V.int,rfl,.inl hs.sq,?_⟩;rw[q0h];exact q hs.1 _ H O st .refl (.int _)⟩
def AR(i:Nat)(te:DT):DT:=fun U Q=>∃f,U[i]? = some (some (.scr f))/\te U fun d g=>∃k n,d=.int k/\bL f k=some n/\Q (.int n) g
theorem Ob{g:α->β}{l}{n}(h:bL l k=some n):bL (l.map g) k=some (g n):=by
 unfold bL at h ⊢;rw[q0h];cases q:cT l.length k with
 |none=>rw[q]at h;cases h
 |some j=>rw[q]at h;show(l.map g)[j]? = some (g n);rw[q0y];have h:l[j]? = some n:=h;rw[h];rfl
theorem AS(h:PE X (.Name x p1) (bZ i))(s:DE X F e te)(B:nh e):DE X F (.Subscript (.Name x p1) e pos) (AR i te):=
 ⟨fun _ _ _ k f=>by obtain⟨r,e,q⟩:=f;exact⟨r,e,s.mn _ _ _ (fun _ _ g=>by obtain⟨G,n,t,v,q⟩:=g;exact⟨G,n,t,v,k _ _ q⟩) q⟩,(rm rn h s.pe B).imp fun Y H Q j=>by
  obtain⟨U,O,st,r,e,q⟩:=j;obtain⟨E,I,B⟩:=st.scr e;refine⟨_,I,U,O,st,s.mn _ _ _ (fun d N l w C J y D L=>?_) q⟩;obtain⟨k,n,t,v,M⟩:=l;subst t;exact⟨E,r.map V.int,k,.int n,rfl,L.int_inv,(B.mono fun o u q=>D.keep _ _ (fun z=>by obtain⟨R,e,m⟩:=st.live _ z;rw[q]at e;cases e;exact m) q).sq,Ob v,M _ C J y D (.int _)⟩⟩
def Oc(K:Frag):R2:=fun x y H Q=>∃a b d,x=.ref a/\y=.ref b/\cZ K H a (d.map V.int)/\H b=some (.lst [])/\Q (.bl (decide (d=[]))) H
theorem AU:∀{d:List Int}{f},bi (d.map V.int) f->∃as,ReadsAll h f (d.map PyData.int) as
 |[],_,r=>by cases r;exact⟨_,.nil⟩
 |n::d,_,r=>by
  cases r with
  |cons g r=>obtain⟨t,rfl⟩:=g;obtain⟨as,q⟩:=AU r;exact⟨_,.cons (.int n t) q⟩
theorem Od(l:X.A.units+64<cLine):dk X (compareOp .Eq) (Oc X.K):=by
 intro g s Y H x y v u Q I m t h;obtain⟨a,b,d,rfl,rfl,h1,h2,q⟩:=h;cases m;cases t;obtain⟨w,z,⟨o,n,e,B,_,C⟩,L⟩:=I.list h1;obtain⟨_,j,M,f,D⟩:=I.hok _ _ h2;cases f;obtain⟨as,E⟩:=AU z;have G:PyData.eqv (.list (d.map .int)) (.list [])=decide (d=[]):=by cases d<;>rfl
 refine eq_dataH (reads_list_at e B C (by simpa using E)) (reads_list_at D rfl rfl .nil) ?_ (by decide) l (by rw[G];exact⟨.bl _,H,I,rfl,q⟩);unfold SeqAt.shaped;have J:PyData.canLay0 (.list (d.map .int))=true:=by
  have:∀d:List Int,PyData.canLayAll0 (d.map .int)=true:=fun d=>by
   induction d with
   |nil=>rfl
   |cons n r k=>rw[q0l];simp only[PyData.canLayAll0,PyData.canLay0,k,Bool.and_self]
  simp only[PyData.canLay0,this]
 have dp:PyData.depth (.list (d.map .int))<=64:=by
  have:∀d:List Int,PyData.depthAll (d.map .int)<=1:=fun d=>by
   induction d with
   |nil=>simp[PyData.depthAll]
   |cons n r k=>rw[q0l];simp only[PyData.depthAll,PyData.depth];lia
  have:=this d;simp only[PyData.depth];lia
 rw[J,Bool.true_and];exact decide_eq_true dp
def AV(i:Nat):cU:=fun U Q=>∃d,U[i]? = some (some (.scr d))/\Q (decide (d=[])) U
theorem Oe(m:X.A.units+64<cLine)(h:PE X (.Name x p1) (bZ i)):DB X F (.Compare (.Name x p1) [.Eq] [.List [] l] pos) (AV i):=
 ⟨fun _ _ _ k d=>by obtain⟨j,e,q⟩:=d;exact⟨j,e,k _ _ q⟩,(yT (Od m) h (rh fS) (bD _)).imp fun Y H Q f=>by
  obtain⟨U,O,st,j,e,q⟩:=f;obtain⟨o,n,hs⟩:=st.scr e;refine⟨_,n,q0Y _,fun p g=>⟨o,p,j,rfl,rfl,(bS g).seq hs.sq,cG,_,rfl,q _ O (st.grow (bS g)) (.same (bS g))⟩⟩⟩
structure FD (K:Frag) (mg:Str->Option Value) (x:Str) (st:Stmt) (ps:List Str) (g:Addr) (fd:FuncData):Prop where
 fn:ni K x x st g fd
 mgf:mg x=some (.ref g)
 b:iB K fd ps []
section
variable{X:Cx}{scope:Scope}{own capN:List Str}{caps:List Nat}
theorem ag.of(h1:autoParam (scope.kind=.function) Zq._auto_1)(h2:autoParam ((scope.names.all fun y=>scope.names.lookup y.1==some y.2)=true) Zq._auto_1)
  (h3:autoParam ((scope.names.all fun y=>y.2 != .free||(X.env.kindOf y.1==some .cell||X.env.kindOf y.1==some .free))=true) Zq._auto_1)
  (h4:autoParam ((scope.names.all fun y=>y.2 != .local||scope.names.lookup y.1==some .local)=true) Zq._auto_1) (h5:autoParam (caps.map (fun j=>X.N[j]?)=capN.map some) Zq._auto_1)
  (h6:autoParam ((capN.all fun x=>scope.names.lookup x==some .free)=true) Zq._auto_1):ag X scope own capN caps where
 kind:=h1
 one:=fun y hy=>eq_of_beq (q1D.mp h2 y hy)
 free:=fun y hy e=>by
  have:=q1D.mp h3 y hy;rw[e]at this;rw[q1K]at this;rcases this with z |z
  .exact absurd z (by decide)
  .rw[q1K]at z;exact z.imp (fun z=>eq_of_beq z) fun z=>eq_of_beq z
 loc:=fun y hy e=>by
  have:=q1D.mp h4 y hy;rw[e]at this;rw[q1K]at this;rcases this with z |z
  .exact absurd z (by decide)
  .exact eq_of_beq z
 caps:=h5
 capf:=fun x hx=>eq_of_beq (q1D.mp h6 x hx)
end
abbrev qI(g:Int->Int->Int):D2:=fI (fun _ _=>True) fun i j=>.int (g i j)
abbrev qB(g:Int->Int->Bool):D2:=fI (fun _ _=>True) fun i j=>.bool (g i j)
theorem Of(d:DE X F a ta)(f:DE X F b tb):DE X F (.BinOp a .Add b pos) (dD (qI fun i j=>i+j) ta tb):=mi JC (kT fun _ _ _=>.int _) d f
theorem Og(d:DE X F a ta)(f:DE X F b tb):DE X F (.BinOp a .Sub b pos) (dD (qI fun i j=>i - j) ta tb):=mi JD (kT fun _ _ _=>.int _) d f
theorem Oh(d:DE X F a ta)(f:DE X F b tb):DE X F (.BinOp a .Mult b pos) (dD (fI oN fun i j=>.int (i * j)) ta tb):=mi JE (vo fun _ _ _=>.int _) d f
theorem Oi(d:DE X F a ta)(f:DE X F b tb):DE X F (.BinOp a .FloorDiv b pos) (dD (fI uR fun i j=>.int (i / j)) ta tb):=mi JF (vo fun _ _ _=>.int _) d f
theorem Oj(d:DE X F a ta)(f:DE X F b tb):DE X F (.BinOp a .Mod b pos) (dD (fI (fun _ j=>0<j) fun i j=>.int (i % j)) ta tb):=mi JG (vo fun _ _ _=>.int _) d f
theorem Ol(d:DE X F a ta)(f:DE X F b tb):DE X F (.BinOp a .Add b pos) (dD vv ta tb):=mi KN LR d f
theorem Om(d:DE X F a ta)(f:DE X F b tb):DE X F (.Compare a [.Lt] [b] pos) (dD (qB fun i j=>decide (i<j)) ta tb):=nq yP (kT fun _ _ _=>.bl _) d f (bD _)
theorem Oo(d:DE X F a ta)(f:DE X F b tb):DE X F (.Compare a [.LtE] [b] pos) (dD (qB fun i j=>decide (i<=j)) ta tb):=nq re (kT fun _ _ _=>.bl _) d f (bD _)
theorem Op(d:DE X F a ta)(f:DE X F b tb):DE X F (.Compare a [.Gt] [b] pos) (dD (qB fun i j=>decide (j<i)) ta tb):=nq yQ (kT fun _ _ _=>.bl _) d f (bD _)
theorem Oq(d:DE X F a ta)(f:DE X F b tb):DB X F (.Compare a [.Lt] [b] pos) (gL (dD (qB fun i j=>decide (i<j)) ta tb)):=ml yP (kT fun _ _ _=>.bl _) d f (bD _)
theorem Ot(d:DE X F a ta)(f:DE X F b tb):DB X F (.Compare a [.LtE] [b] pos) (gL (dD (qB fun i j=>decide (i<=j)) ta tb)):=ml re (kT fun _ _ _=>.bl _) d f (bD _)
theorem Ou(d:DE X F a ta)(f:DE X F b tb):DB X F (.Compare a [.Gt] [b] pos) (gL (dD (qB fun i j=>decide (j<i)) ta tb)):=ml yQ (kT fun _ _ _=>.bl _) d f (bD _)
theorem Ov(d:X.A.units+64<cLine)(f:DE X F a ta)(g:DE X F b tb):DE X F (.Compare a [.Eq] [b] pos) (dD (oU false) ta tb):=nq (zW d) vr f g (bD _)
theorem Ow(d:X.A.units+64<cLine)(f:DE X F a ta)(g:DE X F b tb):DB X F (.Compare a [.Eq] [b] pos) (gL (dD (oU false) ta tb)):=ml (zW d) vr f g (bD _)
theorem Ox(d:X.A.units+64<cLine)(f:DE X F a ta)(g:DE X F b tb):DB X F (.Compare a [.NotEq] [b] pos) (gL (dD (oU true) ta tb)):=ml (LF d) vr f g (bD _)
theorem Oy(d:DE X F a ta)(f:DE X F b tb):DE X F (.Compare a [.Is] [b] pos) (dD rF ta tb):=nq yR Ab d f (bD _)
theorem Oz(d:DE X F a ta)(f:DE X F b tb):DB X F (.Compare a [.Is] [b] pos) (gL (dD rF ta tb)):=ml yR Ab d f (bD _)
theorem OA(d:DE X F a ta)(f:DE X F b tb):DB X F (.Compare a [.IsNot] [b] pos) (gL (dD vt ta tb)):=ml yS Ac d f (bD _)
theorem OB(d:DE X F a ta)(h:DE X F b tb)(f:DE X F c tc)(g:lastMarks [.LtE,.LtE] [b,c]=false:=by with_unfolding_all rfl):DE X F (.Compare a [.LtE,.LtE] [b,c] pos) (vA (fun i j=>decide (i<=j)) (fun i j=>decide (i<=j)) ta tb tc):=Ml re re d h f g
theorem ee(d:Gl X x)(f:X.mg x=some (.int i t))(hd:autoParam ((x==("__debug__":Str))=false) Zr._auto_1):DE X F (.Name x pos) (dC (.int i)):=oR (v:=.int i) (Iw d f ⟨t,rfl⟩ hd) fun _=>.int i
mutual
theorem AW:∀(d:PyData),d.canLay0=true->PyData.eqv d d=true
 |.none,_=>rfl
 |.bool b,_=>by simp[PyData.eqv]
 |.int i,_=>by simp[PyData.eqv]
 |.str s,_=>by simp[PyData.eqv]
 |.list xs,h=>by rw[PyData.eqv];exact vQ xs (by simpa[PyData.canLay0] using h)
 |.tuple xs,h=>by rw[PyData.eqv];exact vQ xs (by simpa[PyData.canLay0] using h)
 |.dict kvs,h=>by simp[PyData.canLay0]at h
theorem vQ:∀(ds:List PyData),PyData.canLayAll0 ds=true->PyData.eqvAll ds ds=true
 |[],_=>rfl
 |x::xs,h=>by simp only[PyData.canLayAll0,q0Q]at h;rw[PyData.eqvAll,AW x h.1,vQ xs h.2];rfl
theorem AY(h:SeqAt.shaped d=true):PyData.eqv d d=true:=AW d (SeqAt.canLay_of_shaped h)
end
theorem AZ:∀{e:List Int}{c},aG H c (e.map PyData.int)->c=e.map V.int
 |[],_,h=>by cases h;rfl
 |b::r,_,h=>by
  cases h with
  |cons d q=>rw[d.int_inv,AZ q];rfl
end L2.L3
namespace L2
open PySem PySem.Spec PyProof.Rows
noncomputable def dE(a b c:Int):Nat:=(if a<b then(b - a - 1) / c+1 else 0).toNat
def OC(t:TA):TE:=fun Y H Q=>t Y H fun f d=>∃i j k:Int,f=[.int i,.int j,.int k]/\(0<=i/\i<=2 ^ 20)/\(0<=j/\j<=2 ^ 20)/\(0<k/\k<=2 ^ 20)/\∀p,d p=none->Q (.ref p) (aL d p (.lst ((List.range (dE i j k)).map fun(m:Nat)=>V.int (i+m * k))))
theorem kZ(f:0<=i/\i<=2 ^ 20)(g:0<=j/\j<=2 ^ 20)(d:0<k/\k<=2 ^ 20):Builtin.Range.rangeSize i j k=dE i j k/\dE i j k<=2 ^ 20:=by
 unfold Builtin.Range.rangeSize dE;rw[if_pos (d.1)]
 by_cases h:i<j
 .rw[if_pos h];have h1:0<=(j - i - 1) / k:=Int.ediv_nonneg (by lia) (by lia);have h2:(j - i - 1) / k<=j - i - 1:=Int.ediv_le_self _ (by lia);lia
 .rw[if_neg h];exact⟨rfl,by decide⟩
theorem mw(f:0<=i/\i<=2 ^ 20)(g:0<=j/\j<=2 ^ 20)(d:0<k/\k<=2 ^ 20):Builtin.Range.small i j k=true:=by obtain⟨h,l⟩:=kZ f g d;unfold Builtin.Range.small;rw[h];simp only[Builtin.Range.rangeFitsLong,q0Q,q1K,d.1,if_true];lia
theorem OD:∀n  l  z,l.length=n->(∀m v,l[m]? = some v->∃t,v=Value.int (i+((z+m:Nat):Int) * k) t)->bi ((List.range n).map fun(m:Nat)=>V.int (i+((z+m:Nat):Int) * k)) l:=by
 intro n
 induction n with
 |zero=>intro l z d _;cases l with |nil=>exact .nil |cons _ _=>cases d
 |succ n g=>
  intro l z d f;cases l with
  |nil=>cases d
  |cons v l=>
   rw[q2G,q0l,q0T];refine .cons (f 0 v rfl) ?_;have:=g l (z+1) (by simpa using d) fun m w e=>by obtain⟨t,h⟩:=f (m+1) w (by simpa using e);exact⟨t,by rw[h,show z+(m+1)=z+1+m by lia]⟩
   have j:(fun(m:Nat)=>V.int (i+((z+1+m:Nat)) * k))=((fun(m:Nat)=>V.int (i+((z+m:Nat)) * k))∘Nat.succ):=by funext m;show V.int _=V.int _;rw[show z+1+m=z+Nat.succ m by lia]
   rw[j]at this;exact this
theorem OE{pos:Pos}{p1:Pos}(N:X.calm=true)(u:Gl X "list")(w:X.mg "list" = none)(x:Gl X "range")(y:X.mg "range" = none)(O:PA X [a,b,c] t)
  (E:autoParam (starEach [.Call (.Name "range" p2) [a,b,c] [] pos2] X.env=[(false,eval (.Call (.Name "range" p2) [a,b,c] [] pos2) X.env)]) Zq._auto_1)
  (hs:autoParam (starEach [a,b,c] X.env=(false,eval a X.env)::starEach [b,c] X.env) Zq._auto_1) (z:autoParam ((backTo pos2 (starEach [b,c] X.env)).any (·.1)=false) Zq._auto_1) :
  PE X (.Call (.Name "list" p1) [.Call (.Name "range" p2) [a,b,c] [] pos2] [] pos) (OC t):=by
 intro d s Y H Q I h;refine wpAny_Call_Name_kw (iz I u w (show bootBuiltins "list" = some (.type "list") by decide +kernel) ?_ (by decide) (by decide));refine PyProof.Rows.callWith_type1 ?_ (by rw[E];rfl) rfl;rw[E];refine Calls.spliced_cons (wpAny_Call_Name_kw (iz I x y boot_range ?_ (by decide) (by decide)));refine PyProof.Rows.callWith_type1 (aU (O pos2 d s Y H _ I h) fun us f l=>?_) hs z;obtain⟨vs,R,I1,S,T⟩:=l;obtain⟨i,j,k,rfl,G,J,L,q⟩:=T;obtain⟨u1,u2,u3,rfl,⟨A,rfl⟩,⟨B,rfl⟩,⟨C,rfl⟩⟩:=vals3 S;refine call_range_3 (by lia) ?_ (.inl (PyProof.noPylong_small (by lia)));apply Calls.spliced_nil;have M:Inv X d Y R { f with heap:=f.heap.push { cls:=.type "range",data:=.fields #[.int i A,.int j B,.int k C] },toks:=f.toks }:=I1.kept fun b o e=>aW _ e;obtain⟨U,Z⟩:=kZ G J L;refine call_list_range (I1.ok.hd N) (IsRange.new ..) (mw G J L) U (q0E Z (by decide)) fun h' a0 g c D hS p=>?_;have r:=by
  obtain⟨hl,hit⟩:=p;have:=OD (dE i j k) g.toList 0 (by rw[q0H];exact hl) fun m v e=>by obtain⟨t,e'⟩:=hit m v (by simpa using e);exact⟨t,by rw[e',q1i]⟩
  simpa using this
 exact⟨.ref (f.heap.push { cls:=.type "range",data:=.fields #[.int i A,.int j B,.int k C] }).objs.size,_,M.laid (o:=.lst ((List.range (dE i j k)).map fun(m:Nat)=>V.int (i+m * k))) D (ba _) ⟨(by rw[q0h,q2o,sizeLine_eq];lia),g.toList,c,r,by simpa using hS⟩,rfl,q _ (M.hok.fresh (ba _))⟩
end L2
namespace L2.L3
open PySem PySem.Spec PyProof.Rows
def Ba(t:dG):DT:=fun U Q=>t U fun f d=>∃i j k:Int,f=[.int i,.int j,.int k]/\((0<=i/\i<=2 ^ 20)/\(0<=j/\j<=2 ^ 20)/\(0<k/\k<=2 ^ 20))/\Q (.list ((List.range (dE i j k)).map fun(m:Nat)=>.int (i+m * k))) d
theorem OF{pos:Pos}{p1:Pos}(E:X.calm=true)(r:Gl X "list")(s:X.mg "list" = none)(t:Gl X "range")(u:X.mg "range" = none)(w:DA X F [a,b,c] tA)
  (G:autoParam (starEach [.Call (.Name "range" p2) [a,b,c] [] pos2] X.env=[(false,eval (.Call (.Name "range" p2) [a,b,c] [] pos2) X.env)]) Zq._auto_1)
  (hs:autoParam (starEach [a,b,c] X.env=(false,eval a X.env)::starEach [b,c] X.env) Zq._auto_1) (A:autoParam ((backTo pos2 (starEach [b,c] X.env)).any (·.1)=false) Zq._auto_1) :
  DE X F (.Call (.Name "list" p1) [.Call (.Name "range" p2) [a,b,c] [] pos2] [] pos) (Ba tA):=
 ⟨fun _ _ _ k q=>w.mn _ _ _ (fun _ _ f=>by obtain⟨x,y,z,e,h1,q⟩:=f;exact⟨x,y,z,e,h1,k _ _ q⟩) q,(OE E r s t u w.pa G hs A).imp fun Y H Q g=>by obtain⟨U,O,st,q⟩:=g;exact 
  ⟨U,O,st,w.mn _ _ _ (fun ds U1 h vs H1 I l J L=>by
   obtain⟨i,j,k,e,⟨h0,h1,h2⟩,M⟩:=h;subst e;obtain⟨x,y,z,rfl,N,R,S⟩:=oZ L;refine⟨i,j,k,by rw[N.int_inv,R.int_inv,S.int_inv],h0,h1,h2,fun p o=>M _ _ I (l.grow (bS o)) (J.trans (.same (bS o))) (jz o (l.nofree p o) (vP (by simp) fun n v d B C=>?_))⟩;rw[q0y]at B C;obtain⟨m,T,Z⟩:=q0p.mp B;obtain⟨m',D,e6⟩:=q0p.mp C;rw[T]at D;cases D;subst Z e6;exact .int _) q⟩⟩
def vR:D2:=fun x y Q=>∃c k,x=.list c/\y=.int k/\(-(2 ^ 63)<=k/\k<2 ^ 63/\c.length * k.toNat<=sizeLine)/\Q (.list (List.replicate k.toNat c).flatten)
theorem Bb(r:aG H c d):∀k,aG H (List.replicate k c).flatten (List.replicate k d).flatten
 |0=>.nil
 |k+1=>by rw[q0D,q0D,q0g,q0g];exact r.append (Bb r k)
theorem OG:fV zH vR where
 mn:=fun _ _ _ _ k zq1a=>by obtain⟨ds,n,e1,e2,e3,q⟩:=zq1a;exact⟨ds,n,e1,e2,e3,k _ q⟩
 ok:=fun O H u v x y Q hO h1 h2 zq2a=>by obtain⟨ds,k,e1,e2,⟨e3,e4,e5⟩,q⟩:=zq2a;subst e1 e2;obtain⟨a,xs,rfl,ha,hd⟩:=h1.lst_inv;refine⟨a,k,xs,rfl,h2.int_inv,(cK ha).1,e3,e4,by rw[hd.length];exact e5,fun p hp=>q _ _ (bS hp) (jz hp (hO p hp) (Bb hd _))⟩
theorem OH(c:DE X F a ta)(d:DE X F b tb):DE X F (.BinOp a .Mult b pos) (dD vR ta tb):=mi zI OG c d
end L2.L3
namespace L2
open PySem PySem.Spec PyProof.Rows
def Bc:List V->Hp->VK->Prop:=fun c H Q=>∃(l:Addr) (b:List Int),c=[.ref l]/\H l=some (.lst (b.map V.int))/\b≠[]/\∀M,M∈b->(∀a,a∈b->a<=M)->Q (.int M) H
theorem OI(J:X.calm=true):ie X (.builtin "max") Bc:=by
 intro y s Y H Z us Q I r h;obtain⟨l,ns,rfl,M,f,q⟩:=h;obtain⟨u,rfl,ru⟩:=vals1 r;cases ru;obtain⟨z,d,n,B,e⟩:=I.hok _ _ M;have L:s.heap.IsList l d.toArray:=⟨_,e,rfl,_,rfl⟩
 have c:=bm e;have len:=B.length;rw[q0h]at len;have N:=q1n.mpr f;have at_:∀(i:Nat) (v:Value),d.toArray[i]? = some v->∃t,v=.int (ns.getD i 0) t:=by
  intro i v O;have C:=by simpa using O
  have c:i<ns.length:=by rw[len];exact(q0a.mp C).1
  obtain⟨w,D,g⟩:=B.get (by rw[q0y,q0c c];rfl);rw[C]at D;cases D;cases g;rename_i k m;refine⟨k,m.trans ?_⟩
  congr 1
  simp[c]
 refine call_max_walk (wpAny_pyIter_list L ?_);refine⟨s.heap.objs.size,_,_,_,_,_,_,rfl,Walks.list (show X.A.in1.handled=none from I.ok.hd J) s.heap.objs.size l (q0t c) d.toArray,⟨⟨_,Heap.get?_push_size _ rfl,rfl,rfl⟩,L.push _⟩,?_,?_,CmpOf.ints_gt (fun i=>ns.getD i 0) at_,fun v h' tk E R=>?_⟩
 .intro b p;rcases q0b.mp p with rfl |p
  .show _<(s.heap.push _).objs.size;rw[Heap.size_push];exact q05 _
  .rw[q0i.mp p];rw[Heap.size_push];exact q1w c
 .rw[q0m,<-len];exact N
 .rw[q0m,<-len]at E;obtain⟨t,rfl⟩:=at_ _ _ E;obtain⟨h1,h2⟩:=argBest_gt (fun i=>ns.getD i 0) (ns.length - 1);refine⟨.int _,H,I.kept fun b o G=>R b o (fun S=>absurd (bm G) (by rw[q0i.mp S];exact q0C _)) (aW _ G),⟨_,rfl⟩,q _ ?_ fun a T=>?_⟩
  .rw[PySem.getD_at (by lia)];exact q0L _
  .obtain⟨j,U,rfl⟩:=List.getElem_of_mem T;have:=h2 j (by lia);simp only[PySem.getD_at U]at this;exact this
end L2
namespace L2.L3
open PySem PySem.Spec PyProof.Rows
def Be:DN:=fun c Q=>∃b:List Int,c=[.list (b.map .int)]/\b≠[]/\∀M,M∈b->(∀a,a∈b->a<=M)->Q (.int M)
theorem OJ:iY Bc Be where
 mn:=fun _ _ _ k zq1a=>by obtain⟨bs,e,h,q⟩:=zq1a;exact⟨bs,e,h,fun M h1 h2=>k _ (q M h1 h2)⟩
 ok:=fun O H vs xs Q hO hd zq2a=>by obtain⟨ns,e,h,q⟩:=zq2a;subst e;obtain⟨x,rfl,h1⟩:=gx hd;obtain⟨a,ys,rfl,ha,hy⟩:=h1.lst_inv;exact⟨a,ns,rfl,by rw[(cK ha).1,AZ hy],h,fun M h1 h2=>q M h1 h2 _ H (fun _ _ h=>h) (.int _)⟩
def OK:dL:=fun D U=>D.bk U
theorem OL:DS X F (.Break pos) OK:=IZ.imp fun D Y H a=>by obtain⟨U,O,b,st,q,f⟩:=a;exact f.bk Y H U O st .refl q
set_option genInjectivity true in
inductive gy (α:Type) where
 |ok (a:α) (U:aj) |ex (c:Str) (U:aj) |bad
@[simp]noncomputable def gy.bind{α β:Type}(o:gy α)(k:α->aj->gy β):gy β:=match o with
 |.ok a U=>k a U
 |.ex c U=>.ex c U
 |.bad=>.bad
@[simp]noncomputable def lift{α:Type}(o:Option α)(U:aj):gy α:=match o with
 |some a=>.ok a U
 |none=>.bad
abbrev XM(α:Type):=aj->gy α
def wp{α:Type}(E:Str->aj->Prop)(m:XM α):aj->(α->aj->Prop)->Prop:=fun U Q=>match m U with
 |.ok a b=>Q a b
 |.ex c b=>E c b
 |.bad=>False
theorem aC:∀U (Q e:α->aj->Prop),(∀d b,Q d b->e d b)->wp E m U Q->wp E m U e:=fun U Q e k q=>by
 unfold wp at q ⊢;generalize m U=o at q ⊢;cases o with
 |ok a b=>exact k _ _ q
 |ex c b=>exact q
 |bad=>exact q
theorem bK{k:α->XM β}(h:wp E (fun U=>(m U).bind k) U Q):wp E m U fun a b=>wp E (k a) b Q:=by
 unfold wp at h ⊢;simp only at h;generalize m U=o at h ⊢;cases o with
 |ok a b=>exact h
 |ex c b=>exact h
 |bad=>exact h
theorem cV{o:Option α}(h:wp E (lift o) U Q):∃a,o=some a/\Q a U:=by
 cases o with
 |some a=>exact⟨a,rfl,h⟩
 |none=>exact h.elim
theorem DE.imp(h:DE X F e t)(f:Mn t')(k:∀U Q,t' U Q->t U Q):DE X F e t':=⟨f,h.pe.imp fun Y H Q d=>by obtain⟨U,O,st,q⟩:=d;exact⟨U,O,st,k U _ q⟩⟩
theorem DO.imp(h:DO X F e t)(f:Aq t')(k:∀U Q,t' U Q->t U Q):DO X F e t':=⟨f,h.pe.imp fun Y H Q d=>by obtain⟨U,O,st,q⟩:=d;exact⟨U,O,st,k U _ q⟩⟩
theorem DA.imp(h:DA X F es t)(f:rG t')(k:∀U Q,t' U Q->t U Q):DA X F es t':=⟨f,h.pa.imp fun Y H Q d=>by obtain⟨U,O,st,q⟩:=d;exact⟨U,O,st,k U _ q⟩⟩
theorem DX.imp(h:DX X F es t)(f:At t')(k:∀U Q,t' U Q->t U Q):DX X F es t':=⟨f,h.pa.imp fun Y H Q d=>by obtain⟨U,O,st,q⟩:=d;exact⟨U,O,st,k U _ q⟩⟩
theorem DB.imp(h:DB X F e t)(f:iX t')(k:∀U Q,t' U Q->t U Q):DB X F e t':=⟨f,h.pt.imp fun Y H Q d=>by obtain⟨U,O,st,q⟩:=d;exact⟨U,O,st,k U _ q⟩⟩
theorem DW.imp(h:DW X F e t)(f:iX t')(k:∀U Q,t' U Q->t U Q):DW X F e t':=⟨f,h.pw.imp fun Y H Q d=>by obtain⟨U,O,st,q⟩:=d;exact⟨U,O,st,k U _ q⟩⟩
theorem ik.imp(h:ik X F d t)(k:∀D U,t' D U->t D U):ik X F d t':=PSs.imp h fun D Y H g=>by obtain⟨U,O,i,st,q,f⟩:=g;exact⟨U,O,i,st,k i U q,f⟩
theorem DS.imp(h:DS X F s t)(k:∀D U,t' D U->t D U):DS X F s t':=PS.imp h fun D Y H d=>by obtain⟨U,O,g,st,q,f⟩:=d;exact⟨U,O,g,st,k g U q,f⟩
abbrev FE(X:Cx)(F:Fx)(E:Str->aj->Prop)(e:Expr)(m:XM PyData):Prop:=DE X F e (wp E m)
abbrev FO(X:Cx)(F:Fx)(E:Str->aj->Prop)(e:Expr)(m:XM aa):Prop:=DO X F e (wp E m)
abbrev FB(X:Cx)(F:Fx)(E:Str->aj->Prop)(e:Expr)(m:XM Bool):Prop:=DB X F e (wp E m)
abbrev FW(X:Cx)(F:Fx)(E:Str->aj->Prop)(e:Expr)(m:XM Bool):Prop:=DW X F e (wp E m)
abbrev FA(X:Cx)(F:Fx)(E:Str->aj->Prop)(es:List Expr)(m:XM (List PyData)):Prop:=DA X F es (wp E m)
abbrev FX(X:Cx)(F:Fx)(E:Str->aj->Prop)(es:List Expr)(m:XM (List AX)):Prop:=DX X F es (wp E m)
abbrev FI(X:Cx)(F:Fx)(E:Str->aj->Prop)(d iter:Expr)(m:XM (List PyData)):Prop:=DI X F d iter (wp E m)
abbrev GM:=PyData->aj->Option aj
def fM(g:GM):fJ:=fun d U Q=>match g d U with
 |some f=>Q f
 |none=>False
abbrev FG(X:Cx)(F:Fx)(d:Expr)(g:GM):Prop:=DG X F d (fM g)
abbrev FS(X:Cx)(F:Fx)(E:Str->aj->Prop)(s:Stmt)(m:SM):Prop:=DS X F s (wpS E m)
abbrev jB(X:Cx)(F:Fx)(E:Str->aj->Prop)(s:List Stmt)(m:SM):Prop:=ik X F s (wpS E m)
@[simp]noncomputable def xC(d:PyData):XM PyData:=fun U=>.ok d U
@[simp]noncomputable def xV(i:Nat):XM PyData:=fun U=>match U[i]? with
 |some (some (.dat d))=>.ok d U
 |some (some (.own false (.l ds)))=>.ok (.list ds) (U.set i (some (.dat (.list ds))))
 |_=>.bad
theorem ae(h:DE X F e (dC d)):FE X F E e (xC d):=h.imp aC fun _ _ q=>q
theorem OM(h:DE X F e (dV i)):FE X F E e (xV i):=h.imp aC fun U Q q=>by
 unfold wp xV at q;unfold dV;cases h:U[i]? with
 |none=>rw[h]at q;exact q.elim
 |some o=>
  rw[h]at q;cases o with
  |none=>exact q.elim
  |some c=>
   cases c with
   |dat d=>exact .inl ⟨d,rfl,q⟩
   |scr n=>exact q.elim
   |exc n=>exact q.elim
   |vw n=>exact q.elim
   |own io f=>
    cases io with
    |true=>exact q.elim
    |false=>
     cases f with
     |l ds=>exact .inr ⟨ds,rfl,q⟩
     |m _ _=>exact q.elim
     |o _ _=>exact q.elim
     |sd _=>exact q.elim
     |ll _=>exact q.elim
     |pr _ _ _=>exact q.elim
     |oo _ _=>exact q.elim
@[simp] def ab(g:PyData->PyData->Option PyData)(a b:XM PyData):XM PyData:=fun U=>(a U).bind fun x d=>(b d).bind fun y=>lift (g x y)
def F2(f:D2)(g:PyData->PyData->Option PyData):Prop:=∀x y d Q,g x y=some d->Q d->f x y Q
theorem gP(k:F2 f g)(h:DE X F e (dD f (wp E i) (wp E j))):FE X F E e (ab g i j):=h.imp aC fun U Q q=>by refine aC _ _ _ (fun x p l=>?_) (bK q);refine aC _ _ _ (fun y r m=>?_) (bK l);obtain⟨d,n,o⟩:=cV m;exact k x y d _ n o
@[simp] def aT(m:XM PyData):XM Bool:=fun U=>(m U).bind fun d=>lift (match d with |.bool b=>some b |_=>none)
theorem Bf(q:wp E (aT m) U Q):gL (wp E m) U Q:=aC _ _ _ (fun d i g=>by
 obtain⟨b,f,h⟩:=cV g;cases d with
 |bool j=>cases f;exact⟨_,rfl,h⟩
 |_=>cases f) (bK q)
theorem mx(k:F2 f g)(h:DB X F e (gL (dD f (wp E i) (wp E j)))):FB X F E e (aT (ab g i j)):=h.imp aC fun U Q q=>by refine aC _ _ _ (fun x r m=>?_) (bK (Bf q));refine aC _ _ _ (fun y s n=>?_) (bK m);obtain⟨d,o,p⟩:=cV n;exact k x y d _ o p
theorem eg(h:DB X F e (gL (wp E m))):FB X F E e (aT m):=h.imp aC fun U Q q=>Bf q
@[simp]noncomputable def gI(g:Int->Int->PyData):PyData->PyData->Option PyData:=fun x y=>match x,y with
 |.int i,.int j=>some (g i j)
 |_,_=>none
@[simp]noncomputable def pd(C:Int->Int->Bool)(g:Int->Int->PyData):PyData->PyData->Option PyData:=fun x y=>match x,y with
 |.int i,.int j=>if C i j=true then some (g i j) else none
 |_,_=>none
theorem lb:F2 (fI (fun _ _=>True) g) (gI g):=fun x y d Q e q=>by
 unfold gI at e;split at e
 .cases e;exact⟨_,_,rfl,rfl,trivial,q⟩
 .cases e
theorem vS(h:∀i j,C i j=true->P i j):F2 (fI P g) (pd C g):=fun x y d Q e q=>by
 unfold pd at e;split at e
 .split at e
  .rename_i f;cases e;exact⟨_,_,rfl,rfl,h _ _ f,q⟩
  .cases e
 .cases e
noncomputable def lc(i j:Int):Bool:=(decide (-(2 ^ 64)<i)&&decide (i<2 ^ 64))||(decide (-(2 ^ 64)<j)&&decide (j<2 ^ 64))
noncomputable def nv(_ j:Int):Bool:=decide (0<j)&&decide (j<1073741824)
noncomputable def ny(_ j:Int):Bool:=decide (0<j)
theorem ON(i j)(h:lc i j=true):oN i j:=by unfold lc at h;simp only[q1K,q0Q,decide_eq_true_eq]at h;exact h
theorem OO(i j)(h:nv i j=true):uR i j:=by unfold nv at h;simp only[q0Q,decide_eq_true_eq]at h;exact h
theorem OP(i j)(h:ny i j=true):0<j:=by unfold ny at h;simpa using h
noncomputable def aB(neg:Bool):PyData->PyData->Option PyData:=fun x y=>if (SeqAt.shaped x&&SeqAt.shaped y)=true then some (.bool (PyData.eqv x y != neg)) else none
theorem vT:F2 (oU neg) (aB neg):=fun x y d Q e q=>by
 unfold aB at e;split at e
 .rename_i h;cases e;exact⟨(Bool.and_eq_true_iff.mp h).1,(Bool.and_eq_true_iff.mp h).2,q⟩
 .cases e
@[simp] def my:PyData->PyData->Option PyData:=fun x y=>match y with |.none=>some (.bool (isNone x)) |_=>none
@[simp] def jC:PyData->PyData->Option PyData:=fun x y=>match y with |.none=>some (.bool (!isNone x)) |_=>none
theorem Bg:F2 rF my:=fun x y d Q e q=>by
 unfold my at e;split at e
 .cases e;exact⟨rfl,q⟩
 .cases e
theorem Bh:F2 vt jC:=fun x y d Q e q=>by
 unfold jC at e;split at e
 .cases e;exact⟨rfl,q⟩
 .cases e
@[simp]noncomputable def jD:PyData->PyData->Option PyData:=fun x y=>match x,y with
 |.list ds,.list es=>if ds.length+es.length<=sizeLine then some (.list (ds++es)) else none
 |_,_=>none
theorem OQ:F2 vv jD:=fun x y d Q e q=>by
 unfold jD at e;split at e
 .split at e
  .rename_i h;cases e;exact⟨_,_,rfl,rfl,h,q⟩
  .cases e
 .cases e
@[simp]noncomputable def gQ:PyData->PyData->Option PyData:=fun x y=>match x,y with
 |.list ds,.int k=>if (decide (-(2 ^ 63)<=k)&&decide (k<2 ^ 63)&&decide (ds.length * k.toNat<=sizeLine))=true then some (.list (List.replicate k.toNat ds).flatten) else none
 |_,_=>none
theorem OR:F2 vR gQ:=fun x y d Q e q=>by
 unfold gQ at e;split at e
 .split at e
  .rename_i h;cases e;simp only[q0Q,decide_eq_true_eq]at h;exact⟨_,_,rfl,rfl,⟨h.1.1,h.1.2,h.2⟩,q⟩
  .cases e
 .cases e
@[simp] def kj(a:XM PyData):XM PyData:=fun U=>(a U).bind fun d=>lift (match d with |.int i=>some (.int (-i)) |_=>none)
theorem rM(h:FE X F E a f):FE X F E (.UnaryOp .USub a pos) (kj f):=(Mc h).imp aC fun U Q q=>aC _ _ _ (fun d l j=>by
 obtain⟨y,g,k⟩:=cV j;cases d with
 |int i=>cases g;exact⟨i,rfl,k⟩
 |_=>cases g) (bK q)
@[simp] def Bi(a:XM PyData):XM PyData:=fun U=>(a U).bind fun d=>lift (match d with |.bool b=>some (.bool (!b)) |_=>none)
theorem OS(h:FE X F E a f):FE X F E (.UnaryOp .Not a pos) (Bi f):=(Me h).imp aC fun U Q q=>aC _ _ _ (fun d k i=>by
 obtain⟨y,g,j⟩:=cV i;cases d with
 |bool b=>cases g;exact⟨b,rfl,j⟩
 |_=>cases g) (bK q)
@[simp]noncomputable def Bj(b:XM PyData)(d:PyData):XM PyData:=fun f=>match d with
 |.bool true=>b f
 |.bool false=>.ok (.bool false) f
 |_=>.bad
@[simp]noncomputable def Bk(b:XM PyData)(d:PyData):XM PyData:=fun f=>match d with
 |.bool true=>.ok (.bool true) f
 |.bool false=>b f
 |_=>.bad
@[simp] def ft(a b:XM PyData):XM PyData:=fun U=>(a U).bind (Bj b)
@[simp] def vU(a b:XM PyData):XM PyData:=fun U=>(a U).bind (Bk b)
theorem fN(i:FE X F E a h)(j:FE X F E (.BoolOp .And (b::rest) pos) f):FE X F E (.BoolOp .And (a::b::rest) pos) (ft h f):=(Mi i j).imp aC fun U Q q=>aC _ _ _ (fun d l g=>by
 cases d with
 |bool b=>cases b with
  |true=>exact⟨true,rfl,fo g⟩
  |false=>exact⟨false,rfl,fm g⟩
 |_=>exact g.elim) (bK q)
theorem Bl(i:FE X F E a h)(j:FE X F E (.BoolOp .Or (b::rest) pos) f):FE X F E (.BoolOp .Or (a::b::rest) pos) (vU h f):=(Mj i j).imp aC fun U Q q=>aC _ _ _ (fun d l g=>by
 cases d with
 |bool b=>cases b with
  |true=>exact⟨true,rfl,fo g⟩
  |false=>exact⟨false,rfl,fm g⟩
 |_=>exact g.elim) (bK q)
theorem gR(h:FE X F E a d):FE X F E (.BoolOp op [a] pos) d:=Mh h
@[simp] def vV(p f:Int->Int->Bool)(a b c:XM PyData):XM PyData:=fun U=>(a U).bind fun x g=>(b g).bind fun y d=>match x,y with
 |.int i,.int j=>if p i j=true then(c d).bind (fun z=>lift (match z with |.int k=>some (.bool (f j k)) |_=>none)) else .ok (.bool false) d
 |_,_=>.bad
theorem OT(h:DE X F e (vA p l (wp E o) (wp E r) (wp E n))):FE X F E e (vV p l o r n):=h.imp aC fun U Q q=>by
 refine aC _ _ _ (fun x w t=>?_) (bK q);refine aC _ _ _ (fun y A f=>?_) (bK t);cases x with
 |int i=>cases y with
  |int j=>
   refine⟨i,j,rfl,rfl,?_⟩
   by_cases g:p i j=true
   .simp only[if_pos g]at f;rw[if_pos g];refine aC _ _ _ (fun z B u=>?_) (bK f);obtain⟨d,s,v⟩:=cV u;cases z with
    |int k=>cases s;exact⟨k,rfl,v⟩
    |_=>cases s
   .simp only[if_neg g]at f;rw[if_neg g];exact f
  |_=>exact f.elim
 |_=>exact f.elim
@[simp] def gz(a:XM Bool):XM Bool:=fun U=>(a U).bind fun b d=>.ok (!b) d
theorem gS(h:FB X F E a f):FB X F E (.UnaryOp .Not a pos) (gz f):=(Mo h).imp aC fun U Q q=>aC _ _ _ (fun d g i=>i) (bK q)
@[simp] def nz(a b:XM Bool):XM Bool:=fun U=>(a U).bind fun x d=>if x=true then b d else .ok false d
@[simp] def jc(a b:XM Bool):XM Bool:=fun U=>(a U).bind fun x d=>if x=true then .ok true d else b d
theorem vW(h:FB X F E a d):FW X F E (.BoolOp .And [a] pos) d:=Mr h
theorem nA(h:FB X F E a d):FW X F E (.BoolOp .Or [a] pos) d:=Ms h
theorem vX(j:FB X F E a h)(l:FW X F E (.BoolOp .And (b::rest) pos) f):FW X F E (.BoolOp .And (a::b::rest) pos) (nz h f):=(Mt j l).imp aC fun U Q q=>aC _ _ _ (fun d g i=>by
 cases d with
 |true=>exact fo i
 |false=>exact fm i) (bK q)
theorem mz(j:FB X F E a h)(l:FW X F E (.BoolOp .Or (b::rest) pos) f):FW X F E (.BoolOp .Or (a::b::rest) pos) (jc h f):=(Mu j l).imp aC fun U Q q=>aC _ _ _ (fun d g i=>by
 cases d with
 |true=>exact fo i
 |false=>exact fm i) (bK q)
theorem kl(h:FW X F E e d):FB X F E e d:=h.db
@[simp] def nB{α:Type}(t:XM Bool)(a b:XM α):XM α:=fun U=>(t U).bind fun x d=>if x=true then a d else b d
theorem pf{mt}(j:FB X F E c mt)(l:FE X F E a f)(m:FE X F E b g):FE X F E (.IfExp c a b pos) (nB mt f g):=(Mx j l m).imp aC fun U Q q=>aC _ _ _ (fun d h i=>by
 cases d with
 |true=>exact fo i
 |false=>exact fm i) (bK q)
@[simp]noncomputable def aH:XM (List PyData):=fun U=>.ok [] U
@[simp] def aq(a:XM PyData)(r:XM (List PyData)):XM (List PyData):=fun U=>(a U).bind fun d f=>(r f).bind fun h g=>.ok (d::h) g
theorem bb:FA X F E [] aH:=LV.imp aC fun _ _ q=>q
theorem OU(l:FE X F E e i)(m:FA X F E es h)(p:autoParam (starEach (e::es) X.env=(false,eval e X.env)::starEach es X.env) Zq._auto_1):FA X F E (e::es) (aq i h):=(LW l m p).imp aC fun U Q q=>aC _ _ _ (fun d j n=>aC _ _ _ (fun g f o=>o) (bK n)) (bK q)
@[simp] def dH(a:XM (List PyData)):XM PyData:=fun U=>(a U).bind fun d=>lift (if d.length<=sizeLine then some (.tuple d) else none)
@[simp] def dI(a:XM (List PyData)):XM PyData:=fun U=>(a U).bind fun d=>lift (if d.length<=sizeLine then some (.list d) else none)
theorem et(h:FA X F E es g):FE X F E (.Tuple es i pos) (dH g):=(LZ h).imp aC fun U Q q=>aC _ _ _ (fun m l j=>by
 obtain⟨d,f,k⟩:=cV j;split at f
 .rename_i h;cases f;exact⟨h,k⟩
 .cases f) (bK q)
theorem gA(h:FA X F E es g):FE X F E (.List es pos) (dI g):=(Ma h).imp aC fun U Q q=>aC _ _ _ (fun l k i=>by
 obtain⟨d,f,j⟩:=cV i;split at f
 .rename_i h;cases f;exact⟨h,j⟩
 .cases f) (bK q)
@[simp] def cA(g:List PyData->Option PyData)(a:XM (List PyData)):XM PyData:=fun U=>(a U).bind fun d=>lift (g d)
def FN(f:DN)(g:List PyData->Option PyData):Prop:=∀h d Q,g h=some d->Q d->f h Q
theorem fu(j:FN f g)(h:DE X F e (oV f (wp E i))):FE X F E e (cA g i):=h.imp aC fun U Q q=>aC _ _ _ (fun n o k=>by
 obtain⟨d,l,m⟩:=cV k;exact j n d _ l m) (bK q)
@[simp]noncomputable def dq:List PyData->Option PyData:=fun d=>match d with
 |[.list ds]=>some (.int ds.length)
 |[.tuple ds]=>some (.int ds.length)
 |_=>none
theorem km:FN AF dq:=fun f d Q e q=>by
 unfold dq at e;split at e
 .cases e;exact⟨_,.inl rfl,q⟩
 .cases e;exact⟨_,.inr rfl,q⟩
 .cases e
@[simp]noncomputable def ph:List PyData->Option PyData:=fun d=>match d with
 |[.int i,.int j]=>some (.int (max i j))
 |_=>none
theorem vY:FN AG ph:=fun f d Q e q=>by
 unfold ph at e;split at e
 .cases e;exact⟨_,_,rfl,q⟩
 .cases e
@[simp]noncomputable def vZ:List PyData->Option PyData:=fun d=>match d with
 |[.int i]=>some (.int i)
 |[.bool b]=>some (.int (if b then 1 else 0))
 |_=>none
theorem OV:FN AH vZ:=fun f d Q e q=>by
 unfold vZ at e;split at e
 .cases e;exact .inl ⟨_,rfl,q⟩
 .cases e;exact .inr ⟨_,rfl,q⟩
 .cases e
@[simp]noncomputable def rN:List PyData->Option PyData:=fun d=>match d with
 |[.list ds]=>some (.tuple ds)
 |[.tuple ds]=>some (.tuple ds)
 |_=>none
theorem Bm:FN AI rN:=fun f d Q e q=>by
 unfold rN at e;split at e
 .cases e;exact .inl ⟨_,rfl,q⟩
 .cases e;exact .inr ⟨_,rfl,q⟩
 .cases e
noncomputable def ints?:List PyData->Option (List Int)
 |[]=>some []
 |.int i::r=>(ints? r).map (i::·)
 |_::_=>none
noncomputable def bools?:List PyData->Option (List Bool)
 |[]=>some []
 |.bool i::r=>(bools? r).map (i::·)
 |_::_=>none
theorem Bn:∀{g f},ints? g=some f->g=f.map .int
 |[],_,e=>by cases e;rfl
 |d::r,f,e=>by
  cases d with
  |int i=>
   cases q:ints? r with
   |none=>simp[ints?,q]at e
   |some l=>simp[ints?,q]at e;subst e;rw[Bn q];rfl
  |_=>cases e
theorem Bo:∀{g f},bools? g=some f->g=f.map .bool
 |[],_,e=>by cases e;rfl
 |d::r,f,e=>by
  cases d with
  |bool i=>
   cases q:bools? r with
   |none=>simp[bools?,q]at e
   |some l=>simp[bools?,q]at e;subst e;rw[Bo q];rfl
  |_=>cases e
theorem OW(d):ints? (d.map .int)=some d:=by
 induction d with
 |nil=>rfl
 |cons i r f=>simp[ints?,f]
def nC:List PyData->Option PyData:=fun d=>match d with
 |[.list ds]=>(bools? ds).map fun bs=>.bool (bs.all id)
 |_=>none
theorem OX:FN AK nC:=fun h d Q e q=>by
 unfold nC at e;split at e
 .obtain⟨bs,f,g⟩:=q0p.mp e;rw[Bo f];subst g;exact⟨bs,rfl,q⟩
 .cases e
noncomputable def wa:List Int->Option Int
 |[]=>none
 |i::r=>some (r.foldl max i)
theorem OY(r:List Int):∀i,i<=r.foldl max i/\(∀a∈r,a<=r.foldl max i)/\(r.foldl max i=i\/r.foldl max i∈r):=by
 induction r with
 |nil=>intro i;exact⟨q0U _,fun a h=>(by cases h),.inl rfl⟩
 |cons j r f=>
  intro i;obtain⟨d,h2,h3⟩:=f (max i j);refine⟨q1S (Int.le_max_left _ _) d,fun a h=>?_,?_⟩
  .rcases q0b.mp h with rfl |h
   .exact q1S (Int.le_max_right _ _) d
   .exact h2 a h
  .rcases h3 with h3 |h3
   .rw[q1H,h3];rcases Int.le_total i j with q |q
    .exact .inr (by rw[Int.max_eq_right q];exact q0f)
    .exact .inl (Int.max_eq_left q)
   .exact .inr (bt _ h3)
def nE:List PyData->Option PyData:=fun d=>match d with
 |[.list ds]=>((ints? ds).bind wa).map .int
 |_=>none
theorem OZ:∀j d (Q:PyData->Prop),nE j=some d->Q d->∃f,j=[.list (f.map .int)]/\f≠[]/\∃M,d=.int M/\M∈f/\(∀a∈f,a<=M):=fun o d Q e q=>by
 unfold nE at e;split at e
 .obtain⟨M,k,l⟩:=q0p.mp e;obtain⟨f,m,g⟩:=q1j.mp k;cases f with
  |nil=>cases g
  |cons i r=>
   cases g;obtain⟨n,h2,h3⟩:=OY r i;refine⟨i::r,by rw[Bn m],by simp,_,l.symm,?_,fun a h=>?_⟩
   .rcases h3 with h3 |h3
    .rw[h3];exact q0f
    .exact bt _ h3
   .rcases q0b.mp h with rfl |h
    .exact n
    .exact h2 a h
 .cases e
theorem Pa:FN Be nE:=fun k d Q e q=>by obtain⟨l,h1,h2,M,h3,g,h⟩:=OZ k d Q e q;refine⟨l,h1,h2,fun f i j=>?_⟩;have:=q2K (h f i) (j M g);rw[this,<-h3];exact q
@[simp]noncomputable def rO(i:Nat):XM PyData:=fun U=>match U[i]? with
 |some (some (.scr ns))=>if ns.length<=63 then .ok (.int ns.length) U else .bad
 |_=>.bad
@[simp] def rP(i:Nat)(a:XM PyData):XM PyData:=fun U=>match U[i]? with
 |some (some (.scr ns))=>(a U).bind fun d=>lift (match d with |.int k=>(bL ns k).map .int |_=>none)
 |_=>.bad
@[simp]noncomputable def wb(i:Nat):XM Bool:=fun U=>match U[i]? with
 |some (some (.scr ns))=>.ok (decide (ns=[])) U
 |_=>.bad
theorem Bp(h:DE X F e (AO i)):FE X F E e (rO i):=h.imp aC fun U Q q=>by
 unfold wp rO at q;cases h:U[i]? with
 |none=>rw[h]at q;exact q.elim
 |some o=>
  rw[h]at q;cases o with
  |none=>exact q.elim
  |some c=>
   cases c with
   |scr ns=>
    simp only at q
    by_cases d:ns.length<=63
    .rw[if_pos d]at q;exact⟨ns,h,fun _=>q⟩
    .rw[if_neg d]at q;exact q.elim
   |_=>exact q.elim
theorem Bq(h:DE X F e (AR i (wp E f))):FE X F E e (rP i f):=h.imp aC fun U Q q=>by
 unfold wp rP at q;cases h:U[i]? with
 |none=>rw[h]at q;exact q.elim
 |some o=>
  rw[h]at q;cases o with
  |none=>exact q.elim
  |some c=>
   cases c with
   |scr ns=>
    refine⟨ns,h,aC _ _ _ (fun d s j=>?_) (bK q)⟩;obtain⟨y,g,l⟩:=cV j;cases d with
    |int k=>obtain⟨n,p,r⟩:=q0p.mp g;subst r;exact⟨k,n,rfl,p,l⟩
    |_=>cases g
   |_=>exact q.elim
theorem Pb(h:DB X F e (AV i)):FB X F E e (wb i):=h.imp aC fun U Q q=>by
 unfold wp wb at q;cases h:U[i]? with
 |none=>rw[h]at q;exact q.elim
 |some o=>
  rw[h]at q;cases o with
  |none=>exact q.elim
  |some c=>
   cases c with
   |scr ns=>exact⟨ns,h,q⟩
   |_=>exact q.elim
@[simp]noncomputable def al(i:Nat):GM:=fun d U=>some (U.set i (some (.dat d)))
theorem Pc(h:DG X F e (gN i)):FG X F e (al i):=⟨fun d U Q g k q=>k _ q,h.pg.imp fun v Y H Q f=>by obtain⟨U,O,d,st,hd,q⟩:=f;exact⟨U,O,d,st,hd,q⟩⟩
abbrev kn:=List PyData->aj->Option aj
def nF(g:kn):kX:=fun d U Q=>match g d U with
 |some f=>Q f
 |none=>False
abbrev rQ(X:Cx)(F:Fx)(d:List Expr)(g:kn):Prop:=oX X F d (nF g)
@[simp]noncomputable def cx:kn:=fun d U=>match d with |[]=>some U |_=>none
@[simp] def aR(t:GM)(u:kn):kn:=fun g U=>match g with |d::r=>(t d U).bind fun f=>u r f |[]=>none
theorem Pd:∀d U  Q f,(∀h,Q h->f h)->fM g d U Q->fM g d U f:=fun d U Q f k q=>by
 unfold fM at q ⊢;generalize g d U=o at q ⊢;cases o with
 |some h=>exact k _ q
 |none=>exact q
theorem Br:∀d U  Q f,(∀h,Q h->f h)->nF g d U Q->nF g d U f:=fun d U Q f k q=>by
 unfold nF at q ⊢;generalize g d U=o at q ⊢;cases o with
 |some h=>exact k _ q
 |none=>exact q
theorem jE:rQ X F [] cx:=⟨Br,MT.pg.imp fun v Y H Q f=>by
 obtain⟨U,O,d,st,hd,q⟩:=f;exact⟨U,O,d,st,hd,by
 cases d with
 |nil=>exact⟨rfl,q⟩
 |cons _ _=>exact q.elim⟩⟩
theorem dN(j:FG X F e g)(k:rQ X F es f)(l:autoParam ((assignEach (e::es) X.env).map (·.2)=assign e X.env::(assignEach es X.env).map (·.2)) Zq._auto_1):rQ X F (e::es) (aR g f):=⟨Br,(MU j k l).pg.imp fun v Y H Q i=>by
 obtain⟨U,O,d,st,hd,q⟩:=i;exact⟨U,O,d,st,hd,by
 unfold nF aR at q;cases d with
 |nil=>exact q.elim
 |cons d r=>
  refine⟨d,r,rfl,?_⟩;unfold fM;simp only at q;cases h:g d U with
  |none=>rw[h]at q;exact q
  |some m=>rw[h]at q;exact q⟩⟩
@[simp]noncomputable def cy(n:Nat)(t:kn):GM:=fun d U=>match d with |.tuple ds=>if ds.length=n then t ds U else none |_=>none
theorem jF{pos:Pos}{k }(j:X.calm=true)(h:rQ X F es i)(l:autoParam ((assignEach es X.env).length=n) Zq._auto_1)(f:autoParam ((assignEach es X.env).findIdx? (·.1)=none) Zq._auto_1):FG X F (.Tuple es k pos) (cy n i):=⟨Pd,(MW j h l f).pg.imp fun v Y H Q m=>by
 obtain⟨U,O,d,st,hd,q⟩:=m;exact⟨U,O,d,st,hd,by
 unfold fM cy at q;cases d with
 |tuple ds=>
  simp only at q
  by_cases g:ds.length=n
  .rw[if_pos g]at q;exact⟨ds,rfl,g,q⟩
  .rw[if_neg g]at q;exact q.elim
 |_=>exact q.elim⟩⟩
@[simp]noncomputable def aK:XM (List AX):=fun U=>.ok [] U
@[simp] def ak(a:XM PyData)(r:XM (List AX)):XM (List AX):=fun U=>(a U).bind fun d f=>(r f).bind fun as g=>.ok (.d d::as) g
@[simp] def bv(j:Nat)(r:XM (List AX)):XM (List AX):=fun U=>match U[j]? with
 |some (some _)=>(r U).bind fun as d=>.ok (.s j::as) d
 |_=>.bad
theorem aM:FX X F E [] aK:=Nv.imp aC fun _ _ q=>q
theorem Pe(j:FE X F E e g)(l:FX X F E es h)(p:autoParam (starEach (e::es) X.env=(false,eval e X.env)::starEach es X.env) Zq._auto_1):FX X F E (e::es) (ak g h):=(Nw j l p).imp aC fun U Q q=>aC _ _ _ (fun d i n=>aC _ _ _ (fun r f o=>o) (bK n)) (bK q)
theorem Pf(g:PE X (.Name x p) (bZ j))(i:FX X F E es d)(n:autoParam (starEach (.Name x p::es) X.env=(false,eval (.Name x p) X.env)::starEach es X.env) Zq._auto_1):FX X F E (.Name x p::es) (bv j d):=(Nx g i n).imp aC fun U Q q=>by
 unfold wp bv at q;cases h:U[j]? with
 |none=>rw[h]at q;exact q.elim
 |some o=>
  rw[h]at q;cases o with
  |none=>exact q.elim
  |some c=>exact⟨⟨c,h⟩,aC _ _ _ (fun as f l=>l) (bK (q))⟩
@[simp] def jG(f:FM)(as:List AX):XM aa:=fun U=>match iH U as with
 |some (h,g)=>(match f h with
  |.rt c d=>.ok c (cM g d (gO g U))
  |.ex c d=>.ex c (cM g d (gO g U))
  |.bad=>.bad)
 |none=>.bad
@[simp] def aO(f:FM)(a:XM (List AX)):XM aa:=fun U=>(a U).bind (jG f)
theorem Pg(h:DO X F e (Aw g E (wp E j))):FO X F E e (aO g j):=h.imp aC fun U Q q=>aC _ _ _ (fun as m d=>by
 unfold wp jG at d;unfold jb;cases l:iH m as with
 |none=>rw[l]at d;exact d
 |some p=>
  obtain⟨n,o⟩:=p;rw[l]at d;simp only at d ⊢;cases i:g n with
  |rt c f=>rw[i]at d;exact d
  |ex c f=>rw[i]at d;exact d
  |bad=>rw[i]at d;exact d) (bK q)
@[simp] def aP(a:XM aa):XM PyData:=fun U=>(a U).bind fun c=>lift (frz c)
theorem aX(h:FO X F E e d):FE X F E e (aP d):=h.de.imp aC fun U Q q=>aC _ _ _ (fun c g f=>cV f) (bK q)
@[simp]noncomputable def bM:SM:=fun U=>.nx U
@[simp]noncomputable def az(m k:SM):SM:=fun U=>match m U with
 |.nx d=>k d
 |o=>o
theorem bT:jB X F E [] bM:=MZ.imp fun _ _ q=>q
theorem gT{st:Stmt}(d:FS X F E st m)(f:jB X F E rest k):jB X F E (st::rest) (az m k):=(Na d f).imp fun D U q=>by
 show wpS E m _ U;unfold wpS az at q;unfold wpS;generalize m U=o at q ⊢;cases o with
 |nx g=>exact q
 |_=>exact q
theorem dS{st:Stmt}(h:FS X F E st m):jB X F E [st] m:=Nb h
@[simp]noncomputable def eQ{α:Type}(o:gy α)(k:α->aj->fc):fc:=match o with
 |.ok a U=>k a U
 |.ex c U=>.ex c U
 |.bad=>.bad
theorem gU{m}{k:α->SM}(q:wpS E (fun U=>eQ (m U) k) D U):wp E m U fun a d=>wpS E (k a) D d:=by
 unfold wpS eQ at q;unfold wp;simp only at q;generalize m U=o at q ⊢;cases o with
 |ok a d=>exact q
 |ex c d=>exact q
 |bad=>exact q
@[simp]noncomputable def wc(o:Option aj):fc:=match o with
 |some U=>.nx U
 |none=>.bad
@[simp] def bF(m:XM PyData)(g:GM):SM:=fun U=>eQ (m U) fun d f=>wc (g d f)
theorem Bt(q:wpS E (bF m g) D U):vC (wp E m) (fM g) D U:=aC _ _ _ (fun d h f=>by
 unfold wpS wc at f;unfold fM;simp only at f;generalize g d h=o at f ⊢;cases o with
 |some i=>exact f
 |none=>exact f) (gU q)
theorem Bu{pos:Pos}(f:X.N.Nodup)(g:X.N[i]? = some x)(h:Loc X.env.scope x)(j:FE X F E e m)(l:autoParam (swapsWith e (some (.Name x d)) pos.line X.env=pure false) Zq._auto_1)
  (k:X.fn x=true\/X.env.scope.names.lookup x=some .local:=by first |exact .inl rfl |exact .inr rfl |assumption):FS X F E (.Assign [.Name x d] e pos) (bF m (al i)):=(Nc f g h j l k).imp fun D U q=>Bt q
@[simp]noncomputable def rR(i:Nat)(c:aa):SM:=fun d=>if i<d.length then(match c with |.own true _=>.bad |c=>.nx (d.set i (some c))) else .bad
@[simp] def fW(i:Nat)(m:XM aa):SM:=fun U=>eQ (m U) (rR i)
theorem Ph{pos:Pos}(j:X.N.Nodup)(l:X.N[i]? = some x)(n:Loc X.env.scope x)(o:FO X F E e m)(s:autoParam (swapsWith e (some (.Name x g)) pos.line X.env=pure false) Zq._auto_1)
  (p:X.fn x=true\/X.env.scope.names.lookup x=some .local:=by first |exact .inl rfl |exact .inr rfl |assumption):FS X F E (.Assign [.Name x g] e pos) (fW i m):=(Nk j l n o s p).imp fun D U q=>aC _ _ _ (fun c r f=>by
 unfold wpS rR at f
 by_cases h:i<r.length
 .simp only[if_pos h]at f;cases c with
  |own io b=>cases io with
   |true=>exact f.elim
   |false=>exact⟨h,(fun _ z=>by cases z),f⟩
  |dat d=>exact⟨h,(fun _ z=>by cases z),f⟩
  |scr d=>exact⟨h,(fun _ z=>by cases z),f⟩
  |exc d=>exact⟨h,(fun _ z=>by cases z),f⟩
  |vw d=>exact⟨h,(fun _ z=>by cases z),f⟩
 .simp only[if_neg h]at f) (gU q)
@[simp] def bA(m:XM PyData):SM:=fun U=>eQ (m U) fun d f=>.rt (.dat d) f
@[simp] def gV(m:XM aa):SM:=fun U=>eQ (m U) fun c d=>.rt c d
@[simp] def il(m:XM aa):SM:=fun U=>eQ (m U) fun _ d=>.nx d
theorem Pj(g:FE X F E e m):FS X F E (.Return (some e) pos) (bA m):=(As g).imp fun D U q=>aC _ _ _ (fun c f h=>h) (gU q)
theorem Pk(g:FO X F E e m):FS X F E (.Return (some e) pos) (gV m):=(Ng g).imp fun D U q=>aC _ _ _ (fun c f h=>h) (gU q)
theorem Pl(f:FO X F E e m)(h:autoParam (swapsWith e none pos.line X.env=pure false) Zq._auto_1):FS X F E (.Expr e pos) (il m):=(Nm f h).imp fun D U q=>aC _ _ _ (fun c d g=>g) (gU q)
@[simp]noncomputable def rS(i:Nat):SM:=fun U=>match U[i]? with
 |some (some (.own false b))=>.rt (.own false b) (U.set i none)
 |some (some (.dat d))=>.rt (.dat d) U
 |_=>.bad
@[simp] def bI(t:XM Bool)(a b:SM):SM:=fun U=>eQ (t U) fun x d=>if x=true then a d else b d
theorem Bv{mt}(m:FB X F E d mt)(n:jB X F E j f)(o:jB X F E l g):FS X F E (.If d j l pos) (bI mt f g):=(No m n o).imp fun D U q=>aC _ _ _ (fun x h i=>by
 cases x with
 |true=>exact fo i
 |false=>exact fm i) (gU q)
@[simp]noncomputable def Bw:SM:=fun U=>.bk U
theorem Pm:FS X F E (.Break pos) Bw:=OL.imp fun _ _ q=>q
noncomputable def cF(d n:String):Option Bool:=if d=n then some true else
 if d="bool"/\n="int" then some true else
 if (d="int"\/d="bool"\/d="str"\/d="list"\/d="tuple"\/d="NoneType")/\(n="int"\/n="bool"\/n="str"\/n="list"\/n="tuple") then some false else none
theorem Pn(h:cF d n=some b)(K):kitOne K (.type d) (.type n)=some b:=by
 unfold cF at h;split at h
 .rename_i e;cases h;subst e;unfold kitOne;rw[if_pos (by simp)]
 .split at h
  .rename_i e;cases h;obtain⟨rfl,rfl⟩:=e;rfl
  .rename_i a c;split at h
   .rename_i e;cases h;obtain⟨f,g⟩:=e;rcases f with rfl |rfl |rfl |rfl |rfl |rfl<;>rcases g with rfl |rfl |rfl |rfl |rfl<;>first |rfl |(exact absurd rfl a) |(exact absurd ⟨rfl,rfl⟩ c)
   .cases h
@[simp] def jd(n:String)(a:XM PyData):XM PyData:=fun U=>(a U).bind fun d=>lift ((cF (vn d) n).map .bool)
theorem ko(h:DE X F e (Am n (wp E f))):FE X F E e (jd n f):=h.imp aC fun U Q q=>aC _ _ _ (fun d m g=>by
 obtain⟨y,i,j⟩:=cV g;obtain⟨b,k,l⟩:=q0p.mp i;subst l;exact⟨b,Pn k,j⟩) (bK q)
theorem By(m:PE X (.Name x l) (bZ i)):FS X F E (.Return (some (.Name x l)) pos) (rS i):=fun g s Y H D I j=>by
 obtain⟨U,O,p,k,q,f⟩:=j;unfold wpS rS at q;cases h:U[i]? with
 |none=>rw[h]at q;exact q.elim
 |some o=>
  rw[h]at q;cases o with
  |none=>exact q.elim
  |some c=>
   cases c with
   |own io b=>cases io with
    |true=>exact q.elim
    |false=>exact Ni m g s Y H D I ⟨U,O,p,k,⟨b,h,q⟩,f⟩
   |dat d=>exact As (zZ i m) g s Y H D I ⟨U,O,p,k,.inl ⟨d,h,q⟩,f⟩
   |scr n=>exact q.elim
   |exc n=>exact q.elim
   |vw n=>exact q.elim
noncomputable def bR(g:GM)(b:SM):List PyData->SM
 |[],U=>.nx U
 |d::r,U=>(match g d U with
  |some h=>(match b h with
   |.nx f=>bR g b r f
   |.ct f=>bR g b r f
   |.bk f=>.nx f
   |o=>o)
  |none=>.bad)
@[simp] def fw(s:XM (List PyData))(g:GM)(b:SM):SM:=fun U=>eQ (s U) (bR g b)
theorem Po(t:PassesOwn (model X.prog X.w) X.A X.env X.xe)(u:X.calm=true)(f:FI X F E n iter s)(v:FG X F n g)(C:jB X F E body l)(G:autoParam (∀x,foldedSetIterable iter X.env x=pure x) Zs._auto_1):FS X F E (.For n iter body [] pos) (fw s g l):=
 (NH t u f v C G).imp fun D U q=>aC _ _ _ (fun j p y=>by
  refine⟨fun i U=>wpS E (bR g l (j.drop i)) D U,y,fun i d U hd f=>?_,fun U h=>?_⟩
  .have e:j.drop i=d::j.drop (i+1):=by obtain⟨r,z⟩:=q0a.mp hd;rw[<-z];exact q0J r
   simp only[e]at f;unfold wpS bR at f;unfold fM;generalize g d U=o at f ⊢;cases o with
   |none=>exact f
   |some p=>
    show wpS E l _ p;simp only at f;unfold wpS;generalize l p=B at f ⊢;cases B with
    |nx m=>exact f
    |ct m=>exact f
    |bk m=>exact f
    |rt c m=>exact f
    |ex c m=>exact f
    |bad=>exact f
  .simp only[q1W]at h;exact h) (gU q)
def fX(c:XM Bool)(b:SM):Nat->SM
 |0,_=>.bad
 |n+1,U=>eQ (c U) fun t f=>if t=true then(match b f with
   |.nx d=>fX c b n d
   |.ct d=>fX c b n d
   |.bk d=>.nx d
   |o=>o) else .nx f
theorem eh{p:Nat->Prop}:(∃k,p k)->∃k,p k/\∀j,p j->k<=j:=by
 rintro⟨k,d⟩
 induction k using Nat.strongRecOn with
 |_ k f=>
  by_cases h:∃j,j<k/\p j
  .obtain⟨j,h1,h2⟩:=h;exact f j h1 h2
  .exact⟨k,d,fun j g=>q1k fun z=>h ⟨j,z,g⟩⟩
theorem Bz(y:PassesOwn (model X.prog X.w) X.A X.env X.xe)(z:FB X F E l i)(G:jB X F E body g):FS X F E (.While l body [] pos) (fX i g n):=
 (NK y z G).imp fun D U q=>by
  classical
  let ok:=fun k U=>wpS E (fX i g k) D U;let p:=fun U=>∃k,ok k U;let μ:=fun U=>if h:p U then(eh h).choose else 0
  have u:∀U,p U->ok (μ U) U/\∀j,ok j U->μ U<=j:=fun U h=>by rw[show μ U=(eh h).choose from dif_pos h];exact(eh h).choose_spec
  refine⟨p,μ,⟨n,q⟩,fun U B=>?_⟩;have h1:=(u U B).1;cases v:μ U with
  |zero=>rw[v]at h1;exact h1.elim
  |succ k=>
   rw[v]at h1;have less:∀d,ok k d->p d/\μ d<k+1:=fun d s=>⟨⟨k,s⟩,Nat.lt_succ_of_le ((u d ⟨k,s⟩).2 k s)⟩
   refine aC _ _ _ (fun t r f=>?_) (gU h1);cases t with
   |false=>exact fm f
   |true=>
    apply fo;unfold wpS at f ⊢;simp only[if_true]at f;generalize g r=C at f ⊢;cases C with
    |nx d=>exact less d f
    |ct d=>exact less d f
    |bk d=>exact f
    |rt c d=>exact f
    |ex c d=>exact f
    |bad=>exact f
@[simp] def jH(a:XM PyData):XM (List PyData):=fun U=>(a U).bind fun d=>lift (match d with |.list ds=>some ds |_=>none)
@[simp] def kq(a:XM PyData):XM (List PyData):=fun U=>(a U).bind fun d=>lift (match d with |.tuple ds=>some ds |_=>none)
theorem DI.imp(h:DI X F g iter t)(l:∀U Q i,(∀d j,Q d j->i d j)->t' U Q->t' U i)(k:∀U Q,t' U Q->t U Q):DI X F g iter t':=⟨l,h.pi.imp fun Y H Q f=>by obtain⟨U,O,st,q⟩:=f;exact⟨U,O,st,k U _ q⟩⟩
theorem nG(h:FE X F E e f):FI X F E i e (jH f):=(ND h).imp aC fun U Q q=>aC _ _ _ (fun d l j=>by
 obtain⟨y,g,k⟩:=cV j;cases d with
 |list ds=>cases g;exact⟨_,rfl,k⟩
 |_=>cases g) (bK q)
theorem lg(h:FE X F E e f):FI X F E i e (kq f):=(NE h).imp aC fun U Q q=>aC _ _ _ (fun d l j=>by
 obtain⟨y,g,k⟩:=cV j;cases d with
 |tuple ds=>cases g;exact⟨_,rfl,k⟩
 |_=>cases g) (bK q)
@[simp] def ff(g:List PyData->Option (List PyData))(a:XM (List PyData)):XM (List PyData):=fun U=>(a U).bind fun d=>lift (g d)
@[simp] def dc:List PyData->Option (List PyData):=fun d=>match d with
 |[.int j]=>if (decide (-(2 ^ 62)<=j)&&decide (j<2 ^ 62))=true then some (intsFrom 0 j.toNat) else none
 |_=>none
theorem nH(h:DI X F f e (Ax (wp E g))):FI X F E f e (ff dc g):=h.imp aC fun U Q q=>aC _ _ _ (fun l k i=>by
 obtain⟨y,d,j⟩:=cV i;unfold dc at d;split at d
 .split at d
  .rename_i h;cases d;simp only[q0Q,decide_eq_true_eq]at h;exact⟨_,rfl,h.1,h.2,j⟩
  .cases d
 .cases d) (bK q)
@[simp] def im:List PyData->Option (List PyData):=fun d=>match d with
 |[.list ds]=>some (numbered ds)
 |_=>none
theorem BA(h:DI X F f e (iE (wp E g))):FI X F E f e (ff im g):=h.imp aC fun U Q q=>aC _ _ _ (fun l k i=>by
 obtain⟨y,d,j⟩:=cV i;unfold im at d;split at d
 .cases d;exact⟨_,rfl,j⟩
 .cases d) (bK q)
noncomputable def bU(g:GM)(t:XM Bool)(m:XM PyData):List PyData->List PyData->aj->Option (List PyData)
 |[],f,_=>some f
 |d::r,f,U=>(match g d U with
  |some i=>(match t i with
   |.ok true h=>(match m h with
    |.ok y j=>if f.length<sizeLine then bU g t m r (f++[y]) j else none
    |_=>none)
   |.ok false h=>bU g t m r f h
   |_=>none)
  |none=>none)
@[simp] def kr(own:Nat)(d:List Nat)(U:aj):aj:=List.replicate own none++d.map fun j=>vK U[j]?
@[simp] def BB(own:Nat)(d:List Nat)(g:GM)(t:XM Bool)(m:XM PyData)(f:List PyData):XM PyData:=fun h=>lift ((bU g t m f [] (kr own d h)).bind fun i=>if i.length<=sizeLine then some (.list i) else none) h
@[simp] def fY(own:Nat)(d:List Nat)(s:XM (List PyData))(g:GM)(t:XM Bool)(m:XM PyData):XM PyData:=fun U=>(s U).bind (BB own d g t m)
abbrev fO:Str->aj->Prop:=fun _ _=>False
theorem BC(q:wp E (fY own.length j s g t m) U Q):oY own j (wp E s) (fM g) (wp fO t) (wp fO m) U Q:=aC _ _ _ (fun l r G=>by
 obtain⟨y,H,A⟩:=cV G;obtain⟨n,I,u⟩:=q1j.mp H;have B:n.length<=sizeLine/\y=.list n:=by
  split at u
  .rename_i h;cases u;exact⟨h,rfl⟩
  .cases u
 have J:kY own j r=kr own.length j r:=by unfold kY kr;rw[q2g]
 refine⟨fun i p U=>bU g t m (l.drop i) p U=some n,by rw[J];exact I,fun i d p U hd f=>?_,fun p U h=>?_⟩
 .have e:l.drop i=d::l.drop (i+1):=by obtain⟨v,L⟩:=q0a.mp hd;rw[<-L];exact q0J v
  simp only[e]at f;unfold bU at f;unfold fM;cases C:g d U with
  |none=>rw[C]at f;cases f
  |some M=>
   rw[C]at f;simp only at f ⊢;unfold wp;cases w:t M with
   |ex c D=>rw[w]at f;cases f
   |bad=>rw[w]at f;cases f
   |ok b D=>
    rw[w]at f;cases b with
    |false=>exact fm f
    |true=>
     apply fo;simp only at f ⊢;cases z:m D with
     |ex c N=>rw[z]at f;cases f
     |bad=>rw[z]at f;cases f
     |ok O N=>
      rw[z]at f;simp only at f ⊢;split at f
      .rename_i h;exact⟨h,f⟩
      .cases f
 .simp only[q1W]at h;have:=by exact q0r h
  subst this;rw[B.2]at A;exact⟨B.1,A⟩) (bK q)
abbrev nI(X:Cx)(F:Fx)(E:Str->aj->Prop)(d:List Expr)(m:XM Bool):Prop:=nu X F d (wp E m)
noncomputable def cN:XM Bool:=fun U=>.ok true U
theorem jI:nI X F E [] cN:=⟨aC,fun d s Y H Q I f=>by obtain⟨U,O,st,q⟩:=f;exact NN.2 d s Y H Q I ⟨U,O,st,q⟩⟩
theorem we(h:FB X F E c d):nI X F E [c] d:=NO h
theorem lh(w:GF X.mg F)(S:ag X d own f h)(y:X.calm=true)(z:own.length=n)(A:FI X F E l iter s)
  (o:∀C p r u v k,GF X.mg k->FG (cf X d (own++f) C p r u v) k l g/\nI (cf X d (own++f) C p r u v) k fO j t/\FE (cf X d (own++f) C p r u v) k fO i m)
  (B:autoParam (∀x,foldedSetIterable iter X.env x=pure x) Zs._auto_1):FE X F E (.ListComp i [⟨l,iter,j,0⟩] d pos) (fY n h s g t m):=by
 subst z;exact(NP w S y A o B).imp aC fun U Q q=>BC q
theorem wh{j}(H:X.N.Nodup)(r:X.N[i]? = some y)(I:Loc X.env.scope y)(J:GF X.mg F)(S:ag X f own capN caps)(L:X.calm=true)(M:own.length=n)(O:FI X F E o iter s)
  (u:∀C v w z B p,GF X.mg p->FG (cf X f (own++capN) C v w z B) p o g/\nI (cf X f (own++capN) C v w z B) p fO l t/\FE (cf X f (own++capN) C v w z B) p fO k m)
  (A:autoParam (swapsWith (.ListComp k [⟨o,iter,l,0⟩] f pos) (some (.Name y py)) j.line X.env=pure true) Zq._auto_1)
  (Y:autoParam (∀x,foldedSetIterable iter X.env x=pure x) Zs._auto_1) (R:X.fn y=true\/X.env.scope.names.lookup y=some .local:=by first |exact .inl rfl |exact .inr rfl |assumption) :
  FS X F E (.Assign [.Name y py] (.ListComp k [⟨o,iter,l,0⟩] f pos) j) (bF (fY n caps s g t m) (al i)):=by
 subst M;exact(NQ H r I J S L O u A Y R).imp fun D U q=>vL aC U _ _ (fun d G h=>h) (BC (Bt q))
theorem aD.fresh{K:Frag}(st:aD K F H Y U O)(c:H p=none)(d:Mv o):∃O',aD K (F.plus [p]) (aL H p o) Y U O'/\aQ O H O' (aL H p o):=by obtain⟨O',h1,h2,_⟩:=aD.swap (L:=[]) (L':=[p]) st (fun b u _ e=>bS c b u e) (by simp) (fun a h=>.inr (by obtain rfl:=q0i.mp h;exact c)) (fun a h=>by cases h) (fun a h=>by obtain rfl:=q0i.mp h;exact⟨o,cG,d⟩);exact⟨O',h1,h2⟩
theorem aD.new1{K:Frag}(st:aD K F H Y U O)(c:H p=none):∀a∈[p],a∈F.A₀\/F.H₀ a=none:=fun a h=>by
 obtain rfl:=q0i.mp h
 by_cases b:a∈F.A₀
 .exact .inl b
 .refine .inr ?_;cases e:F.H₀ a with
  |none=>rfl
  |some o=>obtain⟨W,h,_⟩:=st;have:=h.kept a o b e;rw[c]at this;cases this
def Pp(t:dG):iF:=fun U Q=>t U fun d f=>d.length<=sizeLine/\Q (.own false (.l d)) f
theorem Pq(h:DA X F es j):DO X F (.List es pos) (Pp j):=
 ⟨fun _ _ _ k q=>h.mn _ _ _ (fun _ _ d=>⟨d.1,k _ _ d.2⟩) q,(rh h.pa).imp fun Y H Q f=>by obtain⟨U,O,st,q⟩:=f;exact 
  ⟨U,O,st,h.mn _ _ _ (fun y u d l v w g s m=>⟨by rw[m.length];exact d.1,fun p n=>by
   obtain⟨t,i,r⟩:=g.fresh (o:=.lst l) n trivial;exact d.2 _ _ t [p] ⟨i,⟨p,rfl,rfl,l,cG,aG.mono r.hid m⟩,g.new1 n⟩ (s.trans r)⟩) q⟩⟩
@[simp] def iI(a:XM (List PyData)):XM aa:=fun U=>(a U).bind fun d=>lift (if d.length<=sizeLine then some (.own false (.l d)) else none)
theorem li(h:FA X F E es g):FO X F E (.List es pos) (iI g):=(Pq h).imp aC fun U Q q=>aC _ _ _ (fun l k i=>by
 obtain⟨d,f,j⟩:=cV i;split at f
 .rename_i h;cases f;exact⟨h,j⟩
 .cases f) (bK q)
@[simp]noncomputable def wj(i:Nat)(d:PyData):SM:=fun f=>match f[i]? with
 |some (some (.own io (.l ds)))=>if ds.length<sizeLine then .nx (f.set i (some (.own io (.l (ds++[d]))))) else .bad
 |_=>.bad
@[simp] def ip(i:Nat)(m:XM PyData):SM:=fun U=>match U[i]? with
 |some (some (.own _ (.l _)))=>eQ (m U) (wj i)
 |_=>.bad
theorem BD{pos:Pos}(N:PE X (.Name x r) (bZ i))(Q:FE X F E e m)(z:autoParam (swapsWith (.Call (.Attribute (.Name x r) "append" apos) [e] [] g) none pos.line X.env=pure false) Zq._auto_1)
  (n:autoParam (attributeBase (.Name x r) "append" X.env (eval (.Name x r) X.env)=eval (.Name x r) X.env) Zq._auto_1)
  (t:autoParam (((backTo g (starEach [e] X.env)).all (fun x=>!x.1)&&(backToKw g (keywordEach [] X.env)).all (fun x=>x.1.isSome)&&decide (([e]:List Expr).length+([]:List Keyword).length+(if ([]:List Keyword).isEmpty then 0 else 1)<30))=true) Zq._auto_1)
  (p:autoParam ((apos.endLine==g.line)=true) Zq._auto_1) (M:autoParam (starEach [e] X.env=(false,eval e X.env)::starEach [] X.env) Zq._auto_1) (j:autoParam ((backTo g (starEach [] X.env)).any (·.1)=false) Zq._auto_1) :
  FS X F E (.Expr (.Call (.Attribute (.Name x r) "append" apos) [e] [] g) pos) (ip i m):=
 (uG (uZ q1L q2p q2q zy N (eM Q.pe fS M) n t p M j) z).imp fun D Y H u=>by
  obtain⟨U,O,DD,st,q,f⟩:=u;unfold wpS ip at q;cases h0:U[i]? with
  |none=>rw[h0]at q;exact q.elim
  |some o=>
   rw[h0]at q;cases o with
   |none=>exact q.elim
   |some R=>
    cases R with
    |dat d=>exact q.elim
    |scr d=>exact q.elim
    |exc d=>exact q.elim
    |vw d=>exact q.elim
    |own S b0=>
     cases b0 with
     |m _ _=>exact q.elim
     |o _ _=>exact q.elim
     |sd _=>exact q.elim
     |ll _=>exact q.elim
     |pr _ _ _=>exact q.elim
     |oo _ _=>exact q.elim
     |l T=>
      obtain⟨a,fp,v,⟨_,Z,hH,_⟩,_,_⟩:=st.box h0;refine⟨_,v,.inl ⟨rfl,Z,.of hH⟩,U,O,st,aC _ _ _ (fun d U1 h w H1 O1 A s1 d1=>?_) (gU q)⟩;unfold wpS wj at h;cases h1:U1[i]? with
      |none=>rw[h1]at h;exact h.elim
      |some o=>
       rw[h1]at h;cases o with
       |none=>exact h.elim
       |some c1=>
        cases c1 with
        |dat d=>exact h.elim
        |scr d=>exact h.elim
        |exc d=>exact h.elim
        |vw d=>exact h.elim
        |own a0 b1=>
         cases b1 with
         |m _ _=>exact h.elim
         |o _ _=>exact h.elim
         |sd _=>exact h.elim
         |ll _=>exact h.elim
         |pr _ _ _=>exact h.elim
         |oo _ _=>exact h.elim
         |l ds=>
          simp only at h;obtain⟨a1,a2,y,⟨e1,B,C,hd⟩,hO,up⟩:=A.box h1;rw[v]at y;cases y;subst e1
          by_cases I:ds.length<sizeLine
          .rw[if_pos I]at h;refine⟨a,B,w,rfl,rfl,C,by rw[hd.length];exact I,?_⟩;obtain⟨O2,J,s2,_⟩:=up (aL H1 a (.lst (B++[w]))) (.l (ds++[d])) [a] (fun c o L e=>by rw[bB (by simpa using L)];exact e) (by simp) (fun c L=>.inl L) (fun G O' s hG _=>by
            subst hG;exact⟨s.hid,rfl,B++[w],cG,(aG.mono s.hid hd).append (.cons (DV.mono s.hid d1) .nil)⟩)
           exact f.nx _ _ _ _ J (s1.trans s2) h
          .rw[if_neg I]at h;exact h.elim
@[simp]noncomputable def Pr:aa->Option PyData
 |.dat (.list ds)=>some (.int ds.length)
 |.dat (.tuple ds)=>some (.int ds.length)
 |.own _ (.l ds)=>some (.int ds.length)
 |_=>none
@[simp] def wm(i:Nat):XM PyData:=fun U=>match U[i]? with
 |some (some c)=>lift (Pr c) U
 |_=>.bad
theorem Ps{F:Fx}{E:Str->aj->Prop}{pos:Pos}{p }(t:Gl X "len")(u:X.mg "len" = none)(h:PE X (.Name x k) (bZ i))(s:autoParam (starEach [.Name x k] X.env=(false,eval (.Name x k) X.env)::starEach [] X.env) Zq._auto_1)(n:autoParam ((backTo pos (starEach [] X.env)).any (·.1)=false) Zq._auto_1) :
  FE X F E (.Call (.Name "len" p) [.Name x k] [] pos) (wm i):=
 ⟨aC,(ri iU t u q0X (eM h fS s) (by decide) (by decide) s n).imp fun Y H Q f=>by
  obtain⟨U,O,st,q⟩:=f;unfold wp wm at q;cases h0:U[i]? with
  |none=>rw[h0]at q;exact q.elim
  |some o=>
   rw[h0]at q;cases o with
   |none=>exact q.elim
   |some w=>
    cases w with
    |scr d=>exact q.elim
    |exc d=>exact q.elim
    |vw d=>exact q.elim
    |dat d=>
     obtain⟨v,m,hd⟩:=st.dat h0;cases d with
     |list ds=>obtain⟨a,g,rfl,r,j⟩:=hd.lst_inv;exact⟨_,m,a,g,rfl,.inl (.of (cK r).1),by rw[j.length];exact q _ H O st .refl (.int _)⟩
     |tuple ds=>obtain⟨a,g,rfl,r,j⟩:=hd.tup_inv;exact⟨_,m,a,g,rfl,.inr (.inl (ig r).1),by rw[j.length];exact q _ H O st .refl (.int _)⟩
     |_=>exact q.elim
    |own io b=>
     cases b with
     |l ds=>obtain⟨a,z,m,⟨_,g,y,j⟩,_,_⟩:=st.box h0;exact⟨_,m,a,g,rfl,.inl (.of y),by rw[j.length];exact q _ H O st .refl (.int _)⟩
     |_=>exact q.elim⟩
noncomputable def jJ:PyData->Option bf
 |.int i=>some (.inl i)
 |.str x=>some (.inr x)
 |_=>none
def jK:List PyData->Option (List bf)
 |[]=>some []
 |d::r=>(match jJ d,jK r with |some k,some l=>some (k::l) |_,_=>none)
def je:Bool->PyData->Option (List bf)
 |false,d=>(jJ d).map fun k=>[k]
 |true,.tuple ds=>jK ds
 |true,_=>none
abbrev kt:=List (PyData×PyData)
def lm(a:Bool):kt->List bf->Option PyData
 |[],_=>none
 |p::r,k=>if je a p.1=some k then some p.2 else lm a r k
def mB(a:Bool)(k:List bf)(v:PyData):kt->kt
 |[]=>[]
 |p::r=>(if je a p.1=some k then(p.1,v) else p)::mB a k v r
def lp(b:Bool)(a:kt)(d:PyData)(k:List bf)(v:PyData):kt:=if (lm b a k).isSome=true then mB b k v a else a++[(d,v)]
theorem BE(h:DV G v d)(e:jJ d=some k):v=kV k:=by
 cases d with
 |int i=>cases e;exact h.int_inv
 |str x=>cases e;exact h.str_inv
 |_=>cases e
theorem wn:jJ (iW k)=some k:=by cases k<;>rfl
theorem BF(e:jJ d=some k):d=iW k:=by
 cases d with
 |int i=>cases e;rfl
 |str x=>cases e;rfl
 |_=>cases e
theorem BG:∀{a},jK (a.map iW)=some a
 |[]=>rfl
 |k::r=>by show(match jJ (iW k),jK (r.map iW) with |some k,some l=>some (k::l) |_,_=>none)=_;rw[wn,BG]
theorem wo:∀{b a},jK b=some a->b=a.map iW
 |[],a,e=>by cases e;rfl
 |d::r,a,e=>by
  unfold jK at e;cases h1:jJ d with
  |none=>rw[h1]at e;cases e
  |some k=>
   cases h2:jK r with
   |none=>rw[h1,h2]at e;cases e
   |some l=>rw[h1,h2]at e;cases e;rw[BF h1,wo h2];rfl
theorem Pt:∀{a}{b:List bf},aG G a (b.map iW)->a=b.map kV:=by
 intro a b
 induction b generalizing a with
 |nil=>intro h;cases h;rfl
 |cons k r c=>intro h;cases h with
  |cons h1 h2=>rw[BE h1 wn,c h2];rfl
theorem Pu[DecidableEq κ]{R:κ->PyData->Prop}{G}{g}{inj:κ->List bf}(i:∀k d,R k d->je g d=some (inj k))(j:∀a b,inj a=inj b->a=b) :
  ∀{f}{c:kt} k,Paired (fun(p:κ×V) (q:PyData×PyData)=>R p.1 q.1/\DV G p.2 q.2) f c->(jv f k=none/\lm g c (inj k)=none)\/∃v d,jv f k=some v/\lm g c (inj k)=some d/\DV G v d:=by
 intro f c k h
 induction h with
 |nil=>exact .inl ⟨rfl,rfl⟩
 | @cons p q r s h t l=>
  by_cases e:p.1=k
  .refine .inr ⟨p.2,q.2,vb e,?_,h.2⟩;unfold lm;rw[if_pos (by rw[i _ _ h.1,e])]
  .rw[vc e];unfold lm;rw[if_neg (by rw[i _ _ h.1];exact fun z=>e (j _ _ (q0r z)))];exact l
theorem Pw[DecidableEq κ]{R:κ->PyData->Prop}{G}{i}{inj:κ->List bf}(j:∀k d,R k d->je i d=some (inj k))(l:∀a b,inj a=inj b->a=b){v}{x}(m:DV G v x) :
  ∀{f}{c:kt} k,Paired (fun(p:κ×V) (q:PyData×PyData)=>R p.1 q.1/\DV G p.2 q.2) f c->Paired (fun(p:κ×V) (q:PyData×PyData)=>R p.1 q.1/\DV G p.2 q.2) (f.map fun g=>if g.1=k then(g.1,v) else g) (mB i (inj k) x c):=by
 intro f c k h
 induction h with
 |nil=>exact .nil
 | @cons p q r s h t n=>
  refine .cons ?_ n;dsimp only
  by_cases e:p.1=k
  .rw[if_pos e,if_pos (by rw[j _ _ h.1,e])];exact⟨h.1,m⟩
  .rw[if_neg e,if_neg (by rw[j _ _ h.1];exact fun z=>e (l _ _ (q0r z)))];exact h
theorem Px:∀{a b}{c:List α}{d},Paired R a b->Paired R c d->Paired R (a++c) (b++d):=by
 intro a b c d h s
 induction h with
 |nil=>exact s
 |cons h _ e=>exact .cons h e
theorem BH[DecidableEq κ]{R:κ->PyData->Prop}{G}{g}{inj:κ->List bf}(i:∀k d,R k d->je g d=some (inj k))(j:∀a b,inj a=inj b->a=b){v}{x d}(l:DV G v x)
  {m}{c:kt}{k}(hd:R k d) (h:Paired (fun(p:κ×V) (q:PyData×PyData)=>R p.1 q.1/\DV G p.2 q.2) m c):Paired (fun(p:κ×V) (q:PyData×PyData)=>R p.1 q.1/\DV G p.2 q.2) (fT m k v) (lp g c d (inj k) x):=by
 rcases Pu i j k h with⟨e,f⟩ |⟨n,o,e,f,_⟩
 .rw[KW v e];unfold lp;rw[f,if_neg (by simp)];exact Px h (.cons ⟨hd,l⟩ .nil)
 .unfold lp;rw[f,if_pos (by rfl)];unfold fT;rw[if_pos (by rw[ro,e];rfl)];exact Pw i j l k h
theorem fZ:∀k  d,iW k=d->je false d=some [k]:=fun k d e=>by subst e;show(jJ (iW k)).map _=_;rw[wn];rfl
theorem wq:∀(a b:bf),[a]=[b]->a=b:=fun a b e=>by cases e;rfl
theorem pp:∀k  d,rB k=d->je true d=some k:=fun k d e=>by subst e;exact BG
@[simp] def pq(a:Bool)(d:PyData):Option (List bf):=match d with
 |.tuple []=>none
 |d=>je a d
theorem Py(e:pq a d=some k):je a d=some k/\d≠.tuple []:=by
 unfold pq at e;split at e
 .cases e
 .rename_i h;exact⟨e,h⟩
theorem BI:∀{ds k},jK ds=some k->ds≠[]->da ds=false
 |[],_,_,h=>absurd rfl h
 |[d],k,e,_=>by cases d<;>first |rfl |(simp[jK,jJ]at e)
 |d::f::r,k,e,_=>by
  unfold jK at e;split at e
  .rename_i k1 l a b;cases d<;>first |(exact(by simpa[da] using (BI b (by simp)))) |(exfalso;simp[jJ]at a)
  .cases e
theorem Pz{kvs:kt}(h:kc G H a tk kvs)(p:bY G H)(i:DV G y d)(j:DV G v x)(e:pq tk d=some k)(l:kvs.length<sizeLine) :
  ∃o,mf H a y v (aL H a o)/\Mv o/\∀c,bY G c->kc c (aL H a o) a tk (lp tk kvs d k x):=by
 obtain⟨e,f⟩:=Py e;cases tk with
 |false=>obtain⟨q,g,pr⟩:=h;obtain⟨u,m,r⟩:=q0p.mp e;subst r;obtain rfl:=BE i m;refine⟨_,.k g (by rw[Paired.length pr];exact l),trivial,fun c s=>⟨_,cG,BH fZ wq (DV.mono s j) (BF m).symm (Paired.mapP pr fun _ _ z=>⟨z.1,DV.mono s z.2⟩)⟩⟩
 |true=>
  obtain⟨q,g,pr⟩:=h;cases d with
  |tuple ds=>obtain⟨b,w,rfl,hb,n⟩:=i.tup_invK (BI e fun z=>f (by rw[z]));rw[wo e]at n;rw[Pt n]at hb;exact⟨_,.t g (p _ _ hb) (by rw[Paired.length pr];exact l),trivial,fun c s=>⟨_,cG,BH pp (fun _ _ z=>z) (DV.mono s j) (by unfold rB;rw[<-wo e]) (Paired.mapP pr fun _ _ z=>⟨z.1,DV.mono s z.2⟩)⟩⟩
  |_=>cases e
@[simp] def wu:List PyData->Option PyData:=fun f=>match f with
 |[.list as,.list bs,.list d]=>if bs.length=as.length/\d.length=as.length/\0<as.length then some (.list (pc as bs d)) else none
 |_=>none
theorem PB(h:DE X F e (AM (wp E g))):FE X F E e (cA wu g):=h.imp aC fun U Q q=>aC _ _ _ (fun l k i=>by
 obtain⟨d,f,j⟩:=cV i;unfold wu at f;split at f
 .split at f
  .rename_i h;cases f;exact⟨_,_,_,rfl,h.1,h.2.1,h.2.2,j⟩
  .cases f
 .cases f) (bK q)
def rT:List PyData->Option PyData:=fun d=>match d with
 |[.int i,.int j,.int k]=>if (0<=i/\i<=2 ^ 20)/\(0<=j/\j<=2 ^ 20)/\(0<k/\k<=2 ^ 20) then some (.list ((List.range (dE i j k)).map fun(m:Nat)=>.int (i+m * k))) else none
 |_=>none
theorem PC(h:DE X F e (Ba (wp E g))):FE X F E e (cA rT g):=h.imp aC fun U Q q=>aC _ _ _ (fun l k i=>by
 obtain⟨d,f,j⟩:=cV i;unfold rT at f;split at f
 .split at f
  .rename_i h;cases f;exact⟨_,_,_,rfl,h,j⟩
  .cases f
 .cases f) (bK q)
@[simp]noncomputable def BJ(k:Nat):PyData->Option PyData:=fun d=>match d with |.list ds=>some (.list (ds.drop k)) |_=>none
@[simp] def xU(g:PyData->Option PyData)(a:XM PyData):XM PyData:=fun U=>(a U).bind fun d=>lift (g d)
theorem PD(h:DE X F e (AN (wp E f) k)):FE X F E e (xU (BJ k) f):=h.imp aC fun U Q q=>aC _ _ _ (fun d l i=>by
 obtain⟨y,g,j⟩:=cV i;cases d with
 |list ds=>cases g;exact⟨_,rfl,j⟩
 |_=>cases g) (bK q)
noncomputable def pz:Value->V
 |.bool b=>.bl b
 |.int i _=>.int i
 |.str x _=>.str x
 |_=>.non
theorem BK(r:bj v z)(f:jZ v=true):pz z=v:=by
 cases v with
 |non=>cases r;rfl
 |bl b=>cases r;rfl
 |int i=>obtain⟨t,rfl⟩:=r;rfl
 |str i=>obtain⟨t,rfl⟩:=r;rfl
 |_=>cases f
theorem PF(e:bj y u)(f:jZ y=true):∀{c a},bi c a->c.all jZ=true->(∀z∈a,SeqAt.EqAt A s z u (kR (pz z) y))/\a.map pz=c:=by
 intro c a h
 induction h with
 |nil=>exact fun _=>⟨(fun _ h=>by cases h),rfl⟩
 |cons h _ g=>
  intro b;rw[q2Q,q0Q]at b;obtain⟨i,h2⟩:=g b.2;refine⟨fun z d=>?_,?_⟩
  .rcases q0b.mp d with rfl |d
   .rw[BK h b.1];exact KF h e b.1 f
   .exact i z d
  .rw[q0l,h2,BK h b.1]
def BL:V->List V->Hp->VK->Prop:=fun x f H Q=>∃l d y,x=.ref l/\f=[y]/\H l=some (.lst d)/\d.all jZ=true/\jZ y=true/\Q (.int (d.countP fun z=>kR z y:Nat)) H
theorem PH:uW X "list.count" BL:=by
 intro f s Y H x w v B Q I g i h;obtain⟨l,j,y,rfl,rfl,k,m,o,q⟩:=h;cases g;obtain⟨u,rfl,ru⟩:=i.one;obtain⟨z,d,n,r,C,e⟩:=I.lstM k;obtain⟨t,h2⟩:=PF ru o r m;refine call_meets F.slot_list_count ⟨_,e,rfl⟩ F.entry_list_count (F.args_list_count_2 _ _) (SeqAt.list_countAt l d.toArray n none #[] u fun z=>kR (pz z) y) ⟨e,fun z p=>t z (by simpa using p),⟨.int _,H,I.tok _,⟨_,rfl⟩,?_⟩⟩;have:d.countP (fun z=>kR (pz z) y)=j.countP fun z=>kR z y:=by rw[<-h2,List.countP_map];rfl
 rw[this];exact q
@[simp]noncomputable def BM:aa->Option (List PyData)
 |.dat (.list ds)=>some ds
 |.own _ (.l ds)=>some ds
 |_=>none
@[simp] def rV(U:aj)(i:Nat):Option (List PyData):=match U[i]? with
 |some (some c)=>BM c
 |_=>none
theorem PJ{K}(st:aD K F H Y U O)(h:rV U i=some k):∃p j,Y[i]? = some (some (.ref p))/\H p=some (.lst j)/\aG (au O H) j k:=by
 unfold rV at h;split at h
 .rename_i c e;unfold BM at h;split at h
  .cases h;obtain⟨v,d,hd⟩:=st.dat e;obtain⟨p,f,rfl,l,g⟩:=hd.lst_inv;exact⟨p,f,d,(cK l).1,g⟩
  .cases h;obtain⟨p,n,d,⟨_,f,m,g⟩,_⟩:=st.box e;exact⟨p,f,d,m,g⟩
  .cases h
 .cases h
@[simp]noncomputable def rW:PyData->Option V
 |.none=>some .non
 |.bool b=>some (.bl b)
 |.int i=>some (.int i)
 |.str x=>some (.str x)
 |_=>none
@[simp] def mC:List PyData->Option (List V)
 |[]=>some []
 |d::r=>(match rW d,mC r with |some v,some l=>some (v::l) |_,_=>none)
theorem BN(h:DV G v d)(e:rW d=some w):v=w/\jZ v=true:=by
 cases d with
 |none=>cases e;rw[h.non_inv];exact⟨rfl,rfl⟩
 |bool b=>cases e;rw[h.bl_inv];exact⟨rfl,rfl⟩
 |int b=>cases e;rw[h.int_inv];exact⟨rfl,rfl⟩
 |str b=>cases e;rw[h.str_inv];exact⟨rfl,rfl⟩
 |_=>cases e
theorem PL:∀{g i f},aG G g f->mC f=some i->g=i/\g.all jZ=true:=by
 intro g i f
 induction f generalizing g i with
 |nil=>intro h e;cases h;cases e;exact⟨rfl,rfl⟩
 |cons d f j=>
  intro h e;cases h with
  |cons h t=>
  unfold mC at e;cases h1:rW d with
  |none=>rw[h1]at e;cases e
  |some w=>
   cases h2:mC f with
   |none=>rw[h1,h2]at e;cases e
   |some l=>rw[h1,h2]at e;cases e;obtain⟨k,f1⟩:=BN h h1;obtain⟨m,f2⟩:=j t h2;exact⟨by rw[k,m],by rw[q2Q,f1,f2];rfl⟩
@[simp] def lq(f:List PyData)(y:PyData):Option PyData:=match mC f,rW y with
 |some d,some w=>some (.int (d.countP fun z=>kR z w:Nat))
 |_,_=>none
theorem PM:∀G l f g y d z H Q,H l=some (.lst f)->aG G f g->DV G y d->lq g d=some z->(∀u,DV G u z->Q u H)->BL (.ref l) [y] H Q:=fun G l f g y d z H Q h i j e q=>by
 unfold lq at e;split at e
 .rename_i k w h1 h2;cases e;obtain⟨rfl,f1⟩:=PL i h1;obtain⟨rfl,f2⟩:=BN j h2;exact⟨l,f,y,rfl,rfl,h,f1,f2,q _ (.int _)⟩
 .cases e
@[simp]noncomputable def pA(U:aj)(i:Nat):Option (Bool×List PyData):=match U[i]? with
 |some (some (.own io (.l ds)))=>some (io,ds)
 |_=>none
theorem PN(h:pA U i=some (io,d)):U[i]? = some (some (.own io (.l d))):=by
 unfold pA at h;split at h
 .rename_i e;cases h;exact e
 .cases h
@[simp] def cg:=gI fun i j=>.int (i+j)
@[simp] def fE:=gI fun i j=>.int (i - j)
@[simp] def lr:=pd lc fun i j=>.int (i * j)
@[simp] def rX:=pd nv fun i j=>.int (i / j)
@[simp] def nJ:=pd ny fun i j=>.int (i % j)
@[simp] def jf:=gI fun i j=>.bool (decide (i<j))
@[simp] def ku:=gI fun i j=>.bool (decide (i<=j))
@[simp] def ls:=gI fun i j=>.bool (decide (j<i))
theorem cW(d:FE X F E a ma)(f:FE X F E b mb):FE X F E (.BinOp a .Add b pos) (ab cg ma mb):=gP lb (Of d f)
theorem iq(d:FE X F E a ma)(f:FE X F E b mb):FE X F E (.BinOp a .Sub b pos) (ab fE ma mb):=gP lb (Og d f)
theorem mD(d:FE X F E a ma)(f:FE X F E b mb):FE X F E (.BinOp a .Mult b pos) (ab lr ma mb):=gP (vS ON) (Oh d f)
theorem wv(d:FE X F E a ma)(f:FE X F E b mb):FE X F E (.BinOp a .FloorDiv b pos) (ab rX ma mb):=gP (vS OO) (Oi d f)
theorem pB(d:FE X F E a ma)(f:FE X F E b mb):FE X F E (.BinOp a .Mod b pos) (ab nJ ma mb):=gP (vS OP) (Oj d f)
theorem pC(d:FE X F E a ma)(f:FE X F E b mb):FE X F E (.BinOp a .Add b pos) (ab jD ma mb):=gP OQ (Ol d f)
theorem BO(d:FE X F E a ma)(f:FE X F E b mb):FE X F E (.BinOp a .Mult b pos) (ab gQ ma mb):=gP OR (OH d f)
theorem BP(d:FE X F E a ma)(f:FE X F E b mb):FE X F E (.Compare a [.Lt] [b] pos) (ab jf ma mb):=gP lb (Om d f)
theorem BQ(d:FE X F E a ma)(f:FE X F E b mb):FE X F E (.Compare a [.LtE] [b] pos) (ab ku ma mb):=gP lb (Oo d f)
theorem PP(d:FE X F E a ma)(f:FE X F E b mb):FE X F E (.Compare a [.Gt] [b] pos) (ab ls ma mb):=gP lb (Op d f)
theorem nK(d:FE X F E a ma)(f:FE X F E b mb):FB X F E (.Compare a [.Lt] [b] pos) (aT (ab jf ma mb)):=mx lb (Oq d f)
theorem pD(d:FE X F E a ma)(f:FE X F E b mb):FB X F E (.Compare a [.LtE] [b] pos) (aT (ab ku ma mb)):=mx lb (Ot d f)
theorem rY(d:FE X F E a ma)(f:FE X F E b mb):FB X F E (.Compare a [.Gt] [b] pos) (aT (ab ls ma mb)):=mx lb (Ou d f)
theorem lu(d:X.A.units+64<cLine)(f:FE X F E a ma)(g:FE X F E b mb):FE X F E (.Compare a [.Eq] [b] pos) (ab (aB false) ma mb):=gP vT (Ov d f g)
theorem fP(d:X.A.units+64<cLine)(f:FE X F E a ma)(g:FE X F E b mb):FB X F E (.Compare a [.Eq] [b] pos) (aT (ab (aB false) ma mb)):=mx vT (Ow d f g)
theorem nL(d:X.A.units+64<cLine)(f:FE X F E a ma)(g:FE X F E b mb):FB X F E (.Compare a [.NotEq] [b] pos) (aT (ab (aB true) ma mb)):=mx vT (Ox d f g)
theorem PQ(d:FE X F E a ma)(f:FE X F E b mb):FE X F E (.Compare a [.Is] [b] pos) (ab my ma mb):=gP Bg (Oy d f)
theorem ww(d:FE X F E a ma)(f:FE X F E b mb):FE X F E (.Compare a [.IsNot] [b] pos) (ab jC ma mb):=gP Bh (nq yS Ac d f (bD _))
theorem BR(d:FE X F E a ma)(f:FE X F E b mb):FB X F E (.Compare a [.Is] [b] pos) (aT (ab my ma mb)):=mx Bg (Oz d f)
theorem wx(d:FE X F E a ma)(f:FE X F E b mb):FB X F E (.Compare a [.IsNot] [b] pos) (aT (ab jC ma mb)):=mx Bh (OA d f)
theorem PR(d:FE X F E a ma)(h:FE X F E b mb)(f:FE X F E c mc)(g:lastMarks [.LtE,.LtE] [b,c]=false:=by with_unfolding_all rfl):FE X F E (.Compare a [.LtE,.LtE] [b,c] pos) (vV (fun i j=>decide (i<=j)) (fun i j=>decide (i<=j)) ma mb mc):=OT (OB d h f g)
@[simp] def aI:PyData->PyData->Option PyData:=fun x y=>match x,y with
 |.tuple ds,.int i=>bL ds i
 |.list ds,.int i=>bL ds i
 |_,_=>none
def BS:D2:=fun x y Q=>Ad x y Q\/Ae x y Q
theorem PU{K}:fV (fun x y H Q=>uY K x y H Q\/uX K x y H Q) BS where
 mn:=fun x y Q Q' k h=>h.imp (Af (K:=K).mn x y Q Q' k) (Ag (K:=K).mn x y Q Q' k)
 ok:=fun O H u v x y Q hO h1 h2 h=>h.imp (Af.ok O H u v x y Q hO h1 h2) (Ag.ok O H u v x y Q hO h1 h2)
theorem PV:F2 BS aI:=fun x y d Q e q=>by
 unfold aI at e;split at e
 .exact .inl ⟨_,_,_,rfl,rfl,e,q⟩
 .exact .inr ⟨_,_,_,rfl,rfl,e,q⟩
 .cases e
theorem aV(d:FE X F E a ma)(f:FE X F E b mb)(g:nh b:=by intro _ _;rfl):FE X F E (.Subscript a b pos) (ab aI ma mb):=gP PV (LQ (jY.or Kz rn) PU d f g)
noncomputable def wy:Expr->Bool
 |.Starred ..=>true
 |_=>false
theorem wz(h:wy e=false):starEach (e::b) a=(false,eval e a)::starEach b a:=by cases e<;>first |rfl |cases h
theorem aA(g:FE X F E e d)(h:FA X F E es f)(i:autoParam (wy e=false) Zq._auto_1):FA X F E (e::es) (aq d f):=OU g h (wz i)
theorem av(g:FE X F E e d)(h:FX X F E es f)(i:autoParam (wy e=false) Zq._auto_1):FX X F E (e::es) (ak d f):=Pe g h (wz i)
theorem bG(f:PE X (.Name x p) (bZ j))(g:FX X F E es d):FX X F E (.Name x p::es) (bv j d):=Pf f g (wz rfl)
@[simp]noncomputable def jL:SM:=fun _=>.bad
theorem kv{st:Stmt}:FS X F E st jL:=fun _ _ _ _ _ _ d=>by obtain⟨_,_,_,_,q,_⟩:=d;exact q.elim
end L2.L3
namespace L2
open PySem
abbrev eE(h:Heap)(T:Addr)(a b:Value):Prop:=h.get? T=some { cls:=.type "tuple",data:=.seq #[a,b] }
end L2
namespace L2.L3
open PySem PySem.Spec PyProof.Rows
noncomputable def bO(f:Str)(v:Fl):List (Str×Fl)->List (Str×Fl)
 |[]=>[(f,v)]
 |(g,x)::r=>if g=f then(g,v)::r else(g,x)::bO f v r
noncomputable def ir:Option Fl->Bool
 |none=>true
 |some (.d _)=>true
 |_=>false
def cb(C:Addr)(U:aj)(i:Nat):Option (Bool×List (Str×Fl)):=match U[i]? with
 |some (some (.own io (.o a fs)))=>if a = C then some (io,fs) else none
 |_=>none
theorem kw(h:cb C U i=some (io,fs)):U[i]? = some (some (.own io (.o C fs))):=by
 unfold cb at h;split at h
 .rename_i e;split at h
  .rename_i a;cases h;rw[e,a]
  .cases h
 .cases h
theorem lv(h:bq G H b fs a)(f):(b.lookup f=none/\fs.lookup f=none)\/∃v x c,b.lookup f=some v/\fs.lookup f=some x/\gH G H v x c/\c∈a:=by
 induction h with
 |nil=>exact .inl ⟨rfl,rfl⟩
 | @cons n v x c b fs a h1 h2 g=>
  by_cases e:f=n
  .subst e;exact .inr ⟨v,x,c,by simp,by simp,h1,q0f⟩
  .have i:(f==n)=false:=by simpa using e
   rw[q0s,q0s,i];rcases g with q |⟨j,k,d,l,m,o,p⟩
   .exact .inl q
   .exact .inr ⟨j,k,d,l,m,o,bt _ p⟩
theorem BT{α:Type}:∀{W:List (List α)}{i:Nat}{l},W.flatten.Nodup->W[i]? = some l->l.Nodup
 |w::W,0,l,nd,h=>by simp only[q1h,q0N]at h;subst h;rw[q0g]at nd;exact(q0j.mp nd).1
 |w::W,i+1,l,nd,h=>by rw[q0g]at nd;exact BT (q0j.mp nd).2.1 (by simpa using h)
theorem aD.boxN{K}(st:aD K F H Y U O)(e:U[i]? = some (some (.own io b))):∃a n,Y[i]? = some (some (.ref a))/\fF (au O H) H a b n/\(∀c∈n,c∈O)/\n.Nodup/\
  ∀g  w  f,(∀c o,c∉n->H c=some o->g c=some o)->f.Nodup->(∀c∈f,c∈n\/H c=none)->(∀G,(∀p,aQ O H p g->G=au p g->(∀c∈f,c∈p)->bY (au O H) G/\fF G g a w f))->
   ∃p,aD K F g Y (U.set i (some (.own io w))) p/\aQ O H p g/\(∀c∈p,c∈f\/c∈O):=by
 obtain⟨W,st,rfl⟩:=st;obtain⟨v,n,h1,h2,a,rfl,h3⟩:=st.at_ i _ e;have C:=(q0a.mp e).1;have x:i<W.length:=by rw[st.lw];exact C
 refine⟨a,n,h1,h3,fun c d=>bC _ (cw h2 d),(BT (q0j.mp st.nd).1 h2),fun g w f keep Q y R=>?_⟩;have s:=(q0j.mp st.nd).1;have D:=fun c d z=>(q0j.mp st.nd).2.2 c (cw h2 d) c z rfl;have ap:∀c∈f,(∀j l,j≠i->W[j]? = some l->c∉l)/\c∉F.O₀:=fun c d=>by
  rcases y c d with q |q
  .exact⟨fun j l r m z=>mh s h2 m (Ne.symm r) q z,D c q⟩
  .refine⟨fun j l _ m z=>?_,fun z=>?_⟩
   .obtain⟨o,k,_⟩:=st.live c (bC _ (cw m z));rw[q]at k;cases k
   .obtain⟨o,k,_⟩:=st.live c (bp _ z);rw[q]at k;cases k
 have frz:∀c o,c∉W.flatten++F.O₀->H c=some o->g c=some o:=fun c o d L=>keep c o (fun z=>d (bC _ (cw h2 z))) L;have A:aQ (W.flatten++F.O₀) H ((W.set i f).flatten++F.O₀) g:=⟨frz,fun c h=>by
  rcases q0d.mp h with h |h
  .rcases gJ h with h |⟨j,l,_,m,B⟩
   .exact(y c h).imp (fun z=>bC _ (cw h2 z)) id
   .exact .inl (bC _ (cw m B))
  .exact .inl (bp _ h)⟩
 have u:=(R _ _ A rfl (fun c d=>bC _ (zY x d))).2;obtain⟨E,M⟩:=st.put (i:=i) (c:=.own io w) C (fun j l c r m d=>by obtain⟨o,k,_⟩:=st.live c (bC _ (cw m d));rw[k];exact keep c o (fun z=>mh s m h2 r d z) k) (fun c d=>by obtain⟨o,k,_⟩:=st.live c (bp _ d);rw[k];exact keep c o (fun z=>D c z d) k) frz Q ap (fun c d=>(y c d).imp (fun z=>cw h2 z) id) (fun c d=>u.live c d) (fun _=>⟨a,rfl,u⟩) (fun S z=>by cases z;have:=st.io i b e;rw[h1]at this;exact(q0r (q0r this)));have N:Y.set i (some (.ref a))=Y:=by
  apply q1x;intro j
  by_cases r:j=i
  .subst r;rw[q0v (q0a.mp h1).1,h1]
  .rw[q0u (Ne.symm r)]
 rw[N]at E;refine⟨_,⟨_,E,rfl⟩,M,fun c d=>?_⟩;rcases q0d.mp d with d |d
 .rcases gJ d with d |⟨j,l,_,m,B⟩
  .exact .inl d
  .exact .inr (bC _ (cw m B))
 .exact .inr (bp _ d)
theorem bq.len(h:bq G H b fs a):b.length=fs.length:=by
 induction h with
 |nil=>rfl
 |cons _ _ c=>simp[c]
theorem bq.putD(h:bq G H s fs a)(i:ir (fs.lookup f)=true)(hd:DV r v d)(g:bY G r)(k:∀c∈a.flatten,p c=H c) :
  bq r p (cS f v s) (bO f (.d d) fs) (if (fs.lookup f).isSome=true then a else a++[[]]):=by
 induction h with
 |nil=>exact .cons ⟨rfl,hd⟩ .nil
 | @cons n w x D s fs a h1 h2 u=>
  unfold cS bO
  by_cases e:n=f
  .subst e;have A:List.lookup n ((n,x)::fs)=some x:=by simp
   rw[A]at i ⊢;rw[if_pos rfl,if_pos rfl];cases x with
   |d y=>obtain⟨rfl,_⟩:=h1;exact .cons ⟨rfl,hd⟩ (h2.keep (H':=p) (fun c j=>k c (by simp only[q0g,q0d];exact .inr j)) g)
   |l ds=>cases i
   |m E B=>cases i
  .have C:(f==n)=false:=by simpa using fun z=>e z.symm
   rw[q0s,C]at i ⊢;rw[if_neg e,if_neg e];have o:=h1.keep (H':=p) (fun c j=>k c (by simp only[q0g,q0d];exact .inl j)) g;have b:=u i fun c j=>k c (by simp only[q0g,q0d];exact .inr j);simp only at b ⊢;split
   .rename_i q;rw[if_pos q]at b;exact .cons o b
   .rename_i q;rw[if_neg q]at b;exact .cons o b
def cD(C:Addr)(i:Nat)(f:Str):XM PyData:=fun U=>match cb C U i with
 |some (_,fs)=>(match fs.lookup f with
  |some (.d d)=>.ok d U
  |_=>.bad)
 |none=>.bad
theorem dt(cl:dB X.K C)(j:cJ X.K C f)(k:PE X (.Name x p1) (bZ i))(z:autoParam (attributeBase (.Name x p1) f X.env (eval (.Name x p1) X.env)=eval (.Name x p1) X.env) Zq._auto_1):FE X F E (.Attribute (.Name x p1) f pos) (cD C i f):=
 ⟨aC,(jX k z).imp fun Y H Q g=>by
  obtain⟨U,O,st,q⟩:=g;unfold wp cD at q;cases ho:cb C U i with
  |none=>rw[ho]at q;exact q.elim
  |some p=>
   obtain⟨io,fs⟩:=p;rw[ho]at q;simp only at q;obtain⟨A,B,h,⟨n,o,r,D,s,G,t⟩,_,_⟩:=st.box (kw ho);rcases lv t f with⟨l1,l2⟩ |⟨v,y,u,l1,l2,l3,_⟩
   .rw[l2]at q;exact q.elim
   .rw[l2]at q;cases y with
    |d d=>exact⟨_,h,A,C,n,o,v,rfl,s,cl,j,l1,q v H O st (.refl ..) l3.2⟩
    |l ds=>exact q.elim
    |m I w=>exact q.elim⟩
def iu(C:Addr)(i:Nat)(f:Str)(d:PyData):SM:=fun U=>match cb C U i with
 |some (io,fs)=>if fs.length<1000/\ir (fs.lookup f)=true then .nx (U.set i (some (.own io (.o C (bO f (.d d) fs))))) else .bad
 |none=>.bad
def dO(C:Addr)(i:Nat)(f:Str)(m:XM PyData):SM:=fun U=>eQ (m U) (iu C i f)
theorem BU(cl:dB X.K C)(L:cJ X.K C f)(M:PE X (.Name x p1) (bZ i))(N:FE X F E e m)(hs:autoParam (swapsWith e (some (.Attribute (.Name x p1) f h)) pos.line X.env=pure false) Zq._auto_1):FS X F E (.Assign [.Attribute (.Name x p1) f h] e pos) (dO C i f m):=
 (rg M N.pe hs).imp fun D Y H Q=>by
 obtain⟨U,O,DD,st,q,R⟩:=Q;exact⟨U,O,st,aC _ _ _ (fun d S g I T O1 t Z d1=>by
  unfold wpS iu at g;cases ho:cb C S i with
  |none=>rw[ho]at g;exact g.elim
  |some p=>
   obtain⟨io,fs⟩:=p;rw[ho]at g;simp only at g
   by_cases j:fs.length<1000/\ir (fs.lookup f)=true
   .rw[if_pos j]at g;obtain⟨r,fp,u,⟨n,v,l,e1,e2,e3,J⟩,hO,nd,up⟩:=t.boxN (kw ho);subst e1;obtain⟨y,_⟩:n≠r/\True:=⟨fun z=>by subst z;simp at nd,trivial⟩
    refine⟨_,u,r,C,n,v,rfl,e2,cl,L,by rw[J.len];exact j.1,?_⟩;obtain⟨O3,A,s3,_⟩:=up (aL T r (.ins C n (cS f I v))) (.o C (bO f (.d d) fs)) (r::n::l.flatten) (fun c o B e=>by rw[bB (fun z=>B (by simp[z]))];exact e) nd (fun c j=>.inl j) (fun G O' s hG _=>by
     subst hG;refine⟨s.hid,n,cS f I v,if (fs.lookup f).isSome=true then l else l++[[]],?_,cG,by rw[bB y];exact e3,?_⟩
     .split
      .rfl
      .simp
     .refine J.putD j.2 (DV.mono s.hid d1) s.hid fun c j=>bB (fun z=>?_);subst z;exact absurd j (by
       have:=(q0I.mp nd).1;exact fun w=>this (bt _ w)))
    exact R.nx _ _ _ _ A (Z.trans s3) g
   .rw[if_neg j]at g;exact g.elim) (gU q)⟩
theorem BV(a:wp E (jG f as) d Q):jb f E Q as d:=by
 unfold wp jG at a;unfold jb;cases j:iH d as with
 |none=>rw[j]at a;exact a
 |some p=>
  obtain⟨l,n⟩:=p;rw[j]at a;simp only at a ⊢;cases h:f l with
  |rt c b=>rw[h]at a;exact a
  |ex c b=>rw[h]at a;exact a
  |bad=>rw[h]at a;exact a
def fg(f:FM)(i:Nat)(as:List AX):XM aa:=jG f (.s i::as)
def cB(C:Addr)(i:Nat)(m:Str)(f:FM)(mX:XM (List AX)):XM aa:=fun U=>match cb C U i with
 |some (_,fs)=>if fs.lookup m=none then(mX U).bind (fg f i) else .bad
 |none=>.bad
theorem PX{pos:Pos}{apos:Pos}{pl}(hx:fH X F E)(cl:dB X.K C)(hm:iR X.K C m g)(G:bX X.prog X.w X.K X.mg X.base (dR X.prog X.w) k g fd ps (fq X.K X.mg f))(hr:br k X.A)(hb:iB X.K fd ps [])(hv:PE X (.Name x p1) (bZ i))(ha:FX X F E (e::es) mX)
  (M:autoParam (starEach (e::es) X.env=(false,eval e X.env)::starEach es X.env) Zq._auto_1) (N:autoParam ((backTo pos (starEach es X.env)).any (·.1)=false) Zq._auto_1)
  (ht:autoParam (eval (.Call (.Attribute (.Name x p1) m apos) (e::es) [] pos) X.env=(do
   let ov <-eval (.Name x p1) X.env
   standAt apos.atName
   let(f,first) <-holding [ov] (getMethod ov m pl)
   callWith pos f first (backTo pos (starEach (e::es) X.env)) (backToKw pos (keywordEach [] X.env)))) Zq._auto_1) :
  FO X F E (.Call (.Attribute (.Name x p1) m apos) (e::es) [] pos) (cB C i m f mX):=by
 refine⟨aC,fun a s Y H Q I l=>?_⟩;obtain⟨U,O,st,q⟩:=l;unfold wp cB at q;cases ho:cb C U i with
 |none=>rw[ho]at q;exact q.elim
 |some p=>
  obtain⟨io,fs⟩:=p;rw[ho]at q;simp only at q
  by_cases R:fs.lookup m=none
  .rw[if_pos R]at q;obtain⟨d,D,n,⟨dx,gs,a2,e1,e2,e3,e4⟩,_,_⟩:=st.box (kw ho);have hg:gs.lookup m=none:=by
    rcases lv e4 m with⟨l1,_⟩ |⟨_,_,_,_,l2,_⟩
    .exact l1
    .rw[R]at l2;cases l2
   refine q2L (aU (hv a s Y H (fun v o=>v=.ref d/\o=H) I ⟨_,n,rfl,rfl⟩) fun u S t=>?_) ht;obtain⟨v,o,I1,rx,ex,eH⟩:=t;subst ex eH;obtain rfl:u=Value.ref d:=rx;apply yX I1 e2 cl hm hg;refine q1I I.ok.mod.kin hm.kp (aU (ha.pa pos a S Y o (fun J y=>∃as z j,aD X.K F y Y z j/\aQ O o j y/\dM Y (au j y) J as/\jb f E (fun c U'=>∀v B L D,gw X.K F B Y U' L v c D->aQ O o L B->Q v B) (.s i::as) z) I1 ⟨U,O,st,ha.mn _ _ _ (fun as z T J y j b S Z=>⟨as,z,j,b,S,Z,BV T⟩) (bK q)⟩) fun us s2 zz=>⟨by obtain⟨_,_,I2,_⟩:=zz;exact I2.kIn,?_⟩) M N;obtain⟨J,y,I2,r,as,z,j,b,a1,Z,T⟩:=zz;exact vJ hx G hr hb I2 (vs:=V.ref d::J) (.cons (rfl) r) b (dM.s n Z) T fun c U' h v B L D res s2=>h v B L D res (a1.trans s2)
  .rw[if_neg R]at q;exact q.elim
def df(C:Addr)(i:Nat)(m:Str)(f:FM):XM aa:=fun U=>match cb C U i with
 |some (_,fs)=>if fs.lookup m=none then jG f [.s i] U else .bad
 |none=>.bad
theorem PY(z:fH X F E)(cl:dB X.K C)(o:iR X.K C m g)(G:bX X.prog X.w X.K X.mg X.base (dR X.prog X.w) k g fd ps (fq X.K X.mg f))(B:br k X.A)(hb:iB X.K fd ps [])(D:PE X (.Name x p1) (bZ i))
  (J:autoParam (eval (.Call (.Attribute (.Name x p1) m apos) [] [] pos) X.env=(do
   let r <-eval (.Name x p1) X.env
   standAt apos.atName
   let(f,first) <-holding [r] (getMethod r m pl)
   callWith pos f first (backTo pos (starEach [] X.env)) (backToKw pos (keywordEach [] X.env)))) Zq._auto_1) :
  FO X F E (.Call (.Attribute (.Name x p1) m apos) [] [] pos) (df C i m f):=by
 refine⟨aC,fun b s Y H Q I d=>?_⟩;obtain⟨U,O,st,q⟩:=d;unfold wp df at q;cases ho:cb C U i with
 |none=>rw[ho]at q;exact q.elim
 |some p=>
  obtain⟨io,fs⟩:=p;rw[ho]at q;simp only at q
  by_cases n:fs.lookup m=none
  .rw[if_pos n]at q;obtain⟨a,t,j,⟨dx,L,M,e1,N,e3,R⟩,_,_⟩:=st.box (kw ho);have S:L.lookup m=none:=by
    rcases lv R m with⟨l1,_⟩ |⟨_,_,_,_,l2,_⟩
    .exact l1
    .rw[n]at l2;cases l2
   refine q2L (aU (D b s Y H (fun v y=>v=.ref a/\y=H) I ⟨_,j,rfl,rfl⟩) fun u s1 l=>?_) J;obtain⟨v,y,I1,T,ex,Z⟩:=l;subst ex Z;obtain rfl:u=Value.ref a:=T;apply yX I1 N cl o S;apply PySem.W.callWith_K0 I1.kIn o.kp;exact vJ (vs:=[V.ref a]) z G B hb I1 (.cons (rfl) .nil) st (dM.s j .nil) (BV q) fun c U' h v H' O' t res s2=>h v H' O' t res s2
  .rw[if_neg n]at q;exact q.elim
noncomputable def pE(C:Addr)(f:FM)(a:List PyData):XM aa:=fun U=>match f (.own true (.o C [])::a.map .dat) with
 |.rt (.dat .none) [b]=>.ok (.own false b) U
 |.ex c _=>.ex c U
 |_=>.bad
def wA(C:Addr)(f:FM)(a:XM (List PyData)):XM aa:=fun U=>(a U).bind (pE C f)
theorem PZ{K}:∀{b a},aG (au O H) b a->aS K H O b (a.map .dat) (a.map fun _=>[]):=by
 intro b a
 induction a generalizing b with
 |nil=>intro h;cases h;exact .nil
 |cons d a c=>intro h;cases h with
  |cons h t=>exact .dat h (c t)
theorem Qa{a:Addr}{b:Bx}:∀{j:List PyData}{l}{bs}{c},aY H O l (j.map aa.dat) bs c->bs=[]/\c=[]:=by
 intro j
 induction j with
 |nil=>intro l bs c h;cases h;exact⟨rfl,rfl⟩
 |cons d j n=>intro l bs c h;cases h with
  |skip _ h=>exact n h
theorem rZ{α β:Type}:∀l:List α,(l.map fun _=>([]:List β)).flatten=[]
 |[]=>rfl
 |_::r=>by simp
theorem Qb{pos:Pos}{p:Pos}(hx:fH X F E)(M:Mk X.K C g)(G:bX X.prog X.w X.K X.mg X.base (dR X.prog X.w) k g fd ps (fq X.K X.mg f))(hr:br (k+1) X.A)(hg:Gl X x)(hm:X.mg x=some (.ref C))(hb:iB X.K fd ps [])(l:FA X F E (e::es) mA)
  (b4:autoParam ((x==("__debug__":Str))=false) Zr._auto_1) (he:autoParam (starEach (e::es) X.env=(false,eval e X.env)::starEach es X.env) Zq._auto_1) (b5:autoParam ((backTo pos (starEach es X.env)).any (·.1)=false) Zq._auto_1) :
  FO X F E (.Call (.Name x p) (e::es) [] pos) (wA C f mA):=by
 refine⟨aC,fun a0 s Y H Q I a8=>?_⟩;obtain⟨U,O,st,q⟩:=a8;refine wpAny_Call_Name_kw (qZ I hg hm ?_ b4);have q':=bK (E:=E) (m:=mA) (k:=pE C f) (U:=U) q;refine q1I (h₀:=X.base) I.ok.mod.kin M.kp (aU (l.pa pos a0 s Y H (fun vs y=>∃T U1 t,aD X.K F y Y U1 t/\aQ O H t y/\aG (au t y) vs T/\wp E (pE C f T) U1 (fun c U'=>∀v n O' fp,gw X.K F n Y U' O' v c fp->aQ O H O' n->Q v n)) I ⟨U,O,st,l.mn _ _ _ (fun T U1 D vs y t J L dv=>⟨T,U1,t,J,L,dv,D⟩) q'⟩) fun us L zz=>⟨by obtain⟨_,_,I1,_⟩:=zz;exact I1.kIn,?_⟩) he b5;obtain⟨vs,y,I1,r,T,U1,t,J,b6,dv,D⟩:=zz;let EX:XK:=fun C _ n=>∃c U' O',X.mg c=some C/\aD X.K F n Y U' O'/\E c U';have h:∀x j,y x=none->y j=none->j≠x->fq X.K X.mg f (.ref x::vs) (aL (aL y j (.own x)) x (.ins C j [])) (fun v H2=>v=.non/\Q (.ref x) H2) EX:=fun x j h1 h2 a1=>by
  obtain⟨W,a2,a9⟩:=id J;have a3:∀a∈t,∃o,y a=some o/\Mv o:=fun a h=>a2.live a (by rw[<-a9];exact h);have nx:x∉t:=fun z=>by obtain⟨o,e,_⟩:=a3 x z;rw[h1]at e;cases e
  have b7:j∉t:=fun z=>by obtain⟨o,e,_⟩:=a3 j z;rw[h2]at e;cases e
  have a4:t.Nodup:=by rw[a9];exact a2.nd
  have up:∀b o,y b=some o->aL (aL y j (.own x)) x (.ins C j []) b=some o:=fun b o e=>by rw[bB (fun z=>by subst z;rw[h1]at e;cases e),bB (fun z=>by subst z;rw[h2]at e;cases e)];exact e
  have fl:(([x,j]::T.map fun _=>([]:List Addr)).flatten++t)=x::j::t:=by rw[q0g,rZ];rfl
  have hid:bY (au t y) (au (x::j::t) (aL (aL y j (.own x)) x (.ins C j []))):=fun b o e=>by
   obtain⟨Z,n1⟩:=cK e;refine iV (up b o Z) fun z=>?_;rcases q0b.mp z with z |z
   .subst z;rw[h1]at Z;cases Z
   .rcases q0b.mp z with z |z
    .subst z;rw[h2]at Z;cases Z
    .exact n1 z
  refine⟨(hx.1.at J).mono fun b u _ e=>up b u e,.own true (.o C [])::T.map .dat,[x,j]::T.map fun _=>[],t,?_,?_,?_,?_⟩
  .rw[fl];exact .own ⟨j,[],[],rfl,cG,by rw[bB a1,cG],.nil⟩ (PZ (aG.mono hid dv))
  .rw[fl];refine q0I.mpr ⟨fun z=>?_,q0I.mpr ⟨b7,a4⟩⟩;rcases q0b.mp z with z |z
   .exact a1 z.symm
   .exact nx z
  .rw[fl];intro a l;rcases q0b.mp l with rfl |l
   .exact⟨.ins C j [],cG,trivial⟩
   .rcases q0b.mp l with rfl |l
    .exact⟨.own x,by rw[bB a1,cG],trivial⟩
    .obtain⟨o,Z,e2⟩:=a3 a l;exact⟨o,up a o Z,e2⟩
  .unfold wp pE at D;have hL:([x,j]::T.map fun _=>([]:List Addr)).flatten=[x,j]:=by rw[q0g,rZ];rfl
   have b0:aD X.K (F.plus []) y Y U1 t:=J;have lift:∀(n:Hp) (L':List Addr),kg (aL (aL y j (.own x)) x (.ins C j [])) n [x,j] L' t->∃S,aD X.K (F.plus L') n Y U1 S/\aQ t y S n/\(∀a∈L',a∈S)/\(∀a∈S,a∈L'\/a∈t)/\∀a∈L',a∈F.A₀\/F.H₀ a=none:=fun n L' B=>by
    have new1:∀a∈L',y a=none:=fun a l=>by
     rcases B.new a l with z |z
     .simp only[q0b,q0e,or_false]at z;rcases z with rfl |rfl
      .exact h1
      .exact h2
     .cases e:y a with
      |none=>rfl
      |some o=>rw[up a o e]at z;cases z
    obtain⟨S,t1,t2,t3,t4,_⟩:=b0.swap (L':=L') (H':=n) (fun b o _ e=>B.keep b o (fun z=>by
     simp only[q0b,q0e,or_false]at z;rcases z with rfl |rfl
     .rw[h1]at e;cases e
     .rw[h2]at e;cases e) (up b o e)) (q0j.mp B.nd).1 (fun a l=>.inr (new1 a l)) (fun a h=>by cases h) B.live
    refine⟨S,t1,t2,t3,fun a l=>(t4 a l).imp id (·.1),fun a l=>?_⟩
    by_cases hA:a∈F.A₀
    .exact .inl hA
    .refine .inr ?_;cases e:F.H₀ a with
     |none=>rfl
     |some o=>have:=a2.kept a o hA e;rw[new1 a l]at this;cases this
   cases hf:f (.own true (.o C [])::T.map .dat) with
   |bad=>rw[hf]at D;exact D
   |ex c N=>rw[hf]at D;intro C' n b1 a5 b2 B;rw[hL]at B;obtain⟨S,t1,t2,t3,t4,t5⟩:=lift n [] ⟨a4,fun a h=>(by cases h),B.keep,fun a h=>(by cases h)⟩;exact⟨c,U1,S,a5,t1,D⟩
   |rt c N=>
    rw[hf]at D;intro v n fp b1 b8 b2 B;rw[hL]at B;obtain⟨b',rfl,rfl⟩:∃b',c=.dat .none/\N=[b']:=by
     cases c with
     |dat d=>cases d with
      |none=>cases N with
       |nil=>exact D.elim
       |cons b r=>cases r with
        |nil=>exact⟨b,rfl,rfl⟩
        |cons _ _=>exact D.elim
      |_=>exact D.elim
     |_=>exact D.elim
    .
     have hv:v=.non:=DV.non_inv b8;cases b2 with
     |skip b9 _=>exact absurd rfl (b9 _ _)
     | @own _ _ _ _ a6 _ _ _ c2 b3 a7=>
      obtain⟨_,rfl⟩:=Qa (a:=0) (b:=b') a7;refine⟨hv,?_⟩;simp only[q0g,List.flatten_nil,q0F]at b3 B;have c0:kg (aL (aL y j (.own x)) x (.ins C j [])) n [x,j] a6 t:=⟨by
       have n1:=B.nd;rw[q0k]at n1;obtain⟨m1,m2,m3⟩:=q0j.mp n1;exact q0j.mpr ⟨m1,a4,fun a l b hb=>m3 a l b (bp _ hb)⟩,fun a l=>B.live a (bC _ l),B.keep,fun a l=>B.new a (bC _ l)⟩
      obtain⟨S,t1,t2,t3,t4,t5⟩:=lift n a6 c0;refine D (.ref x) n S a6 ⟨t1,⟨x,rfl,b3.keep (fun _ _=>rfl) (rA fun a l=>?_)⟩,t5⟩ (b6.trans t2);rcases t4 a l with z |z
      .exact bC _ (bC _ z)
      .exact bp _ z
 have hq:=h (L.heap.objs.size+1) L.heap.objs.size (I1.hok.fresh (q1u _)) (I1.hok.fresh (ba _)) (q0t (q05 _));have I2:=Inv.made (C:=C) I1;have r2:bi (V.ref (L.heap.objs.size+1)::vs) (Value.ref (L.heap.objs.size+1)::us):=.cons rfl r;have hl:(Value.ref (L.heap.objs.size+1)::us++[]).length=ps.length:=by have e:=r2.length;rw[G.len _ _ _ _ hq]at e;rw[q0F];exact e.symm
 refine wpAny_call (JT (f:=g) I1.kIn M.makes M.init (beq_iff_eq.mp M.fn) (codeAny_mono (G.run _ X.stack _ _ ⟨Value.ref (L.heap.objs.size+1)::us,[]⟩ (Value.ref (L.heap.objs.size+1)::us) _ _ EX (hr.make C us [])
  (I2.env0.make C us []) (by have:=hb _ (Value.ref (L.heap.objs.size+1)::us) I2.kIn hl;rw[q0F]at this;exact this) r2 hq) fun r s' R=>?_))
 cases r with
 |error e=>obtain⟨a,C',n,Z,I',cv,ex,c,U',O',a5,c1,hE⟩:=I2.flies R;exact hx.2 a0 Y n s' e c U' O' ⟨I',a,C',_,_,Z,cv,ex,a5⟩ c1 hE
 |ok fl=>
  cases fl with
  |ret u=>obtain⟨v,n,I3,rv,ev,q3⟩:=I2.after R;subst ev;exact⟨rv,⟨V.ref (L.heap.objs.size+1),n,I3,rfl,q3⟩⟩
  |next=>exact False.elim R
  |brk=>exact False.elim R
  |cont=>exact False.elim R
noncomputable def wB:Fl->Bool
 |.d _=>false
 |_=>true
theorem Qc(h:gH G H v x f)(i:wB x=true):∃b,v=.ref b/\f=[b]:=by
 cases x with
 |d _=>cases i
 |l ds=>obtain⟨a,j,c,e,_⟩:=h;exact⟨a,c,e⟩
 |m k g=>obtain⟨a,c,e,_⟩:=h;exact⟨a,c,e⟩
theorem Qd(I:wB x=true):∀{m fs a},bq G H m fs a->fs.lookup f=some x->a.flatten.Nodup->
  ∃b,m.lookup f=some (.ref b)/\gH G H (.ref b) x [b]/\b∈a.flatten/\∀j l  o,bY G j->(∀c∈a.flatten,c≠b->l c=H c)->gH j l (.ref b) o [b]->bq j l m (bO f o fs) a:=by
 intro m fs a h
 induction h with
 |nil=>intro p;cases p
 | @cons n v y J m fs a h1 h2 w=>
  intro p u;rw[q0g]at u;obtain⟨L,A,r⟩:=q0j.mp u
  by_cases e:f=n
  .subst e;have B:=by simpa[List.lookup] using p
   subst B;obtain⟨b,rfl,rfl⟩:=Qc h1 I;refine⟨b,by simp,h1,by simp,fun j l o g k d=>?_⟩;unfold bO;rw[if_pos rfl];refine .cons d (h2.keep (fun c i=>k c (by rw[q0g];exact bp _ i) fun z=>?_) g);exact r b (by simp) c i z.symm
  .have s:(f==n)=false:=by simpa using e
   rw[q0s,s]at p;obtain⟨b,C,D,t,E⟩:=w p A;refine⟨b,by rw[q0s,s];exact C,D,by rw[q0g];exact bp _ t,fun j l o g k d=>?_⟩;unfold bO;rw[if_neg (fun z=>e z.symm)];refine .cons (h1.keep (fun c i=>k c (by rw[q0g];exact bC _ i) fun z=>?_) g) (E j l o g (fun c i q=>k c (by rw[q0g];exact bp _ i) q) d);exact r c i b t z
theorem aD.fldUp{K}(st:aD K F H Y U O)(T:cb C U i=some (io,fs))(lk:fs.lookup f=some x)(w:wB x=true) :
  ∃a d h b,Y[i]? = some (some (.ref a))/\H a=some (.ins C d h)/\h.lookup f=some (.ref b)/\gH (au O H) H (.ref b) x [b]/\
   ∀g  j,Mv g->(∀G,bY (au O H) G->gH G (aL H b g) (.ref b) j [b])->∃k,aD K F (aL H b g) Y (U.set i (some (.own io (.o C (bO f j fs))))) k/\aQ O H k (aL H b g):=by
 obtain⟨a,X,n,⟨d,h,l,y,v,A,B⟩,Z,nd,up⟩:=st.boxN (kw T);subst y;have m:=nd;rw[q0I,q0I]at m;obtain⟨D,p,E⟩:=m;obtain⟨b,I,J,q,L⟩:=Qd w B lk E;refine⟨a,d,h,b,n,v,I,J,fun g j hM Q=>?_⟩;obtain⟨k,r,R,_⟩:=up (aL H b g) (.o C (bO f j fs)) (a::d::l.flatten) (fun c o t e=>by rw[bB (fun z=>t (by rw[z];exact bt _ (bt _ q)))];exact e) nd (fun c t=>.inl t) (fun G k s S _=>by
  subst S;exact⟨s.hid,d,h,l,rfl,by rw[bB (fun z=>D (by rw[z];exact bt _ q))];exact v,by rw[bB (fun z=>p (by rw[z];exact q))];exact A,L _ _ j s.hid (fun c _ u=>bB u) (Q _ s.hid)⟩)
 exact⟨k,r,R⟩
def se(C:Addr)(i:Nat)(f:Str)(d:PyData):SM:=fun U=>match cb C U i with
 |some (io,fs)=>(match fs.lookup f with
  |some (.l ds)=>if ds.length<sizeLine then .nx (U.set i (some (.own io (.o C (bO f (.l (ds++[d])) fs))))) else .bad
  |_=>.bad)
 |none=>.bad
noncomputable def gc(U:aj)(j:Nat):Option PyData:=match U[j]? with
 |some (some (.dat d))=>some d
 |_=>none
theorem pF(h:gc U j=some d):U[j]? = some (some (.dat d)):=by
 unfold gc at h;split at h
 .rename_i e;cases h;exact e
 .cases h
def pG(C:Addr)(i:Nat)(f:Str)(j:Nat):SM:=fun U=>match gc U j with
 |some d=>se C i f d U
 |none=>.bad
theorem Qe{F:Fx}{E:Str->aj->Prop}{pos:Pos}{apos:Pos}{cpos:Pos}{fpos:Pos}(cl:dB X.K C)(R:cJ X.K C f)(S:PE X (.Name x p1) (bZ i))(T:PE X (.Name y k) (bZ j))(hb:autoParam (attributeBase (.Name x p1) f X.env (eval (.Name x p1) X.env)=eval (.Name x p1) X.env) Zq._auto_1)
  (B:autoParam (swapsWith (.Call (.Attribute (.Attribute (.Name x p1) f fpos) "append" apos) [.Name y k] [] cpos) none pos.line X.env=pure false) Zq._auto_1)
  (n:autoParam (attributeBase (.Attribute (.Name x p1) f fpos) "append" X.env (eval (.Attribute (.Name x p1) f fpos) X.env)=eval (.Attribute (.Name x p1) f fpos) X.env) Zq._auto_1)
  (t:autoParam (((backTo cpos (starEach [.Name y k] X.env)).all (fun x=>!x.1)&&(backToKw cpos (keywordEach [] X.env)).all (fun x=>x.1.isSome)&&decide (([.Name y k]:List Expr).length+([]:List Keyword).length+(if ([]:List Keyword).isEmpty then 0 else 1)<30))=true) Zq._auto_1)
  (o:autoParam ((apos.endLine==cpos.line)=true) Zq._auto_1) (Q:autoParam (starEach [.Name y k] X.env=(false,eval (.Name y k) X.env)::starEach [] X.env) Zq._auto_1) (h:autoParam ((backTo cpos (starEach [] X.env)).any (·.1)=false) Zq._auto_1) :
  FS X F E (.Expr (.Call (.Attribute (.Attribute (.Name x p1) f fpos) "append" apos) [.Name y k] [] cpos) pos) (pG C i f j):=
 (uG (uZ q1L q2p q2q zy (jX S hb) (eM T fS Q) n t o Q h) B).imp fun D Y H u=>by
  obtain⟨U,O,DD,st,q,Z⟩:=u;unfold wpS pG at q;cases r:gc U j with
  |none=>rw[r]at q;exact q.elim
  |some d=>
   rw[r]at q;unfold se at q;cases ho:cb C U i with
   |none=>rw[ho]at q;exact q.elim
   |some p=>
    obtain⟨io,fs⟩:=p;rw[ho]at q;simp only at q;cases s:fs.lookup f with
    |none=>rw[s]at q;exact q.elim
    |some z=>
     rw[s]at q;cases z with
     |d _=>exact q.elim
     |m _ _=>exact q.elim
     |l ds=>
      simp only at q
      by_cases I:ds.length<sizeLine
      .rw[if_pos I]at q;obtain⟨a0,dx,gs,b0,J,e2,q1,⟨b1,A,eb,_,N,v⟩,up⟩:=st.fldUp ho s rfl;cases eb;obtain⟨w,hw,L⟩:=st.dat (pF r);obtain⟨O2,M,s2⟩:=up (.lst (A++[w])) (.l (ds++[d])) trivial (fun G g=>⟨b0,A++[w],rfl,rfl,cG,(aG.mono g v).append (.cons (DV.mono g L) .nil)⟩);exact⟨_,J,a0,C,dx,gs,.ref b0,rfl,e2,cl,R,q1,.inl ⟨rfl,A,.of N⟩,w,hw,b0,A,w,rfl,rfl,N,by rw[v.length];exact I,Z.nx _ _ _ _ M s2 q⟩
      .rw[if_neg I]at q;exact q.elim
def pH(C:Addr)(i:Nat)(f:Str)(j l:Nat)(v:PyData):SM:=fun U=>match cb C U i,gc U j,gc U l with
 |some (io,fs),some y,some z=>(match fs.lookup f,pq true (.tuple [y,z]) with
  |some (.m true d),some k=>if d.length<sizeLine then .nx (U.set i (some (.own io (.o C (bO f (.m true (lp true d (.tuple [y,z]) k v)) fs))))) else .bad
  |_,_=>.bad)
 |_,_,_=>.bad
def sf(C:Addr)(i:Nat)(f:Str)(j l:Nat)(m:XM PyData):SM:=fun U=>eQ (m U) (pH C i f j l)
theorem Qf{pos:Pos}{fpos:Pos}{p4 r}{kx}(hu:X.A.units+1<cLine)(cl:dB X.K C)(na:cJ X.K C f)(hv:PE X (.Name x p1) (bZ i))(hy:PE X (.Name y w) (bZ j))(hz:PE X (.Name z s) (bZ l))(he:FE X F E e m)(hb:autoParam (attributeBase (.Name x p1) f X.env (eval (.Name x p1) X.env)=eval (.Name x p1) X.env) Zq._auto_1)
  (h1:autoParam (starEach [.Name y w,.Name z s] X.env=(false,eval (.Name y w) X.env)::starEach [.Name z s] X.env) Zq._auto_1) (h2:autoParam (starEach [.Name z s] X.env=(false,eval (.Name z s) X.env)::starEach [] X.env) Zq._auto_1)
  (hs:autoParam (swapsWith e (some (.Subscript (.Attribute (.Name x p1) f fpos) (.Tuple [.Name y w,.Name z s] kx p4) r)) pos.line X.env=pure false) Zq._auto_1) :
  FS X F E (.Assign [.Subscript (.Attribute (.Name x p1) f fpos) (.Tuple [.Name y w,.Name z s] kx p4) r] e pos) (sf C i f j l m):=
 (Lf hu (jX hv hb) (zc (eM hy (eM hz fS h2) h1)) he.pe hs).imp fun D Y H zz=>by
 obtain⟨U,O,DD,st,q,fD⟩:=zz;exact⟨U,O,st,aC _ _ _ (fun v N h vy H1 O1 n s1 d1=>by
  unfold wpS pH at h;cases ho:cb C N i with
  |none=>rw[ho]at h;exact h.elim
  |some p=>
   obtain⟨io,fs⟩:=p;cases L:gc N j with
   |none=>rw[ho,L]at h;exact h.elim
   |some y0=>
    cases Q:gc N l with
    |none=>rw[ho,L,Q]at h;exact h.elim
    |some z0=>
     rw[ho,L,Q]at h;simp only at h;cases o:fs.lookup f with
     |none=>rw[o]at h;exact h.elim
     |some t=>
      rw[o]at h;cases t with
      |d _=>exact h.elim
      |l _=>exact h.elim
      |m tk B=>
       cases tk with
       |false=>exact h.elim
       |true=>
        cases R:pq true (.tuple [y0,z0]) with
        |none=>rw[R]at h;exact h.elim
        |some k=>
         rw[R]at h;simp only at h
         by_cases u:B.length<sizeLine
         .rw[if_pos u]at h;obtain⟨a0,dx,gs,b0,I,e2,l1,_,_⟩:=n.fldUp ho o rfl;obtain⟨w1,S,T⟩:=n.dat (pF L);obtain⟨w2,Z,a2⟩:=n.dat (pF Q);refine⟨_,I,a0,C,dx,gs,.ref b0,rfl,e2,cl,na,l1,w1,S,w2,Z,show 2<=sizeLine by decide,fun p hp=>?_⟩;have M:bY H1 (aL H1 p (.tup [w1,w2])):=bS hp;obtain⟨a1,a6,a7,b1,J,e3,l2,⟨b2,eb,_,a4⟩,up⟩:=(n.grow M).fldUp ho o rfl;rw[I]at J;cases J;rw[M _ _ e2]at e3;cases e3;rw[l1]at l2;cases l2;cases eb;obtain⟨o',g1,mv,g2⟩:=Pz a4 rz (mj hp (n.nofree p hp) (.cons T (.cons a2 .nil))) (DV.mono (oQ M) d1) R u;obtain⟨O3,a5,s3⟩:=up o' (.m true (lp true B (.tuple [y0,z0]) k v)) mv (fun G g=>⟨b0,rfl,rfl,g2 G g⟩);exact⟨b0,_,rfl,g1,fD.nx _ _ _ _ a5 (s1.trans ((aQ.same M).trans s3)) h⟩
         .rw[if_neg u]at h;exact h.elim) (gU q)⟩
def pI(C:Addr)(i:Nat)(f:Str)(j:Nat):XM PyData:=fun U=>match cb C U i,gc U j with
 |some (_,fs),some (.int k)=>(match fs.lookup f with
  |some (.l ds)=>lift (bL ds k) U
  |some (.d (.list ds))=>lift (bL ds k) U
  |some (.d (.tuple ds))=>.bad
  |_=>.bad)
 |_,_=>.bad
theorem BW(h:aG G l g)(e:bL g k=some d):∃v,bL l k=some v/\DV G v d:=by
 unfold bL at e ⊢;rw[h.length];cases n:cT g.length k with
 |none=>rw[n]at e;cases e
 |some j=>rw[n]at e;exact h.get e
theorem Qg{F:Fx}{E:Str->aj->Prop}{pos:Pos}{fpos:Pos}(cl:dB X.K C)(S:cJ X.K C f)(Z:PE X (.Name x p1) (bZ i))(hy:PE X (.Name y u) (bZ j))(hb:autoParam (attributeBase (.Name x p1) f X.env (eval (.Name x p1) X.env)=eval (.Name x p1) X.env) Zq._auto_1)(hs:nh (.Name y u):=by intro _ _;rfl) :
  FE X F E (.Subscript (.Attribute (.Name x p1) f fpos) (.Name y u) pos) (pI C i f j):=
 ⟨aC,(rm rn (jX Z hb) hy hs).imp fun Y H Q r=>by
  obtain⟨U,O,st,q⟩:=r;unfold wp pI at q;cases ho:cb C U i with
  |none=>rw[ho]at q;exact q.elim
  |some p=>
   obtain⟨io,fs⟩:=p;cases z:gc U j with
   |none=>rw[ho,z]at q;exact q.elim
   |some y0=>
    rw[ho,z]at q;cases y0 with
    |int k=>
     simp only at q;obtain⟨w,T,dw⟩:=st.dat (pF z);obtain rfl:=dw.int_inv;cases g:fs.lookup f with
     |none=>rw[g]at q;exact q.elim
     |some t=>
      rw[g]at q;cases t with
      |m _ _=>exact q.elim
      |l ds=>obtain⟨R,A,B,b0,h,D,l1,⟨G,I,eb,_,J,n⟩,_⟩:=st.fldUp ho g rfl;cases eb;obtain⟨d,s,L⟩:=cV q;obtain⟨v,M,N⟩:=BW n s;exact⟨_,h,R,C,A,B,.ref b0,rfl,D,cl,S,l1,_,T,b0,I,k,v,rfl,rfl,.of J,M,L v H O st .refl N⟩
      |d x0=>
       cases x0 with
       |list ds=>
        obtain⟨R,fp,h,⟨A,B,a1,s,D,e3,e4⟩,_,_⟩:=st.box (kw ho);rcases lv e4 f with⟨_,l2⟩ |⟨v,y1,a2,l1,l2,l3,_⟩
        .rw[g]at l2;cases l2
        .rw[g]at l2;cases l2;obtain⟨G,I,rfl,J,n⟩:=l3.2.lst_inv;obtain⟨d,s,L⟩:=cV q;obtain⟨v,M,N⟩:=BW n s;exact⟨_,h,R,C,A,B,.ref G,rfl,D,cl,S,l1,_,T,G,I,k,v,rfl,rfl,.of (cK J).1,M,L v H O st .refl N⟩
       |_=>exact q.elim
    |_=>exact q.elim⟩
def pJ(C:Addr)(i:Nat)(f:Str)(j:Nat)(v:PyData):SM:=fun U=>match cb C U i,gc U j with
 |some (io,fs),some (.int k)=>(match fs.lookup f with
  |some (.l ds)=>(match cT ds.length k with
   |some n=>.nx (U.set i (some (.own io (.o C (bO f (.l (ds.set n v)) fs)))))
   |none=>.bad)
  |_=>.bad)
 |_,_=>.bad
def sg(C:Addr)(i:Nat)(f:Str)(j:Nat)(m:XM PyData):SM:=fun U=>eQ (m U) (pJ C i f j)
theorem wC(hd:DV G v d):∀{g j} n,aG G g j->aG G (g.set n v) (j.set n d)
 |_,_,_,.nil=>.nil
 |_,_,0,.cons _ t=>.cons hd t
 |_,_,n+1,.cons h t=>.cons h (wC hd n t)
theorem Qh{pos:Pos}{fpos:Pos}{h}(cl:dB X.K C)(T:cJ X.K C f)(Z:PE X (.Name x p1) (bZ i))(hy:PE X (.Name y r) (bZ j))(he:FE X F E e m)(hb:autoParam (attributeBase (.Name x p1) f X.env (eval (.Name x p1) X.env)=eval (.Name x p1) X.env) Zq._auto_1)
  (hs:autoParam (swapsWithSole [.Subscript (.Attribute (.Name x p1) f fpos) (.Name y r) h] e pos.line X.env=pure false) Zq._auto_1) (hw:autoParam (swappedStores [.Subscript (.Attribute (.Name x p1) f fpos) (.Name y r) h] e X.env=pure none) Zq._auto_1)
  (h1:autoParam ((assignEach [.Subscript (.Attribute (.Name x p1) f fpos) (.Name y r) h] X.env).map (·.2)=[assign (.Subscript (.Attribute (.Name x p1) f fpos) (.Name y r) h) X.env]) Zq._auto_1)
  (hq:autoParam (∀v,assign (.Subscript (.Attribute (.Name x p1) f fpos) (.Name y r) h) X.env v=(do
   let A <-holding [v] (eval (.Attribute (.Name x p1) f fpos) X.env);let B <-holding [v,A] (eval (.Name y r) X.env)
   standAt h
   holding [v,A,B] (setItem A B v)
   release [v,A,B] [])) Zs._auto_1) :
  FS X F E (.Assign [.Subscript (.Attribute (.Name x p1) f fpos) (.Name y r) h] e pos) (sg C i f j m):=
 (yJ he.pe (yI (jX Z hb) hy zr hq) hs hw h1).imp fun D Y H zz=>by
 obtain⟨U,O,DD,st,q,fD⟩:=zz;exact⟨U,O,st,aC _ _ _ (fun v R o S H1 O1 u s1 d1=>by
  unfold wpS pJ at o;cases ho:cb C R i with
  |none=>rw[ho]at o;exact o.elim
  |some p=>
   obtain⟨io,fs⟩:=p;cases I:gc R j with
   |none=>rw[ho,I]at o;exact o.elim
   |some y0=>
    rw[ho,I]at o;cases y0 with
    |int k=>
     simp only at o;cases s:fs.lookup f with
     |none=>rw[s]at o;exact o.elim
     |some t=>
      rw[s]at o;cases t with
      |d _=>exact o.elim
      |m _ _=>exact o.elim
      |l ds=>
       simp only at o;cases J:cT ds.length k with
       |none=>rw[J]at o;exact o.elim
       |some n=>rw[J]at o;obtain⟨w,L,dw⟩:=u.dat (pF I);obtain rfl:=dw.int_inv;obtain⟨a0,dx,gs,b0,M,e2,l1,⟨b1,N,eb,_,hH,z⟩,up⟩:=u.fldUp ho s rfl;cases eb;obtain⟨O2,Q,s2⟩:=up (.lst (N.set n S)) (.l (ds.set n v)) trivial (fun G g=>⟨b0,N.set n S,rfl,rfl,cG,wC (DV.mono g d1) n (aG.mono g z)⟩);exact⟨_,M,a0,C,dx,gs,.ref b0,rfl,e2,cl,T,l1,_,L,b0,N,k,n,rfl,rfl,hH,by rw[z.length];exact J,fD.nx _ _ _ _ Q (s1.trans s2) o⟩
    |_=>exact o.elim) (gU q)⟩
def sh(C:Addr)(i:Nat)(f:Str)(n:Int):SM:=fun U=>match cb C U i with
 |some (io,fs)=>(match fs.lookup f with
  |some (.d (.int v))=>if fs.length<1000 then .nx (U.set i (some (.own io (.o C (bO f (.d (.int (v+n))) fs))))) else .bad
  |_=>.bad)
 |none=>.bad
theorem Qi(cl:dB X.K C)(S:cJ X.K C f)(T:PE X (.Name x p1) (bZ i))(Z:PE X e (fun Y H Q=>Q (.int n) H)):FS X F E (.AugAssign (.Attribute (.Name x p1) f k) .Add e pos) (sh C i f n):=
 (JZ T Z Kb).imp fun D Y H r=>by
  obtain⟨U,O,DD,st,q,fD⟩:=r;unfold wpS sh at q;cases ho:cb C U i with
  |none=>rw[ho]at q;exact q.elim
  |some p=>
   obtain⟨io,fs⟩:=p;rw[ho]at q;simp only at q;cases g:fs.lookup f with
   |none=>rw[g]at q;exact q.elim
   |some t=>
    rw[g]at q;cases t with
    |l _=>exact q.elim
    |m _ _=>exact q.elim
    |d x0=>
     cases x0 with
     |int v0=>
      simp only at q
      by_cases A:fs.length<1000
      .rw[if_pos A]at q;obtain⟨y,fp,B,⟨j,u,h,e1,R,e3,I⟩,hO,nd,up⟩:=st.boxN (kw ho);subst e1;rcases lv I f with⟨_,l2⟩ |⟨v,y1,a1,l1,l2,l3,_⟩
       .rw[g]at l2;cases l2
       .rw[g]at l2;cases l2;obtain rfl:=l3.2.int_inv;obtain⟨O3,L,s3,_⟩:=up (aL H y (.ins C j (cS f (.int (v0+n)) u))) (.o C (bO f (.d (.int (v0+n))) fs)) (y::j::h.flatten) (fun c o M e=>by rw[bB (fun z=>M (by simp[z]))];exact e) nd (fun c N=>.inl N) (fun G O' s hG _=>by
         subst hG;refine⟨s.hid,j,cS f (.int (v0+n)) u,if (fs.lookup f).isSome=true then h else h++[[]],?_,cG,by rw[bB (fun z=>by subst z;simp at nd)];exact e3,?_⟩
         .split
          .rfl
          .simp
         .refine I.putD (by rw[g];rfl) (.int _) s.hid fun c N=>bB (fun z=>?_);subst z;exact absurd N (fun w=>(q0I.mp nd).1 (bt _ w)))
        exact⟨_,B,y,C,j,u,_,rfl,R,cl,S,l1,v0,n,rfl,rfl,j,u,R,by rw[I.len];exact A,fD.nx _ _ _ _ L s3 q⟩
      .rw[if_neg A]at q;exact q.elim
     |_=>exact q.elim
theorem Qj:∀{b fs a},bq G H b fs a->fs.lookup f=none->bY G d->(∀c∈a.flatten,i c=H c)->gH d i (.ref p) y [p]->bq d i (cS f (.ref p) b) (bO f y fs) (a++[[p]]):=by
 intro b fs a h
 induction h with
 |nil=>exact fun _ _ _ h=>.cons h .nil
 | @cons n v z q b fs a h1 h2 m=>
  intro j g k h
  by_cases e:f=n
  .subst e;simp[List.lookup]at j
  .have o:(f==n)=false:=by simpa using e
   rw[q0s,o]at j;unfold cS bO;rw[if_neg (fun z=>e z.symm),if_neg (fun z=>e z.symm)];exact .cons (h1.keep (fun c l=>k c (by rw[q0g];exact bC _ l)) g) (m j g (fun c l=>k c (by rw[q0g];exact bp _ l)) h)
theorem aD.fldNew{K}(st:aD K F H Y U O)(S:cb C U i=some (io,fs))(lk:fs.lookup f=none) :
  ∃a d g,Y[i]? = some (some (.ref a))/\H a=some (.ins C d g)/\g.length=fs.length/\
   ∀p  h  y,H p=none->Mv h->(∀G,bY (au O H) G->gH G (aL (aL H p h) a (.ins C d (cS f (.ref p) g))) (.ref p) y [p])->aL H p h a=some (.ins C d g)/\∃l,aD K F (aL (aL H p h) a (.ins C d (cS f (.ref p) g))) Y (U.set i (some (.own io (.o C (bO f y fs))))) l/\aQ O H l (aL (aL H p h) a (.ins C d (cS f (.ref p) g))):=by
 obtain⟨a,T,n,⟨d,g,j,D,q,v,w⟩,E,nd,up⟩:=st.boxN (kw S);subst D;have m:=nd;rw[q0I,q0I]at m;obtain⟨r,t,I⟩:=m;have ad:d≠a:=fun z=>r (by rw[z];exact q0f);refine⟨a,d,g,n,q,w.len,fun p h y k X J=>?_⟩;have pa:a≠p:=fun z=>by subst z;rw[q]at k;cases k
 have A:d≠p:=fun z=>by subst z;rw[v]at k;cases k
 have B:p∉j.flatten:=fun z=>absurd (E p (bt _ (bt _ z))) (st.nofree p k)
 refine⟨by rw[bB pa];exact q,?_⟩;obtain⟨l,u,M,_⟩:=up (aL (aL H p h) a (.ins C d (cS f (.ref p) g))) (.o C (bO f y fs)) (a::d::(j++[[p]]).flatten) (fun c o b e=>by
   rw[bB (fun z=>b (by simp[z])),bB (fun z=>by subst z;rw[k]at e;cases e)];exact e) (by
   rw[q1B];refine q0I.mpr ⟨fun z=>?_,q0I.mpr ⟨fun z=>?_,q0j.mpr ⟨I,by simp,fun x N y Q=>?_⟩⟩⟩
   .rcases q0b.mp z with z |z
    .exact ad z.symm
    .rcases q0d.mp z with z |z
     .exact r (bt _ z)
     .exact pa (q0i.mp z)
   .rcases q0d.mp z with z |z
    .exact t z
    .exact A (q0i.mp z)
   .rw[q0i.mp Q];exact fun z=>B (by rw[<-z];exact N)) (fun c b=>by
   rw[q1B]at b;rcases q0b.mp b with rfl |b
   .exact .inl q0f
   .rcases q0b.mp b with rfl |b
    .exact .inl (by simp)
    .rcases q0d.mp b with b |b
     .exact .inl (bt _ (bt _ b))
     .exact .inr (by rw[q0i.mp b];exact k)) (fun G l s R _=>by
  subst R;refine⟨s.hid,d,cS f (.ref p) g,j++[[p]],rfl,cG,by rw[bB ad,bB A];exact v,Qj w lk s.hid (fun c b=>?_) (J _ s.hid)⟩;rw[bB (fun z=>r (by rw[<-z];exact bt _ b)),bB (fun z=>B (by rw[<-z];exact b))])
 exact⟨l,u,M⟩
def mE(C:Addr)(i:Nat)(f:Str)(y:Fl):SM:=fun U=>match cb C U i with
 |some (io,fs)=>if fs.lookup f=none/\fs.length<1000 then .nx (U.set i (some (.own io (.o C (bO f y fs))))) else .bad
 |none=>.bad
theorem Qk(cl:dB X.K C)(r:cJ X.K C f)(s:PE X (.Name x p1) (bZ i))(I:autoParam (swapsWith (.List [] p2) (some (.Attribute (.Name x p1) f pos')) pos.line X.env=pure false) Zq._auto_1):FS X F E (.Assign [.Attribute (.Name x p1) f pos'] (.List [] p2) pos) (mE C i f (.l [])):=
 (rg s (rh fS) I).imp fun D Y H d=>by
  obtain⟨U,O,L,st,q,t⟩:=d;unfold wpS mE at q;cases ho:cb C U i with
  |none=>rw[ho]at q;exact q.elim
  |some p=>
   obtain⟨io,fs⟩:=p;rw[ho]at q;simp only at q
   by_cases h:fs.lookup f=none/\fs.length<1000
   .rw[if_pos h]at q;obtain⟨o,u,v,j,w,y,A⟩:=st.fldNew ho h.1;refine⟨q0Y _,fun p k=>?_⟩;obtain⟨J,M,n,B⟩:=A p (.lst []) (.l []) k trivial (fun G g=>⟨p,[],rfl,rfl,by rw[bB (fun z=>(fun z=>by subst z;rw[w]at k;cases k) z.symm),cG],.nil⟩);exact⟨_,j,o,C,u,v,rfl,J,cl,r,by rw[y];exact h.2,t.nx _ _ _ _ n B q⟩
   .rw[if_neg h]at q;exact q.elim
theorem Ql(cl:dB X.K C)(o:cJ X.K C f)(r:PE X (.Name x p1) (bZ i))(B:autoParam (swapsWith (.Dict [] [] p2) (some (.Attribute (.Name x p1) f pos')) pos.line X.env=pure false) Zq._auto_1):FS X F E (.Assign [.Attribute (.Name x p1) f pos'] (.Dict [] [] p2) pos) (mE C i f (.m true [])):=
 (rg r Li B).imp fun D Y H d=>by
  obtain⟨U,O,J,st,q,s⟩:=d;unfold wpS mE at q;cases ho:cb C U i with
  |none=>rw[ho]at q;exact q.elim
  |some p=>
   obtain⟨io,fs⟩:=p;rw[ho]at q;simp only at q
   by_cases h:fs.lookup f=none/\fs.length<1000
   .rw[if_pos h]at q;obtain⟨n,t,u,j,v,w,y⟩:=st.fldNew ho h.1;intro p k;obtain⟨I,L,l,A⟩:=y p (.dT []) (.m true []) k trivial (fun G g=>⟨p,rfl,rfl,[],by rw[bB (fun z=>(fun z=>by subst z;rw[v]at k;cases k) z.symm),cG],.nil⟩);exact⟨_,j,n,C,t,u,rfl,I,cl,o,by rw[w];exact h.2,s.nx _ _ _ _ l A q⟩
   .rw[if_neg h]at q;exact q.elim
def si(C:Addr)(i:Nat)(f:Str):XM PyData:=fun U=>match cb C U i with
 |some (_,fs)=>(match fs.lookup f with
  |some (.l ds)=>.ok (.list ds) U
  |_=>.bad)
 |none=>.bad
theorem Qm{F:Fx}{E:Str->aj->Prop}{pos:Pos}{fpos:Pos}{s}(u:Gl X "list")(v:X.mg "list" = none)(cl:dB X.K C)(w:cJ X.K C f)(y:PE X (.Name x p1) (bZ i))(J:autoParam (attributeBase (.Name x p1) f X.env (eval (.Name x p1) X.env)=eval (.Name x p1) X.env) Zq._auto_1)
  (r:autoParam (starEach [.Attribute (.Name x p1) f fpos] X.env=(false,eval (.Attribute (.Name x p1) f fpos) X.env)::starEach [] X.env) Zq._auto_1) (k:autoParam ((backTo pos (starEach [] X.env)).any (·.1)=false) Zq._auto_1) :
  FE X F E (.Call (.Name "list" s) [.Attribute (.Name x p1) f fpos] [] pos) (si C i f):=
 ⟨aC,(uV zu u v (by decide +kernel) (eM (jX y J) fS r) (by decide) (by decide) r k).imp fun Y H Q h=>by
  obtain⟨U,O,st,q⟩:=h;unfold wp si at q;cases ho:cb C U i with
  |none=>rw[ho]at q;exact q.elim
  |some p=>
   obtain⟨io,fs⟩:=p;rw[ho]at q;simp only at q;cases g:fs.lookup f with
   |none=>rw[g]at q;exact q.elim
   |some t=>
    rw[g]at q;cases t with
    |d _=>exact q.elim
    |m _ _=>exact q.elim
    |l ds=>
     obtain⟨L,z,A,b0,n,B,l1,⟨M,D,G,_,I,o⟩,_⟩:=st.fldUp ho g rfl;cases G;exact⟨_,n,L,C,z,A,.ref b0,rfl,B,cl,w,l1,b0,D,rfl,.inl (.of I),fun p j=>q _ _ O (st.grow (bS j)) (.same (bS j)) (jz j (st.nofree p j) o)⟩⟩
end L2.L3
namespace L2
open PySem
theorem BX(a d):argsOk "min" ⟨[a],[("default",d)]⟩:=by kernel_rfl
theorem BY{s:Shared}{id}(k:builtinKind id=none)(l:plainId id=true)(n:entryFor table id=some b)(m:argsOk id ⟨args,d⟩)
  (i:wpAny (model prog w) A.in1 (b ⟨args,d⟩) (fun fin a=>match fin with
   |.done f=>(match (Except.ok f:Result) with |.ok (.ret v)=>Q v a |.ok _=>False |.error e=>E e a)
   |.again j=>j.quiet=true/\codeAny (model prog w) A j (fun r a=>match r with |.ok (.ret v)=>Q v a |.ok _=>False |.error e=>E e a) a) E s):wpAny (model prog w) A (call (.builtin id) args d) Q E s:=by
 refine wpAny_call (codeAny_call_builtin l n ?_);simp only[checkBuiltinCall,k];cases c:Manifest.signature? id with
 |none=>exact aJ i
 |some g=>
  simp only[(by simpa only[argsOk,c] using m)];exact aJ i
theorem Qn(r:A.handled=none)(k:s.heap.IsList l #[])(n:∀c,(∀b o,s.heap.get? b=some o->c.get? b=some o)->Q d { s with heap:=c }) :
  wpAny (model prog w) A (call (.builtin "min") [.ref l] [("default",d)]) Q E s:=by
 refine BY F.kind_min F.plain_min F.entry_min (BX _ _) ?_;show wpAny _ A.in1 (Builtin.Builtins.bindParams "min" ["key","default"] 0 ⟨[],[("default",d)]⟩ >>= _) _ _ s;refine af (wpAny_of_eq (rfl) (af (aJ ?_)));refine af (wpAny_pyIter_list k (af (wpAny_newObj_type ?_)));have a:(toString "min"++toString ".loop":String)="min.loop":=by decide
 rw[a];obtain⟨ol,f,g,nl,h⟩:=id k;generalize m:(s.heap.push { cls:=.type "list_iterator",data:=.fields #[.ref l,.int 0 0] })=h1;have k1:∀b o,s.heap.get? b=some o->h1.get? b=some o:=fun b o e=>by rw[<-m];exact aW _ e
 refine aJ ⟨plainId_quiet F.plain_min_loop _,codeAny_builtin F.entry_min_loop ?_⟩;rw[Around.under_plainId F.plain_min_loop _];refine af (wpAny_seqItems (Heap.get?_push_size _ rfl) rfl ?_);show wpAny _ A.in1 (tryCatch (pyNext (.ref s.heap.objs.size)) _ >>= _) _ _ _;refine af (wpAny_tryCatch (wpAny_pyNext_list_end (i:=0) (l:=l) r ⟨_,aW _ (by rw[<-m];exact Heap.get?_push_size _ rfl),rfl,rfl⟩ ⟨ol,aW _ (k1 _ _ f),g,nl,h⟩ rfl fun c j=>af (wpAny_rule (aJ ?_))));exact n c fun b o e=>j b o (q0t (bm e)) (aW _ (k1 b o e))
theorem Qo(hit:s.heap.IsTupleIter it t i)(d:s.heap.IsTuple t items)(e:items[i]? = some x)
  (f:∀a,a.IsTupleIter it t (i+1)->Heap.SameBut it s.heap a->Q x { s with heap:=a }):wpAny (model prog w) A (Builtin.SmallTypes.nextOf (.ref it)) Q E s:=by
 obtain⟨o,ho,g,hd⟩:=id hit;obtain⟨ol,b,_,nl,c⟩:=d;refine af (wpAny_callSpecial?_slot hit.typeIs F.slot_tuple_iterator_next (wpAny_call_entry F.slot_tuple_iterator_next hit.typeIs F.entry_tuple_iterator_next ?_ (F.args_tuple_iterator_next_1 _)));show wpAny _ _ (field (.ref it) 0 >>= _) _ _ s;refine af (wpAny_field ho hd rfl ?_);rw[if_neg (by exact q0x)];refine af (wpAny_field ho hd rfl (af (wpAny_seqItems b c ?_)));simp only[q1v,e];refine af (wpAny_setField ho hd (by simp) (aJ ⟨x,rfl,aJ (f _ ⟨_,Heap.get?_update_self _ ho (Obj.isFreed_of_fields (Obj.data_mapFields hd _)),(Obj.cls_mapFields ..).trans g,?_⟩ (Heap.SameBut.update ..))⟩));rw[Obj.data_mapFields hd];simp[rawInt]
theorem Qp(f:A.handled=none)(hit:s.heap.IsTupleIter it t i)(g:s.heap.IsTuple t items)(h:items[i]? = none)
  (j:∀b e,Heap.ExtBut it s.heap b->(∃o,b.get? e=some o/\o.cls=.type "StopIteration")->E (.ref e) { s with heap:=b }):wpAny (model prog w) A (Builtin.SmallTypes.nextOf (.ref it)) Q E s:=by
 obtain⟨o,ho,k,hd⟩:=id hit;obtain⟨ol,c,_,nl,d⟩:=g;refine af (wpAny_callSpecial?_slot hit.typeIs F.slot_tuple_iterator_next (wpAny_call_entry F.slot_tuple_iterator_next hit.typeIs F.entry_tuple_iterator_next ?_ (F.args_tuple_iterator_next_1 _)));show wpAny _ _ (field (.ref it) 0 >>= _) _ _ s;refine af (wpAny_field ho hd rfl ?_);rw[if_neg (by exact q0x)];refine af (wpAny_field ho hd rfl ?_);refine af (wpAny_seqItems c d ?_);simp only[q1v,h];refine af (wpAny_rule (af (wpAny_setField ho hd (by simp) ?_)));refine af ?_;refine af (wpAny_newObj_type ?_ (by size_fits));refine af (wpAny_of_eq (by first |rfl |(simp only;rfl)) (wpAny_newObj_type ?_ (by size_fits)));refine af (wpAny_handled ?_)
 first |rw[show A.in1.handled=none from f] |rw[f]
 exact af (aJ (wpAny_throw (j _ _ (((Heap.SameBut.update ..).extBut.push _).push _) ⟨_,Heap.get?_push_size _ rfl,rfl⟩)))
theorem sj(hh:A.handled=none)(it l)(hne:l≠it)(items):Draws prog w A it [it,l] items.size (fun i v=>items[i]? = some v) (fun i h=>h.IsTupleIter it l i/\h.IsTuple l items) where
 live:=fun _ _ st=>let⟨o,ho,_⟩:=st.1;⟨o,ho⟩
 frame:=fun _ _ _ st hk=>⟨let⟨o,ho,r⟩:=st.1;⟨o,hk it (by simp) o ho,r⟩,let⟨o,ho,r⟩:=st.2;⟨o,hk l (by simp) o ho,r⟩⟩
 item:=fun i s Q E hi st hQ=>Qo st.1 st.2 (x:=items[i]) (by simp) fun h' hit' hs'=>hQ _ h' s.toks (by simp) ⟨hit',st.2.extBut hs'.extBut hne⟩ hs'
 done:=fun s Q E st hE=>Qp hh st.1 st.2 (by simp) hE
theorem Qq{TI TO }{Q:Value->Shared->Prop}(X:Draws prog w A t f1 n1 P1 T)(D2:Draws prog w A u f2 n2 P2 U)
  (nd:[z,TI,TO,t,u].Nodup) (g1:∀c∈f1,c≠z/\c≠TO/\c≠u) (g2:∀c∈f2,c≠z/\c≠TO/\c≠t) (I:IsZip s.heap z TI TO .none) (Y:eE s.heap TI (.ref t) (.ref u)) (Z:eE s.heap TO a b) (h1:T k s.heap) (h2:U k s.heap) (l1:k<n1) (l2:k<n2)
  (hQ:∀x y B tk,P1 k x->P2 k y->IsZip B z TI TO (rawInt s.heap.objs.size)->eE B TO x y->T (k+1) B->U (k+1) B->eE B s.heap.objs.size x y->B.objs.size=s.heap.objs.size+1->
   (∀c o,c∉[z,TO,t,u]->s.heap.get? c=some o->B.get? c=some o)->Q (.ref s.heap.objs.size) { s with heap:=B,toks:=tk }) :
  wpAny (model prog w) A (Builtin.«zip.__next__» ⟨[.ref z],[]⟩) (fun fin s'=>∃v,fin=.done (.ret v)/\Q v s') E s:=by
 simp only[q0I,q0b,q0e,or_false,not_or,not_false_eq_true,and_true,q0M]at nd;obtain⟨⟨a4,p,z1,z2⟩,⟨a3,a5,a6⟩,⟨a0,a1⟩,a7⟩:=nd;obtain⟨hp,g,d,a8,os⟩:=s;show wpAny _ _ (field (.ref z) 2 >>= _) _ _ _;refine af (wpAny_field I rfl (x:=.bool false) rfl ?_);show wpAny _ _ (field (.ref z) 3 >>= _) _ _ _;refine af (wpAny_field I rfl (x:=.ref TI) rfl ?_);refine af (wpAny_seqItems Y rfl ?_);show wpAny _ _ (Builtin.SmallTypes.ownedTupleIsFree (.ref z) >>= _) _ _ _;refine af ?_;unfold Builtin.SmallTypes.ownedTupleIsFree;refine af (wpAny_field I rfl (x:=.none) rfl (aJ ?_));simp only[if_true];refine af (wpAny_rule ?_);refine af (wpAny_field I rfl (x:=.ref TO) rfl ?_);refine af (wpAny_setField_rec I (by simp) fun hA C h=>?_)
 replace C:IsZip hA z TI TO .ellipsis:=C
 replace h:Heap.SameBut z hp hA:=h
 refine af ?_;refine af (af (wpAny_onRaise ?_));show wpAny _ _ (Builtin.SmallTypes.nextOf (.ref t) >>= _) _ _ _;refine af (X.item k _ _ _ l1 (X.frame _ _ _ h1 fun c f o e=>h.extBut _ _ (g1 c f).1 e) fun x hB a9 px sB i=>aJ ?_)
 replace i:Heap.SameBut t hA hB:=i
 have tB:eE hB TO a b:=i.extBut _ _ a0 (h.extBut _ _ (Ne.symm p) Z);refine af (wpAny_seqItems tB rfl ?_);refine af (wpAny_updateSeq_pair tB fun hC tC j=>?_)
 replace tC:eE hC TO x b:=tC
 replace j:Heap.SameBut TO hB hC:=j
 refine af (wpAny_letGo (aJ ?_));refine af (af (wpAny_onRaise ?_));show wpAny _ _ (Builtin.SmallTypes.nextOf (.ref u) >>= _) _ _ _;refine af (D2.item k _ _ _ l2 (D2.frame _ _ _ h2 fun c f o e=>j.extBut _ _ (g2 c f).2.1 (i.extBut _ _ (g2 c f).2.2 (h.extBut _ _ (g2 c f).1 e))) fun y hD b0 py sD l=>aJ ?_)
 replace l:Heap.SameBut u hC hD:=l
 have tD:eE hD TO x b:=l.extBut _ _ a1 tC;refine af (wpAny_seqItems tD rfl ?_);refine af (wpAny_updateSeq_pair tD fun n R m=>?_)
 replace R:eE n TO x y:=R
 replace m:Heap.SameBut TO hD n:=m
 refine af (wpAny_letGo (aJ (aJ ?_)));refine af (wpAny_seqItems R rfl ?_);refine af (wpAny_newTuple ?_);have J:n.objs.size=hp.objs.size:=by rw[m.1,l.1,j.1,i.1,h.1]
 have L:IsZip n z TI TO .ellipsis:=m.extBut _ _ p (l.extBut _ _ z2 (j.extBut _ _ p (i.extBut _ _ z1 C)));have M:z<n.objs.size:=bm L;refine af ?_;unfold Builtin.SmallTypes.ownedTupleHandOut;refine af (wpAny_setField_rec (aW _ L) (by simp) fun hI D G=>?_)
 replace D:IsZip hI z TI TO (rawInt n.objs.size):=D
 refine wpAny_setField_rec D (by simp) fun N r H=>?_
 replace r:IsZip N z TI TO (rawInt n.objs.size):=r
 have up:∀c o,c≠z->n.get? c=some o->N.get? c=some o:=fun c o S e=>H.extBut _ _ S (G.extBut _ _ S (aW _ e));have tJ:eE N n.objs.size x y:=H.extBut _ _ (q0V M) (G.extBut _ _ (q0V M) (Heap.get?_push_size _ rfl));have O:N.objs.size=n.objs.size+1:=by rw[H.1,G.1,Heap.size_push]
 rw[J]at r tJ O;refine aJ ⟨_,rfl,?_⟩;show Q (.ref n.objs.size) _;rw[J];exact hQ x y N _ px py r (up _ _ (Ne.symm p) R) (X.frame _ _ _ sB fun c f o e=>up c o (g1 c f).1 (m.extBut _ _ (g1 c f).2.1 (l.extBut _ _ (g1 c f).2.2 (j.extBut _ _ (g1 c f).2.1 e)))) (D2.frame _ _ _ sD fun c f o e=>up c o (g2 c f).1 (m.extBut _ _ (g2 c f).2.1 e)) tJ O
  fun c o f e=>up c o (fun q=>f (by simp[q])) ((fun c o f e=>by simp only[q0b,q0e,or_false,not_or]at f;obtain⟨S,c2,c3,c4⟩:=f;exact m.extBut _ _ c2 (l.extBut _ _ c4 (j.extBut _ _ c2 (i.extBut _ _ c3 (h.extBut _ _ S e))))) c o f e)
theorem Qr{TI TO }(N:Draws prog w A t f1 M P1 Z)(D2:Draws prog w A u f2 Y P2 S2)
  (nd:[z,TI,TO,t,u].Nodup) (g1:∀c∈f1,c≠z/\c≠TO/\c≠u) (g2:∀c∈f2,c≠z/\c≠TO/\c≠t) (y:IsZip s.heap z TI TO .none) (O:eE s.heap TI (.ref t) (.ref u)) (R:eE s.heap TO a b) (h1:Z k s.heap) (h2:S2 k s.heap) (he:k=M\/k<M/\k=Y)
  (hE:∀S e tk,(∀c o,c∉[z,TO,t,u]->s.heap.get? c=some o->S.get? c=some o)->(∃o,S.get? e=some o/\o.cls=.type "StopIteration")->E (.ref e) { s with heap:=S,toks:=tk }) :
  wpAny (model prog w) A (Builtin.«zip.__next__» ⟨[.ref z],[]⟩) Q E s:=by
 simp only[q0I,q0b,q0e,or_false,not_or,not_false_eq_true,and_true,q0M]at nd;obtain⟨⟨a1,B,z1,z2⟩,⟨a0,a2,a3⟩,⟨T,a4⟩,a5⟩:=nd;obtain⟨hp,g,d,a6,os⟩:=s;show wpAny _ _ (field (.ref z) 2 >>= _) _ _ _;refine af (wpAny_field y rfl (x:=.bool false) rfl ?_);refine af (wpAny_field y rfl (x:=.ref TI) rfl ?_);refine af (wpAny_seqItems O rfl ?_);refine af ?_;unfold Builtin.SmallTypes.ownedTupleIsFree;refine af (wpAny_field y rfl (x:=.none) rfl (aJ ?_));simp only[if_true];refine af (wpAny_rule ?_);refine af (wpAny_field y rfl (x:=.ref TO) rfl ?_);refine af (wpAny_setField_rec y (by simp) fun J p l=>?_)
 replace p:IsZip J z TI TO .ellipsis:=p
 replace l:Heap.SameBut z hp J:=l
 refine af ?_;simp only[List.zipIdx_cons,List.zipIdx_nil,q2b,List.forIn_nil];refine af (af (wpAny_onRaise ?_));have C:=N.frame _ _ _ h1 fun c h o e=>l.extBut _ _ (g1 c h).1 e;rcases he with rfl |⟨U,rfl⟩
 .refine af (N.done _ _ _ C fun hB e f v=>?_);obtain⟨D,m,n⟩:=v
  replace f:Heap.ExtBut t J hB:=f
  have G:IsZip hB z TI TO .ellipsis:=f _ _ z1 p;have ne:e≠z:=fun q=>by subst q;have i:hB.get? e=some D:=m;rw[G]at i;cases i;simp at n
  refine wpAny_setField_rec G (by simp) fun L _ j=>hE L e _ (fun c o h q=>?_) ⟨D,j.extBut _ _ ne m,n⟩;simp only[q0b,q0e,or_false,not_or]at h;exact j.extBut _ _ h.1 (f _ _ h.2.2.1 (l.extBut _ _ h.1 q))
 .refine af (N.item k _ _ _ U C fun x hB a7 px sB f=>aJ ?_)
  replace f:Heap.SameBut t J hB:=f
  have tB:eE hB TO a b:=f.extBut _ _ T (l.extBut _ _ (Ne.symm B) R);refine af (wpAny_seqItems tB rfl ?_);refine af (wpAny_updateSeq_pair tB fun L tC j=>?_)
  replace j:Heap.SameBut TO hB L:=j
  refine af (wpAny_letGo (aJ ?_));refine af (af (wpAny_onRaise ?_));refine af (D2.done _ _ _ (D2.frame _ _ _ h2 fun c h o e=>j.extBut _ _ (g2 c h).2.1 (f.extBut _ _ (g2 c h).2.2 (l.extBut _ _ (g2 c h).1 e))) fun X e r v=>?_);obtain⟨D,m,n⟩:=v
  replace r:Heap.ExtBut u L X:=r
  have H:IsZip X z TI TO .ellipsis:=r _ _ z2 (j.extBut _ _ B (f.extBut _ _ z1 p));have ne:e≠z:=fun q=>by subst q;have i:X.get? e=some D:=m;rw[H]at i;cases i;simp at n
  refine wpAny_setField_rec H (by simp) fun hF _ I=>hE hF e _ (fun c o h q=>?_) ⟨D,I.extBut _ _ ne m,n⟩;simp only[q0b,q0e,or_false,not_or]at h;exact I.extBut _ _ h.1 (r _ _ h.2.2.2 (j.extBut _ _ h.2.1 (f.extBut _ _ h.2.2.1 (l.extBut _ _ h.1 q))))
theorem Qs{TI TO }(u:Draws prog w A.in1 e f1 m p g)(D2:Draws prog w A.in1 f f2 n q h)
  (N:[z,TI,TO,e,f].Nodup) (g1:∀c∈f1,c≠z/\c≠TO/\c≠f) (g2:∀c∈f2,c≠z/\c≠TO/\c≠e) (r:IsZip s.heap z TI TO .none) (i:eE s.heap TI (.ref e) (.ref f)) (j:eE s.heap TO a b) (O:g k s.heap) (R:h k s.heap) (S:k<m) (T:k<n)
  (v:∀x y d l,p k x->q k y->IsZip d z TI TO (rawInt s.heap.objs.size)->eE d TO x y->g (k+1) d->h (k+1) d->eE d s.heap.objs.size x y->d.objs.size=s.heap.objs.size+1->
   (∀c o,c∉[z,TO,e,f]->s.heap.get? c=some o->d.get? c=some o)->Q (some (.ref s.heap.objs.size)) { s with heap:=d,toks:=l }) :
  wpAny (model prog w) A (pyNext (.ref z)) Q E s:=by
 have t:s.TypeIs (.ref z) "zip":=⟨_,r,rfl⟩
 exact af (wpAny_attempt (wpAny_callSpecial?_slot t F.slot_zip_next (wpAny_call_entry F.slot_zip_next t F.entry_zip_next
   (Qq u D2 N g1 g2 r i j O R S T fun x y d l B C D G H I J L M=>aJ (v x y d l B C D G H I J L M)) (F.args_zip_next_1 _))))
theorem Qt{TI TO }(x:Draws prog w A.in1 d f1 g u n)(D2:Draws prog w A.in1 f f2 m v p)
  (G:[z,TI,TO,d,f].Nodup) (g1:∀c∈f1,c≠z/\c≠TO/\c≠f) (g2:∀c∈f2,c≠z/\c≠TO/\c≠d) (q:IsZip s.heap z TI TO .none) (h:eE s.heap TI (.ref d) (.ref f)) (i:eE s.heap TO a b) (H:n k s.heap) (I:p k s.heap) (y:k=g\/k<g/\k=m)
  (B:∀j r,(∀c o,c∉[z,TO,d,f]->s.heap.get? c=some o->j.get? c=some o)->Q none { s with heap:=j,toks:=r }):wpAny (model prog w) A (pyNext (.ref z)) Q E s:=by
 have t:s.TypeIs (.ref z) "zip":=⟨_,q,rfl⟩
 refine af (wpAny_attempt (wpAny_callSpecial?_slot t F.slot_zip_next (wpAny_call_entry F.slot_zip_next t F.entry_zip_next (Qr x D2 G g1 g2 q h i H I y fun j e r C l=>?_) (F.args_zip_next_1 _))));obtain⟨o,ho,D⟩:=l;exact af (wpAny_isInstance ⟨o,ho,D⟩ isSubtype_stop (aJ (B _ _ C)))
noncomputable abbrev sk(h:Heap)(a:Addr):Heap:=h.push { cls:=.type "tuple_iterator",data:=.fields #[.ref a,.int 0 0] }
abbrev sn(h:Heap)(a b:Addr):Heap:=(sk h a).push { cls:=.type "list_iterator",data:=.fields #[.ref b,.int 0 0] }
abbrev so(h:Heap)(a b:Addr):Heap:=(sn h a b).push { cls:=.type "tuple",data:=.seq #[.ref h.objs.size,.ref (sk h a).objs.size] }
abbrev sr(h:Heap)(a b:Addr):Heap:=(so h a b).push { cls:=.type "tuple",data:=.seq #[.none,.none] }
abbrev nM(h:Heap)(a b:Addr):Heap:=(sr h a b).push { cls:=.type "zip",data:=.fields #[.none,.bool false,.bool false,.ref (sn h a b).objs.size,.ref (so h a b).objs.size] }
theorem Qu(a b)(j k) :
  Meets (Builtin.«zip.__new__» ⟨[.type "zip",.ref a,.ref b],[]⟩) (fun _ R s=>s.heap.IsTuple a j/\s.heap.IsList b k/\R (.ok (.ret (.ref (sr s.heap a b).objs.size))) { s with heap:=nM s.heap a b }):=
 .of_wp fun o w A R s h=>by
  obtain⟨l,g,d,m,os⟩:=s;obtain⟨c,e,h⟩:=h;have n:=sub_zip;wp_walk using wpAny_pyIter_tuple c,wpAny_pyIter_list (Heap.IsList.push e _)
  exact⟨_,rfl,h⟩
theorem Qv{s:Shared}(e:s.heap.IsTuple a l)(f:s.heap.IsList b m)
  (h:∀d,IsZip d (s.heap.objs.size+4) (s.heap.objs.size+2) (s.heap.objs.size+3) .none->eE d (s.heap.objs.size+2) (.ref s.heap.objs.size) (.ref (s.heap.objs.size+1))->
   eE d (s.heap.objs.size+3) .none .none->d.IsTupleIter s.heap.objs.size a 0->d.IsListIter (s.heap.objs.size+1) b 0->(∀c o,s.heap.get? c=some o->d.get? c=some o)->Q (.ref (s.heap.objs.size+4)) { s with heap:=d }) :
  wpAny (model prog w) A (call (.type "zip") [.ref a,.ref b]) Q E s:=by
 refine callType_new F.called_zip (by decide) (F.typeCall_zip_2 _ _) (F.newCall_zip_2 _ _) (fun obj=>F.args_object_init_3 obj _ _) F.entry_zip_new (Qu a b l m) ⟨e,f,?_⟩;have g:(sk s.heap a).objs.size=s.heap.objs.size+1:=Heap.size_push ..;have i:(sn s.heap a b).objs.size=s.heap.objs.size+2:=by rw[Heap.size_push,g]
 have j:(so s.heap a b).objs.size=s.heap.objs.size+3:=by rw[Heap.size_push,i]
 have n:(sr s.heap a b).objs.size=s.heap.objs.size+4:=by rw[Heap.size_push,j]
 have k:(nM s.heap a b).get? (sr s.heap a b).objs.size=some _:=Heap.get?_push_size _ rfl;have p:(nM s.heap a b).get? (so s.heap a b).objs.size=some _:=aW _ (Heap.get?_push_size _ rfl);have g3:(nM s.heap a b).get? (sn s.heap a b).objs.size=some _:=aW _ (aW _ (Heap.get?_push_size _ rfl));have g2:(nM s.heap a b).get? (sk s.heap a).objs.size=some _:=aW _ (aW _ (aW _ (Heap.get?_push_size _ rfl)));show _/\_;rw[i,j,n]at k;rw[g,i]at g3;rw[j]at p;rw[g]at g2;rw[n];exact⟨⟨_,k,rfl⟩,h _ k g3 p ⟨_,(aW _ (aW _ (aW _ (aW _ (Heap.get?_push_size _ rfl))))),rfl,rfl⟩ ⟨_,g2,rfl,rfl⟩ fun c o x=>aW _ (aW _ (aW _ (aW _ (aW _ x))))⟩
end L2
namespace L2
open PySem PySem.Spec PyProof.Rows
def BZ(a b:Addr):It:=
 ⟨fun i H=>∃c x d y,Rd H a (.tup c)/\c[i]? = some x/\H b=some (.lst d)/\d[i]? = some y,fun i H v e=>∃T x y,v=.ref T/\H T=none/\e = aL H T (.tup [x,y])/\(∀c,Rd H a (.tup c)->c[i]? = some x)/\∀d,H b=some (.lst d)->d[i]? = some y,
  fun i H=>∃c d,Rd H a (.tup c)/\H b=some (.lst d)/\(c.length=i\/i<c.length/\d.length=i)⟩
theorem Qw{K}(a b z TI TO i1 i2)(nd:[z,TI,TO,i1,i2].Nodup) :
  gn P w K (.Tuple elts kk tpos) (BZ a b) [z,TI,TO,i1,i2] z (fun i h=>IsZip h z TI TO .none/\eE h TI (.ref i1) (.ref i2)/\(∃u v,eE h TO u v)/\h.IsTupleIter i1 a i/\h.IsListIter i2 b i) where
 mem:=by simp
 obj:=fun i h st c hc=>by
  obtain⟨h0,h1,⟨u,v,h2⟩,⟨o3,e3,c3,d3⟩,⟨o4,e4,c4,d4⟩⟩:=st;simp only[q0b,q0e,or_false]at hc;rcases hc with rfl |rfl |rfl |rfl |rfl
  .exact⟨_,h0,fun v z=>by cases z⟩
  .exact⟨_,h1,fun v z=>by cases z⟩
  .exact⟨_,h2,fun v z=>by cases z⟩
  .exact⟨_,e3,fun v z=>by rw[d3]at z;cases z⟩
  .exact⟨_,e4,fun v z=>by rw[d4]at z;cases z⟩
 keep:=fun i h h' st k=>by obtain⟨h0,h1,⟨u,v,h2⟩,h3,h4⟩:=st;exact⟨k _ (by simp) _ h0,k _ (by simp) _ h1,⟨u,v,k _ (by simp) _ h2⟩,(let⟨o,e,r⟩:=h3;⟨o,k _ (by simp) o e,r⟩),h4.at fun o e=>k _ (by simp) o e⟩
 item:=by
  intro X hP hw hK hc i pins s Y H E I hf st hg;subst hP hw hK;obtain⟨h0,h1,⟨p1,p2,h2⟩,h3,h4⟩:=st;obtain⟨xs,x,ys,y,hq1,hx,hq2,hy⟩:=hg;obtain⟨hz,its,rv,p⟩:=hq1.ok I.hok;obtain⟨u,hu,ru⟩:=rv.get hx;obtain⟨hz',jts,nn,rw',p'⟩:=I.hok _ _ hq2;obtain⟨v,hv,rv'⟩:=rw'.get hy;have e3:=h3;have e4:=h4;obtain⟨o3,e3,c3,_⟩:=e3;obtain⟨o4,e4,c4,_⟩:=e4;have nd':=nd;simp only[q0I,q0b,q0e,or_false,not_or,not_false_eq_true,and_true,q0M]at nd';obtain⟨⟨zTI,zTO,z1,z2⟩,⟨TITO,TI1,TI2⟩,⟨TO1,TO2⟩,i12⟩:=nd';have na:∀c∈[z,TI,TO,i1,i2],a≠c:=fun c hc q=>by rw[q]at hq1;exact zV (hf c hc).1 hq1
  have nb:∀c∈[z,TI,TO,i1,i2],b≠c:=fun c hc q=>by rw[q,(hf c hc).1]at hq2;cases hq2
  have hh:X.A.in1.handled=none:=I.ok.hd hc;refine Qs (sj hh i1 a (na i1 (by simp)) its.toArray) (Draws.list hh i2 b (nb i2 (by simp)) jts.toArray) nd (fun c hc'=>?_) (fun c hc'=>?_) h0 h1 h2 ⟨h3,p⟩ ⟨h4,⟨_,p',rfl,_,rfl⟩⟩ (by simpa using(q0a.mp hu).1) (by simpa using(q0a.mp hv).1) fun x' y' h' tk ex ey a1 a2 a3 a4 a5 a6 a7=>⟨_,rfl,?_⟩
  .simp only[q0b,q0e,or_false]at hc';rcases hc' with rfl |rfl
   .exact⟨Ne.symm z1,Ne.symm TO1,i12⟩
   .exact⟨na z (by simp),na TO (by simp),na i2 (by simp)⟩
  .simp only[q0b,q0e,or_false]at hc';rcases hc' with rfl |rfl
   .exact⟨Ne.symm z2,Ne.symm TO2,Ne.symm i12⟩
   .exact⟨nb z (by simp),nb TO (by simp),nb i1 (by simp)⟩
  have ex':x' = u:=by simp only[q0W]at ex;rw[hu]at ex;exact(q0r ex).symm
  have ey':y' = v:=by simp only[q0W]at ey;rw[hv]at ey;exact(q0r ey).symm
  subst ex' ey';refine wpAny_letOwnedTupleGo_zip (s:={ s with heap:=h',toks:=tk }) a1 fun hh b1 hs2=>?_;have k2:∀c ob,c∉[z,TO,i1,i2]->s.heap.get? c=some ob->hh.get? c=some ob:=fun c ob hc q=>by have hc':=hc;simp only[q0b,q0e,or_false,not_or]at hc';exact(hs2.2 c hc'.1).trans (a7 c ob hc q)
  have up:∀c o,c≠z->h'.get? c=some o->hh.get? c=some o:=fun c o hc q=>(hs2.2 c hc).trans q;have I1:Inv X pins Y (aL H s.heap.objs.size (.tup [x,y])) { s with heap:=hh,toks:=tk }:=by
   refine I.turnedNew (ch:=[z,TO,i1,i2]) (t':=tk) (fun c hc=>hf c (kb hc)) k2 (ba _) (fun c hc ob q=>?_) ?_
   .simp only[q0b,q0e,or_false]at hc;rcases hc with rfl |rfl |rfl |rfl
    .exact⟨_,b1⟩
    .exact⟨_,up _ _ (Ne.symm zTO) a2⟩
    .obtain⟨o,e1,_⟩:=a3.1;exact⟨o,up _ _ (Ne.symm z1) e1⟩
    .obtain⟨o,e1,_⟩:=a4.1;exact⟨o,up _ _ (Ne.symm z2) e1⟩
   .exact⟨by show 2<=sizeLine;decide,[_,_],.cons ru (.cons rv' .nil),⟨_,up _ _ (q0V (bm h0)) a5,rfl,_,rfl⟩⟩
  refine⟨.ref s.heap.objs.size,_,I1,rfl,⟨_,x,y,rfl,I.hok.fresh (ba _),rfl,fun zs hy'=>by rw[LD hy' hq1];exact hx,fun zs hy'=>by rw[hq2]at hy';cases hy';exact hy⟩,
   ⟨b1,k2 _ _ (by simp only[q0b,q0e,or_false,not_or];exact⟨Ne.symm zTI,TITO,TI1,TI2⟩) h1,⟨_,_,up _ _ (Ne.symm zTO) a2⟩,(let⟨o,e,r⟩:=a3.1;⟨o,up _ _ (Ne.symm z1) e,r⟩),a4.1.at fun o e1=>up _ _ (Ne.symm z2) e1⟩,fun c hc=>?_⟩
  have hb':c<s.heap.objs.size:=by
   simp only[q0b,q0e,or_false]at hc;rcases hc with rfl |rfl |rfl |rfl |rfl
   .exact bm h0
   .exact bm h1
   .exact bm h2
   .exact bm e3
   .exact bm e4
  rw[bB (q0t hb')];exact(hf c hc).1
 done:=by
  intro X hP hw hK hc i pins s Y H E I hf st hg;subst hP hw hK;obtain⟨h0,h1,⟨p1,p2,h2⟩,h3,h4⟩:=st;obtain⟨xs,ys,hq1,hq2,hx⟩:=hg;obtain⟨hz,its,rv,p⟩:=hq1.ok I.hok;obtain⟨hz',jts,nn,rw',p'⟩:=I.hok _ _ hq2;have nd':=nd;simp only[q0I,q0b,q0e,or_false,not_or,not_false_eq_true,and_true,q0M]at nd';obtain⟨⟨zTI,zTO,z1,z2⟩,⟨TITO,TI1,TI2⟩,⟨TO1,TO2⟩,i12⟩:=nd';have l1:=rv.length;have l2:=rw'.length;have na:∀c∈[z,TI,TO,i1,i2],a≠c:=fun c hc q=>by rw[q]at hq1;exact zV (hf c hc).1 hq1
  have nb:∀c∈[z,TI,TO,i1,i2],b≠c:=fun c hc q=>by rw[q,(hf c hc).1]at hq2;cases hq2
  have hh:X.A.in1.handled=none:=I.ok.hd hc;refine Qt (sj hh i1 a (na i1 (by simp)) its.toArray) (Draws.list hh i2 b (nb i2 (by simp)) jts.toArray) nd (fun c hc'=>?_) (fun c hc'=>?_) h0 h1 h2 ⟨h3,p⟩ ⟨h4,⟨_,p',rfl,_,rfl⟩⟩ (hx.imp (fun q=>by simp;lia) fun q=>by simp;lia) fun h' tk hk=>⟨rfl,?_⟩
  .simp only[q0b,q0e,or_false]at hc';rcases hc' with rfl |rfl
   .exact⟨Ne.symm z1,Ne.symm TO1,i12⟩
   .exact⟨na z (by simp),na TO (by simp),na i2 (by simp)⟩
  .simp only[q0b,q0e,or_false]at hc';rcases hc' with rfl |rfl
   .exact⟨Ne.symm z2,Ne.symm TO2,Ne.symm i12⟩
   .exact⟨nb z (by simp),nb TO (by simp),nb i1 (by simp)⟩
  refine I.step (g':=s.gens) (d':=s.drawn) (t':=tk) (ch:=[z,TO,i1,i2]) (fun c hc=>?_) (fun c o _ _ hc e _=>hk c o hc e) (fun c o _ _ hc e _=>⟨o.slots,hk c o hc e⟩) (fun _ _ _ _ n=>n) (fun c o hc e=>⟨o,hk c o hc e⟩) (fun _ _ e=>e) (fun _ _ _ e=>e) (fun c ps e=>⟨#[],by rw[e];simp⟩) (fun m hm=>?_) (fun c u e=>?_) I.bare
  .obtain⟨f0,f1,f2,f3,f4,f5⟩:=hf c (kb hc);exact⟨f3,f1,f4,f5⟩
  .obtain⟨oL,es,ep,ho,r⟩:=hm;refine⟨oL,es,ep,hk _ oL (fun zz=>?_) ho,r⟩;exact(hf _ (kb zz)).2.1 rfl
  .have nch:∀b u,H b=some u->b∉[z,TO,i1,i2]:=fun b u e zz=>by rw[(hf b (kb zz)).1]at e;cases e
   refine(I.hok c u e).stay (fun d v hd q=>hk d v ?_ q) (fun _ q=>q) fun _ _ q=>q;rcases hd with q |q
   .rw[q];exact nch c u e
   .exact nch d _ q
 self:=fun _ _ _ _ _ st h=>wpAny_pyIter_zip st.1 h
def Qx(d:TA):TI:=fun Y H R=>d Y H fun e c=>∃a b f g,e=[.ref a,.ref b]/\Rd c a (.tup f)/\c b=some (.lst g)/\R (BZ a b) c
theorem Qy{elts:List Expr}{kk:Nat}{tpos:Pos}{p pos}(t:Gl X "zip")(w:X.mg "zip" = none)(x:PA X [a,b] k)(O:autoParam (starEach [a,b] X.env=[(false,eval a X.env),(false,eval b X.env)]) Zq._auto_1)(d:autoParam (starEach [b] X.env=[(false,eval b X.env)]) Zq._auto_1) :
  PI X (.Tuple elts kk tpos) (.Call (.Name "zip" p) [a,b] [] pos) (Qx k):=by
 intro f s Y H R I h;refine Call_ (iz I t w boot_zip (PyProof.Rows.callWith_type1 (aU (x pos f s Y H _ I h) fun U c y=>?_) (by rw[O,d]) (by rw[d];rfl)));obtain⟨Z,z,I1,A,B⟩:=y;obtain⟨l,m,xs,ys,rfl,C,g,q⟩:=B;obtain⟨u,v,rfl,ru,i⟩:=vals2 A;cases ru;cases i;obtain⟨hz,j,rv,p⟩:=C.ok I1.hok;obtain⟨D,E,nn,G,J⟩:=I1.hok _ _ g;refine Qv (p) ⟨_,J,rfl,_,rfl⟩ fun L o Q S T M N=>?_;apply wpAny_pyIter_zip o;refine⟨c.heap.objs.size+4,[c.heap.objs.size+4,c.heap.objs.size+2,c.heap.objs.size+3,c.heap.objs.size,c.heap.objs.size+1],_,_,z,rfl,I1.kept N,Qw l m _ _ _ _ _ (by generalize c.heap.objs.size=n;simp only[q0I,q0b,q0e,or_false,not_or,not_false_eq_true,and_true,q0M];refine⟨⟨?_,?_,?_,?_⟩,⟨?_,?_,?_⟩,⟨?_,?_⟩,?_⟩<;>exact(by intro e;exact absurd (show(_:Nat)=_ from e) (by lia))),⟨o,Q,⟨_,_,S⟩,T,M⟩,fun b r=>?_,q⟩;have hb':c.heap.objs.size<=b:=by
  simp only[q0b,q0e,or_false]at r;rcases r with rfl |rfl |rfl |rfl |rfl
  .exact q1f _ _
  .exact q1f _ _
  .exact q1f _ _
  .exact ba _
  .exact q1f _ _
 exact I1.fpOk hb' (I1.hok.fresh hb')
end L2
namespace L2.L3
open PySem PySem.Spec PyProof.Rows
def Qz(O:List Addr)(H:Hp)(J:It)(c:List PyData):Prop:=∀e a,aQ O H e a->bY H a->mq a e->
 (∀i d,c[i]? = some d->J.go i a/\∀x b,J.yld i a x b->bY a b/\DV (au e b) x d)/\J.stop c.length a
def wD(K:Frag)(F:Fx)(s:fe):TI:=fun Y H R=>∃U O,aD K F H Y U O/\s U fun b d=>∀J a c,aD K F a Y d c->aQ O H c a->Qz c a J b->R J a
structure wF (X:Cx) (F:Fx) (tg iter:Expr) (s:fe):Prop where
 mn:mu s
 pi:PI X tg iter (wD X.K F s)
@[simp]noncomputable def wG:Option (Option aa)->Option aa
 |some (some (.own _ b))=>some (.vw b)
 |some (some (.exc _))=>none
 |some o=>o
 |none=>none
def su(own:List Str)(a:List Nat)(U:aj):aj:=own.map (fun _=>none)++a.map fun j=>wG U[j]?
mutual
@[simp]noncomputable def jg:PyData->Bool
 |.int _=>true
 |.bool _=>true
 |.none=>true
 |.str _=>true
 |.tuple ds=>mF ds
 |.list _=>false
 |.dict _=>false
@[simp]noncomputable def mF:List PyData->Bool
 |[]=>true
 |d::ds=>jg d&&mF ds
end
theorem Ca:∀a,a.all jg=mF a
 |[]=>rfl
 |d::a=>by rw[q2Q,Ca a,mF]
theorem QA(k:∀a u,¬ Mv u->G a=some u->j a=some u):∀{l g},aG G l g->mF g=true->aG j l g:=fun h=>aG.rec (motive_1:=fun v d _=>jg d=true->DV j v d) (fun _=>.non) (fun b _=>.bl b) (fun i _=>.int i) (fun x _=>.str x) (fun _ _ _ f=>by cases f) (fun h _ c f=>.tup (h.imp (fun e=>k _ _ id e) fun⟨⟨o,e⟩,z⟩=>⟨⟨o,k _ _ id e⟩,z⟩) (c (by simpa[jg] using f))) (fun _=>.nil) (fun _ _ a b f=>by
  rw[mF,q0Q]at f;exact .cons (a f.1) (b f.2)) h
theorem QB(k:∀a u,¬ Mv u->G a=some u->c a=some u)(h:aG G d b)(f:b.all jg=true):aG c d b:=QA k h (by rw[<-Ca];exact f)
def pK(own:List Str)(f:List Nat)(s:fe)(g:fJ)(l:cU)(m:DT):DT:=fun U Q=>s U fun c j=>∃e:Nat->List PyData->aj->Prop,e 0 [] (su own f j)/\
 (∀i d a h,c[i]? = some d->e i a h->g d h fun n=>l n fun b k=>if b=true then m k fun y o=>a.length<sizeLine/\e (i+1) (a++[y]) o else e (i+1) a k)/\
 ∀a h,e c.length a h->a.length<=sizeLine/\a.all jg=true/\Q (.list a) j
theorem Cb(e:mu s):Mn (pK own caps s g tc te):=fun _ _ _ k q=>e _ _ _ (fun _ _ a=>by obtain⟨d,h0,h1,h2⟩:=a;exact⟨d,h0,h1,fun b c h=>⟨(h2 b c h).1,(h2 b c h).2.1,k _ _ (h2 b c h).2.2⟩⟩) q
theorem QD{K:Frag}{Z:Fx->Prop}(hP:∀k Y D f O2,aD K F k Y D f->Z ⟨k,[],O2,fun _=>0⟩)(hs:mu s)(hg:∀d U Q Q',(∀U',Q U'->Q' U')->g d U Q->g d U Q')(ht:iX tc)(he:Mn te):∀Y H Q,(∃U O,aD K F H Y U O/\pK own caps s g tc te U fun d D=>∀X,d=.list X->∀p  t  vs  f,aD K F t Y D f->aQ O H f t->t p=none->aG (au f t) vs X->Q (.ref p) (aL t p (.lst vs)))->
  kS own caps (wD K F s) (fun v Y H Q=>∃B,Z B/\mm K B g v Y H Q) (fun Y H Q=>∃B,Z B/\jA K B tc Y H Q) (fun Y H Q=>∃B,Z B/\gK K B te Y H Q) Y H Q:=fun Y H Q I=>by
 obtain⟨U,O,st,q⟩:=I;refine⟨U,O,st,hs _ _ _ (fun n D L J k f r s1 wk=>?_) q⟩;obtain⟨Iv,i0,step,fin⟩:=L;obtain⟨W,M,N⟩:=id r;let V:List Addr:=(caps.map fun j=>(W[j]?).getD []).flatten;let E:List Addr:=f.filter fun a=>decide (a∉V);have sub:∀a∈E,a∈f:=fun a h=>(q2j.mp h).1;have a0:E.Nodup:=by
  have:f.Nodup:=by rw[N];exact M.nd
  exact this.filter _
 have a1:∀j∈caps,∀l,W[j]? = some l->∀a∈l,a∉E:=fun j hj l hl a ha z=>by have h1:=(q2j.mp z).2;simp only[decide_eq_true_eq]at h1;exact h1 (q2c.mpr ⟨l,q04.mpr ⟨j,hj,by rw[hl];rfl⟩,ha⟩)
 have R:∀j∈caps,∀c,wG D[j]? = some c->∃v,Y[j]? = some (some v)/\vM K k E c v:=fun j hj c w=>by
  cases h3:D[j]? with
  |none=>rw[h3]at w;cases w
  |some o=>
   cases o with
   |none=>rw[h3]at w;cases w
   |some c'=>
    rw[h3]at w;obtain⟨v,fp,C,e0,S⟩:=M.at_ j c' h3;rw[<-N]at S;have y:aQ f k E k:=iZ sub;cases c' with
    |dat d=>cases w;exact⟨v,C,(fun _ _ z=>by cases z),eZ.keep (fp:=[]) S y (fun _ _=>rfl) fun _ _ _ e=>e⟩
    |scr ns=>cases w;exact⟨v,C,(fun _ _ z=>by cases z),eZ.keep (fp:=[]) S y (fun _ _=>rfl) fun _ _ _ e=>e⟩
    |exc _=>cases w
    |vw b=>cases w;exact⟨v,C,(fun _ _ z=>by cases z),eZ.keep (fp:=[]) S y (fun _ _=>rfl) fun _ _ _ e=>e⟩
    |own io b=>cases w;obtain⟨a,ev,q2⟩:=S;refine⟨v,C,(fun _ _ z=>by cases z),a,fp,ev,q2.keep (fun c hc=>?_) y.hid⟩;obtain⟨o,eo,_⟩:=q2.live c hc;rw[eo];exact iV eo (a1 j hj fp e0 c hc)
 refine⟨rL K ⟨k,[],E,fun _=>0⟩ n Iv,⟨n.length,su own caps D,E,[],AA R a0 fun a ha=>r.live a (sub a ha),i0,.nil,q0Y _,rfl⟩,?_⟩
 .rintro i m ys Y' t ⟨U',O',X,A,iv,dv,hi,rfl⟩;have G:bY k t:=fun b o e=>by obtain⟨W',h',_⟩:=id A;exact h'.kept b o (by simp) e
  have a2:aQ f k O' t:=⟨fun b o _ e=>G b o e,fun a h=>by
   obtain⟨W',h',rfl⟩:=id A;rcases q0d.mp h with h |h
   .exact(h'.new a h).elim (fun z=>absurd z (by simp)) .inr
   .exact .inl (sub a h)⟩
  obtain⟨w1,w2⟩:=wk O' t a2 G A.live
  by_cases T:i<n.length
  .obtain⟨go,yld⟩:=w1 i n[i] (q0c T);refine .inr ⟨go,fun x H2 hy=>?_⟩;obtain⟨a3,dx⟩:=yld x H2 hy;exact AB (hP _ _ _ _ _ r) hg ht he step T A iv dv a3 dx
  .have e:i=n.length:=by lia
   subst e;obtain⟨hz,a4,q⟩:=fin X U' iv;refine .inl ⟨w2,by rw[dv.length];exact hz,fun p hp=>?_⟩;exact q X rfl p t _ f (r.grow G) (s1.trans (.same G)) hp (QB (fun a u nm e=>by
    obtain⟨C,_⟩:=cK e;refine iV C fun z=>?_;obtain⟨o,eo,mo⟩:=r.live a z;rw[G a o eo]at C;cases C;exact nm mo) dv a4)
theorem QE{K:Frag}{f:Fx->Prop}(o:∀j Y k i r,aD K F j Y k i->f ⟨j,[],r,fun _=>0⟩)(n:mu s)(t:∀d U Q l,(∀m,Q m->l m)->g d U Q->g d U l)(u:iX tc)(w:Mn te):∀Y H Q,gK K F (pK own caps s g tc te) Y H Q->
  kS own caps (wD K F s) (fun v Y H Q=>∃a,f a/\mm K a g v Y H Q) (fun Y H Q=>∃a,f a/\jA K a tc Y H Q) (fun Y H Q=>∃a,f a/\gK K a te Y H Q) Y H Q:=fun Y H Q b=>by
 obtain⟨U,O,st,q⟩:=b;exact QD o n t u w Y H Q ⟨U,O,st,Cb n _ _ _ (fun d k x C e p A B i c y h z=>by
  subst e;exact x _ _ i (c.grow (bS h)) (y.trans (.same (bS h))) (jz h (c.nofree p h) z)) q⟩
theorem QF(n:GF X.mg F)(S:ag X scope own capN caps)(o:X.calm=true)(m:wF X F tg iter s)
  (c:∀C d e f h b,GF X.mg b->DG (cf X scope (own++capN) C d e f h) b tg g/\nu (cf X scope (own++capN) C d e f h) b ifs tc/\DE (cf X scope (own++capN) C d e f h) b elt te)
  (y:autoParam (∀x,foldedSetIterable iter X.env x=pure x) Zs._auto_1):DE X F (.ListComp elt [⟨tg,iter,ifs,0⟩] scope pos) (pK own caps s g tc te):=by
 obtain⟨p,t,w⟩:=c 0 [] (PySem.start X.prog).1 (fun _=>none) [] F n;refine⟨Cb m.mn,(vj S o m.pi (fun C d e f h=>⟨fun a s Y H v u Q I r i=>by obtain⟨b,j,q⟩:=i;exact(c C d e f h b j).1.pg a s Y H v u Q I r q,fun a s Y H Q I k=>by obtain⟨b,j,q⟩:=k;exact(c C d e f h b j).2.1.2 a s Y H Q I q,fun a s Y H Q I l=>by obtain⟨b,j,q⟩:=l;exact(c C d e f h b j).2.2.pe a s Y H Q I q⟩) y).imp (QE (fun _ _ _ _ _ st=>n.into st) m.mn p.mn t.1 w.mn)⟩
@[simp] def pL(own:Nat)(a:List Nat)(U:aj):aj:=List.replicate own none++a.map fun j=>wG U[j]?
@[simp] def wH(own:Nat)(a:List Nat)(g:GM)(t:XM Bool)(m:XM PyData)(b:List PyData):XM PyData:=fun d=>lift ((bU g t m b [] (pL own a d)).bind fun c=>if c.length<=sizeLine/\c.all jg=true then some (.list c) else none) d
@[simp] def nN(own:Nat)(a:List Nat)(s:XM (List PyData))(g:GM)(t:XM Bool)(m:XM PyData):XM PyData:=fun U=>(s U).bind (wH own a g t m)
theorem QG(q:wp E (nN own.length f s g t m) U Q):pK own f (wp E s) (fM g) (wp fO t) (wp fO m) U Q:=aC _ _ _ (fun l p C=>by
 obtain⟨y,D,z⟩:=cV C;obtain⟨j,G,r⟩:=q1j.mp D;have u:(j.length<=sizeLine/\j.all jg=true)/\y=.list j:=by
  split at r
  .rename_i h;cases r;exact⟨h,rfl⟩
  .cases r
 have H:su own f p=pL own.length f p:=by unfold su pL;rw[q2g]
 refine⟨fun i n U=>bU g t m (l.drop i) n U=some j,by rw[H];exact G,fun i d n U hd a=>?_,fun n U h=>?_⟩
 .have e:l.drop i=d::l.drop (i+1):=by obtain⟨v,I⟩:=q0a.mp hd;rw[<-I];exact q0J v
  simp only[e]at a;unfold bU at a;unfold fM;cases A:g d U with
  |none=>rw[A]at a;cases a
  |some J=>
   rw[A]at a;simp only at a ⊢;unfold wp;cases w:t J with
   |ex c B=>rw[w]at a;cases a
   |bad=>rw[w]at a;cases a
   |ok b B=>
    rw[w]at a;cases b with
    |false=>exact fm a
    |true=>
     apply fo;simp only at a ⊢;cases x:m B with
     |ex c L=>rw[x]at a;cases a
     |bad=>rw[x]at a;cases a
     |ok M L=>
      rw[x]at a;simp only at a ⊢;split at a
      .rename_i h;exact⟨h,a⟩
      .cases a
 .simp only[q1W]at h;have:=q0r h
  subst this;rw[u.2]at z;exact⟨u.1.1,u.1.2,z⟩) (bK q)
theorem DE.imp'(h:DE X F e t)(b:Mn t')(k:∀U Q,t' U Q->t U Q):DE X F e t':=⟨b,h.pe.imp fun Y H Q a=>by obtain⟨U,O,st,q⟩:=a;exact⟨U,O,st,k U _ q⟩⟩
theorem QH(p:GF X.mg F)(S:ag X a own b c)(r:X.calm=true)(u:own.length=n)(v:wF X F h iter (wp E s))
  (i:∀C j k l o f,GF X.mg f->FG (cf X a (own++b) C j k l o) f h g/\nI (cf X a (own++b) C j k l o) f fO e t/\FE (cf X a (own++b) C j k l o) f fO d m)
  (w:autoParam (∀x,foldedSetIterable iter X.env x=pure x) Zs._auto_1):FE X F E (.ListComp d [⟨h,iter,e,0⟩] a pos) (nN n c s g t m):=by
 subst u;exact DE.imp' (QF p S r v i w) aC fun U Q q=>QG q
def lx(C:Addr)(i:Nat)(f g:Str):XM (List PyData):=fun U=>match cb C U i with
 |some (_,fs)=>(match fs.lookup f,fs.lookup g with
  |some (.d (.tuple ds)),some (.l a)=>.ok (cC ds a) U
  |_,_=>.bad)
 |none=>.bad
theorem QI{F:Fx}{E:Str->aj->Prop}{pos:Pos}{k}{kk}{n p o c}(hg:Gl X "zip")(hm:X.mg "zip" = none)(cl:dB X.K C)(na:cJ X.K C f)(Q:cJ X.K C f2)(G:PE X (.Name x j) (bZ i))(S:PE X (.Name x b) (bZ i))
  (hb:autoParam (attributeBase (.Name x j) f X.env (eval (.Name x j) X.env)=eval (.Name x j) X.env) Zq._auto_1) (Z:autoParam (attributeBase (.Name x b) f2 X.env (eval (.Name x b) X.env)=eval (.Name x b) X.env) Zq._auto_1)
  (hs:autoParam (starEach [.Attribute (.Name x j) f o,.Attribute (.Name x b) f2 c] X.env=[(false,eval (.Attribute (.Name x j) f o) X.env),(false,eval (.Attribute (.Name x b) f2 c) X.env)]) Zq._auto_1)
  (r:autoParam (starEach [.Attribute (.Name x b) f2 c] X.env=[(false,eval (.Attribute (.Name x b) f2 c) X.env)]) Zq._auto_1) :
  wF X F (.Tuple k kk n) (.Call (.Name "zip" p) [.Attribute (.Name x j) f o,.Attribute (.Name x b) f2 c] [] pos) (wp E (lx C i f f2)):=
 ⟨aC,(Qy hg hm (eM (jX G hb) (eM (jX S Z) fS r) hs) hs r).imp fun Y H R t=>by
  obtain⟨U,O,st,q⟩:=t;unfold wp lx at q;cases ho:cb C U i with
  |none=>rw[ho]at q;exact q.elim
  |some p=>
   obtain⟨io,fs⟩:=p;rw[ho]at q;simp only at q;cases a:fs.lookup f with
   |none=>rw[a]at q;exact q.elim
   |some y1=>
    cases g:fs.lookup f2 with
    |none=>rw[a,g]at q;cases y1<;>simp only at q<;>exact q.elim
    |some y2=>
     rw[a,g]at q;obtain⟨a0,fp,u,⟨dx,gs,a4,e1,I,e3,J⟩,_,_⟩:=st.box (kw ho);cases y1 with
     |l _=>exact q.elim
     |m _ _=>exact q.elim
     |d L=>
      cases y2 with
      |d _=>cases L<;>exact q.elim
      |m _ _=>cases L<;>exact q.elim
      |l es=>
       cases L with
       |tuple ds=>
        rcases lv J f with⟨_,l2⟩ |⟨v1,y1,a5,l1,l2,l3,_⟩
        .rw[a]at l2;cases l2
        rw[a]at l2;cases l2;rcases lv J f2 with⟨_,A⟩ |⟨v2,y2,a6,m1,A,m3,_⟩
        .rw[g]at A;cases A
        rw[g]at A;cases A;obtain⟨a1,M,rfl,hx,hd⟩:=l3.2.tup_inv;obtain⟨b1,N,rfl,_,hy,he⟩:=m3;obtain⟨B,a7⟩:=ig hx;refine⟨_,u,a0,C,dx,gs,_,rfl,I,cl,na,l1,_,u,a0,C,dx,gs,_,rfl,I,cl,Q,m1,a1,b1,M,N,rfl,B,hy,q _ H O st .refl fun O' H' s sm ok=>?_⟩;have h2:=LC sm B;have h3:=sm _ _ hy;refine⟨fun i d e=>?_,⟨M,N,h2,h3,?_⟩⟩
        .unfold cC at e;rw[q0y]at e;obtain⟨⟨d0,L⟩,e1,I⟩:=q0p.mp e;subst I;obtain⟨e3,J⟩:=q1s.mp e1;obtain⟨v,G,dv⟩:=(aG.mono s.hid hd).get e3;obtain⟨w,hw,dw⟩:=(aG.mono s.hid he).get J;refine⟨⟨M,v,N,w,h2,G,h3,hw⟩,fun x a8 D=>?_⟩;obtain⟨T,y,z,o,c,q3,q4,q5⟩:=D;subst o q3;have:=q4 M h2;rw[G]at this;cases this;have:=q5 N h3;rw[hw]at this;cases this;exact⟨bS c,mj c (ok.nofree T c) (.cons dv (.cons dw .nil))⟩
        .unfold cC;rw[q0h,q2J,hd.length,he.length];rcases q1T es.length ds.length with h |h
         .exact .inr ⟨by lia,by lia⟩
         .exact .inl (by lia)
       |_=>exact q.elim⟩
theorem aD.view{K}(st:aD K F H Y U O){i:Nat}(e:U[i]? = some (some (.vw b))):∃a d,Y[i]? = some (some (.ref a))/\fF (au O H) (au O H) a b d:=by obtain⟨W,h,rfl⟩:=st;obtain⟨v,d,h1,h2,a,c,rfl,h3⟩:=h.at_ i _ e;exact⟨a,c,h1,h3⟩
def nO(C:Addr)(U:aj)(i:Nat):Option (List (Str×Fl)):=match U[i]? with
 |some (some (.vw (.o a fs)))=>if a = C then some fs else none
 |_=>none
theorem QJ(h:nO C U i=some fs):U[i]? = some (some (.vw (.o C fs))):=by
 unfold nO at h;split at h
 .rename_i e;split at h
  .rename_i a;cases h;rw[e,a]
  .cases h
 .cases h
def jM(C:Addr)(i:Nat)(f:Str):XM PyData:=fun U=>match nO C U i with
 |some fs=>(match fs.lookup f with
  |some (.d d)=>.ok d U
  |_=>.bad)
 |none=>.bad
theorem Cc(cl:dB X.K C)(e:cJ X.K C f)(g:PE X (.Name x a) (bZ i))(s:autoParam (attributeBase (.Name x a) f X.env (eval (.Name x a) X.env)=eval (.Name x a) X.env) Zq._auto_1):FE X F E (.Attribute (.Name x a) f pos) (jM C i f):=
 ⟨aC,(jX g s).imp fun Y H Q b=>by
  obtain⟨U,O,st,q⟩:=b;unfold wp jM at q;cases ho:nO C U i with
  |none=>rw[ho]at q;exact q.elim
  |some fs=>
   rw[ho]at q;simp only at q;obtain⟨t,u,c,⟨h,j,k,w,n,z,o⟩⟩:=st.view (QJ ho);rcases lv o f with⟨l1,l2⟩ |⟨v,y,p,l1,l2,l3,_⟩
   .rw[l2]at q;exact q.elim
   .rw[l2]at q;cases y with
    |d d=>exact⟨_,c,t,C,h,j,v,rfl,(cK n).1,cl,e,l1,q v H O st (.refl ..) l3.2⟩
    |l ds=>exact q.elim
    |m A r=>exact q.elim⟩
theorem QK{P:List PyData->aj->Prop}(q:wp E s U fun f l=>∃j,bU g t m f [] (kr own.length k l)=some j/\j.length<=sizeLine/\P j l) :
  wp E s U fun f l=>∃n:Nat->List PyData->aj->Prop,n 0 [] (kY own k l)/\
   (∀i d j u,f[i]? = some d->n i j u->fM g d u fun v=>wp fO t v fun b o=>if b=true then wp fO m o fun y w=>j.length<sizeLine/\n (i+1) (j++[y]) w else n (i+1) j o)/\
   ∀j u,n f.length j u->j.length<=sizeLine/\P j l:=aC _ _ _ (fun f l p=>by
 obtain⟨r,C,D,G⟩:=p;have H:kY own k l=kr own.length k l:=by unfold kY kr;rw[q2g]
 refine⟨fun i j U=>bU g t m (f.drop i) j U=some r,by rw[H];exact C,fun i d j U hd a=>?_,fun j U h=>?_⟩
 .have e:f.drop i=d::f.drop (i+1):=by obtain⟨x,I⟩:=q0a.mp hd;rw[<-I];exact q0J x
  simp only[e]at a;unfold bU at a;unfold fM;cases B:g d U with
  |none=>rw[B]at a;cases a
  |some v=>
   rw[B]at a;simp only at a ⊢;unfold wp;cases z:t v with
   |ex c o=>rw[z]at a;cases a
   |bad=>rw[z]at a;cases a
   |ok b o=>
    rw[z]at a;cases b with
    |false=>exact fm a
    |true=>
     apply fo;simp only at a ⊢;cases A:m o with
     |ex c w=>rw[A]at a;cases a
     |bad=>rw[A]at a;cases a
     |ok J w=>
      rw[A]at a;simp only at a ⊢;split at a
      .rename_i h;exact⟨h,a⟩
      .cases a
 .simp only[q1W]at h;have:=by exact q0r h
  subst this;exact⟨D,G⟩) q
def sv(C:Addr)(i:Nat)(f:Str)(own:Nat)(a:List Nat)(g:GM)(t:XM Bool)(m:XM PyData)(b:List PyData):SM:=fun U=>match bU g t m b [] (kr own a U),cb C U i with
 |some c,some (io,fs)=>if c.length<=sizeLine/\fs.lookup f=none/\fs.length<1000 then .nx (U.set i (some (.own io (.o C (bO f (.l c) fs))))) else .bad
 |_,_=>.bad
def wJ(C:Addr)(i:Nat)(f:Str)(own:Nat)(a:List Nat)(s:XM (List PyData))(g:GM)(t:XM Bool)(m:XM PyData):SM:=fun U=>eQ (s U) (sv C i f own a g t m)
theorem QL{y}(cl:dB X.K C)(na:cJ X.K C f)(hv:PE X (.Name x p1) (bZ i))(hG:GF X.mg F)(S:ag X a own capN caps)(hc:X.calm=true)(hn:own.length=n)(hi:FI X F E N iter s)
  (o:∀C A B J M b,GF X.mg b->FG (cf X a (own++capN) C A B J M) b N g/\nI (cf X a (own++capN) C A B J M) b fO j t/\FE (cf X a (own++capN) C A B J M) b fO h m)
  (a3:autoParam (swapsWith (.ListComp h [⟨N,iter,j,0⟩] a pos) (some (.Attribute (.Name x p1) f w)) y.line X.env=pure false) Zq._auto_1)
  (hs:autoParam (∀x,foldedSetIterable iter X.env x=pure x) Zs._auto_1):FS X F E (.Assign [.Attribute (.Name x p1) f w] (.ListComp h [⟨N,iter,j,0⟩] a pos) y) (wJ C i f n caps s g t m):=by
 subst hn;obtain⟨hg,ht,he⟩:=o 0 [] (PySem.start X.prog).1 (fun _=>none) [] F hG;have pe:PE X (.ListComp h [⟨N,iter,j,0⟩] a pos) (kS own caps (rJ X.K F (wp E s)) (fun v Y H Q=>∃b,GF X.mg b/\mm X.K b (fM g) v Y H Q) (fun Y H Q=>∃b,GF X.mg b/\jA X.K b (wp fO t) Y H Q) (fun Y H Q=>∃b,GF X.mg b/\gK X.K b (wp fO m) Y H Q)):=vj S hc hi.pi (fun C A B J M=>⟨fun c s Y H v u Q I r R=>by obtain⟨b,T,q⟩:=R;exact(o C A B J M b T).1.pg c s Y H v u Q I r q,fun c s Y H Q I Z=>by obtain⟨b,T,q⟩:=Z;exact(o C A B J M b T).2.1.2 c s Y H Q I q,fun c s Y H Q I a1=>by obtain⟨b,T,q⟩:=a1;exact(o C A B J M b T).2.2.pe c s Y H Q I q⟩) hs;refine(rg hv pe a3).imp fun D Y H a2=>?_;obtain⟨U,O,DD,st,q,fD⟩:=a2;refine AC (fun _ _ _ _ _ st=>hG.into st) hi.mn hg.mn ht.1 he.mn Y H _ ⟨U,O,st,QK (aC _ _ _ (fun a4 U1 e=>?_) (gU q))⟩;unfold wpS sv at e;cases L:bU g t m a4 [] (kr own.length caps U1) with
 |none=>rw[L]at e;exact e.elim
 |some ys=>
  cases ho:cb C U1 i with
  |none=>rw[L,ho]at e;exact e.elim
  |some p=>
   obtain⟨io,fs⟩:=p;rw[L,ho]at e;simp only at e
   by_cases d:ys.length<=sizeLine/\fs.lookup f=none/\fs.length<1000
   .rw[if_pos d]at e;refine⟨ys,rfl,d.1,fun H' O' vs p a5 s' dv hp=>?_⟩;obtain⟨a0,dx,gs,a6,e2,hl,nw⟩:=a5.fldNew ho d.2.1;obtain⟨h1,O3,a7,s3⟩:=nw p (.lst vs) (.l ys) hp trivial (fun G gg=>⟨p,vs,rfl,rfl,by rw[bB (fun z=>(fun z=>by subst z;rw[e2]at hp;cases hp) z.symm),cG],aG.mono gg dv⟩);exact⟨_,a6,a0,C,dx,gs,rfl,h1,cl,na,by rw[hl];exact d.2.2,fD.nx _ _ _ _ a7 (s'.trans s3) e⟩
   .rw[if_neg d]at e;exact e.elim
end L2.L3
namespace L2
open PySem PyProof.Rows
def wK(h:Heap)(a:List Value)(rows:List (List Int)):Prop:=a.length=rows.length/\∀(i:Nat) (v:Value),a[i]? = some v->∃(T:Addr) (items:Array Value) (r:List Int),v=.ref T/\IsTup h T items/\rows[i]? = some r/\IntsAre items.toList r
abbrev iJ(rows:List (List Int)):Nat->Nat->Bool:=fun i j=>HT.lexLt (rows.getD i []) (rows.getD j [])
section
variable{prog:Program}{w:World}{A:Around}{R:Result->Shared->Prop}{E:Value->Shared->Prop}{s:Shared}{h0:Heap}{I l S:Addr}{its:Array Value}{rows:List (List Int)}{d:Value}
theorem QM(g:A.units<cLine)(a:wK h0 its.toList rows)(f:∀b o,h0.get? b=some o->s.heap.get? b=some o)(h:its[i]? = some u)(k:its[j]? = some v)(q:Q (.bool (iJ rows i j)) s):wpAny (model prog w) A (richCompare .Lt u v) Q E s:=by
 obtain⟨T,m,r,rfl,n,p,t⟩:=a.2 i u (by simpa using h);obtain⟨c,y,z,rfl,B,C,D⟩:=a.2 j v (by simpa using k);have G:rows.getD i []=r:=by rw[q0R,p];rfl
 have H:rows.getD j []=z:=by rw[q0R,C];rfl
 unfold iJ at q;rw[G,H]at q;exact(HT.lt_tupInts (let⟨o,e,x⟩:=n;⟨o,f _ _ e,x⟩) (let⟨o,e,x⟩:=B;⟨o,f _ _ e,x⟩) t D g q)
theorem QN(hh:A.handled=none)(T:A.in1.units<cLine)(U:wK h0 its.toList rows)(L:h0.IsList l its)(X:h0.objs.size<=I)(Y:h0.objs.size<=S)(q:I≠S) :
  ∀k j  s  n  c,its.size - (j+1)=k->j+1<=its.size->(∀b o,h0.get? b=some o->s.heap.get? b=some o)->s.heap.IsListIter I l (j+1)->its[argBest (iJ rows) j]? = some n->
  s.heap.get? S=some { cls:=.type "list",dict:=none,data:=.seq #[n,n] c,slots:=#[] }->
  (∀v u y,its[argBest (iJ rows) (its.size - 1)]? = some v->(∀b o,h0.get? b=some o->u.get? b=some o)->R (.ok (.ret v)) { s with heap:=u,toks:=y })->
  codeAny (model prog w) A (.builtin "min.loop" ⟨[.ref I,.none,.ref S],[("default",d)]⟩) R s:=by
 have a:(toString "min"++toString ".loop":String)="min.loop":=by decide
 have M:∀{b:Addr}{o:Obj},h0.get? b=some o->b≠I:=fun e z=>by subst z;exact absurd (bm e) (q1A.mpr X)
 have N:∀{b:Addr}{o:Obj},h0.get? b=some o->S≠b:=fun e z=>by subst z;exact absurd (bm e) (q1A.mpr Y)
 intro k
 induction k with
 |zero=>
  intro j s n c Z hj C hit G f D;have H:j+1=its.size:=by lia
  refine codeAny_builtin F.entry_min_loop ?_;rw[Around.under_plainId F.plain_min_loop _];refine af (wpAny_seqItems f rfl ?_);refine af (wpAny_tryCatch (wpAny_pyNext_list_end hh hit (L.at fun o e=>C _ _ e) (by simp;lia) fun Q g=>?_));have h:=g S _ (Ne.symm q) f;refine af (wpAny_updateSeq h rfl (af (wpAny_letGo (aJ ?_))));refine D n _ _ (by rw[<-H];exact G) fun b o e=>?_;exact(Heap.get?_update_other _ _ (N e)).trans (g _ _ (M e) (C _ _ e))
 |succ k O=>
  intro j s n c Z hj C hit G f D;have m:j+1<its.size:=by lia
  refine codeAny_builtin F.entry_min_loop ?_;rw[Around.under_plainId F.plain_min_loop _];refine af (wpAny_seqItems f rfl ?_);refine af (wpAny_tryCatch (wpAny_pyNext_list_item hit (L.at fun o e=>C _ _ e) (x:=its[j+1]) (by simp[m]) fun Q p g=>?_));have h:=g.extBut S _ (Ne.symm q) f;have r:∀b o,h0.get? b=some o->Q.get? b=some o:=fun b o e=>g.extBut _ _ (M e) (C _ _ e);show wpAny _ A.in1 (tryCatch (holding [its[j+1],its[j+1]] (richCompare .Lt its[j+1] n >>= _)) _ >>= _) _ _ _;refine af (wpAny_tryCatch (wpAny_holding (af (QM (i:=j+1) (j:=argBest (iJ rows) j) T U r (by simp[m]) G ?_))));refine af (wpAny_holding (wpAny_truthy_bool ?_));refine af (wpAny_letGo (aJ ?_));cases B:iJ rows (j+1) (argBest (iJ rows) j) with
  |true=>simp only[if_true];refine af (wpAny_updateSeq h rfl (af (wpAny_letGo ?_)));rw[a];refine aJ ⟨plainId_quiet F.plain_min_loop _,O (j+1) _ its[j+1] _ (by lia) m (fun b o e=>(Heap.get?_update_other _ _ (N e)).trans (r _ _ e)) (p.at fun o e=>(Heap.get?_update_other _ _ (Ne.symm q)).trans e) (by simp only[argBest,B,if_true];simp[m]) (Heap.get?_update_self _ h rfl) fun v u y J t=>D v u y J t⟩
  |false=>refine af (wpAny_letGo ?_);rw[a];exact aJ ⟨plainId_quiet F.plain_min_loop _,O (j+1) _ n c (by lia) m r p (by simp only[argBest,B,q1d,if_false];exact G) h fun v u y J t=>D v u y J t⟩
theorem QO(G:A.handled=none)(t:A.in1.units<cLine)(j:s.heap.IsList l its)(u:wK s.heap its.toList rows)(k:0<its.size)(y:∀v h m,its[argBest (iJ rows) (its.size - 1)]? = some v->(∀b o,s.heap.get? b=some o->h.get? b=some o)->Q v { s with heap:=h,toks:=m }) :
  wpAny (model prog w) A (call (.builtin "min") [.ref l] [("default",d)]) Q E s:=by
 refine BY F.kind_min F.plain_min F.entry_min (BX _ _) ?_;refine af (wpAny_of_eq (rfl) ?_);refine af (aJ ?_);refine af (wpAny_pyIter_list j ?_);refine af (wpAny_newObj_type ?_);have a:(toString "min"++toString ".loop":String)="min.loop":=by decide
 rw[a];generalize n:(s.heap.push { cls:=.type "list_iterator",data:=.fields #[.ref l,.int 0 0] })=h1;have k1:∀b o,s.heap.get? b=some o->h1.get? b=some o:=fun b o e=>by rw[<-n];exact aW _ e
 have p:h1.objs.size=s.heap.objs.size+1:=by rw[<-n,Heap.size_push]
 refine aJ ⟨plainId_quiet F.plain_min_loop _,?_⟩;refine codeAny_builtin F.entry_min_loop ?_;rw[Around.under_plainId F.plain_min_loop _];have q:(h1.push { cls:=.type "list",data:=.seq #[] }).get? h1.objs.size=some { cls:=.type "list",data:=.seq #[] }:=Heap.get?_push_size _ rfl;have r:∀b o,s.heap.get? b=some o->(h1.push { cls:=.type "list",data:=.seq #[] }).get? b=some o:=fun b o e=>aW _ (k1 b o e);show wpAny _ A.in1 (seqItems? (.ref h1.objs.size) >>= _) _ _ _;refine af (wpAny_seqItems q rfl ?_);refine af (wpAny_tryCatch (wpAny_pyNext_list_item (i:=0) (l:=l) (items:=its) (x:=its[0]) ⟨_,aW _ (by rw[<-n];exact Heap.get?_push_size _ rfl),rfl,rfl⟩ (j.at fun o e=>r _ _ e) (by simp[k]) fun H c f=>?_));have ne:s.heap.objs.size≠h1.objs.size:=by rw[p];exact q0t (q05 _)
 have g:=f.extBut _ _ (Ne.symm ne) q;have C:∀b o,s.heap.get? b=some o->H.get? b=some o:=fun b o e=>f.extBut _ _ (q0t (bm e)) (r _ _ e);show wpAny _ A.in1 (updateSeq h1.objs.size (fun _=>#[its[0],its[0]]) >>= _) _ _ _;refine af (wpAny_updateSeq g rfl ?_);rw[a];refine aJ ⟨plainId_quiet F.plain_min_loop _,QN (h0:=s.heap) (its:=its) (rows:=rows) G t u j (ba _) (by rw[p];exact q1u _) ne _ 0 _ its[0] _ rfl k (fun b o e=>(Heap.get?_update_other _ _ (fun z=>by subst z;exact absurd (bm e) (by rw[p];exact q1A.mpr (q1u _)))).trans (C _ _ e)) (c.at fun o e=>(Heap.get?_update_other _ _ (Ne.symm ne)).trans e) (by simp[argBest,k]) (Heap.get?_update_self _ g rfl) fun v h m D J=>y v h m D J⟩
end
end L2
namespace L2.L3
open PySem PySem.Spec PyProof.Rows
noncomputable def mG:List PyData->Option (List Int)
 |[]=>some []
 |.int i::r=>(mG r).map (i::·)
 |_=>none
def ly:List PyData->Option (List (List Int))
 |[]=>some []
 |.tuple ds::r=>(match mG ds,ly r with |some x,some y=>some (x::y) |_,_=>none)
 |_=>none
theorem Cd:∀{b a},mG b=some a->b=a.map PyData.int
 |[],a,h=>by cases h;rfl
 |.int i::r,a,h=>by obtain⟨m,h1,h2⟩:=q0p.mp h;subst h2;rw[Cd h1];rfl
 |.none::_,_,h=>by cases h
 |.bool _::_,_,h=>by cases h
 |.str _::_,_,h=>by cases h
 |.list _::_,_,h=>by cases h
 |.tuple _::_,_,h=>by cases h
 |.dict _::_,_,h=>by cases h
theorem Ce:∀{b a},ly b=some a->b=a.map fun r=>PyData.tuple (r.map PyData.int)
 |[],a,h=>by cases h;rfl
 |.tuple l::r,a,h=>by
  unfold ly at h;cases h1:mG l with
  |none=>rw[h1]at h;cases h
  |some x=>
   cases h2:ly r with
   |none=>rw[h1,h2]at h;cases h
   |some y=>rw[h1,h2]at h;cases h;rw[Ce h2,Cd h1];rfl
 |.none::_,_,h=>by cases h
 |.bool _::_,_,h=>by cases h
 |.str _::_,_,h=>by cases h
 |.list _::_,_,h=>by cases h
 |.int _::_,_,h=>by cases h
 |.dict _::_,_,h=>by cases h
theorem Cf:∀{b}{a:List Int},aG H b (a.map PyData.int)->b=a.map V.int
 |_,[],.nil=>rfl
 |_,n::a,.cons h t=>by rw[h.int_inv,Cf t];rfl
theorem Cg:∀{a b},bi (a.map V.int) b->IntsAre b a
 |[],_,.nil=>.nil
 |n::a,_,.cons r t=>by obtain⟨c,rfl⟩:=r;exact .cons n c (Cg t)
def fx:List (List Int)->List Int->List Int
 |[],b=>b
 |r::a,b=>fx a (if HT.lexLt r b=true then r else b)
theorem Ci(rows:List (List Int)):∀k j,j+1+k=rows.length->fx (rows.drop (j+1)) (rows.getD (argBest (iJ rows) j) [])=rows.getD (argBest (iJ rows) (rows.length - 1)) []
 |0,j,h=>by rw[(q06 (by lia)),fx,show rows.length - 1=j by lia]
 |k+1,j,h=>by
  have a:j+1<rows.length:=by lia
  rw[q0J a,fx,<-Ci rows k (j+1) (by lia)]
  congr 1
  have b:rows.getD (j+1) []=rows[j+1]:=by rw[q0R,q0c a];rfl
  simp only[argBest];unfold iJ;rw[b];split
  .exact b.symm
  .rfl
theorem QP{A:Around}(a:A.units+1<cLine):A.in1.units<cLine:=by
 have:A.in1.units<=A.units+1:=by first |exact ba _ |exact q1u _
 exact q2m this a
def lA(i:Nat):XM PyData:=fun U=>match pA U i with
 |some (_,ds)=>(match ly ds with
  |some []=>.ok .none U
  |some (r::a)=>.ok (.tuple ((fx a r).map PyData.int)) U
  |none=>.bad)
 |none=>.bad
theorem QQ{F:Fx}{E:Str->aj->Prop}{pos:Pos}{p:Pos}{kp:Pos}{kpos:Pos}{Z}(hu:X.A.units+1<cLine)(hc:X.calm=true)(hg:Gl X "min")(C:X.mg "min" = none)(hv:PE X (.Name x p1) (bZ i))
  (a0:autoParam (starEach [.Name x p1] X.env=(false,eval (.Name x p1) X.env)::starEach [] X.env) Zq._auto_1)
  (he:autoParam (backTo pos (starEach [.Name x p1] X.env)=(false,eval (.Name x p1) X.env)::backTo pos (starEach [] X.env)) Zq._auto_1)
  (f:autoParam ((backTo pos (starEach [.Name x p1] X.env)).any (·.1)=false) Zq._auto_1)
  (D:autoParam ((backToKw pos (keywordEach [⟨some "default",.Constant .none Z kp,kpos⟩] X.env)).all (·.1.isSome)=true) Zq._auto_1)
  (a1:autoParam ((backToKw pos (keywordEach [⟨some "default",.Constant .none Z kp,kpos⟩] X.env)).any (·.1.isNone)=false) Zq._auto_1)
  (hn:autoParam ((backToKw pos (keywordEach [⟨some "default",.Constant .none Z kp,kpos⟩] X.env)).filterMap (·.1)=[("default":Str)]) Zq._auto_1) :
  FE X F E (.Call (.Name "min" p) [.Name x p1] [⟨some "default",.Constant .none Z kp,kpos⟩] pos) (lA i):=by
 refine⟨aC,fun h s Y H Q I G=>?_⟩;obtain⟨U,O,st,q⟩:=G;unfold wp lA at q;cases ho:pA U i with
 |none=>rw[ho]at q;exact q.elim
 |some pr=>
  obtain⟨io,ds⟩:=pr;rw[ho]at q;simp only at q;cases hr:ly ds with
  |none=>rw[hr]at q;exact q.elim
  |some rows=>
   rw[hr]at q;obtain⟨a,fp,a2,⟨_,xs,hH,hd⟩,_,_⟩:=st.box (PN ho);refine wpAny_Call_Name_kw (iz I hg C PyProof.Rows.boot_min ?_ (by decide) (by decide));refine PyProof.Rows.callWith_kw ?_ he f D a1;refine aU ((eM hv fS a0) pos h s Y H (fun J H1=>J=[.ref a]/\H1=H) I ⟨_,a2,rfl,rfl⟩) fun us s1 M=>?_;obtain⟨J,H1,I1,r1,t,y⟩:=M;subst t y;obtain⟨u,rfl,ru⟩:=vals1 r1;cases ru;refine aU ((Kh (kpos:=kpos) yG Kg) pos h s1 Y H1 (fun J m=>J=[.non]/\m=H1) I1 ⟨rfl,rfl⟩) fun us s2 N=>?_;obtain⟨J,m,z,r2,t,y⟩:=N;subst t y;obtain⟨u,rfl,ru⟩:=vals1 r2;cases ru;rw[hn];obtain⟨z1,g,n1,rv,g1⟩:=z.hok _ _ hH;have n:=Ce hr;have L:s2.heap.IsList a g.toArray:=⟨_,g1,rfl,_,rfl⟩
   cases rows with
   |nil=>subst n;cases hd;cases rv;simp only at q;refine Qn (l:=a) (d:=.none) (z.ok.hd hc) L fun h' j=>?_;exact⟨.non,m,z.kept (t':=s2.toks) j,rfl,q _ m O st .refl .non⟩
   |cons r e=>
    simp only at q;have c:g.length=(r::e).length:=by rw[<-rv.length,hd.length,n,q0h]
    have item:∀(k:Nat) (v:Value),g[k]? = some v->∃(T:Addr) (o:List Int) (b:List Value) (B:V),v=.ref T/\IsTup s2.heap T b.toArray/\(r::e)[k]? = some o/\IntsAre b o/\bj B v/\DV (au O m) B (.tuple (o.map PyData.int)):=fun k v j=>by
     have R:k<(r::e).length:=by rw[<-c];exact(q0a.mp j).1
     obtain⟨B,a4,S⟩:=hd.get (by rw[n,q0y,q0c R];rfl);obtain⟨w,hw,a5⟩:=rv.get a4;rw[j]at hw;cases hw;obtain⟨T,ys,rfl,hT,hy⟩:=S.tup_inv;obtain⟨_,b,rj,pj⟩:=(ig hT).1.ok z.hok;rw[Cf hy]at rj;cases a5;exact⟨T,_,b,.ref T,rfl,pj,q0c R,Cg rj,rfl,S⟩
    refine QO (l:=a) (its:=g.toArray) (rows:=r::e) (d:=.none) (z.ok.hd hc) (QP hu) L ⟨c,fun k v j=>by
     obtain⟨T,o,b,B,t,y,e3,e4,_,_⟩:=item k v j;exact⟨T,b.toArray,o,t,y,e3,e4⟩⟩ (by simp only[q0m];rw[c];simp) fun v h' tk hv j=>?_
    simp only[q0m,q0W]at hv;obtain⟨T,o,b,B,t,y,e3,e4,e5,e6⟩:=item _ v hv;have C:=Ci (r::e) e.length 0 (by simp;lia);have a6:(r::e).getD (argBest (iJ (r::e)) 0) []=r:=by simp[argBest]
    rw[a6]at C;change fx e r=_ at C;rw[c]at e3;have:o=fx e r:=by rw[C,q0R,e3];rfl
    subst this;exact⟨B,m,z.kept (t':=tk) j,e5,q _ m O st .refl e6⟩
structure MD (K:Frag) (C:Addr) (m qual:Str) (st:Stmt) (ps:List Str) (g:Addr) (fd:FuncData):Prop where
 fn:ni K m qual st g fd
 mt:iR K C m g
 b:iB K fd ps []
theorem bH{N P}{a}(f:autoParam (a.kind=.function) Zq._auto_1)(g:autoParam (a.isCoroutine=false) Zq._auto_1)(h:autoParam (a.isGenerator=false) Zq._auto_1)(b:N.Nodup:=by decide +kernel)(c:autoParam (N.take P.length=P) Zq._auto_1)(d:∀x∈P,a.names.lookup x=some .local\/a.names.lookup x=some .cell:=by decide +kernel)(e:∀y∈a.names,y.2≠.free:=by decide +kernel):cm N P a:=⟨f,g,h,b,c,d,e⟩
theorem fv{X:Cx}{F:Fx}{E:Str->aj->Prop}{pos:Pos}(i)(b:autoParam (X.N[i]? = some x) Zq._auto_1)(c:qY X.env.scope x:=by first |exact Or.inl rfl |exact Or.inr (Or.inl rfl) |exact Or.inr (Or.inr rfl))(hd:autoParam ((x==("__debug__":Str))=false) Zr._auto_1)(a:autoParam ((x==("__classdict__":Str))=false) Zr._auto_1):FE X F E (.Name x pos) (xV i):=OM (zZ i (pv i b c hd a))
theorem QR{X:Cx}{F:Fx}{pos:Pos}(i)(a:X.N.Nodup)(b:autoParam (X.N[i]? = some x) Zq._auto_1)(c:Loc X.env.scope x:=by first |exact Or.inl rfl |exact Or.inr rfl)(d:X.fn x=true\/X.env.scope.names.lookup x=some .local:=by first |exact .inl rfl |exact .inr rfl |assumption):FG X F (.Name x pos) (al i):=Pc (MQ (Je a b c d))
theorem nP{pos:Pos}{p:Pos}{st:Stmt}(d:fH X F E)(G:bX X.prog X.w X.K X.mg X.base (dR X.prog X.w) k g fd ps (fq X.K X.mg f))(D:FD X.K X.mg x st ps g fd)(h:br j X.A)(l:FX X F E (e::es) mX)(n:autoParam (k<=j) Zr._auto_1)(o:autoParam (Gl X x) Zq._auto_1)(a:autoParam ((x==("__debug__":Str))=false) Zr._auto_1)
  (r:autoParam (starEach (e::es) X.env=(false,eval e X.env)::starEach es X.env) Zq._auto_1) (c:autoParam ((backTo pos (starEach es X.env)).any (·.1)=false) Zq._auto_1):FO X F E (.Call (.Name x p) (e::es) [] pos) (aO f mX):=Pg (NA d G (h.mono n) o D.mgf D.fn.kp D.b l a r c)
end L2.L3
namespace HT
open PySem PyProof.Rows
theorem getItem_tuple_whole{lo }(a:IsTup s.heap t items)(j:s.heap.IsSliceOf f g i .none)(m:IsPart g lo)(k:IsPart i b)
  (n:sIx items.size 0 lo=0) (o:sIx items.size items.size b=items.size) (h:Q (.ref t) s):wpAny (model prog w) A (getItem (.ref t) (.ref f)) Q E s:=by
 obtain⟨os,c,d,l⟩:=id j;unfold getItem
 try with_reducible apply wpAny_holding
 first |refine af (aJ ?_) |skip
 refine af (wpAny_sequenceKey a.typeIs (by decide) (af (wpAny_callSpecial?_slot a.typeIs PyProof.Rows.slot_tuple_getitem (wpAny_call_entry PyProof.Rows.slot_tuple_getitem a.typeIs entry_tuple_getitem ?_ (args_tuple_getitem _ _)))));show wpAny _ _ (Builtin.Tuple.tupleItemsOf (.ref t) >>= _) _ _ s;refine af (tupleItemsOf_ a (af (wpAny_typeOf (⟨os,c,d⟩) ?_)));rw[if_pos (by decide)];refine af (zk j m k ?_);show wpAny _ _ (if (((sIx items.size 0 lo):Int)==0&&(1)==1&&(sIx items.size items.size b - sIx items.size 0 lo)==items.size)=true then _ else _) _ _ s;rw[if_pos (by rw[n,o];simp)];first
  |exact af (af (wpAny_typeOf a.typeIs (aJ (by
    rw[if_pos (by decide)];exact af (wpAny_rule (aJ ⟨_,rfl,aJ h⟩))))))
  |exact af (af (wpAny_typeOf a.typeIs (aJ (by
    rw[if_pos (by decide)];exact af (wpAny_rule (af (aJ (aJ ⟨_,rfl,aJ h⟩))))))))
  |exact af (af (af (wpAny_typeOf a.typeIs (aJ (by
    rw[if_pos (by decide)];exact af (wpAny_rule (aJ (aJ ⟨_,rfl,aJ h⟩))))))))
end HT
namespace L2
open PySem PySem.Spec PyProof.Rows
def QS(K:Frag):V->Option Int->Option Int->Hp->VK->Prop:=fun x lo c H Q=>∃a b,x=.ref a/\eL K H a b/\HT.sIx b.length 0 lo=0/\HT.sIx b.length b.length c=b.length/\Q (.ref a) H
theorem QT:jt X (QS X.K):=by
 intro d s Y H x v m n lo o t Q I f k l g h;obtain⟨a,i,rfl,j,h0,h1,q⟩:=h;cases f;obtain⟨c,r,e,p⟩:=I.tuple j;have b:c.toArray.size=i.length:=by rw[q0m];exact r.length.symm
 exact⟨"tuple",_,PyProof.Rows.slot_tuple_getitem.lookup,e.typeIs,HT.getItem_tuple_whole e k l g (by rw[b];exact h0) (by rw[b];exact h1) ⟨.ref a,H,I,rfl,q⟩⟩
end L2
namespace L2.L3
open PySem PySem.Spec PyProof.Rows
def cutD(a:List PyData)(lo b:Option Int):List PyData:=(a.drop (HT.sIx a.length 0 lo)).take (HT.sIx a.length a.length b - HT.sIx a.length 0 lo)
theorem aG.drop:∀{a b} n,aG H a b->aG H (a.drop n) (b.drop n)
 |_,_,0,h=>h
 |_,_,_+1,.nil=>.nil
 |_,_,n+1,.cons _ t=>aG.drop n t
theorem aG.take:∀{a b} n,aG H a b->aG H (a.take n) (b.take n)
 |_,_,0,_=>.nil
 |_,_,_+1,.nil=>.nil
 |_,_,n+1,.cons h t=>.cons h (aG.take n t)
theorem Cj{lo }(h:aG H a c):aG H (ju a lo b) (cutD c lo b):=by unfold ju cutD;rw[h.length];exact aG.take _ (aG.drop _ h)
def QU(K:Frag)(F:Fx)(t:aj->(Option Int->aj->Prop)->Prop):TO:=fun Y H Q=>∃U O,aD K F H Y U O/\t U fun o c=>∀a b,aD K F a Y c b->aQ O H b a->Q o a
def FP(X:Cx)(F:Fx)(E:Str->aj->Prop)(e:Option Expr)(m:XM (Option Int)):Prop:=PO X e (QU X.K F (wp E m))
@[simp]noncomputable def nQ:XM (Option Int):=fun U=>.ok none U
@[simp] def nR(m:XM PyData):XM (Option Int):=fun U=>(m U).bind fun d=>lift (match d with |.int i=>some (some i) |_=>none)
theorem PO.imp(h:PO X e t)(k:∀Y H Q,t' Y H Q->t Y H Q):PO X e t':=fun a s Y H Q I q=>h a s Y H Q I (k Y H Q q)
theorem Ck:FP X F E none nQ:=PO.imp zl fun Y H Q a=>by obtain⟨U,O,st,q⟩:=a;exact q H O st .refl
theorem Cm(h:FE X F E e m):FP X F E (some e) (nR m):=PO.imp (zm h.pe) fun Y H Q ⟨U,O,st,q⟩=>⟨U,O,st,aC _ _ _ (fun d n c v f g a j k=>by
 obtain⟨y,b,l⟩:=cV c;cases d with
 |int i=>cases b;exact⟨i,k.int_inv,l f g a j⟩
 |_=>cases b) (bK q)⟩
def mH(d:PyData)(l h:Option Int):Option PyData:=match d with
 |.list ds=>some (.list (cutD ds l h))
 |.tuple ds=>some (.tuple (cutD ds l h))
 |_=>none
@[simp] def nU(m:XM PyData)(lo hi:XM (Option Int)):XM PyData:=fun U=>(m U).bind fun d a=>(lo a).bind fun l b=>(hi b).bind fun h=>lift (mH d l h)
theorem Co{lo:Option Expr}(I:FE X F E e m)(J:FP X F E lo t)(hh:FP X F E hi j):FE X F E (.Subscript e (.Slice lo hi none p2) pos) (nU m t j):=
 ⟨aC,(zn (jt.or (jt.or Ky QT) zt) I.pe J hh).imp fun Y H Q n=>by obtain⟨U,O,st,q⟩:=n;exact 
  ⟨U,O,st,aC _ _ _ (fun d w L v H1 M x N R=>⟨w,M,x,aC _ _ _ (fun l o S H2 T z D=>⟨o,T,z,aC _ _ _ (fun h U3 Z H3 A b G=>by
   obtain⟨y,B,C⟩:=cV Z;have g:=DV.mono (D.trans G).hid R;have i:=N.trans (D.trans G);cases d with
   |list ds=>cases B;obtain⟨a,f,rfl,u,r⟩:=g.lst_inv;exact .inr ⟨a,f,rfl,.of (cK u).1,fun p c=>C _ _ A (b.grow (bS c)) (i.trans (.same (bS c))) (jz c (b.nofree p c) (Cj r))⟩
   |tuple ds=>
    cases B;obtain⟨a,f,ev,u,r⟩:=id g.tup_inv;subst ev;refine .inl ?_
    by_cases s:HT.sIx f.length 0 l=0/\HT.sIx f.length f.length h=f.length
    .refine .inr ⟨a,f,rfl,.inl (ig u).1,s.1,s.2,C _ H3 A b i ?_⟩;have:cutD ds l h=ds:=by unfold cutD;rw[<-r.length,s.1,s.2];rw[q2N,q2S,r.length];exact List.take_length
     rw[this];exact g
    .exact .inl ⟨a,f,rfl,.inl (ig u).1,s,fun p c=>C _ _ A (b.grow (bS c)) (i.trans (.same (bS c))) (mj c (b.nofree p c) (Cj r))⟩
   |_=>cases B) (bK (k:=fun h=>lift (mH d l h)) S)⟩) (bK L)⟩) (bK q)⟩⟩
end L2.L3
namespace L2.TS
open PySem PyProof.Rows
section
variable{α:Type}{le:α->α->Bool}
theorem sx:∀{xs},(∀x∈xs,le x b=true)->List.merge (xs++as) (b::bs) le=xs++List.merge as (b::bs) le
 |[],_=>rfl
 |x::xs,h=>by rw[q0B,q0S,if_pos (h x q0f),sx fun y a=>h y (bt _ a)];rfl
theorem wL:∀{ys},(∀y∈ys,le a y=false)->List.merge (a::as) (ys++bs) le=ys++List.merge (a::as) bs le
 |[],_=>rfl
 |y::ys,h=>by rw[q0B,q0S,if_neg (by rw[h y q0f];exact q0x),wL fun z b=>h z (bt _ b)];rfl
theorem wM(h:∀y∈bs,∀x∈b,le x y=false):List.merge b bs le=bs++b:=by
 cases b with
 |nil=>simp
 |cons x b=>have:=wL (as:=b) (bs:=[]) fun y c=>h y c x q0f;rw[q0F,q2A]at this;exact this
theorem QV(h:∀x∈as,∀y∈a,le x y=true):List.merge as a le=as++a:=by
 cases a with
 |nil=>simp
 |cons y a=>have:=sx (as:=[]) (bs:=a) fun x c=>h x c y q0f;simpa using this
theorem wN:∀as bs,(∀y∈bs,∀x∈c,le x y=false)->List.merge (as++c) bs le=List.merge as bs le++c
 |[],bs,h=>by simpa using wM h
 |a::as,[],h=>by simp
 |a::as,b::bs,h=>by
  rw[q0B,q0S,q0S];split
  .rw[wN as (b::bs) h];rfl
  .rw[<-q0B,wN (a::as) bs fun y d=>h y (bt _ d)];rfl
termination_by as bs=>as.length+bs.length
theorem sy:∀as bs,(∀x∈as,∀y∈c,le x y=true)->List.merge as (bs++c) le=List.merge as bs le++c
 |as,[],h=>by simpa using QV h
 |[],b::bs,h=>by simp
 |a::as,b::bs,h=>by
  rw[q0B,q0S,q0S];split
  .rw[<-q0B,sy as (b::bs) fun x d=>h x (bt _ d)];rfl
  .rw[sy (a::as) bs h];rfl
termination_by as bs=>as.length+bs.length
end
noncomputable def dF:Bool->Keyed->Array Keyed->Nat->Nat->Nat->StateT SortSt Sem (Option Nat):=sortPriv% PySem.Builtin.gallop
noncomputable def nV(lf:Bool)(a:Keyed)(b:Array Keyed)(bs i:Nat):StateT SortSt Sem (Option Bool):=do
 let x <-elem' b (bs+i)
 if lf then lt' x a else return (<-lt' a x).map (!·)
def sA(lf:Bool)(ky:Keyed)(ar:Array Keyed)(bs n l0 h0:Nat):StateT SortSt Sem (Option Nat):=do
 let mut lo:=l0;let mut hi:=h0
 for _ in [0:n] do
  if lo≥hi then break
  let m:=lo+(hi - lo) / 2
  let some mo <-nV lf ky ar bs m |return none
  if mo then lo:=m+1 else hi:=m
 return some hi
theorem QW(lf ky ar bs n hn):dF lf ky ar bs n hn=(do
 let mut la:=0;let mut of:=1
 let some rt <-nV lf ky ar bs hn |return none
 if rt then
  for _ in [0:n] do
   if of≥n - hn then break
   let some mo <-nV lf ky ar bs (hn+of) |return none
   if !mo then break
   la:=of
   of:=2 * of+1
  sA lf ky ar bs n (hn+la+1) (hn+min of (n - hn))
 else
  for _ in [0:n] do
   if of≥hn+1 then break
   let some fd <-nV lf ky ar bs (hn - of) |return none
   if fd then break
   la:=of
   of:=2 * of+1
  sA lf ky ar bs n (hn+1 - min of (hn+1)) (hn - la)):=rfl
def eR(prog:Program)(w:World)(A:Around)(E:Value->Shared->Prop)(s:Shared)(le:Keyed->Keyed->Bool)(κ:SortKind)(S:Keyed->Prop):Prop:=
 ∀x y,S x->S y->∀(Q:Option Bool->SortSt->Prop) (st:SortSt),kindOf st=κ->Q (some (!le y x)) st->wpS (model prog w) A E s (lt' x y) Q st
theorem ei{st}(h:a[i]? = some x)(q:Q x st):wpS (model prog w) A E s (elem' a i) Q st:=by rw[elem'_eq,h];exact be q
noncomputable def eF(le:Keyed->Keyed->Bool)(lf:Bool)(a x:Keyed):Bool:=if lf then !le a x else le x a
theorem sC(b:eR prog w A E s le κ S){st}(d:kindOf st=κ)(g:c[bs+i]? = some x)(e:S x)(f:S a)
  (q:Q (some (eF le lf a x)) st):wpS (model prog w) A E s (nV lf a c bs i) Q st:=by
 refine aN (ei g ?_);cases lf with
 |true=>exact b x a e f Q st d q
 |false=>exact aN (b a x f e _ st d (be (by simpa[eF] using q)))
theorem Cp{p:Nat->Bool}{st:SortSt}(t:eR prog w A E s le κ S)(u:kindOf st=κ)(v:S ky)(q:∀i,i<n->∃x,ar[bs+i]? = some x/\S x/\eF le lf ky x=p i)(mono:∀i j,i<=j->j<n->p j=true->p i=true)
  (h:∀k,k<=n->(∀i,i<k->p i=true)->(∀i,k<=i->i<n->p i=false)->Q (some k) st) (r:o<=m) (y:m<=n) (M:∀i,i<o->p i=true) (N:∀i,m<=i->i<n->p i=false) :
  wpS (model prog w) A E s (sA lf ky ar bs n o m) Q st:=by
 refine aN (wpS_mono (wpS_forRange (I:=fun x c a=>a = st/\∃lo b,c=(none,lo,b)/\lo<=b/\b<=n/\b - lo<=n - x/\(∀i,i<lo->p i=true)/\(∀i,b<=i->i<n->p i=false))
  (Q:=fun c a=>a = st/\∃k,c=(none,k,k)/\k<=n/\(∀i,i<k->p i=true)/\(∀i,k<=i->i<n->p i=false)) ?_ ?_ ⟨rfl,o,m,rfl,r,y,by lia,M,N⟩) ?_)
 .rintro x c a _ R ⟨rfl,lo,b,rfl,z,d,B,f,g⟩;by_cases l:lo≥b
  .rw[if_pos l];have:lo=b:=by lia
   subst this;exact be ⟨rfl,lo,rfl,d,f,g⟩
  .rw[if_neg l];obtain⟨x,C,D,G⟩:=q (lo+(b - lo) / 2) (by lia);refine aN (sC t u C D v ?_);rw[G];cases e:p (lo+(b - lo) / 2) with
   |true=>exact be ⟨rfl,_,_,rfl,by lia,d,by lia,fun i H=>mono i _ (by lia) (by lia) e,g⟩
   |false=>
    refine be ⟨rfl,_,_,rfl,by lia,by lia,by lia,f,fun i O J=>?_⟩;cases L:p i with
    |false=>rfl
    |true=>rw[mono _ i O J L]at e;cases e
 .rintro c a ⟨rfl,lo,b,rfl,z,d,B,f,g⟩;have:lo=b:=by lia
  subst this;exact⟨rfl,lo,rfl,d,f,g⟩
 .rintro c a ⟨rfl,k,rfl,d,f,g⟩;exact be (h k d f g)
theorem QX{p:Nat->Bool}{st:SortSt}(r:eR prog w A E s le κ S)(t:kindOf st=κ)(u:S ky)(l:∀i,i<n->∃x,ar[bs+i]? = some x/\S x/\eF le lf ky x=p i)(mono:∀i j,i<=j->j<n->p j=true->p i=true)
  (h:∀k,k<=n->(∀i,i<k->p i=true)->(∀i,k<=i->i<n->p i=false)->Q (some k) st) (M:b<n) :
  wpS (model prog w) A E s (dF lf ky ar bs n b) Q st:=by
 rw[QW];have o:∀i j,i<=j->j<n->p i=false->p j=false:=fun i j C v e=>by
  cases H:p j with
  |false=>rfl
  |true=>rw[mono i j C v H]at e;cases e
 obtain⟨x,y,z,B⟩:=l b M;refine aN (sC r t y z u ?_);rw[B];dsimp only;cases e:p b with
 |true=>
  rw[if_pos rfl];refine aN (wpS_mono (wpS_forRange (I:=fun x c a=>a = st/\∃la of,c=(none,la,of)/\la<of/\x+1<=of/\b+la<n/\p (b+la)=true)
   (Q:=fun c a=>a = st/\∃la of,c=(none,la,of)/\la<of/\b+la<n/\p (b+la)=true/\(n - b<=of\/(b+of<n/\p (b+of)=false))) ?_ ?_ ⟨rfl,0,1,rfl,by lia,by lia,by lia,e⟩) ?_)
  .rintro x c a _ J ⟨rfl,la,of,rfl,m,D,g,f⟩;by_cases d:of≥n - b
   .rw[if_pos d];exact be ⟨rfl,la,of,rfl,m,g,f,.inl d⟩
   .rw[if_neg d];obtain⟨x,y,z,B⟩:=l (b+of) (by lia);refine aN (sC r t y z u ?_);rw[B];cases e:p (b+of) with
    |true=>exact be ⟨rfl,of,_,rfl,by lia,by lia,by lia,e⟩
    |false=>exact be ⟨rfl,la,of,rfl,m,g,f,.inr ⟨by lia,e⟩⟩
  .rintro c a ⟨rfl,la,of,rfl,m,D,g,f⟩;exact⟨rfl,la,of,rfl,m,g,f,.inl (by lia)⟩
  .rintro c a ⟨rfl,la,of,rfl,m,g,f,q⟩;dsimp only;refine Cp r t u l mono h (by lia) (by lia) (fun i L=>mono i _ (by lia) g f) (fun i C v=>?_);rcases q with q |⟨q,G⟩
   .omega
   .exact o _ i (by lia) v G
 |false=>
  rw[if_neg q0x];refine aN (wpS_mono (wpS_forRange (I:=fun x c a=>a = st/\∃la of,c=(none,la,of)/\la<of/\x+1<=of/\la<=b/\p (b - la)=false)
   (Q:=fun c a=>a = st/\∃la of,c=(none,la,of)/\la<of/\la<=b/\p (b - la)=false/\(b+1<=of\/(of<=b/\p (b - of)=true))) ?_ ?_ ⟨rfl,0,1,rfl,by lia,by lia,by lia,e⟩) ?_)
  .rintro x c a _ J ⟨rfl,la,of,rfl,m,D,g,f⟩;by_cases d:of≥b+1
   .rw[if_pos d];exact be ⟨rfl,la,of,rfl,m,g,f,.inl d⟩
   .rw[if_neg d];obtain⟨x,y,z,B⟩:=l (b - of) (by lia);refine aN (sC r t y z u ?_);rw[B];cases e:p (b - of) with
    |false=>exact be ⟨rfl,of,_,rfl,by lia,by lia,by lia,e⟩
    |true=>exact be ⟨rfl,la,of,rfl,m,g,f,.inr ⟨by lia,e⟩⟩
  .rintro c a ⟨rfl,la,of,rfl,m,D,g,f⟩;exact⟨rfl,la,of,rfl,m,g,f,.inl (by lia)⟩
  .rintro c a ⟨rfl,la,of,rfl,m,g,f,q⟩;dsimp only;refine Cp r t u l mono h (by lia) (by lia) (fun i L=>?_) (fun i C v=>o _ i C v f);rcases q with q |⟨q,G⟩
   .omega
   .exact mono i _ (by lia) (by lia) G
theorem nW{st:SortSt}(g:eR prog w A E s le κ S)(f:∀x y z,le x y=true->le y z=true->le x z=true)(l:kindOf st=κ)(m:S ky)(o:∀(i:Nat)  x,ar[i]? = some x->S x)(r:bs+n<=ar.size)
  (t:∀i j  x y,bs<=i->i<=j->j<bs+n->ar[i]? = some x->ar[j]? = some y->le x y=true)
  (h:∀k,k<=n->(∀i,i<k->∀x,ar[bs+i]? = some x->eF le lf ky x=true)->(∀i,k<=i->i<n->∀x,ar[bs+i]? = some x->eF le lf ky x=false)->Q (some k) st) (C:a<n) :
  wpS (model prog w) A E s (dF lf ky ar bs n a) Q st:=by
 refine QX (p:=fun i=>match ar[bs+i]? with |some x=>eF le lf ky x |none=>false) g l m (fun i b=>?_) (fun i j u I e=>?_) (fun k fZ D G=>h k fZ (fun i b x e=>?_) (fun i H v x e=>?_)) C
 .have e:ar[bs+i]? = some (ar[bs+i]'(by lia)):=getElem?_pos _ _ (by lia);exact⟨_,e,o _ _ e,by simp only[e]⟩
 .have c:ar[bs+i]? = some (ar[bs+i]'(by lia)):=getElem?_pos _ _ (by lia);have d:ar[bs+j]? = some (ar[bs+j]'(by lia)):=getElem?_pos _ _ (by lia);have q:=t _ _ _ _ (by lia) (by lia) (by lia) c d;simp only[c,d]at e ⊢;cases lf with
  |false=>exact f _ _ _ q e
  |true=>
   simp only[eF,if_true]at e ⊢;cases B:le ky (ar[bs+i]'(by lia)) with
   |false=>rfl
   |true=>rw[f _ _ _ B q]at e;cases e
 .have:=D i b;simp only[e]at this;exact this
 .have:=G i H v;simp only[e]at this;exact this
noncomputable def fi:Nat->StateT SortSt Sem Unit:=sortPriv% PySem.Builtin.setMinGallop
theorem sE(g):fi g=modify fun s=>SortSt.mk' (kindOf s) (arrOf s) (pendingOf s) g (failedOf s):=rfl
noncomputable def kz:Array Keyed->Array Keyed->StateT SortSt Sem (Array Keyed):=sortPriv% PySem.Builtin.mergeLo
abbrev jh:=Option (Array Keyed)×Array Keyed×Nat×Nat×Nat×Nat×Nat
abbrev pM:=Option (Array Keyed)×Array Keyed×Nat×Nat×Nat×Nat
noncomputable def dn(a b o:Array Keyed)(c d:Nat):Array Keyed:=o++a.extract c a.size++b.extract d b.size
noncomputable def la(a b o:Array Keyed)(c d:Nat):Array Keyed:=o++b.extract d b.size++a.extract c a.size
def pN(a b:Array Keyed)(mg ac d:Nat)(o:Array Keyed)(c e:Nat):StateT SortSt Sem (ForInStep jh):=do
 let x <-elem' a c
 if c+1+1==a.size then pure (.done (some (la a b (o.push x) (c+1) e),o.push x,c+1,e,mg,ac,d))
 else if ac<7&&d<7 then pure (.done (none,o.push x,c+1,e,mg,ac,d)) else pure (.yield (none,o.push x,c+1,e,mg,ac,d))
def pO(a b:Array Keyed)(mg ac e:Nat)(o:Array Keyed)(d c:Nat):StateT SortSt Sem (ForInStep jh):=do
 let y <-elem' b c
 if c+1==b.size then pure (.done (some (dn a b (o.push y) d (c+1)),o.push y,d,c+1,mg,ac,e))
 else
  let x <-elem' a d
  match <-dF true x b (c+1) (b.size - (c+1)) 0 with
  |some k=>
   if k>0 then
    if c+1+k==b.size then pure (.done (some (dn a b (o.push y++b.extract (c+1) (c+1+k)) d (c+1+k)),o.push y++b.extract (c+1) (c+1+k),d,c+1+k,mg,ac,k))
    else pN a b mg ac k (o.push y++b.extract (c+1) (c+1+k)) d (c+1+k)
   else pN a b mg ac k (o.push y) d (c+1)
  |_=>pure (.done (some (dn a b (o.push y) d (c+1)),o.push y,d,c+1,mg,ac,e))
def pP(a b:Array Keyed)(ac e:Nat)(o:Array Keyed)(c d mg:Nat):StateT SortSt Sem (ForInStep jh):=do
 fi mg
 let y <-elem' b d
 match <-dF false y a c (a.size - c) 0 with
 |some k=>
  if k>0 then
   if c+k+1==a.size then pure (.done (some (la a b (o++a.extract c (c+k)) (c+k) d),o++a.extract c (c+k),c+k,d,mg,k,e))
   else if c+k==a.size then pure (.done (some (dn a b (o++a.extract c (c+k)) (c+k) d),o++a.extract c (c+k),c+k,d,mg,k,e))
   else pO a b mg k e (o++a.extract c (c+k)) (c+k) d
  else pO a b mg k e o c d
 |_=>pure (.done (some (dn a b o c d),o,c,d,mg,ac,e))
def sF(a b:Array Keyed)(c:jh):StateT SortSt Sem (ForInStep jh):=
 if c.2.2.2.2.1>1 then pP a b c.2.2.2.2.2.1 c.2.2.2.2.2.2 c.2.1 c.2.2.1 c.2.2.2.1 (c.2.2.2.2.1 - 1) else pP a b c.2.2.2.2.2.1 c.2.2.2.2.2.2 c.2.1 c.2.2.1 c.2.2.2.1 c.2.2.2.2.1
def sG(a b:Array Keyed)(mg:Nat)(c:pM):StateT SortSt Sem (ForInStep pM):=do
 let y <-elem' b c.2.2.2.1;let x <-elem' a c.2.2.1
 match <-lt' y x with
 |some d=>
  if d then do
   let y <-elem' b c.2.2.2.1
   if c.2.2.2.1+1==b.size then pure (.done (some (dn a b (c.2.1.push y) c.2.2.1 (c.2.2.2.1+1)),c.2.1.push y,c.2.2.1,c.2.2.2.1+1,0,c.2.2.2.2.2+1))
   else if c.2.2.2.2.2+1≥mg then pure (.done (none,c.2.1.push y,c.2.2.1,c.2.2.2.1+1,0,c.2.2.2.2.2+1)) else pure (.yield (none,c.2.1.push y,c.2.2.1,c.2.2.2.1+1,0,c.2.2.2.2.2+1))
  else do
   let x <-elem' a c.2.2.1
   if c.2.2.1+1+1==a.size then pure (.done (some (la a b (c.2.1.push x) (c.2.2.1+1) c.2.2.2.1),c.2.1.push x,c.2.2.1+1,c.2.2.2.1,c.2.2.2.2.1+1,0))
   else if c.2.2.2.2.1+1≥mg then pure (.done (none,c.2.1.push x,c.2.2.1+1,c.2.2.2.1,c.2.2.2.2.1+1,0)) else pure (.yield (none,c.2.1.push x,c.2.2.1+1,c.2.2.2.1,c.2.2.2.2.1+1,0))
 |_=>pure (.done (some (dn a b c.2.1 c.2.2.1 c.2.2.2.1),c.2.1,c.2.2.1,c.2.2.2.1,c.2.2.2.2.1,c.2.2.2.2.2))
abbrev sH:=Option (Array Keyed)×Array Keyed×Nat×Nat×Nat
def sI(a b:Array Keyed)(c:sH):StateT SortSt Sem (ForInStep sH):=do
 let d <-forIn [:a.size+b.size] ((none,c.2.1,c.2.2.1,c.2.2.2.1,0,0):pM) fun _ d=>sG a b c.2.2.2.2 d
 match d.1 with
 |some r=>pure (.done (some r,d.2.1,d.2.2.1,d.2.2.2.1,c.2.2.2.2))
 |none=>
  rule "list.sort.gallop"
  let e <-forIn [:a.size+b.size] ((none,d.2.1,d.2.2.1,d.2.2.2.1,c.2.2.2.2+1,d.2.2.2.2.1,d.2.2.2.2.2):jh) fun _ e=>sF a b e
  match e.1 with
  |some r=>pure (.done (some r,e.2.1,e.2.2.1,e.2.2.2.1,e.2.2.2.2.1))
  |none=>
   fi (e.2.2.2.2.1+1)
   pure (.yield (none,e.2.1,e.2.2.1,e.2.2.2.1,e.2.2.2.2.1+1))
theorem fb{r:Std.Legacy.Range}{x}{f g}{k a:β->StateT SortSt Sem γ}(h:∀i c,f i c=g i c)(b:∀c,k c=a c):(forIn r x f >>= k)=(forIn r x g >>= a):=by rw[(funext fun i=>funext fun c=>h i c),(funext b)]
theorem gW[Decidable p]{α:Type}{x a y b:α}(c:x=a)(d:y=b):(if p then x else y)=if p then a else b:=by rw[c,d]
theorem QY(a b):kz a b=(do
 rule "list.sort.merge-lo"
 let tt:=a.size+b.size;let dn (o:Array Keyed) (ia ib:Nat):=o++a.extract ia a.size++b.extract ib b.size;let la (o:Array Keyed) (ia ib:Nat):=o++b.extract ib b.size++a.extract ia a.size;let mut o:Array Keyed:=#[<-elem' b 0];let mut ia:=0;let mut ib:=1
 if ib==b.size then return dn o ia ib
 if ia+1==a.size then return la o ia ib
 let mut mg:=gallopOf (<-get)
 for _ in [0:tt] do
  let mut ac:=0;let mut bc:=0
  for _ in [0:tt] do
   let some bw <-lt' (<-elem' b ib) (<-elem' a ia) |return dn o ia ib
   if bw then
    o:=o.push (<-elem' b ib);ib:=ib+1;bc:=bc+1;ac:=0
    if ib==b.size then return dn o ia ib
    if bc≥mg then break
   else
    o:=o.push (<-elem' a ia);ia:=ia+1;ac:=ac+1;bc:=0
    if ia+1==a.size then return la o ia ib
    if ac≥mg then break
  rule "list.sort.gallop"
  mg:=mg+1
  for _ in [0:tt] do
   if mg>1 then mg:=mg - 1
   fi mg
   let some k <-dF false (<-elem' b ib) a ia (a.size - ia) 0 |return dn o ia ib
   ac:=k
   if k>0 then
    o:=o++a.extract ia (ia+k);ia:=ia+k
    if ia+1==a.size then return la o ia ib
    if ia==a.size then return dn o ia ib
   o:=o.push (<-elem' b ib);ib:=ib+1
   if ib==b.size then return dn o ia ib
   let some k <-dF true (<-elem' a ia) b ib (b.size - ib) 0 |return dn o ia ib
   bc:=k
   if k>0 then
    o:=o++b.extract ib (ib+k);ib:=ib+k
    if ib==b.size then return dn o ia ib
   o:=o.push (<-elem' a ia);ia:=ia+1
   if ia+1==a.size then return la o ia ib
   if ac<7&&bc<7 then break
  mg:=mg+1
  fi mg
 unsupported "internal:list.sort.merge-bound"):=rfl
theorem QZ(a b):kz a b=(do
 rule "list.sort.merge-lo"
 let y <-elem' b 0
 if 1==b.size then return dn a b #[y] 0 1
 if 0+1==a.size then return la a b #[y] 0 1
 let g <-get;let c <-forIn [:a.size+b.size] ((none,#[y],0,1,gallopOf g):sH) fun _ c=>sI a b c
 match c.1 with
 |some r=>pure r
 |none=>unsupported "internal:list.sort.merge-bound"):=by
 rw[QY];refine bP fun _=>?_;dsimp only;refine bP fun y=>congrArg _ (congrArg _ (bP fun g=>fb (fun _ c=>?_) fun c=>?_))
 .refine fb (fun _ d=>?_) fun d=>?_
  .refine bP fun _=>bP fun _=>bP fun q=>?_;cases q<;>rfl
  .obtain⟨r,d⟩:=d;cases r with
   |some r=>rfl
   |none=>
    refine bP fun _=>fb (fun _ e=>?_) fun e=>?_
    .refine gW ?_ ?_ <;>
     .refine bP fun _=>bP fun _=>bP fun q=>?_;cases q with
      |none=>rfl
      |some k=>
       refine gW (gW rfl (gW rfl ?_)) ?_ <;>
       .refine bP fun _=>gW rfl (bP fun _=>bP fun q=>?_);cases q<;>rfl
    .obtain⟨r,e⟩:=e;cases r<;>rfl
 .obtain⟨r,c⟩:=c;cases r<;>rfl
theorem kA{α:Type}{l:List α}{x}(h:l[i]? = some x):l.drop i=x::l.drop (i+1):=by obtain⟨a,h2⟩:=q0a.mp h;rw[q0J a,h2]
theorem drop_take{α:Type}(l:List α)(i k):l.drop i=(l.drop i).take k++l.drop (i+k):=by rw[<-q1p];exact(q1b k (l.drop i)).symm
theorem iK{α:Type}(a:Array α)(i j):(a.extract i j).toList=(a.toList.drop i).take (j - i):=by simp
theorem dg{α:Type}{a:Array α}{i:Nat}:a[i]? = a.toList[i]?:=by simp
def JJ(le:Keyed->Keyed->Bool)(a b:Array Keyed)(o:Array Keyed)(c d:Nat):Prop:=o.toList++List.merge (a.toList.drop c) (b.toList.drop d) le=List.merge a.toList b.toList le
theorem JJ.pb(h:JJ le a b o ia ib)(c:a[ia]? = some x)(d:b[ib]? = some y)(e:le x y=false):JJ le a b (o.push y) ia (ib+1):=by unfold JJ at h ⊢;rw[dg]at c d;rw[<-h,kA c,kA d,q0S,if_neg (by rw[e];exact q0x)];simp
theorem JJ.pa(h:JJ le a b o ia ib)(c:a[ia]? = some x)(d:b[ib]? = some y)(e:le x y=true):JJ le a b (o.push x) (ia+1) ib:=by unfold JJ at h ⊢;rw[dg]at c d;rw[<-h,kA c,kA d,q0S,if_pos e];simp
theorem pQ{l:List Keyed}(h:x∈(l.drop i).take k):∃j,j<k/\l[i+j]? = some x:=by
 obtain⟨j,c⟩:=q1g h;rw[q1M]at c;split at c
 .rename_i q;rw[q1N]at c;exact⟨j,q,c⟩
 .cases c
theorem JJ.ga(h:JJ le a b o ia ib)(c:b[ib]? = some y)(e:∀i,i<k->∀x,a[ia+i]? = some x->le x y=true):JJ le a b (o++a.extract ia (ia+k)) (ia+k) ib:=by unfold JJ at h ⊢;rw[dg]at c;rw[<-h,drop_take a.toList ia k,kA c,sx (fun x d=>by obtain⟨j,f,q⟩:=pQ d;exact e j f x (by rw[dg];exact q))];simp only[q08,iK,q0k,q02]
theorem JJ.gb(h:JJ le a b o ia ib)(c:a[ia]? = some x)(e:∀i,i<k->∀y,b[ib+i]? = some y->le x y=false):JJ le a b (o++b.extract ib (ib+k)) ia (ib+k):=by unfold JJ at h ⊢;rw[dg]at c;rw[<-h,drop_take b.toList ib k,kA c,wL (fun y d=>by obtain⟨j,f,q⟩:=pQ d;exact e j f y (by rw[dg];exact q))];simp only[q08,iK,q0k,q02]
theorem JJ.dn(h:JJ le a b o ia ib)(e:b.size<=ib):(dn a b o ia ib).toList=List.merge a.toList b.toList le:=by
 unfold TS.dn;rw[<-h,show b.toList.drop ib=[] from q06 (by simpa using e),q2A];have c:(b.extract ib b.size).toList=[]:=by rw[iK,show b.size - ib=0 by lia,q2O]
 have d:(a.extract ia a.size).toList=a.toList.drop ia:=by rw[iK,q0O (by simp)]
 simp only[q08,c,d,q0F]
theorem JJ.la(h:JJ le a b o ia ib)(e:∀i  x y,i+1=a.size->a[i]? = some x->y∈b.toList->le x y=false)(f:ia+1=a.size):(la a b o ia ib).toList=List.merge a.toList b.toList le:=by
 unfold TS.la;have d:a[ia]? = some (a[ia]'(by lia)):=getElem?_pos _ _ (by lia);have c:=d;rw[dg]at c;rw[<-h,kA c,q06 (by simp;lia),wM (fun y g z j=>by obtain rfl:=q0i.mp j;exact e ia _ y f d (List.mem_of_mem_drop g))];have l:(b.extract ib b.size).toList=b.toList.drop ib:=by rw[iK,q0O (by simp)]
 have m:(a.extract ia a.size).toList=[a[ia]'(by lia)]:=by rw[iK,kA c,show a.size - ia=1 by lia];rfl
 simp only[q08,l,m,q0k]
structure Sm (st st':SortSt):Prop where
 kind:kindOf st' = kindOf st
 arr:arrOf st' = arrOf st
 pend:pendingOf st' = pendingOf st
 failed:failedOf st' = failedOf st
theorem Sm.refl{st}:Sm st st:=⟨rfl,rfl,rfl,rfl⟩
theorem Sm.mg{st }(h:Sm st a)(g):Sm st (SortSt.mk' (kindOf a) (arrOf a) (pendingOf a) g (failedOf a)):=⟨h.kind,h.arr,h.pend,h.failed⟩
section
variable{prog:Program}{w:World}{A:Around}{E:Value->Shared->Prop}{s:Shared}{le:Keyed->Keyed->Bool}{κ:SortKind}{S:Keyed->Prop}{a b:Array Keyed}{st0:SortSt}
structure MH (le:Keyed->Keyed->Bool) (S:Keyed->Prop) (a b:Array Keyed):Prop where
 tr:∀x y z,le x y=true->le y z=true->le x z=true
 sa:∀(i j:Nat) (x y:Keyed),i<=j->a[i]? = some x->a[j]? = some y->le x y=true
 sb:∀(i j:Nat) (x y:Keyed),i<=j->b[i]? = some x->b[j]? = some y->le x y=true
 Sa:∀(i:Nat) (x:Keyed),a[i]? = some x->S x
 Sb:∀(i:Nat) (x:Keyed),b[i]? = some x->S x
 a0:0<a.size
 b0:0<b.size
 first:∀x y:Keyed,a[0]? = some x->b[0]? = some y->le x y=false
 last:∀(i:Nat) (x y:Keyed),i+1=a.size->a[i]? = some x->y∈b.toList->le x y=false
theorem at_{α:Type}{c:Array α}(h:i<c.size):∃x,c[i]? = some x:=⟨c[i],q09 h⟩
def Gd(le:Keyed->Keyed->Bool)(a b o:Array Keyed)(c d:Nat):Prop:=JJ le a b o c d/\c+1<a.size/\d<b.size
def GR(le:Keyed->Keyed->Bool)(a b:Array Keyed)(m:Nat):ForInStep jh->Prop
 |.done (some r,_)=>r.toList=List.merge a.toList b.toList le
 |.done (none,o,c,d,_)=>Gd le a b o c d/\m<=c+d
 |.yield (none,o,c,d,_)=>Gd le a b o c d/\m<=c+d
 |.yield (some _,_)=>False
variable(M:MH le S a b)
include M
theorem Cq{st}(h:JJ le a b o c d)(p:c+1<a.size)(n:d<b.size)(q:m<=c+d)
  (j:a[c]? = some x) (l:b[d]? = some y) (e:le x y=true) (f:∀r,GR le a b m r->Q r st):wpS (model prog w) A E s (pN a b mg ac k o c d) Q st:=by
 refine aN (ei j ?_);have h1:=h.pa j l e
 by_cases i:c+1+1=a.size
 .rw[if_pos (by simpa using i)];exact be (f _ (h1.la M.last i))
 .rw[if_neg (by simpa using i)];have g:Gd le a b (o.push x) (c+1) d/\m<=c+1+d:=⟨⟨h1,by lia,n⟩,by lia⟩
  split
  .exact be (f _ g)
  .exact be (f _ g)
theorem Cr(H:eR prog w A E s le κ S){st}(J:kindOf st=κ)(h:JJ le a b o l d)(t:l+1<a.size)(O:d<b.size)(N:m<=l+d)
  (g:a[l]? = some x) (B:b[d]? = some y) (e:le x y=false) (n:∀r,GR le a b m r->Q r st):wpS (model prog w) A E s (pO a b mg ac I o l d) Q st:=by
 refine aN (ei B ?_);have h1:=h.pb g B e
 by_cases C:d+1=b.size
 .rw[if_pos (by simpa using C)];exact be (n _ (h1.dn (by lia)))
 .rw[if_neg (by simpa using C)];refine aN (ei g (aN (nW H M.tr J (M.Sa _ _ g) M.Sb (by lia) (fun i j u v _ p _=>M.sb i j u v p) (fun k fZ g1 g2=>?_) (by lia))));dsimp only;have h2:=h1.gb g fun i L z f=>by have:=g1 i L z f;simpa[eF] using this
  have h3:=fun z q f=>by have:=g2 k (ba _) q z f;simpa[eF] using this
  by_cases D:k>0
  .rw[if_pos D]
   by_cases G:d+1+k=b.size
   .rw[if_pos (by simpa using G)];exact be (n _ (h2.dn (by lia)))
   .rw[if_neg (by simpa using G)];obtain⟨z,f⟩:=at_ (c:=b) (i:=d+1+k) (by lia);exact Cq M h2 t (by lia) (by lia) g f (h3 z (by lia) f) n
  .rw[if_neg D];have:k=0:=by lia
   subst this;obtain⟨z,f⟩:=at_ (c:=b) (i:=d+1) (by lia);exact Cq M h1 t (by lia) (by lia) g f (h3 z (by lia) f) n
theorem Cs(x:eR prog w A E s le κ S){st}(U:Sm st0 st)(J:kindOf st0=κ)(h:JJ le a b o d t)(L:d+1<a.size)(G:t<b.size)(N:m<=d+t)
  (B:∀r n,Sm st0 n->GR le a b m r->Q r n):wpS (model prog w) A E s (pP a b ac I o d t mg) Q st:=by
 unfold pP;rw[sE];obtain⟨y,l⟩:=at_ G;refine aN (wpS_modify (aN (ei l ?_)));have f:=U.mg mg;generalize SortSt.mk' (kindOf st) (arrOf st) (pendingOf st) mg (failedOf st)=C at f ⊢;have fZ:=f.kind.trans J;refine aN (nW x M.tr fZ (M.Sb _ _ l) M.Sa (by lia) (fun i j u v _ D _=>M.sa i j u v D) (fun k pp g1 g2=>?_) (by lia));dsimp only;have h2:=h.ga (k:=k) l fun i O z e=>by have:=g1 i O z e;simpa[eF] using this
 have h3:=fun z q e=>by have:=g2 k (ba _) q z e;simpa[eF] using this
 have R:d+k<a.size:=by
  rcases q1T (d+k) a.size with q |q
  .exact q
  .obtain⟨z,e⟩:=at_ (c:=a) (i:=a.size - 1) (by lia);have T:=M.last (a.size - 1) z y (by lia) e (by rw[dg]at l;exact q0K l);have p:=g1 (a.size - 1 - d) (by lia) z (by rw[show d+(a.size - 1 - d)=a.size - 1 by lia];exact e);simp[eF,T]at p
 by_cases H:k>0
 .rw[if_pos H]
  by_cases p:d+k+1=a.size
  .rw[if_pos (by simpa using p)];exact be (B _ _ f (h2.la M.last p))
  .rw[if_neg (by simpa using p),if_neg (by simp;lia)];obtain⟨z,e⟩:=at_ (c:=a) (by lia);exact Cr M x fZ h2 (by lia) G (by lia) e l (h3 z (by lia) e) fun r g=>B r _ f g
 .rw[if_neg H];have:k=0:=by lia
  subst this;obtain⟨z,e⟩:=at_ (c:=a) (i:=d) (by lia);exact Cr M x fZ h L G N e l (h3 z (by lia) e) fun r g=>B r _ f g
theorem Ra(f:eR prog w A E s le κ S){st}(j:Sm st0 st)(g:kindOf st0=κ)(h:Gd le a b o d e/\m<=d+e)
  (i:∀r c,Sm st0 c->GR le a b m r->Q r c):wpS (model prog w) A E s (sF a b (none,o,d,e,mg,ac,k)) Q st:=by
 unfold sF;split
 .exact Cs M f j g h.1.1 h.1.2.1 h.1.2.2 h.2 i
 .exact Cs M f j g h.1.1 h.1.2.1 h.1.2.2 h.2 i
def FR(le:Keyed->Keyed->Bool)(a b:Array Keyed)(m:Nat):pM->Prop
 |(some r,_)=>r.toList=List.merge a.toList b.toList le
 |(none,o,c,d,_)=>Gd le a b o c d/\m<=c+d
theorem Rb(u:eR prog w A E s le κ S){st}(z:kindOf st=κ)(h:Gd le a b o j l)(B:m<=j+l+1)
  (hd:∀c,FR le a b m c->Q (.done c) st) (q:∀r d f n p,Gd le a b r d f->m<=d+f->Q (.yield (none,r,d,f,n,p)) st):wpS (model prog w) A E s (sG a b mg (none,o,j,l,ac,v)) Q st:=by
 obtain⟨h,t,hb⟩:=h;obtain⟨y,k⟩:=at_ hb;obtain⟨x,ex⟩:=at_ (c:=a) (i:=j) (by lia);refine aN (ei k (aN (ei ex (aN (u y x (M.Sb _ _ k) (M.Sa _ _ ex) _ st z ?_)))));cases e:le x y with
 |false=>
  have h1:=h.pb ex k e;refine aN (ei k ?_)
  by_cases g:l+1=b.size
  .rw[if_pos (by simpa using g)];exact be (hd _ (h1.dn (by lia)))
  .rw[if_neg (by simpa using g)];split
   .exact be (hd _ ⟨⟨h1,t,by lia⟩,by lia⟩)
   .exact be (q _ _ _ _ _ ⟨h1,t,by lia⟩ (by lia))
 |true=>
  have h1:=h.pa ex k e;refine aN (ei ex ?_)
  by_cases g:j+1+1=a.size
  .rw[if_pos (by simpa using g)];exact be (hd _ (h1.la M.last g))
  .rw[if_neg (by simpa using g)];split
   .exact be (hd _ ⟨⟨h1,by lia,hb⟩,by lia⟩)
   .exact be (q _ _ _ _ _ ⟨h1,by lia,hb⟩ (by lia))
theorem Rc(C:eR prog w A E s le κ S){st}(B:Sm st0 st)(D:kindOf st0=κ)(h:Gd le a b o e f)(N:m<=e+f)
  (hd:∀r c d,Sm st0 d->r.toList=List.merge a.toList b.toList le->Q (.done (some r,c)) d) (H:∀u k l v d,Sm st0 d->Gd le a b u k l->m+1<=k+l->Q (.yield (none,u,k,l,v)) d) :
  wpS (model prog w) A E s (sI a b (none,o,e,f,mg)) Q st:=by
 refine aN (wpS_mono (wpS_forRange (I:=fun x c d=>d = st/\∃o e f ac j,c=(none,o,e,f,ac,j)/\Gd le a b o e f/\m+x<=e+f)
  (Q:=fun c d=>d = st/\FR le a b (m+1) c) ?_ ?_ ⟨rfl,o,e,f,0,0,rfl,h,by lia⟩) ?_)
 .rintro x c d _ J ⟨rfl,o,e,f,ac,j,rfl,g,q⟩;refine Rb M C (m:=m+x+1) (B.kind.trans D) g (by lia) (fun c n=>⟨rfl,?_⟩) (fun u k l y z L O=>⟨rfl,u,k,l,y,z,rfl,L,by lia⟩);obtain⟨_ |r,c⟩:=c
  .exact⟨n.1,by have:=n.2;lia⟩
  .exact n
 .rintro c d ⟨rfl,o,e,f,ac,j,rfl,g,q⟩;have:=g.2;lia
 .rintro⟨_ |r,c⟩ d ⟨rfl,n⟩
  .obtain⟨o,e,f,ac,j⟩:=c;refine aN (wpS_lift (wpAny_rule ⟨rfl,?_⟩));refine aN (wpS_mono (wpS_forRange (I:=fun _ c d=>Sm st0 d/\∃o e f mg ac j,c=(none,o,e,f,mg,ac,j)/\Gd le a b o e f/\m+1<=e+f)
    (Q:=fun c d=>Sm st0 d/\GR le a b (m+1) (.done c)) ?_ ?_ ⟨B,o,e,f,_,ac,j,rfl,n⟩) ?_)
   .rintro x c d _ J ⟨i,o,e,f,mg,ac,j,rfl,g⟩;refine Ra M C i D g fun r G p t=>?_
    match r,t with
    |.done c,t=>exact⟨p,t⟩
    |.yield (none,o,e,f,mg,ac,j),t=>exact⟨p,o,e,f,mg,ac,j,rfl,t⟩
    |.yield (some _,_),t=>exact t.elim
   .rintro c d ⟨i,o,e,f,mg,ac,j,rfl,g⟩;exact⟨i,g⟩
   .rintro⟨_ |r,c⟩ d ⟨i,n⟩
    .obtain⟨o,e,f,mg,ac,j⟩:=c;rw[sE];exact aN (wpS_modify (be (H _ _ _ _ _ (i.mg _) n.1 n.2)))
    .exact be (hd _ _ _ i n)
  .exact be (hd _ _ _ B n)
theorem Re(C:eR prog w A E s le κ S)(D:kindOf st0=κ)(h:∀r d,Sm st0 d->r.toList=List.merge a.toList b.toList le->Q r d):wpS (model prog w) A E s (kz a b) Q st0:=by
 rw[QZ];refine aN (wpS_lift (wpAny_rule ⟨rfl,?_⟩));obtain⟨y,m⟩:=at_ M.b0;obtain⟨x,n⟩:=at_ M.a0;refine aN (ei m ?_);have G:JJ le a b #[] 0 0:=by simp[JJ]
 have p:=G.pb n m (M.first x y n m);have b0:=M.b0;have a0:=M.a0
 by_cases B:1=b.size
 .rw[if_pos (by simpa using B)];exact be (h _ _ .refl (p.dn (by lia)))
 .rw[if_neg (by simpa using B)]
  by_cases t:0+1=a.size
  .rw[if_pos (by simpa using t)];exact be (h _ _ .refl (p.la M.last t))
  .rw[if_neg (by simpa using t)];refine aN (wpS_get ?_);refine aN (wpS_mono (wpS_forRange (I:=fun x c d=>Sm st0 d/\∃o j k mg,c=(none,o,j,k,mg)/\Gd le a b o j k/\x+1<=j+k)
    (Q:=fun c d=>Sm st0 d/\∃r H,c=(some r,H)/\r.toList=List.merge a.toList b.toList le) ?_ ?_ ⟨.refl,#[y],0,1,_,rfl,⟨p,by lia,by lia⟩,by lia⟩) ?_)
   .rintro x c d _ n ⟨i,o,j,k,mg,rfl,g,q⟩;exact Rc M C i D g q (fun r c l f e=>⟨f,r,c,rfl,e⟩) fun J u v z l f L N=>⟨f,J,u,v,z,rfl,L,N⟩
   .rintro c d ⟨i,o,j,k,mg,rfl,g,q⟩;have:=g.2;lia
   .rintro c d ⟨i,r,c,rfl,e⟩;exact be (h _ _ i e)
end
noncomputable def kB:Array Keyed->Array Keyed->StateT SortSt Sem (Array Keyed):=sortPriv% PySem.Builtin.mergeHi
noncomputable def dh(a b o:Array Keyed)(c d:Nat):Array Keyed:=a.extract 0 c++b.extract 0 d++o.reverse
noncomputable def fh(a b o:Array Keyed)(c d:Nat):Array Keyed:=b.extract 0 d++a.extract 0 c++o.reverse
abbrev ji:=Option (Array Keyed)×Nat×Nat×Array Keyed×Nat×Nat×Nat
abbrev pR:=Option (Array Keyed)×Nat×Nat×Array Keyed×Nat×Nat
abbrev sJ:=Option (Array Keyed)×Nat×Nat×Array Keyed×Nat
def pS(a b:Array Keyed)(mg ac d:Nat)(c:Nat)(e:Nat)(o:Array Keyed):StateT SortSt Sem (ForInStep ji):=do
 let x <-elem' a (c - 1)
 if c - 1==0 then pure (.done (some (dh a b (o.push x) (c - 1) e),c - 1,e,o.push x,mg,ac,d))
 else if ac<7&&d<7 then pure (.done (none,c - 1,e,o.push x,mg,ac,d)) else pure (.yield (none,c - 1,e,o.push x,mg,ac,d))
def pT(a b:Array Keyed)(mg ac e:Nat)(c d:Nat)(o:Array Keyed):StateT SortSt Sem (ForInStep ji):=do
 let y <-elem' b (c - 1)
 if c - 1==1 then pure (.done (some (fh a b (o.push y) d (c - 1)),d,c - 1,o.push y,mg,ac,e))
 else
  let x <-elem' a (d - 1)
  match <-dF true x b 0 (c - 1) (c - 1 - 1) with
  |some p=>
   if c - 1 - p>0 then
    if p==1 then pure (.done (some (fh a b (o.push y++(b.extract p (c - 1)).reverse) d p),d,p,o.push y++(b.extract p (c - 1)).reverse,mg,ac,c - 1 - p))
    else if p==0 then pure (.done (some (dh a b (o.push y++(b.extract p (c - 1)).reverse) d p),d,p,o.push y++(b.extract p (c - 1)).reverse,mg,ac,c - 1 - p))
    else pS a b mg ac (c - 1 - p) d p (o.push y++(b.extract p (c - 1)).reverse)
   else pS a b mg ac (c - 1 - p) d (c - 1) (o.push y)
  |_=>pure (.done (some (dh a b (o.push y) d (c - 1)),d,c - 1,o.push y,mg,ac,e))
def pU(a b:Array Keyed)(ac e:Nat)(c d:Nat)(o:Array Keyed)(mg:Nat):StateT SortSt Sem (ForInStep ji):=do
 fi mg
 let y <-elem' b (d - 1)
 match <-dF false y a 0 c (c - 1) with
 |some p=>
  if c - p>0 then
   if p==0 then pure (.done (some (dh a b (o++(a.extract p c).reverse) p d),p,d,o++(a.extract p c).reverse,mg,c - p,e))
   else pT a b mg (c - p) e d p (o++(a.extract p c).reverse)
  else pT a b mg (c - p) e d c o
 |_=>pure (.done (some (dh a b o c d),c,d,o,mg,ac,e))
def sK(a b:Array Keyed)(c:ji):StateT SortSt Sem (ForInStep ji):=
 if c.2.2.2.2.1>1 then pU a b c.2.2.2.2.2.1 c.2.2.2.2.2.2 c.2.1 c.2.2.1 c.2.2.2.1 (c.2.2.2.2.1 - 1) else pU a b c.2.2.2.2.2.1 c.2.2.2.2.2.2 c.2.1 c.2.2.1 c.2.2.2.1 c.2.2.2.2.1
def sM(a b:Array Keyed)(mg:Nat)(c:pR):StateT SortSt Sem (ForInStep pR):=do
 let y <-elem' b (c.2.2.1 - 1);let x <-elem' a (c.2.1 - 1)
 match <-lt' y x with
 |some d=>
  if d then do
   let x <-elem' a (c.2.1 - 1)
   if c.2.1 - 1==0 then pure (.done (some (dh a b (c.2.2.2.1.push x) (c.2.1 - 1) c.2.2.1),c.2.1 - 1,c.2.2.1,c.2.2.2.1.push x,c.2.2.2.2.1+1,0))
   else if c.2.2.2.2.1+1≥mg then pure (.done (none,c.2.1 - 1,c.2.2.1,c.2.2.2.1.push x,c.2.2.2.2.1+1,0)) else pure (.yield (none,c.2.1 - 1,c.2.2.1,c.2.2.2.1.push x,c.2.2.2.2.1+1,0))
  else do
   let y <-elem' b (c.2.2.1 - 1)
   if c.2.2.1 - 1==1 then pure (.done (some (fh a b (c.2.2.2.1.push y) c.2.1 (c.2.2.1 - 1)),c.2.1,c.2.2.1 - 1,c.2.2.2.1.push y,0,c.2.2.2.2.2+1))
   else if c.2.2.2.2.2+1≥mg then pure (.done (none,c.2.1,c.2.2.1 - 1,c.2.2.2.1.push y,0,c.2.2.2.2.2+1)) else pure (.yield (none,c.2.1,c.2.2.1 - 1,c.2.2.2.1.push y,0,c.2.2.2.2.2+1))
 |_=>pure (.done (some (dh a b c.2.2.2.1 c.2.1 c.2.2.1),c.2.1,c.2.2.1,c.2.2.2.1,c.2.2.2.2.1,c.2.2.2.2.2))
def sN(a b:Array Keyed)(c:sJ):StateT SortSt Sem (ForInStep sJ):=do
 let d <-forIn [:a.size+b.size] ((none,c.2.1,c.2.2.1,c.2.2.2.1,0,0):pR) fun _ d=>sM a b c.2.2.2.2 d
 match d.1 with
 |some r=>pure (.done (some r,d.2.1,d.2.2.1,d.2.2.2.1,c.2.2.2.2))
 |none=>
  rule "list.sort.gallop"
  let e <-forIn [:a.size+b.size] ((none,d.2.1,d.2.2.1,d.2.2.2.1,c.2.2.2.2+1,d.2.2.2.2.1,d.2.2.2.2.2):ji) fun _ e=>sK a b e
  match e.1 with
  |some r=>pure (.done (some r,e.2.1,e.2.2.1,e.2.2.2.1,e.2.2.2.2.1))
  |none=>
   fi (e.2.2.2.2.1+1)
   pure (.yield (none,e.2.1,e.2.2.1,e.2.2.2.1,e.2.2.2.2.1+1))
theorem Rf(a b):kB a b=(do
 rule "list.sort.merge-hi"
 let tt:=a.size+b.size;let dn (o:Array Keyed) (na nb:Nat):=a.extract 0 na++b.extract 0 nb++o.reverse;let la (o:Array Keyed) (na nb:Nat):=b.extract 0 nb++a.extract 0 na++o.reverse;let mut na:=a.size - 1;let mut nb:=b.size;let mut o:Array Keyed:=#[<-elem' a na]
 if na==0 then return dn o na nb
 if nb==1 then return la o na nb
 let mut mg:=gallopOf (<-get)
 for _ in [0:tt] do
  let mut ac:=0;let mut bc:=0
  for _ in [0:tt] do
   let some aw <-lt' (<-elem' b (nb - 1)) (<-elem' a (na - 1)) |return dn o na nb
   if aw then
    na:=na - 1;o:=o.push (<-elem' a na);ac:=ac+1;bc:=0
    if na==0 then return dn o na nb
    if ac≥mg then break
   else
    nb:=nb - 1;o:=o.push (<-elem' b nb);bc:=bc+1;ac:=0
    if nb==1 then return la o na nb
    if bc≥mg then break
  rule "list.sort.gallop"
  mg:=mg+1
  for _ in [0:tt] do
   if mg>1 then mg:=mg - 1
   fi mg
   let some p <-dF false (<-elem' b (nb - 1)) a 0 na (na - 1) |return dn o na nb
   let k:=na - p
   ac:=k
   if k>0 then
    o:=o++(a.extract p na).reverse;na:=p
    if na==0 then return dn o na nb
   nb:=nb - 1;o:=o.push (<-elem' b nb)
   if nb==1 then return la o na nb
   let some p <-dF true (<-elem' a (na - 1)) b 0 nb (nb - 1) |return dn o na nb
   let k:=nb - p
   bc:=k
   if k>0 then
    o:=o++(b.extract p nb).reverse;nb:=p
    if nb==1 then return la o na nb
    if nb==0 then return dn o na nb
   na:=na - 1;o:=o.push (<-elem' a na)
   if na==0 then return dn o na nb
   if ac<7&&bc<7 then break
  mg:=mg+1
  fi mg
 unsupported "internal:list.sort.merge-bound"):=rfl
theorem Rg(a b):kB a b=(do
 rule "list.sort.merge-hi"
 let x <-elem' a (a.size - 1)
 if a.size - 1==0 then return dh a b #[x] (a.size - 1) b.size
 if b.size==1 then return fh a b #[x] (a.size - 1) b.size
 let g <-get;let c <-forIn [:a.size+b.size] ((none,a.size - 1,b.size,#[x],gallopOf g):sJ) fun _ c=>sN a b c
 match c.1 with
 |some r=>pure r
 |none=>unsupported "internal:list.sort.merge-bound"):=by
 rw[Rf];refine bP fun _=>?_;dsimp only;refine bP fun y=>congrArg _ (congrArg _ (bP fun g=>fb (fun _ c=>?_) fun c=>?_))
 .refine fb (fun _ d=>?_) fun d=>?_
  .refine bP fun _=>bP fun _=>bP fun q=>?_;cases q<;>rfl
  .obtain⟨r,d⟩:=d;cases r with
   |some r=>rfl
   |none=>
    refine bP fun _=>fb (fun _ e=>?_) fun e=>?_
    .refine gW ?_ ?_ <;>
     .refine bP fun _=>bP fun _=>bP fun q=>?_;cases q with
      |none=>rfl
      |some k=>
       refine gW (gW rfl ?_) ?_ <;>
       .refine bP fun _=>gW rfl (bP fun _=>bP fun q=>?_);cases q<;>rfl
    .obtain⟨r,e⟩:=e;cases r<;>rfl
 .obtain⟨r,c⟩:=c;cases r<;>rfl
def HH(le:Keyed->Keyed->Bool)(a b:Array Keyed)(o:Array Keyed)(c d:Nat):Prop:=List.merge (a.toList.take c) (b.toList.take d) le++o.toList.reverse=List.merge a.toList b.toList le
theorem Rh{α:Type}{l:List α}{x}(h:l[i]? = some x):l.take (i+1)=l.take i++[x]:=by obtain⟨a,h2⟩:=q0a.mp h;rw[List.take_succ,q0c a,h2];rfl
theorem take_take{α:Type}(l:List α)(h:p<=n):l.take n=l.take p++(l.drop p).take (n - p):=by have:=(q1b p (l.take n)).symm;rw[List.take_take,q1J h,List.drop_take]at this;exact this
theorem nX{l:List Keyed}(h:x∈l.take n):∃j,j<n/\l[j]? = some x:=by have:=pQ (i:=0) (by simpa using h);simpa using this
theorem HH.ga(M:MH le S a b)(h:HH le a b o na (nb+1))(d:p<=na)(f:b[nb]? = some y)(e:∀i,p<=i->i<na->∀x,a[i]? = some x->le x y=false):HH le a b (o++(a.extract p na).reverse) p (nb+1):=by
 unfold HH at h ⊢;rw[take_take a.toList d,wN _ _ (fun z g x k=>?_)]at h
 .rw[<-h];simp
 .obtain⟨j,n,q⟩:=pQ k;obtain⟨i,s,r⟩:=nX g;have c:=e (p+j) (by lia) (by lia) x (by rw[dg];exact q);cases m:le x z with
  |false=>rfl
  |true=>rw[M.tr _ _ _ m (M.sb i nb z y (by lia) (by rw[dg];exact r) f)]at c;cases c
theorem HH.gb(M:MH le S a b)(h:HH le a b o (na+1) nb)(c:p<=nb)(d:a[na]? = some x)(e:∀i,p<=i->i<nb->∀y,b[i]? = some y->le x y=true):HH le a b (o++(b.extract p nb).reverse) (na+1) p:=by
 unfold HH at h ⊢;rw[take_take b.toList c,sy _ _ (fun z f y g=>?_)]at h
 .rw[<-h];simp
 .obtain⟨j,m,q⟩:=pQ g;obtain⟨i,n,r⟩:=nX f;exact M.tr _ _ _ (M.sa i na z x (by lia) (by rw[dg];exact r) d) (e (p+j) (by lia) (by lia) y (by rw[dg];exact q))
theorem Ct{α:Type}{a:Array α}{x}(h:a[i]? = some x)(o):o++(a.extract i (i+1)).reverse=o.push x:=by apply Array.toList_inj.mp;rw[dg]at h;simp only[q08,q16,iK,q02,kA h,Array.toList_push];rfl
theorem HH.pa(M:MH le S a b)(h:HH le a b o (na+1) (nb+1))(c:a[na]? = some x)(f:b[nb]? = some y)(e:le x y=false):HH le a b (o.push x) na (nb+1):=by
 have g:∀(i:Nat),na<=i->i<na+1->∀z,a[i]? = some z->le z y=false:=fun i j k z d=>by
  obtain rfl:i=na:=by lia
  rw[c]at d;cases d;exact e
 have:=h.ga M (by lia) f g
 rwa [Ct c]at this
theorem HH.pb(M:MH le S a b)(h:HH le a b o (na+1) (nb+1))(f:a[na]? = some x)(c:b[nb]? = some y)(e:le x y=true):HH le a b (o.push y) (na+1) nb:=by
 have g:∀(i:Nat),nb<=i->i<nb+1->∀z,b[i]? = some z->le x z=true:=fun i j k z d=>by
  obtain rfl:i=nb:=by lia
  rw[c]at d;cases d;exact e
 have:=h.gb M (by lia) f g
 rwa [Ct c]at this
theorem pV{α:Type}(a:Array α)(n):(a.extract 0 n).toList=a.toList.take n:=by rw[iK];simp
theorem HH.dh(h:HH le a b o 0 nb):(dh a b o 0 nb).toList=List.merge a.toList b.toList le:=by unfold TS.dh;rw[<-h];simp only[q08,pV,q16,q2O,q0w,List.nil_merge]
theorem HH.fh(M:MH le S a b)(h:HH le a b o na 1):(fh a b o na 1).toList=List.merge a.toList b.toList le:=by
 unfold TS.fh;rw[<-h,wM (fun y f x g=>?_)]
 .simp only[q08,pV,q16]
 .obtain⟨j,m,q⟩:=nX g;obtain⟨i,n,r⟩:=nX f;obtain rfl:i=0:=by lia
  obtain⟨d,c⟩:=at_ M.a0;have e:=M.first d y c (by rw[dg];exact r)
  cases l:le x y with
  |false=>rfl
  |true=>rw[M.tr _ _ _ (M.sa 0 j d x (by lia) c (by rw[dg];exact q)) l]at e;cases e
section
variable{prog:Program}{w:World}{A:Around}{E:Value->Shared->Prop}{s:Shared}{le:Keyed->Keyed->Bool}{κ:SortKind}{S:Keyed->Prop}{a b:Array Keyed}{st0:SortSt}
def Hd(le:Keyed->Keyed->Bool)(a b o:Array Keyed)(c d:Nat):Prop:=HH le a b o c d/\0<c/\c<=a.size/\1<d/\d<=b.size
def HR(le:Keyed->Keyed->Bool)(a b:Array Keyed)(m:Nat):ForInStep ji->Prop
 |.done (some r,_)=>r.toList=List.merge a.toList b.toList le
 |.done (none,c,nb,o,_)=>Hd le a b o c nb/\c+nb<=m
 |.yield (none,c,nb,o,_)=>Hd le a b o c nb/\c+nb<=m
 |.yield (some _,_)=>False
variable(M:MH le S a b)
include M
theorem Cv{st}(h:HH le a b o (c+1) (d+1))(p:c+1<=a.size)(l:0<d)(t:d+1<=b.size)(q:c+1+(d+1)<=m)
  (i:a[c]? = some x) (n:b[d]? = some y) (e:le x y=false) (f:∀r,HR le a b m r->Q r st):wpS (model prog w) A E s (pS a b mg ac k (c+1) (d+1) o) Q st:=by
 refine aN (ei i ?_);have h1:=h.pa M i n e
 by_cases j:c=0
 .subst j;rw[if_pos (by rfl)];exact be (f _ h1.dh)
 .rw[if_neg (by simpa using j)];have g:Hd le a b (o.push x) c (d+1)/\c+(d+1)<=m:=⟨⟨h1,by lia,by lia,by lia,by lia⟩,by lia⟩
  split
  .exact be (f _ g)
  .exact be (f _ g)
theorem Cw(N:eR prog w A E s le κ S){st}(R:kindOf st=κ)(h:HH le a b o (k+1) (d+1))(G:k+1<=a.size)(T:0<d)(hb:d+1<=b.size)(hm:k+1+(d+1)<=m)
  (g:a[k]? = some x) (H:b[d]? = some y) (e:le x y=true) (B:∀r,HR le a b m r->Q r st):wpS (model prog w) A E s (pT a b mg ac O (d+1) (k+1) o) Q st:=by
 unfold pT;simp only[Nat.add_sub_cancel];refine aN (ei H ?_);have h1:=h.pb M g H e
 by_cases I:d=1
 .subst I;rw[if_pos (by rfl)];exact be (B _ (h1.fh M))
 .rw[if_neg (by simpa using I)];refine aN (ei g (aN (nW N M.tr R (M.Sa _ _ g) M.Sb (by lia) (fun i j u v _ C _=>M.sb i j u v C) (fun p U g1 g2=>?_) (by lia))));simp only[q1i]at g1 g2;dsimp only;have h2:=h1.gb M U g fun i X Y z f=>by have:=g2 i X Y z f;simpa[eF] using this
  have h3:=fun i z q f=>by have:=g1 i q z f;simpa[eF] using this
  have Z:0<p:=by
   rcases Nat.eq_zero_or_pos p with q |q
   .subst q;obtain⟨J,l⟩:=at_ M.a0;obtain⟨D,n⟩:=at_ M.b0;have t:=M.first J D l n
    have e3:=g2 0 (ba _) (by lia) D n;have e5:=M.tr _ _ _ (M.sa 0 k J x (by lia) l g) (by simpa[eF] using e3);rw[e5]at t;cases t
   .exact q
  obtain⟨q,rfl⟩:∃q,p=q+1:=⟨p - 1,by lia⟩
  obtain⟨z,f⟩:=at_ (c:=b) (i:=q) (by lia)
  by_cases L:d - (q+1)>0
  .rw[if_pos L]
   by_cases t:q+1=1
   .rw[if_pos (by simpa using t)];obtain rfl:q=0:=by lia
    exact be (B _ (h2.fh M))
   .rw[if_neg (by simpa using t),if_neg (by simp)];exact Cv M h2 G (by lia) (by lia) (by lia) g f (h3 q z (by lia) f) B
  .rw[if_neg L];obtain rfl:d=q+1:=by lia
   exact Cv M h1 G (by lia) (by lia) (by lia) g f (h3 q z (by lia) f) B
theorem Cy(t:eR prog w A E s le κ S){st}(T:Sm st0 st)(I:kindOf st0=κ)(h:Hd le a b o f k/\f+k<=m)
  (x:∀r l,Sm st0 l->HR le a b m r->Q r l):wpS (model prog w) A E s (pU a b ac H f k o mg) Q st:=by
 obtain⟨⟨h,J,U,L,hb⟩,X⟩:=h;obtain⟨k,rfl⟩:∃q,k=q+1:=⟨k - 1,by lia⟩
 unfold pU;rw[sE];obtain⟨y,n⟩:=at_ (c:=b) (i:=k) (by lia);refine aN (wpS_modify (aN (ei n ?_)));have d:=T.mg mg;generalize SortSt.mk' (kindOf st) (arrOf st) (pendingOf st) mg (failedOf st)=B at d ⊢;have fZ:kindOf B=κ:=d.kind.trans I;refine aN (nW t M.tr fZ (M.Sb _ _ n) M.Sa (by lia) (fun i j u v _ C _=>M.sa i j u v C) (fun p N g1 g2=>?_) (by lia));simp only[q1i]at g1 g2;dsimp only;have h2:=h.ga M N n fun i O R z e=>by have:=g2 i O R z e;simpa[eF] using this
 have h3:=fun i z q e=>by have:=g1 i q z e;simpa[eF] using this
 by_cases D:f - p>0
 .rw[if_pos D]
  by_cases G:p=0
  .subst G;rw[if_pos (by rfl)];exact be (x _ _ d h2.dh)
  .rw[if_neg (by simpa using G)];obtain⟨q,rfl⟩:∃q,p=q+1:=⟨p - 1,by lia⟩
   obtain⟨z,e⟩:=at_ (c:=a) (i:=q) (by lia);exact Cw M t fZ h2 (by lia) (by lia) hb (by lia) e n (h3 q z (by lia) e) fun r g=>x r _ d g
 .rw[if_neg D];obtain rfl:f=p:=by lia
  obtain⟨q,rfl⟩:∃q,f=q+1:=⟨f - 1,by lia⟩
  obtain⟨z,e⟩:=at_ (c:=a) (i:=q) (by lia);exact Cw M t fZ h (by lia) (by lia) hb (by lia) e n (h3 q z (by lia) e) fun r g=>x r _ d g
theorem Ri(f:eR prog w A E s le κ S){st}(j:Sm st0 st)(g:kindOf st0=κ)(h:Hd le a b o d e/\d+e<=m)
  (i:∀r c,Sm st0 c->HR le a b m r->Q r c):wpS (model prog w) A E s (sK a b (none,d,e,o,mg,ac,k)) Q st:=by
 unfold sK;split
 .exact Cy M f j g h i
 .exact Cy M f j g h i
def Cz(le:Keyed->Keyed->Bool)(a b:Array Keyed)(m:Nat):pR->Prop
 |(some r,_)=>r.toList=List.merge a.toList b.toList le
 |(none,c,nb,o,_)=>Hd le a b o c nb/\c+nb<=m
theorem Rj(u:eR prog w A E s le κ S){st}(z:kindOf st=κ)(h:Hd le a b o d f)(D:d+f<=m+1)
  (hd:∀c,Cz le a b m c->Q (.done c) st) (r:∀t g j n p,Hd le a b t g j->g+j<=m->Q (.yield (none,g,j,t,n,p)) st):wpS (model prog w) A E s (sM a b mg (none,d,f,o,ac,v)) Q st:=by
 obtain⟨h,B,G,C,hb⟩:=h;obtain⟨f,rfl⟩:∃q,f=q+1:=⟨f - 1,by lia⟩
 obtain⟨d,rfl⟩:∃q,d=q+1:=⟨d - 1,by lia⟩
 obtain⟨y,k⟩:=at_ (c:=b) (i:=f) (by lia);obtain⟨x,ex⟩:=at_ (c:=a) (i:=d) (by lia);refine aN (ei k (aN (ei ex (aN (u y x (M.Sb _ _ k) (M.Sa _ _ ex) _ st z ?_)))));cases e:le x y with
 |false=>
  have h1:=h.pa M ex k e;refine aN (ei ex ?_)
  by_cases l:d=0
  .subst l;rw[if_pos (by rfl)];exact be (hd _ h1.dh)
  .rw[if_neg (by simpa using l)];split
   .exact be (hd _ ⟨⟨h1,by lia,by lia,by lia,by lia⟩,by lia⟩)
   .exact be (r _ _ _ _ _ ⟨h1,by lia,by lia,by lia,by lia⟩ (by lia))
 |true=>
  have h1:=h.pb M ex k e;refine aN (ei k ?_)
  by_cases l:f=1
  .subst l;rw[if_pos (by rfl)];exact be (hd _ (h1.fh M))
  .rw[if_neg (by simpa using l)];split
   .exact be (hd _ ⟨⟨h1,by lia,by lia,by lia,by lia⟩,by lia⟩)
   .exact be (r _ _ _ _ _ ⟨h1,by lia,by lia,by lia,by lia⟩ (by lia))
theorem Rk(G:eR prog w A E s le κ S){st}(D:Sm st0 st)(H:kindOf st0=κ)(h:Hd le a b o e f)(T:e+f<=m)
  (hd:∀r c d,Sm st0 d->r.toList=List.merge a.toList b.toList le->Q (.done (some r,c)) d) (N:∀u n p v d,Sm st0 d->Hd le a b u n p->n+p+1<=m->Q (.yield (none,n,p,u,v)) d) :
  wpS (model prog w) A E s (sN a b (none,e,f,o,mg)) Q st:=by
 have b0:=M.b0;have O:=by have:=h.2.1;lia
 refine aN (wpS_mono (wpS_forRange (I:=fun x c d=>d = st/\∃o e f ac j,c=(none,e,f,o,ac,j)/\Hd le a b o e f/\e+f+x<=m)
  (Q:=fun c d=>d = st/\Cz le a b (m - 1) c) ?_ ?_ ⟨rfl,o,e,f,0,0,rfl,h,by lia⟩) ?_)
 .rintro x c d _ R ⟨rfl,o,e,f,ac,j,rfl,g,q⟩;refine Rj M G (m:=m - x - 1) (D.kind.trans H) g (by lia) (fun c k=>⟨rfl,?_⟩) (fun u y z B C J X=>⟨rfl,u,y,z,B,C,rfl,J,by have:=J.2;lia⟩);obtain⟨_ |r,c⟩:=c
  .exact⟨k.1,by have:=k.2;lia⟩
  .exact k
 .rintro c d ⟨rfl,o,e,f,ac,j,rfl,g,q⟩;exact⟨rfl,g,by lia⟩
 .rintro⟨_ |r,c⟩ d ⟨rfl,k⟩
  .obtain⟨e,f,o,ac,j⟩:=c;refine aN (wpS_lift (wpAny_rule ⟨rfl,?_⟩));refine aN (wpS_mono (wpS_forRange (I:=fun _ c d=>Sm st0 d/\∃o e f mg ac j,c=(none,e,f,o,mg,ac,j)/\Hd le a b o e f/\e+f<=m - 1)
    (Q:=fun c d=>Sm st0 d/\HR le a b (m - 1) (.done c)) ?_ ?_ ⟨D,o,e,f,_,ac,j,rfl,k⟩) ?_)
   .rintro x c d _ R ⟨i,o,e,f,mg,ac,j,rfl,g⟩;refine Ri M G i H g fun r L l t=>?_
    match r,t with
    |.done c,t=>exact⟨l,t⟩
    |.yield (none,e,f,o,mg,ac,j),t=>exact⟨l,o,e,f,mg,ac,j,rfl,t⟩
    |.yield (some _,_),t=>exact t.elim
   .rintro c d ⟨i,o,e,f,mg,ac,j,rfl,g⟩;exact⟨i,g⟩
   .rintro⟨_ |r,c⟩ d ⟨i,k⟩
    .obtain⟨e,f,o,mg,ac,j⟩:=c;rw[sE];exact aN (wpS_modify (be (N _ _ _ _ _ (i.mg _) k.1 (by have:=k.2;lia))))
    .exact be (hd _ _ _ i k)
  .exact be (hd _ _ _ D k)
theorem Rl(N:eR prog w A E s le κ S)(O:kindOf st0=κ)(h:∀r d,Sm st0 d->r.toList=List.merge a.toList b.toList le->Q r d):wpS (model prog w) A E s (kB a b) Q st0:=by
 rw[Rg];refine aN (wpS_lift (wpAny_rule ⟨rfl,?_⟩));have b0:=M.b0;have a0:=M.a0;obtain⟨k,v⟩:∃k,a.size=k+1:=⟨a.size - 1,by lia⟩
 obtain⟨l,z⟩:∃l,b.size=l+1:=⟨b.size - 1,by lia⟩
 obtain⟨x,u⟩:=at_ (c:=a) (i:=k) (by lia);obtain⟨y,B⟩:=at_ (c:=b) (i:=l) (by lia);rw[v,z];refine aN (ei u ?_);have R:HH le a b #[] (k+1) (l+1):=by unfold HH;rw[q0O (by simp;lia),q0O (by simp;lia)];simp
 have C:=R.pa M u B (M.last k x y (by lia) u (by rw[dg]at B;exact q0K B))
 by_cases J:k=0
 .subst J;rw[if_pos (by rfl)];exact be (h _ _ .refl C.dh)
 .rw[if_neg (by simpa using J)]
  by_cases L:l=0
  .subst L;rw[if_pos (by rfl)];exact be (h _ _ .refl (C.fh M))
  .rw[if_neg (by simpa using L)];refine aN (wpS_get ?_);refine aN (wpS_mono (wpS_forRange (I:=fun x c d=>Sm st0 d/\∃o n p mg,c=(none,n,p,o,mg)/\Hd le a b o n p/\n+p+x+1<=a.size+b.size)
    (Q:=fun c d=>Sm st0 d/\∃r T,c=(some r,T)/\r.toList=List.merge a.toList b.toList le) ?_ ?_ ⟨.refl,#[x],k,l+1,_,rfl,⟨C,by lia,by lia,by lia,by lia⟩,by lia⟩) ?_)
   .rintro x c d _ u ⟨j,o,n,p,mg,rfl,g,q⟩;refine Rk M N (m:=a.size+b.size - x - 1) j O g (by lia) (fun r c t f e=>⟨f,r,c,rfl,e⟩) fun U D G H t f X Y=>⟨f,U,D,G,H,rfl,X,by lia⟩
   .rintro c d ⟨j,o,n,p,mg,rfl,g,q⟩;lia
   .rintro c d ⟨j,r,c,rfl,e⟩;exact be (h _ _ j e)
end
abbrev CA:=Option (Option Nat)×Nat
abbrev CD:=Option (Option Nat)×Nat×Nat
noncomputable def pW(lo a b:Nat):StateT SortSt Sem CA:=forIn [a:b] ((none,a):CA) fun _ c=>do
 let q <-ltAt' (lo+c.2) (lo+c.2 - 1)
 match q with
 |some d=>if d=true then pure (.done (none,c.2)) else pure (.yield (none,c.2+1))
 |_=>pure (.done (some none,c.2))
def mI(lo n a:Nat):StateT SortSt Sem (Option Nat):=do
 reverseSlice' lo (lo+n)
 let c <-pW lo n a
 match c.1 with
 |some r=>pure r
 |none=>pure (some c.2)
noncomputable def wO(lo n a:Nat):StateT SortSt Sem CD:=forIn [n:a] ((none,n,0):CD) fun _ c=>do
 let q <-ltAt' (lo+c.2.1) (lo+c.2.1 - 1)
 match q with
 |some b=>
  if b=true then
   if c.2.2>0 then do
    reverseSlice' (lo+c.2.1 - (c.2.2+1)) (lo+c.2.1)
    pure (.yield (none,c.2.1+1,0))
   else pure (.yield (none,c.2.1+1,0))
  else do
   let q <-ltAt' (lo+c.2.1 - 1) (lo+c.2.1)
   match q with
   |some d=>if d=true then pure (.done (none,c.2.1,c.2.2)) else pure (.yield (none,c.2.1+1,c.2.2+1))
   |_=>pure (.done (some none,c.2.1,c.2.2))
 |_=>pure (.done (some none,c.2.1,c.2.2))
def nY(lo n a:Nat):StateT SortSt Sem (Option Nat):=do
 liftM (rule "list.sort.descending-run")
 let c <-wO lo (n+1) a
 match c.1 with
 |some r=>pure r
 |none=>
  if c.2.2>0 then do
   reverseSlice' (lo+c.2.1 - (c.2.2+1)) (lo+c.2.1)
   mI lo c.2.1 a
  else mI lo c.2.1 a
theorem Rm(lo a):countRun' lo a=(do
  let c <-pW lo 1 a
  match c.1 with
  |some r=>pure r
  |none=>
   if (c.2==a)=true then pure (some c.2)
   else if c.2>1 then do
    let q <-ltAt' lo (lo+c.2 - 1)
    match q with
    |some b=>if b=true then pure (some c.2) else do
      reverseSlice' lo (lo+c.2)
      nY lo c.2 a
    |_=>pure none
   else nY lo c.2 a):=by
 rw[countRun'_eq];refine bP fun c=>?_;obtain⟨_ |r,n⟩:=c
 .refine gW rfl (gW (bP fun q=>?_) ?_)
  .cases q with
   |none=>rfl
   |some b=>
    refine gW rfl (bP fun _=>bP fun _=>bP fun d=>?_);obtain⟨_ |r,m,f⟩:=d
    .refine gW (bP fun _=>bP fun _=>bP fun e=>?_) (bP fun _=>bP fun e=>?_)<;>(obtain⟨_ |r,e⟩:=e<;>rfl)
    .rfl
  .refine bP fun _=>bP fun d=>?_;obtain⟨_ |r,m,f⟩:=d
   .refine gW (bP fun _=>bP fun _=>bP fun e=>?_) (bP fun _=>bP fun e=>?_)<;>(obtain⟨_ |r,e⟩:=e<;>rfl)
   .rfl
 .rfl
structure Bs (κ:SortKind) (S:Keyed->Prop) (lo:Nat) (st0 st:SortSt):Prop where
 perm:(arrOf st).Perm (arrOf st0)
 kind:kindOf st=κ
 failed:failedOf st=none
 pend:pendingOf st=pendingOf st0
 keep:∀k,k<lo->(arrOf st)[k]? = (arrOf st0)[k]?
 mem:∀x∈(arrOf st0).toList,S x
noncomputable abbrev el(a:Array Keyed)(i:Nat):Keyed:=a.getD i (Value.none,Value.none)
theorem wP(h:a[i]? = some x):el a i=x:=by rw[el,q03,h];rfl
def Cn(R:Keyed->Keyed->Prop)(f:Nat->Keyed)(n:Nat):Prop:=∀i j,i<=j->j<n->R (f i) (f j)
theorem Cn.up(d:∀x y z,R x y->R y z->R x z)(b:∀x,R x x)(h:Cn R f n)(g:1<=n)(e:R (f (n - 1)) (f n)):Cn R f (n+1):=fun i j a c=>by
 rcases Nat.lt_or_eq_of_le (Nat.le_of_lt_succ c) with q |rfl
 .exact h i j a q
 .rcases Nat.lt_or_eq_of_le a with q |rfl
  .exact d _ _ _ (h i (j - 1) (by lia) (by lia)) e
  .exact b _
theorem Cn.one(a:∀x,R x x):Cn R f 1:=fun i j b c=>by
 obtain rfl:i=j:=by lia
 exact a _
theorem wQ(h:j<=a.size)(k):el (mirror a i j ((j - i) / 2)) k=el a (if i<=k/\k<j then i+j - 1 - k else k):=by rw[el,el,q03,q03,getElem?_mirror_all h];split<;>rfl
section
variable{prog:Program}{w:World}{A:Around}{E:Value->Shared->Prop}{s:Shared}{le:Keyed->Keyed->Bool}{κ:SortKind}{S:Keyed->Prop}{lo:Nat}{st0 st:SortSt}
theorem Bs.size(h:Bs κ S lo st0 st):(arrOf st).size=(arrOf st0).size:=h.perm.size_eq
theorem Bs.at(h:Bs κ S lo st0 st)(b:i<(arrOf st0).size):(arrOf st)[i]? = some (el (arrOf st) i)/\S (el (arrOf st) i):=by obtain⟨x,a⟩:=at_ (by rw[h.size];exact b);rw[wP a];refine⟨a,h.mem x ((q1X.mp h.perm).mem_iff.mp ?_)⟩;rw[dg]at a;exact q0K a
theorem Bs.setArr(h:Bs κ S lo st0 st)(b:a.Perm (arrOf st))(c:∀k,k<lo->a[k]? = (arrOf st)[k]?):Bs κ S lo st0 (setArr st a):=
 ⟨b.trans h.perm,h.kind,h.failed,h.pend,fun k q=>(c k q).trans (h.keep k q),h.mem⟩
theorem Bs.rev(h:Bs κ S lo st0 st)(b:lo<=i)(a:j<=(arrOf st).size):Bs κ S lo st0 (PyProof.Rows.setArr st (mirror (arrOf st) i j ((j - i) / 2))):=
 h.setArr (mirror_perm ..) fun k c=>by rw[getElem?_mirror_all a,if_neg (by lia)]
theorem pX(a:eR prog w A E s le κ S)(hB:Bs κ S lo st0 st)(b:i<(arrOf st0).size)(c:j<(arrOf st0).size)
  (h:Q (some (!le (el (arrOf st) j) (el (arrOf st) i))) st):wpS (model prog w) A E s (ltAt' i j) Q st:=by
 obtain⟨d,e⟩:=hB.at b;obtain⟨f,g⟩:=hB.at c;rw[ltAt'_eq];exact aN (wpS_get (aN (ei d (aN (ei f (a _ _ e g Q st hB.kind h))))))
theorem sO(h:Q () (setArr st (mirror (arrOf st) i j ((j - i) / 2)))):wpS (model prog w) A E s (reverseSlice' i j) Q st:=by rw[reverseSlice'_eq];exact wpS_modify h
abbrev cj(a:Array Keyed)(lo i:Nat):Keyed:=el a (lo+i)
abbrev gB(le:Keyed->Keyed->Bool)(c:Array Keyed)(lo n:Nat):Prop:=Cn (fun a b=>le a b=true) (cj c lo) n
abbrev gX(le:Keyed->Keyed->Bool)(c:Array Keyed)(lo n:Nat):Prop:=Cn (fun a b=>le b a=true) (cj c lo) n
theorem gB.old(h:gB le a lo n)(i j x y)(b:i<=j)(c:j<n)(d:a[lo+i]? = some x)(e:a[lo+j]? = some y):le x y=true:=by
 have:=h i j b c
 rwa [cj,cj,wP d,wP e]at this
variable(hL:eR prog w A E s le κ S)(tr:∀x y z,le x y=true->le y z=true->le x z=true)(tt:∀x y,(le x y||le y x)=true)
include tt in
theorem lB(x:Keyed):le x x=true:=by simpa using tt x x
include tt in
theorem wR{x y:Keyed}(h:le x y=false):le y x=true:=by have:=tt x y;rw[h]at this;simpa using this
include tr tt in
theorem gX.up{c:Array Keyed}{n:Nat}(h:gX le c lo n)(d:1<=n)(e:le (cj c lo n) (cj c lo (n - 1))=true):gX le c lo (n+1):=
 Cn.up (R:=fun a b=>le b a=true) (fun _ _ _ a b=>tr _ _ _ b a) (lB tt) h d e
include hL tr tt
theorem CB(m:lo+g<=(arrOf st0).size)(o:1<=a)(i:a<=g)(hB:Bs κ S lo st0 st)(l:gB le (arrOf st) lo a)
  (h:∀n,a<=n->n<=g->gB le (arrOf st) lo n->(n<g->le (cj (arrOf st) lo (n - 1)) (cj (arrOf st) lo n)=false)->Q (none,n) st) :
  wpS (model prog w) A E s (pW lo a g) Q st:=by
 refine wpS_forRange (I:=fun x c d=>d = st/\c=(none,x)/\gB le (arrOf st) lo x) ?_ ?_ ⟨rfl,rfl,l⟩
 .rintro x c d j k ⟨rfl,rfl,f⟩;refine aN (pX hL hB (by lia) (by lia) ?_);rw[q1y (by lia)];cases e:le (cj (arrOf d) lo (x - 1)) (cj (arrOf d) lo x)
  .exact be (h x j (by lia) f fun _=>e)
  .exact be ⟨rfl,rfl,Cn.up tr (lB tt) f (by lia) e⟩
 .rintro c d ⟨rfl,rfl,f⟩;rw[Nat.max_eq_right i]at f ⊢;exact h g i (ba _) f fun z=>absurd z (q0C _)
theorem CC(k:lo+d<=(arrOf st0).size)(p:1<=n)(e:n<=d)(hB:Bs κ S lo st0 st)(q:gX le (arrOf st) lo n)
  (h:∀m a,Bs κ S lo st0 a->1<=m->m<=d->gB le (arrOf a) lo m->Q (some m) a):wpS (model prog w) A E s (mI lo n d) Q st:=by
 have b:lo+n<=(arrOf st).size:=by rw[hB.size];lia
 have c:=hB.rev (ba _) b;refine aN (sO (aN (CB hL tr tt k p e c (fun i j l r=>?_) fun m o f g _=>be (h m _ c (by lia) f g))));show le (el (mirror (arrOf st) lo (lo+n) ((lo+n - lo) / 2)) _) (el (mirror (arrOf st) lo (lo+n) ((lo+n - lo) / 2)) _)=true;rw[wQ b,wQ b,if_pos (by lia),if_pos (by lia),show lo+(lo+n) - 1 - (lo+i)=lo+(n - 1 - i) by lia,show lo+(lo+n) - 1 - (lo+j)=lo+(n - 1 - j) by lia];exact q _ _ (by lia) (by lia)
def pY(le:Keyed->Keyed->Bool)(b:Array Keyed)(lo a m:Nat):Prop:=∀i j,a<=i->i<m->a<=j->j<m->le (cj b lo i) (cj b lo j)=true
omit hL tr tt in
theorem gX.mir{c:Array Keyed}{a b m:Nat}(d:lo+b<=c.size)(h:b<=m)(g:gX le c lo m)(e:pY le c lo a b):gX le (mirror c (lo+a) (lo+b) ((lo+b - (lo+a)) / 2)) lo m:=fun i j f k=>by
 have t:∀i,cj (mirror c (lo+a) (lo+b) ((lo+b - (lo+a)) / 2)) lo i=cj c lo (if a<=i/\i<b then a+b - 1 - i else i):=fun i=>by
  rw[cj,wQ d]
  congr 1
  split<;>split<;>lia
 rw[t,t]
 by_cases q:(if a<=i/\i<b then a+b - 1 - i else i)<=if a<=j/\j<b then a+b - 1 - j else j
 .exact g _ _ q (by split<;>lia)
 .refine e _ _ ?_ ?_ ?_ ?_<;>(revert q;split<;>split<;>lia)
theorem Ro(L:lo+g<=(arrOf st0).size)(O:1<=n)(k:n<=g)(hB:Bs κ S lo st0 st)(J:gX le (arrOf st) lo n)
  (h:∀m q a,Bs κ S lo st0 a->n<=m->m<=g->gX le (arrOf a) lo m->q+1<=m->pY le (arrOf a) lo (m - (q+1)) m->Q (none,m,q) a):wpS (model prog w) A E s (wO lo n g) Q st:=by
 have one:∀(v:Array Keyed) (m:Nat),pY le v lo (m - (0+1)) m:=fun v m i j y B C D=>by
  obtain rfl:i=j:=by lia
  exact lB tt _
 refine wpS_forRange (I:=fun x c a=>∃q,c=(none,x,q)/\Bs κ S lo st0 a/\gX le (arrOf a) lo x/\q+1<=x/\pY le (arrOf a) lo (x - (q+1)) x) ?_ ?_ ⟨0,rfl,hB,J,by lia,one _ _⟩
 .rintro x c a u H ⟨q,rfl,b,d,o,f⟩;have p:lo+x<=(arrOf a).size:=by rw[b.size];lia
  refine aN (pX hL b (by lia) (by lia) ?_);rw[q1y (by lia)];cases e:le (cj (arrOf a) lo (x - 1)) (cj (arrOf a) lo x)
  .have r:=d.up tr tt (by lia) (wR tt e);by_cases t:q>0
   .rw[if_pos t,q1y o];exact aN (sO (be ⟨0,rfl,b.rev (by lia) p,r.mir p (by lia) f,by lia,one _ _⟩))
   .rw[if_neg t];exact be ⟨0,rfl,b,r,by lia,one _ _⟩
  .refine aN (pX hL b (by lia) (by lia) ?_);cases G:le (cj (arrOf a) lo x) (cj (arrOf a) lo (x - 1))
   .exact be (h x q a b u (by lia) d o f)
   .refine be ⟨q+1,rfl,b,d.up tr tt (by lia) G,by lia,fun i j y B C D=>?_⟩;have l:∀i,x+1 - (q+1+1)<=i->i<x+1->le (cj (arrOf a) lo i) (cj (arrOf a) lo (x - 1))=true/\le (cj (arrOf a) lo (x - 1)) (cj (arrOf a) lo i)=true:=fun i M N=>by
     by_cases z:i=x
     .subst z;exact⟨G,e⟩
     .exact⟨f _ _ (by lia) (by lia) (by lia) (by lia),f _ _ (by lia) (by lia) (by lia) (by lia)⟩
    exact tr _ _ _ (l i y B).1 (l j C D).2
 .rintro c a ⟨q,rfl,b,d,o,f⟩;rw[Nat.max_eq_right k]at d o f ⊢;exact h g q a b k (ba _) d o f
theorem CF(i:lo+g<=(arrOf st0).size)(j:n+1<=g)(hB:Bs κ S lo st0 st)(p:gX le (arrOf st) lo (n+1))
  (h:∀m a,Bs κ S lo st0 a->1<=m->m<=g->gB le (arrOf a) lo m->Q (some m) a):wpS (model prog w) A E s (nY lo n g) Q st:=by
 refine aN (wpS_lift (wpAny_rule ⟨rfl,aN (Ro hL tr tt i (by lia) j hB p fun m q a b k c d l o=>?_)⟩));have e:lo+m<=(arrOf a).size:=by rw[b.size];lia
 by_cases f:q>0
 .rw[if_pos f,q1y l];exact aN (sO (CC hL tr tt i (by lia) c (b.rev (by lia) e) (d.mir e (ba _) o) h))
 .rw[if_neg f];exact CC hL tr tt i (by lia) c b d h
theorem Rp(r:lo+g<=(arrOf st0).size)(y:1<=g)(hB:Bs κ S lo st0 st)
  (h:∀m f,Bs κ S lo st0 f->1<=m->m<=g->gB le (arrOf f) lo m->Q (some m) f):wpS (model prog w) A E s (countRun' lo g) Q st:=by
 rw[Rm];refine aN (CB hL tr tt r (ba 1) y hB (Cn.one (lB tt)) fun n c k d t=>?_);by_cases l:n=g
 .rw[if_pos (by simpa using l)];exact be (h n st hB c k d)
 .rw[if_neg (by simpa using l)];have o:=wR tt (t (by lia));have p:lo+n<=(arrOf st).size:=by rw[hB.size];lia
  by_cases q:n>1
  .rw[if_pos q];refine aN (pX hL hB (by lia) (by lia) ?_);rw[q1y c];cases e:le (cj (arrOf st) lo (n - 1)) (cj (arrOf st) lo 0)
   .exact be (h n st hB c k d)
   .have v:pY le (arrOf st) lo 0 n:=fun i j _ x _ u=>tr _ _ _ (d i (n - 1) (by lia) (by lia)) (tr _ _ _ e (d 0 j (by lia) u));refine aN (sO (CF hL tr tt r (by lia) (hB.rev (ba _) p) ?_ h));exact gX.mir (a:=0) p (by lia) (gX.up tr tt (fun i j x u=>v j i (by lia) u (by lia) (by lia)) c o) v
  .rw[if_neg q];obtain rfl:n=1:=by lia
   exact CF hL tr tt r (by lia) hB (gX.up tr tt (Cn.one (lB tt)) (ba _) o) h
theorem Rq(T:lo+n<=(arrOf st0).size)(O:ok<=n)(hB:Bs κ S lo st0 st)(R:gB le (arrOf st) lo ok)
  (h:∀b,Bs κ S lo st0 b->gB le (arrOf b) lo n->Q true b):wpS (model prog w) A E s (binarySort' lo n ok) Q st:=by
 rw[binarySort'_eq];refine aN (wpS_mono (wpS_forRange (I:=fun k c b=>c=(none,())/\Bs κ S lo st0 b/\gB le (arrOf b) lo (min k n))
  (Q:=fun c b=>c=(none,())/\Bs κ S lo st0 b/\gB le (arrOf b) lo n) ?_ ?_ ?_) ?_)
 .rintro k c b H o ⟨rfl,f,d⟩;rw[q1J (q1t o)]at d;dsimp only;refine aN (wpS_mono (wpS_forRange (I:=fun x c a=>a = b/\∃l r,c=(none,l,r)/\l<=r/\r<=k/\r - l<=k - x/\
    (∀i<l,le (cj (arrOf b) lo i) (cj (arrOf b) lo k)=true)/\∀i,r<=i->i<k->le (cj (arrOf b) lo k) (cj (arrOf b) lo i)=true)
   (Q:=fun c a=>a = b/\∃l r,c=(none,l,r)/\l<=k/\(∀i<l,le (cj (arrOf b) lo i) (cj (arrOf b) lo k)=true)/\∀i,l<=i->i<k->le (cj (arrOf b) lo k) (cj (arrOf b) lo i)=true) ?_ ?_ ?_) ?_)
  .rintro x c a _ J ⟨rfl,l,r,rfl,t,u,L,g,m⟩;dsimp only
   by_cases p:l≥r
   .rw[if_pos p];exact be ⟨rfl,l,r,rfl,by lia,g,fun i v=>m i (by lia)⟩
   .rw[if_neg p];refine aN (pX hL f (by lia) (by lia) ?_);cases e:le (cj (arrOf a) lo ((l+r) / 2)) (cj (arrOf a) lo k)
    .exact be ⟨rfl,l,(l+r) / 2,rfl,by lia,by lia,by lia,g,fun i q G=>tr _ _ _ (wR tt e) (d _ _ q G)⟩
    .exact be ⟨rfl,(l+r) / 2+1,r,rfl,by lia,by lia,by lia,fun i q=>tr _ _ _ (d i _ (by lia) (by lia)) e,m⟩
  .rintro c a ⟨rfl,l,r,rfl,t,u,L,g,m⟩;exact⟨rfl,l,r,rfl,by lia,g,fun i v=>m i (by lia)⟩
  .exact⟨rfl,0,k,rfl,by lia,by lia,by lia,fun i v=>by lia,fun i q G=>by lia⟩
  .rintro c a ⟨rfl,l,r,rfl,M,g,m⟩;rw[moveDown'_eq];have z:lo+k<(arrOf a).size:=by rw[f.size];lia
   have gb:=fun j=>getElem?_bubble (xs:=arrOf a) z (lo+k - (lo+l)) (by lia) j;have C:∀i,cj (bubble (arrOf a) (lo+k) (lo+k - (lo+l))) lo i=cj (arrOf a) lo (if i=l then k else if l<i/\i<=k then i - 1 else i):=fun i=>by
    have e:el (bubble (arrOf a) (lo+k) (lo+k - (lo+l))) (lo+i)=el (arrOf a) (if lo+i=lo+k - (lo+k - (lo+l)) then lo+k else if lo+k - (lo+k - (lo+l))<lo+i/\lo+i<=lo+k then lo+i - 1 else lo+i):=by
     rw[el,el,q03,q03,gb];split
     .rfl
     .split<;>rfl
    rw[cj,e]
    congr 1
    repeat' split
    all_goals lia
   refine aN (wpS_modify (be ⟨rfl,f.setArr (bubble_perm _ _ _) (fun j D=>by rw[gb,if_neg (by lia),if_neg (by lia)]),?_⟩));rw[q1J o];intro i j v D;rw[C,C]
   by_cases x:i=l<;>by_cases y:j=l
   .rw[if_pos x,if_pos y];exact lB tt _
   .rw[if_pos x,if_neg y,if_pos (by lia)];exact m _ (by lia) (by lia)
   .rw[if_neg x,if_pos y,if_neg (by lia)];exact g _ (by lia)
   .rw[if_neg x,if_neg y];split<;>split<;>exact d _ _ (by lia) (by lia)
 .rintro c b ⟨N,f,d⟩;refine⟨N,f,?_⟩
  rwa [show min (max (max ok 1) n) n=n by lia]at d
 .refine⟨rfl,hB,fun i j B D=>?_⟩
  by_cases q:ok=0
  .obtain rfl:i=j:=by lia
   exact lB tt _
  .exact R i j B (by lia)
 .rintro c b ⟨rfl,f,d⟩;exact be (h b f d)
end
theorem CG(c):∀m  t (arr:Array Keyed),c+t+m.length<=arr.size->((m.zipIdx t).foldl (fun(a:Array Keyed) (q:Keyed×Nat)=>a.setIfInBounds (c+q.2) q.1) arr).toList=arr.toList.take (c+t)++(m++arr.toList.drop (c+t+m.length))
 |[],t,arr,h=>by simp
 |x::m,t,arr,h=>by
  rw[List.zipIdx_cons,q1H,CG c m (t+1) _ (by rw[Array.size_setIfInBounds];simp at h;lia)];simp only[q2i];rw[show c+(t+1)=c+t+1 by lia,Rh (by rw[q0v (by simp at h ⊢;lia)]),List.take_set_of_le (ba _),List.drop_set_of_lt (by lia)];rw[show c+t+(x::m).length=c+t+1+m.length by simp;lia];simp
theorem Rr(i):mergeAt' i=(do
 let t <-get
 let(some (sa,na,pw),some (sb,nb,_)):=((pendingOf t)[i]?,(pendingOf t)[i+1]?) |unsupported "internal:list.sort.pending"
 set (setPending t (((pendingOf t).setIfInBounds i (sa,na+nb,pw)).eraseIdxIfInBounds (i+1)))
 let some k <-dF false (<-elem' (arrOf t) sb) (arrOf t) sa na 0 |return false
 let(sa,na):=(sa+k,na - k)
 if na==0 then return true
 let some nb <-dF true (<-elem' (arrOf t) (sa+na - 1)) (arrOf t) sb nb (nb - 1) |return false
 if nb==0 then return true
 let x:=(arrOf t).extract sa sb;let y:=(arrOf t).extract sb (sb+nb);let r <-if na<=nb then kz x y else kB x y
 modify fun u=>setArr u (r.toList.zipIdx.foldl (fun a (p,j)=>a.setIfInBounds (sa+j) p) (arrOf u))
 return (failedOf (<-get)).isNone):=rfl
theorem Rs{st }(h:Q ⟨⟩ a):wpS (model b w) A E s (set a:StateT SortSt Sem PUnit) Q st:=by unfold wpS;have e:(set a:StateT SortSt Sem PUnit).run st=pure (⟨⟩,a):=rfl;rw[e];exact aJ ⟨rfl,h⟩
theorem pZ{le:Keyed->Keyed->Bool}(a:∀x,le x x=true){l:List Keyed}(h:l.Pairwise (fun x y=>le x y=true)){j:Nat}(b:i<=j)(c:l[i]? = some x)(d:l[j]? = some y):le x y=true:=by
 obtain⟨e,rfl⟩:=q0a.mp c;obtain⟨f,rfl⟩:=q0a.mp d;rcases q1T i j with q |q
 .exact List.pairwise_iff_getElem.mp h i j e f q
 .obtain rfl:i=j:=by lia
  exact a _
section
variable{prog:Program}{w:World}{A:Around}{E:Value->Shared->Prop}{s:Shared}{le:Keyed->Keyed->Bool}{κ:SortKind}{S:Keyed->Prop}{st:SortSt}
variable(hL:eR prog w A E s le κ S)(tr:∀x y z,le x y=true->le y z=true->le x z=true)(tt:∀x y,(le x y||le y x)=true)
include hL tr tt
theorem Rt{pv}(hk:kindOf st=κ)(hf:failedOf st=none)(hS:∀x∈(arrOf st).toList,S x)
  (h1:(pendingOf st)[i]? = some (L.length,b.length,pw)) (h2:(pendingOf st)[i+1]? = some (L.length+b.length,d.length,pv)) (G:(arrOf st).toList=L++(b++(d++R)))
  (a0:0<b.length) (b0:0<d.length) (sa:b.Pairwise fun x y=>le x y=true) (sb:d.Pairwise fun x y=>le x y=true)
  (h:∀n,kindOf n = κ->failedOf n = none->pendingOf n = ((pendingOf st).setIfInBounds i (L.length,b.length+d.length,pw)).eraseIdxIfInBounds (i+1)->(arrOf n).toList=L++(List.merge b d le++R)->Q true n) :
  wpS (model prog w) A E s (mergeAt' i) Q st:=by
 rw[Rr];refine aN (wpS_get ?_);rw[h1,h2];dsimp only;have X:=lB (le:=le) tt;have o:∀j,j<b.length->(arrOf st)[L.length+j]? = b[j]?:=fun j p=>by rw[dg,G,q0z (by lia),q02,q0G p]
 have z:∀j,j<d.length->(arrOf st)[L.length+b.length+j]? = d[j]?:=fun j p=>by rw[dg,G,q0z (by lia),q0z (by lia),show L.length+b.length+j - L.length - b.length=j by lia,q0G p]
 have U:∀(j:Nat) (x:Keyed),(arrOf st)[j]? = some x->S x:=fun j x c=>hS x (by rw[dg]at c;exact q0K c);have sz:(arrOf st).size=L.length+(b.length+(d.length+R.length)):=by rw[<-q0H,G];simp
 generalize C:setPending st (((pendingOf st).setIfInBounds i (L.length,b.length+d.length,pw)).eraseIdxIfInBounds (i+1))=m;have k1:kindOf m=κ:=by rw[<-C];exact hk
 have f1:failedOf m=none:=by rw[<-C];exact hf
 have p1:pendingOf m=((pendingOf st).setIfInBounds i (L.length,b.length+d.length,pw)).eraseIdxIfInBounds (i+1):=by rw[<-C]
 have J:arrOf m=arrOf st:=by rw[<-C]
 refine aN (Rs ?_);obtain⟨y0,a4,eB⟩:∃y t,d=y::t:=by cases d with
  |nil=>simp at b0
  |cons y t=>exact⟨y,t,rfl⟩
 have Y:(arrOf st)[L.length+b.length]? = some y0:=by have:=z 0 b0;rw[eB]at this;simpa using this
 refine aN (ei Y (aN (nW hL tr k1 (U _ _ Y) U (by lia) (fun i j x y H N Z c g=>?_) (fun k pp g1 g2=>?_) a0)))
 .obtain⟨i',rfl⟩:∃i',i=L.length+i':=⟨i - L.length,by lia⟩
  obtain⟨j',rfl⟩:∃j',j=L.length+j':=⟨j - L.length,by lia⟩
  rw[o _ (by lia)]at c g;exact pZ X sa (by lia) c g
 have eA:b.take k++b.drop k=b:=q1b k b;have fr:List.merge b d le=b.take k++List.merge (b.drop k) d le:=by
  rw[eB]
  conv=>lhs;rw[<-eA]
  refine sx fun x c=>?_;obtain⟨j,p,q⟩:=nX c;have:=g1 j p x (by rw[o j (by lia)];exact q);simpa[eF] using this
 dsimp only
 by_cases e1:b.length - k=0
 .rw[if_pos (by simpa using e1)];refine be (h m k1 f1 p1 ?_);rw[J,G,fr,q06 (by lia),q0O (by lia),List.nil_merge,q0k]
 rw[if_neg (by simpa using e1)];obtain⟨x1,O⟩:∃x,b[b.length - 1]? = some x:=⟨_,q0c (by lia)⟩
 have a1:(arrOf st)[L.length+k+(b.length - k) - 1]? = some x1:=by rw[show L.length+k+(b.length - k) - 1=L.length+(b.length - 1) by lia,o _ (by lia)];exact O
 refine aN (ei a1 (aN (nW hL tr k1 (U _ _ a1) U (by lia) (fun i j x y H N Z c g=>?_) (fun e a5 g3 g4=>?_) (by lia))))
 .obtain⟨i',rfl⟩:∃i',i=L.length+b.length+i':=⟨i - (L.length+b.length),by lia⟩
  obtain⟨j',rfl⟩:∃j',j=L.length+b.length+j':=⟨j - (L.length+b.length),by lia⟩
  rw[z _ (by lia)]at c g;exact pZ X sb (by lia) c g
 have eC:d.take e++d.drop e=d:=q1b e d;have bk:List.merge (b.drop k) d le=List.merge (b.drop k) (d.take e) le++d.drop e:=by
  conv=>lhs;rw[<-eC]
  refine sy _ _ fun x c y g=>?_;obtain⟨j,p⟩:=q1g c;rw[q1N]at p;obtain⟨l,hl⟩:=q1g g;rw[q1N]at hl;have a2:e+l<d.length:=(q0a.mp hl).1;have a6:k+j<b.length:=(q0a.mp p).1;have H:=pZ X sa (i:=k+j) (j:=b.length - 1) (by lia) p O;have N:=g4 (e+l) (by lia) a2 y (by rw[z _ a2];exact hl);exact tr _ _ _ H (by simpa[eF] using N)
 dsimp only
 by_cases e2:e=0
 .rw[if_pos (by simpa using e2)];refine be (h m k1 f1 p1 ?_);subst e2;rw[J,G,fr,bk];simp only[q2O,q2N,q2A];rw[<-q0k (b.take k),eA,q0k]
 rw[if_neg (by simpa using e2)];have tX:((arrOf st).extract (L.length+k) (L.length+b.length)).toList=b.drop k:=by rw[iK,G,<-q1p,q1R,q1Y (by lia),show L.length+b.length - (L.length+k)=(b.drop k).length by simp;lia,List.take_left]
 have tY:((arrOf st).extract (L.length+b.length) (L.length+b.length+e)).toList=d.take e:=by rw[iK,G,<-q1p,q1R,q1R,q02,q1Z (by lia)]
 have lX:((arrOf st).extract (L.length+k) (L.length+b.length)).size=b.length - k:=by rw[<-q0H,tX];simp
 have lY:((arrOf st).extract (L.length+b.length) (L.length+b.length+e)).size=e:=by rw[<-q0H,tY];simp;lia
 have B:∀(j:Nat) (x:Keyed),((arrOf st).extract (L.length+k) (L.length+b.length))[j]? = some x->b[k+j]? = some x:=fun j x c=>by rw[dg,tX,q1N]at c;exact c
 have D:∀(j:Nat) (x:Keyed),((arrOf st).extract (L.length+b.length) (L.length+b.length+e))[j]? = some x->j<e/\d[j]? = some x:=fun j x c=>by
  rw[dg,tY,q1M]at c;split at c
  .exact⟨by assumption,c⟩
  .cases c
 have M:MH le S ((arrOf st).extract (L.length+k) (L.length+b.length)) ((arrOf st).extract (L.length+b.length) (L.length+b.length+e)):={
  tr:=tr
  sa:=fun i j x y a3 c g=>pZ X sa (by lia) (B i x c) (B j y g)
  sb:=fun i j x y a3 c g=>pZ X sb a3 (D i x c).2 (D j y g).2
  Sa:=fun i x c=>by have q:=B i x c;exact U (L.length+(k+i)) x (by rw[o _ (q0a.mp q).1];exact q)
  Sb:=fun i x c=>by have q:=(D i x c).2;exact U (L.length+b.length+i) x (by rw[z _ (q0a.mp q).1];exact q)
  a0:=by lia
  b0:=by lia
  first:=fun x y c g=>by have H:=B 0 x c;have N:=(D 0 y g).2;rw[eB]at N;have Z:=g2 k (ba _) (by lia) x (by rw[o k (by lia)];exact H);simp only[q1h,q0N]at N;rw[<-N];simpa[eF] using Z
  last:=fun i x y hi c g=>by
   have H:=B i x c;rw[show k+i=b.length - 1 by lia,O]at H;cases H;rw[tY]at g;obtain⟨j,p,q⟩:=nX g;have Z:=g3 j p y (by rw[z j (by lia)];exact q);simpa[eF] using Z }
 have fin:∀(r:Array Keyed) (f:SortSt),Sm m f->r.toList=List.merge ((arrOf st).extract (L.length+k) (L.length+b.length)).toList ((arrOf st).extract (L.length+b.length) (L.length+b.length+e)).toList le->
   wpS (model prog w) A E s (do
    modify fun u=>setArr u (List.foldl (fun(a:Array Keyed) (x:Keyed×Nat)=>a.setIfInBounds (L.length+k+x.snd) x.fst) (arrOf u) r.toList.zipIdx)
    let v <-get
    pure (failedOf v).isNone) Q f:=fun r f I T=>by
  refine aN (wpS_modify (aN (wpS_get ?_)));rw[tX,tY]at T;have f2:failedOf f=none:=I.failed.trans f1;show wpS _ _ _ _ (pure (failedOf f).isNone) Q _;rw[f2];refine be (h _ (I.kind.trans k1) f2 (I.pend.trans p1) ?_);show(List.foldl (fun(a:Array Keyed) (x:Keyed×Nat)=>a.setIfInBounds (L.length+k+x.snd) x.fst) (arrOf f) r.toList.zipIdx).toList=_;have hl:r.toList.length=b.length - k+e:=by rw[T,List.length_merge];simp;lia
  rw[I.arr,J,CG (L.length+k) r.toList 0 (arrOf st) (by lia),hl,q2T,G,fr,bk,T];have t1:(L++(b++(d++R))).take (L.length+k)=L++b.take k:=by rw[List.take_append,q0O (by lia),q02,q1Z (by lia)]
  have t2:(L++(b++(d++R))).drop (L.length+k+(b.length - k+e))=d.drop e++R:=by rw[show L.length+k+(b.length - k+e)=L.length+(b.length+e) by lia,<-q1p,q1R,<-q1p,q1R,q1Y (by lia)]
  rw[t1,t2];simp only[q0k]
 split
 .exact aN (Re M hL k1 fun r f I T=>fin r f I T)
 .exact aN (Rl M hL k1 fun r f I T=>fin r f I T)
end
def Rn(le:Keyed->Keyed->Bool):Nat->List (Nat×Nat×Nat)->List (List Keyed)->Prop
 |_,[],[]=>True
 |lo,p::a,r::b=>p.1=lo/\p.2.1=r.length/\0<r.length/\r.Pairwise (fun x y=>le x y=true)/\Rn le (lo+r.length) a b
 |_,_,_=>False
section
variable{le:Keyed->Keyed->Bool}
theorem Rn.len:∀{lo a b},Rn le lo a b->a.length=b.length
 |_,[],[],_=>rfl
 |_,_::_,_::_,h=>by simp[Rn.len h.2.2.2.2]
 |_,[],_::_,h=>h.elim
 |_,_::_,[],h=>h.elim
theorem Rn.few:∀{lo b a},Rn le lo b a->a.length<=a.flatten.length
 |_,[],[],_=>by simp
 |_,_::_,r::a,h=>by have:=Rn.few h.2.2.2.2;have:=h.2.2.1;simp at *;lia
 |_,[],_::_,h=>h.elim
 |_,_::_,[],h=>h.elim
theorem Rn.split:∀{P Q lo a},Rn le lo (P++Q) a->∃b R2,a=b++R2/\Rn le lo P b/\Rn le (lo+b.flatten.length) Q R2
 |[],Q,lo,a,h=>⟨[],a,rfl,trivial,h⟩
 |p::P,Q,lo,r::a,h=>by obtain⟨b,R2,e,h1,h2⟩:=Rn.split h.2.2.2.2;refine⟨r::b,R2,by rw[e];rfl,⟨h.1,h.2.1,h.2.2.1,h.2.2.2.1,h1⟩,?_⟩;rw[q0g,q0q,<-q2x];exact h2
 |p::P,Q,lo,[],h=>h.elim
theorem Rn.join:∀{P Q lo a R2},Rn le lo P a->Rn le (lo+a.flatten.length) Q R2->Rn le lo (P++Q) (a++R2)
 |[],Q,lo,[],R2,_,h=>by simpa using h
 |p::P,Q,lo,r::a,R2,h,h2=>⟨h.1,h.2.1,h.2.2.1,h.2.2.2.1,h.2.2.2.2.join (by rw[q0g,q0q,<-q2x]at h2;exact h2)⟩
 |[],_,_,_::_,_,h,_=>h.elim
 |_::_,_,_,[],_,h,_=>h.elim
theorem Rn.pw(c:∀p,(f p).1=p.1/\(f p).2.1=p.2.1):∀{a lo i b},Rn le lo a b->Rn le lo (a.modify i f) b
 |[],_,_,[],h=>by simp[Rn]
 |p::a,lo,0,r::b,h=>by simpa[Rn,c] using h
 |p::a,lo,i+1,r::b,h=>by rw[List.modify_succ_cons];exact⟨h.1,h.2.1,h.2.2.1,h.2.2.2.1,h.2.2.2.2.pw c⟩
 |[],_,_,_::_,h=>h.elim
 |_::_,_,_,[],h=>h.elim
structure IV (le:Keyed->Keyed->Bool) (κ:SortKind) (a₀:List Keyed) (st:SortSt) (rs:List (List Keyed)) (rest:List Keyed):Prop where
 kind:kindOf st=κ
 failed:failedOf st=none
 perm:(arrOf st).toList.Perm a₀
 arr:(arrOf st).toList=rs.flatten++rest
 runs:Rn le 0 (pendingOf st).toList rs
variable{prog:Program}{w:World}{A:Around}{E:Value->Shared->Prop}{s:Shared}{κ:SortKind}{a₀:List Keyed}{st:SortSt}
variable(hL:eR prog w A E s le κ (·∈a₀))(tr:∀x y z,le x y=true->le y z=true->le x z=true)(tt:∀x y,(le x y||le y x)=true)
include hL tr tt
theorem CH(v:IV le κ a₀ st u rest)(J:i+1<(pendingOf st).size)
  (h:∀a g,IV le κ a₀ a g rest->g.flatten.length=u.flatten.length->(pendingOf a).size+1=(pendingOf st).size->Q true a):wpS (model prog w) A E s (mergeAt' i) Q st:=by
 obtain⟨P,l,m,n,e,o⟩:∃P l m n,(pendingOf st).toList=P++l::m::n/\P.length=i:=by
  have h1:i+1<(pendingOf st).toList.length:=by simpa using J
  refine⟨(pendingOf st).toList.take i,(pendingOf st).toList[i]'(by lia),(pendingOf st).toList[i+1],(pendingOf st).toList.drop (i+2),?_,by rw[q1V];lia⟩;rw[<-q0J h1,<-q0J (by lia),q1b]
 have y:=v.runs;rw[e]at y;obtain⟨j,R2,d,L,c⟩:=y.split
 match R2,c,d with
 |b::f::z,c,d=>
  obtain⟨M,N,k⟩:=l;obtain⟨O,R,p⟩:=m;obtain⟨q,B,S,C,r,D,T,G,U⟩:=c;subst q B r D;have H:(arrOf st).toList=j.flatten++(b++(f++(z.flatten++rest))):=by rw[v.arr,d];simp
  have g1:(pendingOf st)[i]? = some (j.flatten.length,b.length,k):=by rw[dg,e,<-o];simp
  have g2:(pendingOf st)[i+1]? = some (j.flatten.length+b.length,f.length,p):=by rw[dg,e,<-o];simp
  refine Rt hL tr tt v.kind v.failed (fun x X=>v.perm.mem_iff.mp X) g1 g2 H S T C G fun a Y Z p' I=>?_;have pl:(pendingOf a).toList=P++(j.flatten.length,b.length+f.length,k)::n:=by rw[p',Array.toList_eraseIdxIfInBounds,q2i,e,<-o,List.set_append_right _ _ (ba _),List.eraseIdx_append_of_length_le (by lia)];simp
  have t:(List.merge b f le).length=b.length+f.length:=List.length_merge _ _ _;refine h a (j++List.merge b f le::z) ⟨Y,Z,?_,?_,?_⟩ ?_ ?_
  .refine List.Perm.trans ?_ v.perm;rw[I,H];refine List.Perm.append_left _ ?_;rw[<-q0k b];exact q2E _ (List.merge_perm_append le)
  .rw[I];simp
  .rw[pl];refine L.join ⟨by simp,by simp[t],by lia,List.pairwise_merge tr tt _ _ C G,?_⟩;rw[t,<-q2x,q1i];simpa using U
  .rw[d];simp[t];lia
  .have l1:=congrArg List.length pl;have l2:=congrArg List.length e;simp at l1 l2;lia
 |[],c,d=>exact c.elim
 |[_],c,d=>exact c.2.2.2.2.elim
theorem CI{Q:ForInStep (Option Unit×Nat)->SortSt->Prop}{lo }(v:IV le κ a₀ st d rest)(a:d.flatten.length=lo)(g:1<=n)(e:n<=rest.length)(f:(rest.take n).Pairwise fun x y=>le x y=true)
  (h:∀b c,IV le κ a₀ b c (rest.drop n)->c.flatten.length=lo+n->Q (.yield (none,lo+n)) b) :
  wpS (model prog w) A E s (do
   modify fun s=>setPending s ((pendingOf s).push (lo,n,0))
   pure (ForInStep.yield (none,lo+n))) Q st:=by
 refine aN (wpS_modify (be (h _ (d++[rest.take n]) ⟨v.kind,v.failed,v.perm,?_,?_⟩ ?_)))
 .rw[v.arr];simp
 .rw[Array.toList_push];refine v.runs.join ⟨by simp[a],by simp;lia,by simp;lia,f,trivial⟩
 .simp[a];lia
theorem CJ{lo }(v:IV le κ a₀ st j rest)(d:j.flatten.length=lo)(z:1<=n)(u:n<=rest.length)(B:(rest.take n).Pairwise fun x y=>le x y=true)
  (h:∀a l,IV le κ a₀ a l (rest.drop n)->l.flatten.length=lo+n->Q (.yield (none,lo+n)) a) :
  ∀m,m=(do
   let g <-get
   match (pendingOf g).back? with
   |some (o,k,_)=>do
    let c <-forIn [:sz] ((none,()):Option Unit×Unit) fun _ _=>do
     let g <-get
     match if (pendingOf g).size>1 then(pendingOf g)[(pendingOf g).size - 2]? else none with
     |some (_,_,t)=>
      if t<=power' sz (2 * o+k) (2 * o+k+k+n) sz then pure (ForInStep.done (none,()))
      else do
       let b <-mergeAt' ((pendingOf g).size - 2)
       if (!b)=true then pure (ForInStep.done (some (),())) else pure (ForInStep.yield (none,()))
     |_=>pure (ForInStep.done (none,()))
    match c.fst with
    |some r=>pure (ForInStep.done (some r,lo))
    |none=>do
     modify fun s=>setPending s ((pendingOf s).modify ((pendingOf s).size - 1) fun x=>(x.fst,x.2.fst,power' sz (2 * o+k) (2 * o+k+k+n) sz))
     modify fun s=>setPending s ((pendingOf s).push (lo,n,0))
     pure (ForInStep.yield (none,lo+n))
   |_=>do
    modify fun s=>setPending s ((pendingOf s).push (lo,n,0))
    pure (ForInStep.yield (none,lo+n)))->wpS (model prog w) A E s m Q st:=by
 rintro m rfl;refine aN (wpS_get ?_);cases e:(pendingOf st).back? with
 |none=>exact CI hL tr tt v d z u B h
 |some p=>
  obtain⟨o,k,H⟩:=p;refine aN (wpS_mono (wpS_forRange (I:=fun _ c a=>c=(none,())/\∃j,IV le κ a₀ a j rest/\j.flatten.length=lo)
   ?_ (fun c a q=>q) ⟨rfl,j,v,d⟩) ?_)
  .rintro x c a _ _ ⟨rfl,j,v,d⟩;refine aN (wpS_get ?_)
   by_cases h1:(pendingOf a).size>1
   .rw[if_pos h1];obtain⟨⟨J,L,M⟩,D⟩:=at_ (c:=pendingOf a) (i:=(pendingOf a).size - 2) (by lia);rw[D];dsimp only;split
    .exact be ⟨rfl,j,v,d⟩
    .exact aN (CH hL tr tt v (by lia) fun C l G N O=>be ⟨rfl,l,G,by lia⟩)
   .rw[if_neg h1];exact be ⟨rfl,j,v,d⟩
  .rintro c a ⟨rfl,j,v,d⟩;refine aN (wpS_modify (CI hL tr tt ⟨v.kind,v.failed,v.perm,v.arr,?_⟩ d z u B h));rw[Array.toList_modify];exact v.runs.pw (f:=fun x=>(x.fst,x.2.fst,power' sz (2 * o+k) (2 * o+k+k+n) sz)) fun p=>⟨rfl,rfl⟩
theorem Ru(hk:kindOf st=κ)(hf:failedOf st=none)(hp:pendingOf st = #[])(S:(arrOf st).toList=a₀)
  (h:∀a,failedOf a = none->(arrOf a).toList.Perm a₀->(arrOf a).toList.Pairwise (fun x y=>le x y=true)->Q () a):wpS (model prog w) A E s sortRuns' Q st:=by
 rw[sortRuns'_eq];refine aN (wpS_get ?_);dsimp only;generalize a1:minRun' (arrOf st).size (arrOf st).size 0=mr;generalize T:(arrOf st).size=sz;have U:a₀.length=sz:=by rw[<-S,<-T];simp
 refine aN (wpS_mono (wpS_forRange (I:=fun x c a=>∃lo l rest,c=(none,lo)/\IV le κ a₀ a l rest/\l.flatten.length=lo/\x<=lo)
  (Q:=fun c a=>∃lo l rest,c=(none,lo)/\IV le κ a₀ a l rest/\l.flatten.length=lo/\sz<=lo) ?_ ?_ ⟨0,[],a₀,rfl,⟨hk,hf,by rw[S],by rw[S];rfl,by rw[hp];trivial⟩,rfl,q0Y _⟩) ?_)
 .rintro x c t _ X ⟨lo,l,rest,rfl,v,u,Y⟩;dsimp only
  by_cases D:lo≥sz
  .rw[if_pos D];exact be ⟨lo,l,rest,rfl,v,u,D⟩
  .rw[if_neg D];have G:(arrOf t).size=sz:=by rw[<-q0H,v.perm.length_eq,U]
   have B1:Bs κ (·∈a₀) lo t t:=⟨Array.Perm.refl _,v.kind,v.failed,rfl,fun _ _=>rfl,fun x X=>v.perm.mem_iff.mp X⟩
   have cM:∀(f:SortSt) (m:Nat),Bs κ (·∈a₀) lo t f->gB le (arrOf f) lo m->m<=sz - lo->∃d,IV le κ a₀ f l d/\d.length=sz - lo/\(d.take m).Pairwise fun x y=>le x y=true:=fun f m C M Z=>by
    have H:(arrOf f).size=sz:=C.size.trans G;have tk:(arrOf f).toList.take lo=l.flatten:=by
     have:(arrOf f).toList.take lo=(arrOf t).toList.take lo:=by
      apply q1x;intro k;rw[q1M,q1M];split
      .rename_i q;have:=C.keep k q;rwa [dg,dg]at this
      .rfl
     rw[this,v.arr,<-u,List.take_left]
    refine⟨(arrOf f).toList.drop lo,⟨C.kind,C.failed,(q1X.mp C.perm).trans v.perm,?_,by rw[C.pend];exact v.runs⟩,by simp[H],?_⟩
    .conv=>lhs;rw[<-q1b lo (arrOf f).toList,tk]
    .rw[List.pairwise_iff_getElem];intro i j hi hj a2;simp at hi hj;refine gB.old M i j _ _ (by lia) (by lia) ?_ ?_
     .rw[dg,List.getElem_take,List.getElem_drop,q0c]
     .rw[dg,List.getElem_take,List.getElem_drop,q0c]
   refine aN (Rp hL tr tt (by lia) (by lia) B1 fun m f C a3 a4 M=>?_);dsimp only;have fin:∀(B:SortSt) (n:Nat),Bs κ (·∈a₀) lo t B->gB le (arrOf B) lo n->1<=n->n<=sz - lo->∀z o,(∃d:List Keyed,d.length=sz - lo/\IV le κ a₀ z o (d.drop n))->o.flatten.length=lo+n->∃J l rest,((none,lo+n):Option Unit×Nat)=(none,J)/\IV le κ a₀ z l rest/\l.flatten.length=J/\x+1<=J:=fun B n B3 s3 n1 n2 z o N O=>by obtain⟨r2,_,v4⟩:=N;exact⟨lo+n,o,_,rfl,v4,O,by lia⟩
   by_cases R:m<mr
   .rw[if_pos R];refine aN (wpS_lift (wpAny_rule ⟨rfl,?_⟩));refine aN (Rq hL tr tt (by lia) (by lia) C M fun B B3 s3=>?_);simp only[Bool.not_true,q1d,if_false];obtain⟨d,v3,l3,p3⟩:=cM B _ B3 s3 (by lia);refine CJ (sz:=sz) hL tr tt v3 u (by lia) (by lia) p3 (fun z o v4 O=>?_) _ ?_
    rotate_left
    .refine bP fun g=>?_;cases(pendingOf g).back? with
     |none=>rfl
     |some p=>
      refine fb (fun _ _=>bP fun g=>?_) fun c=>?_
      .cases(if (pendingOf g).size>1 then(pendingOf g)[(pendingOf g).size - 2]? else none)<;>rfl
      .obtain⟨_ |r,c⟩:=c<;>rfl
    exact fin B _ B3 s3 (by lia) (by lia) z o ⟨d,l3,v4⟩ O
   .rw[if_neg R];obtain⟨d,v3,l3,p3⟩:=cM f _ C M (by lia);refine CJ (sz:=sz) hL tr tt v3 u (by lia) (by lia) p3 (fun z o v4 O=>?_) _ ?_
    rotate_left
    .refine bP fun g=>?_;cases(pendingOf g).back? with
     |none=>rfl
     |some p=>
      refine fb (fun _ _=>bP fun g=>?_) fun c=>?_
      .cases(if (pendingOf g).size>1 then(pendingOf g)[(pendingOf g).size - 2]? else none)<;>rfl
      .obtain⟨_ |r,c⟩:=c<;>rfl
    exact fin f _ C M (by lia) (by lia) z o ⟨d,l3,v4⟩ O
 .rintro c a ⟨lo,l,rest,rfl,v,u,Y⟩;exact⟨lo,l,rest,rfl,v,u,by lia⟩
 .rintro c t ⟨lo,l,rest,rfl,v,u,D⟩;dsimp only;have L:rest=[]:=by have l1:=congrArg List.length v.arr;rw[v.perm.length_eq,q0q]at l1;exact List.eq_nil_of_length_eq_zero (by lia)
  subst L;have pl:(pendingOf t).size<=sz:=by have l1:=congrArg List.length v.arr;rw[v.perm.length_eq,q0q]at l1;have:=v.runs.few;have l2:=v.runs.len;rw[q0H]at l2;simp only[q00]at l1;lia
  refine aN (wpS_mono (wpS_forRange (I:=fun x c a=>c=(none,())/\(∃l,IV le κ a₀ a l [])/\(pendingOf a).size<=max 1 (sz - x))
   (Q:=fun c a=>c=(none,())/\(∃l,IV le κ a₀ a l [])/\(pendingOf a).size<=1) ?_ ?_ ⟨rfl,⟨l,v⟩,by lia⟩) ?_)
  .rintro x c a _ X ⟨rfl,⟨l,v⟩,Z⟩;refine aN (wpS_get ?_)
   by_cases h1:(pendingOf a).size<=1
   .rw[if_pos h1];exact be ⟨rfl,⟨l,v⟩,h1⟩
   .rw[if_neg h1];refine aN (CH hL tr tt v ?_ fun a0 o v' e1 e2=>be ⟨rfl,⟨o,v'⟩,by lia⟩);have pk:∀(b:Bool) (i n:Nat),i+1<n->(if b=true then i - 1 else i)+1<n:=fun b i n h=>by cases b<;>simp<;>lia
    exact pk _ _ _ (by lia)
  .rintro c a ⟨rfl,v,Z⟩;exact⟨rfl,v,by lia⟩
  .rintro c a ⟨rfl,⟨l,v⟩,Z⟩;refine be (h a v.failed v.perm ?_);rw[v.arr,q0F];have l2:=v.runs.len;rw[q0H]at l2
   match l,v.runs,l2 with
   |[],_,_=>exact .nil
   |[r],q,l2=>have e:∃p,(pendingOf a).toList=[p]:=q1l.mp (by rw[q0H];simpa using l2);obtain⟨p,e⟩:=e;rw[e]at q;simpa using q.2.2.2.1
   |_::_::_,_,l2=>simp at l2;lia
end
theorem CL:∀a,HT.lexLt a a=false
 |[]=>rfl
 |x::a=>by rw[HT.lexLt_cons,if_pos rfl];exact CL a
theorem wS:∀{a b d},HT.lexLt a b=true->HT.lexLt b d=true->HT.lexLt a d=true
 |[],[],_,h,_=>by cases h
 |[],y::b,[],_,h=>by cases h
 |[],_::_,_::_,_,_=>rfl
 |x::a,[],_,h,_=>by cases h
 |x::a,y::b,[],_,h=>by cases h
 |x::a,y::b,z::d,h1,h2=>by
  rw[HT.lexLt_cons]at h1 h2 ⊢
  by_cases e:x=y
  .subst e;rw[if_pos rfl]at h1
   by_cases c:x=z
   .subst c;rw[if_pos rfl]at h2 ⊢;exact wS h1 h2
   .rw[if_neg c]at h2 ⊢;exact h2
  .rw[if_neg e]at h1
   by_cases c:y=z
   .subst c;rw[if_neg e];exact h1
   .rw[if_neg c]at h2;rw[if_neg (by lia)];exact decide_eq_true (by lia)
theorem wT:∀{a b},HT.lexLt a b=false->HT.lexLt b a=false->a=b
 |[],[],_,_=>rfl
 |[],_::_,h,_=>by cases h
 |_::_,[],_,h=>by cases h
 |x::a,y::b,h1,h2=>by
  rw[HT.lexLt_cons]at h1 h2
  by_cases e:x=y
  .subst e;rw[if_pos rfl]at h1 h2;rw[wT h1 h2]
  .rw[if_neg e]at h1;rw[if_neg (Ne.symm e)]at h2;lia
def lexLe(a b:List Int):Bool:=!HT.lexLt b a
theorem lexLe_tr(a c d)(g:lexLe a c=true)(b:lexLe c d=true):lexLe a d=true:=by
 unfold lexLe at *;simp only[Bool.not_eq_true']at *;cases e:HT.lexLt d a with
 |false=>rfl
 |true=>
  cases f:HT.lexLt a c with
  |true=>rw[wS e f]at b;cases b
  |false=>rw[wT f g]at e;rw[e]at b;cases b
theorem lexLe_tt(a b):(lexLe a b||lexLe b a)=true:=by
 unfold lexLe;cases e:HT.lexLt b a with
 |false=>rfl
 |true=>
  cases c:HT.lexLt a b with
  |false=>rfl
  |true=>have:=wS e c;rw[CL]at this;cases this
theorem Rv(c:lexLe a b=true)(d:lexLe b a=true):a=b:=by unfold lexLe at *;simp only[Bool.not_eq_true']at *;exact wT d c
def sortR(rows:List (List Int)):List (List Int):=rows.mergeSort lexLe
theorem sortR_of(d:c.Perm rows)(e:c.Pairwise fun x y=>lexLe x y=true):c=sortR rows:=
 List.Perm.eq_of_pairwise (fun a b _ _ p q=>Rv p q) e (q1O lexLe_tr lexLe_tt rows) (d.trans (List.mergeSort_perm rows lexLe).symm)
theorem sortR_perm(rows):(sortR rows).Perm rows:=List.mergeSort_perm rows lexLe
abbrev nZ(a:Value->List Int):Keyed->Keyed->Bool:=fun x y=>lexLe (a x.1) (a y.1)
def wU(n:Nat):Prop:=2<=n->∀(b:Program) (w:World) (A:Around) (E:Value->Shared->Prop) (s:Shared) (d:Value->List Int) (κ:SortKind) (c:List Value) (Q:SortSt->Prop),c.length=n->
 (∀x∈c,∀y∈c,∀(E:Value->Shared->Prop) (Q:Bool->Shared->Prop),Q (HT.lexLt (d x) (d y)) s->wpAny (model b w) A (keyLt' κ x y) Q E s)->
 (∀a,failedOf a = none->(arrOf a).toList.Perm (pairsOf c).toList->(arrOf a).toList.Pairwise (fun x y=>nZ d x y=true)->Q a)->wpAny (model b w) A ((sortRuns').run (SortSt.mk' κ (c.toArray.zip c.toArray) #[] 7 none)) (fun r e=>e = s/\Q r.2) E s
theorem Rw(n):wU n:=fun _ d w A E s a κ f Q j g h=>by
 refine Ru (le:=nZ a) (a₀:=(pairsOf f).toList) (Q:=fun _ st=>Q st) (fun x y b c Q st i q=>?_) (fun x y z p q=>lexLe_tr _ _ _ p q) (fun x y=>lexLe_tt _ _) rfl rfl rfl rfl h;rw[pairsOf_toList]at b c;rw[lt'_eq];refine aN (wpS_get ?_);rw[i];refine aN (wpS_lift (wpAny_attempt (g x.1 (mem_zip_self b).2 y.1 (mem_zip_self c).2 _ _ ⟨rfl,be ?_⟩)));have e:(!nZ a y x)=HT.lexLt (a x.1) (a y.1):=by unfold nZ lexLe;simp
 rw[e]at q;exact q
structure sP (prog:Program) (w:World) (h0:Heap) (vs:List Value) (rk:Value->List Int) (κ:SortKind):Prop where
 kind:∀(A:Around) (E:Value->Shared->Prop) (s:Shared) (Q:SortKind->Shared->Prop),(∀b o,h0.get? b=some o->s.heap.get? b=some o)->2<=vs.length->Q κ s->wpAny (model prog w) A (keyKind' vs.toArray) Q E s
 lt:∀(A:Around) (E:Value->Shared->Prop) (s:Shared) (Q:Bool->Shared->Prop) (x y:Value),(∀b o,h0.get? b=some o->s.heap.get? b=some o)->x∈vs->y∈vs->Q (HT.lexLt (rk x) (rk y)) s->wpAny (model prog w) A (keyLt' κ x y) Q E s
theorem Rx(qC:s.heap.get? a=some (seqObj "list" d.toArray n))(t:d.length<=sizeLine)(R:wU d.length)(k:sP prog w r d rk κ)(z:∀b o,r.get? b=some o->b≠a/\s.heap.get? b=some o)
  (h:∀g:List Value,g.Perm d->g.Pairwise (fun x y=>lexLe (rk x) (rk y)=true)->P (.done (.ret .none)) { s with heap:=sortedHeap s.heap a d g.toArray }) :
  wpAny (model prog w) A (Builtin.«list.sort» ⟨[.ref a],[]⟩) P E s:=by
 rw[list_sort_plain];have la:a<s.heap.objs.size:=bm qC;refine af (listItems_at qC rfl (af (listUpdate_at qC rfl ?_ (by simpa using t) (q0Y _))));obtain⟨u,qD⟩:∃u,(s.heap.update a (Obj.mapSeq fun _=>#[])).get? a=some (seqObj "list" #[] u):=⟨_,get?_update_seq qC fun _=>#[]⟩
 refine af (seqEpoch_at qD rfl (af (wpAny_newTuple ?_ (by simpa using t))));refine af (wpAny_newList ?_ (q0Y _));refine wpAny_holding ?_;have up:∀{b:Addr}{o:Obj},(s.heap.update a (Obj.mapSeq fun _=>#[])).get? b=some o->(((s.heap.update a (Obj.mapSeq fun _=>#[])).push (seqObj "tuple" d.toArray 0)).push (seqObj "list" #[] 0)).get? b=some o:=fun e=>aW _ (aW _ e);have f:=up qD;have kp:=fun b o e=>up (by rw[Heap.get?_update_ne _ _ _ _ (z b o e).1];exact(z b o e).2);dsimp only;have sz:d.toArray.size=d.length:=by simp
 have fin:∀c:SortSt,(arrOf c).toList.Perm (pairsOf d).toList->(arrOf c).toList.Pairwise (fun x y=>nZ rk x y=true)->P (.done (.ret .none)) { s with heap:=sortedHeap s.heap a d ((arrOf c).map (·.2)) }:=fun c i j=>by
  have v:∀p∈(arrOf c).toList,p.1=p.2:=fun p B=>by have:=i.mem_iff.mp B;rw[pairsOf_toList]at this;exact(mem_zip_self this).1
  have e:(arrOf c).map (·.2)=((arrOf c).toList.map (·.2)).toArray:=by apply Array.toList_inj.mp;simp
  rw[e];refine h _ ?_ ?_
  .have:=i.map (·.2)
   rwa [pairsOf_toList,List.map_snd_zip (ba _)]at this
  .rw[q2r];refine q2s (fun {x y} l m q=>?_) j;rw[<-v x l,<-v y m];exact q
 by_cases h2:d.toArray.size<2
 .rw[if_pos h2,if_pos h2];refine af (aJ ?_);rw[StateT.run_pure];refine af (aJ ?_);dsimp only;refine af (seqEpoch_at f rfl (af (listUpdate_at f rfl ?_ (q0Y _) (by
   have:((pairsOf d).map (·.2)).size<=sizeLine+1:=by rw[Array.size_map,pairsOf_size];lia
   exact this))))
  simp only[bne_self_eq_false,q1d,if_false];refine aJ (fin (SortSt.mk' general' (d.toArray.zip d.toArray) #[] 7 none) (List.Perm.refl _) ?_);show(pairsOf d).toList.Pairwise _;rw[pairsOf_toList]
  match d,sz,h2 with
  |[],_,_=>exact .nil
  |[_],_,_=>exact List.pairwise_singleton _ _
  |_::_::_,_,h2=>simp at h2;lia
 .rw[if_neg h2,if_neg h2];refine af (k.kind _ _ _ _ kp (by lia) ?_);refine af (wpAny_mono (R (by lia) prog w _ _ _ rk κ d (fun c=>failedOf c = none/\(arrOf c).toList.Perm (pairsOf d).toList/\(arrOf c).toList.Pairwise (fun x y=>nZ rk x y=true))
   rfl (fun x l y m E Q q=>k.lt _ _ _ _ x y kp l m q) fun c C D G=>⟨C,D,G⟩) ?_ fun _ _ e=>e)
  rintro⟨⟨⟩,c⟩ I ⟨rfl,H,i,j⟩;dsimp only;refine af (seqEpoch_at f rfl (af (listUpdate_at f rfl ?_ (q0Y _) (by
   have l1:=i.length_eq;simp only[q0H,pairsOf_size]at l1;have:((arrOf c).map (·.2)).size<=sizeLine+1:=by rw[Array.size_map];lia
   exact this))))
  rw[H];simp only[bne_self_eq_false,q1d,if_false];exact aJ (fin c i j)
theorem Ry{s:Shared}(t:s.heap.IsList l a.toArray)(f:a.length<=sizeLine)(R:wU a.length)(k:sP prog w s.heap a rk κ)
  (h:∀(c:List Value)  i  n,c.Perm a->c.Pairwise (fun x y=>lexLe (rk x) (rk y)=true)->(∀b o,s.heap.get? b=some o->i.get? b=some o)->i.get? (s.heap.objs.size+1)=some (seqObj "list" c.toArray n)->Q (.ref (s.heap.objs.size+1)) { s with heap:=i }) :
  wpAny (model prog w) A (call (.builtin "sorted") [.ref l]) Q E s:=by
 apply Calls.call_function_entry kind_sorted plain_sorted entry_sorted (args_sorted1 _);refine af (aJ (af (collect_list t (af (wpAny_newList ?_ f)) f)));generalize p:(s.heap.push (seqObj "list" #[] 0)).update s.heap.objs.size (Obj.mapSeq (·++a.toArray))=g;have r:g.objs.size=s.heap.objs.size+1:=by rw[<-p,Heap.size_update,size_push']
 have u:∀b o,s.heap.get? b=some o->g.get? b=some o:=fun b o e=>by have d:=bm e;rw[<-p,Heap.get?_update_ne _ _ _ _ (q0t d),Heap.get?_push_ne _ _ _ (q0t d)];exact e
 have ub:(g.push (seqObj "list" a.toArray 0)).get? (s.heap.objs.size+1)=some (seqObj "list" a.toArray 0):=by rw[<-r];exact Heap.get?_push_size _ rfl
 rw[r];have hb:∀b o,s.heap.get? b=some o->b≠s.heap.objs.size+1/\(g.push (seqObj "list" a.toArray 0)).get? b=some o:=fun b o e=>⟨q0t (q1w (bm e)),aW _ (u b o e)⟩
 refine af (wpAny_holding (wpAny_call_entry slot_list_sort ⟨_,ub,rfl⟩ entry_list_sort (Rx ub f R k hb fun c v z=>⟨_,rfl,?_⟩) (args_list_sort _)));refine aJ ⟨_,rfl,?_⟩;obtain⟨j,qD⟩:∃j,((g.push (seqObj "list" a.toArray 0)).update (s.heap.objs.size+1) (Obj.mapSeq fun _=>#[])).get? (s.heap.objs.size+1)=some (seqObj "list" #[] j):=⟨_,get?_update_seq ub fun _=>#[]⟩
 refine h c _ _ v z (fun b o e=>?_) (get?_update_seq (aW _ (aW _ qD)) fun _=>c.toArray);have q:=hb b o e;unfold sortedHeap;rw[Heap.get?_update_ne _ _ _ _ q.1];refine aW _ (aW _ ?_);rw[Heap.get?_update_ne _ _ _ _ q.1];exact q.2
noncomputable def gY(h:Heap):Value->List Int
 |.int n _=>[n]
 |.ref a=>(match h.get? a with
  |some o=>(match o.data with
   |.seq b _=>b.toList.map numOf
   |_=>[])
  |none=>[])
 |_=>[]
theorem Rz{α β:Type}{f:α->β}{l m}(h:l.Perm m):∀{ts},m=ts.map f->∃a:List α,a.Perm ts/\a.map f=l:=by
 induction h with
 |nil=>
  intro ts e;cases ts with
  |nil=>exact⟨[],.nil,rfl⟩
  |cons _ _=>cases e
 |cons x _ d=>
  intro ts e;cases ts with
  |nil=>cases e
  |cons t ts=>simp only[q0l,q2h]at e;obtain⟨a,h1,h2⟩:=d e.2;exact⟨t::a,h1.cons t,by rw[q0l,h2,e.1]⟩
 |swap x y l=>
  intro ts e
  match ts,e with
  |[],e=>cases e
  |[_],e=>cases e
  |t::u::ts,e=>simp only[q0l,q2h]at e;exact⟨u::t::ts,.swap t u ts,by simp[e.1,e.2.1,e.2.2]⟩
 |trans _ _ b c=>intro ts e;obtain⟨j,h1,h2⟩:=c e;obtain⟨g,h3,i⟩:=b h2.symm;exact⟨g,h3.trans h1,i⟩
theorem Paired.zipAll:∀{a:List α}{b},Paired R a b->∀p∈a.zip b,R p.1 p.2:=by
 intro a b h
 induction h with
 |nil=>exact fun p h=>by cases h
 |cons r _ c=>
  intro p h;rw[q1G]at h;rcases q0b.mp h with rfl |h
  .exact r
  .exact c p h
theorem Paired.ofZip:∀{a:List (α×β)},(∀p∈a,R p.1 p.2)->Paired R (a.map (·.1)) (a.map (·.2))
 |[],_=>.nil
 |z::a,h=>.cons (h z q0f) (Paired.ofZip fun p b=>h p (bt _ b))
end L2.TS
namespace L2.L3
open PySem PySem.Spec PyProof.Rows
theorem RA:∀{c}{rows:List (List Int)},aG G c (rows.map mk)->Paired (fun y r=>DV G y (mk r)) c rows:=by
 intro c rows
 induction rows generalizing c with
 |nil=>intro h;cases h;exact .nil
 |cons r rows d=>intro h;cases h with
  |cons a b=>exact .cons a (d b)
theorem RB:∀{b}{rows:List (List Int)},Paired (fun y r=>DV G y (mk r)) b rows->aG G b (rows.map mk):=by
 intro b rows h
 induction h with
 |nil=>exact .nil
 |cons a _ c=>exact .cons a c
end L2.L3
namespace L2
open PySem PySem.Spec PyProof.Rows
open AutoSeq1 (wpAny_loadPart')
theorem RC(l a n e)(o) :
  Meets (Builtin.«enumerate.__new__» ⟨[.type "enumerate",.ref l],[]⟩) (fun _ R s=>s.heap.get? l=some { cls:=.type "tuple",dict:=e,data:=.seq a n,slots:=o }/\
   R (.ok (.ret (.ref (s.heap.push { cls:=.type "tuple_iterator",data:=.fields #[.ref l,.int 0 0] }).objs.size)))
    { s with heap:=(s.heap.push { cls:=.type "tuple_iterator",data:=.fields #[.ref l,.int 0 0] }).push { cls:=.type "enumerate",data:=.fields #[.none,.bool false,.ref s.heap.objs.size,rawInt 0,.none,.none] } }):=
 .of_wp fun j w A R s h=>by
  obtain⟨k,g,d,m,os⟩:=s;obtain⟨b,h⟩:=h;have i:=sub_enumerate;have f:Heap.IsTuple (Shared.heap ⟨k,g,d,m,os⟩) l a:=⟨_,b,rfl,n,rfl⟩
  wp_walk using wpAny_loadPart' b
  refine wpAny_stack_any fun st=>aJ ?_;split
  .rename_i c _ _ _ _ _;cases(c==Value.type "enumerate")
   .wp_walk using wpAny_loadPart' b,wpAny_pyIter_tuple f
    exact⟨_,rfl,h⟩
   .wp_walk using wpAny_loadPart' b,wpAny_pyIter_tuple f
    exact⟨_,rfl,h⟩
  .wp_walk using wpAny_loadPart' b,wpAny_pyIter_tuple f
   exact⟨_,rfl,h⟩
theorem RD{s:Shared}(q:s.heap.IsTuple l a)
  (h:∀f,IsEnum f (s.heap.objs.size+1) s.heap.objs.size 0 .none->f.IsTupleIter s.heap.objs.size l 0->(∀b o,s.heap.get? b=some o->f.get? b=some o)->Q (.ref (s.heap.objs.size+1)) { s with heap:=f }) :
  wpAny (model d w) A (call (.type "enumerate") [.ref l]) Q E s:=by
 obtain⟨⟨c,i,r,sl⟩,t,j,n,hd⟩:=q
 subst j hd;refine callType_new F.called_enumerate (by decide) (F.typeCall_enumerate_1 _) (F.newCall_enumerate_1 _) (fun obj=>F.args_object_init_2 obj _) F.entry_enumerate_new
  (RC l a n i sl) ⟨t,?_⟩
 generalize k:s.heap.push { cls:=.type "tuple_iterator",data:=.fields #[.ref l,.int 0 0] }=g;have m:g.objs.size=s.heap.objs.size+1:=by rw[<-k];exact Heap.size_push ..
 rw[m];have p:=by have:=Heap.get?_push_size g (o:={ cls:=.type "enumerate",data:=.fields #[.none,.bool false,.ref s.heap.objs.size,rawInt 0,.none,.none] }) rfl;rw[m]at this;exact this
 exact⟨⟨_,p,rfl⟩,h _ p ⟨_,aW _ (by rw[<-k];exact Heap.get?_push_size _ rfl),rfl,rfl⟩ fun b o x=>aW _ ((fun b o e=>by rw[<-k];exact aW _ e) b o x)⟩
def CN(K:Frag)(a:Addr):It:=
 ⟨fun i H=>∃b x,eL K H a b/\b[i]? = some x,fun i H v c=>∃T x,v=.ref T/\H T=none/\c = aL H T (.tup [.int i,x])/\∀b,eL K H a b->b[i]? = some x,fun i H=>∃b,eL K H a b/\b.length=i⟩
theorem RE{K}(a e it)(hne:e≠it):gn P w K (.Tuple elts kk tpos) (CN K a) [e,it] e (fun i h=>(∃old,IsEnum h e it i old)/\h.IsTupleIter it a i) where
 mem:=by simp
 obj:=fun i h st b hb=>by
  obtain⟨⟨old,he⟩,o,e1,c,d⟩:=st;rcases q0b.mp hb with rfl |hb
  .exact⟨_,he,fun v z=>by cases z⟩
  .obtain rfl:=q0i.mp hb;exact⟨o,e1,fun v z=>by rw[d]at z;cases z⟩
 keep:=fun i h h' st k=>⟨st.1.elim fun old he=>⟨old,k e (by simp) _ he⟩,(let⟨o,e',r⟩:=st.2;⟨o,k it (by simp) o e',r⟩)⟩
 item:=by
  intro X hP hw hK hc i pins s Y H E I hf st hg;subst hP hw hK;obtain⟨⟨old,he⟩,hit⟩:=st;obtain⟨xs,x,hq,hx⟩:=hg;obtain⟨its,rv,p,hz⟩:=I.tuple hq;obtain⟨u,hu,ru⟩:=rv.get hx;have hh:X.A.in1.handled=none:=I.ok.hd hc;have hae:a≠e:=fun q=>by obtain⟨o,e1,e2,_⟩:=p;rw[q]at e1;rw[he]at e1;cases e1;exact absurd (show Value.type "enumerate" = Value.type "tuple" from e2) (by decide)
  have hai:a≠it:=fun q=>by obtain⟨o,e1,e2,_⟩:=p;obtain⟨o',e1',c',_⟩:=hit;rw[q]at e1;rw[e1']at e1;cases e1;rw[c']at e2;exact absurd e2 (by decide)
  refine wpAny_pyNext_enum_itemD (sj hh it a hai its.toArray) he ⟨hit,p⟩ (by simpa using(q0a.mp hu).1) hne (by simp only[q0b,q0e,or_false,not_or];exact⟨hne,Ne.symm hae⟩) fun x' h' tk ex ho hi' hT hsz hk=>⟨_,rfl,?_⟩
  obtain rfl:x' = u:=by have:its.toArray[i]? = some x':=ex;rw[q0W,hu]at this;exact(q0r this).symm
  refine wpAny_letOwnedTupleGo_enum ho fun h2 he2 hs2=>?_;have it2:h2.IsTupleIter it a (i+1):=let⟨o,e1,r⟩:=hi'.1;⟨o,(hs2.2 it (Ne.symm hne)).trans e1,r⟩;have I1:Inv X pins Y (aL H s.heap.objs.size (.tup [.int i,x])) { s with heap:=h2,toks:=tk+1 }:=by
   refine I.turnedNew (ch:=[e,it]) hf (fun b ob hb q=>by simp only[q0b,q0e,or_false,not_or]at hb;exact(hs2.2 b hb.1).trans (hk b ob hb.1 hb.2 q)) (ba _) (fun b hb ob q=>?_) ?_
   .rcases q0b.mp hb with rfl |hb
    .exact⟨_,he2⟩
    .obtain rfl:=q0i.mp hb;obtain⟨o,e1,_⟩:=it2;exact⟨o,e1⟩
   .exact⟨by show 2<=sizeLine;decide,[.int i tk,x'],.cons ⟨_,rfl⟩ (.cons ru .nil),⟨_,(hs2.2 _ (q0V (bm he))).trans hT,rfl,_,rfl⟩⟩
  refine⟨.ref s.heap.objs.size,_,I1,rfl,⟨_,x,rfl,I.hok.fresh (ba _),rfl,fun ys hy=>by rw[I.tuple_inj hy hq];exact hx⟩,⟨⟨_,by simpa using he2⟩,it2⟩,fun b hb=>?_⟩;have hb':b<s.heap.objs.size:=by
   rcases q0b.mp hb with rfl |hb
   .exact bm he
   .obtain rfl:=q0i.mp hb;obtain⟨o,e1,_⟩:=hit;exact bm e1
  rw[bB (q0t hb')];exact(hf b hb).1
 done:=by
  intro X hP hw hK hc i pins s Y H E I hf st hg;subst hP hw hK;obtain⟨⟨old,he⟩,hit⟩:=st;obtain⟨xs,hq,rfl⟩:=hg;obtain⟨its,rv,p,hz⟩:=I.tuple hq;obtain⟨f0,f1,f2,f3,f4,f5⟩:=hf it (by simp);have hh:X.A.in1.handled=none:=I.ok.hd hc;have hai:a≠it:=fun q=>by obtain⟨o,e1,e2,_⟩:=p;obtain⟨o',e1',c',_⟩:=hit;rw[q]at e1;rw[e1']at e1;cases e1;rw[c']at e2;exact absurd e2 (by decide)
  refine wpAny_pyNext_enum_endD (sj hh it a hai its.toArray) he ⟨?_,p⟩ fun h' eb=>⟨rfl,I.turned (t':=s.toks) (fun b o hb e=>eb b o hb e) f0 f1 f3 f4 f5⟩
  have:its.toArray.size=xs.length:=by rw[q0m,rv.length]
  rw[this];exact hit
 self:=fun _ _ _ _ _ st h=>st.1.elim fun _ he=>wpAny_pyIter_enum he h
def RF(K:Frag)(c:TA):TI:=fun Y H R=>c Y H fun d b=>∃a e,d=[.ref a]/\eL K b a e/\R (CN K a) b
theorem RG(j:Gl X "enumerate")(k:X.mg "enumerate" = none)(m:PA X [a] g)(z:autoParam (starEach [a] X.env=[(false,eval a X.env)]) Zq._auto_1):PI X (.Tuple elts kk tpos) (.Call (.Name "enumerate" p) [a] [] pos) (RF X.K g):=by
 intro d s Y H R I h;refine Call_ (iz I j k (show bootBuiltins "enumerate" = some (.type "enumerate") by decide +kernel) (PyProof.Rows.callWith_type1 (aU (m pos d s Y H _ I h) fun A c e=>?_) z rfl));obtain⟨B,n,I1,o,r⟩:=e;obtain⟨l,C,rfl,t,q⟩:=r;obtain⟨u,rfl,ru⟩:=vals1 o;cases ru;obtain⟨v,D,p,E⟩:=I1.tuple t;refine RD p fun w i x y=>wpAny_pyIter_enum i (⟨c.heap.objs.size+1,[c.heap.objs.size+1,c.heap.objs.size],_,_,n,rfl,I1.kept y,RE l _ _ (Nat.succ_ne_self _),⟨⟨_,i⟩,x⟩,fun b f=>?_,q⟩);have hb':c.heap.objs.size<=b:=by
  rcases q0b.mp f with rfl |f
  .exact q1u _
  .obtain rfl:=q0i.mp f;exact ba _
 exact I1.fpOk hb' (I1.hok.fresh hb')
end L2
namespace L2.L3
open PySem PySem.Spec PyProof.Rows
def CO(t:dG):fe:=fun U Q=>t U fun d c=>∃b,d=[.tuple b]/\Q (numbered b) c
theorem RH(I:Gl X "enumerate")(J:X.mg "enumerate" = none)(w:DA X F [a] tA)(hs:autoParam (starEach [a] X.env=[(false,eval a X.env)]) Zq._auto_1):DI X F (.Tuple b G c) (.Call (.Name "enumerate" p) [a] [] pos) (CO tA):=
 ⟨fun _ _ _ k q=>w.mn _ _ _ (fun _ _ f=>by obtain⟨j,e,q⟩:=f;exact⟨j,e,k _ _ q⟩) q,(RG I J w.pa hs).imp fun Y H R g=>by obtain⟨U,O,st,q⟩:=g;exact 
  ⟨U,O,st,w.mn _ _ _ (fun ds U1 h vs L M z N Q=>by
   obtain⟨es,e,A⟩:=h;subst e;cases Q with
   |cons d r=>
    cases r;obtain⟨a,l,rfl,S,hd⟩:=d.tup_inv;obtain⟨m,n⟩:=ig S;refine⟨a,l,rfl,.inl m,A _ L M z N fun O' Z s ok=>?_⟩;have h2:Rd Z a (.tup l):=m.imp (fun e=>s.keep a _ n e) fun t=>by obtain⟨o,e⟩:=t;exact⟨o,s.keep a _ n e⟩
    refine⟨fun i d e=>?_,⟨l,.inl h2,by unfold numbered;rw[List.length_mapIdx,hd.length]⟩⟩;unfold numbered at e;rw[List.getElem?_mapIdx]at e;obtain⟨d0,e1,e2⟩:=q0p.mp e;subst e2;obtain⟨v,D,dv⟩:=(aG.mono s.hid hd).get e1;refine⟨⟨l,v,.inl h2,D⟩,fun x a0 u=>?_⟩;obtain⟨T,y,A,C,q3,q4⟩:=u;subst A q3;have:=q4 l (.inl h2);rw[D]at this;cases this;exact⟨bS C,mj C (ok.nofree T C) (.cons (.int _) (.cons dv .nil))⟩) q⟩⟩
@[simp] def wV:List PyData->Option (List PyData):=fun b=>match b with
 |[.tuple ds]=>some (numbered ds)
 |_=>none
theorem RI(h:DI X F c e (CO (wp E d))):FI X F E c e (ff wV d):=h.imp aC fun U Q q=>aC _ _ _ (fun j i f=>by
 obtain⟨y,b,g⟩:=cV f;unfold wV at b;split at b
 .cases b;exact⟨_,rfl,g⟩
 .cases b) (bK q)
end L2.L3
namespace L2.L3
open PySem
theorem RJ(c:mg "ANY_ZONE" = none)(e:mg "NO_DEEDS" = none)(H):GH mg H:=fun x d u a b=>by
 unfold glob at a;split at a
 .rename_i h;subst h;rw[c]at b;cases b
 .split at a
  .rename_i h;subst h;rw[e]at b;cases b
  .cases a
end L2.L3
namespace L2.L3
open PySem PySem.Spec PyProof.Rows
def DF(K:Frag)(x:Str)(st:Stmt):Prop:=∃(f:Addr) (b:Value) (c d:Option Addr) (g:Array (Option Value)) (kV e pm a h:Value),nsIn K mainGlobals x=some (some (.ref f))/\
 K.lookup f=some ⟨b,c,.func (fnOf x x (ka st) (iD st) (ek st) .none kV e pm d a h),g⟩/\codeIn K a x=true/\keepIn K (.ref f)=true
def MF(K:Frag)(C:Addr)(m q:Str)(st:Stmt):Prop:=∃(f:Addr) (b:Value) (c d:Option Addr) (g:Array (Option Value)) (kV e pm a h:Value),findIn K (.ref C) m=some (some (.ref f))/\PySem.W.isFn K (.ref f)=true/\
 K.lookup f=some ⟨b,c,.func (fnOf m q (ka st) (iD st) (ek st) .none kV e pm d a h),g⟩/\codeIn K a q=true/\keepIn K (.ref f)=true
theorem sQ{P:List Value->Prop}(h:∀a,P [a]):∀c,c.length=1->P c:=fun c e=>by
 cases c with
 |nil=>exact absurd e (by decide)
 |cons a c=>
  cases c with
  |nil=>exact h a
  |cons b c=>exact absurd (q1E e) (Nat.succ_ne_zero _)
theorem wW{P:List Value->Prop}(h:∀a b,P [a,b]):∀c,c.length=2->P c:=fun c e=>by
 cases c with
 |nil=>exact absurd e (by decide)
 |cons a c=>exact sQ (P:=fun l=>P (a::l)) (h a) c (q1E e)
theorem wX{P:List Value->Prop}(h:∀a b c,P [a,b,c]):∀d,d.length=3->P d:=fun d e=>by
 cases d with
 |nil=>exact absurd e (by decide)
 |cons a d=>exact wW (P:=fun l=>P (a::l)) (h a) d (q1E e)
theorem CP{P:List Value->Prop}(h:∀a b c d,P [a,b,c,d]):∀f,f.length=4->P f:=fun f e=>by
 cases f with
 |nil=>exact absurd e (by decide)
 |cons a f=>exact wX (P:=fun l=>P (a::l)) (h a) f (q1E e)
abbrev Bd(x q:Str)(st:Stmt)(ps:List Str):Prop:=∀(kV a pm:Value) (d:Option Addr) (b e:Value) (c:List Value),c.length=ps.length->bindArgs (fnOf x q (ka st) (iD st) (ek st) .none kV a pm d b e) ⟨c,[]⟩=pure (ps.zip c)
theorem DF.fd{K:Frag}{st:Stmt}(D:DF K x st)(X:K.In h)(G:h.Ns mainGlobals mg)(e:Bd x x st ps:=by first |exact fun _ _ _ _ _ _=>sQ fun _=>rfl |exact fun _ _ _ _ _ _=>wW fun _ _=>rfl |exact fun _ _ _ _ _ _=>wX fun _ _ _=>rfl |exact fun _ _ _ _ _ _=>CP fun _ _ _ _=>rfl |exact fun _ _ _ _ _ _=>b fun _ _ _ _ _=>rfl |exact fun _ _ _ _ _ _=>d fun _ _ _ _ _ _=>rfl):∃g fd,FD K mg x st ps g fd:=by obtain⟨f,_,_,_,_,_,_,_,_,_,a,l,c,k⟩:=D;exact⟨f,_,oP l c k,mg_of X G a,(oP l c k).binds e⟩
theorem MF.md{K:Frag}{st:Stmt}(D:MF K C m q st)(e:Bd m q st ps:=by first |exact fun _ _ _ _ _ _=>sQ fun _=>rfl |exact fun _ _ _ _ _ _=>wW fun _ _=>rfl |exact fun _ _ _ _ _ _=>wX fun _ _ _=>rfl |exact fun _ _ _ _ _ _=>CP fun _ _ _ _=>rfl |exact fun _ _ _ _ _ _=>b fun _ _ _ _ _=>rfl |exact fun _ _ _ _ _ _=>d fun _ _ _ _ _ _=>rfl):∃g fd,MD K C m q st ps g fd:=by obtain⟨f,_,_,_,_,_,_,_,_,_,a,i,l,c,k⟩:=D;exact⟨f,_,oP l c k,⟨a,i,k⟩,(oP l c k).binds e⟩
def sR(d k:PyData):XM aa:=lift (match gQ d k with
 |some (.list ds)=>some (.own false (.l ds))
 |_=>none)
def sS(n:XM PyData)(d:PyData):XM aa:=fun a=>(n a).bind (sR d)
def qa(m n:XM PyData):XM aa:=fun U=>(m U).bind (sS n)
theorem RK(B:FE X F E a s)(Z:FE X F E b j):FO X F E (.BinOp a .Mult b pos) (qa s j):=by
 refine⟨aC,(yM zI B.pe Z.pe).imp fun Y H Q h=>?_⟩;obtain⟨U,O,st,q⟩:=h;refine⟨U,O,st,aC _ _ _ (fun d C D v H1 G t I J=>?_) (bK q)⟩;refine⟨C,G,t,aC _ _ _ (fun k U2 L w M O2 i x N=>?_) (bK D)⟩;obtain⟨c,f,R⟩:=cV L;unfold gQ at f;cases d with
 |list ds=>
  cases k with
  |int n=>
   simp only at f
   by_cases g:(decide (-(2 ^ 63)<=n)&&decide (n<2 ^ 63)&&decide (ds.length * n.toNat<=sizeLine))=true
   .rw[if_pos g]at f;cases f;simp only[q0Q,decide_eq_true_eq]at g;obtain⟨l,r,rfl,S,hd⟩:=(DV.mono x.hid J).lst_inv;obtain rfl:=N.int_inv;refine⟨l,n,r,rfl,rfl,(cK S).1,g.1.1,g.1.2,by rw[hd.length];exact g.2,fun p y=>?_⟩;obtain⟨z,u,A⟩:=i.fresh (o:=.lst (List.replicate n.toNat r).flatten) y trivial;refine R _ _ z [p] ⟨u,⟨p,rfl,rfl,_,cG,?_⟩,i.new1 y⟩ (I.trans (x.trans A));have:∀m,aG (au z (aL M p (.lst (List.replicate n.toNat r).flatten))) (List.replicate m r).flatten (List.replicate m ds).flatten:=fun m=>by
     induction m with
     |zero=>exact .nil
     |succ m T=>rw[q0D,q0D,q0g,q0g];exact(aG.mono A.hid hd).append T
    exact this _
   .rw[if_neg g]at f;cases f
  |_=>cases f
 |_=>cases f
def CK(P:Program)(w:World)(K:Frag)(mg:Str->Option Value)(base:Heap)(k:Nat)(x:Str)(f:FM):Prop:=∃st a g fd,FD K mg x st a g fd/\bX P w K mg base (dR P w) k g fd a (fq K mg f)
def CM(P:Program)(w:World)(K:Frag)(mg:Str->Option Value)(base:Heap)(C:Addr)(k:Nat)(x:Str)(f:FM):Prop:=∃q st a g fd,MD K C x q st a g fd/\bX P w K mg base (dR P w) k g fd a (fq K mg f)
theorem cn{K:Frag}{st:Stmt}(N)(h:∃g fd,FD K mg x st ps g fd)(S:cm N ps (ek st))
  (c:∀{g b A a s H E F d},br k (A.deeper (envOfC x (ek st) s.heap.objs.size g b))->fH (iC (dR P w) P w K mg base N x (ek st) g b A a s H E) F d->
   jB (iC (dR P w) P w K mg base N x (ek st) g b A a s H E) F d (iD st) m) (e:autoParam (ps.length<=N.length) Zr._auto_1):CK P w K mg base (k+1) x (bz ps.length N.length m):=by
 obtain⟨g,fd,D⟩:=h;exact⟨_,_,g,fd,D,(vH D.fn S e (fun _ _ _ _ _ _ _ _ f i=>c f i))⟩
theorem gC{K:Frag}{st:Stmt}(N)(h:∃g fd,MD K C x q st ps g fd)(S:cm N ps (ek st))
  (c:∀{g b A a s H E F d},br k (A.deeper (envOfC q (ek st) s.heap.objs.size g b))->fH (iC (dR P w) P w K mg base N q (ek st) g b A a s H E) F d->
   jB (iC (dR P w) P w K mg base N q (ek st) g b A a s H E) F d (iD st) m) (e:autoParam (ps.length<=N.length) Zr._auto_1):CM P w K mg base C (k+1) x (bz ps.length N.length m):=by
 obtain⟨g,fd,D⟩:=h;exact⟨_,_,_,g,fd,D,(vH D.fn S e (fun _ _ _ _ _ _ _ _ f i=>c f i))⟩
theorem aZ{pos:Pos}{p:Pos}(d:fH X F E)(c:CK X.prog X.w X.K X.mg X.base k x f)(h:br j X.A)(l:FX X F E (e::es) mX)(n:autoParam (k<=j) Zr._auto_1)(o:autoParam (Gl X x) Zq._auto_1)(a:autoParam ((x==("__debug__":Str))=false) Zr._auto_1)
  (q:autoParam (starEach (e::es) X.env=(false,eval e X.env)::starEach es X.env) Zq._auto_1) (b:autoParam ((backTo pos (starEach es X.env)).any (·.1)=false) Zq._auto_1):FO X F E (.Call (.Name x p) (e::es) [] pos) (aO f mX):=by
 obtain⟨st,r,g,fd,D,G⟩:=c;exact nP d G D h l n o a q b
theorem gD{pos:Pos}{apos:Pos}{u}(l:fH X F E)(cl:dB X.K C)(c:CM X.prog X.w X.K X.mg X.base C k m f)(n:br j X.A)(o:PE X (.Name x p1) (bZ i))(r:FX X F E (e::es) mX)(s:autoParam (k<=j) Zr._auto_1)
  (a:autoParam (starEach (e::es) X.env=(false,eval e X.env)::starEach es X.env) Zq._auto_1) (d:autoParam ((backTo pos (starEach es X.env)).any (·.1)=false) Zq._auto_1)
  (t:autoParam (eval (.Call (.Attribute (.Name x p1) m apos) (e::es) [] pos) X.env=(do
   let h <-eval (.Name x p1) X.env
   standAt apos.atName
   let(f,first) <-holding [h] (getMethod h m u)
   callWith pos f first (backTo pos (starEach (e::es) X.env)) (backToKw pos (keywordEach [] X.env)))) Zq._auto_1) :
  FO X F E (.Call (.Attribute (.Name x p1) m apos) (e::es) [] pos) (cB C i m f mX):=by
 obtain⟨q,st,v,g,fd,D,G⟩:=c;exact PX l cl D.mt G (n.mono s) D.b o r a d t
theorem oa{pos:Pos}{apos:Pos}{r}(d:fH X F E)(cl:dB X.K C)(c:CM X.prog X.w X.K X.mg X.base C k m f)(h:br j X.A)(l:PE X (.Name x p1) (bZ i))(n:autoParam (k<=j) Zr._auto_1)
  (o:autoParam (eval (.Call (.Attribute (.Name x p1) m apos) [] [] pos) X.env=(do
   let a <-eval (.Name x p1) X.env
   standAt apos.atName
   let(f,first) <-holding [a] (getMethod a m r)
   callWith pos f first (backTo pos (starEach [] X.env)) (backToKw pos (keywordEach [] X.env)))) Zq._auto_1) :
  FO X F E (.Call (.Attribute (.Name x p1) m apos) [] [] pos) (df C i m f):=by
 obtain⟨q,st,s,g,fd,D,G⟩:=c;exact PY d cl D.mt G (h.mono n) D.b l o
theorem CQ{l:List Str}(h:decide l.Nodup=true):l.Nodup:=of_decide_eq_true h
theorem cp{X}{F}{x}{pos}(i)(a:decide X.N.Nodup=true:=by kernel_rfl)(b:autoParam (X.N[i]? = some x) Zq._auto_1)(c:Loc X.env.scope x:=by first |exact Or.inl rfl |exact Or.inr rfl)(d:X.fn x=true\/X.env.scope.names.lookup x=some .local:=by first |exact .inl rfl |exact .inr rfl |assumption):FG X F (.Name x pos) (al i):=QR i (CQ a) b c d
noncomputable def lC(U:aj)(j:Nat):Option Int:=match U[j]? with
 |some (some (.dat (.int z)))=>some z
 |_=>none
theorem CS(h:lC U j=some z):U[j]? = some (some (.dat (.int z))):=by
 unfold lC at h;split at h
 .rename_i e;cases h;exact e
 .cases h
noncomputable def lD(U:aj)(i:Nat):Option (Bool×List PyData):=match U[i]? with
 |some (some (.own io (.l ds)))=>some (io,ds)
 |_=>none
theorem CT(h:lD U i=some (io,a)):U[i]? = some (some (.own io (.l a))):=by
 unfold lD at h;split at h
 .rename_i e;cases h;exact e
 .cases h
def iM(i j:Nat):XM PyData:=fun U=>match lD U i,lC U j with
 |some (_,ds),some z=>lift (bL ds z) U
 |_,_=>.bad
theorem wY(s:PE X (.Name x p1) (bZ i))(c:PE X (.Name y p2) (bZ j))(L:nh (.Name y p2):=by intro _ _;rfl):FE X F E (.Subscript (.Name x p1) (.Name y p2) pos) (iM i j):=
 ⟨aC,(rm rn s c L).imp fun Y H Q b=>by
  obtain⟨U,O,st,q⟩:=b;unfold wp iM at q;cases h0:lD U i with
  |none=>rw[h0]at q;exact q.elim
  |some t=>
   obtain⟨io,ds⟩:=t;cases h1:lC U j with
   |none=>rw[h0,h1]at q;exact q.elim
   |some z=>
    rw[h0,h1]at q;obtain⟨d,u,A⟩:=cV q;obtain⟨a,M,h,⟨_,B,D,r⟩,_,_⟩:=st.box (CT h0);obtain⟨w,G,c⟩:=vu r u;obtain⟨v,I,J⟩:=st.dat (CS h1);obtain rfl:=J.int_inv;exact⟨_,h,_,I,a,B,z,w,rfl,rfl,.of D,G,A w H O st .refl c⟩⟩
def sT(i j:Nat)(v:PyData):SM:=fun U=>match lD U i,lC U j with
 |some (io,ds),some z=>(match cT ds.length z with
  |some n=>.nx (U.set i (some (.own io (.l (ds.set n v)))))
  |none=>.bad)
 |_,_=>.bad
def og(i j:Nat)(m:XM PyData):SM:=fun U=>eQ (m U) (sT i j)
theorem RL{pos:Pos}(Z:PE X (.Name x p1) (bZ i))(hw:PE X (.Name y p2) (bZ j))(he:FE X F E e m)
  (hs:autoParam (swapsWithSole [.Subscript (.Name x p1) (.Name y p2) pos'] e pos.line X.env=pure false) Zq._auto_1) (w:autoParam (swappedStores [.Subscript (.Name x p1) (.Name y p2) pos'] e X.env=pure none) Zq._auto_1)
  (r:autoParam ((assignEach [.Subscript (.Name x p1) (.Name y p2) pos'] X.env).map (·.2)=[assign (.Subscript (.Name x p1) (.Name y p2) pos') X.env]) Zq._auto_1)
  (hq:autoParam (∀v,assign (.Subscript (.Name x p1) (.Name y p2) pos') X.env v=(do
   let s <-holding [v] (eval (.Name x p1) X.env);let A <-holding [v,s] (eval (.Name y p2) X.env)
   standAt pos'
   holding [v,s,A] (setItem s A v)
   release [v,s,A] [])) Zs._auto_1) :
  FS X F E (.Assign [.Subscript (.Name x p1) (.Name y p2) pos'] e pos) (og i j m):=
 (yJ he.pe (yI Z hw zr hq) hs w r).imp fun D Y H zz=>by
 obtain⟨U,O,DD,st,q,fD⟩:=zz;exact⟨U,O,st,aC _ _ _ (fun v T b B I O1 d s1 d1=>by
  unfold wpS sT at b;cases h0:lD T i with
  |none=>rw[h0]at b;exact b.elim
  |some p0=>
   obtain⟨io,ds⟩:=p0;cases r:lC T j with
   |none=>rw[h0,r]at b;exact b.elim
   |some z=>
    rw[h0,r]at b;simp only at b;cases J:cT ds.length z with
    |none=>rw[J]at b;exact b.elim
    |some n=>
     rw[J]at b;obtain⟨a,fp,L,⟨M,t,hH,h⟩,a0,up⟩:=d.box (CT h0);subst M;obtain⟨u,hj,dv⟩:=d.dat (CS r);obtain rfl:=dv.int_inv;obtain⟨O2,N,s2,_⟩:=up (aL I a (.lst (t.set n B))) (.l (ds.set n v)) [a] (fun c o Q e=>by rw[bB (fun z=>Q (by simp[z]))];exact e) (by simp) (fun c Q=>.inl Q) (fun G O' R eG a1=>by
      subst eG;have S:=R.hid;exact⟨S,rfl,t.set n B,cG,wC (DV.mono S d1) n (aG.mono S h)⟩)
     exact⟨_,L,_,hj,a,t,z,n,rfl,rfl,hH,by rw[h.length];exact J,fD.nx _ _ _ _ N (s1.trans s2) b⟩) (gU q)⟩
end L2.L3
namespace L2.TS
open PySem PyProof.Rows
def kC(wf:List Int->Str)(h:Heap)(v:Value):Prop:=∃(a:Addr) (b:Array Value) (d:List Value) (c:List Int) (t:Tok),v=.ref a/\IsTup h a b/\b.toList=d++[.str (wf c) t]/\IntsAre d c/\c.length=3
theorem kC.rnk(t:kC wf h v):∃(a:Addr) (b:Array Value) (d:List Value) (c:List Int) (t:Tok),v=.ref a/\IsTup h a b/\b.toList=d++[.str (wf c) t]/\IntsAre d c/\c.length=3/\gY h v=c++[0]:=by obtain⟨a,b,d,c,t,rfl,e,f,g,i⟩:=t;refine⟨a,b,d,c,t,rfl,e,f,g,i,?_⟩;obtain⟨o,j,l,n,k⟩:=e;unfold gY;simp only[j,k,f,q1P,g.nums];rfl
theorem kC.mono(k:∀b o,h.get? b=some o->d.get? b=some o)(t:kC wf h v):kC wf d v:=by obtain⟨a,c,f,ns,t,e,⟨o,g,i⟩,j,l⟩:=t;exact⟨a,c,f,ns,t,e,⟨o,k _ _ g,i⟩,j,l⟩
theorem RM:∀{j f d a} i,IntsAre j d->IntsAre f a->d.length=a.length->(d=a->x=y)->Q (HT.lexLt (d++[0]) (a++[0])) s->W.KatLex prog w A b false Q ((j++[Value.str x t]).zip (f++[Value.str y u])) i s:=by
 intro j f d a i h
 induction h generalizing f a i with
 |nil=>
  intro g c k q;cases g with
  |cons m t h=>cases c
  |nil=>
  refine W.kat_cons (wpAny_eqBool_str (W.kat_go (fun e=>W.kat_yes (W.kat_nil ?_)) fun e=>?_))
  .have:HT.lexLt ([]++[0]) ([]++[0])=false:=rfl;rw[this]at q;exact q
  .rw[decide_eq_true (k rfl)]at e;cases e
 |cons n t h o=>
  intro g c k q;cases g with
  |nil=>cases c
  |cons m u p=>
  rw[q0B,q0B,q1G];refine W.kat_cons (wpAny_eqBool_int ?_);rw[q0B,q0B,HT.lexLt_cons]at q;simp only[q0o,Nat.add_right_cancel_iff]at c;refine W.kat_go (fun e=>W.kat_yes ?_) fun e=>W.kat_no ?_
  .have l:=by simpa using e
   rw[if_pos l]at q;exact o (i+1) p c (fun z=>k (by rw[l,z])) q
  .rw[if_neg (by simpa using e)]at q;cases b&&i==0 with
   |true=>exact oneLt_int q
   |false=>exact W.kat_one _ _ (lt_int q)
theorem CU:∀{vs},(∀v∈vs,kC wf h v)->∃fs,W.KatTups h vs fs/\fs.length=vs.length/\∀f∈fs,∃n t,f=Value.int n t
 |[],_=>⟨[],.nil,rfl,fun _ h=>by cases h⟩
 |v::vs,d=>by
  obtain⟨fs,h1,h2,h3⟩:=CU fun u e=>d u (bt _ e);obtain⟨a,b,x,ns,t,rfl,⟨o,g,i,n,j⟩,k,l,p⟩:=d v q0f;obtain⟨m,t',r,q⟩:∃m t r,b.toList=Value.int m t::r:=by
   rw[k];cases l with
   |nil=>cases p
   |cons n t h=>exact⟨n,t,_,rfl⟩
  refine⟨.int m t'::fs,.cons g i j (by rw[dg,q];rfl) h1,by simp[h2],fun f c=>?_⟩;rcases q0b.mp c with rfl |c
  .exact⟨m,t',rfl⟩
  .exact h3 f c
theorem RN(hv:∀v∈vs,kC wf h0 v):sP prog w h0 vs (gY h0) (tuples' true) where
 kind:=fun A E s Q kp h2 q=>by obtain⟨fs,h1,h3,h4⟩:=CU fun v hv'=>(hv v hv').mono kp;refine W.kat_kind (T:=.type "int") h1 (by lia) (fun f hf=>?_) (by decide) q;obtain⟨n,t,rfl⟩:=h4 f hf;exact .now
 lt:=fun A E s Q x y kp hx hy q=>by
  obtain⟨a,its,us,ns,t,rfl,⟨o,e1,e2,k,e3⟩,t2,t3,t4,r1⟩:=(hv x hx).rnk;obtain⟨b,jts,us',ms,t',rfl,⟨o',e1',e2',k',e3'⟩,t2',t3',t4',r2⟩:=(hv y hy).rnk;rw[r1,r2]at q;refine W.kat_lt (kp _ _ e1) e3 (kp _ _ e1') e3' ?_;have g:=RM (prog:=prog) (w:=w) (A:=A) (s:=s) (b:=true) (Q:=Q) (x:=wf ns) (t:=t) (u:=t') 0 t3 t3' (by lia) (fun z=>by rw[z]) q;rw[<-t2,<-t2']at g;have l1:its.size=its.toList.length:=by simp
  have l2:jts.size=jts.toList.length:=by simp
  have k1:=congrArg List.length t3.nums;have k2:=congrArg List.length t3'.nums;simp only[q0h]at k1 k2;have el:decide (its.size<jts.size)=false:=decide_eq_false (by rw[l1,l2,t2,t2',q0q,q0q];simp only[q0o];lia);rw[<-el]at g;simpa using g
def RowW(K:Frag)(H:Hp)(wf:List Int->Str)(v:V)(r:List Int):Prop:=∃a b,v=.ref a/\eL K H a (b.map V.int++[V.str (wf b)])/\b.length=3/\r=b++[0]
def rSortedW(K:Frag):List V->Hp->VK->Prop:=fun c H Q=>∃p a rows wf,c=[.ref p]/\cZ K H p a/\Paired (RowW K H wf) a rows/\
 ∀(l:Addr) (b:List (V×List Int)),H l=none->b.Perm (a.zip rows)->b.map (·.2)=sortR rows->Q (.ref l) (aL H l (.lst (b.map (·.1))))
theorem RO:∀{a b},bi (a.map V.int++[V.str x]) b->∃c t,b=c++[.str x t]/\IntsAre c a:=by
 intro a
 induction a with
 |nil=>
  intro b h;cases h with
  |cons r t=>
  cases t;obtain⟨t,rfl⟩:=r;exact⟨[],t,rfl,.nil⟩
 |cons n a e=>
  intro b h;cases h with
  |cons r t=>
  obtain⟨d,rfl⟩:=r;obtain⟨c,t',rfl,h⟩:=e t;exact⟨.int n d::c,t',rfl,.cons n d h⟩
theorem call_sortedW:ie X (.builtin "sorted") (rSortedW X.K):=by
 intro N s Y H xs us Q I r h;obtain⟨p,l,rows,wf,rfl,hq,hr,q⟩:=h;obtain⟨u,rfl,rx⟩:=vals1 r;cases rx;obtain⟨m,B,pl,hz⟩:=I.list hq;have O:=B.length;have key:∀(y:V) (v:Value) (row:List Int),bj y v->RowW X.K H wf y row->gY s.heap v=row/\kC wf s.heap v:=fun y v row rel rv=>by obtain⟨a,ns,rfl,sq,n3,rfl⟩:=rv;cases rel;obtain⟨a0,rj,S,_⟩:=I.tuple sq;obtain⟨i,t,rfl,T⟩:=RO rj;refine⟨?_,a,(i++[Value.str (wf ns) t]).toArray,i,ns,t,rfl,S,by simp,T,n3⟩;obtain⟨o',o,U,n',p3⟩:=S;unfold gY;simp only[o,p3];simp only[q1P,T.nums];rfl
 have all:∀{l:List V}{i:List Value}{rows:List (List Int)},bi l i->Paired (RowW X.K H wf) l rows->i.map (gY s.heap)=rows/\∀v∈i,kC wf s.heap v:=by
  intro l i rows h1
  induction h1 generalizing rows with
  |nil=>intro M;cases M;exact⟨rfl,fun _ h=>by cases h⟩
  |cons a _ ih=>
   intro M;cases M with
   |cons c d=>
    obtain⟨C,e2⟩:=ih d;have k:=key _ _ _ a c;refine⟨by rw[q0l,C,k.1],fun v D=>?_⟩;rcases q0b.mp D with rfl |D
    .exact k.2
    .exact e2 v D
 obtain⟨x,z⟩:=all B hr;refine Ry (rk:=gY s.heap) pl.isList (by lia) (Rw _) (RN z) fun j h' n o U kp e=>?_;obtain⟨b,Z,t2⟩:=Rz (f:=fun t:V×Value=>t.2) o (ts:=l.zip m) (by rw[List.map_snd_zip (by lia)]);have rel:∀t∈b,bj t.1 t.2:=fun t ht=>Paired.zipAll B t (Z.mem_iff.mp ht);have g:bi (b.map (·.1)) j:=by
  have:=Paired.ofZip (R:=bj) rel
  rwa [t2]at this
 have lz:(b.map (·.1)).length<=sizeLine:=by rw[g.length,o.length_eq];lia
 have J:(b.map fun t=>(t.1,gY s.heap t.2)).Perm (l.zip rows):=by
  have:=Z.map fun t:V×Value=>(t.1,gY s.heap t.2)
  refine this.trans (.of_eq ?_);rw[<-x,List.zip_map_right];rfl
 have L:(b.map fun t=>(t.1,gY s.heap t.2)).map (·.2)=sortR rows:=by
  have C:(b.map fun t=>(t.1,gY s.heap t.2)).map (·.2)=j.map (gY s.heap):=by rw[<-t2];simp
  rw[C];refine sortR_of ?_ ?_
  .rw[<-x];exact o.map _
  .rw[q2r];exact U
 have fin:=q (s.heap.objs.size+1) _ (I.hok.fresh (q1u _)) J L;have e3:(b.map fun t=>(t.1,gY s.heap t.2)).map (·.1)=b.map (·.1):=by simp
 rw[e3]at fin;exact⟨.ref (s.heap.objs.size+1),_,I.laid (t':=s.toks) kp (q1u _) (show cI X.prog X.w _ h' _ (.lst (b.map (·.1))) from⟨lz,j,n,g,e⟩),rfl,fin⟩
end L2.TS
namespace L2.L3
open PySem PySem.Spec PyProof.Rows
abbrev gE:=List Int×Str
noncomputable abbrev cE(r:gE):PyData:=.tuple (r.1.map PyData.int++[.str r.2])
open Classical in
def oh(a:List PyData):Option (List gE):=if h:∃l:List gE,a=l.map cE/\∀r∈l,r.1.length=3 then some h.choose else none
noncomputable def eS(l:List gE)(a:List Int):Str:=(l.lookup a).getD ""
def qb(b:List PyData):Option (List PyData):=(oh b).bind fun l=>if (l.map (·.1)).Nodup then some ((TS.sortR (l.map (·.1))).map fun a=>cE (a,eS l a)) else none
def qc:List PyData->Option PyData:=fun a=>match a with
 |[.list ds]=>(qb ds).map PyData.list
 |_=>none
def CV:DN:=fun a Q=>∃d,qc a=some d/\Q d
theorem RP(h:oh a=some l):a=l.map cE/\∀r∈l,r.1.length=3:=by
 unfold oh at h
 by_cases e:∃l:List gE,a=l.map cE/\∀r∈l,r.1.length=3
 .rw[dif_pos e]at h;cases h;exact e.choose_spec
 .rw[dif_neg e]at h;cases h
theorem RQ:∀{a b:List Int},a.map PyData.int=b.map PyData.int->a=b:=fun h=>List.map_inj_right (fun _ _ e=>PyData.int.inj e) |>.mp h
theorem RS(h:cE a=cE b):a=b:=by obtain⟨c,h2⟩:=List.append_inj' (PyData.tuple.inj h) rfl;obtain⟨d,e⟩:=a;obtain⟨f,g⟩:=b;cases RQ c;cases h2;rfl
theorem RT(h:∀r∈L,r.1.length=3):oh (L.map cE)=some L:=by
 unfold oh;have e:∃l:List gE,L.map cE=l.map cE/\∀r∈l,r.1.length=3:=⟨L,rfl,h⟩
 rw[dif_pos e];exact congrArg some ((List.map_inj_right fun _ _=>RS).mp e.choose_spec.1).symm
theorem CW(a:(l.map (·.1)).Nodup)(h:r∈l):eS l r.1=r.2:=by
 unfold eS
 induction l with
 |nil=>cases h
 |cons x l b=>
  rw[q0l,q0I]at a;obtain⟨c,d⟩:=x;rcases q0b.mp h with rfl |h
  .simp
  .have ne:(r.1==c)=false:=by rw[beq_eq_false_iff_ne];intro z;exact a.1 (by rw[<-z];exact q04.mpr ⟨r,h,rfl⟩)
   rw[q0s,ne];exact b a.2 h
theorem RU(h:∀r∈L,r.length=3):TS.sortR (L.map fun r=>r++[0])=(TS.sortR L).map fun r=>r++[0]:=by
 refine(TS.sortR_of ((TS.sortR_perm L).map _) ?_).symm;rw[q2r];refine q2s (fun {x y} e f d=>?_) (q1O TS.lexLe_tr TS.lexLe_tt _);have g:=h x ((TS.sortR_perm L).mem_iff.mp e);have i:=h y ((TS.sortR_perm L).mem_iff.mp f);have go:∀(x y:List Int),x.length=y.length->HT.lexLt (x++[0]) (y++[0])=HT.lexLt x y:=fun x=>by
  induction x with
  |nil=>intro y c;cases y with
   |nil=>rfl
   |cons _ _=>cases c
  |cons a x j=>intro y c;cases y with
   |nil=>cases c
   |cons b y=>rw[q0B,q0B,HT.lexLt_cons,HT.lexLt_cons,j y (by simpa using c)]
 unfold TS.lexLe at d ⊢;rw[go _ _ (by lia)];exact d
theorem RV{K}:iY (TS.rSortedW K) CV where
 mn:=fun _ _ _ k zq1a=>by obtain⟨d,e,q⟩:=zq1a;exact⟨d,e,k _ q⟩
 ok:=fun O H vs xs Q hO hd q=>by
  obtain⟨d,e,q⟩:=q;obtain⟨ds,rfl⟩:∃ds,xs=[.list ds]:=by
   unfold qc at e;split at e
   .exact⟨_,rfl⟩
   .cases e
  obtain⟨x,rfl,h1⟩:=gx hd;obtain⟨a,ys,rfl,ha,hy⟩:=h1.lst_inv;obtain⟨es,e1,e2⟩:=q0p.mp e;unfold qb at e1;obtain⟨l,e3,e4⟩:=q1j.mp e1;split at e4
  .rename_i nd;cases e4;obtain⟨e5,l3⟩:=RP e3;have e6:ds=(l.map (·.1++[0])).map fun r=>cE (r.dropLast,eS l r.dropLast):=by rw[e5,q0T];refine q1o fun r hr=>?_;show cE r=cE ((r.1++[0]).dropLast,eS l (r.1++[0]).dropLast);rw[q17,CW nd hr]
   have pr:=RA (by rw[<-e6];exact hy);have pr2:=by
    have:∀{ys:List V}{rs:List (List Int)},(∀r∈rs,r∈l.map (·.1++[0]))->Paired (fun y r=>DV (au O H) y (cE (r.dropLast,eS l r.dropLast))) ys rs->Paired (TS.RowW K H (eS l)) ys rs:=by
     intro ys rs hs p
     induction p with
     |nil=>exact .nil
     |cons c _ ih=>
      refine .cons ?_ (ih fun r hr=>hs r (bt _ hr));obtain⟨z,hz,ez⟩:=q04.mp (hs _ q0f);obtain⟨b,ws,rfl,hb,hw⟩:=c.tup_inv;rw[<-ez,q17]at hw;have ew:ws=z.1.map V.int++[V.str (eS l z.1)]:=by
       clear hb;generalize z.1=ns at hw ⊢;generalize eS l ns=x at hw
       induction ns generalizing ws with
       |nil=>cases hw with |cons h1 h2=>cases h2;rw[h1.str_inv];rfl
       |cons n ns ih2=>cases hw with |cons h1 h2=>rw[h1.int_inv,ih2 _ h2];rfl
      rw[ew]at hb;exact⟨b,z.1,rfl,.inl (ig hb).1,l3 z hz,ez.symm⟩
    exact this (fun _ h=>h) pr
   refine⟨a,ys,_,eS l,rfl,.of (cK ha).1,pr2,fun p zs hl z1 z2=>?_⟩;subst e2;refine q _ _ (bS hl) (jz hl (hO p hl) ?_);have:=RB (TS.Paired.ofZip (R:=fun y (r:List Int)=>DV (au O H) y (cE (r.dropLast,eS l r.dropLast))) (fun z hz=>TS.Paired.zipAll pr z (z1.mem_iff.mp hz)));have ez:(l.map fun r=>r.1++[0])=(l.map (·.1)).map fun r=>r++[0]:=by rw[q0T];rfl
   rw[z2,ez,RU (fun r hr=>by obtain⟨z,hz,rfl⟩:=q04.mp hr;exact l3 z hz),q0T]at this;have ef:(TS.sortR (l.map (·.1))).map ((fun r:List Int=>cE (r.dropLast,eS l r.dropLast))∘fun r:List Int=>r++[0])=(TS.sortR (l.map (·.1))).map fun ns=>cE (ns,eS l ns):=by refine q1o fun r _=>?_;simp only[Function.comp,q17]
   rw[ef]at this;exact this
  .cases e4
theorem RW:FN CV qc:=fun a d Q e q=>⟨d,e,q⟩
theorem RX{K}(h:fF (au O H) H b i j):∀{e c},aG (au O H) e c->aS K H O (e++[.ref b]) (c.map .dat++[.own true i]) ((c.map fun _=>[])++[j]):=by
 intro e c
 induction c generalizing e with
 |nil=>intro g;cases g;exact .own h .nil
 |cons d c l=>intro g;cases g with
  |cons a t=>exact .dat a (l t)
theorem CY:∀{e}{l:List PyData}{bs}{a},e.length=l.length->aY H O (e++[.ref b]) (l.map aa.dat++[.own true m]) bs a->∃i n,bs=[i]/\a=[n]
 |[],[],_,_,_,h=>by
  cases h with
  |skip j _=>exact absurd rfl (j _ _)
  |own _ t=>cases t;exact⟨_,_,rfl,rfl⟩
 |[],_::_,_,_,c,_=>by cases c
 |_::_,[],_,_,c,_=>by cases c
 |v::e,d::l,_,_,c,h=>by
  cases h with
  |skip _ t=>exact CY (by simpa using c) t
noncomputable def kD(f:FM)(d:List PyData)(c:aa):XM aa:=fun U=>match c with
 |.own false b=>(match f (d.map .dat++[.own true b]) with
  |.rt a [_]=>.ok a U
  |_=>.bad)
 |_=>.bad
theorem RY{Y:St}(hx:fH X F E)(G:bX X.prog X.w X.K X.mg X.base (dR X.prog X.w) k g fd ps (fq X.K X.mg f))(hr:br k X.A)(hb:iB X.K fd ps [])
  (I:Inv X m Y H s) (r:bi (vs++[v0]) D) (res:gw X.K F H Y U O v0 c0 i) (dv:aG (au O H) vs S) (q:wp E (kD f S c0) U Q0) (hQ:∀c t,Q0 c t->∀v n J M,gw X.K F n Y t J v c M->aQ O H J n->Q v n) :
  wpAny (model X.prog X.w) X.A (call (.ref g) D) (EP X m Y Q) X.xe s:=by
 unfold wp kD at q;split at q
 .rename_i c' t l;split at l
  .rename_i b;split at l
   .rename_i c1 bo hf;cases l;obtain⟨a,rfl,bx⟩:=res.at_;have st:=res.st;have nw:=res.new;obtain⟨W,y,T⟩:=id st;have Z:O.Nodup:=by rw[T];exact y.nd
    have a0:∀c∈i,c∈O:=fun c j=>by rw[T];exact bp _ (bC _ j)
    have a1:i.Nodup:=by have:(W.flatten++(i++F.O₀)).Nodup:=y.nd;exact(q0j.mp (q0j.mp this).2.1).1
    obtain⟨N,hN⟩:∃N,N=O.filter fun c=>decide (c∉i):=⟨_,rfl⟩
    have mN:∀c,c∈N↔c∈O/\c∉i:=fun c=>by rw[hN,q2j,decide_eq_true_iff]
    have L:((S.map fun _=>([]:List Addr))++[i]).flatten=i:=by rw[q1B,rZ];simp
    have sub:∀c∈i++N,c∈O:=fun c j=>(q0d.mp j).elim (fun z=>a0 c z) fun z=>((mN c).mp z).1;let EX:XK:=fun C _ n=>∃c t J,X.mg c=some C/\aD X.K F n Y t J/\E c t;have sp:fq X.K X.mg f (vs++[.ref a]) H Q EX:=by
     refine⟨GF.at (F:=F.plus i) hx.1 st,S.map .dat++[.own true b],(S.map fun _=>[])++[i],N,?_,?_,?_,?_⟩
     .rw[L];exact RX (fF.keep bx (fun _ _=>rfl) (rA sub)) (aG.mono (rA sub) dv)
     .rw[L];refine q0j.mpr ⟨a1,by rw[hN];exact Z.sublist List.filter_sublist,fun c j d hd z=>?_⟩;subst z;exact((mN c).mp hd).2 j
     .rw[L];exact fun c j=>(fun c j=>y.live c (by rw[T]at j;exact j)) c (sub c j)
     .rw[hf];simp only;intro v n M a9 R a3 B;rw[L]at B;obtain⟨b0,a4,_,rfl⟩:=CY dv.length a3;simp only[q0g,List.flatten_nil,q0F]at B R;have a5:=B.nd;obtain⟨m1,m2,m3⟩:=q0j.mp a5;obtain⟨m4,m5,m6⟩:=q0j.mp m1;obtain⟨O3,t1,t2,t3,t4,t5⟩:=st.swap (H':=n) (L':=M) (fun c o j ec=>B.keep c o j ec) m5 (fun c j=>B.new c (bp _ j)) nw (fun c j=>B.live c (bp _ j));have a6:∀c∈O3,c∈a4++M++N:=fun c j=>by
       rcases t4 c j with z |⟨z1,z2⟩
       .exact bC _ (bp _ z)
       .exact bp _ ((mN c).mpr ⟨z1,z2⟩)
      have a7:∀c,(c∈i\/H c=none)->c∈F.A₀\/F.H₀ c=none:=fun c h=>by
       rcases h with z |z
       .exact nw c z
       .by_cases hA:c∈F.A₀
        .exact .inl hA
        .refine .inr ?_;cases e:F.H₀ c with
         |none=>rfl
         |some o=>have:=y.kept c o hA e;rw[z]at this;cases this
      exact hQ _ _ q v n O3 M ⟨t1,R.keep (iZ a6) (fun _ _=>rfl) (fun _ _ _ e=>e),fun c j=>a7 c (B.new c (bp _ j))⟩ t2
    have hl:(D++[]).length=ps.length:=by rw[q0F,<-r.length];exact G.len _ _ _ _ sp
    refine wpAny_call (codeAny_mono (G.run X.A X.stack s H ⟨D,[]⟩ D (vs++[.ref a]) Q EX hr I.env0 (by have:=hb s D I.kIn hl;rw[q0F]at this;exact this) r sp) fun r s' l=>?_);cases r with
    |error e=>obtain⟨a,C,n,e1,I',cv,ex,c,t,J,hm,a8,hE⟩:=I.flies l;exact hx.2 m Y n s' e c t J ⟨I',a,C,s.heap,_,e1,cv,ex,hm⟩ a8 hE
    |ok L=>
     cases L with
     |ret u=>exact I.after l
     |next=>exact False.elim l
     |brk=>exact False.elim l
     |cont=>exact False.elim l
   .cases l
  .cases l
 .rename_i c' t l;split at l
  .split at l<;>cases l
  .cases l
 .exact q.elim
def mJ(f:FM)(a b d:XM PyData)(n:XM aa):XM aa:=fun U=>(a U).bind fun e h=>(b h).bind fun i j=>(d j).bind fun l m=>(n m).bind fun c=>kD f [e,i,l] c
theorem RZ{pos:Pos}{p:Pos}(hx:fH X F E)(G:bX X.prog X.w X.K X.mg X.base (dR X.prog X.w) k g fd ps (fq X.K X.mg f))(hr:br k X.A)(hg:Gl X x)(hm:X.mg x=some (.ref g))(hk:keepIn X.K (.ref g)=true)(hb:iB X.K fd ps [])
  (h1:FE X F E e1 S) (h2:FE X F E e2 L) (h3:FE X F E e3 y) (h4:FO X F E e4 u) (T:autoParam ((x==("__debug__":Str))=false) Zr._auto_1)
  (Z:autoParam (starEach [e1,e2,e3,e4] X.env=(false,eval e1 X.env)::starEach [e2,e3,e4] X.env) Zq._auto_1) (s2:autoParam (starEach [e2,e3,e4] X.env=(false,eval e2 X.env)::starEach [e3,e4] X.env) Zq._auto_1) (s3:autoParam (starEach [e3,e4] X.env=(false,eval e3 X.env)::starEach [e4] X.env) Zq._auto_1) (s4:autoParam (starEach [e4] X.env=(false,eval e4 X.env)::starEach [] X.env) Zq._auto_1) (a0:autoParam ((backTo pos (starEach [e2,e3,e4] X.env)).any (·.1)=false) Zq._auto_1) :
  FO X F E (.Call (.Name x p) [e1,e2,e3,e4] [] pos) (mJ f S L y u):=by
 refine⟨aC,fun z s Y H Q I B=>?_⟩;obtain⟨U,O,st,q⟩:=B;refine wpAny_Call_Name_kw (qZ I hg hm ?_ T);have q1:=bK q;refine q1I I.ok.mod.kin hk (aU (eM h1.pe (eM h2.pe (eM h3.pe (eM h4.pe fS s4) s3) s2) Z pos z s Y H (fun vs C=>∃v1 l n v4 d b a c D o i,vs=[v1,l,n,v4]/\gw X.K F C Y D o v4 c i/\aQ O H o C/\aG (au o C) [v1,l,n] [d,b,a]/\wp E (kD f [d,b,a] c) D (fun c U'=>∀v J N i,gw X.K F J Y U' N v c i->aQ O H N J->Q v J)) I
  ⟨U,O,st,aC _ _ _ (fun d M q2 v1 H1 O1 a1 t1 a2=>⟨M,O1,a1,aC _ _ _ (fun b j q3 l H2 O2 a3 t2 a4=>⟨j,O2,a3,aC _ _ _ (fun a e q4 n H3 O3 a5 t3 a6=>⟨e,O3,a5,aC _ _ _ (fun c D q5 v4 C o i res R=>⟨v1,l,n,v4,d,b,a,c,D,o,i,rfl,res,t1.trans (t2.trans (t3.trans R)),.cons (DV.mono (t2.trans (t3.trans R)).hid a2) (.cons (DV.mono (t3.trans R).hid a4) (.cons (DV.mono R.hid a6) .nil)),q5⟩) (bK q4)⟩) (bK (U:=j) q3)⟩) (bK q2)⟩) q1⟩) fun us Z zz=>⟨by obtain⟨_,_,I1,_⟩:=zz;exact I1.kIn,?_⟩) Z a0
 obtain⟨vs,C,I1,r,v1,l,n,v4,d,b,a,c,D,o,i,rfl,res,t,dv,q5⟩:=zz;exact RY hx G hr hb I1 r res dv q5 fun c U' h v J N i res s2=>h v J N i res (t.trans s2)
def wZ(g:List PyData->PyData->Option PyData)(a:List PyData)(d:PyData):XM PyData:=fun U=>lift (g a d) U
def xa(g:List PyData->PyData->Option PyData)(m:XM PyData)(a:PyData):XM PyData:=fun U=>match a with
 |.list ds=>(m U).bind (wZ g ds)
 |_=>.bad
def xb(g:List PyData->PyData->Option PyData)(a m:XM PyData):XM PyData:=fun U=>(a U).bind (xa g m)
theorem Sc{apos:Pos}{cpos:Pos}{id}(slot:Slot "list" t id)(v:typeOf (.builtin id)=pure (.type "method_descriptor"))(N:uW X id r)
  (R:∀G l o p y d z H Q,H l=some (.lst o)->aG G o p->DV G y d->g p d=some z->(∀u,DV G u z->Q u H)->r (.ref l) [y] H Q)
  (h0:FE X F E e0 s) (S:FE X F E e m)
  (c:autoParam (attributeBase e0 t X.env (eval e0 X.env)=eval e0 X.env) Zq._auto_1)
  (h:autoParam (((backTo cpos (starEach [e] X.env)).all (fun x=>!x.1)&&(backToKw cpos (keywordEach [] X.env)).all (fun x=>x.1.isSome)&&decide (([e]:List Expr).length+([]:List Keyword).length+(if ([]:List Keyword).isEmpty then 0 else 1)<30))=true) Zq._auto_1)
  (f:autoParam ((apos.endLine==cpos.line)=true) Zq._auto_1) (M:autoParam (starEach [e] X.env=(false,eval e X.env)::starEach [] X.env) Zq._auto_1) (b:autoParam ((backTo cpos (starEach [] X.env)).any (·.1)=false) Zq._auto_1) :
  FE X F E (.Call (.Attribute e0 t apos) [e] [] cpos) (xb g s m):=
 ⟨aC,(uZ q1L slot v N h0.pe (eM S.pe fS M) c h f M b).imp fun Y H Q j=>by
  obtain⟨U,O,st,q⟩:=j;refine⟨U,O,st,aC _ _ _ (fun T I J v0 H1 Z A s1 n=>?_) (bK q)⟩;cases T with
  |list p=>obtain⟨a,o,rfl,ha,hx⟩:=n.lst_inv;refine⟨.inl ⟨rfl,o,.of (cK ha).1⟩,I,Z,A,aC _ _ _ (fun d U2 q2 w H2 O2 B L d1=>?_) (bK J)⟩;obtain⟨z,e1,q3⟩:=cV q2;obtain⟨a',a0,ea,C,D⟩:=(DV.mono L.hid n).lst_inv;cases ea;exact R _ _ _ _ _ _ _ _ _ (cK C).1 D d1 e1 fun u hu=>q3 u H2 O2 B (s1.trans L) hu
  |_=>exact J.elim⟩
def mK(i:Nat):XM aa:=fun U=>match rV U i with
 |some ds=>.ok (.own false (.l ds)) U
 |none=>.bad
theorem Sd{F:Fx}{E:Str->aj->Prop}{pos:Pos}{m}(n:Gl X "list")(r:X.mg "list" = none)(s:PE X (.Name x p1) (bZ i))
  (j:autoParam (starEach [.Name x p1] X.env=(false,eval (.Name x p1) X.env)::starEach [] X.env) Zq._auto_1) (c:autoParam ((backTo pos (starEach [] X.env)).any (·.1)=false) Zq._auto_1) :
  FO X F E (.Call (.Name "list" m) [.Name x p1] [] pos) (mK i):=
 ⟨aC,(uV zu n r (by decide +kernel) (eM s fS j) (by decide) (by decide) j c).imp fun Y H Q a=>by
  obtain⟨U,O,st,q⟩:=a;unfold wp mK at q;cases ho:rV U i with
  |none=>rw[ho]at q;exact q.elim
  |some ds=>
   rw[ho]at q;obtain⟨b,d,f,t,g⟩:=PJ st ho;refine⟨_,f,b,d,rfl,.inl (.of t),fun p k=>?_⟩;obtain⟨u,h,l⟩:=st.fresh (o:=.lst d) k trivial;exact q _ _ u [p] ⟨h,⟨p,rfl,rfl,d,cG,aG.mono l.hid g⟩,st.new1 k⟩ l⟩
theorem xc{pos:Pos}{s}(t:fH X F E)(G:bX X.prog X.w X.K X.mg X.base (dR X.prog X.w) k g fd n (fq X.K X.mg f))(D:FD X.K X.mg u body n g fd)(v:br m X.A)(L:FE X F E h o)(M:FE X F E d p)(N:FE X F E c q)(y:FO X F E a r)(z:autoParam (k<=m) Zr._auto_1)(B:autoParam (Gl X u) Zq._auto_1)(j:autoParam ((u==("__debug__":Str))=false) Zr._auto_1)
  (C:autoParam (starEach [h,d,c,a] X.env=(false,eval h X.env)::starEach [d,c,a] X.env) Zq._auto_1) (H:autoParam (starEach [d,c,a] X.env=(false,eval d X.env)::starEach [c,a] X.env) Zq._auto_1) (I:autoParam (starEach [c,a] X.env=(false,eval c X.env)::starEach [a] X.env) Zq._auto_1) (J:autoParam (starEach [a] X.env=(false,eval a X.env)::starEach [] X.env) Zq._auto_1) (l:autoParam ((backTo pos (starEach [d,c,a] X.env)).any (·.1)=false) Zq._auto_1) :
  FO X F E (.Call (.Name u s) [h,d,c,a] [] pos) (mJ f o p q r):=RZ t G (v.mono z) B D.mgf D.fn.kp D.b L M N y j C H I J l
end L2.L3
namespace Due
abbrev Sh:=List (Int×Int)
noncomputable def fj(a:Int):Sh->Int->Int
 |[],_=>a
 |(b,c)::r,m=>fj (if b<=m then c else a) r m
def cz(a:Int)(b:Sh)(m:Int):Int:=m+fj a b m
def fy:Int->Sh->Prop
 |_,[]=>True
 |lo,(b,_)::r=>lo<b/\fy b r
theorem xf:∀{d lo},fy lo d->m<=lo->fj a d m=a
 |[],_,_,_=>rfl
 |(b,c)::r,lo,⟨h1,h2⟩,e=>by unfold fj;rw[if_neg (by lia)];exact xf h2 (by lia)
noncomputable def eU(g:Int):Int->Int->Sh->Int
 |s,a,[]=>max s (g - a)
 |s,a,(b,c)::r=>if max s (g - a)<b then max s (g - a) else eU g b c r
theorem iN:∀{f s a},fy s f->s<=eU g s a f/\g<=cz a f (eU g s a f)/\∀m,s<=m->m<eU g s a f->cz a f m<g
 |[],s,a,_=>by unfold eU cz fj;refine⟨by lia,by lia,fun m k j=>?_⟩;lia
 | (b,c)::r,s,a,⟨k,j⟩=>by
  unfold eU;have d:∀m,m<b->cz a ((b,c)::r) m=m+a:=fun m i=>by unfold cz fj;rw[if_neg (by lia),xf j (by lia)]
  have h:∀m,b<=m->cz a ((b,c)::r) m=cz c r m:=fun m i=>by unfold cz;rw[fj,if_pos i]
  by_cases e:max s (g - a)<b
  .rw[if_pos e];refine⟨by lia,?_,fun m k j=>?_⟩
   .rw[d _ e];lia
   .rw[d _ (by lia)];lia
  .rw[if_neg e];obtain⟨l,n,o⟩:=iN (g:=g) (a:=c) j;refine⟨by lia,?_,fun m q p=>?_⟩
   .rw[h _ l];exact n
   .by_cases i:m<b
    .rw[d _ i];lia
    .rw[h _ (by lia)];exact o m (by lia) p
theorem Se(h:g<=b)(e:fy s d):eU g s a d<=eU b s a d:=by obtain⟨j,k,f⟩:=iN e;obtain⟨i,l,m⟩:=iN e;refine q2y.mp fun c=>?_;have:=f _ i c;lia
def sU(a:Int)(b:Sh):Prop:=(-12<=a/\a<=14)/\∀p∈b,-12<=p.2/\p.2<=14
theorem mL:∀{d a},sU a d->-12<=fj a d m/\fj a d m<=14
 |[],a,h=>h.1
 | (b,c)::r,a,h=>by
  unfold fj;refine mL ⟨?_,fun p e=>h.2 p (bt _ e)⟩;split
  .exact h.2 (b,c) q0f
  .exact h.1
noncomputable def bh(s a:Int):Sh->List (Int×Option Int×Int)
 |[]=>[(s,none,a)]
 |(b,c)::r=>(s,some b,a)::bh b c r
noncomputable def gF(m:Int):Option Int->Bool
 |none=>true
 |some e=>decide (m<e)
def oi(g:Int)(l:List (Int×Option Int×Int)):List Int:=(l.filter fun p=>gF (max p.1 (g - p.2.2)) p.2.1).map fun p=>max p.1 (g - p.2.2)
theorem CZ(g):∀d  s a,∃t,oi g (bh s a d)=eU g s a d::t
 |[],s,a=>⟨[],rfl⟩
 | (b,c)::r,s,a=>by
  obtain⟨t,e⟩:=CZ g r b c;unfold bh eU oi;rw[q10]
  by_cases h:max s (g - a)<b
  .rw[if_pos (by exact decide_eq_true h),if_pos h];exact⟨_,rfl⟩
  .rw[if_neg (by show ¬ decide (max s (g - a)<b)=true;simpa using h),if_neg h];exact⟨t,e⟩
def dU(a:Int)(b:Sh)(h:Int):Int:=-((h - cz a b 0) / 24)
theorem qd:cz a ss 0<=24 * dU a ss h+h/\24 * dU a ss h+h<cz a ss 0+24:=by unfold dU;lia
def cO(a:Int)(b:Sh)(h:Int)(c:Nat):Int:=eU ((dU a b h+c) * 24+h) 0 a b
inductive aF where
 |once (m:Int) |every (f s:Int) |daily (h:Int)
def bE(a:Int)(b:Sh):aF->Nat->Option Int
 |.once m,c=>if c=0 then some m else none
 |.every f s,c=>some (f+c * s)
 |.daily h,c=>some (cO a b h c)
theorem Sf(d:fy 0 b):0<=cO a b h c:=(iN d).1
theorem Sg(e:fy 0 b)(f:c<=d):cO a b h c<=cO a b h d:=Se (by lia) e
theorem Si{c:Nat}(e:fy 0 b)(d:sU a b):24 * (c:Int) - 26<=cO a b h c:=by obtain⟨f,i,_⟩:=iN (g:=(dU a b h+c) * 24+h) (a:=a) e;have:=qd (a:=a) (h:=h) (ss:=b);have j:=mL (m:=0) d;have k:=mL (m:=eU ((dU a b h+c) * 24+h) 0 a b) d;unfold cz at *;unfold cO;lia
structure du (a:Int) (ss:Sh):Prop where
 len:ss.length<=6
 rise:fy 0 ss
 ah:sU a ss
 top:∀p∈ss,p.1<=9999
def cP:aF->Prop
 |.once m=>0<=m/\m<=9999
 |.every f s=>(0<=f/\f<=9999)/\1<=s/\s<=999
 |.daily h=>0<=h/\h<=23
def cX(a:Int)(b:Sh)(p:aF)(c:Nat):Int:=(bE a b p c).getD 0
structure bd (a:Int) (ss:Sh) (p:aF) (last:Int) (n:Nat):Prop where
 le:n<=20000
 in_:∀c,c<n->∃v,bE a ss p c=some v/\v<=last
 out:bE a ss p n=none\/∃v,bE a ss p n=some v/\last<v
noncomputable def xg(a b c:Int):Nat:=(if a<b then(b - a - 1) / c+1 else 0).toNat
theorem eh{P:Nat->Prop}:∀N,P N->∃n,n<=N/\P n/\∀m,m<n->¬ P m
 |0,h=>⟨0,ba _,h,fun m a=>absurd a (q2e m)⟩
 |N+1,h=>by
  by_cases e:∃m,m<=N/\P m
  .obtain⟨m,a,pm⟩:=e;obtain⟨n,h1,h2,h3⟩:=eh m pm;exact⟨n,by lia,h2,h3⟩
  .exact⟨N+1,ba _,h,fun m a pm=>e ⟨m,by lia,pm⟩⟩
theorem Db(z:du a b)(e:last<=9999):∃n,bd a b (.daily h) last n:=by
 obtain⟨n,h1,h2,h3⟩:=eh (P:=fun c=>last<cO a b h c) 1000 (by
  have:=Si (h:=h) (c:=1000) z.rise z.ah;lia)
 refine⟨n,by lia,fun c d=>⟨_,rfl,?_⟩,.inr ⟨_,rfl,h2⟩⟩;have:=h3 c d;lia
theorem Dc(z:du a i)(ok:cP p)(h:c<=d)(b:bE a i p c=some v)(g:bE a i p d=some w):v<=w:=by
 cases p with
 |once m=>
  rw[bE]at b g
  by_cases e:c=0
  .by_cases j:d=0
   .rw[if_pos e]at b;rw[if_pos j]at g;cases b;cases g;exact q0U _
   .rw[if_neg j]at g;cases g
  .rw[if_neg e]at b;cases b
 |every f s=>rw[bE]at b g;cases b;cases g;have:=Int.mul_le_mul_of_nonneg_right (show(c:Int)<=d by lia) (show(0)<=s by have:=ok.2.1;lia);lia
 |daily k=>rw[bE]at b g;cases b;cases g;exact Sg z.rise h
theorem Dd(z:du a d)(ok:cP p)(b:bE a d p c=some v):0<=v:=by
 cases p with
 |once m=>
  rw[bE]at b
  by_cases e:c=0
  .rw[if_pos e]at b;cases b;exact ok.1
  .rw[if_neg e]at b;cases b
 |every f s=>rw[bE]at b;cases b;have:=Int.mul_nonneg (show(0:Int)<=c by lia) (show(0)<=s by have:=ok.2.1;lia);have:=ok.1.1;lia
 |daily g=>rw[bE]at b;cases b;exact Sf z.rise
theorem De(z:du a d)(ok:cP p)(g:last<=9999):∃n,bd a d p last n:=by
 cases p with
 |once m=>
  by_cases e:m<=last
  .refine⟨1,by lia,fun c b=>⟨m,by rw[bE,if_pos (by lia)],e⟩,.inl (by rw[bE,if_neg (by lia)])⟩
  .exact⟨0,by lia,fun c b=>absurd b (q2e c),.inr ⟨m,by rw[bE,if_pos rfl],by lia⟩⟩
 |every f s=>
  obtain⟨n,h1,h2,h3⟩:=eh (P:=fun(c:Nat)=>last<f+c * s) 10000 (by
   have:=ok.1.1;have:=q12 (ok.2.1) (show(0)<=((10000)) by lia);lia)
  exact⟨n,by lia,fun c b=>⟨_,rfl,q2y.mp (h3 c b)⟩,.inr ⟨_,rfl,h2⟩⟩
 |daily h=>exact Db z g
theorem mM(z:du a d)(ok:cP p)(u:bd a d p last n)(h:n<=c)(b:bE a d p c=some v):last<v:=by
 rcases u.out with e |⟨w,e,i⟩
 .cases p with
  |once m=>
   rw[bE]at e b
   by_cases g:n=0
   .rw[if_pos g]at e;cases e
   .rw[if_neg (by lia)]at b;cases b
  |every f s=>cases e
  |daily j=>cases e
 .have:=Dc z ok h e b;lia
theorem Sj(u:bd a o p last n)(m:bd k g l last i)(h:∀c v,v<=last->(bE a o p c=some v↔bE k g l c=some v)):n=i:=by
 rcases q2t n i with d |e |d
 .obtain⟨v,j,f⟩:=m.in_ n d;have b:=(h n v f).mpr j;rcases u.out with e |⟨w,e,q⟩
  .rw[e]at b;cases b
  .rw[e]at b;cases b;lia
 .exact e
 .obtain⟨v,j,f⟩:=u.in_ i d;have b:=(h i v f).mp j;rcases m.out with e |⟨w,e,q⟩
  .rw[e]at b;cases b
  .rw[e]at b;cases b;lia
theorem Sk(u:bd a g (.every b s) last n):(∀c,c<n->b+c * s<=last)/\last<b+n * s:=by
 refine⟨fun c d=>?_,?_⟩
 .obtain⟨v,f,h⟩:=u.in_ c d;cases f;exact h
 .rcases u.out with e |⟨v,e,h⟩
  .cases e
  .cases e;exact h
theorem Df(c:0<s)(u:bd a i (.every b s) last n):n=xg b (last+1) s:=by
 obtain⟨d,h2⟩:=Sk u;unfold xg
 by_cases h:b<last+1
 .rw[if_pos h];have h3:=d (n - 1) (by lia);have f:((n - 1:Nat):Int)=n - 1:=by lia
  rw[f]at h3;have e:(last+1 - b - 1) / s=n - 1:=by
   refine q2K ?_ ?_
   .have:(last+1 - b - 1) / s<n:=Int.ediv_lt_of_lt_mul c (by lia);lia
   .exact Int.le_ediv_of_mul_le c (by lia)
  rw[e];lia
 .rw[if_neg h];have:n=0:=by refine q1q fun g=>?_;have:=d 0 g;lia
  rw[this];rfl
theorem Dg(z:du a b)(ok:cP p):bd a b p (0 - 1) 0:=by
 refine⟨by lia,fun c d=>absurd d (q2e c),?_⟩;cases h:bE a b p 0 with
 |none=>exact .inl rfl
 |some v=>exact .inr ⟨v,rfl,by have:=Dd z ok h;lia⟩
def jj(m:Int)(l:List (Int×Option Int×Int)):List Int:=(l.filter fun p=>decide (p.1<=m)).map fun p=>(if gF m p.2.1=true then m else p.2.1.getD 0 - 1)+p.2.2
theorem Dh:∀j  s a,fy s j->(∀x,x∈jj m (bh s a j)->∃t,s<=t/\t<=m/\cz a j t=x)/\(∀t,s<=t->t<=m->∃x,x∈jj m (bh s a j)/\cz a j t<=x)
 |[],s,a,_=>by
  unfold bh jj
  by_cases h:s<=m
  .rw[q10,if_pos (decide_eq_true h),List.filter_nil,q0l,q2l];simp only[q0i];refine⟨fun x d=>⟨m,h,q0U _,by subst d;rfl⟩,fun t u l=>⟨_,rfl,by show t+a<=m+a;lia⟩⟩
  .rw[q10,if_neg (by simpa using h),List.filter_nil,q2l];exact⟨fun x d=>(by cases d),fun t u l=>(by lia)⟩
 | (b,c)::r,s,a,⟨u,l⟩=>by
  obtain⟨n,o⟩:=Dh r b c l;have g:∀t,t<b->cz a ((b,c)::r) t=t+a:=fun t k=>by unfold cz fj;rw[if_neg (by lia),xf l (by lia)]
  have i:∀t,b<=t->cz a ((b,c)::r) t=cz c r t:=fun t k=>by unfold cz;rw[fj,if_pos k]
  have e:jj m (bh s a ((b,c)::r))=(if s<=m then[(if m<b then m else b - 1)+a]else[])++jj m (bh b c r):=by
   rw[show bh s a ((b,c)::r)=(s,some b,a)::bh b c r from rfl];unfold jj;rw[q10]
   by_cases h:s<=m
   .rw[if_pos (decide_eq_true h),if_pos h,q0l];show((if decide (m<b)=true then m else b - 1)+a)::_=[(if m<b then m else b - 1)+a]++_
    by_cases f:m<b
    .rw[if_pos (decide_eq_true f),if_pos f];rfl
    .rw[if_neg (by simpa using f),if_neg f];rfl
   .rw[if_neg (by simpa using h),if_neg h];rfl
  rw[e];constructor
  .intro x d;rcases q0d.mp d with d |d
   .by_cases h:s<=m
    .rw[if_pos h,q0i]at d
     by_cases f:m<b
     .rw[if_pos f]at d;exact⟨m,h,q0U _,by rw[g m f,d]⟩
     .rw[if_neg f]at d;exact⟨b - 1,by lia,by lia,by rw[g _ (by lia),d]⟩
    .rw[if_neg h]at d;cases d
   .obtain⟨t,q,p,v⟩:=n x d;exact⟨t,by lia,p,by rw[i _ q];exact v⟩
  .intro t q p
   by_cases k:t<b
   .refine⟨(if m<b then m else b - 1)+a,q0d.mpr (.inl ?_),?_⟩
    .rw[if_pos (by lia)];exact q0i.mpr rfl
    .rw[g t k]
     by_cases f:m<b
     .rw[if_pos f];lia
     .rw[if_neg f];lia
   .obtain⟨x,w,y⟩:=o t (by lia) p;exact⟨x,q0d.mpr (.inr w),by rw[i t (by lia)];exact y⟩
def gZ(a:Int)(b:Sh)(h:Int)(k:Nat):Int:=(dU a b h+k) * 24+h
theorem Di(j:fy 0 b)(n:0<=m)(f:m<=cO a b h k):gZ a b h k<=cz a b m↔cO a b h k=m:=by
 obtain⟨o,d,l⟩:=iN j;have e:cO a b h k=eU (gZ a b h k) 0 a b:=rfl;rw[e]at f ⊢;constructor
 .intro i;refine q2K (q2y.mp fun c=>?_) f;have:=l m n c;lia
 .intro i;rw[i]at d;exact d
def iw(a:Int)(b:Sh)(p:aF)(n:Nat):List Int:=(List.range n).map fun c=>cX a b p c
end Due
noncomputable section
namespace K3
open PySem PySem.Spec L2 L2.L3 PyProof.Rows
noncomputable abbrev VZ:List Str:=["NoZone","NoMoment","NoCount","NoDeeds","NoRunner","NoTerm","NotHolder","Nothing"]
def sV:SM:=(bA (ft (jd "int" (xV 0)) (ft (Bi (jd "bool" (xV 0))) (vV (fun i j=>decide (i<=j)) (fun i j=>decide (i<=j)) (xV 1) (xV 0) (xV 2)))))
def hJ:FM:=bz 3 3 sV
def xh:SM:=(bA (ft (jd "tuple" (xV 0)) (ab (aB false) (cA dq (aq (xV 0) aH)) (xV 1))))
def lE:FM:=bz 2 2 xh
def xi:SM:=(bI (aT (ab ku (ab aI (xV 3) (xC (.int 0))) (xV 1))) (bF (ab aI (xV 3) (xC (.int 1))) (al 2)) bM)
def Dj:SM:=(az (bF (ab aI (xV 0) (xC (.int 0))) (al 2))
  (az (fw (kq (ab aI (xV 0) (xC (.int 1)))) (al 3) xi)
  (bA (ab cg (xV 1) (xV 2)))))
def sW:FM:=bz 2 4 Dj
def xj:XM PyData:=(ab aI (xV 0) (xC (.int 0)))
def xk:XM PyData:=(ab aI (xV 0) (xC (.int 1)))
def Dk:SM:=(az (bF (ab jD (dI (aq (xC (.int 0)) aH)) (fY 1 [] (kq (ab aI (xV 0) (xC (.int 1)))) (al 0) cN xj)) (al 1))
  (az (bF (ab jD (xU (BJ 1) (xV 1)) (dI (aq (xC .none) aH))) (al 2))
  (az (bF (ab jD (dI (aq (ab aI (xV 0) (xC (.int 0))) aH)) (fY 1 [] (kq (ab aI (xV 0) (xC (.int 1)))) (al 0) cN xk)) (al 3))
  (bA (cA wu (aq (xV 1) (aq (xV 2) (aq (xV 3) aH))))))))
def qe:FM:=bz 1 4 Dk
def Dl:SM:=(bA (vU (ab my (xV 1) (xC .none)) (ab jf (xV 0) (xV 1))))
def qf:FM:=bz 2 2 Dl
def sX:SM:=(az (bI (aT (ab jf (xV 1) (rO 0))) (bA (rP 0 (xV 1))) bM)
  (az (bI (wb 0) (bA (xC (.int 0))) bM)
  (bA (ab cg (ab lr (rP 0 (ab nJ (xV 1) (rO 0))) (xC (.int 31))) (xV 1)))))
def oj:FM:=bz 2 2 sX
def xl:XM Bool:=(aT (ab ku (xV 0) (xV 2)))
def xm:XM PyData:=(xV 1)
def Dm:SM:=(az (bF (ab jD (dI (aq (ab aI (xV 0) (xC (.int 0))) aH)) (fY 2 [1] (kq (ab aI (xV 0) (xC (.int 1)))) (cy 2 (aR (al 0) (aR (al 1) cx))) xl xm)) (al 2))
  (bA (ab cg (xV 1) (ab aI (xV 2) (kj (xC (.int 1)))))))
def qg:FM:=bz 2 3 Dm
def Dn(C:Addr):SM:=(bA (ft (ab jC (cD C 0 "holder") (xC .none)) (ab jf (xV 1) (cD C 0 "until"))))
def qh(C:Addr):FM:=bz 2 2 (Dn C)
def xn(C:Addr):SM:=(az (bF (ab aI (xV 1) (xC (.int 2))) (al 2))
  (az (bF (ab aI (xV 1) (xC (.int 3))) (al 3))
  (az (bF (ab aI (xV 1) (xC (.int 4))) (al 4))
  (az (pG C 0 "rows" 1)
  (az (sf C 0 "words" 3 4 (xV 2))
  (az (bI (aT (ab (aB false) (xV 2) (xC (.str "begun")))) (dO C 0 "begun" (dH (aq (xV 3) (aq (xV 4) (aq (cD C 0 "holds") aH))))) (az (dO C 0 "begun" (xC .none))
  (sg C 0 "settled" 3 (ab cg (xV 4) (xC (.int 1))))))
  (bA (dH (aq (xV 2) (aq (xV 3) (aq (xV 4) aH)))))))))))
def iO(C:Addr):FM:=bz 2 5 (xn C)
def xo(C:Addr):SM:=(bA (ft (ab jC (cD C 0 "begun") (xC .none)) (ab (aB false) (ab aI (cD C 0 "begun") (xC (.int 2))) (cD C 0 "holds"))))
def om(C:Addr):FM:=bz 1 1 (xo C)
def Do(C:Addr):SM:=(bA (dH (aq (cD C 0 "holder") (aq (cD C 0 "until") (aq (cD C 0 "holds") aH)))))
def mO(C:Addr):FM:=bz 1 1 (Do C)
def Dp(C:Addr):SM:=(bA (si C 0 "rows"))
def mP(C:Addr):FM:=bz 1 1 (Dp C)
def Dq:SM:=(gV (aO hJ (ak (xV 0) (ak (xC (.int (-12))) (ak (xC (.int (14))) aK)))))
def qi:FM:=bz 1 1 Dq
def Dr:SM:=(gV (aO hJ (ak (xV 0) (ak (xC (.int 0)) (ak (xC (.int (9999))) aK)))))
def on:FM:=bz 1 1 Dr
def Ds:SM:=(gV (aO hJ (ak (xV 0) (ak (xC (.int 0)) (ak (xC (.int (3))) aK)))))
def sY:FM:=bz 1 1 Ds
def Dt:SM:=(gV (aO hJ (ak (xV 0) (ak (xC (.int 1)) (ak (xC (.int (99))) aK)))))
def sZ:FM:=bz 1 1 Dt
def xp:SM:=(bA (ft (aP (aO lE (ak (xV 0) (ak (xV 2) aK)))) (ft (jd "str" (ab aI (xV 0) (xC (.int 0)))) (ab (aB false) (ab aI (xV 0) (xC (.int 0))) (xV 1)))))
def lF:FM:=bz 3 3 xp
def xq:XM Bool:=(aT (aP (aO qf (ak (cA ph (aq (xV 0) (aq (ab fE (xV 3) (xV 2)) aH))) (ak (xV 1) aK)))))
def xr:XM PyData:=(cA ph (aq (xV 0) (aq (ab fE (xV 3) (xV 2)) aH)))
def Du:SM:=(az (bF (fY 3 [1] (jH (aP (aO qe (ak (xV 0) aK)))) (cy 3 (aR (al 0) (aR (al 1) (aR (al 2) cx)))) xq xr) (al 2))
  (bA (ab aI (xV 2) (xC (.int 0)))))
def tf:FM:=bz 2 3 Du
def xt:XM Bool:=(aT (ab ku (xV 0) (xV 3)))
def qj:XM PyData:=(ab cg (nB (aT (aP (aO qf (ak (xV 3) (ak (xV 1) aK))))) (xV 3) (ab fE (xV 1) (xC (.int 1)))) (xV 2))
def Dv:SM:=(bA (cA nE (aq (fY 3 [1] (jH (aP (aO qe (ak (xV 0) aK)))) (cy 3 (aR (al 0) (aR (al 1) (aR (al 2) cx)))) xt qj) aH)))
def tj:FM:=bz 2 2 Dv
def Dw:SM:=(bA (kj (ab rX (ab fE (xV 1) (aP (aO sW (ak (xV 0) (ak (xC (.int 0)) aK))))) (xC (.int (24))))))
def qk:FM:=bz 2 2 Dw
def Dx:SM:=(az (bF (ab nJ (ab lr (ab cg (ab cg (aP (aO oj (bv 0 (ak (xV 1) aK)))) (ab lr (xC (.int 7919)) (xV 1))) (xC (.int 1))) (xC (.int 48271))) (xC (.int 2147483647))) (al 3))
  (bA (ab nJ (ab nJ (ab cg (ab cg (ab lr (xV 3) (xV 3)) (ab lr (xC (.int 7)) (xV 3))) (xV 1)) (xC (.int 2147483629))) (xV 2))))
def tm:FM:=bz 3 4 Dx
def xu:SM:=(bF (ab cg (xV 4) (xC (.int 24))) (al 4))
def tp:XM Bool:=(aT (ab jf (xV 4) (aP (aO qg (ak (xV 0) (ak (xC (.int 0)) aK))))))
def tq:SM:=(az (ip 3 (xV 5))
  (bF (ab cg (xV 4) (xC (.int 24))) (al 4)))
def ql:XM Bool:=(aT (ab ku (xV 4) (aP (aO qg (ak (xV 0) (ak (xV 5) aK))))))
def tu:SM:=(fX ql tq 100000)
def qm:SM:=(az (bI (aT (ab (aB false) (ab aI (xV 1) (xC (.int 0))) (xC (.str "once")))) (bA (ab gQ (dI (aq (ab aI (xV 1) (xC (.int 1))) aH)) (cA vZ (aq (ab ku (ab aI (xV 1) (xC (.int 1))) (xV 2)) aH)))) bM)
  (az (bI (aT (ab (aB false) (ab aI (xV 1) (xC (.int 0))) (xC (.str "every")))) (bA (cA rT (aq (ab aI (xV 1) (xC (.int 1))) (aq (ab cg (xV 2) (xC (.int 1))) (aq (ab aI (xV 1) (xC (.int 2))) aH))))) bM)
  (az (fW 3 (iI aH))
  (az (bF (ab fE (ab aI (xV 1) (xC (.int 1))) (xC (.int 24))) (al 4))
  (az (fX tp xu 100000)
  (az (fw (ff dc (aq (ab cg (xV 2) (xC (.int 1))) aH)) (al 5) tu)
  (rS 3)))))))
def kE:FM:=bz 3 6 qm
def xv(C:Addr):SM:=(az (bF (ab aI (cD C 0 "begun") (xC (.int 0))) (al 3))
  (az (bF (nB (aT (ab aI (ab aI (cD C 0 "deeds") (xV 3)) (xC (.int (2))))) (xC (.str "begun")) (xC (.str "unsure"))) (al 4))
  (gV (cB C 0 "add_row" (iO C) (ak (dH (aq (xV 2) (aq (xV 1) (aq (xV 4) (aq (xV 3) (aq (ab aI (cD C 0 "begun") (xC (.int 1))) aH)))))) aK)))))
def qo(C:Addr):FM:=bz 3 5 (xv C)
def tw:SM:=(az (bI (jc (gz (aT (aP (aO lE (ak (xV 2) (ak (xC (.int 2)) aK)))))) (gz (aT (aP (aO qi (ak (ab aI (xV 2) (xC (.int 1))) aK)))))) (bA (xC (.bool false))) bM)
  (az (bI (gz (aT (aP (aO hJ (ak (ab aI (xV 2) (xC (.int 0))) (ak (xV 1) (ak (xC (.int (9999))) aK))))))) (bA (xC (.bool false))) bM)
  (bF (ab cg (ab aI (xV 2) (xC (.int 0))) (xC (.int 1))) (al 1))))
def Dy:SM:=(az (bI (jc (gz (aT (jd "tuple" (xV 0)))) (aT (ab ls (cA dq (aq (xV 0) aH)) (xC (.int (6)))))) (bA (xC (.bool false))) bM)
  (az (bF (xC (.int 1)) (al 1))
  (az (fw (kq (xV 0)) (al 2) tw)
  (bA (xC (.bool true))))))
def tx:FM:=bz 1 3 Dy
def tz:SM:=(az (bI (aT (aP (aO lF (ak (xV 0) (ak (xC (.str "once")) (ak (xC (.int 2)) aK)))))) (gV (aO on (ak (ab aI (xV 0) (xC (.int 1))) aK))) bM)
  (az (bI (aT (aP (aO lF (ak (xV 0) (ak (xC (.str "every")) (ak (xC (.int 3)) aK)))))) (bA (ft (aP (aO on (ak (ab aI (xV 0) (xC (.int 1))) aK))) (aP (aO hJ (ak (ab aI (xV 0) (xC (.int 2))) (ak (xC (.int 1)) (ak (xC (.int (999))) aK))))))) bM)
  (bA (ft (aP (aO lF (ak (xV 0) (ak (xC (.str "daily")) (ak (xC (.int 2)) aK))))) (aP (aO hJ (ak (ab aI (xV 0) (xC (.int 1))) (ak (xC (.int 0)) (ak (xC (.int (23))) aK)))))))))
def oq:FM:=bz 1 1 tz
def tE:SM:=(az (bI (aT (jd "str" (xV 0))) (bA (vU (ab (aB false) (xV 0) (xC (.str "all"))) (ab (aB false) (xV 0) (xC (.str "last"))))) bM)
  (bA (ft (aP (aO lF (ak (xV 0) (ak (xC (.str "within")) (ak (xC (.int 2)) aK))))) (aP (aO hJ (ak (ab aI (xV 0) (xC (.int 1))) (ak (xC (.int 0)) (ak (xC (.int (999))) aK))))))))
def ot:FM:=bz 1 1 tE
def Dz:SM:=(bI (gz (aT (aP (aO on (ak (xV 0) aK))))) jL bM)
def tF:FM:=bz 1 1 Dz
def DC:SM:=(bI (gz (aT (aP (aO sY (ak (xV 0) aK))))) jL bM)
def tG:FM:=bz 1 1 DC
def DH:SM:=(bI (gz (aT (aP (aO sZ (ak (xV 0) aK))))) jL bM)
def tH:FM:=bz 1 1 DH
def DJ:SM:=(az (bF (ab cg (aP (aO qk (ak (xV 0) (ak (xV 1) aK)))) (xV 2)) (al 3))
  (gV (aO tf (ak (xV 0) (ak (ab cg (ab lr (xV 3) (xC (.int (24)))) (xV 1)) aK)))))
def tI:FM:=bz 3 4 DJ
def ou:SM:=(az (bI (aT (ab jf (xV 2) (xC (.int 0)))) (bA (xC (.int 0))) bM)
  (az (bI (aT (ab (aB false) (ab aI (xV 1) (xC (.int 0))) (xC (.str "once")))) (bA (nB (aT (ab ku (ab aI (xV 1) (xC (.int 1))) (xV 2))) (xC (.int 1)) (xC (.int 0)))) bM)
  (az (bI (aT (ab (aB false) (ab aI (xV 1) (xC (.int 0))) (xC (.str "every")))) (bA (cA ph (aq (xC (.int 0)) (aq (ab cg (ab rX (ab fE (xV 2) (ab aI (xV 1) (xC (.int 1)))) (ab aI (xV 1) (xC (.int 2)))) (xC (.int 1))) aH)))) bM)
  (az (bF (ab rX (ab fE (aP (aO tj (ak (xV 0) (ak (xV 2) aK)))) (ab aI (xV 1) (xC (.int 1)))) (xC (.int (24)))) (al 3))
  (bA (ab cg (ab fE (xV 3) (aP (aO qk (ak (xV 0) (ak (ab aI (xV 1) (xC (.int 1))) aK))))) (xC (.int 1))))))))
def lG:FM:=bz 3 4 ou
def DK:SM:=(az (ip 1 (xC (.int 0)))
  (gV (aO tm (bv 0 (ak (wm 1) (ak (xV 2) aK))))))
def ej:FM:=bz 3 3 DK
def qp:XM PyData:=(xV 0)
def lH:SM:=(az (bF (xC (.str "done")) (al 12))
  (az (bI (nz (aT (ab (aB false) (xV 7) (xC (.str "last")))) (aT (ab jf (ab cg (xV 10) (xC (.int 1))) (cA dq (aq (xV 9) aH))))) (bF (xC (.str "left")) (al 12)) bM)
  (az (bI (nz (aT (jd "tuple" (xV 7))) (aT (ab ls (ab fE (xV 2) (xV 11)) (ab aI (xV 7) (xC (.int 1)))))) (bF (xC (.str "left")) (al 12)) bM)
  (ip 4 (dH (aq (xV 11) (aq (xV 5) (aq (ab cg (iM 3 5) (xV 10)) (aq (xV 12) aH)))))))))
def ow:SM:=(az (bF (nU (fY 1 [] (jH (aP (aO kE (ak (xV 0) (ak (xV 6) (ak (xV 2) aK)))))) (al 0) cN qp) (nR (iM 3 5)) nQ) (al 9))
  (az (fw (ff im (aq (xV 9) aH)) (cy 2 (aR (al 10) (aR (al 11) cx))) lH)
  (og 3 5 (ab cg (iM 3 5) (cA dq (aq (xV 9) aH))))))
def xw:SM:=(az (fW 4 (iI aH))
  (az (fw (ff wV (aq (xV 1) aH)) (cy 2 (aR (al 5) (aR (cy 3 (aR (al 6) (aR (al 7) (aR (al 8) cx)))) cx))) ow)
  (bA (cA qc (aq (xV 4) aH)))))
def jl:FM:=bz 4 13 xw
def DL:SM:=(bA (ft (aP (aO lE (ak (xV 0) (ak (xC (.int 2)) aK)))) (ft (aP (aO qi (ak (ab aI (xV 0) (xC (.int 0))) aK))) (aP (aO tx (ak (ab aI (xV 0) (xC (.int 1))) aK))))))
def tK:FM:=bz 1 1 DL
def DM:SM:=(bA (ft (aP (aO lE (ak (xV 0) (ak (xC (.int 3)) aK)))) (ft (aP (aO oq (ak (ab aI (xV 0) (xC (.int 0))) aK))) (ft (aP (aO ot (ak (ab aI (xV 0) (xC (.int 1))) aK))) (jd "bool" (ab aI (xV 0) (xC (.int 2))))))))
def tL:FM:=bz 1 1 DM
def qr:SM:=(az (bI (aT (ab (aB false) (ab aI (xV 1) (xC (.int 0))) (xC (.str "once")))) (bA (nB (aT (ab (aB false) (xV 2) (xC (.int 0)))) (ab aI (xV 1) (xC (.int 1))) (xC .none))) bM)
  (az (bI (aT (ab (aB false) (ab aI (xV 1) (xC (.int 0))) (xC (.str "every")))) (bA (ab cg (ab aI (xV 1) (xC (.int 1))) (ab lr (xV 2) (ab aI (xV 1) (xC (.int 2)))))) bM)
  (gV (aO tI (ak (xV 0) (ak (ab aI (xV 1) (xC (.int 1))) (ak (xV 2) aK)))))))
def jm:FM:=bz 3 3 qr
def DP:SM:=(bA (ab aI (xV 2) (aP (aO ej (bv 0 (bv 1 (ak (cA dq (aq (xV 2) aH)) aK)))))))
def kG:FM:=bz 3 3 DP
def xx(C:Addr):SM:=(az (il (aO tG (ak (xV 1) aK)))
  (az (il (aO tF (ak (xV 2) aK)))
  (bI (nz (aT (ab jC (cD C 0 "last") (xC .none))) (aT (ab jf (xV 2) (cD C 0 "last")))) jL bM)))
def kH(C:Addr):FM:=bz 3 3 (xx C)
def Sl(C:Addr):XM PyData:=(xC (.int 0))
def ox(C:Addr):XM PyData:=(ab fE (aP (aO lG (ak (jM C 2 "zone") (ak (ab aI (xV 0) (xC (.int (0)))) (ak (jM C 2 "last") aK))))) (xV 1))
def xy(C:Addr):SM:=(az (bI (aT (ab my (cD C 0 "last") (xC .none))) (bA (fY 1 [] (kq (cD C 0 "deeds")) (al 0) cN (Sl C))) bM)
  (bA (nN 2 [0] (lx C 0 "deeds" "settled") (cy 2 (aR (al 0) (aR (al 1) cx))) cN (ox C))))
def jN(C:Addr):FM:=bz 1 1 (xy C)
def tM:XM PyData:=(aP (aO tL (ak (xV 0) aK)))
def DQ:SM:=(az (bI (jc (gz (aT (jd "tuple" (xV 0)))) (aT (ab ls (cA dq (aq (xV 0) aH)) (xC (.int (6)))))) (bA (xC (.bool false))) bM)
  (bA (cA nC (aq (fY 1 [] (kq (xV 0)) (al 0) cN tM) aH))))
def xz:FM:=bz 1 1 DQ
def DR:SM:=(bI (gz (aT (aP (aO tK (ak (xV 0) aK))))) jL bM)
def qt:FM:=bz 1 1 DR
def qu:SM:=(az (bI (aT (ab (aB false) (ab aI (xV 1) (xC (.int (1)))) (xC (.str "all")))) (bA (xC (.bool false))) bM)
  (az (bI (aT (ab (aB false) (ab aI (xV 1) (xC (.int (1)))) (xC (.str "last")))) (az (bF (aP (aO jm (ak (xV 0) (ak (ab aI (xV 1) (xC (.int (0)))) (ak (ab cg (xV 2) (xC (.int 1))) aK))))) (al 4))
  (bA (ft (ab jC (xV 4) (xC .none)) (ab ku (xV 4) (xV 3))))) bM)
  (bA (ab ls (ab fE (xV 3) (aP (aO jm (ak (xV 0) (ak (ab aI (xV 1) (xC (.int (0)))) (ak (xV 2) aK)))))) (ab aI (ab aI (xV 1) (xC (.int (1)))) (xC (.int 1)))))))
def mQ:FM:=bz 4 5 qu
def tN:SM:=(az (bF (ab cg (ab cg (xV 3) (xC (.int 1))) (aP (aO ej (bv 0 (bv 1 (ak (aP (aO kG (bv 0 (bv 1 (ak (dI (aq (xC (.int 4)) (aq (xC (.int 40)) (aq (xC (.int 200)) aH)))) aK))))) aK)))))) (al 3))
  (ip 2 (dH (aq (xV 3) (aq (ab fE (aP (aO ej (bv 0 (bv 1 (ak (xC (.int 27)) aK))))) (xC (.int 12))) aH)))))
def xA:XM PyData:=(dH (aq (xV 1) (aq (ab cg (xC (.int 1)) (ab nJ (xV 0) (xC (.int 2)))) aH)))
def xB:SM:=(az (fW 2 (iI aH))
  (az (bF (xC (.int 0)) (al 3))
  (az (fw (ff dc (aq (aP (aO ej (bv 0 (bv 1 (ak (xC (.int 7)) aK))))) aH)) (al 4) tN)
  (az (bI (aT (ab (aB false) (aP (aO ej (bv 0 (bv 1 (ak (xC (.int 2)) aK))))) (xC (.int 0)))) (bF (fY 3 [] (ff im (aq (xV 2) aH)) (cy 2 (aR (al 0) (aR (cy 2 (aR (al 1) (aR (al 2) cx))) cx))) cN xA) (al 2)) bM)
  (bA (dH (aq (ab fE (aP (aO ej (bv 0 (bv 1 (ak (xC (.int 27)) aK))))) (xC (.int 12))) (aq (cA rN (aq (xV 2) aH)) aH))))))))
def qv:FM:=bz 2 5 xB
def tO:SM:=(az (bF (aP (aO ej (bv 0 (bv 1 (ak (xC (.int 5)) aK))))) (al 2))
  (az (bI (aT (ab (aB false) (xV 2) (xC (.int 0)))) (bA (dH (aq (xC (.str "once")) (aq (aP (aO ej (bv 0 (bv 1 (ak (aP (aO kG (bv 0 (bv 1 (ak (dI (aq (xC (.int 100)) (aq (xC (.int 100)) (aq (xC (.int 2500)) aH)))) aK))))) aK))))) aH)))) bM)
  (az (bI (aT (ab jf (xV 2) (xC (.int 3)))) (az (bF (ab cg (xC (.int 1)) (aP (aO ej (bv 0 (bv 1 (ak (aP (aO kG (bv 0 (bv 1 (ak (dI (aq (xC (.int 30)) (aq (xC (.int 30)) (aq (xC (.int 999)) aH)))) aK))))) aK)))))) (al 3))
  (bA (dH (aq (xC (.str "every")) (aq (aP (aO ej (bv 0 (bv 1 (ak (xC (.int 50)) aK))))) (aq (xV 3) aH)))))) bM)
  (bA (dH (aq (xC (.str "daily")) (aq (aP (aO ej (bv 0 (bv 1 (ak (xC (.int 24)) aK))))) aH)))))))
def oy:FM:=bz 2 4 tO
def DU(C:Addr):SM:=(az (il (cB C 0 "check_call" (kH C) (ak (xV 1) (ak (xV 2) aK))))
  (bI (jc (gz (aT (aP (cB C 0 "is_held" (qh C) (ak (xV 2) aK))))) (aT (ab (aB true) (cD C 0 "holder") (xV 1)))) jL bM))
def lI(C:Addr):FM:=bz 3 3 (DU C)
def tP(C:Addr):SM:=(az (il (cB C 0 "check_call" (kH C) (ak (xV 1) (ak (xV 2) aK))))
  (az (il (aO tH (ak (xV 3) aK)))
  (az (dO C 0 "last" (xV 2))
  (az (bI (gz (aT (aP (cB C 0 "is_held" (qh C) (ak (xV 2) aK))))) (sh C 0 "holds" 1) (bI (aT (ab (aB true) (cD C 0 "holder") (xV 1))) (bA (xC (.bool false))) bM))
  (az (dO C 0 "holder" (xV 1))
  (az (dO C 0 "until" (ab cg (xV 2) (xV 3)))
  (bA (xC (.bool true)))))))))
def kI(C:Addr):FM:=bz 4 4 (tP C)
def mR(C:Addr):SM:=(az (bF (pI C 0 "settled" 2) (al 3))
  (az (bF (aP (aO jm (ak (cD C 0 "zone") (ak (ab aI (ab aI (cD C 0 "deeds") (xV 2)) (xC (.int (0)))) (ak (xV 3) aK))))) (al 4))
  (bI (aT (ab jC (xV 4) (xC .none))) (ip 1 (dH (aq (xV 4) (aq (xV 2) (aq (xV 3) aH))))) bM)))
def So(C:Addr):SM:=(az (fW 1 (iI aH))
  (az (fw (ff dc (aq (cA dq (aq (cD C 0 "deeds") aH)) aH)) (al 2) (mR C))
  (bA (lA 1))))
def xD(C:Addr):FM:=bz 1 5 (So C)
def DY:SM:=(bI (gz (aT (aP (aO xz (ak (xV 0) aK))))) jL bM)
def qw:FM:=bz 1 1 DY
def tQ:SM:=(az (bF (aP (aO ej (bv 0 (bv 1 (ak (aP (aO kG (bv 0 (bv 1 (ak (dI (aq (xC (.int 30)) (aq (xC (.int 30)) (aq (xC (.int 1000)) aH)))) aK))))) aK))))) (al 4))
  (az (bF (aP (aO kG (bv 0 (bv 1 (ak (dI (aq (xC (.str "all")) (aq (xC (.str "last")) (aq (dH (aq (xC (.str "within")) (aq (xV 4) aH))) aH)))) aK))))) (al 5))
  (ip 2 (dH (aq (aP (aO oy (bv 0 (bv 1 aK)))) (aq (xV 5) (aq (ab (aB false) (aP (aO ej (bv 0 (bv 1 (ak (xC (.int 2)) aK))))) (xC (.int 0))) aH)))))))
def DZ:SM:=(az (fW 2 (iI aH))
  (az (fw (ff dc (aq (aP (aO ej (bv 0 (bv 1 (ak (aP (aO kG (bv 0 (bv 1 (ak (dI (aq (xC (.int 5)) (aq (xC (.int 5)) (aq (xC (.int 7)) aH)))) aK))))) aK))))) aH)) (al 3) tQ)
  (bA (cA rN (aq (xV 2) aH)))))
def tR:FM:=bz 2 6 DZ
def qx(C:Addr):SM:=(az (bF (aP (df C 0 "first_unsettled" (xD C))) (al 3))
  (az (bI (aT (ab my (xV 3) (xC .none))) (bA (dH (aq (xC (.str "idle")) (aq (xC .none) aH)))) bM)
  (az (bI (aT (ab ls (ab aI (xV 3) (xC (.int 0))) (xV 2))) (bA (dH (aq (xC (.str "idle")) (aq (ab aI (xV 3) (xC (.int 0))) aH)))) bM)
  (az (bF (ab aI (xV 3) (xC (.int 1))) (al 4))
  (az (bF (ab aI (xV 3) (xC (.int 2))) (al 5))
  (az (bF (nB (aT (aP (aO mQ (ak (cD C 0 "zone") (ak (ab aI (cD C 0 "deeds") (xV 4)) (ak (xV 5) (ak (xV 2) aK))))))) (xC (.str "left")) (xC (.str "begun"))) (al 6))
  (gV (cB C 0 "add_row" (iO C) (ak (dH (aq (xV 2) (aq (xV 1) (aq (xV 6) (aq (xV 4) (aq (xV 5) aH)))))) aK)))))))))
def mS(C:Addr):FM:=bz 3 7 (qx C)
def Ea(C:Addr):SM:=(az (il (cB C 0 "check_holder" (lI C) (ak (xV 1) (ak (xV 2) aK))))
  (az (bI (gz (aT (aP (df C 0 "is_busy" (om C))))) jL bM)
  (az (dO C 0 "last" (xV 2))
  (gV (cB C 0 "add_row" (iO C) (ak (dH (aq (xV 2) (aq (xV 1) (aq (xC (.str "done")) (aq (ab aI (cD C 0 "begun") (xC (.int 0))) (aq (ab aI (cD C 0 "begun") (xC (.int 1))) aH)))))) aK))))))
def qy(C:Addr):FM:=bz 3 3 (Ea C)
def tS(C:Addr):XM PyData:=(xC (.int 0))
def Eb(C:Addr):SM:=(az (il (aO qt (ak (xV 1) aK)))
  (az (il (aO qw (ak (xV 2) aK)))
  (az (dO C 0 "zone" (xV 1))
  (az (dO C 0 "deeds" (xV 2))
  (az (dO C 0 "last" (xC .none))
  (az (dO C 0 "holder" (xC .none))
  (az (dO C 0 "until" (xC (.int 0)))
  (az (dO C 0 "holds" (xC (.int 0)))
  (az (dO C 0 "begun" (xC .none))
  (az (mE C 0 "rows" (.l []))
  (az (mE C 0 "words" (.m true []))
  (wJ C 0 "settled" 1 [] (kq (xV 2)) (al 0) cN (tS C)))))))))))))
def tT(C:Addr):FM:=bz 3 3 (Eb C)
def tU(C:Addr):SM:=(az (il (cB C 0 "check_holder" (lI C) (ak (xV 1) (ak (xV 2) aK))))
  (az (dO C 0 "last" (xV 2))
  (az (bI (aT (aP (df C 0 "is_busy" (om C)))) (bA (dH (aq (xC (.str "busy")) (aq (ab aI (cD C 0 "begun") (xC (.int 0))) (aq (ab aI (cD C 0 "begun") (xC (.int 1))) aH))))) bM)
  (az (bI (aT (ab jC (cD C 0 "begun") (xC .none))) (gV (cB C 0 "step_behind_a_fall" (qo C) (ak (xV 1) (ak (xV 2) aK)))) bM)
  (gV (cB C 0 "step_ahead" (mS C) (ak (xV 1) (ak (xV 2) aK))))))))
def kJ(C:Addr):FM:=bz 3 3 (tU C)
def hU(C:Addr):SM:=(az (bF (aP (cB C 0 "step" (kJ C) (ak (xV 1) (ak (xV 2) aK)))) (al 6))
  (az (ip 4 (xV 6))
  (az (bI (aT (ab (aB false) (ab aI (xV 6) (xC (.int 0))) (xC (.str "idle")))) Bw bM)
  (bI (jc (aT (ab (aB false) (ab aI (xV 6) (xC (.int 0))) (xC (.str "begun")))) (aT (ab (aB false) (ab aI (xV 6) (xC (.int 0))) (xC (.str "busy"))))) (ip 4 (aP (cB C 0 "finish" (qy C) (ak (xV 1) (ak (xV 2) aK))))) bM))))
def Ec(C:Addr):SM:=(az (bI (gz (aT (aP (aO hJ (ak (xV 3) (ak (xC (.int 0)) (ak (xC (.int (999))) aK))))))) jL bM)
  (az (fW 4 (iI aH))
  (az (fw (ff dc (aq (xV 3) aH)) (al 5) (hU C))
  (rS 4))))
def jO(C:Addr):FM:=bz 4 7 (Ec C)
def Ed(C:Addr):SM:=(fW 1 (iI aH))
def Ee(C:Addr):SM:=(bF (aP (aO qv (bv 0 (bv 1 aK)))) (al 2))
def Ef(C:Addr):SM:=(bF (aP (aO tR (bv 0 (bv 1 aK)))) (al 3))
def Eg(C:Addr):SM:=(fW 4 (wA C (tT C) (aq (xV 2) (aq (xV 3) aH))))
def Eh(C:Addr):SM:=(il (cB C 4 "take" (kI C) (ak (xC (.int 2)) (ak (xC (.int 0)) (ak (xC (.int 99)) aK)))))
def Ei(C:Addr):SM:=(bF (xC (.int 0)) (al 5))
def Ej(C:Addr):SM:=(fW 6 (qa (dI (aq (xC (.int 0)) aH)) (cA dq (aq (xV 3) aH))))
def kK(C:Addr):SM:=(az (bI (aT (ab (aB false) (xV 12) (xC (.str "done")))) (ip 8 (dH (aq (xC (.str "begun")) (aq (xV 10) (aq (xV 11) aH))))) bM)
  (ip 8 (dH (aq (xV 12) (aq (xV 10) (aq (xV 11) aH))))))
def mT(C:Addr):XM PyData:=(ab aI (xV 0) (xC (.int 0)))
def tV(C:Addr):SM:=(az (bF (ab cg (xV 5) (aP (aO ej (bv 0 (bv 1 (ak (xC (.int 90)) aK)))))) (al 5))
  (az (il (cB C 4 "take" (kI C) (ak (xC (.int 2)) (ak (xV 5) (ak (xC (.int 99)) aK)))))
  (az (fW 8 (iI aH))
  (az (fw (jH (aP (aO jl (ak (xV 2) (ak (xV 3) (ak (xV 5) (bv 6 aK))))))) (cy 4 (aR (al 9) (aR (al 10) (aR (al 11) (aR (al 12) cx))))) (kK C))
  (az (bF (aP (aO (jO C) (bv 4 (ak (xC (.int 2)) (ak (xV 5) (ak (xC (.int 999)) aK)))))) (al 13))
  (az (bI (jc (aT (ab (aB true) (nU (xV 13) nQ (nR (kj (xC (.int 1))))) (xV 8))) (jc (aT (ab (aB true) (ab aI (ab aI (xV 13) (kj (xC (.int 1)))) (xC (.int 0))) (xC (.str "idle")))) (aT (ab (aB true) (aP (df C 4 "waiting" (jN C))) (ab gQ (dI (aq (xC (.int 0)) aH)) (cA dq (aq (xV 3) aH))))))) (bA (xC (.bool false))) bM)
  (az (bF (fY 1 [] (jH (aP (mJ jl (xV 2) (xV 3) (ab cg (xV 5) (xC (.int 2600))) (mK 6)))) (al 0) cN (mT C)) (al 14))
  (bI (aT (ab (aB true) (aP (aO (jO C) (bv 4 (ak (xC (.int 2)) (ak (xV 5) (ak (xC (.int 5)) aK)))))) (dI (aq (dH (aq (xC (.str "idle")) (aq (ab aI (ab jD (xV 14) (dI (aq (xC .none) aH))) (xC (.int 0))) aH))) aH)))) (bA (xC (.bool false))) bM))))))))
def Ek(C:Addr):SM:=(fw (ff dc (aq (aP (aO ej (bv 0 (bv 1 (ak (xC (.int 5)) aK))))) aH)) (al 7) (tV C))
def oz(C:Addr):XM PyData:=(ab aI (xV 0) (xC (.int 2)))
def xE(C:Addr):SM:=(bA (ft (ab (aB false) (xb lq (fY 1 [] (jH (aP (df C 4 "log" (mP C)))) (al 0) cN (oz C)) (xC (.str "unsure"))) (xC (.int 0))) (ab (aB false) (ab aI (aP (df C 4 "held" (mO C))) (xC (.int 2))) (xC (.int 1)))))
def El(C:Addr):SM:=(az (Ed C)
  (az (Ee C)
  (az (Ef C)
  (az (Eg C)
  (az (Eh C)
  (az (Ei C)
  (az (Ej C)
  (az (Ek C)
  (xE C)))))))))
def Em(C:Addr):FM:=bz 1 15 (El C)
end K3
namespace K3
open PySem PySem.Spec L2 L2.L3 PyProof.Rows
noncomputable def top(i:Nat):Stmt:=PySem.Challenge.pw_duehall_k06_whole_one_runner.main.body.getD i (.Pass ⟨0,0,0,0⟩)
abbrev En:Stmt:=top 22
abbrev Eo:Stmt:=top 23
abbrev Ep:Stmt:=top 24
abbrev Er:Stmt:=top 25
abbrev Es:Stmt:=top 26
abbrev Et:Stmt:=top 27
abbrev Eu:Stmt:=top 28
abbrev Ev:Stmt:=top 29
abbrev Ew:Stmt:=top 30
abbrev Ex:Stmt:=top 31
abbrev Ey:Stmt:=top 32
abbrev Ez:Stmt:=top 33
abbrev EA:Stmt:=top 34
abbrev EB:Stmt:=top 35
abbrev EC:Stmt:=top 36
abbrev ED:Stmt:=top 37
abbrev EE:Stmt:=top 38
abbrev EF:Stmt:=top 39
abbrev EG:Stmt:=top 42
abbrev EH:Stmt:=top 43
abbrev EI:Stmt:=top 44
abbrev EJ:Stmt:=top 45
abbrev EK:Stmt:=top 46
abbrev EL:Stmt:=top 48
abbrev EM:Stmt:=top 49
abbrev EN:Stmt:=top 50
abbrev EO:Stmt:=top 51
abbrev EQ:Stmt:=top 56
abbrev ER:Stmt:=gr (top 57) 0
abbrev ES:Stmt:=gr (top 57) 1
abbrev ET:Stmt:=gr (top 57) 2
abbrev EU:Stmt:=gr (top 57) 3
abbrev EV:Stmt:=gr (top 57) 4
abbrev EW:Stmt:=gr (top 57) 6
abbrev EY:Stmt:=gr (top 57) 7
abbrev EZ:Stmt:=gr (top 57) 8
abbrev Fa:Stmt:=gr (top 57) 9
abbrev Fb:Stmt:=gr (top 57) 10
abbrev Fc:Stmt:=gr (top 57) 11
abbrev Fd:Stmt:=gr (top 57) 12
abbrev Fe:Stmt:=gr (top 57) 14
abbrev Ff:Stmt:=gr (top 57) 15
abbrev Fg:Stmt:=gr (top 57) 16
abbrev Fh:Stmt:=top 60
abbrev Fi:Stmt:=top 62
abbrev Fj:Stmt:=top 63
abbrev Fk:Stmt:=top 64
abbrev Fm:Stmt:=top 65
abbrev Fo:Stmt:=top 66
abbrev Fp:Stmt:=top 67
abbrev Fq:Stmt:=top 68
abbrev Fs:Stmt:=top 69
abbrev Ft:Stmt:=top 70
abbrev Fu:Stmt:=top 71
abbrev lJ:Stmt:=top 72
theorem Sq:cm ["_law_script","_law_town","_law_zone_here","_law_deeds_here","_law_hall","_law_now","_law_counts","_law_turn","_law_wish","_law_moment","_law_deed","_law_count","_law_word","_law_told","_law_others"] ["_law_script"] (ek lJ):=bH
structure Tx (K:Frag) (mg:Str->Option Value):Prop where
 d00:∃g fd,FD K mg "is_whole" En ["thing","least","most"] g fd
 d01:∃g fd,FD K mg "is_tuple_of" Eo ["thing","length"] g fd
 d02:∃g fd,FD K mg "is_ahead" Ep ["thing"] g fd
 d03:∃g fd,FD K mg "is_moment" Er ["thing"] g fd
 d04:∃g fd,FD K mg "is_runner" Es ["thing"] g fd
 d05:∃g fd,FD K mg "is_term" Et ["thing"] g fd
 d06:∃g fd,FD K mg "are_shifts" Eu ["thing"] g fd
 d07:∃g fd,FD K mg "is_zone" Ev ["thing"] g fd
 d08:∃g fd,FD K mg "has_word" Ew ["thing","word","length"] g fd
 d09:∃g fd,FD K mg "is_plan" Ex ["thing"] g fd
 d0a:∃g fd,FD K mg "is_late" Ey ["thing"] g fd
 d0b:∃g fd,FD K mg "is_deed" Ez ["thing"] g fd
 d0c:∃g fd,FD K mg "are_deeds" EA ["thing"] g fd
 d0d:∃g fd,FD K mg "check_zone" EB ["thing"] g fd
 d0e:∃g fd,FD K mg "check_moment" EC ["thing"] g fd
 d0f:∃g fd,FD K mg "check_deeds" ED ["thing"] g fd
 d0g:∃g fd,FD K mg "check_runner" EE ["thing"] g fd
 d0h:∃g fd,FD K mg "check_term" EF ["thing"] g fd
 d0i:∃g fd,FD K mg "shown" EG ["zone","moment"] g fd
 d0j:∃g fd,FD K mg "stretches" EH ["zone"] g fd
 d0k:∃g fd,FD K mg "is_ahead_of" EI ["moment","end"] g fd
 d0l:∃g fd,FD K mg "first_showing" EJ ["zone","hours"] g fd
 d0m:∃g fd,FD K mg "furthest_shown" EK ["zone","moment"] g fd
 d0n:∃g fd,FD K mg "first_day" EL ["zone","hour"] g fd
 d0o:∃g fd,FD K mg "daily_time" EM ["zone","hour","count"] g fd
 d0p:∃g fd,FD K mg "time_of" EN ["zone","plan","count"] g fd
 d0q:∃g fd,FD K mg "times_by" EO ["zone","plan","moment"] g fd
 d0r:∃g fd,FD K mg "is_left_out" EQ ["zone","deed","count","now"] g fd
 d0s:∃g fd,FD K mg "catch_up" Fh ["hall","runner","moment","most"] g fd
 d0t:∃g fd,FD K mg "_law_cell_at" Fi ["_law_script","_law_k"] g fd
 d0u:∃g fd,FD K mg "_law_mixed" Fj ["_law_script","_law_k","_law_many"] g fd
 d0v:∃g fd,FD K mg "_law_draw" Fk ["_law_script","_law_town","_law_many"] g fd
 d0w:∃g fd,FD K mg "_law_pick" Fm ["_law_script","_law_town","_law_some"] g fd
 d0x:∃g fd,FD K mg "_law_zone" Fo ["_law_script","_law_town"] g fd
 d0y:∃g fd,FD K mg "_law_clock" Fp ["_law_zone_here","_law_moment"] g fd
 d0z:∃g fd,FD K mg "_law_plan" Fq ["_law_script","_law_town"] g fd
 d10:∃g fd,FD K mg "_law_dues" Fs ["_law_zone_here","_law_plan_here","_law_last"] g fd
 d11:∃g fd,FD K mg "_law_deeds" Ft ["_law_script","_law_town"] g fd
 d12:∃g fd,FD K mg "_law_words" Fu ["_law_zone_here","_law_deeds_here","_law_now","_law_counts"] g fd
 d13:∃t,mg "LAST_MOMENT" = some (.int (9999) t)
 d14:∃t,mg "LAST_HOUR" = some (.int (23) t)
 d15:∃t,mg "LEAST_AHEAD" = some (.int (-12) t)
 d16:∃t,mg "MOST_AHEAD" = some (.int (14) t)
 d17:∃t,mg "MOST_SHIFTS" = some (.int (6) t)
 d18:∃t,mg "MOST_STEP" = some (.int (999) t)
 d19:∃t,mg "MOST_DEEDS" = some (.int (6) t)
 d1a:∃t,mg "MOST_WITHIN" = some (.int (999) t)
 d1b:∃t,mg "LAST_RUNNER" = some (.int (3) t)
 d1c:∃t,mg "MOST_TERM" = some (.int (99) t)
 d1d:∃t,mg "DAY_HOURS" = some (.int (24) t)
 d1e:∃t,mg "PLAN" = some (.int (0) t)
 d1f:∃t,mg "LATE" = some (.int (1) t)
 d1g:∃t,mg "AGAIN" = some (.int (2) t)
 d1h:∃t,mg "MOST_STEPS" = some (.int (999) t)
 d1i:mg "all" = none
 d1j:mg "bool" = none
 d1k:mg "enumerate" = none
 d1l:mg "int" = none
 d1m:mg "isinstance" = none
 d1n:mg "len" = none
 d1o:mg "list" = none
 d1p:mg "max" = none
 d1q:mg "min" = none
 d1r:mg "range" = none
 d1s:mg "sorted" = none
 d1t:mg "str" = none
 d1u:mg "tuple" = none
 d1v:mg "zip" = none
structure eV (K:Frag) (mg:Str->Option Value) (C:Addr):Prop where
 cl:dB K C
 mg:mg "Hall" = some (.ref C)
 mks:PySem.W.makesIn K C=true
 kpC:keepIn K (.ref C)=true
 d1w:cJ K C "begun"
 d1x:cJ K C "deeds"
 d1y:cJ K C "holder"
 d1z:cJ K C "holds"
 d20:cJ K C "last"
 d21:cJ K C "rows"
 d22:cJ K C "settled"
 d23:cJ K C "until"
 d24:cJ K C "words"
 d25:cJ K C "zone"
 d26:∃g fd,MD K C "__init__" "Hall.__init__" ER ["self","zone","deeds"] g fd
 d27:∃g fd,MD K C "is_held" "Hall.is_held" ES ["self","moment"] g fd
 d28:∃g fd,MD K C "check_call" "Hall.check_call" ET ["self","runner","moment"] g fd
 d29:∃g fd,MD K C "check_holder" "Hall.check_holder" EU ["self","runner","moment"] g fd
 d2a:∃g fd,MD K C "take" "Hall.take" EV ["self","runner","moment","term"] g fd
 d2b:∃g fd,MD K C "add_row" "Hall.add_row" EW ["self","row"] g fd
 d2c:∃g fd,MD K C "is_busy" "Hall.is_busy" EY ["self"] g fd
 d2d:∃g fd,MD K C "first_unsettled" "Hall.first_unsettled" EZ ["self"] g fd
 d2e:∃g fd,MD K C "step" "Hall.step" Fa ["self","runner","moment"] g fd
 d2f:∃g fd,MD K C "step_behind_a_fall" "Hall.step_behind_a_fall" Fb ["self","runner","moment"] g fd
 d2g:∃g fd,MD K C "step_ahead" "Hall.step_ahead" Fc ["self","runner","moment"] g fd
 d2h:∃g fd,MD K C "finish" "Hall.finish" Fd ["self","runner","moment"] g fd
 d2i:∃g fd,MD K C "held" "Hall.held" Fe ["self"] g fd
 d2j:∃g fd,MD K C "log" "Hall.log" Ff ["self"] g fd
 d2k:∃g fd,MD K C "waiting" "Hall.waiting" Fg ["self"] g fd
theorem eV.make{K}{mg}(h:eV K mg C)(M:iR K C "__init__" g):Mk K C g:=⟨h.mks,M.at_,M.fn,h.kpC⟩
theorem Fv:bootBuiltins "int" = some (.type "int"):=by decide +kernel
theorem Fw:bootBuiltins "bool" = some (.type "bool"):=by decide +kernel
theorem Fy:bootBuiltins "str" = some (.type "str"):=by decide +kernel
theorem oA:bootBuiltins "tuple" = some (.type "tuple"):=by decide +kernel
theorem Wa:bootBuiltins "list" = some (.type "list"):=by decide +kernel
theorem tW:bootBuiltins "max" = some (.builtin "max"):=by decide +kernel
theorem Wb:bootBuiltins "divmod" = some (.builtin "divmod"):=by decide +kernel
theorem Sr:bootBuiltins "all" = some (.builtin "all"):=by decide +kernel
theorem Wc:bootBuiltins "any" = some (.builtin "any"):=by decide +kernel
theorem We:bootBuiltins "sum" = some (.builtin "sum"):=by decide +kernel
theorem Wf:bootBuiltins "min" = some (.builtin "min"):=by decide +kernel
theorem Ss:bootBuiltins "sorted" = some (.builtin "sorted"):=by decide +kernel
theorem kL(a:GF X.mg F):fH X F fO:=⟨a,fun _ _ _ _ _ _ _ _ _ _ z=>z.elim⟩
end K3
namespace K3
open PySem PySem.Spec L2 L2.L3 PyProof.Rows
local macro_rules | `(tactic|walk_at "z")=>`(tactic|first |exact CQ (by kernel_rfl) |exact PassesOwn.leaving)
local macro_rules | `(tactic|walk_at "a")=>`(tactic|(refine dS ?_;refine Pj ?_))
local macro_rules | `(tactic|walk_at "c")=>`(tactic|(refine gT ?_ ?_;(refine Bu ?_ ?_ ?_ ?_ ?_ ?_<;>try walk_at "z")))
local macro_rules | `(tactic|walk_at "d")=>`(tactic|(refine gT ?_ ?_;refine Bv ?_ ?_ ?_))
local macro_rules | `(tactic|walk_at "e")=>`(tactic|(refine gT ?_ ?_;refine BU ?_ ?_ ?_ ?_ ?_))
local macro_rules | `(tactic|walk_at "h")=>`(tactic|(refine gT ?_ ?_;(refine Po ?_ ?_ ?_ ?_ ?_ ?_<;>try walk_at "z")))
local macro_rules | `(tactic|walk_at "j")=>`(tactic|(refine gT ?_ ?_;(refine Ph ?_ ?_ ?_ ?_ ?_ ?_<;>try walk_at "z")))
local macro_rules | `(tactic|walk_at "k")=>`(tactic|(refine dS ?_;(refine BD ?_ ?_ ?_ ?_ ?_ ?_ ?_ ?_<;>try walk_at "z")))
local macro_rules | `(tactic|walk_at "z")=>`(tactic|first|rfl|exact .inl rfl|exact .inr rfl|assumption|exact fun _=>rfl)
section
variable{P:Program}{w:World}{K:Frag}{mg:Str->Option Value}{base:Heap}
theorem kM(T:Tx K mg):CK P w K mg base 1 "is_whole" hJ:=by
 refine cn ["thing","least","most"] T.d00 bH fun a b=>?_
 walk_at "a"
 exact(fN (ko (ke rfl T.d1m (fv 0) (jV rfl T.d1l Fv rfl))) (fN (OS (ko (ke rfl T.d1m (fv 0) (jV rfl T.d1j Fw rfl)))) (gR (PR (fv 1) (fv 0) (fv 2)))))
theorem tZ(T:Tx K mg):CK P w K mg base 1 "is_tuple_of" lE:=by
 refine cn ["thing","length"] T.d01 bH fun a b=>?_
 walk_at "a"
 exact(fN (ko (ke rfl T.d1m (fv 0) (jV rfl T.d1u oA rfl))) (gR (lu a.units (fu km (gv iU ki rfl T.d1n q0X (aA (fv 0) bb))) (fv 1))))
theorem Su(T:Tx K mg):CK P w K mg base 1 "shown" sW:=by
 refine cn ["zone","moment","ahead","shift"] T.d0i bH fun a b=>?_
 walk_at "c"
 exact(aV (fv 0) (ae ao))
 walk_at "h"
 exact(lg (aV (fv 0) (ae ao)));exact(cp 3)
 (refine dS ?_;refine Bv ?_ ?_ ?_)
 exact(pD (aV (fv 3) (ae ao)) (fv 1))
 (refine dS ?_;(refine Bu ?_ ?_ ?_ ?_ ?_ ?_<;>try walk_at "z"))
 exact(aV (fv 3) (ae ao));exact bT
 walk_at "a"
 exact(cW (fv 1) (fv 2))
theorem Fz(T:Tx K mg):CK P w K mg base 1 "stretches" qe:=by
 refine cn ["zone","starts","ends","aheads"] T.d0j bH fun c a=>?_
 walk_at "c"
 exact(pC (gA (aA (ae ao) bb)) (lh a.1 (ag.of (own:=["shift"]) (capN:=[])) rfl rfl (lg (aV (fv 0) (ae ao))) (fun _ _ _ _ _ _ b=>⟨(cp 0),jI,(aV (fv 0) (ae ao))⟩)))
 walk_at "c"
 exact(pC (PD (Oa (fv 1))) (gA (aA (ae fG) bb)))
 walk_at "c"
 exact(pC (gA (aA (aV (fv 0) (ae ao)) bb)) (lh a.1 (ag.of (own:=["shift"]) (capN:=[])) rfl rfl (lg (aV (fv 0) (ae ao))) (fun _ _ _ _ _ _ b=>⟨(cp 0),jI,(aV (fv 0) (ae ao))⟩)))
 walk_at "a"
 exact(PB (NY rfl rfl T.d1o rfl T.d1v (aA (fv 1) (aA (fv 2) (aA (fv 3) bb)))))
theorem FC(T:Tx K mg):CK P w K mg base 1 "is_ahead_of" qf:=by
 refine cn ["moment","end"] T.d0k bH fun a b=>?_
 walk_at "a"
 exact(Bl (PQ (fv 1) (ae fG)) (gR (BP (fv 0) (fv 1))))
theorem Sv(T:Tx K mg):CK P w K mg base 1 "_law_cell_at" oj:=by
 refine cn ["_law_script","_law_k"] T.d0t bH fun a b=>?_
 walk_at "d"
 exact(nK (fv 1) (Bp (AQ rfl T.d1n (pv 0))))
 walk_at "a"
 exact(Bq (AS (pv 0) (fv 1) (by intro _ _;rfl)));exact bT
 walk_at "d"
 exact(Pb (Oe a.units (pv 0)))
 walk_at "a"
 exact(ae ao);exact bT
 walk_at "a"
 exact(cW (mD (Bq (AS (pv 0) (pB (fv 1) (Bp (AQ rfl T.d1n (pv 0)))) (by intro _ _;rfl))) (ae ao)) (fv 1))
theorem FF(T:Tx K mg):CK P w K mg base 1 "_law_clock" qg:=by
 refine cn ["_law_zone_here","_law_moment","_law_ahead"] T.d0y bH fun b a=>?_
 walk_at "c"
 exact(pC (gA (aA (aV (fv 0) (ae ao)) bb)) (lh a.1 (ag.of (own:=["_law_begin","_law_more"]) (capN:=["_law_moment"])) rfl rfl (lg (aV (fv 0) (ae ao))) (fun _ _ _ _ _ _ c=>⟨(jF rfl (dN (cp 0) (dN (cp 1) jE))),(we (pD (fv 0) (fv 2))),(fv 1)⟩)))
 walk_at "a"
 exact(cW (fv 1) (aV (fv 2) (rM (ae ao))))
theorem FH(T:Tx K mg)(a:eV K mg C):CM P w K mg base C 1 "is_held" (qh C):=by
 refine gC ["self","moment"] a.d27 bH fun b c=>?_
 walk_at "a"
 exact(fN (ww (dt a.cl a.d1y (pv 0)) (ae fG)) (gR (BP (fv 1) (dt a.cl a.d23 (pv 0)))))
theorem xF(T:Tx K mg)(a:eV K mg C):CM P w K mg base C 1 "add_row" (iO C):=by
 refine gC ["self","row","word","deed","count"] a.d2b bH fun b c=>?_
 walk_at "c"
 exact(aV (fv 1) (ae ao))
 walk_at "c"
 exact(aV (fv 1) (ae ao))
 walk_at "c"
 exact(aV (fv 1) (ae ao));refine gT ?_ ?_;(refine Qe ?_ ?_ ?_ ?_ ?_ ?_ ?_ ?_ ?_ ?_ ?_<;>try walk_at "z");exact a.cl;exact a.d21;exact(pv 0);exact(pv 1);refine gT ?_ ?_;(refine Qf ?_ ?_ ?_ ?_ ?_ ?_ ?_ ?_ ?_ ?_ ?_<;>try walk_at "z");exact(zJ b);exact a.cl;exact a.d24;exact(pv 0);exact(pv 3);exact(pv 4);exact(fv 2)
 walk_at "d"
 exact(fP b.units (fv 2) (ae ca));refine dS (BU ?_ ?_ ?_ ?_ ?_);exact a.cl;exact a.d1w;exact(pv 0);exact(et (aA (fv 3) (aA (fv 4) (aA (dt a.cl a.d1z (pv 0)) bb))));rfl
 walk_at "e"
 exact a.cl;exact a.d1w;exact(pv 0);exact(ae fG);rfl;apply dS;(refine Qh ?_ ?_ ?_ ?_ ?_ ?_ ?_ ?_ ?_ ?_<;>try walk_at "z");exact a.cl;exact a.d22;exact(pv 0);exact(pv 3);exact(cW (fv 4) (ae ao))
 walk_at "a"
 exact(et (aA (fv 2) (aA (fv 3) (aA (fv 4) bb))))
theorem FJ(T:Tx K mg)(a:eV K mg C):CM P w K mg base C 1 "is_busy" (om C):=by
 refine gC ["self"] a.d2c bH fun b c=>?_
 walk_at "a"
 exact(fN (ww (dt a.cl a.d1w (pv 0)) (ae fG)) (gR (lu b.units (aV (dt a.cl a.d1w (pv 0)) (ae ao)) (dt a.cl a.d1z (pv 0)))))
theorem Sw(T:Tx K mg)(a:eV K mg C):CM P w K mg base C 1 "held" (mO C):=by
 refine gC ["self"] a.d2i bH fun b c=>?_
 walk_at "a"
 exact(et (aA (dt a.cl a.d1y (pv 0)) (aA (dt a.cl a.d23 (pv 0)) (aA (dt a.cl a.d1z (pv 0)) bb))))
theorem Sx(T:Tx K mg)(a:eV K mg C):CM P w K mg base C 1 "log" (mP C):=by
 refine gC ["self"] a.d2j bH fun b c=>?_
 walk_at "a"
 exact(Qm rfl T.d1o a.cl a.d21 (pv 0))
theorem FK(T:Tx K mg):CK P w K mg base 2 "is_ahead" qi:=by
 obtain⟨c,a⟩:=T.d15;obtain⟨d,b⟩:=T.d16;refine cn ["thing"] T.d02 bH fun e f=>?_
 (refine dS ?_;refine Pk ?_)
 exact(aZ f (kM T) e (av (fv 0) (av (ae (ee rfl a)) (av (ae (ee rfl b)) aM))))
theorem xG(T:Tx K mg):CK P w K mg base 2 "is_moment" on:=by
 obtain⟨b,a⟩:=T.d13;refine cn ["thing"] T.d03 bH fun c d=>?_
 (refine dS ?_;refine Pk ?_)
 exact(aZ d (kM T) c (av (fv 0) (av (ae ao) (av (ae (ee rfl a)) aM))))
theorem Sy(T:Tx K mg):CK P w K mg base 2 "is_runner" sY:=by
 obtain⟨b,a⟩:=T.d1b;refine cn ["thing"] T.d04 bH fun c d=>?_
 (refine dS ?_;refine Pk ?_)
 exact(aZ d (kM T) c (av (fv 0) (av (ae ao) (av (ae (ee rfl a)) aM))))
theorem Sz(T:Tx K mg):CK P w K mg base 2 "is_term" sZ:=by
 obtain⟨b,a⟩:=T.d1c;refine cn ["thing"] T.d05 bH fun c d=>?_
 (refine dS ?_;refine Pk ?_)
 exact(aZ d (kM T) c (av (fv 0) (av (ae ao) (av (ae (ee rfl a)) aM))))
theorem ua(T:Tx K mg):CK P w K mg base 2 "has_word" lF:=by
 refine cn ["thing","word","length"] T.d08 bH fun a b=>?_
 walk_at "a"
 exact(fN (aX (aZ b (tZ T) a (av (fv 0) (av (fv 2) aM)))) (fN (ko (ke rfl T.d1m (aV (fv 0) (ae ao)) (jV rfl T.d1t Fy rfl))) (gR (lu a.units (aV (fv 0) (ae ao)) (fv 1)))))
theorem SA(T:Tx K mg):CK P w K mg base 2 "first_showing" tf:=by
 obtain⟨_,_,d,c,a,b⟩:=FC T;refine cn ["zone","hours","reached"] T.d0l bH fun e f=>gT ?_ ?_;(refine wh (own:=["start","end","ahead"]) (capN:=["hours"]) ?_ ?_ ?_ ?_ ?_ ?_ ?_ ?_ ?_ ?_ ?_ ?_<;>try walk_at "z");exact f.1;exact(ag.of);exact(nG (aX (aZ f (Fz T) e (av (fv 0) aM))));exact(fun _ _ _ _ _ _ g=>⟨(jF rfl (dN (cp 0) (dN (cp 1) (dN (cp 2) jE)))),(we (eg (dZ (aX (nP (kL g) b a e (av (fu vY (gv (uS rfl) vO rfl T.d1p tW (aA (fv 0) (aA (iq (fv 3) (fv 2)) bb)))) (av (fv 1) aM))))))),(fu vY (gv (uS rfl) vO rfl T.d1p tW (aA (fv 0) (aA (iq (fv 3) (fv 2)) bb))))⟩)
 walk_at "a"
 exact(aV (fv 2) (ae ao))
theorem SD(T:Tx K mg):CK P w K mg base 2 "furthest_shown" tj:=by
 obtain⟨_,_,d,c,a,b⟩:=FC T;refine cn ["zone","moment"] T.d0m bH fun e f=>?_
 walk_at "a"
 exact(fu Pa (gv (OI rfl) OJ rfl T.d1p tW (aA (lh f.1 (ag.of (own:=["start","end","ahead"]) (capN:=["moment"])) rfl rfl (nG (aX (aZ f (Fz T) e (av (fv 0) aM)))) (fun _ _ _ _ _ _ g=>⟨(jF rfl (dN (cp 0) (dN (cp 1) (dN (cp 2) jE)))),(we (pD (fv 0) (fv 3))),(cW (pf (eg (dZ (aX (nP (kL g) b a e (av (fv 3) (av (fv 1) aM)))))) (fv 3) (iq (fv 1) (ae ao))) (fv 2))⟩)) bb)))
theorem FL(T:Tx K mg):CK P w K mg base 2 "first_day" qk:=by
 obtain⟨b,a⟩:=T.d1d;refine cn ["zone","hour"] T.d0n bH fun c d=>?_
 walk_at "a"
 exact(rM (wv (iq (fv 1) (aX (aZ d (Su T) c (av (fv 0) (av (ae ao) aM))))) (ae (ee rfl a))))
theorem SE(T:Tx K mg):CK P w K mg base 2 "_law_mixed" tm:=by
 refine cn ["_law_script","_law_k","_law_many","_law_drawn"] T.d0u bH fun a b=>?_
 walk_at "c"
 exact(pB (mD (cW (cW (aX (aZ b (Sv T) a (bG (pv 0) (av (fv 1) aM)))) (mD (ae ao) (fv 1))) (ae ao)) (ae ao)) (ae ao))
 walk_at "a"
 exact(pB (pB (cW (cW (mD (fv 3) (fv 3)) (mD (ae ao) (fv 3))) (fv 1)) (ae ao)) (fv 2))
theorem SF(T:Tx K mg):CK P w K mg base 2 "_law_dues" kE:=by
 refine cn ["_law_zone_here","_law_plan_here","_law_last","_law_made","_law_goal","_law_moment"] T.d10 bH fun a b=>?_
 walk_at "d"
 exact(fP a.units (aV (fv 1) (ae ao)) (ae ca))
 walk_at "a"
 exact(BO (gA (aA (aV (fv 1) (ae ao)) bb)) (fu OV (vB JO NW rfl T.d1l Fv (aA (BQ (aV (fv 1) (ae ao)) (fv 2)) bb))));exact bT
 walk_at "d"
 exact(fP a.units (aV (fv 1) (ae ao)) (ae ca))
 walk_at "a"
 exact(PC (OF rfl rfl T.d1o rfl T.d1r (aA (aV (fv 1) (ae ao)) (aA (cW (fv 2) (ae ao)) (aA (aV (fv 1) (ae ao)) bb)))));exact bT
 walk_at "j"
 exact(li bb)
 walk_at "c"
 exact(iq (aV (fv 1) (ae ao)) (ae ao));refine gT ?_ ?_;refine Bz ?_ ?_ ?_;exact PassesOwn.leaving;exact(nK (fv 4) (aX (aZ b (FF T) a (av (fv 0) (av (ae ao) aM)))))
 (refine dS ?_;(refine Bu ?_ ?_ ?_ ?_ ?_ ?_<;>try walk_at "z"))
 exact(cW (fv 4) (ae ao))
 walk_at "h"
 exact(nH (nt rfl T.d1r (aA (cW (fv 2) (ae ao)) bb)));exact(cp 5);refine dS (Bz ?_ ?_ ?_);exact PassesOwn.leaving;exact(pD (fv 4) (aX (aZ b (FF T) a (av (fv 0) (av (fv 5) aM)))))
 (refine gT ?_ ?_;(refine BD ?_ ?_ ?_ ?_ ?_ ?_ ?_ ?_<;>try walk_at "z"))
 exact(pv 3);exact(fv 5)
 (refine dS ?_;(refine Bu ?_ ?_ ?_ ?_ ?_ ?_<;>try walk_at "z"))
 exact(cW (fv 4) (ae ao));exact dS (By ((pv 3)))
theorem SG(T:Tx K mg)(b:eV K mg C):CM P w K mg base C 2 "step_behind_a_fall" (qo C):=by
 obtain⟨c,a⟩:=T.d1g;refine gC ["self","runner","moment","deed","word"] b.d2f bH fun d e=>?_
 walk_at "c"
 exact(aV (dt b.cl b.d1w (pv 0)) (ae ao))
 walk_at "c"
 exact(pf (eg (dZ (aV (aV (dt b.cl b.d1x (pv 0)) (fv 3)) (ae (ee rfl a))))) (ae ca) (ae ca))
 (refine dS ?_;refine Pk ?_)
 exact(gD e b.cl (xF T b) d (pv 0) (av (et (aA (fv 2) (aA (fv 1) (aA (fv 4) (aA (fv 3) (aA (aV (dt b.cl b.d1w (pv 0)) (ae ao)) bb)))))) aM))
theorem SH(T:Tx K mg):CK P w K mg base 3 "are_shifts" tx:=by
 obtain⟨c,a⟩:=T.d13;obtain⟨d,b⟩:=T.d17;refine cn ["thing","earliest","shift"] T.d06 bH fun e f=>?_
 walk_at "d"
 exact(kl (mz (gS (eg (dZ (ko (ke rfl T.d1m (fv 0) (jV rfl T.d1u oA rfl)))))) (nA (rY (fu km (gv iU ki rfl T.d1n q0X (aA (fv 0) bb))) (ae (ee rfl b))))))
 walk_at "a"
 exact(ae jy);exact bT
 walk_at "c"
 exact(ae ao)
 walk_at "h"
 exact(lg (fv 0));exact(cp 2)
 walk_at "d"
 exact(kl (mz (gS (eg (dZ (aX (aZ f (tZ T) e (av (fv 2) (av (ae ao) aM))))))) (nA (gS (eg (dZ (aX (aZ f (FK T) e (av (aV (fv 2) (ae ao)) aM)))))))))
 walk_at "a"
 exact(ae jy);exact bT
 walk_at "d"
 exact(gS (eg (dZ (aX (aZ f (kM T) e (av (aV (fv 2) (ae ao)) (av (fv 1) (av (ae (ee rfl a)) aM))))))))
 walk_at "a"
 exact(ae jy);exact bT
 (refine dS ?_;(refine Bu ?_ ?_ ?_ ?_ ?_ ?_<;>try walk_at "z"))
 exact(cW (aV (fv 2) (ae ao)) (ae ao))
 walk_at "a"
 exact(ae jy)
theorem SI(T:Tx K mg):CK P w K mg base 3 "is_plan" oq:=by
 obtain⟨c,a⟩:=T.d14;obtain⟨d,b⟩:=T.d18;refine cn ["thing"] T.d09 bH fun e f=>?_
 walk_at "d"
 exact(eg (dZ (aX (aZ f (ua T) e (av (fv 0) (av (ae ca) (av (ae ao) aM)))))))
 (refine dS ?_;refine Pk ?_)
 exact(aZ f (xG T) e (av (aV (fv 0) (ae ao)) aM));exact bT
 walk_at "d"
 exact(eg (dZ (aX (aZ f (ua T) e (av (fv 0) (av (ae ca) (av (ae ao) aM)))))))
 walk_at "a"
 exact(fN (aX (aZ f (xG T) e (av (aV (fv 0) (ae ao)) aM))) (gR (aX (aZ f (kM T) e (av (aV (fv 0) (ae ao)) (av (ae ao) (av (ae (ee rfl b)) aM)))))));exact bT
 walk_at "a"
 exact(fN (aX (aZ f (ua T) e (av (fv 0) (av (ae ca) (av (ae ao) aM))))) (gR (aX (aZ f (kM T) e (av (aV (fv 0) (ae ao)) (av (ae ao) (av (ae (ee rfl a)) aM)))))))
theorem SJ(T:Tx K mg):CK P w K mg base 3 "is_late" ot:=by
 obtain⟨b,a⟩:=T.d1a;refine cn ["thing"] T.d0a bH fun c d=>?_
 walk_at "d"
 exact(eg (dZ (ko (ke rfl T.d1m (fv 0) (jV rfl T.d1t Fy rfl)))))
 walk_at "a"
 exact(Bl (lu c.units (fv 0) (ae ca)) (gR (lu c.units (fv 0) (ae ca))));exact bT
 walk_at "a"
 exact(fN (aX (aZ d (ua T) c (av (fv 0) (av (ae ca) (av (ae ao) aM))))) (gR (aX (aZ d (kM T) c (av (aV (fv 0) (ae ao)) (av (ae ao) (av (ae (ee rfl a)) aM)))))))
theorem SK(T:Tx K mg):CK P w K mg base 3 "check_moment" tF:=by
 refine cn ["thing"] T.d0e bH fun a b=>?_
 (refine dS ?_;refine Bv ?_ ?_ ?_)
 exact(gS (eg (dZ (aX (aZ b (xG T) a (av (fv 0) aM))))));refine dS ?_;exact kv;exact bT
theorem SL(T:Tx K mg):CK P w K mg base 3 "check_runner" tG:=by
 refine cn ["thing"] T.d0g bH fun a b=>?_
 (refine dS ?_;refine Bv ?_ ?_ ?_)
 exact(gS (eg (dZ (aX (aZ b (Sy T) a (av (fv 0) aM))))));refine dS ?_;exact kv;exact bT
theorem SN(T:Tx K mg):CK P w K mg base 3 "check_term" tH:=by
 refine cn ["thing"] T.d0h bH fun a b=>?_
 (refine dS ?_;refine Bv ?_ ?_ ?_)
 exact(gS (eg (dZ (aX (aZ b (Sz T) a (av (fv 0) aM))))));refine dS ?_;exact kv;exact bT
theorem SO(T:Tx K mg):CK P w K mg base 3 "daily_time" tI:=by
 obtain⟨b,a⟩:=T.d1d;refine cn ["zone","hour","count","day"] T.d0o bH fun c d=>?_
 walk_at "c"
 exact(cW (aX (aZ d (FL T) c (av (fv 0) (av (fv 1) aM)))) (fv 2))
 (refine dS ?_;refine Pk ?_)
 exact(aZ d (SA T) c (av (fv 0) (av (cW (mD (fv 3) (ae (ee rfl a))) (fv 1)) aM)))
theorem SQ(T:Tx K mg):CK P w K mg base 3 "times_by" lG:=by
 obtain⟨b,a⟩:=T.d1d;refine cn ["zone","plan","moment","last_day"] T.d0q bH fun c d=>?_
 walk_at "d"
 exact(nK (fv 2) (ae ao))
 walk_at "a"
 exact(ae ao);exact bT
 walk_at "d"
 exact(fP c.units (aV (fv 1) (ae ao)) (ae ca))
 walk_at "a"
 exact(pf (pD (aV (fv 1) (ae ao)) (fv 2)) (ae ao) (ae ao));exact bT
 walk_at "d"
 exact(fP c.units (aV (fv 1) (ae ao)) (ae ca))
 walk_at "a"
 exact(fu vY (gv (uS rfl) vO rfl T.d1p tW (aA (ae ao) (aA (cW (wv (iq (fv 2) (aV (fv 1) (ae ao))) (aV (fv 1) (ae ao))) (ae ao)) bb))));exact bT
 walk_at "c"
 exact(wv (iq (aX (aZ d (SD T) c (av (fv 0) (av (fv 2) aM)))) (aV (fv 1) (ae ao))) (ae (ee rfl a)))
 walk_at "a"
 exact(cW (iq (fv 3) (aX (aZ d (FL T) c (av (fv 0) (av (aV (fv 1) (ae ao)) aM))))) (ae ao))
theorem gd(T:Tx K mg):CK P w K mg base 3 "_law_draw" ej:=by
 refine cn ["_law_script","_law_town","_law_many"] T.d0v bH fun a b=>?_
 (refine gT ?_ ?_;(refine BD ?_ ?_ ?_ ?_ ?_ ?_ ?_ ?_<;>try walk_at "z"))
 exact(pv 1);exact(ae ao)
 (refine dS ?_;refine Pk ?_)
 exact(aZ b (SE T) a (bG (pv 0) (av (Ps rfl T.d1n (pv 1)) (av (fv 2) aM))))
theorem SR(T:Tx K mg):CK P w K mg base 3 "_law_words" jl:=by
 refine cn ["_law_zone_here","_law_deeds_here","_law_now","_law_counts","_law_rows","_law_deed","_law_plan_here","_law_late","_law_again","_law_some","_law_k","_law_moment","_law_word"] T.d12 bH fun a b=>?_
 walk_at "j"
 exact(li bb)
 walk_at "h"
 exact(RI (RH rfl T.d1k (aA (fv 1) bb)));exact(jF rfl (dN (cp 5) (dN (jF rfl (dN (cp 6) (dN (cp 7) (dN (cp 8) jE)))) jE)))
 walk_at "c"
 exact(Co (lh b.1 (ag.of (own:=["_law_moment"]) (capN:=[])) rfl rfl (nG (aX (aZ b (SF T) a (av (fv 0) (av (fv 6) (av (fv 2) aM)))))) (fun _ _ _ _ _ _ c=>⟨(cp 0),jI,(fv 0)⟩)) (Cm (wY (pv 3) (pv 5))) Ck)
 walk_at "h"
 exact(BA (Ay rfl T.d1k (aA (fv 9) bb)));exact(jF rfl (dN (cp 10) (dN (cp 11) jE)))
 walk_at "c"
 exact(ae ca)
 walk_at "d"
 exact(kl (vX (fP a.units (fv 7) (ae ca)) (vW (nK (cW (fv 10) (ae ao)) (fu km (gv iU ki rfl T.d1n q0X (aA (fv 9) bb)))))))
 (refine dS ?_;(refine Bu ?_ ?_ ?_ ?_ ?_ ?_<;>try walk_at "z"))
 exact(ae ca);exact bT
 walk_at "d"
 exact(kl (vX (eg (dZ (ko (ke rfl T.d1m (fv 7) (jV rfl T.d1u oA rfl))))) (vW (rY (iq (fv 2) (fv 11)) (aV (fv 7) (ae ao))))))
 (refine dS ?_;(refine Bu ?_ ?_ ?_ ?_ ?_ ?_<;>try walk_at "z"))
 exact(ae ca);exact bT
 walk_at "k"
 exact(pv 4);exact(et (aA (fv 11) (aA (fv 5) (aA (cW (wY (pv 3) (pv 5)) (fv 10)) (aA (fv 12) bb)))));exact dS ((RL (pv 3) (pv 5) (cW (wY (pv 3) (pv 5)) (fu km (gv iU ki rfl T.d1n q0X (aA (fv 9) bb))))))
 walk_at "a"
 exact(fu RW (gv TS.call_sortedW RV rfl T.d1s Ss (aA (fv 4) bb)))
theorem SS(T:Tx K mg):CK P w K mg base 4 "is_zone" tK:=by
 refine cn ["thing"] T.d07 bH fun a b=>?_
 walk_at "a"
 exact(fN (aX (aZ b (tZ T) a (av (fv 0) (av (ae ao) aM)))) (fN (aX (aZ b (FK T) a (av (aV (fv 0) (ae ao)) aM))) (gR (aX (aZ b (SH T) a (av (aV (fv 0) (ae ao)) aM))))))
theorem SU(T:Tx K mg):CK P w K mg base 4 "is_deed" tL:=by
 refine cn ["thing"] T.d0b bH fun a b=>?_
 walk_at "a"
 exact(fN (aX (aZ b (tZ T) a (av (fv 0) (av (ae ao) aM)))) (fN (aX (aZ b (SI T) a (av (aV (fv 0) (ae ao)) aM))) (fN (aX (aZ b (SJ T) a (av (aV (fv 0) (ae ao)) aM))) (gR (ko (ke rfl T.d1m (aV (fv 0) (ae ao)) (jV rfl T.d1j Fw rfl)))))))
theorem xH(T:Tx K mg):CK P w K mg base 4 "time_of" jm:=by
 refine cn ["zone","plan","count"] T.d0p bH fun a b=>?_
 walk_at "d"
 exact(fP a.units (aV (fv 1) (ae ao)) (ae ca))
 walk_at "a"
 exact(pf (fP a.units (fv 2) (ae ao)) (aV (fv 1) (ae ao)) (ae fG));exact bT
 walk_at "d"
 exact(fP a.units (aV (fv 1) (ae ao)) (ae ca))
 walk_at "a"
 exact(cW (aV (fv 1) (ae ao)) (mD (fv 2) (aV (fv 1) (ae ao))));exact bT
 (refine dS ?_;refine Pk ?_)
 exact(aZ b (SO T) a (av (fv 0) (av (aV (fv 1) (ae ao)) (av (fv 2) aM))))
theorem oB(T:Tx K mg):CK P w K mg base 4 "_law_pick" kG:=by
 refine cn ["_law_script","_law_town","_law_some"] T.d0w bH fun a b=>?_
 walk_at "a"
 exact(aV (fv 2) (aX (aZ b (gd T) a (bG (pv 0) (bG (pv 1) (av (fu km (gv iU ki rfl T.d1n q0X (aA (fv 2) bb))) aM))))))
theorem FQ(T:Tx K mg)(a:eV K mg C):CM P w K mg base C 4 "check_call" (kH C):=by
 refine gC ["self","runner","moment"] a.d28 bH fun b c=>?_
 (refine gT ?_ ?_;refine Pl ?_)
 exact(aZ c (SL T) b (av (fv 1) aM))
 (refine gT ?_ ?_;refine Pl ?_)
 exact(aZ c (SK T) b (av (fv 2) aM))
 (refine dS ?_;refine Bv ?_ ?_ ?_)
 exact(kl (vX (wx (dt a.cl a.d20 (pv 0)) (ae fG)) (vW (nK (fv 2) (dt a.cl a.d20 (pv 0))))));exact dS kv;exact bT
theorem SV(T:Tx K mg)(c:eV K mg C):CM P w K mg base C 4 "waiting" (jN C):=by
 obtain⟨_,_,f,d,a,b⟩:=SQ T;obtain⟨g,e⟩:=T.d1e;refine gC ["self"] c.d2k bH fun j h=>?_
 walk_at "d"
 exact(BR (dt c.cl c.d20 (pv 0)) (ae fG))
 walk_at "a"
 exact(lh h.1 (ag.of (own:=["deed"]) (capN:=[])) rfl rfl (lg (dt c.cl c.d1x (pv 0))) (fun _ _ _ _ _ _ i=>⟨(cp 0),jI,(ae ao)⟩));exact bT
 walk_at "a"
 exact(QH h.1 (ag.of (own:=["deed","many"]) (capN:=["self"])) rfl rfl (QI rfl T.d1v c.cl c.d1x c.d22 (pv 0) (pv 0)) (fun _ _ _ _ _ _ i=>⟨(jF rfl (dN (cp 0) (dN (cp 1) jE))),jI,(iq (aX (nP (kL i) b a j (av (Cc c.cl c.d25 (pv 2)) (av (aV (fv 0) (ae (ee rfl e))) (av (Cc c.cl c.d20 (pv 2)) aM))))) (fv 1))⟩))
theorem SW(T:Tx K mg):CK P w K mg base 5 "are_deeds" xz:=by
 obtain⟨_,_,f,e,b,c⟩:=SU T;obtain⟨d,a⟩:=T.d19;refine cn ["thing"] T.d0c bH fun g h=>?_
 walk_at "d"
 exact(kl (mz (gS (eg (dZ (ko (ke rfl T.d1m (fv 0) (jV rfl T.d1u oA rfl)))))) (nA (rY (fu km (gv iU ki rfl T.d1n q0X (aA (fv 0) bb))) (ae (ee rfl a))))))
 walk_at "a"
 exact(ae jy);exact bT
 walk_at "a"
 exact(fu OX (gv (NU rfl) NX rfl T.d1i Sr (aA (lh h.1 (ag.of (own:=["deed"]) (capN:=[])) rfl rfl (lg (fv 0)) (fun _ _ _ _ _ _ i=>⟨(cp 0),jI,(aX (nP (kL i) c b g (av (fv 0) aM)))⟩)) bb)))
theorem SX(T:Tx K mg):CK P w K mg base 5 "check_zone" qt:=by
 refine cn ["thing"] T.d0d bH fun a b=>?_
 (refine dS ?_;refine Bv ?_ ?_ ?_)
 exact(gS (eg (dZ (aX (aZ b (SS T) a (av (fv 0) aM))))));refine dS ?_;exact kv;exact bT
theorem SY(T:Tx K mg):CK P w K mg base 5 "is_left_out" mQ:=by
 obtain⟨c,b⟩:=T.d1e;obtain⟨d,a⟩:=T.d1f;refine cn ["zone","deed","count","now","later"] T.d0r bH fun e f=>?_
 walk_at "d"
 exact(fP e.units (aV (fv 1) (ae (ee rfl a))) (ae ca))
 walk_at "a"
 exact(ae jy);exact bT
 walk_at "d"
 exact(fP e.units (aV (fv 1) (ae (ee rfl a))) (ae ca))
 walk_at "c"
 exact(aX (aZ f (xH T) e (av (fv 0) (av (aV (fv 1) (ae (ee rfl b))) (av (cW (fv 2) (ae ao)) aM)))))
 walk_at "a"
 exact(fN (ww (fv 4) (ae fG)) (gR (BQ (fv 4) (fv 3))));exact bT
 walk_at "a"
 exact(PP (iq (fv 3) (aX (aZ f (xH T) e (av (fv 0) (av (aV (fv 1) (ae (ee rfl b))) (av (fv 2) aM)))))) (aV (aV (fv 1) (ae (ee rfl a))) (ae ao)))
theorem SZ(T:Tx K mg):CK P w K mg base 5 "_law_zone" qv:=by
 refine cn ["_law_script","_law_town","_law_shifts","_law_moment","_law_k"] T.d0x bH fun a b=>?_
 walk_at "j"
 exact(li bb)
 walk_at "c"
 exact(ae ao)
 walk_at "h"
 exact(nH (nt rfl T.d1r (aA (aX (aZ b (gd T) a (bG (pv 0) (bG (pv 1) (av (ae ao) aM))))) bb)));exact(cp 4)
 walk_at "c"
 exact(cW (cW (fv 3) (ae ao)) (aX (aZ b (gd T) a (bG (pv 0) (bG (pv 1) (av (aX (aZ b (oB T) a (bG (pv 0) (bG (pv 1) (av (gA (aA (ae ao) (aA (ae ao) (aA (ae ao) bb)))) aM))))) aM))))))
 walk_at "k"
 exact(pv 2);exact(et (aA (fv 3) (aA (iq (aX (aZ b (gd T) a (bG (pv 0) (bG (pv 1) (av (ae ao) aM))))) (ae ao)) bb)))
 walk_at "d"
 exact(fP a.units (aX (aZ b (gd T) a (bG (pv 0) (bG (pv 1) (av (ae ao) aM))))) (ae ao));apply dS;(refine wh (own:=["_law_k","_law_one","_law_more"]) (capN:=[]) ?_ ?_ ?_ ?_ ?_ ?_ ?_ ?_ ?_ ?_ ?_ ?_<;>try walk_at "z");exact b.1;exact(ag.of);exact(BA (Ay rfl T.d1k (aA (fv 2) bb)));exact(fun _ _ _ _ _ _ c=>⟨(jF rfl (dN (cp 0) (dN (jF rfl (dN (cp 1) (dN (cp 2) jE))) jE))),jI,(et (aA (fv 1) (aA (cW (ae ao) (pB (fv 0) (ae ao))) bb)))⟩);exact bT
 walk_at "a"
 exact(et (aA (iq (aX (aZ b (gd T) a (bG (pv 0) (bG (pv 1) (av (ae ao) aM))))) (ae ao)) (aA (fu Bm (vB zv AJ rfl T.d1u oA (aA (fv 2) bb))) bb)))
theorem Ta(T:Tx K mg):CK P w K mg base 5 "_law_plan" oy:=by
 refine cn ["_law_script","_law_town","_law_kind","_law_step"] T.d0z bH fun a b=>?_
 walk_at "c"
 exact(aX (aZ b (gd T) a (bG (pv 0) (bG (pv 1) (av (ae ao) aM)))))
 walk_at "d"
 exact(fP a.units (fv 2) (ae ao))
 walk_at "a"
 exact(et (aA (ae ca) (aA (aX (aZ b (gd T) a (bG (pv 0) (bG (pv 1) (av (aX (aZ b (oB T) a (bG (pv 0) (bG (pv 1) (av (gA (aA (ae ao) (aA (ae ao) (aA (ae ao) bb)))) aM))))) aM))))) bb)));exact bT
 walk_at "d"
 exact(nK (fv 2) (ae ao))
 walk_at "c"
 exact(cW (ae ao) (aX (aZ b (gd T) a (bG (pv 0) (bG (pv 1) (av (aX (aZ b (oB T) a (bG (pv 0) (bG (pv 1) (av (gA (aA (ae ao) (aA (ae ao) (aA (ae ao) bb)))) aM))))) aM))))))
 walk_at "a"
 exact(et (aA (ae ca) (aA (aX (aZ b (gd T) a (bG (pv 0) (bG (pv 1) (av (ae ao) aM))))) (aA (fv 3) bb))));exact bT
 walk_at "a"
 exact(et (aA (ae ca) (aA (aX (aZ b (gd T) a (bG (pv 0) (bG (pv 1) (av (ae ao) aM))))) bb)))
theorem FT(T:Tx K mg)(a:eV K mg C):CM P w K mg base C 5 "check_holder" (lI C):=by
 refine gC ["self","runner","moment"] a.d29 bH fun b c=>?_
 (refine gT ?_ ?_;refine Pl ?_)
 exact(gD c a.cl (FQ T a) b (pv 0) (av (fv 1) (av (fv 2) aM)))
 (refine dS ?_;refine Bv ?_ ?_ ?_)
 exact(kl (mz (gS (eg (dZ (aX (gD c a.cl (FH T a) b (pv 0) (av (fv 2) aM)))))) (nA (nL b.units (dt a.cl a.d1y (pv 0)) (fv 1)))));exact dS kv;exact bT
theorem FU(T:Tx K mg)(a:eV K mg C):CM P w K mg base C 5 "take" (kI C):=by
 refine gC ["self","runner","moment","term"] a.d2a bH fun b c=>?_
 (refine gT ?_ ?_;refine Pl ?_)
 exact(gD c a.cl (FQ T a) b (pv 0) (av (fv 1) (av (fv 2) aM)))
 (refine gT ?_ ?_;refine Pl ?_)
 exact(aZ c (SN T) b (av (fv 3) aM))
 walk_at "e"
 exact a.cl;exact a.d20;exact(pv 0);exact(fv 2);rfl
 walk_at "d"
 exact(gS (eg (dZ (aX (gD c a.cl (FH T a) b (pv 0) (av (fv 2) aM))))));refine dS (Qi ?_ ?_ ?_ ?_);exact a.cl;exact a.d1z;exact(pv 0);exact uF
 (refine dS ?_;refine Bv ?_ ?_ ?_)
 exact(nL b.units (dt a.cl a.d1y (pv 0)) (fv 1))
 walk_at "a"
 exact(ae jy);exact bT
 walk_at "e"
 exact a.cl;exact a.d1y;exact(pv 0);exact(fv 1);rfl
 walk_at "e"
 exact a.cl;exact a.d23;exact(pv 0);exact(cW (fv 2) (fv 3));rfl
 walk_at "a"
 exact(ae jy)
theorem Tb(T:Tx K mg)(a:eV K mg C):CM P w K mg base C 5 "first_unsettled" (xD C):=by
 obtain⟨c,b⟩:=T.d1e;refine gC ["self","found","deed","count","moment"] a.d2d bH fun d e=>?_
 walk_at "j"
 exact(li bb)
 walk_at "h"
 exact(nH (nt rfl T.d1r (aA (fu km (gv iU ki rfl T.d1n q0X (aA (dt a.cl a.d1x (pv 0)) bb))) bb)));exact(cp 2)
 walk_at "c"
 exact(Qg a.cl a.d22 (pv 0) (pv 2))
 walk_at "c"
 exact(aX (aZ e (xH T) d (av (dt a.cl a.d25 (pv 0)) (av (aV (aV (dt a.cl a.d1x (pv 0)) (fv 2)) (ae (ee rfl b))) (av (fv 3) aM)))))
 (refine dS ?_;refine Bv ?_ ?_ ?_)
 exact(wx (fv 4) (ae fG))
 walk_at "k"
 exact(pv 1);exact(et (aA (fv 4) (aA (fv 2) (aA (fv 3) bb))));exact bT
 walk_at "a"
 exact(QQ (zJ d) rfl rfl T.d1q (pv 1))
theorem Tc(T:Tx K mg):CK P w K mg base 6 "check_deeds" qw:=by
 refine cn ["thing"] T.d0f bH fun a b=>?_
 (refine dS ?_;refine Bv ?_ ?_ ?_)
 exact(gS (eg (dZ (aX (aZ b (SW T) a (av (fv 0) aM))))));refine dS ?_;exact kv;exact bT
theorem Td(T:Tx K mg):CK P w K mg base 6 "_law_deeds" tR:=by
 refine cn ["_law_script","_law_town","_law_made","_law_k","_law_hours","_law_late"] T.d11 bH fun a b=>?_
 walk_at "j"
 exact(li bb)
 walk_at "h"
 exact(nH (nt rfl T.d1r (aA (aX (aZ b (gd T) a (bG (pv 0) (bG (pv 1) (av (aX (aZ b (oB T) a (bG (pv 0) (bG (pv 1) (av (gA (aA (ae ao) (aA (ae ao) (aA (ae ao) bb)))) aM))))) aM))))) bb)));exact(cp 3)
 walk_at "c"
 exact(aX (aZ b (gd T) a (bG (pv 0) (bG (pv 1) (av (aX (aZ b (oB T) a (bG (pv 0) (bG (pv 1) (av (gA (aA (ae ao) (aA (ae ao) (aA (ae ao) bb)))) aM))))) aM)))))
 walk_at "c"
 exact(aX (aZ b (oB T) a (bG (pv 0) (bG (pv 1) (av (gA (aA (ae ca) (aA (ae ca) (aA (et (aA (ae ca) (aA (fv 4) bb))) bb)))) aM)))))
 walk_at "k"
 exact(pv 2);exact(et (aA (aX (aZ b (Ta T) a (bG (pv 0) (bG (pv 1) aM)))) (aA (fv 5) (aA (lu a.units (aX (aZ b (gd T) a (bG (pv 0) (bG (pv 1) (av (ae ao) aM))))) (ae ao)) bb))))
 walk_at "a"
 exact(fu Bm (vB zv AJ rfl T.d1u oA (aA (fv 2) bb)))
theorem Te(T:Tx K mg)(a:eV K mg C):CM P w K mg base C 6 "step_ahead" (mS C):=by
 refine gC ["self","runner","moment","found","deed","count","word"] a.d2g bH fun b c=>?_
 walk_at "c"
 exact(aX (oa c a.cl (Tb T a) b (pv 0)))
 walk_at "d"
 exact(BR (fv 3) (ae fG))
 walk_at "a"
 exact(et (aA (ae ca) (aA (ae fG) bb)));exact bT
 walk_at "d"
 exact(rY (aV (fv 3) (ae ao)) (fv 2))
 walk_at "a"
 exact(et (aA (ae ca) (aA (aV (fv 3) (ae ao)) bb)));exact bT
 walk_at "c"
 exact(aV (fv 3) (ae ao))
 walk_at "c"
 exact(aV (fv 3) (ae ao))
 walk_at "c"
 exact(pf (eg (dZ (aX (aZ c (SY T) b (av (dt a.cl a.d25 (pv 0)) (av (aV (dt a.cl a.d1x (pv 0)) (fv 4)) (av (fv 5) (av (fv 2) aM)))))))) (ae ca) (ae ca))
 (refine dS ?_;refine Pk ?_)
 exact(gD c a.cl (xF T a) b (pv 0) (av (et (aA (fv 2) (aA (fv 1) (aA (fv 6) (aA (fv 4) (aA (fv 5) bb)))))) aM))
theorem Tf(T:Tx K mg)(a:eV K mg C):CM P w K mg base C 6 "finish" (qy C):=by
 refine gC ["self","runner","moment"] a.d2h bH fun b c=>?_
 (refine gT ?_ ?_;refine Pl ?_)
 exact(gD c a.cl (FT T a) b (pv 0) (av (fv 1) (av (fv 2) aM)))
 walk_at "d"
 exact(gS (eg (dZ (aX (oa c a.cl (FJ T a) b (pv 0))))));exact dS kv;exact bT
 walk_at "e"
 exact a.cl;exact a.d20;exact(pv 0);exact(fv 2);rfl
 (refine dS ?_;refine Pk ?_)
 exact(gD c a.cl (xF T a) b (pv 0) (av (et (aA (fv 2) (aA (fv 1) (aA (ae ca) (aA (aV (dt a.cl a.d1w (pv 0)) (ae ao)) (aA (aV (dt a.cl a.d1w (pv 0)) (ae ao)) bb)))))) aM))
theorem Tg(T:Tx K mg)(a:eV K mg C):CM P w K mg base C 7 "__init__" (tT C):=by
 refine gC ["self","zone","deeds"] a.d26 bH fun c b=>?_
 (refine gT ?_ ?_;refine Pl ?_)
 exact(aZ b (SX T) c (av (fv 1) aM))
 (refine gT ?_ ?_;refine Pl ?_)
 exact(aZ b (Tc T) c (av (fv 2) aM))
 walk_at "e"
 exact a.cl;exact a.d25;exact(pv 0);exact(fv 1);rfl
 walk_at "e"
 exact a.cl;exact a.d1x;exact(pv 0);exact(fv 2);rfl
 walk_at "e"
 exact a.cl;exact a.d20;exact(pv 0);exact(ae fG);rfl
 walk_at "e"
 exact a.cl;exact a.d1y;exact(pv 0);exact(ae fG);rfl
 walk_at "e"
 exact a.cl;exact a.d23;exact(pv 0);exact(ae ao);rfl
 walk_at "e"
 exact a.cl;exact a.d1z;exact(pv 0);exact(ae ao);rfl
 walk_at "e"
 exact a.cl;exact a.d1w;exact(pv 0);exact(ae fG);rfl;refine gT ?_ ?_;refine Qk ?_ ?_ ?_ ?_;exact a.cl;exact a.d21;exact(pv 0);rfl;refine gT ?_ ?_;refine Ql ?_ ?_ ?_ ?_;exact a.cl;exact a.d24;exact(pv 0);rfl;apply dS;(refine QL (own:=["deed"]) (capN:=[]) ?_ ?_ ?_ ?_ ?_ ?_ ?_ ?_ ?_ ?_ ?_<;>try walk_at "z");exact a.cl;exact a.d22;exact(pv 0);exact b.1;exact(ag.of);exact(lg (fv 2));exact(fun _ _ _ _ _ _ d=>⟨(cp 0),jI,(ae ao)⟩)
theorem Th(T:Tx K mg)(a:eV K mg C):CM P w K mg base C 7 "step" (kJ C):=by
 refine gC ["self","runner","moment"] a.d2e bH fun b c=>?_
 (refine gT ?_ ?_;refine Pl ?_)
 exact(gD c a.cl (FT T a) b (pv 0) (av (fv 1) (av (fv 2) aM)))
 walk_at "e"
 exact a.cl;exact a.d20;exact(pv 0);exact(fv 2);rfl
 walk_at "d"
 exact(eg (dZ (aX (oa c a.cl (FJ T a) b (pv 0)))))
 walk_at "a"
 exact(et (aA (ae ca) (aA (aV (dt a.cl a.d1w (pv 0)) (ae ao)) (aA (aV (dt a.cl a.d1w (pv 0)) (ae ao)) bb))));exact bT
 walk_at "d"
 exact(wx (dt a.cl a.d1w (pv 0)) (ae fG))
 (refine dS ?_;refine Pk ?_)
 exact(gD c a.cl (SG T a) b (pv 0) (av (fv 1) (av (fv 2) aM)));exact bT
 (refine dS ?_;refine Pk ?_)
 exact(gD c a.cl (Te T a) b (pv 0) (av (fv 1) (av (fv 2) aM)))
theorem FV(T:Tx K mg)(d:eV K mg C):CK P w K mg base 8 "catch_up" (jO C):=by
 obtain⟨b,a⟩:=T.d1h;refine cn ["hall","runner","moment","most","told","made","row"] T.d0s bH fun c e=>?_
 walk_at "d"
 exact(gS (eg (dZ (aX (aZ e (kM T) c (av (fv 3) (av (ae ao) (av (ae (ee rfl a)) aM))))))));exact dS kv;exact bT
 walk_at "j"
 exact(li bb)
 walk_at "h"
 exact(nH (nt rfl T.d1r (aA (fv 3) bb)));exact(cp 5)
 walk_at "c"
 exact(aX (gD e d.cl (Th T d) c (pv 0) (av (fv 1) (av (fv 2) aM))))
 (refine gT ?_ ?_;(refine BD ?_ ?_ ?_ ?_ ?_ ?_ ?_ ?_<;>try walk_at "z"))
 exact(pv 4);exact(fv 6)
 walk_at "d"
 exact(fP c.units (aV (fv 6) (ae ao)) (ae ca));exact dS Pm;exact bT
 (refine dS ?_;refine Bv ?_ ?_ ?_)
 exact(kl (mz (fP c.units (aV (fv 6) (ae ao)) (ae ca)) (nA (fP c.units (aV (fv 6) (ae ao)) (ae ca)))))
 walk_at "k"
 exact(pv 4);exact(aX (gD e d.cl (Tf T d) c (pv 0) (av (fv 1) (av (fv 2) aM))));exact bT;exact dS (By ((pv 4)))
variable(P w)(base) in
theorem Ti{C:Addr}{g:Addr}{fd:FuncData}(T:Tx K mg)(i:eV K mg C)(D:FD K mg "law" lJ ["_law_script"] g fd):bX P w K mg base (dR P w) 9 g fd ["_law_script"] (fq K mg (Em C)):=by
 obtain⟨_,_,_,l,j,a,e⟩:=Tg (P:=P) (w:=w) (base:=base) T i;obtain⟨_,_,m,k,c,d⟩:=SR (P:=P) (w:=w) (base:=base) T;refine vH D.fn Sq (by decide) ?_;intro p A o s H E F r f h
 walk_at "j"
 exact(li bb)
 walk_at "c"
 exact(aX (aZ h (SZ T) f (bG (pv 0) (bG (pv 1) aM))))
 walk_at "c"
 exact(aX (aZ h (Td T) f (bG (pv 0) (bG (pv 1) aM))))
 walk_at "j"
 exact(Qb h (i.make a.mt) e (f.mono (by decide)) rfl i.mg a.b (aA (fv 2) (aA (fv 3) bb)))
 (refine gT ?_ ?_;refine Pl ?_)
 exact(gD h i.cl (FU T i) f (pv 4) (av (ae ao) (av (ae ao) (av (ae ao) aM))))
 walk_at "c"
 exact(ae ao)
 walk_at "j"
 exact(RK (gA (aA (ae ao) bb)) (fu km (gv iU ki rfl T.d1n q0X (aA (fv 3) bb))))
 walk_at "h"
 exact(nH (nt rfl T.d1r (aA (aX (aZ h (gd T) f (bG (pv 0) (bG (pv 1) (av (ae ao) aM))))) bb)));exact(cp 7)
 walk_at "c"
 exact(cW (fv 5) (aX (aZ h (gd T) f (bG (pv 0) (bG (pv 1) (av (ae ao) aM))))))
 (refine gT ?_ ?_;refine Pl ?_)
 exact(gD h i.cl (FU T i) f (pv 4) (av (ae ao) (av (fv 5) (av (ae ao) aM))))
 walk_at "j"
 exact(li bb)
 walk_at "h"
 exact(nG (aX (nP h d c f (av (fv 2) (av (fv 3) (av (fv 5) (bG (pv 6) aM)))))));exact(jF (n:=4) rfl (dN (cp 9) (dN (cp 10) (dN (cp 11) (dN (cp 12) jE)))))
 walk_at "d"
 exact(fP f.units (fv 12) (ae ca))
 walk_at "k"
 exact(pv 8);exact(et (aA (ae ca) (aA (fv 10) (aA (fv 11) bb))));exact bT
 walk_at "k"
 exact(pv 8);exact(et (aA (fv 12) (aA (fv 10) (aA (fv 11) bb))))
 walk_at "c"
 exact(aX (aZ h (FV T i) f (bG (pv 4) (av (ae ao) (av (fv 5) (av (ae ao) aM))))))
 walk_at "d"
 exact(kl (mz (nL f.units (Co (fv 13) Ck (Cm (rM (ae ao)))) (fv 8)) (mz (nL f.units (aV (aV (fv 13) (rM (ae ao))) (ae ao)) (ae ca)) (nA (nL f.units (aX (oa h i.cl (SV T i) f (pv 4))) (BO (gA (aA (ae ao) bb)) (fu km (gv iU ki rfl T.d1n q0X (aA (fv 3) bb)))))))))
 walk_at "a"
 exact(ae jy);exact bT;refine gT ?_ ?_;(refine wh (own:=["_law_row"]) (capN:=[]) (caps:=[]) ?_ ?_ ?_ ?_ ?_ ?_ ?_ ?_ ?_ ?_ ?_ ?_<;>try walk_at "z");exact h.1;exact(ag.of (own:=["_law_row"]) (capN:=[]) (caps:=[]));exact(nG (aX (xc h d c f (fv 2) (fv 3) (cW (fv 5) (ae ao)) (Sd rfl T.d1o (pv 6)))));exact(fun _ _ _ _ _ _ q=>⟨(cp 0),jI,(aV (fv 0) (ae ao))⟩)
 (refine dS ?_;refine Bv ?_ ?_ ?_)
 exact(nL f.units (aX (aZ h (FV T i) f (bG (pv 4) (av (ae ao) (av (fv 5) (av (ae ao) aM)))))) (gA (aA (et (aA (ae ca) (aA (aV (pC (fv 14) (gA (aA (ae fG) bb))) (ae ao)) bb))) bb)))
 walk_at "a"
 exact(ae jy);exact bT
 walk_at "a"
 exact(fN (lu f.units (Sc (g:=lq) PySem.F.slot_list_count PySem.F.type_list_count PH PM (lh h.1 (ag.of (own:=["_law_row"]) (capN:=[]) (caps:=[])) rfl rfl (nG (aX (oa h i.cl (Sx T i) f (pv 4)))) (fun _ _ _ _ _ _ q=>⟨(cp 0),jI,(aV (fv 0) (ae ao))⟩)) (ae ca)) (ae ao)) (gR (lu f.units (aV (aX (oa h i.cl (Sw T i) f (pv 4))) (ae ao)) (ae ao))))
end
end K3
namespace K3
open PySem L2 L2.L3 Due
noncomputable def di(d:PyData)(lo a:Int):Bool:=match d with
 |.int i=>decide (lo<=i)&&decide (i<=a)
 |_=>false
noncomputable def eI:PyData->Bool
 |.dict _=>false
 |_=>true
@[simp]theorem Wg:cF "int" "int" = some true:=by decide
@[simp]theorem Wh:cF "int" "bool" = some false:=by decide
@[simp]theorem Wi:cF "bool" "int" = some true:=by decide
@[simp]theorem Wj:cF "bool" "bool" = some true:=by decide
@[simp]theorem Wl:cF "NoneType" "int" = some false:=by decide
@[simp]theorem Wm:cF "str" "int" = some false:=by decide
@[simp]theorem Wn:cF "list" "int" = some false:=by decide
@[simp]theorem Wo:cF "tuple" "int" = some false:=by decide
@[simp]theorem Wp:cF "int" "tuple" = some false:=by decide
@[simp]theorem Wq:cF "bool" "tuple" = some false:=by decide
@[simp]theorem Wr:cF "NoneType" "tuple" = some false:=by decide
@[simp]theorem Ws:cF "str" "tuple" = some false:=by decide
@[simp]theorem Wt:cF "list" "tuple" = some false:=by decide
@[simp]theorem Wu:cF "tuple" "tuple" = some true:=by decide
theorem qz(i j):PyData.eqv (.int i) (.int j)=(i==j):=by rw[PyData.eqv]
theorem oC(i):SeqAt.shaped (.int i)=true:=by rfl
theorem kN(h:eI d=true):hJ [.dat d,.dat (.int lo),.dat (.int hi)]=.rt (.dat (.bool (di d lo hi))) []:=by
 cases d with
 |dict _=>cases h
 |int i=>
  by_cases h1:lo<=i
  .simp[hJ,sV,di,h1]
  .simp[hJ,sV,di,h1]
 |_=>simp[hJ,sV,di]
noncomputable def gM(d:PyData)(n:Int):Bool:=match d with
 |.tuple ds=>decide ((ds.length:Int)=n)
 |_=>false
theorem qA(h:eI d=true):lE [.dat d,.dat (.int n)]=.rt (.dat (.bool (gM d n))) []:=by
 cases d with
 |dict _=>cases h
 |tuple ds=>simp[aB,lE,xh];rfl
 |_=>simp[lE,xh,gM]
theorem FY(h:eI d=true):qi [.dat d]=.rt (.dat (.bool (di d (-12) 14))) []:=by simp[qi,Dq,kN h]
theorem xI(h:eI d=true):on [.dat d]=.rt (.dat (.bool (di d 0 9999))) []:=by simp[aB,on,Dr,kN h]
theorem FZ(h:eI d=true):tF [.dat d]=if di d 0 9999=true then .rt (.dat .none) []else .bad:=by simp only[tF,Dz];cases a:di d 0 9999<;>simp[xI h,a]
noncomputable abbrev cH(p:Int×Int):PyData:=.tuple [.int p.1,.int p.2]
abbrev bN(a:Int)(b:Sh):PyData:=.tuple [.int a,.tuple (b.map cH)]
@[simp]theorem qC{x:PyData}:bL (x::l) 0=some x:=by unfold bL cT;rw[if_pos (by lia),if_pos (by simp<;>lia)];rfl
@[simp]theorem qD{y:PyData}:bL (x::y::l) 1=some y:=by unfold bL cT;rw[if_pos (by lia),if_pos (by simp<;>lia)];rfl
@[simp]theorem ub{x:PyData}:bL (l++[x]) (-1)=some x:=by unfold bL cT;rw[if_neg (by lia),if_pos (by simp;lia)];simp;rw[show(-1+((l.length:Int)+1)).toNat=l.length by lia];simp
theorem Ga:∀{a lo x},fy lo a->(∀p∈a,p.1<=9999/\-12<=p.2/\p.2<=14)->∃e y,bR (al 2) tw (a.map cH) [c,some (.dat (.int (lo+1))),x]=.nx [c,e,y]
 |[],_,_,_,_=>⟨_,_,rfl⟩
 | (b,k)::r,lo,x,⟨h1,h2⟩,ho=>by
  obtain⟨e,y,f⟩:=Ga (lo:=b) (c:=c) (x:=some (.dat (cH (b,k)))) h2 fun p g=>ho p (bt _ g);have hb:=ho (b,k) q0f;refine⟨e,y,?_⟩;rw[q0l,bR,<-f];have:tw [c,some (.dat (.int (lo+1))),some (.dat (cH (b,k)))]=.nx [c,some (.dat (.int (b+1))),some (.dat (cH (b,k)))]:=by simp[aB,tw,qA (d:=.tuple [.int b,.int k]) rfl,gM,FY (d:=.int k) rfl,kN (d:=.int b) rfl,di,hb.2.1,hb.2.2,hb.1,show lo+1<=b by lia]
  simp[aB,this]
theorem Tj(f:a.length<=6)(b:fy 0 a)(d:∀p∈a,p.1<=9999/\-12<=p.2/\p.2<=14):tx [.dat (.tuple (a.map cH))]=.rt (.dat (.bool true)) []:=by obtain⟨e,y,h⟩:=Ga b d;simp[tx,Dy,show ¬ (6:Int)<a.length by lia]at h ⊢;rw[h];simp
theorem Tk(z:du a b):tK [.dat (bN a b)]=.rt (.dat (.bool true)) []:=by have h1:=z.ah.1;simp[tK,DL,qA (d:=bN a b) rfl,gM,FY (d:=.int a) rfl,di,h1.1,h1.2,Tj z.len z.rise fun p c=>⟨z.top p c,z.ah.2 p c⟩]
theorem Tl(z:du a b):qt [.dat (bN a b)]=.rt (.dat .none) []:=by simp[qt,DR,Tk z]
theorem Gb:∀{ss a x},∃y,bR (al 3) xi (ss.map cH) [z,some (.dat (.int m)),some (.dat (.int a)),x]=.nx [z,some (.dat (.int m)),some (.dat (.int (fj a ss m))),y]
 |[],_,_=>⟨_,rfl⟩
 | (b,c)::r,a,x=>by
  obtain⟨y,d⟩:=Gb (x:=some (.dat (cH (b,c))));refine⟨y,?_⟩;rw[q0l,bR];unfold fj;rw[<-d]
  by_cases h:b<=m<;>simp[xi,h]
theorem Tn:sW [.dat (bN a b),.dat (.int m)]=.rt (.dat (.int (cz a b m))) []:=by obtain⟨y,h⟩:=Gb;simp[sW,Dj]at h ⊢;rw[h];simp[cz]
theorem qE{l:aj}(h:l.length=2):∃u v,l=[u,v]:=by obtain⟨u,l,rfl⟩:=q1z h;obtain⟨v,rfl⟩:=q1l.mp (q1E h);exact⟨u,v,rfl⟩
theorem qF{l:aj}(h:l.length=3):∃u v w,l=[u,v,w]:=by obtain⟨u,l,rfl⟩:=q1z h;obtain⟨v,w,rfl⟩:=qE (q1E h);exact⟨u,v,w,rfl⟩
theorem uc{P:aj->Prop}:∀{its ys U},P U->(∀d∈its,∀U,P U->∃a b,g d U=some a/\e a=.ok (f d) b/\P b)->ys.length+its.length<=sizeLine->bU g cN e its ys U=some (ys++its.map f)
 |[],ys,U,_,_,_=>by simp[bU]
 |d::r,ys,U,c,h,i=>by obtain⟨a,b,h1,h2,h3⟩:=h d q0f U c;simp only[q0o]at i;unfold bU;rw[h1];simp only[cN,h2];rw[if_pos (by lia),uc h3 (fun d hd=>h d (bt _ hd)) (by simp;lia)];simp
theorem qG{P:aj->Prop}:∀{its ys U},P U->(∀d∈its,∀U,P U->∃b a c,g d U=some b/\t b=.ok (p d) a/\P a/\(p d=true->e a=.ok (f d) c/\P c))->ys.length+its.length<=sizeLine->bU g t e its ys U=some (ys++(its.filter p).map f)
 |[],ys,U,_,_,_=>by simp[bU]
 |d::r,ys,U,j,h,k=>by
  obtain⟨b,a,c,h1,h2,h3,l⟩:=h d q0f U j;simp only[q0o]at k;unfold bU;rw[h1];simp only[h2];cases i:p d with
  |true=>obtain⟨m,n⟩:=l i;simp only[m];rw[if_pos (by lia),qG n (fun d hd=>h d (bt _ hd)) (by simp;lia)];simp[i]
  |false=>simp only;rw[qG h3 (fun d hd=>h d (bt _ hd)) (by lia)];simp[i]
@[simp]theorem ud:(0:Nat)<=sizeLine:=by decide
@[simp]theorem Gc:(1:Nat)<=sizeLine:=by decide
@[simp]theorem Ge:(2:Nat)<=sizeLine:=by decide
@[simp]theorem Wv:(3:Nat)<=sizeLine:=by decide
@[simp]theorem Ww:(4:Nat)<=sizeLine:=by decide
@[simp]theorem Wx:(5:Nat)<=sizeLine:=by decide
@[simp]theorem Wy:(6:Nat)<=sizeLine:=by decide
@[simp]theorem Wz:(7:Nat)<=sizeLine:=by decide
@[simp]theorem WA:(8:Nat)<=sizeLine:=by decide
@[simp]theorem WB:(9:Nat)<=sizeLine:=by decide
@[simp]theorem To:(10:Nat)<=sizeLine:=by decide
@[simp]theorem Tp:(11:Nat)<=sizeLine:=by decide
@[simp]theorem Tq:(12:Nat)<=sizeLine:=by decide
@[simp]theorem Tr:(13:Nat)<=sizeLine:=by decide
@[simp]theorem Ts:(14:Nat)<=sizeLine:=by decide
noncomputable def eN:Option Int->PyData
 |none=>.none
 |some e=>.int e
def gf(p:Int×Option Int×Int):PyData:=.tuple [.int p.1,eN p.2.1,.int p.2.2]
theorem Gf:∀d  s a,pc (.int s::d.map fun p=>.int p.1) ((d.map fun p=>PyData.int p.1)++[.none]) (.int a::d.map fun p=>.int p.2)=(bh s a d).map gf
 |[],s,a=>rfl
 |(b,c)::r,s,a=>by simp only[q0l,bh];rw[<-(Gf r b c)];rfl
noncomputable def xJ(d:PyData):PyData:=match d with
 |.tuple (x::_)=>x
 |_=>.none
noncomputable def oD(d:PyData):PyData:=match d with
 |.tuple (_::c::_)=>c
 |_=>.none
theorem Gg(l:b.length<=6):qe [.dat (bN a b)]=.rt (.dat (.list ((bh 0 a b).map gf))) []:=by
 have sz:1000<sizeLine:=by decide
 have c:=uc (e:=xj) (g:=al 0) (f:=xJ) (P:=fun U=>U.length=1) (its:=b.map cH) (ys:=[]) (U:=[none]) rfl (fun d hd U h=>by
  obtain⟨p,_,rfl⟩:=q04.mp hd;obtain⟨y,rfl⟩:=q1l.mp h;exact⟨_,_,rfl,by rfl,rfl⟩) (by simp;lia)
 have i:=uc (e:=xk) (g:=al 0) (f:=oD) (P:=fun U=>U.length=1) (its:=b.map cH) (ys:=[]) (U:=[none]) rfl (fun d hd U h=>by
  obtain⟨p,_,rfl⟩:=q04.mp hd;obtain⟨y,rfl⟩:=q1l.mp h;exact⟨_,_,rfl,by rfl,rfl⟩) (by simp;lia)
 simp only[q0w,q0T]at c i;have j:List.map (xJ∘cH) b=b.map fun p=>PyData.int p.1:=by apply q1o;intro p _;rfl
 have k:List.map (oD∘cH) b=b.map fun p=>PyData.int p.2:=by apply q1o;intro p _;rfl
 rw[j]at c;rw[k]at i;have z:=Gf b 0 a;simp[aB,qe,Dk,c,i,show b.length<=sizeLine by lia,show b.length+1<=sizeLine by lia,show 1+b.length<=sizeLine by lia,z]
theorem ue:qf [.dat (.int m),.dat (eN e)]=.rt (.dat (.bool (gF m e))) []:=by cases e<;>simp[qf,Dl,eN,gF]
theorem qH:∀d  s a,(bh s a d).length=d.length+1
 |[],s,a=>rfl
 |(b,c)::r,s,a=>by simp[bh,qH r b c]
theorem xK:∀d  a,∃q,(a::(d.filter fun p=>decide (p.1<=m)).map (·.2))=q++[fj a d m]
 |[],a=>⟨[],rfl⟩
 | (b,c)::r,a=>by
  by_cases h:b<=m
  .obtain⟨q,e⟩:=xK r c;refine⟨a::q,?_⟩;unfold fj;simp[h];simpa using e
  .obtain⟨q,e⟩:=xK r a;refine⟨q,?_⟩;unfold fj;simp[h];simpa using e
noncomputable def xL(m:Int)(d:PyData):Bool:=match d with
 |.tuple (.int b::_)=>decide (b<=m)
 |_=>false
theorem uf(h:b.length<=6):qg [.dat (bN a b),.dat (.int m)]=.rt (.dat (.int (cz a b m))) []:=by
 have sz:1000<sizeLine:=by decide
 have c:=qG (t:=xl) (e:=xm) (g:=cy 2 (aR (al 0) (aR (al 1) cx))) (p:=xL m) (f:=oD) (P:=fun U=>∃x y,U=[x,y,some (.dat (.int m))]) (its:=b.map cH) (ys:=[]) (U:=[none,none,some (.dat (.int m))]) ⟨_,_,rfl⟩ (fun d hd U i=>by
  obtain⟨p,_,rfl⟩:=q04.mp hd;obtain⟨x,y,rfl⟩:=i;refine⟨[some (.dat (.int p.1)),some (.dat (.int p.2)),some (.dat (.int m))],[some (.dat (.int p.1)),some (.dat (.int p.2)),some (.dat (.int m))],[some (.dat (.int p.1)),some (.dat (.int p.2)),some (.dat (.int m))],by simp,by simp[aB,xl,show xL m (cH p)=decide (p.1<=m) from rfl],⟨_,_,rfl⟩,fun _=>⟨by simp[aB,xm,show oD (cH p)=PyData.int p.2 from rfl],⟨_,_,rfl⟩⟩⟩) (by simp;lia)
 have f1:((b.map cH).filter (xL m)).map oD=((b.filter fun p=>decide (p.1<=m)).map (·.2)).map PyData.int:=by rw[q2M,q0T,q0T];rfl
 obtain⟨q,e⟩:=xK (m:=m) b a;have f2:(PyData.int a::((b.filter fun p=>decide (p.1<=m)).map (·.2)).map PyData.int)=q.map PyData.int++[PyData.int (fj a b m)]:=by have:=congrArg (List.map PyData.int) e;simpa using this
 rw[f1]at c;generalize j:((b.filter fun p=>decide (p.1<=m)).map (·.2)).map PyData.int=w at *;have lw:w.length<=6:=by rw[<-j,q0h];exact (by rw[q0h];exact q0E (q1U _ _) h)
 simp[aB,qg,Dm,c,show w.length<=sizeLine by lia,show 1+w.length<=sizeLine by lia,f2,cz]
theorem Tt(c:a.length<=63)(d:0<=k):∃v,oj [.scr a,.dat (.int k)]=.rt (.dat (.int v)) []:=by
 by_cases h:k<a.length
 .have:∃v,bL a k=some v:=by unfold bL cT;rw[if_pos d,if_pos h];exact⟨a[k.toNat]'(by lia),by simp⟩
  obtain⟨v,b⟩:=this;exact⟨v,by simp[aB,oj,sX,c,h,b]⟩
 .by_cases h0:a=[]
  .subst h0;exact⟨0,by simp[aB,oj,sX]at h ⊢;simp[aB,show ¬ k<0 by lia]⟩
  .have e:0<(a.length:Int):=by have:=q1n.mpr h0;lia
   have:∃v,bL a (k % a.length)=some v:=by have h1:=Int.emod_nonneg k (show(a.length:Int)≠0 by lia);have h2:=Int.emod_lt_of_pos k e;unfold bL cT;rw[if_pos h1,if_pos h2];exact⟨a[(k % a.length).toNat]'(by lia),by simp⟩
   obtain⟨v,b⟩:=this;exact⟨v * 31+k,by simp[aB,oj,sX,c,h,h0,b,ny,lc,q1n.mpr h0]⟩
theorem Tu(c:b.length<=63)(d:0<=k)(a:0<many):∃v,0<=v/\v<many/\tm [.scr b,.dat (.int k),.dat (.int many)]=.rt (.dat (.int v)) []:=by
 obtain⟨v,e⟩:=Tt c d;generalize hd:(v+7919 * k+1) * 48271 % 2147483647=dr;refine⟨(dr * dr+7 * dr+k) % 2147483629 % many,Int.emod_nonneg _ (by lia),Int.emod_lt_of_pos _ a,?_⟩;simp[tm,Dx,e,lc,ny,hd,a,show -18446744073709551616<dr by lia,show dr<18446744073709551616 by lia]
theorem gi(a:ns.length<=63)(c:t.length<1000000)(b:0<many):∃v,0<=v/\v<many/\ej [.scr ns,.own true (.l t),.dat (.int many)]=.rt (.dat (.int v)) [.l (t++[.int 0])]:=by
 have sz:1000000<sizeLine:=by decide
 obtain⟨v,h1,h2,h3⟩:=Tu (k:=((t++[PyData.int 0]).length)) a (by lia) b;refine⟨v,h1,h2,?_⟩;simp at h3;simp[ej,DK,show t.length<sizeLine by lia,h3]
theorem oE(a:ns.length<=63)(b:t.length<1000000)(hd:ds≠[])(c:ds.length<=1000):∃d∈ds,kG [.scr ns,.own true (.l t),.dat (.list ds)]=.rt (.dat d) [.l (t++[.int 0])]:=by
 have e:=q1n.mpr hd;obtain⟨v,h1,h2,h3⟩:=gi (many:=ds.length) a b (by lia);have:bL ds v=some (ds[v.toNat]'(by lia)):=by unfold bL cT;rw[if_pos h1,if_pos h2];simp
 refine⟨ds[v.toNat]'(by lia),q0L _,?_⟩;simp[kG,DP,h3,this]
theorem Gh(i):SeqAt.shaped (.int i)=true:=by rfl
theorem Tv{ss:Sh}(a:ns.length<=63)(h:t.length<900)(q:ss.length<=100):∃d c,0<=d/\d<200/\-12<=c/\c<=14/\
  tN [some (.scr ns),some (.own true (.l t)),some (.own false (.l (ss.map cH))),some (.dat (.int m)),k]=.nx [some (.scr ns),some (.own true (.l (t++[.int 0]++[.int 0]++[.int 0]))),some (.own false (.l ((ss++[(m+1+d,c)]).map cH))),some (.dat (.int (m+1+d))),k]:=by
 have sz:1000<sizeLine:=by decide
 obtain⟨w,b,h1⟩:=oE (ns:=ns) (t:=t) (ds:=[.int 4,.int 40,.int 200]) a (by lia) (by simp) (by simp);have:∃i:Int,w=.int i/\0<i/\i<=200:=by
  simp at b;rcases b with rfl |rfl |rfl
  .exact⟨4,rfl,by lia,by lia⟩
  .exact⟨40,rfl,by lia,by lia⟩
  .exact⟨200,rfl,by lia,by lia⟩
 obtain⟨i,rfl,f,j⟩:=this;obtain⟨d,g,n,h2⟩:=gi (ns:=ns) (t:=t++[.int 0]) (many:=i) a (by simp;lia) f;obtain⟨e,o,p,h3⟩:=gi (ns:=ns) (t:=t++[.int 0]++[.int 0]) (many:=27) a (by simp;lia) (by lia);refine⟨d,e - 12,g,by lia,by lia,by lia,?_⟩;simp only[q0k,q0B,q0w]at h1 h2 h3;simp[aB,tN,h1,h2,h3,show ss.length<sizeLine by lia]
theorem Gi(g:ns.length<=63):∀{its t ss m k},t.length+3 * its.length<900->ss.length+its.length<=100->∃new t' b f,bR (al 4) tN its [some (.scr ns),some (.own true (.l t)),some (.own false (.l (ss.map cH))),some (.dat (.int m)),k]=.nx [some (.scr ns),some (.own true (.l t')),some (.own false (.l ((ss++new).map cH))),some (.dat (.int b)),f]/\
  fy m new/\(∀p∈new,p.1<=m+200 * its.length/\-12<=p.2/\p.2<=14)/\new.length=its.length/\t'.length=t.length+3 * its.length
 |[],t,ss,m,k,_,_=>⟨[],t,m,k,by simp[aB,bR],trivial,fun p a=>(by cases a),rfl,rfl⟩
 |x::r,t,ss,m,k,h1,h2=>by
  simp only[q0o]at h1 h2;obtain⟨d,c,o,q,h,i,e⟩:=Tv (t:=t) (ss:=ss) (m:=m) (k:=some (.dat x)) g (by lia) (by lia);obtain⟨new,t',b,f,g1,g2,g3,j,n⟩:=Gi g (its:=r) (t:=t++[.int 0]++[.int 0]++[.int 0]) (ss:=ss++[(m+1+d,c)]) (by simp;lia) (by simp;lia);refine⟨(m+1+d,c)::new,t',b,f,?_,⟨by lia,g2⟩,fun p a=>?_,by simp[aB,j],by rw[n];simp;lia⟩
  .rw[bR];simp only[al,q1r,q01,e];rw[g1];simp
  .simp only[q0o];rcases q0b.mp a with rfl |a
   .exact⟨by simp;lia,h,i⟩
   .have:=g3 p a;exact⟨by lia,this.2⟩
noncomputable def jP:Nat->Sh->Sh
 |_,[]=>[]
 |i,(b,_)::r=>(b,1+(i:Int) % 2)::jP (i+1) r
theorem Gj:∀{a i lo},fy lo a->fy lo (jP i a)
 |[],_,_,_=>trivial
 |(b,c)::r,i,lo,⟨h1,h2⟩=>⟨h1,Gj h2⟩
theorem xM:∀{d i T},(∀p∈d,p.1<=T)->∀p∈jP i d,p.1<=T/\-12<=p.2/\p.2<=14
 |[],_,_,_,p,a=>by cases a
 | (b,c)::r,i,T,h,p,a=>by
  rcases q0b.mp a with rfl |a
  .exact⟨h (b,c) q0f,by lia,by lia⟩
  .exact xM (fun q e=>h q (bt _ e)) p a
theorem xN:∀a  i,(jP i a).length=a.length
 |[],_=>rfl
 |(b,c)::r,i=>by simp[jP,xN r (i+1)]
noncomputable def ug(d:PyData):PyData:=match d with
 |.tuple [.int i,.tuple [b,_]]=>.tuple [b,.int (1+i % 2)]
 |_=>.none
theorem Gk:ug (.tuple [.int i,.tuple [b,c]])=.tuple [b,.int (1+i % 2)]:=rfl
theorem Gm:∀a  k,((a.map cH).mapIdx fun i d=>ug (.tuple [.int ((i+k:Nat):Int),d]))=(jP k a).map cH
 |[],k=>rfl
 | (b,c)::r,k=>by
  rw[q0l,List.mapIdx_cons];simp only[jP,q0l];rw[<-(Gm r (k+1))]
  congr 1
  .simp[Gk]
  .congr 1
   funext i d;rw[show i+1+k=i+(k+1) by lia]
theorem Tw(j:ns.length<=63)(H:t.length<=100):∃a h t',qv [.scr ns,.own true (.l t)]=.rt (.dat (bN a h)) [.l t']/\h.length<=6/\fy 0 h/\sU a h/\(∀p∈h,p.1<=1200)/\t'.length<=t.length+30:=by
 have sz:1000<sizeLine:=by decide
 obtain⟨n,z,I,r⟩:=gi (ns:=ns) (t:=t) (many:=7) j (by lia) (by lia);obtain⟨new,o,J,k1,g1,g2,g3,D,A⟩:=Gi (ns:=ns) j (its:=intsFrom 0 n.toNat) (t:=t++[.int 0]) (ss:=[]) (m:=0) (k:=none) (by simp[aB,rK];lia) (by simp[aB,rK];lia);rw[rK]at g3 D A;simp only[q0q,q0o,q00]at A;obtain⟨x,L,M,s⟩:=gi (ns:=ns) (t:=o) (many:=2) j (by lia) (by lia);obtain⟨y,N,O,h3⟩:=gi (ns:=ns) (t:=o++[.int 0]) (many:=27) j (by simp;lia) (by lia);simp only[q2l,q0w,q0k,q0B]at g1 h3;have nl:new.length<=6:=by lia
 have top:∀p∈new,p.1<=1200:=fun p b=>by have:=(g3 p b).1;lia
 by_cases B:x=0
 .refine⟨y - 12,jP 0 new,o++[.int 0,.int 0],?_,by rw[xN];exact nl,Gj g2,⟨⟨by lia,by lia⟩,fun p b=>(xM top p b).2⟩,fun p b=>(xM top p b).1,by simp;lia⟩;have c:=uc (e:=xA) (g:=cy 2 (aR (al 0) (aR (cy 2 (aR (al 1) (aR (al 2) cx))) cx))) (f:=ug) (P:=fun U=>U.length=3) (its:=L3.numbered (new.map cH)) (ys:=[]) (U:=[none,none,none]) rfl (fun d hd U E=>by
   unfold L3.numbered at hd;obtain⟨i,C,rfl⟩:=List.mem_mapIdx.mp hd;obtain⟨u,v,w,rfl⟩:=qF E
   .
    have G:(new.map cH)[i]=cH (new[i]'(by simpa using C)):=by simp
    rw[G];generalize new[i]'(by simpa using C)=q;refine⟨[some (.dat (.int i)),some (.dat (.int q.1)),some (.dat (.int q.2))],[some (.dat (.int i)),some (.dat (.int q.1)),some (.dat (.int q.2))],by simp,?_,rfl⟩;simp[aB,xA,Gk,cH,ny]) (by unfold L3.numbered;simp;lia)
  have rd:(L3.numbered (new.map cH)).map ug=(jP 0 new).map cH:=by
   unfold L3.numbered;rw[<-Gm new 0];apply q2B
   .simp
   .intro i r s;simp
  rw[rd]at c;simp only[q0w]at c;have l2:(jP 0 new).length<=sizeLine:=by rw[xN];lia
  subst B;simp[aB,qv,xB,r,z,show n<4611686018427387904 by lia,show -4611686018427387904<=n by lia,g1,s,h3,Gh,qz,c,l2]
 .refine⟨y - 12,new,o++[.int 0,.int 0],?_,nl,g2,⟨⟨by lia,by lia⟩,fun p b=>(g3 p b).2⟩,top,by simp;lia⟩;simp[aB,qv,xB,r,z,show n<4611686018427387904 by lia,show -4611686018427387904<=n by lia,g1,s,h3,Gh,qz,B]
theorem Tz(h:SeqAt.shaped d=true):aB false d d=some (.bool true):=by simp[aB,h,AY h]
theorem uh(h:SeqAt.shaped d=true):aB true d d=some (.bool false):=by simp[aB,h,AY h]
theorem TB(i j):aB true (.int i) (.int j)=some (.bool (!decide (i=j))):=by
 by_cases h:i=j
 .subst h;simp[uh (oC i)]
 .simp[aB,oC,qz,h]
theorem mU(i j):aB false (.int i) (.int j)=some (.bool (decide (i=j))):=by
 by_cases h:i=j
 .subst h;simp[Tz (oC i)]
 .simp[aB,oC,qz,h]
theorem gG(h:m U=.nx U'):az m k U=k U':=by simp[h]
theorem TC(i j):PyData.eqv (.str i) (.str j)=(i==j):=by rw[PyData.eqv]
theorem xO(h:PyData.strOk x=true):SeqAt.shaped (.str x)=true:=by unfold SeqAt.shaped;simp[PyData.canLay0,PyData.depth,h]
theorem cq(a:PyData.strOk x=true)(b:PyData.strOk y=true):aB false (.str x) (.str y)=some (.bool (x==y)):=by simp[aB,xO a,xO b,TC]
theorem eJ:PyData.strOk "once" = true:=by decide +kernel
theorem gj:PyData.strOk "every" = true:=by decide +kernel
theorem jQ:PyData.strOk "daily" = true:=by decide +kernel
@[simp]theorem WC:(("every":Str)==("once":Str))=false:=by decide +kernel
@[simp]theorem WD:(("daily":Str)==("once":Str))=false:=by decide +kernel
@[simp]theorem WE:(("daily":Str)==("every":Str))=false:=by decide +kernel
@[simp]theorem WF:cF "str" "str" = some true:=by decide
noncomputable abbrev fz:aF->PyData
 |.once m=>.tuple [.str "once",.int m]
 |.every f s=>.tuple [.str "every",.int f,.int s]
 |.daily h=>.tuple [.str "daily",.int h]
@[simp]theorem Gn{w:PyData}:bL (x::y::w::l) 2=some w:=by unfold bL cT;rw[if_pos (by lia),if_pos (by simp<;>lia)];rfl
theorem mV(a:PyData.strOk x=true)(b:PyData.strOk w=true):lF [.dat (.tuple (.str x::rest)),.dat (.str w),.dat (.int n)]=.rt (.dat (.bool (decide (((rest.length+1:Nat):Int)=n)&&(x==w)))) []:=by
 by_cases h:(((rest.length+1:Nat))=n)
 .simp[lF,xp,qA (d:=.tuple (.str x::rest)) rfl,gM,cq a b];simp at h;simp[h]
 .simp[lF,xp,qA (d:=.tuple (.str x::rest)) rfl,gM];simp at h;simp[h]
theorem TD(ok:cP p):oq [.dat (fz p)]=.rt (.dat (.bool true)) []:=by
 cases p with
 |once m=>simp[oq,tz,mV eJ eJ,xI (d:=.int m) rfl,di,ok.1,ok.2]
 |every f s=>simp[oq,tz,mV gj eJ,mV gj gj,xI (d:=.int f) rfl,kN (d:=.int s) rfl,di,ok.1.1,ok.1.2,ok.2.1,ok.2.2]
 |daily h=>simp[oq,tz,mV jQ eJ,mV jQ gj,mV jQ jQ,kN (d:=.int h) rfl,di,ok.1,ok.2]
def ui(g:Int)(d:PyData):Bool:=match d with
 |.tuple [.int s,.none,.int a]=>gF (max s (g - a)) none
 |.tuple [.int s,.int e,.int a]=>gF (max s (g - a)) (some e)
 |_=>false
noncomputable def uj(g:Int)(d:PyData):PyData:=match d with
 |.tuple [.int s,_,.int a]=>.int (max s (g - a))
 |_=>.none
theorem Go(g p):ui g (gf p)=gF (max p.1 (g - p.2.2)) p.2.1:=by obtain⟨s,e,a⟩:=p;cases e<;>rfl
theorem Gp(g p):uj g (gf p)=.int (max p.1 (g - p.2.2)):=by obtain⟨s,e,a⟩:=p;cases e<;>rfl
theorem TF(h:b.length<=6):tf [.dat (bN a b),.dat (.int g)]=.rt (.dat (.int (eU g 0 a b))) []:=by
 have sz:1000<sizeLine:=by decide
 have c:=qG (t:=xq) (e:=xr) (g:=cy 3 (aR (al 0) (aR (al 1) (aR (al 2) cx)))) (p:=ui g) (f:=uj g) (P:=fun U=>∃x y z,U=[x,y,z,some (.dat (.int g))]) (its:=(bh 0 a b).map gf) (ys:=[]) (U:=[none,none,none,some (.dat (.int g))]) ⟨_,_,_,rfl⟩ (fun d hd U i=>by
  obtain⟨p,_,rfl⟩:=q04.mp hd;obtain⟨x,y,z,rfl⟩:=i;refine⟨[some (.dat (.int p.1)),some (.dat (eN p.2.1)),some (.dat (.int p.2.2)),some (.dat (.int g))],[some (.dat (.int p.1)),some (.dat (eN p.2.1)),some (.dat (.int p.2.2)),some (.dat (.int g))],[some (.dat (.int p.1)),some (.dat (eN p.2.1)),some (.dat (.int p.2.2)),some (.dat (.int g))],by simp[gf],by simp[xq,ue,Go],⟨_,_,_,rfl⟩,fun _=>⟨by simp[xr,Gp],⟨_,_,_,rfl⟩⟩⟩) (by simp[qH];lia)
 have f1:(((bh 0 a b).map gf).filter (ui g)).map (uj g)=(oi g (bh 0 a b)).map PyData.int:=by unfold oi;have j:uj g∘gf=fun p=>.int (max p.1 (g - p.2.2)):=funext (Gp g);have k:ui g∘gf=fun p=>gF (max p.1 (g - p.2.2)) p.2.1:=funext (Go g);rw[q2M,q0T,q0T,j,k];rfl
 have l:(oi g (bh 0 a b)).length<=7:=by unfold oi;rw[q0h];exact q0E (q1U _ _) (by rw[qH];lia)
 obtain⟨t,e⟩:=CZ g b 0 a;rw[f1,e]at c;rw[e,q0o]at l;simp only[q0w,q0l]at c;simp[tf,Du,Gg h,c,show t.length+1<=sizeLine by lia]
theorem Gq:qk [.dat (bN a b),.dat (.int h)]=.rt (.dat (.int (dU a b h))) []:=by simp[qk,Dw,Tn,dU,nv]
theorem TH{c:Nat}(d:b.length<=6):tI [.dat (bN a b),.dat (.int h),.dat (.int c)]=.rt (.dat (.int (cO a b h c))) []:=by simp[tI,DJ,Gq,TF d,cO,lc]
theorem TJ(a:-1000000<=j)(b:j<=1000000):lc i j=true:=by unfold lc;rw[decide_eq_true (show -(2 ^ 64)<j by lia),decide_eq_true (show j<2 ^ 64 by lia)];simp
theorem TK(a:1<=s)(b:s<=999):jm [.dat z,.dat (fz (.every f s)),.dat (.int c)]=.rt (.dat (.int (f+c * s))) []:=by simp[jm,qr,cq gj eJ,cq gj gj,TJ (by lia) (show s<=1000000 by lia)]
theorem TL{c:Nat}(d:b.length<=6)(ok:cP p):jm [.dat (bN a b),.dat (fz p),.dat (.int c)]=.rt (.dat (eN (bE a b p c))) []:=by
 cases p with
 |once m=>
  by_cases e:c=0
  .subst e;simp[jm,qr,cq eJ eJ,mU,bE,eN]
  .simp[jm,qr,cq eJ eJ,mU,bE,eN,e]
 |every f s=>exact TK ok.2.1 ok.2.2
 |daily h=>simp[jm,qr,cq jQ eJ,cq jQ gj,bE,eN,TH d]
theorem TM(h:l≠[]):∃M,M∈l/\(∀x∈l,x<=M)/\nE [.list (l.map PyData.int)]=some (.int M):=by
 have key:∀(r:List Int) (i:Int),(∀x∈i::r,x<=r.foldl max i)/\r.foldl max i∈i::r:=fun r=>by
  induction r with
  |nil=>intro i;simp
  |cons j r c=>
   intro i;obtain⟨b,h2⟩:=c (max i j);have h3:=b (max i j) q0f;refine⟨fun x a=>?_,?_⟩
   .simp only[q1H];rcases q0b.mp a with rfl |a
    .omega
    .rcases q0b.mp a with rfl |a
     .omega
     .exact b x (bt _ a)
   .simp only[q1H];rcases q0b.mp h2 with e |e
    .rw[e];rcases Int.le_total i j with q |q
     .rw[Int.max_eq_right q];simp
     .rw[Int.max_eq_left q];simp
    .exact bt _ (bt _ e)
 cases l with
 |nil=>exact absurd rfl h
 |cons i r=>obtain⟨b,h2⟩:=key r i;exact⟨_,h2,b,by unfold nE;simp only[OW];rfl⟩
noncomputable def uk(m:Int)(d:PyData):Bool:=match d with
 |.tuple (.int s::_)=>decide (s<=m)
 |_=>false
noncomputable def um(m:Int)(d:PyData):PyData:=match d with
 |.tuple [.int _,.none,.int a]=>.int (m+a)
 |.tuple [.int _,.int e,.int a]=>.int ((if decide (m<e)=true then m else e - 1)+a)
 |_=>.none
theorem Gr(m p):uk m (gf p)=decide (p.1<=m):=rfl
theorem Gs(m p):um m (gf p)=.int ((if gF m p.2.1=true then m else p.2.1.getD 0 - 1)+p.2.2):=by obtain⟨s,e,a⟩:=p;cases e<;>rfl
theorem TN(j:i.length<=6)(k:fy 0 i)(l:0<=m):∃f,tj [.dat (bN a i),.dat (.int m)]=.rt (.dat (.int f)) []/\(∃t,0<=t/\t<=m/\cz a i t=f)/\∀t,0<=t->t<=m->cz a i t<=f:=by
 have sz:1000<sizeLine:=by decide
 have c:=qG (t:=xt) (e:=qj) (g:=cy 3 (aR (al 0) (aR (al 1) (aR (al 2) cx)))) (p:=uk m) (f:=um m) (P:=fun U=>∃x y z,U=[x,y,z,some (.dat (.int m))]) (its:=(bh 0 a i).map gf) (ys:=[]) (U:=[none,none,none,some (.dat (.int m))]) ⟨_,_,_,rfl⟩ (fun d hd U n=>by
  obtain⟨p,_,rfl⟩:=q04.mp hd;obtain⟨x,y,z,rfl⟩:=n;refine⟨[some (.dat (.int p.1)),some (.dat (eN p.2.1)),some (.dat (.int p.2.2)),some (.dat (.int m))],[some (.dat (.int p.1)),some (.dat (eN p.2.1)),some (.dat (.int p.2.2)),some (.dat (.int m))],[some (.dat (.int p.1)),some (.dat (eN p.2.1)),some (.dat (.int p.2.2)),some (.dat (.int m))],by simp[gf],by simp[xt,Gr],⟨_,_,_,rfl⟩,fun _=>⟨?_,⟨_,_,_,rfl⟩⟩⟩;rw[Gs];obtain⟨s,e,b⟩:=p;cases e with
  |none=>simp[qj,ue,gF]
  |some e=>
   by_cases h:m<e
   .simp[qj,ue,gF,h]
   .have h1:=ue (m:=m) (e:=some e);simp only[eN,gF]at h1;simp[qj,h1,gF,h,eN]) (by simp[qH];lia)
 have f1:(((bh 0 a i).map gf).filter (uk m)).map (um m)=(jj m (bh 0 a i)).map PyData.int:=by unfold jj;have o:um m∘gf=fun p=>.int ((if gF m p.2.1=true then m else p.2.1.getD 0 - 1)+p.2.2):=funext (Gs m);have q:uk m∘gf=fun p=>decide (p.1<=m):=funext (Gr m);rw[q2M,q0T,q0T,o,q];rfl
 obtain⟨g1,g2⟩:=Dh (m:=m) i 0 a k;obtain⟨B,r,_⟩:=g2 0 (q0U _) l;obtain⟨M,h1,h2,h3⟩:=TM (List.ne_nil_of_mem r);rw[f1]at c;have C:(jj m (bh 0 a i)).length<=7:=by unfold jj;rw[q0h];exact q0E (q1U _ _) (by rw[qH];lia)
 refine⟨M,by simp[tj,Dv,Gg j,c,h3,show(jj m (bh 0 a i)).length<=sizeLine by lia],g1 M h1,fun t u v=>?_⟩;obtain⟨x,w,A⟩:=g2 t u v;exact q1S A (h2 x w)
theorem TQ(z:du a b)(ok:cP p)(u:bd a b p m n):lG [.dat (bN a b),.dat (fz p),.dat (.int m)]=.rt (.dat (.int n)) []:=by
 by_cases j:m<0
 .have i:n=0:=by refine q1q fun h=>?_;obtain⟨v,d,o⟩:=u.in_ 0 h;have:=Dd z ok d;lia
  subst i;simp[lG,ou,j]
 cases p with
 |once x=>
  by_cases e:x<=m
  .have i:n=1:=by
    rcases q2t n 1 with h |h |h
    .have h0:n=0:=by lia
     subst h0;rcases u.out with h |⟨v,h,d⟩
     .rw[bE,if_pos rfl]at h;cases h
     .rw[bE,if_pos rfl]at h;cases h;lia
    .exact h
    .obtain⟨v,d,_⟩:=u.in_ 1 h;rw[bE,if_neg (by decide)]at d;cases d
   subst i;simp[lG,ou,j,cq eJ eJ,e]
  .have i:n=0:=by refine q1q fun h=>?_;obtain⟨v,d,o⟩:=u.in_ 0 h;rw[bE,if_pos rfl]at d;cases d;lia
   subst i;simp[lG,ou,j,cq eJ eJ,e]
 |every f s=>
  obtain⟨B,C,D⟩:=id ok;have q:=Df (by lia) u;have r:max 0 ((m - f) / s+1)=(n:Int):=by
   rw[q];unfold xg;rw[show m+1 - f - 1=m - f by lia]
   by_cases h:f<m+1
   .rw[if_pos h];lia
   .rw[if_neg h];have:(m - f) / s<0:=Int.ediv_neg_of_neg_of_pos (by lia) (by lia);lia
  simp[lG,ou,j,cq gj eJ,cq gj gj,nv,show 0<s by lia,show s<1073741824 by lia,r]
 |daily hh=>
  obtain⟨f,w,⟨t,y,A,E⟩,f2⟩:=TN (a:=a) z.len z.rise (show 0<=m by lia);have key:∀c:Nat,cO a b hh c<=m↔(dU a b hh+c) * 24+hh<=f:=fun c=>by
   obtain⟨g1,g2,g3⟩:=iN (g:=(dU a b hh+c) * 24+hh) (a:=a) z.rise;have e:cO a b hh c=eU ((dU a b hh+c) * 24+hh) 0 a b:=rfl;rw[e];constructor
   .intro h;exact q1S g2 (f2 _ g1 h)
   .intro h;refine q1S (q2y.mp fun k=>?_) A;have:=g3 t y k;lia
  have fd:=qd (a:=a) (h:=hh) (ss:=b);have G:=f2 0 (q0U _) (by lia);have i:(f - hh) / 24 - dU a b hh+1=((n:Nat):Int):=by
   have h1:¬ (dU a b hh+n) * 24+hh<=f:=fun h=>by have o:=(key n).mpr h;have:=mM (p:=.daily hh) (v:=cO a b hh n) z ok u (ba _) rfl;lia
   by_cases H:0<n
   .obtain⟨v,d,l⟩:=u.in_ (n - 1) (by lia);cases d;have h2:=(key (n - 1)).mp l;lia
   .omega
  simp[lG,ou,j,cq jQ eJ,cq jQ gj,w,nv,Gq,i]
def IsT(o:fc):Prop:=∃x r,o=.rt (.dat (.bool true)) (x::r)
theorem lK(h:m U=.nx a)(q:IsT (k a)):IsT (az m k U):=by rw[gG h];exact q
theorem TR(h:IsT (m (some (.scr a)::List.replicate n none))):bz 1 (n+1) m [.scr a]=.rt (.dat (.bool true)) []:=by obtain⟨x,r,e⟩:=h;simp[e]
theorem qJ(i r):L3.intsFrom i (r+1)=.int i::L3.intsFrom (i+1) r:=by
 unfold L3.intsFrom;rw[q2G,q0l,q0T]
 congr 1
 .simp
 .apply q1o;intro k _;lia
theorem Gu(d:t U=.ok true a)(e:b a=.nx c):fX t b (fuel+1) U=fX t b fuel c:=by rw[fX,d];simp only[eQ,if_true,e]
theorem Gv(c:t U=.ok false a):fX t b (fuel+1) U=.nx a:=by rw[fX,c];simp
def oF:aF->Prop
 |.once m=>m<=2500
 |.every f _=>f<=50
 |.daily _=>True
theorem TU(b:ns.length<=63)(o:t.length<=900):∃p t',(cP p/\oF p)/\t'.length<=t.length+4/\oy [.scr ns,.own true (.l t)]=.rt (.dat (fz p)) [.l t']:=by
 obtain⟨k,k1,q,h1⟩:=gi (ns:=ns) (t:=t) (many:=5) b (by lia) (by lia)
 by_cases e:k=0
 .obtain⟨w,a,h2⟩:=oE (ns:=ns) (t:=t++[.int 0]) (ds:=[.int 100,.int 100,.int 2500]) b (by simp;lia) (by simp) (by simp);have:∃i:Int,w=.int i/\0<i/\i<=2500:=by simp only[q0b,q0e,or_false]at a;rcases a with rfl |rfl |rfl<;>exact⟨_,rfl,by lia,by lia⟩
  obtain⟨i,rfl,c,j⟩:=this;obtain⟨m,d,n,h3⟩:=gi (ns:=ns) (t:=t++[.int 0]++[.int 0]) (many:=i) b (by simp;lia) c;refine⟨.once m,t++[.int 0]++[.int 0]++[.int 0],⟨⟨d,by lia⟩,show m<=2500 by lia⟩,by simp,?_⟩;simp only[q0k,q0B,q0w]at h1 h2 h3;simp[oy,tO,h1,h2,h3,mU,e]
 .by_cases g:k<3
  .obtain⟨w,a,h2⟩:=oE (ns:=ns) (t:=t++[.int 0]) (ds:=[.int 30,.int 30,.int 999]) b (by simp;lia) (by simp) (by simp);have:∃i:Int,w=.int i/\0<i/\i<=999:=by simp only[q0b,q0e,or_false]at a;rcases a with rfl |rfl |rfl<;>exact⟨_,rfl,by lia,by lia⟩
   obtain⟨i,rfl,c,j⟩:=this;obtain⟨s,r,u,h3⟩:=gi (ns:=ns) (t:=t++[.int 0]++[.int 0]) (many:=i) b (by simp;lia) c;obtain⟨f,f1,f2,h⟩:=gi (ns:=ns) (t:=t++[.int 0]++[.int 0]++[.int 0]) (many:=50) b (by simp;lia) (by lia);refine⟨.every f (1+s),t++[.int 0]++[.int 0]++[.int 0]++[.int 0],⟨⟨⟨f1,by lia⟩,by lia,by lia⟩,show f<=50 by lia⟩,by simp,?_⟩;simp only[q0k,q0B,q0w]at h1 h2 h3 h;simp[oy,tO,h1,h2,h3,h,mU,e,g]
  .obtain⟨m,d,n,h2⟩:=gi (ns:=ns) (t:=t++[.int 0]) (many:=24) b (by simp;lia) (by lia);refine⟨.daily m,t++[.int 0]++[.int 0],⟨⟨d,by lia⟩,trivial⟩,by simp,?_⟩;simp[oy,tO,h1,h2,mU,e,g]
theorem Gw(b:ss.length<=6):∀(fuel N:Nat)  g,cz a ss 0 - g<=24 * N->N<fuel->∃j,fX tp xu fuel [some (.dat (bN a ss)),x1,x2,x3,some (.dat (.int g)),x5]=.nx [some (.dat (bN a ss)),x1,x2,x3,some (.dat (.int (g+24 * j))),x5]/\cz a ss 0<=g+24 * j/\(j=0\/g+24 * j<cz a ss 0+24)
 |fuel+1,N,g,h1,h2=>by
  by_cases e:g<cz a ss 0
  .obtain⟨j,c,d,f⟩:=Gw b (a:=a) fuel (N - 1) (g+24) (by lia) (by lia);refine⟨j+1,?_,by lia,.inr (by lia)⟩;rw[Gu (by simp[tp,uf b,e]<;>rfl) (by simp[xu]<;>rfl),c,show g+24+24 * j=g+24 * (j+1) by lia]
  .refine⟨0,?_,by lia,.inl rfl⟩;rw[Gv (by simp[tp,uf b,e]<;>rfl)];simp
theorem Gx(g:d.length<=6)(i:fy 0 d)(p:0<=m)(u:bd a d (.daily h) m n):∀j k  f  fuel,k+j=n->f.length=k->(∀c,k<=c->c<n->cO a d h c=m)->j<fuel->fX ql tq fuel [some (.dat (bN a d)),x1,x2,some (.own false (.l f)),some (.dat (.int (gZ a d h k))),some (.dat (.int m))]=.nx [some (.dat (bN a d)),x1,x2,some (.own false (.l (f++(List.range' k j).map fun c=>.int (cO a d h c)))),some (.dat (.int (gZ a d h n))),some (.dat (.int m))]
 |0,k,f,fuel+1,r,hd,o,s=>by
  obtain rfl:k=n:=by lia
  have t:m<cO a d h k:=by
   rcases u.out with e |⟨v,e,w⟩
   .cases e
   .cases e;exact w
  have e:¬ gZ a d h k<=cz a d m:=fun z=>by have:=(Di (k:=k) i p (by lia)).mp z;lia
  rw[Gv (by simp[ql,uf g,e]<;>rfl)];simp
 |j+1,k,f,fuel+1,r,hd,o,s=>by
  have sz:1000000<sizeLine:=by decide
  have b:=u.le;have q:=o k (by lia) (by lia);have x:=Gx (x1:=x1) (x2:=x2) g i p u j (k+1) (f++[.int m]) fuel (by lia) (by simp;lia) (fun c B A=>o c (by lia) A) (by lia);have y:gZ a d h k+24=gZ a d h (k+1):=by unfold gZ;lia
  rw[Gu (by simp[ql,uf g,((Di i p (by lia)).mpr q)]<;>rfl) (by simp[tq,show f.length<sizeLine by lia]<;>rfl),y,x,q14];simp[q]
theorem Gy(z:du a b)(ok:cP (.daily h)):∀(r:Nat) (i:Int)  k n  d  j,0<=i->i+r<=10000->d.length=k->bd a b (.daily h) (i - 1) k->bd a b (.daily h) (i+r - 1) n->∃p,k<=n/\bR (al 5) tu (L3.intsFrom i r) [some (.dat (bN a b)),x1,x2,some (.own false (.l d)),some (.dat (.int (gZ a b h k))),j]=.nx [some (.dat (bN a b)),x1,x2,some (.own false (.l (d++(List.range' k (n - k)).map fun c=>.int (cO a b h c)))),some (.dat (.int (gZ a b h n))),p]
 |0,i,k,n,d,j,h0,h1,hd,u,q=>by have e:k=n:=Sj u (by rw[show i - 1=i+((0:Nat):Int) - 1 by lia];exact q) fun _ _ _=>Iff.rfl;subst e;exact⟨j,ba _,by simp[L3.intsFrom,bR]⟩
 |r+1,i,k,n,d,j,h0,h1,hd,u,q=>by
  obtain⟨m,f⟩:=Db (h:=h) (last:=i) z (by lia);have C:k<=m:=q1k fun t=>by obtain⟨v,o,x⟩:=u.in_ m t;have:=mM z ok f (ba _) o;lia
  have D:=f.le;have w:=Gx (x1:=x1) (x2:=x2) z.len z.rise h0 f (m - k) k d 100000 (by lia) hd (fun c A B=>by obtain⟨v,o,x⟩:=f.in_ c B;have:=mM z ok u A o;cases o;lia) (by lia);obtain⟨p,mn,g⟩:=Gy (x1:=x1) (x2:=x2) z ok r (i+1) m n (d++(List.range' k (m - k)).map fun c=>.int (cO a b h c)) (some (.dat (.int i))) (by lia) (by lia) (by simp;lia) (by rw[show i+1 - 1=i by lia];exact f) (by rw[show i+1+(r:Int) - 1=i+((r+1:Nat):Int) - 1 by lia];exact q);refine⟨p,by lia,?_⟩;rw[qJ,bR];simp only[al,q1r,q01,tu,w];rw[show fX ql tq 100000=tu from rfl,g];rw[q0k,<-q1P]
  congr 6
  have:=by have:=List.range'_append (s:=k) (m:=m - k) (n:=n - m) (step:=1);rw[show k+1 * (m - k)=m by lia,show m - k+(n - m)=n - k by lia]at this;exact this
  rw[this]
theorem TV(z:du a b)(ok:cP p)(x:0<=last/\last<=9999)(u:bd a b p last n):∃c,frz c=some (.list ((iw a b p n).map PyData.int))/\kE [.dat (bN a b),.dat (fz p),.dat (.int last)]=.rt c []:=by
 cases p with
 |once m=>
  by_cases e:m<=last
  .have i:n=1:=by
    rcases q2t n 1 with h |h |h
    .have h0:n=0:=by lia
     subst h0;rcases u.out with h |⟨v,h,d⟩
     .rw[bE,if_pos rfl]at h;cases h
     .rw[bE,if_pos rfl]at h;cases h;lia
    .exact h
    .obtain⟨v,d,_⟩:=u.in_ 1 h;rw[bE,if_neg (by decide)]at d;cases d
   subst i;exact⟨.dat (.list [.int m]),by simp[iw,List.range,List.range.loop,cX,bE],by simp[kE,qm,cq eJ eJ,e,gQ,List.replicate]⟩
  .have i:n=0:=by refine q1q fun h=>?_;obtain⟨v,d,y⟩:=u.in_ 0 h;rw[bE,if_pos rfl]at d;cases d;lia
   subst i;exact⟨.dat (.list []),by simp[iw],by simp[kE,qm,cq eJ eJ,e,gQ,List.replicate]⟩
 |every f s=>
  obtain⟨A,q,r⟩:=id ok;have t:=Df (by lia) u;refine⟨.dat (.list ((iw a b (.every f s) n).map PyData.int)),by simp,?_⟩;have k:(List.range (dE f (last+1) s)).map (fun(m:Nat)=>PyData.int (f+m * s))=(iw a b (.every f s) n).map PyData.int:=by rw[show dE f (last+1) s=n from t.symm];unfold iw;rw[q0T];rfl
  simp[kE,qm,cq gj eJ,cq gj gj,rT,k,show 0<=f by lia,show f<=1048576 by lia,show 0<=last+1 by lia,show last+1<=1048576 by lia,show 0<s by lia,show s<=1048576 by lia]
 |daily h=>
  obtain⟨q,r⟩:=id ok;have s0:=mL (m:=0) z.ah;have B:cz a b 0=0+fj a b 0:=rfl;obtain⟨j,o,C,D⟩:=Gw (a:=a) (ss:=b) z.len (x1:=some (.dat (fz (.daily h)))) (x2:=some (.dat (.int last))) (x3:=some (.own false (.l []))) (x5:=none) 100000 3 (h - 24) (by lia) (by lia);have fd:=qd (a:=a) (h:=h) (ss:=b);have w:h - 24+24 * j=gZ a b h 0:=by unfold gZ;lia
  rw[w]at o;obtain⟨E,_,g⟩:=Gy (x1:=some (.dat (fz (.daily h)))) (x2:=some (.dat (.int last))) z ok (last+1).toNat 0 0 n [] none (by lia) (by lia) rfl (Dg z ok) (by rw[show(0:Int)+((last+1).toNat:Nat) - 1=last by lia];exact u);rw[q0w,q2S,<-q18]at g;have k:(List.range n).map (fun c=>PyData.int (cO a b h c))=(iw a b (.daily h) n).map PyData.int:=by unfold iw;rw[q0T];rfl
  rw[k]at g;refine⟨.own false (.l ((iw a b (.daily h) n).map PyData.int)),by simp,?_⟩;simp[kE,qm,cq jQ eJ,cq jQ gj,o,g,show -4611686018427387904<=last+1 by lia,show last+1<4611686018427387904 by lia]
@[simp]theorem WG:eI .none=true:=by simp only[eI]
@[simp]theorem WH(i):eI (.int i)=true:=by simp only[eI]
@[simp]theorem WI(b):eI (.bool b)=true:=by simp only[eI]
@[simp]theorem WJ(x):eI (.str x)=true:=by simp only[eI]
@[simp]theorem WK(l):eI (.tuple l)=true:=by simp only[eI]
@[simp]theorem WL(l):eI (.list l)=true:=by simp only[eI]
inductive dP where
 |all |last |within (n:Int)
structure ay where
 plan:aF
 late:dP
 again:Bool
noncomputable abbrev dA:dP->PyData
 |.all=>.str "all"
 |.last=>.str "last"
 |.within n=>.tuple [.str "within",.int n]
abbrev bV(d:ay):PyData:=.tuple [fz d.plan,dA d.late,.bool d.again]
@[irreducible] def cQ(a:List ay):PyData:=.tuple (a.map bV)
noncomputable def fQ:Option Int->PyData
 |none=>.none
 |some i=>.int i
noncomputable def ix:Option (Nat×Nat×Int)->PyData
 |none=>.none
 |some (d,c,h)=>.tuple [.int d,.int c,.int h]
inductive Wd where
 |begun |done |left |unsure
deriving DecidableEq
noncomputable abbrev eK:Wd->Str
 |.begun=>"begun"
 |.done=>"done"
 |.left=>"left"
 |.unsure=>"unsure"
structure jn where
 mo:Int
 ru:Int
 wd:Wd
 dd:Nat
 ct:Nat
abbrev gk(r:jn):PyData:=.tuple [.int r.mo,.int r.ru,.str (eK r.wd),.int r.dd,.int r.ct]
noncomputable abbrev aE(n:Nat):PyData:=.int n
def eW(a:List ((Nat×Nat)×Wd)):List (PyData×PyData):=a.map fun p=>(.tuple [aE p.1.1,aE p.1.2],.str (eK p.2))
structure Hl where
 a:Int
 ss:Sh
 ds:List ay
 last:Option Int
 holder:Option Int
 til:Int
 holds:Int
 begun:Option (Nat×Nat×Int)
 rows:List jn
 words:List ((Nat×Nat)×Wd)
 settled:List Nat
@[irreducible] def ai(S:Hl):List (Str×Fl):=[("zone",.d (bN S.a S.ss)),("deeds",.d (cQ S.ds)),("last",.d (fQ S.last)),("holder",.d (fQ S.holder)),("until",.d (.int S.til)),("holds",.d (.int S.holds)),("begun",.d (ix S.begun)),("rows",.l (S.rows.map gk)),("words",.m true (eW S.words)),("settled",.l (S.settled.map aE))]
abbrev hB(C:Addr)(S:Hl):Bx:=.o C (ai S)
@[simp]theorem WM(S):List.lookup ("zone":Str) (ai S)=some (.d (bN S.a S.ss)):=by kernel_rfl
@[simp]theorem WN(S):List.lookup ("deeds":Str) (ai S)=some (.d (cQ S.ds)):=by kernel_rfl
@[simp]theorem WO(S):List.lookup ("last":Str) (ai S)=some (.d (fQ S.last)):=by kernel_rfl
@[simp]theorem WP(S):List.lookup ("holder":Str) (ai S)=some (.d (fQ S.holder)):=by kernel_rfl
@[simp]theorem WQ(S):List.lookup ("until":Str) (ai S)=some (.d (.int S.til)):=by kernel_rfl
@[simp]theorem WR(S):List.lookup ("holds":Str) (ai S)=some (.d (.int S.holds)):=by kernel_rfl
@[simp]theorem WS(S):List.lookup ("begun":Str) (ai S)=some (.d (ix S.begun)):=by kernel_rfl
@[simp]theorem WT(S):List.lookup ("rows":Str) (ai S)=some (.l (S.rows.map gk)):=by kernel_rfl
@[simp]theorem WU(S):List.lookup ("words":Str) (ai S)=some (.m true (eW S.words)):=by kernel_rfl
@[simp]theorem WV(S):List.lookup ("settled":Str) (ai S)=some (.l (S.settled.map aE)):=by kernel_rfl
@[simp]theorem WW(S):List.lookup ("is_held":Str) (ai S)=none:=by kernel_rfl
@[simp]theorem WX(S):List.lookup ("check_call":Str) (ai S)=none:=by kernel_rfl
@[simp]theorem WY(S):List.lookup ("check_holder":Str) (ai S)=none:=by kernel_rfl
@[simp]theorem WZ(S):List.lookup ("take":Str) (ai S)=none:=by kernel_rfl
@[simp]theorem Xa(S):List.lookup ("give":Str) (ai S)=none:=by kernel_rfl
@[simp]theorem Xb(S):List.lookup ("add_row":Str) (ai S)=none:=by kernel_rfl
@[simp]theorem Xc(S):List.lookup ("is_busy":Str) (ai S)=none:=by kernel_rfl
@[simp]theorem Xd(S):List.lookup ("first_unsettled":Str) (ai S)=none:=by kernel_rfl
@[simp]theorem Xe(S):List.lookup ("step":Str) (ai S)=none:=by kernel_rfl
@[simp]theorem Xf(S):List.lookup ("step_behind_a_fall":Str) (ai S)=none:=by kernel_rfl
@[simp]theorem Xg(S):List.lookup ("step_ahead":Str) (ai S)=none:=by kernel_rfl
@[simp]theorem Xh(S):List.lookup ("finish":Str) (ai S)=none:=by kernel_rfl
@[simp]theorem Xi(S):List.lookup ("state":Str) (ai S)=none:=by kernel_rfl
@[simp]theorem Xj(S):List.lookup ("held":Str) (ai S)=none:=by kernel_rfl
@[simp]theorem Xk(S):List.lookup ("log":Str) (ai S)=none:=by kernel_rfl
@[simp]theorem Xl(S):List.lookup ("waiting":Str) (ai S)=none:=by kernel_rfl
@[simp]theorem Xm(S):List.lookup ("saved":Str) (ai S)=none:=by kernel_rfl
@[simp]theorem Xn(S):(ai S).length=10:=by kernel_rfl
theorem Gz(S x):bO ("last":Str) (.d (fQ x)) (ai S)=ai { S with last:=x }:=by kernel_rfl
theorem GA(S x):bO ("holder":Str) (.d (fQ x)) (ai S)=ai { S with holder:=x }:=by kernel_rfl
theorem TW(S x):bO ("until":Str) (.d (.int x)) (ai S)=ai { S with til:=x }:=by kernel_rfl
theorem TX(S x):bO ("holds":Str) (.d (.int x)) (ai S)=ai { S with holds:=x }:=by kernel_rfl
theorem GB(S x):bO ("begun":Str) (.d (ix x)) (ai S)=ai { S with begun:=x }:=by kernel_rfl
theorem TY(S x):bO ("rows":Str) (.l (x.map gk)) (ai S)=ai { S with rows:=x }:=by kernel_rfl
theorem GC(S x):bO ("words":Str) (.m true (eW x)) (ai S)=ai { S with words:=x }:=by kernel_rfl
theorem TZ(S x):bO ("settled":Str) (.l (x.map aE)) (ai S)=ai { S with settled:=x }:=by kernel_rfl
@[simp]theorem Xo(S):bO ("last":Str) (.d .none) (ai S)=ai { S with last:=none }:=Gz S none
@[simp]theorem Xp(S i):bO ("last":Str) (.d (.int i)) (ai S)=ai { S with last:=some i }:=Gz S (some i)
@[simp]theorem Xq(S):bO ("holder":Str) (.d .none) (ai S)=ai { S with holder:=none }:=GA S none
@[simp]theorem Xr(S i):bO ("holder":Str) (.d (.int i)) (ai S)=ai { S with holder:=some i }:=GA S (some i)
@[simp]theorem Xs(S i):bO ("until":Str) (.d (.int i)) (ai S)=ai { S with til:=i }:=TW S i
@[simp]theorem Xt(S i):bO ("holds":Str) (.d (.int i)) (ai S)=ai { S with holds:=i }:=TX S i
@[simp]theorem Xu(S):bO ("begun":Str) (.d .none) (ai S)=ai { S with begun:=none }:=GB S none
@[simp]theorem Xv(S)(d c:Nat)(h):bO ("begun":Str) (.d (.tuple [.int d,.int c,.int h])) (ai S)=ai { S with begun:=some (d,c,h) }:=GB S (some (d,c,h))
@[simp]theorem Xw{U:aj}:cb C (some (.own io (.o C fs))::U) 0=some (io,fs):=by simp[cb]
@[simp]theorem Xx{U:aj}:cb C (x::y::some (.own io (.o C fs))::U) 2=some (io,fs):=by simp[cb]
@[simp]theorem Xy{U:aj}(h:fs.lookup f=some (.d d)):cD C 0 f (some (.own io (.o C fs))::U)=.ok d (some (.own io (.o C fs))::U):=by simp[cD,h]
@[simp]theorem Xz:isNone .none=true:=by simp only[isNone]
@[simp]theorem XA(i):isNone (.int i)=false:=by simp only[isNone]
@[simp]theorem XB(b):isNone (.bool b)=false:=by simp only[isNone]
@[simp]theorem XC(x):isNone (.str x)=false:=by simp only[isNone]
@[simp]theorem XD(l):isNone (.tuple l)=false:=by simp only[isNone]
@[simp]theorem XE(l):isNone (.list l)=false:=by simp only[isNone]
@[simp]theorem XF(x):isNone (fQ x)=x.isNone:=by cases x<;>simp[fQ]
@[simp]theorem XG(x):isNone (ix x)=x.isNone:=by rcases x with _ |⟨_,_,_⟩<;>simp[ix]
theorem Ua(h:eI d=true):sY [.dat d]=.rt (.dat (.bool (di d 0 3))) []:=by simp[sY,Ds,kN h]
theorem Ub(h:eI d=true):sZ [.dat d]=.rt (.dat (.bool (di d 1 99))) []:=by simp[sZ,Dt,kN h]
theorem GD(h:eI d=true):tG [.dat d]=if di d 0 3=true then .rt (.dat .none) []else .bad:=by simp only[tG,DC];cases a:di d 0 3<;>simp[Ua h,a]
theorem xP(h:eI d=true):tH [.dat d]=if di d 1 99=true then .rt (.dat .none) []else .bad:=by simp only[tH,DH];cases a:di d 1 99<;>simp[Ub h,a]
noncomputable def iP(S:Hl)(m:Int):Bool:=S.holder.isSome&&decide (m<S.til)
noncomputable def uo(S:Hl)(m:Int):Bool:=match S.last with
 |some l=>decide (m<l)
 |none=>false
theorem uq:qh C [.own true (hB C S),.dat (.int m)]=.rt (.dat (.bool (iP S m))) [hB C S]:=by unfold iP;cases h:S.holder<;>simp[qh,Dn,h,fQ]
theorem Uc(b:eI r=true)(c:di r 0 3=true)(e:di (.int m) 0 9999=true)(a:uo S m=false):kH C [.own true (hB C S),.dat r,.dat (.int m)]=.rt (.dat .none) [hB C S]:=by
 unfold uo at a;cases h:S.last with
 |none=>simp[kH,xx,GD b,c,FZ (d:=.int m) rfl,e,h,fQ]
 |some l=>rw[h]at a;simp[kH,xx,GD b,c,FZ (d:=.int m) rfl,e,h,fQ,show ¬ m<l by lia]
theorem xQ(x r):aB true (fQ x) (.int r)=some (.bool (!decide (x=some r))):=by
 cases x with
 |none=>simp[fQ,aB,oC,show SeqAt.shaped .none=true from rfl,PyData.eqv]
 |some i=>simp[fQ,TB]
theorem Ud(h:kH C [.own true (hB C S),.dat (.int r),.dat (.int m)]=.rt (.dat .none) [hB C S])(a:iP S m=true)(b:S.holder=some r):lI C [.own true (hB C S),.dat (.int r),.dat (.int m)]=.rt (.dat .none) [hB C S]:=by simp[lI,DU,cB,fg,h,uq,a,xQ,b]
def oG(S:Hl)(r m t:Int):Hl×Bool:=if iP S m=false then({ S with last:=some m,holds:=S.holds+1,holder:=some r,til:=m+t },true) else if S.holder=some r then({ S with last:=some m,holder:=some r,til:=m+t },true) else({ S with last:=some m },false)
theorem GG(h:kH C [.own true (hB C S),.dat (.int r),.dat (.int m)]=.rt (.dat .none) [hB C S])(b:di (.int t) 1 99=true):kI C [.own true (hB C S),.dat (.int r),.dat (.int m),.dat (.int t)]=.rt (.dat (.bool (oG S r m t).2)) [hB C (oG S r m t).1]:=by
 unfold oG;have hh:iP { S with last:=some m } m=iP S m:=rfl;cases a:iP S m with
 |false=>simp[kI,tP,cB,fg,h,xP (d:=.int t) rfl,b,dO,iu,ir,uq,hh,a,sh]
 |true=>
  by_cases c:S.holder=some r
  .simp[kI,tP,cB,fg,h,xP (d:=.int t) rfl,b,dO,iu,ir,uq,iP,(by unfold iP at a;simp[c]at a;exact a),xQ,c]
  .simp[kI,tP,cB,fg,h,xP (d:=.int t) rfl,b,dO,iu,ir,uq,hh,a,xQ,c]
abbrev Ue(S:Hl):PyData:=.tuple [fQ S.holder,.int S.til,.int S.holds]
theorem Uf:mO C [.own true (hB C S)]=.rt (.dat (Ue S)) [hB C S]:=by simp[mO,Do]
theorem Ug:mP C [.own true (hB C S)]=.rt (.dat (.list (S.rows.map gk))) [hB C S]:=by simp[mP,Dp,si]
@[irreducible]noncomputable def lL(z d:PyData):List (Str×Fl):=[]
@[irreducible]noncomputable def lM(z d:PyData):List (Str×Fl):=[("zone",.d z)]
@[irreducible]noncomputable def lN(z d:PyData):List (Str×Fl):=[("zone",.d z),("deeds",.d d)]
@[irreducible]noncomputable def lO(z d:PyData):List (Str×Fl):=[("zone",.d z),("deeds",.d d),("last",.d .none)]
@[irreducible]noncomputable def lP(z d:PyData):List (Str×Fl):=[("zone",.d z),("deeds",.d d),("last",.d .none),("holder",.d .none)]
@[irreducible]noncomputable def lQ(z d:PyData):List (Str×Fl):=[("zone",.d z),("deeds",.d d),("last",.d .none),("holder",.d .none),("until",.d (.int 0))]
@[irreducible]noncomputable def lR(z d:PyData):List (Str×Fl):=[("zone",.d z),("deeds",.d d),("last",.d .none),("holder",.d .none),("until",.d (.int 0)),("holds",.d (.int 0))]
@[irreducible]noncomputable def lS(z d:PyData):List (Str×Fl):=[("zone",.d z),("deeds",.d d),("last",.d .none),("holder",.d .none),("until",.d (.int 0)),("holds",.d (.int 0)),("begun",.d .none)]
@[irreducible]noncomputable def lT(z d:PyData):List (Str×Fl):=[("zone",.d z),("deeds",.d d),("last",.d .none),("holder",.d .none),("until",.d (.int 0)),("holds",.d (.int 0)),("begun",.d .none),("rows",.l [])]
@[irreducible]noncomputable def lU(z d:PyData):List (Str×Fl):=[("zone",.d z),("deeds",.d d),("last",.d .none),("holder",.d .none),("until",.d (.int 0)),("holds",.d (.int 0)),("begun",.d .none),("rows",.l []),("words",.m true [])]
@[simp]theorem XH(z d):List.lookup ("zone":Str) (lL z d)=none:=by kernel_rfl
@[simp]theorem XI(z d):(lL z d).length=0:=by kernel_rfl
@[simp]theorem XJ(z d):bO ("zone":Str) (.d z) (lL z d)=lM z d:=by kernel_rfl
@[simp]theorem XL(z d):List.lookup ("deeds":Str) (lM z d)=none:=by kernel_rfl
@[simp]theorem XN(z d):(lM z d).length=1:=by kernel_rfl
@[simp]theorem XO(z d):bO ("deeds":Str) (.d d) (lM z d)=lN z d:=by kernel_rfl
@[simp]theorem XP(z d):List.lookup ("last":Str) (lN z d)=none:=by kernel_rfl
@[simp]theorem XQ(z d):(lN z d).length=2:=by kernel_rfl
@[simp]theorem XR(z d):bO ("last":Str) (.d .none) (lN z d)=lO z d:=by kernel_rfl
@[simp]theorem XS(z d):List.lookup ("holder":Str) (lO z d)=none:=by kernel_rfl
@[simp]theorem XT(z d):(lO z d).length=3:=by kernel_rfl
@[simp]theorem XU(z d):bO ("holder":Str) (.d .none) (lO z d)=lP z d:=by kernel_rfl
@[simp]theorem XV(z d):List.lookup ("until":Str) (lP z d)=none:=by kernel_rfl
@[simp]theorem XW(z d):(lP z d).length=4:=by kernel_rfl
@[simp]theorem XX(z d):bO ("until":Str) (.d (.int 0)) (lP z d)=lQ z d:=by kernel_rfl
@[simp]theorem XY(z d):List.lookup ("holds":Str) (lQ z d)=none:=by kernel_rfl
@[simp]theorem XZ(z d):(lQ z d).length=5:=by kernel_rfl
@[simp]theorem Ya(z d):bO ("holds":Str) (.d (.int 0)) (lQ z d)=lR z d:=by kernel_rfl
@[simp]theorem Yb(z d):List.lookup ("begun":Str) (lR z d)=none:=by kernel_rfl
@[simp]theorem Yc(z d):(lR z d).length=6:=by kernel_rfl
@[simp]theorem Yd(z d):bO ("begun":Str) (.d .none) (lR z d)=lS z d:=by kernel_rfl
@[simp]theorem Ye(z d):List.lookup ("rows":Str) (lS z d)=none:=by kernel_rfl
@[simp]theorem Yf(z d):(lS z d).length=7:=by kernel_rfl
@[simp]theorem Yg(z d):bO ("rows":Str) (.l []) (lS z d)=lT z d:=by kernel_rfl
@[simp]theorem Yh(z d):List.lookup ("words":Str) (lT z d)=none:=by kernel_rfl
@[simp]theorem Yi(z d):(lT z d).length=8:=by kernel_rfl
@[simp]theorem Yj(z d):bO ("words":Str) (.m true []) (lT z d)=lU z d:=by kernel_rfl
@[simp]theorem Yk(z d):List.lookup ("settled":Str) (lU z d)=none:=by kernel_rfl
@[simp]theorem Yl(z d):(lU z d).length=9:=by kernel_rfl
noncomputable def eO(a:Int)(c:Sh)(b:List ay):Hl:=⟨a,c,b,none,none,0,0,none,[],[],List.replicate b.length 0⟩
theorem Uh(a c b):bO ("settled":Str) (.l ((List.replicate b.length (0:Nat)).map aE)) (lU (bN a c) (cQ b))=ai (eO a c b):=by kernel_rfl
theorem GI:∀l a (U:aj),(∃x,U=[x])->a.length+l.length<=sizeLine->bU (al 0) cN (tS C) l a U=some (a++(List.replicate l.length (0:Nat)).map aE)
 |[],a,U,_,_=>by simp[bU]
 |d::l,a,U,⟨x,b⟩,c=>by
  subst b;simp only[q0o]at c;have f:tS C [some (.dat d)]=.ok (.int 0) [some (.dat d)]:=by simp[tS]
  rw[bU];simp[cN,f,show a.length<sizeLine by lia,(GI l (a++[.int 0]) [some (.dat d)] ⟨_,rfl⟩ (by simp;lia)),q0D]
theorem Ui(e:qt [.dat (bN a c)]=.rt (.dat .none) [])(hd:qw [.dat (cQ b)]=.rt (.dat .none) [])(i:b.length<=6):tT C [.own true (.o C []),.dat (bN a c),.dat (cQ b)]=.rt (.dat .none) [hB C (eO a c b)]:=by
 have sz:1000<sizeLine:=by decide
 have f:([])=lL (bN a c) (cQ b):=by unfold lL;rfl
 have g:=GI (C:=C) (b.map bV) [] [none] ⟨_,rfl⟩ (by simp;lia);rw[q0w,q0h]at g;have h:cQ b=.tuple (b.map bV):=by unfold cQ;rfl
 have d:=Uh a c b;rw[f];simp[tT,Eb,e,hd,dO,iu,ir,mE,wJ,sv];rw[h]at *;simp[g,show b.length<=sizeLine by lia]at d ⊢;exact d
def mW(p:aF):Prop:=cP p
theorem mW.plan(h:mW p):cP p:=h
theorem xR{c:Nat}(b:ss.length<=6)(ok:mW p):jm [.dat (bN a ss),.dat (fz p),.dat (.int c)]=.rt (.dat (eN (bE a ss p c))) []:=TL b ok
theorem lV:PyData.strOk "all" = true:=by decide +kernel
theorem jo:PyData.strOk "last" = true:=by decide +kernel
theorem xS:PyData.strOk "within" = true:=by decide +kernel
theorem jq:PyData.strOk "begun" = true:=by decide +kernel
theorem Uj:PyData.strOk "done" = true:=by decide +kernel
theorem ur:PyData.strOk "left" = true:=by decide +kernel
theorem Uk:PyData.strOk "unsure" = true:=by decide +kernel
theorem GJ:(("all":Str)==("all":Str))=true:=by decide +kernel
theorem xT:(("last":Str)==("all":Str))=false:=by decide +kernel
theorem xW:(("last":Str)==("last":Str))=true:=by decide +kernel
theorem GK:(("begun":Str)==("begun":Str))=true:=by decide +kernel
theorem Ul:(("done":Str)==("begun":Str))=false:=by decide +kernel
theorem Um:(("left":Str)==("begun":Str))=false:=by decide +kernel
theorem Uo:(("unsure":Str)==("begun":Str))=false:=by decide +kernel
theorem Up(w):aB false (.str (eK w)) (.str "begun")=some (.bool (decide (w=.begun))):=by
 cases w
 .simp[cq jq jq]
 .simp[cq Uj jq,Ul]
 .simp[cq ur jq,Um]
 .simp[cq Uk jq,Uo]
theorem xX(h:SeqAt.shaped (.tuple l)=true)(a:PyData.strOk x=true):aB false (.tuple l) (.str x)=some (.bool false):=by simp[aB,h,xO a,PyData.eqv]
theorem xY(n):SeqAt.shaped (.tuple [.str "within",.int n])=true:=by unfold SeqAt.shaped;simp[PyData.canLay0,PyData.canLayAll0,PyData.depth,PyData.depthAll,xS]
def dW(a:Int)(b:Sh)(d:ay)(c:Nat)(now:Int):Bool:=match d.late with
 |.all=>false
 |.last=>(match bE a b d.plan (c+1) with |some v=>decide (v<=now) |none=>false)
 |.within n=>decide (now - cX a b d.plan c>n)
theorem Uq(f:ss.length<=6)(ok:mW d.plan)(g:∃v,bE a ss d.plan c=some v):mQ [.dat (bN a ss),.dat (bV d),.dat (.int c),.dat (.int now)]=.rt (.dat (.bool (dW a ss d c now))) []:=by
 obtain⟨p,la,h⟩:=d;obtain⟨v,e⟩:=g;unfold dW;cases la with
 |all=>simp[mQ,qu,cq lV lV,GJ]
 |last=>
  have rt:=xR (a:=a) (ss:=ss) (p:=p) (c:=c+1) f ok;simp at rt;cases b:bE a ss p (c+1) with
  |none=>rw[b]at rt;simp[mQ,qu,cq jo lV,cq jo jo,xT,xW,rt,eN,b]
  |some w=>rw[b]at rt;simp[mQ,qu,cq jo lV,cq jo jo,xT,xW,rt,eN,b]
 |within n=>have rt:=xR (a:=a) (ss:=ss) (p:=p) (c:=c) f ok;rw[e]at rt;simp[mQ,qu,xX (xY n) lV,xX (xY n) jo,rt,eN,cX,e]
noncomputable def gl:List ((Nat×Nat)×Wd)->(Nat×Nat)->Wd->List ((Nat×Nat)×Wd)
 |[],k,w=>[(k,w)]
 |(a,v)::r,k,w=>if a = k then(a,w)::r else(a,v)::gl r k w
theorem xZ(d c):je true (.tuple [aE d,aE c])=some [Sum.inl (d:Int),Sum.inl (c:Int)]:=rfl
theorem qK{d c :Nat}:(je true (.tuple [aE a,aE b])=some [Sum.inl (d:Int),Sum.inl (c:Int)])↔(a,b)=(d,c):=by
 rw[xZ];constructor
 .intro h;have e:a = d:=by lia
  have f:b = c:=by lia
  rw[e,f]
 .intro h;cases h;rfl
theorem GL(d c:Nat):∀e,lm true (eW e) [Sum.inl (d:Int),Sum.inl (c:Int)]=(e.lookup (d,c)).map fun w=>.str (eK w)
 |[]=>rfl
 | ((a,b),w)::r=>by
  unfold eW;rw[q0l,lm];have f:=GL d c r;unfold eW at f
  by_cases h:(a,b)=(d,c)
  .rw[if_pos (qK.mpr h)];cases h;simp
  .rw[if_neg (fun z=>h (qK.mp z)),f];have:((d,c)==(a,b))=false:=by simpa using fun z:(d=a/\c=b)=>h (by rw[z.1,z.2])
   rw[q0s,this]
theorem GN(d c w):∀a:List ((Nat×Nat)×Wd),(a.map (·.1)).Nodup->(a.lookup (d,c)).isSome=true->mB true [Sum.inl (d:Int),Sum.inl (c:Int)] (.str (eK w)) (eW a)=eW (gl a (d,c) w)
 |[],_,h=>by cases h
 | ((b,f),v)::r,nd,h=>by
  unfold eW;rw[q0l,mB];have tail:∀a,(d,c)∉a.map (·.1)->mB true [Sum.inl d,Sum.inl c] (.str (eK w)) (eW a)=eW a:=by
   intro a
   induction a with
   |nil=>intro _;rfl
   |cons p r i=>intro g;obtain⟨⟨k,l⟩,m⟩:=p;simp only[q0l,q0b,not_or]at g;unfold eW;rw[q0l,mB,if_neg (fun z=>g.1 (qK.mp z).symm)];have:=i g.2;unfold eW at this;rw[this]
  by_cases e:(b,f)=(d,c)
  .cases e;rw[if_pos (qK.mpr rfl),gl,if_pos rfl,q0l];have:=tail r (by simpa using(q0I.mp nd).1);unfold eW at this;rw[this]
  .have j:=by
    have:((d,c)==(b,f))=false:=by simpa using fun z:(d=b/\c=f)=>e (by rw[z.1,z.2])
    rw[q0s,this]at h;exact h
   rw[if_neg (fun z=>e (qK.mp z)),gl,if_neg e,q0l];have:=GN d c w r (q0I.mp nd).2 j;unfold eW at this;rw[this]
theorem GO(k w):∀a,a.lookup k=none->gl a k w=a++[(k,w)]
 |[],_=>rfl
 | (b,v)::r,h=>by
  rw[q0s]at h
  by_cases e:k=b
  .subst e;simp at h
  .have:(k==b)=false:=by simpa using e
   rw[this]at h;rw[gl,if_neg (fun z=>e z.symm),GO k w r h];rfl
theorem Ur(a:(ws.map (·.1)).Nodup):lp true (eW ws) (.tuple [aE d,aE c]) [Sum.inl (d:Int),Sum.inl (c:Int)] (.str (eK w))=eW (gl ws (d,c) w):=by
 unfold lp;rw[GL];cases h:ws.lookup (d,c) with
 |none=>rw[GO _ _ _ h];simp[eW]
 |some v=>exact GN d c w ws a (by rw[h];rfl)
theorem ya(k w):∀a,(gl a k w).map (·.1)=if k∈a.map (·.1) then a.map (·.1) else a.map (·.1)++[k]
 |[]=>by simp[gl]
 | (b,v)::r=>by
  rw[gl]
  by_cases e:b = k
  .subst e;simp
  .rw[if_neg e,q0l,ya k w r]
   by_cases h:k∈r.map (·.1)
   .rw[if_pos h];rw[if_pos (by simp[h])];rfl
   .rw[if_neg h,if_neg (by
     simp only[q0l,q0b,not_or];exact⟨fun z=>e z.symm,h⟩)];rfl
theorem Us(d:(c.map (·.1)).Nodup):((gl c k w).map (·.1)).Nodup:=by
 rw[ya];split
 .exact d
 .rename_i h;exact q0j.mpr ⟨d,by simp,fun a f b e z=>by simp at e;subst e;subst z;exact h f⟩
theorem Ut(k w a):(gl a k w).length<=a.length+1:=by have:=congrArg List.length (ya k w a);rw[q0h]at this;rw[this];split<;>simp
def eX(S:Hl)(r:jn):Hl:={ S with rows:=S.rows++[r],words:=gl S.words (r.dd,r.ct) r.wd,begun:=if r.wd=.begun then some (r.dd,r.ct,S.holds) else none,settled:=if r.wd=.begun then S.settled else S.settled.set r.dd (r.ct+1) }
theorem qL{v:PyData}:bL (x::y::z::v::l) 3=some v:=by unfold bL cT;rw[if_pos (by lia),if_pos (by simp<;>lia)];rfl
theorem qM{u:PyData}:bL (x::y::z::v::u::l) 4=some u:=by unfold bL cT;rw[if_pos (by lia),if_pos (by simp<;>lia)];rfl
theorem Uu(S r):bO ("rows":Str) (.l (S.rows.map gk++[gk r])) (ai S)=ai { S with rows:=S.rows++[r] }:=by rw[show S.rows.map gk++[gk r]=(S.rows++[r]).map gk by simp];exact TY S _
theorem qN(j:S.rows.length<1000000)(k:S.words.length<1000000)(h:(S.words.map (·.1)).Nodup)(hd:r.dd<S.settled.length):iO C [.own true (hB C S),.dat (gk r)]=.rt (.dat (.tuple [.str (eK r.wd),aE r.dd,aE r.ct])) [hB C (eX S r)]:=by
 have sz:1000000<sizeLine:=by decide
 obtain⟨i,ru,wd,a,b⟩:=r;have e:=Ur (ws:=S.words) (d:=a) (c:=b) (w:=wd) h;have l1:(eW S.words).length<sizeLine:=by unfold eW;rw[q0h];lia
 have f:=Uu S ⟨i,ru,wd,a,b⟩;simp only at hd;have g:cT S.settled.length (a:Int)=some a:=by unfold cT;rw[if_pos (by lia),if_pos (by lia)];simp
 have st:(S.settled.map aE).set a (.int ((b:Int)+1))=(S.settled.set a (b+1)).map aE:=by rw[q2U];simp[aE]
 unfold eX
 by_cases hb:wd=.begun
 .subst hb;simp[iO,xn,qL,qM,pG,gc,se,show S.rows.length<sizeLine by lia,f,sf,pH,xZ,l1,e,GC,dO,iu,ir,sg,pJ,g,st,cq jq jq,GK]
 .simp[iO,xn,qL,qM,pG,gc,se,show S.rows.length<sizeLine by lia,f,sf,pH,xZ,l1,e,GC,dO,iu,ir,sg,pJ,g,st,Up,hb];rw[<-q2U];exact TZ _ _
structure bJ (S:Hl):Prop where
 z:du S.a S.ss
 dl:S.ds.length<=6
 pl:∀d∈S.ds,mW d.plan
 sl:S.settled.length=S.ds.length
 nd:(S.words.map (·.1)).Nodup
 bg:∀d c h,S.begun=some (d,c,h)->d<S.ds.length
noncomputable def uu(S:Hl):Bool:=match S.begun with
 |some (_,_,h)=>decide (h=S.holds)
 |none=>false
theorem yb(b:a.length=n)(d:m (a.map some++List.replicate (N - n) none)=.rt c U)(e:en a U=some o):bz n N m a=.rt c o:=by unfold bz;rw[if_pos b,d];simp only[e]
theorem GP(a:-4611686018427387904<=j)(b:j<4611686018427387904):dc [.int j]=some (L3.intsFrom 0 j.toNat):=by show(if _ then _ else _)=_;rw[if_pos (by rw[decide_eq_true (by lia),decide_eq_true (by lia)];rfl)]
theorem GQ:om C [.own true (hB C S)]=.rt (.dat (.bool (uu S))) [hB C S]:=by
 unfold uu;cases h:S.begun with
 |none=>simp[om,xo,h,ix]
 |some p=>obtain⟨d,c,k⟩:=p;simp[om,xo,h,ix,mU]
theorem GS{a:List ay}(h:k<a.length):aI (cQ a) (.int k)=some (bV a[k]):=by
 unfold cQ;have:bL (a.map bV) k=some (bV a[k]):=by unfold bL cT;rw[if_pos (by lia),if_pos (by simp;lia)];simp[h]
 simp[this]
theorem Uv{l:List Nat}(h:k<l.length):bL (l.map aE) (k:Int)=some (aE l[k]):=by unfold bL cT;rw[if_pos (by lia),if_pos (by simp;lia)];simp[h]
noncomputable def bu(S:Hl)(k:Nat):Nat:=S.settled.getD k 0
def oH(S:Hl)(k:Nat):Option (List Int):=match S.ds[k]? with
 |some d=>(bE S.a S.ss d.plan (bu S k)).map fun v=>[v,(k:Int),(bu S k:Int)]
 |none=>none
def fA(S:Hl):List (List Int):=(List.range S.ds.length).filterMap (oH S)
noncomputable abbrev dj(r:List Int):PyData:=.tuple (r.map PyData.int)
theorem yc(ok:bJ S):∀n k  b  m f g,k+n=S.ds.length->b.length<=k->∃h i j,bR (al 2) (mR C) (L3.intsFrom (k:Int) n) [some (.own true (hB C S)),some (.own false (.l (b.map dj))),m,f,g]=.nx [some (.own true (hB C S)),some (.own false (.l ((b++(List.range' k n).filterMap (oH S)).map dj))),h,i,j]
 |0,k,b,m,f,g,_,_=>⟨m,f,g,by simp[L3.intsFrom,bR]⟩
 |n+1,k,b,m,f,g,u,w=>by
  have sz:1000<sizeLine:=by decide
  have d:k<S.ds.length:=by lia
  have hs:k<S.settled.length:=by rw[ok.sl];exact d
  have dl:=ok.dl;have r:mW (S.ds[k]).plan:=ok.pl _ (q0L d);have s:bu S k=S.settled[k]:=by unfold bu;rw[q0R,q0c hs];rfl
  have rt:=xR (a:=S.a) (ss:=S.ss) (p:=(S.ds[k]).plan) (c:=S.settled[k]) ok.z.len r;have as:=Uv (l:=S.settled) hs;have t:oH S k=(bE S.a S.ss (S.ds[k]).plan S.settled[k]).map fun v=>[v,(k:Int),((S.settled[k]:Nat):Int)]:=by unfold oH;rw[q0c d,<-s]
  rw[qJ,bR,q14,q07,t];cases q:bE S.a S.ss (S.ds[k]).plan S.settled[k]with
  |none=>
   rw[q]at rt;have e:mR C [some (.own true (hB C S)),some (.own false (.l (b.map dj))),some (.dat (.int k)),f,g]=.nx [some (.own true (hB C S)),some (.own false (.l (b.map dj))),some (.dat (.int k)),some (.dat (aE S.settled[k])),some (.dat .none)]:=by simp[-aI,mR,pI,gc,as,GS d];simp[rt,eN]
   obtain⟨h,i,j,o⟩:=yc ok n (k+1) b (some (.dat (.int k))) (some (.dat (aE S.settled[k]))) (some (.dat .none)) (by lia) (by lia);refine⟨h,i,j,?_⟩;simp only[Option.map_none];rw[<-o];simp[e]
  |some v=>
   rw[q]at rt;have e:mR C [some (.own true (hB C S)),some (.own false (.l (b.map dj))),some (.dat (.int k)),f,g]=.nx [some (.own true (hB C S)),some (.own false (.l ((b++[[v,(k:Int),((S.settled[k]:Nat):Int)]]).map dj))),some (.dat (.int k)),some (.dat (aE S.settled[k])),some (.dat (.int v))]:=by simp[-aI,mR,pI,gc,as,GS d];simp[rt,eN,show b.length<sizeLine by lia]
   obtain⟨h,i,j,o⟩:=yc ok n (k+1) (b++[[v,(k:Int),((S.settled[k]:Nat):Int)]]) (some (.dat (.int k))) (some (.dat (aE S.settled[k]))) (some (.dat (.int v))) (by lia) (by simp;lia);refine⟨h,i,j,?_⟩;simp only[Option.map_some];rw[q0k,q1c]at o;rw[<-o];simp[e]
theorem GU:∀a,mG (a.map PyData.int)=some a
 |[]=>rfl
 |n::a=>by rw[q0l,mG,GU a];rfl
theorem GV:∀a,ly (a.map dj)=some a
 |[]=>rfl
 |r::a=>by rw[q0l,ly,GU,GV a]
def oI:List (List Int)->PyData
 |[]=>.none
 |r::a=>dj (fx a r)
theorem Uw:(cA dq (aq (cD C 0 "deeds") aH)) [some (.own true (hB C S)),some (.own false (.l [])),none,none,none]=.ok (.int S.ds.length) [some (.own true (hB C S)),some (.own false (.l [])),none,none,none]:=by simp[cQ]
theorem Ux(h:U[1]? = some (some (.own false (.l (a.map dj))))):lA 1 U=.ok (oI a) U:=by unfold lA pA;rw[h];simp only[GV];cases a<;>rfl
theorem Uy(h:0<=n)(i:n<=1000)(c:m U=.ok (.int n) U)(d:bR g b (L3.intsFrom 0 n.toNat) U=.nx a):fw (ff dc (aq m aH)) g b U=.nx a:=by
 have e:(aq m aH) U=.ok [.int n] U:=by show gy.bind (m U) _=_;rw[c];rfl
 have f:ff dc (aq m aH) U=.ok (L3.intsFrom 0 n.toNat) U:=by show gy.bind ((aq m aH) U) _=_;rw[e];show L3.lift (dc [.int n]) U=_;rw[GP (by lia) (by lia)];rfl
 show eQ (ff dc (aq m aH) U) _=_;rw[f];exact d
theorem Uz(ok:bJ S):xD C [.own true (hB C S)]=.rt (.dat (oI (fA S))) [hB C S]:=by
 have dl:=ok.dl;obtain⟨a,b,c,g⟩:=yc ok S.ds.length 0 [] none none none (by lia) (by simp);rw[q0w,<-q18]at g;change bR _ _ (L3.intsFrom 0 S.ds.length) [_,some (.own false (.l [])),_,_,_]=fc.nx [_,some (.own false (.l ((fA S).map dj))),_,_,_]at g;have e:fW 1 (iI aH) [some (.own true (hB C S)),none,none,none,none]=.nx [some (.own true (hB C S)),some (.own false (.l [])),none,none,none]:=by simp
 have f:bA (lA 1) [some (.own true (hB C S)),some (.own false (.l ((fA S).map dj))),a,b,c]=.rt (.dat (oI (fA S))) [some (.own true (hB C S)),some (.own false (.l ((fA S).map dj))),a,b,c]:=by show eQ (lA 1 _) _=_;rw[Ux rfl];rfl
 have h:(az (fW 1 (iI aH)) (az (fw (ff dc (aq (cA dq (aq (cD C 0 "deeds") aH)) aH)) (al 2) (mR C)) (bA (lA 1)))) [some (.own true (hB C S)),none,none,none,none]=.rt (.dat (oI (fA S))) [some (.own true (hB C S)),some (.own false (.l ((fA S).map dj))),a,b,c]:=by rw[gG e,gG (Uy (by lia) (by lia) (Uw (S:=S)) (by rw[q1v];exact g)),f]
 exact yb rfl h rfl
theorem yd:∀a  r,fx a r=r\/fx a r∈a
 |[],r=>.inl rfl
 |x::a,r=>by
  rw[fx];rcases yd a (if HT.lexLt x r=true then x else r) with h |h
  .rw[h];split
   .exact .inr q0f
   .exact .inl rfl
  .exact .inr (bt _ h)
theorem kO(a):cQ a=.tuple (a.map bV):=by unfold cQ;rfl
theorem uv{a:List ay}(h:k<a.length):bL (a.map bV) (k:Int)=some (bV a[k]):=by unfold bL cT;rw[if_pos (by lia),if_pos (by simp;lia)];simp[h]
theorem GW(h:x∈fA S):∃k v,∃c,bE S.a S.ss (S.ds[k]).plan (bu S k)=some v/\x=[v,(k:Int),(bu S k:Int)]:=by obtain⟨k,c,e⟩:=q2C.mp h;have b:=q2k.mp c;unfold oH at e;rw[q0c b]at e;obtain⟨v,d,f⟩:=q0p.mp e;exact⟨k,v,b,d,f.symm⟩
def dQ(S:Hl):Option (Int×Nat):=match fA S with
 |[]=>none
 |x::a=>(match fx a x with
  |[v,k,_]=>some (v,k.toNat)
  |_=>none)
theorem GX(h:dQ S=none):fA S=[]:=by
 unfold dQ at h;cases a:fA S with
 |nil=>rfl
 |cons x b=>
  rw[a]at h;have c:fx b x∈fA S:=by
   rw[a];rcases yd b x with e |e
   .rw[e];exact q0f
   .exact bt _ e
  obtain⟨k,v,d,_,e⟩:=GW c;simp only[e]at h;cases h
theorem qO(h:dQ S=some (v,k)):∃d,bE S.a S.ss (S.ds[k]).plan (bu S k)=some v/\∃x b,fA S=x::b/\fx b x=[v,(k:Int),(bu S k:Int)]:=by
 unfold dQ at h;cases c:fA S with
 |nil=>rw[c]at h;cases h
 |cons x b=>
  rw[c]at h;have f:fx b x∈fA S:=by
   rw[c];rcases yd b x with e |e
   .rw[e];exact q0f
   .exact bt _ e
  obtain⟨i,j,d,g,e⟩:=GW f;simp only[e]at h;obtain⟨rfl,rfl⟩:=h;exact⟨d,g,x,b,rfl,e⟩
def lW(S:Hl)(r m:Int):Hl×PyData:=match dQ S with
 |none=>(S,.tuple [.str "idle",.none])
 |some (v,k)=>if m<v then(S,.tuple [.str "idle",.int v]) else
  (match S.ds[k]? with
  |some d=>(eX S ⟨m,r,if dW S.a S.ss d (bu S k) m=true then .left else .begun,k,bu S k⟩,.tuple [.str (eK (if dW S.a S.ss d (bu S k) m=true then .left else .begun)),aE k,aE (bu S k)])
  |none=>(S,.none))
theorem UA(ok:bJ S)(j:S.rows.length<1000000)(l:S.words.length<1000000):mS C [.own true (hB C S),.dat (.int r),.dat (.int m)]=.rt (.dat (lW S r m).2) [hB C (lW S r m).1]:=by
 have sz:1000000<sizeLine:=by decide
 have b:=Uz (C:=C) ok;unfold lW;cases n:dQ S with
 |none=>rw[GX n]at b;simp[mS,qx,df,b,oI]
 |some p=>
  obtain⟨v,k⟩:=p;obtain⟨g,q,x,t,s,e⟩:=qO n;rw[s,oI,e]at b;by_cases h:m<v
  .simp[mS,qx,df,b,h]
  .have lo:=Uq (a:=S.a) (ss:=S.ss) (now:=m) ok.z.len (ok.pl _ (q0L g)) ⟨v,q⟩;simp only[q0c g];rw[if_neg h];cases o:dW S.a S.ss S.ds[k] (bu S k) m with
   |true=>rw[o]at lo;have i:=qN (C:=C) (S:=S) (r:=⟨m,r,.left,k,bu S k⟩) j l ok.nd (by rw[ok.sl];exact g);simp[mS,qx,df,cB,fg,b,kO,uv g,lo,h,i]
   |false=>rw[o]at lo;have i:=qN (C:=C) (S:=S) (r:=⟨m,r,.begun,k,bu S k⟩) j l ok.nd (by rw[ok.sl];exact g);simp[mS,qx,df,cB,fg,b,kO,uv g,lo,h,i]
def ux(S:Hl)(r m:Int)(d c:Nat):Hl×PyData:=match S.ds[d]? with
 |some x=>(eX S ⟨m,r,if x.again=true then .begun else .unsure,d,c⟩,.tuple [.str (eK (if x.again=true then .begun else .unsure)),aE d,aE c])
 |none=>(S,.none)
theorem UB(ok:bJ S)(f:S.rows.length<1000000)(g:S.words.length<1000000)(e:S.begun=some (d,c,h)):qo C [.own true (hB C S),.dat (.int r),.dat (.int m)]=.rt (.dat (ux S r m d c).2) [hB C (ux S r m d c).1]:=by
 have sz:1000000<sizeLine:=by decide
 have hd:=ok.bg d c h e;unfold ux;simp only[q0c hd];cases i:(S.ds[d]).again with
 |true=>have b:=qN (C:=C) (r:=⟨m,r,.begun,d,c⟩) f g ok.nd (by rw[ok.sl];exact hd);simp[qo,xv,cB,fg,e,ix,kO,uv hd,i,b]
 |false=>have b:=qN (C:=C) (r:=⟨m,r,.unsure,d,c⟩) f g ok.nd (by rw[ok.sl];exact hd);simp[qo,xv,cB,fg,e,ix,kO,uv hd,i,b]
theorem bJ.last(ok:bJ S)(x):bJ { S with last:=x }:=⟨ok.z,ok.dl,ok.pl,ok.sl,ok.nd,ok.bg⟩
def kP(S:Hl)(r m:Int):Hl×PyData:=match S.begun with
 |some (d,c,h)=>if h=S.holds then({ S with last:=some m },.tuple [.str "busy",aE d,aE c]) else ux { S with last:=some m } r m d c
 |none=>lW { S with last:=some m } r m
theorem UC(ok:bJ S)(f:S.rows.length<1000000)(g:S.words.length<1000000)(b:lI C [.own true (hB C S),.dat (.int r),.dat (.int m)]=.rt (.dat .none) [hB C S]):kJ C [.own true (hB C S),.dat (.int r),.dat (.int m)]=.rt (.dat (kP S r m).2) [hB C (kP S r m).1]:=by
 have sz:1000000<sizeLine:=by decide
 have a:=GQ (C:=C) (S:={ S with last:=some m });unfold uu at a;unfold kP;cases hb:S.begun with
 |none=>have i:=UA (C:=C) (S:={ S with last:=some m }) (r:=r) (m:=m) (ok.last _) f g;simp only[hb]at a i ⊢;simp[kJ,tU,cB,df,fg,b,dO,iu,ir,a,hb,ix,i]
 |some p=>
  obtain⟨d,c,h⟩:=p;have j:=UB (C:=C) (S:={ S with last:=some m }) (r:=r) (m:=m) (ok.last _) f g hb;simp only[hb]at a j ⊢
  by_cases e:h=S.holds
  .rw[if_pos e];rw[decide_eq_true e]at a;simp[kJ,tU,cB,df,fg,b,dO,iu,ir,a,hb,ix]
  .rw[if_neg e];rw[decide_eq_false e]at a;simp[kJ,tU,cB,df,fg,b,dO,iu,ir,a,hb,ix,j]
theorem UD(ok:bJ S)(f:S.rows.length<1000000)(g:S.words.length<1000000)(i:lI C [.own true (hB C S),.dat (.int r),.dat (.int m)]=.rt (.dat .none) [hB C S])(e:S.begun=some (d,c,S.holds)):qy C [.own true (hB C S),.dat (.int r),.dat (.int m)]=.rt (.dat (.tuple [.str "done",aE d,aE c])) [hB C (eX { S with last:=some m } ⟨m,r,.done,d,c⟩)]:=by
 have sz:1000000<sizeLine:=by decide
 have b:=GQ (C:=C) (S:=S);unfold uu at b;rw[e]at b;have h:=qN (C:=C) (S:={ S with last:=some m }) (r:=⟨m,r,.done,d,c⟩) f g ok.nd (by rw[ok.sl];exact (ok.bg d c _ e));have a:=h;simp only[e]at a;simp[qy,Ea,cB,df,fg,i,b,dO,iu,ir,e,ix,a]
@[simp]theorem Ym:cF "tuple" "str" = some false:=by decide
@[simp]theorem Yn:cF "tuple" "bool" = some false:=by decide
@[simp]theorem Yo:cF "tuple" "list" = some false:=by decide
@[simp]theorem Yp:cF "list" "str" = some false:=by decide
@[simp]theorem Yq:cF "list" "bool" = some false:=by decide
@[simp]theorem Yr:cF "list" "list" = some true:=by decide
@[simp]theorem Ys:cF "NoneType" "str" = some false:=by decide
@[simp]theorem Yt:cF "NoneType" "bool" = some false:=by decide
@[simp]theorem Yu:cF "NoneType" "list" = some false:=by decide
@[simp]theorem Yv:cF "int" "str" = some false:=by decide
@[simp]theorem Yw:cF "int" "list" = some false:=by decide
@[simp]theorem Yx:cF "bool" "str" = some false:=by decide
@[simp]theorem Yy:cF "bool" "list" = some false:=by decide
@[simp]theorem Yz:cF "str" "bool" = some false:=by decide
@[simp]theorem YA:cF "str" "list" = some false:=by decide
def jR:dP->Prop
 |.within n=>0<=n/\n<=999
 |_=>True
theorem UE(ok:jR x):ot [.dat (dA x)]=.rt (.dat (.bool true)) []:=by
 cases x with
 |all=>simp[ot,tE,cq lV lV]
 |last=>simp[ot,tE,cq jo lV,cq jo jo,xT,xW]
 |within n=>
  have a:(("within")==("within"))=true:=by decide +kernel
  simp[ot,tE,mV xS xS,a,kN (d:=.int n) rfl,di,ok.1,ok.2]
theorem UF(a:cP d.plan)(b:jR d.late):tL [.dat (bV d)]=.rt (.dat (.bool true)) []:=by simp[tL,DM,qA,gM,(TD a),(UE b)]
theorem GY:∀(b:List ay)  a (U:aj),(∃x,U=[x])->(∀d∈b,cP d.plan/\jR d.late)->a.length+b.length<=sizeLine->bU (al 0) cN tM (b.map bV) a U=some (a++(b.map fun _=>PyData.bool true))
 |[],a,U,_,_,_=>by simp[bU]
 |d::b,a,U,⟨x,c⟩,h,e=>by
  subst c;simp only[q0o]at e;have hd:=h d q0f;have g:tM [some (.dat (bV d))]=.ok (.bool true) [some (.dat (bV d))]:=by simp[tM,UF hd.1 hd.2]
  rw[q0l,bU];simp[cN,g,show a.length<sizeLine by lia,(GY b (a++[.bool true]) [some (.dat (bV d))] ⟨_,rfl⟩ (fun x c=>h x (bt _ c)) (by simp;lia))]
theorem GZ:∀n,bools? (List.replicate n (PyData.bool true))=some (List.replicate n true)
 |0=>rfl
 |n+1=>by rw[q0D,bools?,GZ n];rfl
theorem UG(b:ds.length<=6)(h:∀d∈ds,cP d.plan/\jR d.late):qw [.dat (cQ ds)]=.rt (.dat .none) []:=by
 have sz:1000<sizeLine:=by decide
 have g:=GY ds [] [none] ⟨_,rfl⟩ h (by simp;lia);rw[q0w,q2g]at g;have a:nC [.list (List.replicate ds.length (PyData.bool true))]=some (.bool true):=by simp[nC,GZ]
 unfold cQ;simp[qw,DY,xz,DQ,g,a,show ¬ (6:Int)<ds.length by lia,show ds.length<=sizeLine by lia]
theorem UH(a:ns.length<=63)(z:t.length<=700)(A:made.length<100) :
  ∃d t' j m,(cP d.plan/\oF d.plan)/\jR d.late/\t'.length<=t.length+9/\tQ [some (.scr ns),some (.own true (.l t)),some (.own false (.l made)),x3,x4,x5]=.nx [some (.scr ns),some (.own true (.l t')),some (.own false (.l (made++[bV d]))),x3,j,m]:=by
 have sz:1000<sizeLine:=by decide
 obtain⟨w,f,h1⟩:=oE (ns:=ns) (t:=t) (ds:=[.int 30,.int 30,.int 1000]) a (by lia) (by simp) (by simp);have:∃i:Int,w=.int i/\0<i/\i<=1000:=by simp only[q0b,q0e,or_false]at f;rcases f with rfl |rfl |rfl<;>exact⟨_,rfl,by lia,by lia⟩
 obtain⟨i,rfl,n,B⟩:=this;obtain⟨c,o,C,h2⟩:=gi (ns:=ns) (t:=t++[.int 0]) (many:=i) a (by simp;lia) n;obtain⟨la,b,h3⟩:=oE (ns:=ns) (t:=t++[.int 0]++[.int 0]) (ds:=[.str "all",.str "last",.tuple [.str "within",.int c]]) a (by simp;lia) (by simp) (by simp);have:∃x:dP,la=dA x/\jR x:=by
  simp only[q0b,q0e,or_false]at b;rcases b with rfl |rfl |rfl
  .exact⟨.all,rfl,trivial⟩
  .exact⟨.last,rfl,trivial⟩
  .exact⟨.within c,rfl,o,by lia⟩
 obtain⟨x,rfl,q⟩:=this;obtain⟨p,g,r,s,h⟩:=TU (ns:=ns) (t:=t++[.int 0]++[.int 0]++[.int 0]) a (by simp;lia);simp only[q0q,q0o,q00]at s;obtain⟨k,k1,D,u⟩:=gi (ns:=ns) (t:=g) (many:=2) a (by lia) (by lia);simp only[q0k,q0B,q0w]at h2 h3 h;refine⟨⟨p,x,decide (k=0)⟩,g++[.int 0],some (.dat (.int c)),some (.dat (dA x)),r,q,by simp;lia,?_⟩;generalize v:fz p=P at *;generalize y:dA x=L at *;have e:bV ⟨p,x,decide (k=0)⟩=.tuple [P,L,.bool (decide (k=0))]:=by unfold bV;rw[v,y]
 rw[e];simp[tQ,h1,h2,h3,h,u,mU,show(2:Nat)<=sizeLine by lia,show made.length<sizeLine by lia]
theorem Ha(g:ns.length<=63):∀n  i {t made}{x3 x4 x5},t.length+9 * n<=700->made.length+n<100->∃(a:List ay) (t':List PyData) (h b c:Option aa),(∀d∈a,(cP d.plan/\oF d.plan)/\jR d.late)/\a.length=n/\t'.length<=t.length+9 * n/\
   bR (al 3) tQ (L3.intsFrom i n) [some (.scr ns),some (.own true (.l t)),some (.own false (.l made)),x3,x4,x5]=.nx [some (.scr ns),some (.own true (.l t')),some (.own false (.l (made++a.map bV))),h,b,c]
 |0,i,t,made,x3,x4,x5,_,_=>⟨[],t,x3,x4,x5,by simp,rfl,by lia,by simp[L3.intsFrom,bR]⟩
 |n+1,i,t,made,x3,x4,x5,v,w=>by
  obtain⟨d,j,b,c,k,m,l1,e⟩:=UH (t:=t) (made:=made) (x3:=some (.dat (.int i))) (x4:=x4) (x5:=x5) g (by lia) (by lia);obtain⟨a,o,p,q,r,h2,s,l2,u⟩:=Ha g n (i+1) (t:=j) (made:=made++[bV d]) (x3:=some (.dat (.int i))) (x4:=b) (x5:=c) (by lia) (by simp;lia);refine⟨d::a,o,p,q,r,fun x f=>?_,by simp[s],by lia,?_⟩
  .rcases q0b.mp f with rfl |f
   .exact⟨k,m⟩
   .exact h2 x f
  .rw[q0l,show made++bV d::a.map bV=made++[bV d]++a.map bV by simp,<-u,qJ,bR];simp[e]
theorem UI(b:ns.length<=63)(h:t.length<=600):∃(a:List ay) (t':List PyData),(∀d∈a,(cP d.plan/\oF d.plan)/\jR d.late)/\a.length<=6/\t'.length<=t.length+60/\tR [.scr ns,.own true (.l t)]=.rt (.dat (.tuple (a.map bV))) [.l t']:=by
 have sz:1000<sizeLine:=by decide
 obtain⟨w,c,h1⟩:=oE (ns:=ns) (t:=t) (ds:=[.int 5,.int 5,.int 7]) b (by lia) (by simp) (by simp);have:∃i:Int,w=.int i/\0<i/\i<=7:=by simp only[q0b,q0e,or_false]at c;rcases c with rfl |rfl |rfl<;>exact⟨_,rfl,by lia,by lia⟩
 obtain⟨i,rfl,f,j⟩:=this;obtain⟨k,k1,m,h2⟩:=gi (ns:=ns) (t:=t++[.int 0]) (many:=i) b (by simp;lia) f;obtain⟨a,g,n,o,p,hd,nd,l2,e⟩:=Ha (ns:=ns) b k.toNat 0 (t:=t++[.int 0,.int 0]) (made:=[]) (x3:=none) (x4:=none) (x5:=none) (by simp;lia) (by simp;lia);simp only[q0q,q0o,q00]at l2;refine⟨a,g,hd,by lia,by lia,?_⟩;rw[q0w]at e;simp[tR,DZ,h1,h2,e,show -4611686018427387904<=k by lia,show k<4611686018427387904 by lia]
inductive Cl where
 |take (r m t:Int) |give (r m:Int) |step (r m:Int) |finish (r m:Int)
def cR(S:Hl):Hl:=S.rows.foldl eX (eO S.a S.ss S.ds)
structure fk (S:Hl) (m:Int) (n:Nat):Prop where
 ok:bJ S
 lt:∀d∈S.ds,jR d.late
 rl:S.rows.length<=n
 wl:S.words.length<=n
 ho:∀h,S.holder=some h->0<=h/\h<=3
 la:∀l,S.last=some l->l<=m
 ti:S.til<=m+99
 dr:∀x∈S.rows,x.dd<S.ds.length
 w1:(cR S).words=S.words
 w2:(cR S).settled=S.settled
theorem bJ.add(ok:bJ S)(h:r.dd<S.ds.length):bJ (eX S r):=by
 refine⟨ok.z,ok.dl,ok.pl,?_,Us ok.nd,?_⟩
 .show(if r.wd=.begun then S.settled else S.settled.set r.dd (r.ct+1)).length=S.ds.length;split
  .exact ok.sl
  .rw[q0A];exact ok.sl
 .intro d c k e;have a:(if r.wd=.begun then some (r.dd,r.ct,S.holds) else none)=some (d,c,k):=e;split at a
  .cases a;exact h
  .cases a
theorem fk.add(p:fk S m n)(h:r.dd<S.ds.length):fk (eX S r) m (n+1):=by
 have c:cR (eX S r)=eX (cR S) r:=by show(S.rows++[r]).foldl eX (eO S.a S.ss S.ds)=_;rw[List.foldl_append];rfl
 refine⟨p.ok.add h,p.lt,?_,?_,p.ho,p.la,p.ti,?_,?_,?_⟩
 .have:=p.rl;show(S.rows++[r]).length<=n+1;simp;lia
 .have:=p.wl;have:=Ut (r.dd,r.ct) r.wd S.words;show(gl S.words (r.dd,r.ct) r.wd).length<=n+1;lia
 .intro x b;rcases q0d.mp b with b |b
  .exact p.dr x b
  .rw[q0i.mp b];exact h
 .rw[c];show gl (cR S).words _ _=gl S.words _ _;rw[p.w1]
 .rw[c];show(if r.wd=.begun then(cR S).settled else(cR S).settled.set r.dd (r.ct+1))=(if r.wd=.begun then S.settled else S.settled.set r.dd (r.ct+1));rw[p.w2]
theorem fk.mono(p:fk S m n)(h:m<=a)(c:n<=b):fk S a b:=
 ⟨p.ok,p.lt,q0E p.rl c,q0E p.wl c,p.ho,fun l e=>q1S (p.la l e) h,by have:=p.ti;lia,p.dr,p.w1,p.w2⟩
theorem fk.last(p:fk S m n)(h:m<=a):fk { S with last:=some a } a n:=
 ⟨p.ok.last _,p.lt,p.rl,p.wl,p.ho,fun l e=>by cases e;lia,by have:=p.ti;lia,p.dr,p.w1,p.w2⟩
theorem fk.hold(p:fk S m n)(h:m<=a)(b:∀h,w=some h->0<=h/\h<=3)(c:u<=a+99):fk { S with last:=some a,holder:=w,til:=u,holds:=k } a n:=
 ⟨⟨p.ok.z,p.ok.dl,p.ok.pl,p.ok.sl,p.ok.nd,p.ok.bg⟩,p.lt,p.rl,p.wl,b,fun l e=>by cases e;lia,c,p.dr,p.w1,p.w2⟩
theorem UJ(z:du a f)(g:b.length<=6)(hd:∀d∈b,mW d.plan/\jR d.late):fk (eO a f b) 0 0:=
 ⟨⟨z,g,fun d h=>(hd d h).1,by simp[eO],by simp[eO],fun d c h e=>(by cases e)⟩,fun d h=>(hd d h).2,by simp[eO],by simp[eO],fun h e=>(by cases e),fun l e=>(by cases e),by simp[eO],by simp[eO],rfl,rfl⟩
theorem fk.call(p:fk S m n)(b:0<=r/\r<=3)(h:m<=m')(c:0<=m'/\m'<=9999):kH C [.own true (hB C S),.dat (.int r),.dat (.int m')]=.rt (.dat .none) [hB C S]:=
 Uc rfl (by simp[di];lia) (by simp[di];lia) (by
  cases a:S.last with
  |none=>unfold uo;rw[a]
  |some l=>
   have:=p.la l a;unfold uo;rw[a];exact decide_eq_false (by lia))
theorem fk.mine(p:fk S m n)(b:0<=r/\r<=3)(h:m<=a)(c:0<=a/\a<=9999)(e:S.holder=some r)(d:a<S.til):lI C [.own true (hB C S),.dat (.int r),.dat (.int a)]=.rt (.dat .none) [hB C S]:=
 Ud (p.call b h c) (by unfold iP;rw[e,decide_eq_true d];rfl) e
theorem UK(z:du a b)(c k):cO a b h (c+k)<=cO a b h c+24 * k+26:=by
 obtain⟨f,h2,_⟩:=iN z.rise;obtain⟨_,_,h3⟩:=iN (g:=(dU a b h+((c+k:Nat))) * 24+h) (a:=a) z.rise;have ah:=fun m=>mL (m:=m) z.ah;unfold cO;generalize eU ((dU a b h+c) * 24+h) 0 a b=u at *;generalize eU ((dU a b h+((c+k:Nat))) * 24+h) 0 a b=w at *
 by_cases q:w<=u+24 * k+26
 .exact q
 .have:=h3 (u+24 * k+26) (by lia) (by lia);have d:=ah u;have e:=ah (u+24 * k+26);unfold cz at h2 this;lia
theorem UL(z:du a b):cO a b h 0<=50:=by
 obtain⟨_,_,h3⟩:=iN z.rise;have fd:=qd (a:=a) (h:=h) (ss:=b);have ah:=fun m=>mL (m:=m) z.ah;unfold cO;generalize eU ((dU a b h+((0))) * 24+h) 0 a b=w at *
 by_cases q:w<=50
 .exact q
 .have:=h3 50 (by lia) (by lia);have c:=ah 0;have d:=ah 50;unfold cz at fd this;lia
def mY(a:Int)(b:Sh)(p:aF)(c:Nat)(m:Int):Prop:=c=0\/∃u,bE a b p (c - 1)=some u/\u<=m
theorem UM(z:du a i)(ok:cP p)(k:oF p)(h:mY a i p c m)(r:0<=m)(d:bE a i p c=some v):v<=m+2600:=by
 cases p with
 |once b=>
  rw[bE]at d;have:b<=2500:=k
  by_cases e:c=0
  .rw[if_pos e]at d;cases d;lia
  .rw[if_neg e]at d;cases d
 |every f s=>
  rw[bE]at d;cases d;have n:f<=50:=k;have hs:=ok.2;rcases h with h |⟨u,h1,h2⟩
  .simp;lia
  .rw[bE]at h1;cases h1
   by_cases g:c=0
   .simp;lia
   .have o:(c:Int) * s=((c - 1:Nat):Int) * s+s:=by
     have:c=((c - 1:Nat):Int)+1:=by lia
     rw[this,Int.add_mul];simp
    lia
 |daily j=>
  rw[bE]at d;cases d;have q:=UL (h:=j) z;rcases h with h |⟨u,h1,h2⟩
  .lia
  .rw[bE]at h1;cases h1
   by_cases g:c=0
   .lia
   .have l:=UK (h:=j) z (c - 1) 1;rw[show c - 1+1=c by lia]at l;lia
noncomputable def ye{β:Type}(f:Nat->ay->Nat->List β)(i:Nat)(e:List ay)(a:List Nat):List β:=e.rec (motive:=fun _=>List Nat->Nat->List β) (fun _ _=>[]) (fun d _ b a i=>a.rec [] fun c a _=>f i d c++b a (i+1)) a i
def eP(a:Int)(b:Sh)(un:aF->Nat):Nat->List ay->List Nat->List (List Int):=ye fun i d c=>(List.range' c (un d.plan - c)).map fun e=>[cX a b d.plan e,(i:Int),(e:Int)]
theorem kQ:eP a b un i (d::g) (c::f)=((List.range' c (un d.plan - c)).map fun e=>[cX a b d.plan e,(i:Int),(e:Int)])++eP a b un (i+1) g f:=rfl
theorem qP:eP a c un i [] b=[]:=rfl
theorem qQ:eP a b un i (d::c) []=[]:=rfl
theorem qR:∀{f b i r},r∈eP a ss un i f b↔∃(j:Nat) (d:ay) (c e:Nat),f[j]? = some d/\b[j]? = some c/\c<=e/\e<un d.plan/\r=[cX a ss d.plan e,((i+j:Nat):Int),(e:Int)]
 |[],b,i,r=>by simp[qP]
 |d::f,[],i,r=>by simp[qQ]
 |d::f,c::b,i,r=>by
  rw[kQ,q0d,qR,q04];constructor
  .rintro(⟨e,l,rfl⟩ |⟨j,g,h,e,h1,h2,h3,k,rfl⟩)
   .rw[q2u]at l;exact⟨0,d,c,e,rfl,rfl,l.1,by lia,rfl⟩
   .exact⟨j+1,g,h,e,by simpa using h1,by simpa using h2,h3,k,by rw[show i+1+j=i+(j+1) by lia]⟩
  .rintro⟨j,g,h,e,h1,h2,h3,k,rfl⟩;cases j with
   |zero=>simp only[q1h,q0N]at h1 h2;subst h1 h2;exact .inl ⟨e,by rw[q2u];lia,rfl⟩
   |succ j=>exact .inr ⟨j,g,h,e,by simpa using h1,by simpa using h2,h3,k,by rw[show i+1+j=i+(j+1) by lia]⟩
theorem yf:∀f  b  i,(eP a ss un i f b).Nodup
 |[],b,i=>by simp[qP]
 |d::f,[],i=>by simp[qQ]
 |d::f,c::b,i=>by
  rw[kQ,q0j];refine⟨?_,yf f b (i+1),fun x g y k z=>?_⟩
  .refine List.Pairwise.map _ (fun x y h e=>h ?_) (List.nodup_range');simp only[q2h,Int.natCast_inj,and_true]at e;exact e.2.2
  .obtain⟨e,_,rfl⟩:=q04.mp g;obtain⟨j,l,m,n,_,_,_,_,z⟩:=qR.mp k;lia
theorem Hb:∀{ds cs i k d c},ds[k]? = some d->cs[k]? = some c->c<un d.plan->(eP a ss un i ds cs).Perm ([cX a ss d.plan c,((i+k:Nat):Int),(c:Int)]::eP a ss un i ds (cs.set k (c+1)))
 |[],cs,i,k,d,c,h,_,_=>by simp at h
 |d::ds,[],i,k,b,c,_,h,_=>by simp at h
 |d::ds,c::cs,i,0,b,e,h1,h2,h3=>by simp only[q1h,q0N]at h1 h2;subst h1 h2;rw[q01,kQ,kQ,show un d.plan - c=(un d.plan - (c+1))+1 by lia,q14];exact .refl _
 |d::ds,c::cs,i,k+1,b,e,h1,h2,h3=>by rw[q1r,kQ,kQ,show i+(k+1)=i+1+k by lia];exact((Hb (a:=a) (ss:=ss) (i:=i+1) (by simpa using h1) (by simpa using h2) h3).append_left _).trans List.perm_middle
theorem uy:∀{e b i},(∀(k c:Nat)  d,e[k]? = some d->b[k]? = some c->un d.plan<=c)->eP a ss un i e b=[]
 |[],b,i,_=>by simp[qP]
 |d::e,[],i,_=>by simp[qQ]
 |d::e,c::b,i,h=>by have h0:=h 0 c d rfl rfl;rw[kQ,show un d.plan - c=0 by lia,uy fun k c d f g=>h (k+1) c d (by simpa using f) (by simpa using g)];rfl
theorem UN(p:L.Perm (x::a))(h:∀y∈a,TS.lexLe x y=true):TS.sortR L=x::TS.sortR a:=by
 refine(TS.sortR_of ?_ ?_).symm
 .exact((TS.sortR_perm a).cons x).trans p.symm
 .exact List.pairwise_cons.mpr ⟨fun y b=>h y ((TS.sortR_perm a).mem_iff.mp b),q1O TS.lexLe_tr TS.lexLe_tt _⟩
theorem yg:∀c  b,∀r∈b::c,TS.lexLe (fx c b) r=true
 |[],b,r,h=>by simp only[q0b,q0e,or_false]at h;subst h;have:=TS.lexLe_tt r r;simpa[fx] using this
 |x::c,b,r,h=>by
  rw[fx];have e:=yg c (if HT.lexLt x b=true then x else b);have hb:=e _ q0f;have a:TS.lexLe (if HT.lexLt x b=true then x else b) b=true/\TS.lexLe (if HT.lexLt x b=true then x else b) x=true:=by
   by_cases q:HT.lexLt x b=true
   .rw[if_pos q];have t:=TS.lexLe_tt x b;have f:TS.lexLe b x=false:=by unfold TS.lexLe;rw[q];rfl
    rw[f,Bool.or_false]at t;exact⟨t,by simpa using (TS.lexLe_tt x x)⟩
   .rw[if_neg q];exact⟨by simpa using (TS.lexLe_tt b b),by unfold TS.lexLe;simpa using q⟩
  rcases q0b.mp h with rfl |h
  .exact TS.lexLe_tr _ _ _ hb a.1
  .rcases q0b.mp h with rfl |h
   .exact TS.lexLe_tr _ _ _ hb a.2
   .exact e r (bt _ h)
theorem Hc(b)(h:bE S.a S.ss (S.ds[k]).plan (bu S k)=some v):[v,(k:Int),(bu S k:Int)]∈fA S:=by refine q2C.mpr ⟨k,q2k.mpr b,?_⟩;unfold oH;rw[q0c b];simp only;rw[h];rfl
theorem uz(ok:bJ S)(a:k<S.ds.length):S.settled[k]? = some (bu S k):=by have:=ok.sl;unfold bu;rw[q0R,q0c (by lia)];rfl
theorem qS{k b:Nat}(h:v<=a)(d:c<=b):TS.lexLe [v,(k:Int),(c:Int)] [a,(k:Int),(b:Int)]=true:=by
 unfold TS.lexLe;simp[HT.lexLt];split
 .intro _;exact d
 .exact h
section
variable{S:Hl}{un:aF->Nat}{m v:Int}{k:Nat}
abbrev fB(un:aF->Nat)(S:Hl):List (List Int):=eP S.a S.ss un 0 S.ds S.settled
theorem He(ok:bJ S)(r:∀d∈S.ds,bd S.a S.ss d.plan m (un d.plan))(h:dQ S=none\/∃v k,dQ S=some (v,k)/\m<v):∀(k c:Nat)  d,S.ds[k]? = some d->S.settled[k]? = some c->un d.plan<=c:=fun k c d f t=>by
 obtain⟨i,e⟩:=q0a.mp f;have o:=uz ok i;rw[t]at o;rcases q1T c (un d.plan) with q |q
 .exfalso;obtain⟨w,p,u⟩:=(r d (by rw[<-e];exact q0L i)).in_ c q;rw[<-e,(q0r o)]at p;have b:=Hc i p;rcases h with h |⟨v,j,h,y⟩
  .rw[GX h]at b;cases b
  .obtain⟨A,_,x,s,n,g⟩:=qO h;rw[n]at b;have f:=yg s x _ b;rw[g]at f;unfold TS.lexLe at f;rw[HT.lexLt_cons]at f
   by_cases z:w=v
   .omega
   .rw[if_neg z]at f;lia
 .exact q
theorem Hf(ok:bJ S)(u:∀d∈S.ds,bd S.a S.ss d.plan m (un d.plan))(h:dQ S=some (v,k))(N:v<=m):TS.sortR (fB un S)=[v,(k:Int),(bu S k:Int)]::TS.sortR (eP S.a S.ss un 0 S.ds (S.settled.set k (bu S k+1))):=by
 obtain⟨l,A,x,I,n,g⟩:=qO h;have b:=q0L l;have cl:bu S k<un (S.ds[k]).plan:=by
  rcases q1T (bu S k) (un (S.ds[k]).plan) with q |q
  .exact q
  .have:=mM ok.z (ok.pl _ b).plan (u _ b) q A;lia
 have J:cX S.a S.ss (S.ds[k]).plan (bu S k)=v:=by unfold cX;rw[A];rfl
 have p:=Hb (a:=S.a) (ss:=S.ss) (i:=0) (q0c l) (uz ok l) cl;rw[J,q1i]at p;refine UN p fun y L=>?_;obtain⟨j,d,c,e,h1,h2,h3,M,rfl⟩:=qR.mp (p.mem_iff.mpr (bt _ L));obtain⟨r,B⟩:=q0a.mp h1;have C:=uz ok r;rw[h2]at C;have D:d∈S.ds:=by rw[<-B];exact q0L r
 have E:=u d D;obtain⟨w,G,_⟩:=E.in_ e M;obtain⟨O,f,_⟩:=E.in_ c (by lia);have mono:=Dc ok.z (ok.pl d D).plan h3 f G;have t:cX S.a S.ss d.plan e=w:=by unfold cX;rw[G];rfl
 rw[<-B,(q0r C)]at f;have H:=yg I x _ (by rw[<-n];exact Hc r f);rw[g]at H;rw[t,q1i];exact TS.lexLe_tr _ _ _ H (qS mono (by lia))
end
structure Cu (S:Hl) (m:Int) (n:Nat):Prop where
 run:fk S m n
 ho:S.holder=some 2
 ti:m<S.til
 bn:S.begun=none
 hs:S.holds=1
 uw:∀r∈S.rows,r.wd≠.unsure
 st:∀(k c:Nat) (x:ay),S.ds[k]? = some x->S.settled[k]? = some c->mY S.a S.ss x.plan c m
abbrev sL(S:Hl)(m:Int)(k c:Nat):Hl:=eX { S with last:=some m } ⟨m,2,.left,k,c⟩
abbrev sB(S:Hl)(m:Int)(k c:Nat):Hl:=eX { S with last:=some m } ⟨m,2,.begun,k,c⟩
abbrev sD(S:Hl)(m:Int)(k c:Nat):Hl:=eX { sB S m k c with last:=some m } ⟨m,2,.done,k,c⟩
theorem mY.mono(h:mY a d p c m)(e:m<=b):mY a d p c b:=by
 rcases h with h |⟨u,h1,h2⟩
 .exact .inl h
 .exact .inr ⟨u,h1,by lia⟩
theorem Hg(p:Cu S m n)(e)(f:bE S.a S.ss (S.ds[k]).plan (bu S k)=some v)(g:v<=m):∀(j c:Nat)  x,S.ds[j]? = some x->(S.settled.set k (bu S k+1))[j]? = some c->mY S.a S.ss x.plan c m:=fun j c x d b=>by
 rw[List.getElem?_set]at b
 by_cases q:k=j
 .subst q;rw[if_pos rfl,if_pos (by lia)]at b;cases b;rw[q0c e]at d;cases d;exact .inr ⟨v,f,g⟩
 .rw[if_neg q]at b;exact p.st j c x d b
theorem UO(p:Cu S m n)(b)(c:bE S.a S.ss (S.ds[k]).plan (bu S k)=some v)(d:v<=m):Cu (sL S m k (bu S k)) m (n+1):=
 ⟨(p.run.last (q0U m)).add b,p.ho,p.ti,rfl,p.hs,fun r e=>by
  rcases q0d.mp (e) with h |h
  .exact p.uw r h
  .rw[q0i.mp h];exact(fun z=>(by cases z)),Hg p b c d⟩
theorem UP(p:Cu S m n)(b)(c:bE S.a S.ss (S.ds[k]).plan (bu S k)=some v)(d:v<=m):Cu (sD S m k (bu S k)) m (n+2):=
 ⟨(((p.run.last (q0U m)).add b).last (q0U m)).add b,p.ho,p.ti,rfl,p.hs,fun r e=>by
  rcases q0d.mp (e) with h |h
  .rcases q0d.mp h with h |h
   .exact p.uw r h
   .rw[q0i.mp h];exact(fun z=>(by cases z))
  .rw[q0i.mp h];exact(fun z=>(by cases z)),Hg p b c d⟩
theorem Cu.mono(p:Cu S m n)(h:n<=a):Cu S m a:=⟨p.run.mono (q0U _) h,p.ho,p.ti,p.bn,p.hs,p.uw,p.st⟩
theorem Cu.last(p:Cu S m n):Cu { S with last:=some m } m n:=⟨p.run.last (q0U m),p.ho,p.ti,p.bn,p.hs,p.uw,p.st⟩
theorem yh(p:Cu S m n):kP S 2 m=lW { S with last:=some m } 2 m:=by unfold kP;rw[p.bn]
theorem UQ(p:Cu S m n)(h:dQ S=none):kP S 2 m=({ S with last:=some m },.tuple [.str "idle",.none]):=by rw[yh p];unfold lW;rw[show dQ { S with last:=some m }=none from h]
theorem UR(p:Cu S m n)(h:dQ S=some (v,k))(a:m<v):kP S 2 m=({ S with last:=some m },.tuple [.str "idle",.int v]):=by rw[yh p];unfold lW;rw[show dQ { S with last:=some m }=some (v,k) from h];simp only;rw[if_pos a]
theorem US(p:Cu S m n)(h:dQ S=some (v,k))(c:¬ m<v):∃b,bE S.a S.ss (S.ds[k]).plan (bu S k)=some v/\kP S 2 m=(eX { S with last:=some m } ⟨m,2,if dW S.a S.ss S.ds[k] (bu S k) m=true then .left else .begun,k,bu S k⟩,.tuple [.str (eK (if dW S.a S.ss S.ds[k] (bu S k) m=true then .left else .begun)),aE k,aE (bu S k)]):=by obtain⟨b,e,_⟩:=qO h;refine⟨b,e,?_⟩;rw[yh p];unfold lW;rw[show dQ { S with last:=some m }=some (v,k) from h];simp only;rw[if_neg c];rw[q0c b];rfl
theorem UT:(("idle":Str)==("idle":Str))=true:=by decide +kernel
theorem UU:(("begun":Str)==("idle":Str))=false:=by decide +kernel
theorem UV:(("left":Str)==("idle":Str))=false:=by decide +kernel
theorem UW:(("left":Str)==("begun":Str))=false:=by decide +kernel
theorem UX:(("left":Str)==("busy":Str))=false:=by decide +kernel
theorem UY:(("begun":Str)==("begun":Str))=true:=by decide +kernel
theorem uA:PyData.strOk "idle" = true:=by decide +kernel
theorem UZ:PyData.strOk "busy" = true:=by decide +kernel
abbrev e6(C:Addr)(S:Hl)(m:Int)(q:Option aa)(rows:List PyData)(a b:Option aa):aj:=[some (.own true (hB C S)),some (.dat (.int 2)),some (.dat (.int m)),q,some (.own false (.l rows)),a,b]
theorem Va(d:rows.length<100000)(c:kJ C [.own true (hB C S),.dat (.int 2),.dat (.int m)]=.rt (.dat (.tuple [.str "idle",x])) [hB C S1]):hU C (e6 C S m q rows x5 x6)=.bk (e6 C S1 m q (rows++[.tuple [.str "idle",x]]) x5 (some (.dat (.tuple [.str "idle",x])))):=by
 have sz:1000000<sizeLine:=by decide
 simp[hU,cB,fg,c,cq uA uA,show rows.length<sizeLine by lia]
theorem Vb(e:rows.length<100000)(d:kJ C [.own true (hB C S),.dat (.int 2),.dat (.int m)]=.rt (.dat (.tuple [.str "begun",.int a,.int b])) [hB C S1])(c:qy C [.own true (hB C S1),.dat (.int 2),.dat (.int m)]=.rt (.dat x) [hB C S2]):hU C (e6 C S m q rows x5 x6)=.nx (e6 C S2 m q (rows++[.tuple [.str "begun",.int a,.int b],x]) x5 (some (.dat (.tuple [.str "begun",.int a,.int b])))):=by
 have sz:1000000<sizeLine:=by decide
 simp[hU,cB,fg,d,c,cq jq uA,cq jq jq,UU,show rows.length<sizeLine by lia,show rows.length+1<sizeLine by lia]
theorem Vc(d:rows.length<100000)(c:kJ C [.own true (hB C S),.dat (.int 2),.dat (.int m)]=.rt (.dat (.tuple [.str "left",.int a,.int b])) [hB C S1]):hU C (e6 C S m q rows x5 x6)=.nx (e6 C S1 m q (rows++[.tuple [.str "left",.int a,.int b]]) x5 (some (.dat (.tuple [.str "left",.int a,.int b])))):=by
 have sz:1000000<sizeLine:=by decide
 simp[hU,cB,fg,c,cq ur uA,cq ur jq,cq ur UZ,UV,UW,UX,show rows.length<sizeLine by lia]
def fR(a:Int)(b:Sh)(c:List ay)(m:Int)(r:List Int):List PyData:=(c[(r.getD 1 0).toNat]?).elim [] fun d=>if dW a b d (r.getD 2 0).toNat m=true then[.tuple [.str "left",.int (r.getD 1 0),.int (r.getD 2 0)]]else[.tuple [.str "begun",.int (r.getD 1 0),.int (r.getD 2 0)],.tuple [.str "done",.int (r.getD 1 0),.int (r.getD 2 0)]]
theorem yi{k c:Nat}(h:b[k]? = some d):fR a e b m [v,(k:Int),(c:Int)]=if dW a e d c m=true then[.tuple [.str "left",.int k,.int c]]else[.tuple [.str "begun",.int k,.int c],.tuple [.str "done",.int k,.int c]]:=by show(b[k]?).elim _ _=_;rw[h];rfl
def hV(S:Hl):PyData:=(dQ S).elim .none fun p=>.int p.1
theorem yj(z:0<=m/\m<=9999):∀q  i {S}{n}{rows}{x5 x6},Cu S m n->(∀d∈S.ds,bd S.a S.ss d.plan m (un d.plan))->(TS.sortR (fB un S)).length<q->rows.length+2 * q<50000->n+2 * q<900000->
  ∃b l s,bR (al 5) (hU C) (L3.intsFrom i q) (e6 C S m qq rows x5 x6)=.nx (e6 C b m qq (rows++((TS.sortR (fB un S)).flatMap (fR S.a S.ss S.ds m)++[.tuple [.str "idle",hV b]])) l s)/\Cu b m (n+2 * q)/\(b.a=S.a/\b.ss=S.ss/\b.ds=S.ds/\b.til=S.til)/\b.last=some m/\(∀(k c:Nat)  d,b.ds[k]? = some d->b.settled[k]? = some c->un d.plan<=c)
 |0,i,S,n,rows,x5,x6,_,_,h,_,_=>by lia
 |q+1,i,S,n,rows,x5,x6,p,A,h,T,U=>by
  have l1:=p.run.rl;have l2:=p.run.wl;have st:=UC (C:=C) p.run.ok (by lia) (by lia) (p.run.mine (C:=C) (r:=2) ⟨by lia,by lia⟩ (q0U m) z p.ho p.ti);rw[qJ,bR];have j:∀x,(dQ S=none\/∃v k,dQ S=some (v,k)/\m<v)->hV S=x->kP S 2 m=({ S with last:=some m },.tuple [.str "idle",x])->∃b l s,(match (al 5) (.int i) (e6 C S m qq rows x5 x6) with
    |some L=>(match hU C L with |.nx u=>bR (al 5) (hU C) (L3.intsFrom (i+1) q) u |.ct u=>bR (al 5) (hU C) (L3.intsFrom (i+1) q) u |.bk u=>.nx u |o=>o)
    |none=>.bad)=.nx (e6 C b m qq (rows++((TS.sortR (fB un S)).flatMap (fR S.a S.ss S.ds m)++[.tuple [.str "idle",hV b]])) l s)/\Cu b m (n+2 * (q+1))/\(b.a=S.a/\b.ss=S.ss/\b.ds=S.ds/\b.til=S.til)/\b.last=some m/\(∀(k c:Nat) (d:ay),b.ds[k]? = some d->b.settled[k]? = some c->un d.plan<=c):=fun x M hd e=>by
   have t:=He p.run.ok A M;have N:fB un S=[]:=uy t;rw[e]at st;refine⟨{ S with last:=some m },some (.dat (.int i)),some (.dat (.tuple [.str "idle",x])),?_,p.last.mono (by lia),⟨rfl,rfl,rfl,rfl⟩,rfl,t⟩;have ci:=Va (q:=qq) (rows:=rows) (x5:=some (.dat (.int i))) (x6:=x6) (by lia) st;rw[N,show TS.sortR []=[] by simp[TS.sortR],show hV { S with last:=some m }=x from hd];generalize hU C=I at *;simp[ci]
  cases f:dQ S with
  |none=>exact j .none (.inl f) (by delta hV;rw[f];rfl) (UQ p f)
  |some pr=>
   obtain⟨v,k⟩:=pr
   by_cases D:m<v
   .exact j (.int v) (.inr ⟨v,k,f,D⟩) (by delta hV;rw[f];rfl) (UR p f D)
   .obtain⟨w,J,O⟩:=US p f D;have Q:=Hf p.run.ok A f (by lia);rw[Q]at h ⊢;simp only[q0o]at h;have y:v<=m:=by lia
    rw[O]at st;cases g:dW S.a S.ss S.ds[k] (bu S k) m with
    |true=>
     simp only[g,if_true]at st;have E:fR S.a S.ss S.ds m [v,(k:Int),(bu S k:Int)]=[.tuple [.str "left",.int k,.int (bu S k)]]:=by rw[yi (q0c w),g,if_pos rfl]
     obtain⟨b,l,s,e,G,H,la,t⟩:=yj (C:=C) z q (i+1) (S:=sL S m k (bu S k)) (rows:=rows++[.tuple [.str "left",.int k,.int (bu S k)]]) (x5:=some (.dat (.int i))) (x6:=some (.dat (.tuple [.str "left",.int k,.int (bu S k)]))) (UO p w J y) A (by show(TS.sortR (eP S.a S.ss un 0 S.ds (S.settled.set k (bu S k+1)))).length<q;lia) (by simp;lia) (by lia);have co:=Vc (q:=qq) (rows:=rows) (x5:=some (.dat (.int i))) (x6:=x6) (by lia) st;refine⟨b,l,s,?_,G.mono (by lia),H,la,t⟩;rw[q2v,E,q0k,<-q0k];refine Eq.trans ?_ e;generalize hU C=I at *;simp[co]
    |false=>
     simp only[g,q1d,if_false]at st;have E:fR S.a S.ss S.ds m [v,(k:Int),(bu S k:Int)]=[.tuple [.str "begun",.int k,.int (bu S k)],.tuple [.str "done",.int k,.int (bu S k)]]:=by rw[yi (q0c w),g,if_neg q0x]
     have B:fk (sB S m k (bu S k)) m (n+1):=(p.run.last (q0U m)).add w;have X:=B.rl;have Y:=B.wl;have R:=UD (C:=C) (S:=sB S m k (bu S k)) B.ok (by lia) (by lia) (B.mine (C:=C) (r:=2) ⟨by lia,by lia⟩ (q0U m) z p.ho p.ti) (d:=k) (c:=bu S k) rfl;obtain⟨b,l,s,e,G,H,la,t⟩:=yj (C:=C) z q (i+1) (S:=sD S m k (bu S k)) (rows:=rows++[.tuple [.str "begun",.int k,.int (bu S k)],.tuple [.str "done",.int k,.int (bu S k)]]) (x5:=some (.dat (.int i))) (x6:=some (.dat (.tuple [.str "begun",.int k,.int (bu S k)]))) (UP p w J y) A (by show(TS.sortR (eP S.a S.ss un 0 S.ds (S.settled.set k (bu S k+1)))).length<q;lia) (by simp;lia) (by lia);have co:=Vb (q:=qq) (rows:=rows) (x5:=some (.dat (.int i))) (x6:=x6) (by lia) st R;refine⟨b,l,s,?_,G.mono (by lia),H,la,t⟩;rw[q2v,E,q0k,<-q0k];refine Eq.trans ?_ e;generalize hU C=I at *;simp[co]
end K3
set_option maxRecDepth 900000
set_option maxHeartbeats 4000000
namespace K3
open PySem L2 L2.L3 Due
theorem Hh(p:Cu S m n)(g:∀d∈S.ds,bd S.a S.ss d.plan m (un d.plan))(h:0<=m/\m<=9999)(o:0<=q/\q<=999)(s:((TS.sortR (fB un S)).length:Int)<q)(t:n<800000) :
  ∃b,jO C [.own true (hB C S),.dat (.int 2),.dat (.int m),.dat (.int q)]=.rt (.own false (.l ((TS.sortR (fB un S)).flatMap (fR S.a S.ss S.ds m)++[.tuple [.str "idle",hV b]]))) [hB C b]/\Cu b m (n+2 * q.toNat)/\(b.a=S.a/\b.ss=S.ss/\b.ds=S.ds/\b.til=S.til)/\b.last=some m/\(∀(k c:Nat)  d,b.ds[k]? = some d->b.settled[k]? = some c->un d.plan<=c):=by
 have e:=kN (d:=.int q) (lo:=0) (hi:=999) rfl;have i:di (.int q) 0 999=true:=by simp[di];lia
 rw[i]at e;obtain⟨b,u,v,r,c,f,la,j⟩:=yj (C:=C) (qq:=some (.dat (.int q))) h q.toNat 0 (rows:=[]) (x5:=none) (x6:=none) p g (by lia) (by simp;lia) (by lia);refine⟨b,?_,c,f,la,j⟩;rw[q0w]at r;generalize (TS.sortR (fB un S)).flatMap (fR S.a S.ss S.ds m)++[.tuple [.str "idle",hV b]]=R at r;simp[jO,Ec,e,r,show -4611686018427387904<=q by lia,show q<4611686018427387904 by lia]
noncomputable abbrev iL(l:List Int):PyData:=.list (l.map PyData.int)
theorem Hi(h:k<l):cT l (k:Int)=some k:=by unfold cT;rw[if_pos (by lia),if_pos (by lia)];simp
theorem Vd{a:List Nat}{d :Nat}(h:a[d]? = some c):bL (a.map aE) (d:Int)=some (aE c):=by unfold bL;rw[q0h,Hi ((q0a.mp h).1)];simp[h]
theorem Ve(l)(c:Nat):mH (iL l) (some (c:Int)) none=some (iL (l.drop c)):=by
 show some (PyData.list (L3.cutD ..))=_;unfold L3.cutD;rw[(HT.sIx_nat _ _ c),q0h,show HT.sIx l.length l.length none=l.length from rfl]
 congr 2
 rw[List.map_drop,q0O (by simp)];rcases Nat.le_total c l.length with h |h
 .rw[q1J h]
 .rw[Nat.min_eq_right h,q06 (by simp),q06 (by simp;exact h)]
noncomputable def mZ(k:Nat)(l:List PyData):List PyData:=l.rec (motive:=fun _=>Nat->List PyData) (fun _=>[]) (fun d _ a k=>.tuple [.int k,d]::a (k+1)) k
theorem yk:mZ k (d::l)=.tuple [.int k,d]::mZ (k+1) l:=rfl
theorem Hj:mZ k []=[]:=rfl
theorem Hk(l):L3.numbered l=mZ 0 l:=by
 have:∀(l:List PyData) (k:Nat),l.mapIdx (fun i d=>PyData.tuple [.int ((k+i:Nat)),d])=mZ k l:=fun l=>by
  induction l with
  |nil=>intro k;rfl
  |cons d l a=>
   intro k;rw[List.mapIdx_cons,yk,<-a (k+1)];simp only[q2T,q2h,true_and]
   congr 1
   funext i d;rw[q2x,Nat.add_comm 1 i]
 have h:=this l 0;simp only[q1i]at h;exact h
def fC(la:dP)(now a:Int)(j len:Nat):Bool:=match la with
 |.all=>false
 |.last=>decide (j+1<len)
 |.within n=>decide (now - a>n)
noncomputable def cY(b:Bool):Str:=if b=true then "left" else "done"
abbrev wE(Z D:PyData)(now:Int)(d:List Nat)(rows:List PyData)(e f g h i a b c:Option aa):aj:=[some (.dat Z),some (.dat D),some (.dat (.int now)),some (.own true (.l (d.map aE))),some (.own false (.l rows)),e,f,g,h,i,a,b,c]
theorem yl{cs:List Nat}(b:U[i]? = some (some (.own io (.l (cs.map aE)))))(d:U[n]? = some (some (.dat (aE k))))(h:cs[k]? = some c):iM i n U=.ok (aE c) U:=by simp[iM,lD,lC,b,d,(Vd h)]
abbrev Hm:SM:=(bI (nz (aT (ab (aB false) (xV 7) (xC (.str "last")))) (aT (ab jf (ab cg (xV 10) (xC (.int 1))) (cA dq (aq (xV 9) aH))))) (bF (xC (.str "left")) (al 12)) bM)
abbrev Hn:SM:=(bI (nz (aT (jd "tuple" (xV 7))) (aT (ab ls (ab fE (xV 2) (xV 11)) (ab aI (xV 7) (xC (.int 1)))))) (bF (xC (.str "left")) (al 12)) bM)
abbrev Vf:SM:=(ip 4 (dH (aq (xV 11) (aq (xV 5) (aq (ab cg (iM 3 5) (xV 10)) (aq (xV 12) aH))))))
theorem Vg:lH=az (bF (xC (.str "done")) (al 12)) (az Hm (az Hn Vf)):=rfl
abbrev wI(Z D:PyData)(now:Int)(cs:List Nat)(rows:List PyData)(k:Nat)(x6:Option aa)(la:dP)(x8:Option aa)(l:List Int)(j:Nat)(mo:Int)(x12:Option aa):aj:=wE Z D now cs rows (some (.dat (aE k))) x6 (some (.dat (dA la))) x8 (some (.dat (iL l))) (some (.dat (aE j))) (some (.dat (.int mo))) x12
theorem qT(a:cs[k]? = some c)(f:rows.length<900000)(b:Hm (wI Z D now cs rows k x6 la x8 l j mo (some (.dat (.str "done"))))=.nx (wI Z D now cs rows k x6 la x8 l j mo (some (.dat (.str w1)))))(d:Hn (wI Z D now cs rows k x6 la x8 l j mo (some (.dat (.str w1))))=.nx (wI Z D now cs rows k x6 la x8 l j mo (some (.dat (.str w)))))(e:cY (fC la now mo j l.length)=w):lH (wI Z D now cs rows k x6 la x8 l j mo x12)=.nx (wI Z D now cs (rows++[.tuple [.int mo,aE k,.int ((c:Int)+j),.str (cY (fC la now mo j l.length))]]) k x6 la x8 l j mo (some (.dat (.str (cY (fC la now mo j l.length)))))):=by
 have sz:1000000<sizeLine:=by decide
 rw[Vg,gG (U':=wI Z D now cs rows k x6 la x8 l j mo (some (.dat (.str "done")))) (by simp),gG b,gG d,e];simp[(yl (U:=wI Z D now cs rows k x6 la x8 l j mo (some (.dat (.str w)))) (i:=3) (n:=5) rfl rfl a),show rows.length<sizeLine by lia]
theorem Vh(a:cs[k]? = some c)(b:rows.length<900000):lH (wI Z D now cs rows k x6 la x8 l j mo x12)=.nx (wI Z D now cs (rows++[.tuple [.int mo,aE k,.int ((c:Int)+j),.str (cY (fC la now mo j l.length))]]) k x6 la x8 l j mo (some (.dat (.str (cY (fC la now mo j l.length)))))):=by
 have d:dq [iL l]=some (.int l.length):=by simp[dq]
 cases la with
 |all=>
  have e:aB false (.str "all") (.str "last")=some (.bool false):=by kernel_rfl
  exact qT (w1:="done") a b (by simp[dA,e]) (by simp[dA]<;>rfl) rfl
 |last=>
  have e:aB false (.str "last") (.str "last")=some (.bool true):=by kernel_rfl
  by_cases z:j+1<l.length
  .have z':(j:Int)+1<l.length:=by lia
   refine qT (w1:="left") (w:="left") a b ?_ (by simp[dA]) (by simp[cY,fC,z]);unfold wI;generalize iL l=I at *;simp[-dq,dA,e,d,z']
  .have z':¬ (j:Int)+1<l.length:=by lia
   refine qT (w1:="done") (w:="done") a b ?_ (by simp[dA]) (by simp[cY,fC,z]);unfold wI;generalize iL l=I at *;simp[-dq,dA,e,d,z']
 |within n=>
  have e:=xX (xY n) jo
  by_cases z:n<now - mo
  .exact qT (w1:="done") (w:="left") a b (by simp[dA,e]) (by simp[dA,z]) (by simp[cY,fC,z])
  .exact qT (w1:="done") (w:="done") a b (by simp[dA,e]) (by simp[dA,z]) (by simp[cY,fC,z])
def iy(la:dP)(now:Int)(k c len:Nat)(j:Nat)(l:List Int):List PyData:=l.rec (motive:=fun _=>Nat->List PyData) (fun _=>[]) (fun mo _ a j=>.tuple [.int mo,aE k,.int ((c:Int)+j),.str (cY (fC la now mo j len))]::a (j+1)) j
theorem ym:iy la now k c len j (mo::l)=.tuple [.int mo,aE k,.int ((c:Int)+j),.str (cY (fC la now mo j len))]::iy la now k c len (j+1) l:=rfl
theorem Vi:iy la now k c len j []=[]:=rfl
theorem yn:∀l  j len,(iy la now k c len j l).length=l.length
 |[],_,_=>rfl
 |_::l,j,len=>by rw[ym,q0o,q0o,yn l]
theorem Ho(f:cs[k]? = some c):∀s  j {rows}{x10 x11 x12},rows.length+s.length<900000->∃a d e,bR (cy 2 (aR (al 10) (aR (al 11) cx))) lH (mZ j (s.map PyData.int)) (wE Z D now cs rows (some (.dat (aE k))) x6 (some (.dat (dA la))) x8 (some (.dat (iL l))) x10 x11 x12)=.nx (wE Z D now cs (rows++iy la now k c l.length j s) (some (.dat (aE k))) x6 (some (.dat (dA la))) x8 (some (.dat (iL l))) a d e)
 |[],j,rows,x10,x11,x12,_=>⟨x10,x11,x12,by simp[Hj,bR,Vi]⟩
 |mo::s,j,rows,x10,x11,x12,h=>by simp only[q0o]at h;have b:lH (wE Z D now cs rows (some (.dat (aE k))) x6 (some (.dat (dA la))) x8 (some (.dat (iL l))) (some (.dat (aE j))) (some (.dat (.int mo))) x12)=.nx (wE Z D now cs (rows++[.tuple [.int mo,aE k,.int (c+j),.str (cY (fC la now mo j l.length))]]) (some (.dat (aE k))) x6 (some (.dat (dA la))) x8 (some (.dat (iL l))) (some (.dat (aE j))) (some (.dat (.int mo))) (some (.dat (.str (cY (fC la now mo j l.length)))))):=Vh f (by lia);obtain⟨a,d,e,g⟩:=Ho f s (j+1) (rows:=rows++[.tuple [.int mo,aE k,.int (c+j),.str (cY (fC la now mo j l.length))]]) (x10:=some (.dat (aE j))) (x11:=some (.dat (.int mo))) (x12:=some (.dat (.str (cY (fC la now mo j l.length))))) (by simp;lia);refine⟨a,d,e,?_⟩;rw[q0k,q1c]at g;rw[q0l,yk,bR,ym,<-g];generalize dA la=i at *;generalize iL l=I at *;generalize cY (fC la now mo j l.length)=w at *;generalize lH=m at *;simp[b]
end K3
set_option maxRecDepth 900000
set_option maxHeartbeats 4000000
namespace K3
open PySem L2 L2.L3 Due
theorem Hq:∀l a  x,a.length+l.length<900000->bU (al 0) cN qp l a [x]=some (a++l)
 |[],a,x,_=>by simp[bU]
 |d::l,a,x,h=>by
  have sz:1000000<sizeLine:=by decide
  simp only[q0o]at h;have c:qp [some (.dat d)]=.ok d [some (.dat d)]:=by simp[qp]
  rw[bU];simp only[al,q01,cN,c];rw[if_pos (by lia),(Hq l (a++[d]) (some (.dat d)) (by simp;lia)),q0k,q1c]
abbrev Hr:SM:=(bF (nU (fY 1 [] (jH (aP (aO kE (ak (xV 0) (ak (xV 6) (ak (xV 2) aK)))))) (al 0) cN qp) (nR (iM 3 5)) nQ) (al 9))
abbrev Hs:SM:=(fw (ff im (aq (xV 9) aH)) (cy 2 (aR (al 10) (aR (al 11) cx))) lH)
abbrev Vj:SM:=(og 3 5 (ab cg (iM 3 5) (cA dq (aq (xV 9) aH))))
theorem Vk:ow=az Hr (az Hs Vj):=rfl
theorem Vl(e:cs[k]? = some c)(f:frz a=some (iL l))(hd:kE [.dat Z,.dat P,.dat (.int now)]=.rt a [])(g:l.length<=20000):Hr (wE Z D now cs rows (some (.dat (aE k))) (some (.dat P)) x7 x8 x9 x10 x11 x12)=.nx (wE Z D now cs rows (some (.dat (aE k))) (some (.dat P)) x7 x8 (some (.dat (iL (l.drop c)))) x10 x11 x12):=by
 have sz:1000000<sizeLine:=by decide
 have q:=yl (U:=wE Z D now cs rows (some (.dat (aE k))) (some (.dat P)) x7 x8 x9 x10 x11 x12) (i:=3) (n:=5) rfl rfl e;have go:=Hq (l.map PyData.int) [] none (by simp;lia);rw[q0w]at go;have ll:(l.map PyData.int).length<=sizeLine:=by rw[q0h];lia
 have b:frz a=some (.list (l.map PyData.int)):=f;have d:mH (.list (l.map PyData.int)) (some c) none=some (iL (l.drop c)):=(Ve l c);generalize iL (l.drop c)=I at *;generalize l.map PyData.int=V at *;simp[-frz,q,hd,b,go,ll,d]
theorem Vm{V}{TG}(go:bR TG a (L3.numbered V) (wE Z D now cs rows b d x7 x8 (some (.dat (.list V))) x10 x11 x12)=o):fw (ff im (aq (xV 9) aH)) TG a (wE Z D now cs rows b d x7 x8 (some (.dat (.list V))) x10 x11 x12)=o:=by rw[<-go];simp
theorem qU(h:m U=.ok v U)(b:U[i]? = some (some (.own io (.l a))))(d:U[j]? = some (some (.dat (.int w))))(e:cT a.length w=some n):og i j m U=.nx (U.set i (some (.own io (.l (a.set n v))))):=by simp[og,h,sT,lD,lC,b,d,e]
theorem Vn(e:cs[k]? = some c)(f:rows.length+l.length<900000):∃a b d,Hs (wE Z D now cs rows (some (.dat (aE k))) (some (.dat P)) (some (.dat (dA la))) x8 (some (.dat (iL l))) x10 x11 x12)=.nx (wE Z D now cs (rows++iy la now k c l.length 0 l) (some (.dat (aE k))) (some (.dat P)) (some (.dat (dA la))) x8 (some (.dat (iL l))) a b d):=by obtain⟨a,b,d,go⟩:=Ho e l 0 f;rw[<-Hk]at go;exact⟨a,b,d,Vm go⟩
theorem Vo{c:Nat}(a:cs[k]? = some c)(b:nn [A]=some (.int N)):(og 3 5 (ab cg (iM 3 5) (cA nn (aq (xV 9) aH)))) (wE Z D now cs rows (some (.dat (aE k))) x7 x8 x9 (some (.dat A)) x10 x11 x12)=.nx ([some (.dat Z),some (.dat D),some (.dat (.int now)),some (.own true (.l ((cs.map aE).set k (.int ((c:Int)+N))))),some (.own false (.l rows)),some (.dat (aE k)),x7,x8,x9,some (.dat A),x10,x11,x12]):=qU (by simp[(yl (U:=wE Z D now cs rows (some (.dat (aE k))) x7 x8 x9 (some (.dat A)) x10 x11 x12) (i:=3) (n:=5) rfl rfl a),b]) rfl rfl (by rw[q0h];exact Hi ((q0a.mp a).1))
theorem Vp:(iw a ss p N).drop c=(List.range' c (N - c)).map (cX a ss p):=by unfold iw;rw[<-List.map_drop,q18,List.drop_range'];simp
theorem Vq{un:aF->Nat}(z:du a ss)(m:0<=now/\now<=9999){d:ay}(ok:cP d.plan)(u:bd a ss d.plan now (un d.plan))(h:cs[k]? = some c)(q:rows.length<800000):∃n b f g,ow (wE (bN a ss) D now cs rows (some (.dat (aE k))) (some (.dat (fz d.plan))) (some (.dat (dA d.late))) (some (.dat (.bool d.again))) x9 x10 x11 x12)=.nx (wE (bN a ss) D now (cs.set k (c+(un d.plan - c))) (rows++iy d.late now k c (un d.plan - c) 0 ((List.range' c (un d.plan - c)).map (cX a ss d.plan))) (some (.dat (aE k))) (some (.dat (fz d.plan))) (some (.dat (dA d.late))) (some (.dat (.bool d.again))) n b f g):=by
 obtain⟨r,o,hd⟩:=TV z ok m u;have ul:=u.le;have tl:(iw a ss d.plan (un d.plan)).length=un d.plan:=by simp[iw]
 have i:=Vl (D:=D) (cs:=cs) (rows:=rows) (x7:=some (.dat (dA d.late))) (x8:=some (.dat (.bool d.again))) (x9:=x9) (x10:=x10) (x11:=x11) (x12:=x12) h o hd (by lia);rw[Vp]at i;have ll:((List.range' c (un d.plan - c)).map (cX a ss d.plan)).length=un d.plan - c:=by simp
 obtain⟨b,f,g,j⟩:=Vn (D:=D) (now:=now) (x10:=x10) (x11:=x11) (x12:=x12) (l:=(List.range' c (un d.plan - c)).map (cX a ss d.plan)) (rows:=rows) h (by lia);rw[ll]at j;refine⟨some (.dat (iL ((List.range' c (un d.plan - c)).map (cX a ss d.plan)))),b,f,g,?_⟩;rw[Vk,gG i,gG j];have p:=Vo (Z:=bN a ss) (D:=D) (now:=now) (rows:=rows++iy d.late now k c (un d.plan - c) 0 ((List.range' c (un d.plan - c)).map (cX a ss d.plan))) (x7:=some (.dat (fz d.plan))) (x8:=some (.dat (dA d.late))) (x9:=some (.dat (.bool d.again))) (x10:=b) (x11:=f) (x12:=g) (A:=iL ((List.range' c (un d.plan - c)).map (cX a ss d.plan))) (nn:=dq) h (by show some (PyData.int _)=_;rw[q0h,ll]);refine p.trans ?_;have e:(cs.map aE).set k (.int ((c:Int)+((un d.plan - c:Nat):Int)))=(cs.set k (c+(un d.plan - c))).map aE:=by
  rw[q2U]
  congr 1
 rw[e]
def lZ(a:Int)(ss:Sh)(un:aF->Nat)(now:Int):Nat->List ay->List Nat->List PyData:=ye fun i d c=>iy d.late now i c (un d.plan - c) 0 ((List.range' c (un d.plan - c)).map (cX a ss d.plan))
theorem yo:lZ a ss un now i (d::e) (c::b)=iy d.late now i c (un d.plan - c) 0 ((List.range' c (un d.plan - c)).map (cX a ss d.plan))++lZ a ss un now (i+1) e b:=rfl
theorem yp:lZ a ss un now i [] b=[]:=rfl
theorem Ht:lZ a ss un now i (d::b) []=[]:=rfl
noncomputable abbrev jS(un:aF->Nat)(d:ay)(c:Nat):Nat:=c+(un d.plan - c)
theorem Hu:∀b  e  k,(∀d∈b,un d.plan<=20000)->(lZ a ss un now k b e).length<=20000 * b.length
 |[],e,k,_=>by simp[yp]
 |d::b,[],k,_=>by simp[Ht]
 |d::b,c::e,k,h=>by have f:=Hu (a:=a) (now:=now) (ss:=ss) b e (k+1) fun d hd=>h d (bt _ hd);have hd:=h d q0f;rw[yo,q0q,yn,q0h,List.length_range',q0o];lia
theorem Vr(b:f [h,i,j,l,m,some (.dat (.int k)),some (.dat P),some (.dat L),some (.dat A),n,c,d,e]=.nx o):bR (cy 2 (aR (al 5) (aR (cy 3 (aR (al 6) (aR (al 7) (aR (al 8) cx)))) cx))) f (.tuple [.int k,.tuple [P,L,A]]::g) [h,i,j,l,m,p,q,r,s,n,c,d,e]=bR (cy 2 (aR (al 5) (aR (cy 3 (aR (al 6) (aR (al 7) (aR (al 8) cx)))) cx))) f g o:=by rw[bR];simp[b]
theorem Hv(z:du a ss)(o:0<=now/\now<=9999):∀f  e pre {rows}{x5 x6 x7 x8 x9 x10 x11 x12},(∀d∈f,cP d.plan/\bd a ss d.plan now (un d.plan))->f.length=e.length->rows.length+20000 * f.length<800000->
  ∃r s t u m g i j,bR (cy 2 (aR (al 5) (aR (cy 3 (aR (al 6) (aR (al 7) (aR (al 8) cx)))) cx))) ow (mZ pre.length (f.map bV)) (wE (bN a ss) D now (pre++e) rows x5 x6 x7 x8 x9 x10 x11 x12)=.nx (wE (bN a ss) D now (pre++List.zipWith (jS un) f e) (rows++lZ a ss un now pre.length f e) r s t u m g i j)
 |[],e,pre,rows,x5,x6,x7,x8,x9,x10,x11,x12,_,l,_=>⟨x5,x6,x7,x8,x9,x10,x11,x12,by
  cases e with
  |nil=>simp[Hj,bR,yp]
  |cons _ _=>cases l⟩
 |d::f,[],pre,rows,x5,x6,x7,x8,x9,x10,x11,x12,_,l,_=>by cases l
 |d::f,c::e,pre,rows,x5,x6,x7,x8,x9,x10,x11,x12,hd,l,v=>by
  simp only[q0o]at l v;obtain⟨w,p⟩:=hd d q0f;have ul:=p.le;have x:(pre++c::e)[pre.length]? = some c:=by simp
  obtain⟨m,g,i,j,b⟩:=Vq (D:=D) z o (d:=d) w p (rows:=rows) (x9:=x9) (x10:=x10) (x11:=x11) (x12:=x12) x (by lia);have y:(pre++c::e).set pre.length (c+(un d.plan - c))=(pre++[jS un d c])++e:=by simp[jS]
  have ol:(iy d.late now pre.length c (un d.plan - c) 0 ((List.range' c (un d.plan - c)).map (cX a ss d.plan))).length=un d.plan - c:=by rw[yn];simp
  rw[y]at b;obtain⟨A,v6,B,C,E,v10,v11,n,q⟩:=Hv z o f e (pre++[jS un d c]) (rows:=rows++iy d.late now pre.length c (un d.plan - c) 0 ((List.range' c (un d.plan - c)).map (cX a ss d.plan))) (x9:=m) (x10:=g) (x11:=i) (x12:=j) (fun d h=>hd d (bt _ h)) (by lia) (by rw[q0q,ol];lia);refine⟨A,v6,B,C,E,v10,v11,n,?_⟩;simp only[q0q,q0k]at q b;rw[q0l,yk,List.zipWith_cons_cons,yo];exact(Vr b).trans q
def gm(a:Int)(ss:Sh)(un:aF->Nat)(now:Int):Nat->List ay->List Nat->List gE:=ye fun i d c=>(List.range' c (un d.plan - c)).map fun e=>(([cX a ss d.plan e,(i:Int),(e:Int)],cY (dW a ss d e now)):gE)
theorem uB:gm a ss un now i (d::f) (c::b)=((List.range' c (un d.plan - c)).map fun e=>(([cX a ss d.plan e,(i:Int),(e:Int)],cY (dW a ss d e now)):gE))++gm a ss un now (i+1) f b:=rfl
theorem yq:gm a ss un now i [] b=[]:=rfl
theorem yr:gm a ss un now i (d::b) []=[]:=rfl
theorem uC:∀e  b  i,(gm a ss un now i e b).map (·.1)=eP a ss un i e b
 |[],b,i=>by simp[yq,qP]
 |d::e,[],i=>by simp[yr,qQ]
 |d::e,c::b,i=>by rw[uB,kQ,q1P,q0T,uC e b];rfl
theorem Vs{un:aF->Nat}(z:du a ss)(ok:cP d.plan)(u:bd a ss d.plan now (un d.plan))(h:c<=e)(i:e<un d.plan):fC d.late now (cX a ss d.plan e) (e - c) (un d.plan - c)=dW a ss d e now:=by
 unfold fC dW;cases d.late with
 |all=>rfl
 |within n=>rfl
 |last=>
  by_cases q:e+1<un d.plan
  .obtain⟨v,b,f⟩:=u.in_ _ q;rw[b,decide_eq_true (by lia)];simp[f]
  .rw[decide_eq_false (by lia)];cases g:bE a ss d.plan (e+1) with
   |none=>rfl
   |some v=>have:=mM z ok u (by lia) g;lia
theorem Hw{un:aF->Nat}(z:du a ss)(ok:cP d.plan)(u:bd a ss d.plan now (un d.plan)):∀q j,j+q=un d.plan - c->iy d.late now k c (un d.plan - c) j ((List.range' (c+j) q).map (cX a ss d.plan))=((List.range' (c+j) q).map fun e=>([cX a ss d.plan e,(k:Int),(e:Int)],cY (dW a ss d e now))).map cE
 |0,j,_=>rfl
 |q+1,j,h=>by rw[q14,q0l,ym,show c+j+1=c+(j+1) by lia,Hw z ok u q (j+1) (by lia),q0l,q0l];have e:=Vs z ok u (c:=c) (e:=c+j) (by lia) (by lia);rw[show c+j - c=j by lia]at e;rw[e,show(c+j)=((c+j)) by lia];rfl
theorem yt(z:du a ss):∀b  e  i,(∀d∈b,cP d.plan/\bd a ss d.plan now (un d.plan))->lZ a ss un now i b e=(gm a ss un now i b e).map cE
 |[],e,i,_=>by simp[yp,yq]
 |d::b,[],i,_=>by simp[Ht,yr]
 |d::b,c::e,i,h=>by obtain⟨f,g⟩:=h d q0f;have o:=Hw z f g (k:=i) (c:=c) (un d.plan - c) 0 (by lia);rw[q2T]at o;rw[yo,uB,q1P,o,yt z b e (i+1) fun d hd=>h d (bt _ hd)]
theorem Hx:∀f  b  i,∀r∈gm a ss un now i f b,∃x y w,r.1=[x,y,w]
 |[],b,i,r,h=>by simp[yq]at h
 |d::f,[],i,r,h=>by simp[yr]at h
 |d::f,c::b,i,r,h=>by
  rw[uB]at h;rcases q0d.mp h with h |h
  .obtain⟨e,_,rfl⟩:=q04.mp h;exact⟨_,_,_,rfl⟩
  .exact Hx f b (i+1) r h
theorem Vt(L)(h:∀r∈L,∃x y w,r.1=[x,y,w]):oh (L.map cE)=some L:=RT fun r b=>by obtain⟨x,y,w,e⟩:=h r b;rw[e];rfl
def uD(a:Int)(ss:Sh)(un:aF->Nat)(now:Int)(c:List ay)(b:List Nat):List PyData:=(TS.sortR (eP a ss un 0 c b)).map fun d=>cE (d,eS (gm a ss un now 0 c b) d)
theorem Vu:qc [.list ((gm a ss un now 0 ds cs).map cE)]=some (.list (uD a ss un now ds cs)):=by show(qb _).map PyData.list=_;unfold qb;rw[Vt _ (Hx ds cs 0),Option.bind_some,uC,if_pos (yf ds cs 0)];rfl
theorem Vv{k:Nat}(j:f[k]? = some d)(g:b[k]? = some c)(o:c<=e)(n:e<un d.plan):eS (gm a ss un now 0 f b) [cX a ss d.plan e,(k:Int),(e:Int)]=cY (dW a ss d e now):=by
 have mem:∀(f:List ay) (b:List Nat) (i k:Nat),f[k]? = some d->b[k]? = some c->([cX a ss d.plan e,((i+k:Nat)),e],cY (dW a ss d e now))∈gm a ss un now i f b:=fun f=>by
  induction f with
  |nil=>intro b i k h;simp at h
  |cons x f l=>
   intro b i k j g;cases b with
   |nil=>simp at g
   |cons y b=>
    rw[uB,q0d];cases k with
    |zero=>simp only[q1h,q0N]at j g;subst j g;exact .inl (q04.mpr ⟨e,by rw[q2u];lia,rfl⟩)
    |succ k=>have:=l b (i+1) k (by simpa using j) (by simpa using g);rw[show i+1+k=i+(k+1) by lia]at this;exact .inr this
 have m:=mem f b 0 k j g;rw[q1i]at m;exact CW (by rw[uC];exact yf f b 0) m
theorem Hy(z:du a ss)(n:0<=now/\now<=9999)(hd:∀d∈ds,cP d.plan/\bd a ss d.plan now (un d.plan))(o:ds.length=cs.length)(q:ds.length<=6):jl [.dat (bN a ss),.dat (cQ ds),.dat (.int now),.own true (.l (cs.map aE))]=.rt (.dat (.list (uD a ss un now ds cs))) [.l ((List.zipWith (jS un) ds cs).map aE)]:=by
 obtain⟨h,i,j,k,m,c,e,f,go⟩:=Hv z n ds cs [] (rows:=[]) hd o (by simp;lia);rw[q0w,q0w,q0w,q00,yt z ds cs 0 hd,<-Hk]at go;have p:=Vu (a:=a) (ss:=ss) (un:=un) (now:=now) (ds:=ds) (cs:=cs);have de:=kO ds;have g:bR (cy 2 (aR (al 5) (aR (cy 3 (aR (al 6) (aR (al 7) (aR (al 8) cx)))) cx))) ow (L3.numbered (ds.map bV)) [some (.dat (bN a ss)),some (.dat (cQ ds)),some (.dat (.int now)),some (.own true (.l (cs.map aE))),some (.own false (.l [])),none,none,none,none,none,none,none,none]=.nx [some (.dat (bN a ss)),some (.dat (cQ ds)),some (.dat (.int now)),some (.own true (.l ((List.zipWith (jS un) ds cs).map aE))),some (.own false (.l ((gm a ss un now 0 ds cs).map cE))),h,i,j,k,m,c,e,f]:=go;clear go;have b:xw [some (.dat (bN a ss)),some (.dat (cQ ds)),some (.dat (.int now)),some (.own true (.l (cs.map aE))),none,none,none,none,none,none,none,none,none]=.rt (.dat (.list (uD a ss un now ds cs))) [some (.dat (bN a ss)),some (.dat (cQ ds)),some (.dat (.int now)),some (.own true (.l ((List.zipWith (jS un) ds cs).map aE))),some (.dat (.list ((gm a ss un now 0 ds cs).map cE))),h,i,j,k,m,c,e,f]:=by unfold xw;generalize uD a ss un now ds cs=r at *;generalize (gm a ss un now 0 ds cs).map cE=s at *;generalize (List.zipWith (jS un) ds cs).map aE=t at *;generalize cs.map aE=u at *;generalize bN a ss=Z at *;generalize ds.map bV=v at *;generalize cy 2 (aR (al 5) (aR (cy 3 (aR (al 6) (aR (al 7) (aR (al 8) cx)))) cx))=TG at *;generalize ow=w at *;rw[de]at g ⊢;simp[g,p]
 exact yb rfl b (by simp[en])
theorem Vw(z:du a b)(c k):cO a b h c+24 * k<=cO a b h (c+k)+50:=by
 obtain⟨_,_,h3⟩:=iN z.rise;obtain⟨i,h2,_⟩:=iN (g:=(dU a b h+((c+k:Nat))) * 24+h) (a:=a) z.rise;have ah:=fun m=>mL (m:=m) z.ah;unfold cO;generalize eU ((dU a b h+c) * 24+h) 0 a b=u at *;generalize eU ((dU a b h+((c+k:Nat))) * 24+h) 0 a b=w at *
 by_cases q:u<=w+50 - 24 * k
 .omega
 .by_cases d:0<=w+50 - 24 * k
  .have:=h3 (w+50 - 24 * k) d (by lia);have e:=ah w;have f:=ah (w+50 - 24 * k);unfold cz at h2 this;lia
  .exfalso;have e:=ah w;have f:=ah 0;have fd:=qd (a:=a) (h:=h) (ss:=b);unfold cz at h2 fd;lia
theorem few{pv }(z:du a k)(ok:cP p)(u:bd a k p pv np)(v:bd a k p now g)(l:np<=c)(o:-1<=pv)(r:pv<=now):((g - c:Nat):Int)<=now - pv+4:=by
 by_cases q:g<=c+1
 .omega
 .obtain⟨w,i,m⟩:=v.in_ (g - 1) (by lia);obtain⟨x,j,_⟩:=v.in_ c (by lia);have lo:=mM z ok u l j;cases p with
  |once b=>rw[bE,if_neg (by lia)]at i;cases i
  |every f s=>
   rw[bE]at i j;cases i;cases j;have hs:=ok.2.1;have e:((g - 1:Nat)) * s=c * s+((g - 1 - c:Nat)) * s:=by
    rw[<-Int.add_mul]
    congr 1
    lia
   have n:((g - 1 - c:Nat)) * 1<=((g - 1 - c:Nat)) * s:=q12 (by lia) (by lia);lia
  |daily h=>rw[bE]at i j;cases i;cases j;have d:=Vw (h:=h) z c (g - 1 - c);rw[show c+(g - 1 - c)=g - 1 by lia]at d;lia
theorem Hz(z:du a b)(ok:cP p)(u:bd a b p m n)(s:mY a b p c m):c<=n:=by
 rcases s with s |⟨v,h1,h2⟩
 .omega
 .rcases q1T (c - 1) n with q |q
  .omega
  .have:=mM z ok u q h1;lia
theorem HA{pv }{up:aF->Nat}(z:du a g)(j:-1<=pv)(l:pv<=now)(p:now<=pv+90):∀b  e  i,(∀d∈b,cP d.plan/\bd a g d.plan now (un d.plan)/\bd a g d.plan pv (up d.plan))->(∀(k c:Nat)  d,b[k]? = some d->e[k]? = some c->up d.plan<=c)->(eP a g un i b e).length<=94 * b.length
 |[],e,i,_,_=>by simp[qP]
 |d::b,[],i,_,_=>by simp[qQ]
 |d::b,c::e,i,hd,m=>by obtain⟨n,o,V⟩:=hd d q0f;have f:=few z n V o (m 0 c d rfl rfl) j l;have q:=HA z j l p b e (i+1) (fun d h=>hd d (bt _ h)) fun k c d j l=>m (k+1) c d (by simpa using j) (by simpa using l);rw[kQ,q0q,q0h,List.length_range',q0o];lia
theorem HB{un:aF->Nat}(p:Cu S m n)(g:∀d∈S.ds,bd S.a S.ss d.plan m (un d.plan))(h:∀(k c:Nat)  d,S.ds[k]? = some d->S.settled[k]? = some c->un d.plan<=c):S.settled=S.ds.map fun d=>un d.plan:=by
 have sl:=p.run.ok.sl;apply q2B
 .rw[q0h];exact sl
 .intro k i l;rw[List.getElem_map];have b:k<S.ds.length:=by lia
  have e:=q0c b;have f:=q0c i;have lo:=h k _ _ e f;have j:=Hz p.run.ok.z (p.run.ok.pl _ (q0L b)).plan (g _ (q0L b)) (p.st k _ _ e f);lia
theorem Vx{S:Hl}{m:Int}(f:a.length=b.length)(h:∀(k c:Nat)  d,a[k]? = some d->b[k]? = some c->c<=un d.plan):List.zipWith (jS un) a b=a.map fun d=>un d.plan:=by
 apply q2B
 .simp;lia
 .intro k g e;rw[q0h]at e;rw[List.getElem_map,List.getElem_zipWith];have:=h k b[k] a[k] (q0c e) (q0c (by lia));lia
def Ly(k:Nat)(d:PyData):Prop:=PyData.canLay0 d=true/\PyData.depth d<=k
theorem yu:∀{l},(∀x∈l,Ly k x)->PyData.canLayAll0 l=true/\PyData.depthAll l<=k
 |[],_=>⟨rfl,q0Y _⟩
 |d::l,h=>by have h1:=h d q0f;have h2:=yu fun x a=>h x (bt _ a);refine⟨by simp[PyData.canLayAll0,h1.1,h2.1],?_⟩;have:=h1.2;simp only[PyData.depthAll];lia
theorem HD(h:∀x∈l,Ly k x):Ly (k+1) (.tuple l):=by have:=yu h;exact⟨by simpa[PyData.canLay0] using this.1,by simp only[PyData.depth];lia⟩
theorem yv(h:∀x∈l,Ly k x):Ly (k+1) (.list l):=by have:=yu h;exact⟨by simpa[PyData.canLay0] using this.1,by simp only[PyData.depth];lia⟩
theorem uE(i k):Ly k (.int i):=⟨by simp[PyData.canLay0],by simp[PyData.depth]⟩
theorem Vy(k):Ly k .none:=⟨by simp[PyData.canLay0],by simp[PyData.depth]⟩
theorem HE(h:PyData.strOk s=true)(k):Ly k (.str s):=⟨by simp[PyData.canLay0,h],by simp[PyData.depth]⟩
theorem yw(h:Ly k d)(e:k<=64):SeqAt.shaped d=true:=by unfold SeqAt.shaped;rw[h.1,Bool.true_and];exact decide_eq_true (q0E h.2 e)
theorem HF{un:aF->Nat}(ok:bJ S)(f:S.last=some m)(g:∀d∈S.ds,bd S.a S.ss d.plan m (un d.plan)):∀(b:List ay)  c  x y,(∀d∈b,d∈S.ds)->c.length+b.length<900->bU (cy 2 (aR (al 0) (aR (al 1) cx))) cN (ox C) (cC (b.map bV) ((b.map fun d=>un d.plan).map aE)) c [x,y,some (.vw (hB C S))]=some (c++List.replicate b.length (.int 0))
 |[],c,x,y,_,h=>by simp[cC,bU]
 |e::b,c,x,y,hd,h=>by
  have sz:1000<sizeLine:=by decide
  simp only[q0o]at h;have i:=hd e q0f;have j:=TQ ok.z (ok.pl e i).plan (g e i);have k:=HF (C:=C) ok f g b (c++[.int 0]) (some (.dat (bV e))) (some (.dat (aE (un e.plan)))) (fun d h=>hd d (bt _ h)) (by simp;lia);have l:aI (bV e) (.int 0)=some (fz e.plan):=rfl;have n:ox C [some (.dat (bV e)),some (.dat (aE (un e.plan))),some (.vw (hB C S))]=.ok (.int 0) [some (.dat (bV e)),some (.dat (aE (un e.plan))),some (.vw (hB C S))]:=by
   have o:jM C 2 "zone" [some (.dat (bV e)),some (.dat (aE (un e.plan))),some (.vw (hB C S))]=.ok (bN S.a S.ss) [some (.dat (bV e)),some (.dat (aE (un e.plan))),some (.vw (hB C S))]:=by simp[jM,nO]
   have p:jM C 2 "last" [some (.dat (bV e)),some (.dat (aE (un e.plan))),some (.vw (hB C S))]=.ok (.int m) [some (.dat (bV e)),some (.dat (aE (un e.plan))),some (.vw (hB C S))]:=by simp[jM,nO,f,fQ]
   generalize bN S.a S.ss=s at *;generalize fz e.plan=t at *;generalize bV e=dd at *;unfold ox;generalize jM C 2 "zone" = u at *;generalize jM C 2 "last" = v at *;simp[-aI,o,p,l,j]
  have q:cy 2 (aR (al 0) (aR (al 1) cx)) (PyData.tuple [bV e,aE (un e.plan)]) [x,y,some (.vw (hB C S))]=some [some (.dat (bV e)),some (.dat (aE (un e.plan))),some (.vw (hB C S))]:=by simp
  have r:cC ((e::b).map bV) (((e::b).map fun d=>un d.plan).map aE)=.tuple [bV e,aE (un e.plan)]::cC (b.map bV) ((b.map fun d=>un d.plan).map aE):=rfl;rw[r,bU];simp only[q,cN,n];rw[if_pos (by lia),k,q0o,q0D,q0k,q1c]
theorem Vz{un:aF->Nat}(ok:bJ S)(h:S.last=some m)(e:∀d∈S.ds,bd S.a S.ss d.plan m (un d.plan))(i:S.settled=S.ds.map fun d=>un d.plan):jN C [.own true (hB C S)]=.rt (.dat (.list (List.replicate S.ds.length (.int 0)))) [hB C S]:=by
 have sz:1000<sizeLine:=by decide
 have j:=ok.dl;have g:=HF (C:=C) ok h e S.ds [] none none (fun d h=>h) (by simp;lia);rw[<-i,q0w]at g;have ll:(List.replicate S.ds.length (PyData.int 0)).length<=sizeLine:=by rw[q1a];lia
 have at_:(List.replicate S.ds.length (PyData.int 0)).all jg=true:=by simp[jg]
 generalize List.replicate S.ds.length (PyData.int 0)=L at *;generalize f:cC (S.ds.map bV) (S.settled.map aE)=P at *;have c:lx C 0 "deeds" "settled" [some (.own true (hB C S))]=.ok P [some (.own true (hB C S))]:=by simp[lx,cb,(kO S.ds),f]
 have k:nN 2 [0] (lx C 0 "deeds" "settled") (cy 2 (aR (al 0) (aR (al 1) cx))) cN (ox C) [some (.own true (hB C S))]=.ok (.list L) [some (.own true (hB C S))]:=by generalize lx C 0 "deeds" "settled" = l at *;have lw:pL 2 [0] [some (.own true (hB C S))]=[none,none,some (.vw (hB C S))]:=rfl;simp only[nN,c,gy.bind,wH,lw,g,Option.bind_some,ll,at_,and_self,if_true,lift]
 have b:xy C [some (.own true (hB C S))]=.rt (.dat (.list L)) [some (.own true (hB C S))]:=by unfold xy;generalize nN 2 [0] (lx C 0 "deeds" "settled") (cy 2 (aR (al 0) (aR (al 1) cx))) cN (ox C)=n at *;simp[h,fQ,k]
 exact yb rfl b rfl
section
variable{C:Addr}{ns:List Int}{t:List PyData}{Z D:PyData}{S:Hl}{now v:Int}{cs:List Nat}{k c:Nat}{W:List PyData}{x7 x9 x10 x11 x12 x13 x14:Option aa}{b:Bool}
theorem VA{e6}(a:W.length<900000):kK C [e0,e1,e2,e3,e4,e5,e6,x7,some (.own false (.l W)),some (.dat (.int v)),some (.dat (aE k)),some (.dat (aE c)),some (.dat (.str (cY b))),x13,x14]=.nx [e0,e1,e2,e3,e4,e5,e6,x7,some (.own false (.l (W++if b=true then[.tuple [.str "left",aE k,aE c]]else[.tuple [.str "begun",aE k,aE c],.tuple [.str "done",aE k,aE c]]))),some (.dat (.int v)),some (.dat (aE k)),some (.dat (aE c)),some (.dat (.str (cY b))),x13,x14]:=by
 have sz:1000000<sizeLine:=by decide
 have l3:=by lia
 cases b with
 |true=>
  have e:aB false (.str "left") (.str "done")=some (.bool false):=by kernel_rfl
  simp[kK,cY,e,l3,show W.length<sizeLine by lia]
 |false=>
  have e:aB false (.str "done") (.str "done")=some (.bool true):=by kernel_rfl
  simp[kK,cY,e,l3,show W.length<sizeLine by lia,show W.length+1<sizeLine by lia]
theorem HG{wf:List Int->Str}{e6}:∀(L:List (List Int)) {W}{x9 x10 x11 x12},(∀r∈L,∃(k c:Nat) (v:Int) (d:ay),r=[v,(k:Int),(c:Int)]/\ds[k]? = some d/\wf r=cY (dW a ss d c now))->W.length+2 * L.length<800000->∃i e f g,bR (cy 4 (aR (al 9) (aR (al 10) (aR (al 11) (aR (al 12) cx))))) (kK C) (L.map fun r=>cE (r,wf r)) [e0,e1,e2,e3,e4,e5,e6,x7,some (.own false (.l W)),x9,x10,x11,x12,x13,x14]=.nx [e0,e1,e2,e3,e4,e5,e6,x7,some (.own false (.l (W++L.flatMap (fR a ss ds now)))),i,e,f,g,x13,x14]
 |[],W,x9,x10,x11,x12,_,_=>⟨x9,x10,x11,x12,by simp[bR]⟩
 |r::L,W,x9,x10,x11,x12,h,n=>by
  obtain⟨k,c,v,d,rfl,hd,o⟩:=h r q0f;simp only[q0o]at n;have j:fR a ss ds now [v,(k:Int),(c:Int)]=if dW a ss d c now=true then[.tuple [.str "left",aE k,aE c]]else[.tuple [.str "begun",aE k,aE c],.tuple [.str "done",aE k,aE c]]:=yi hd
  have b:=VA (C:=C) (x7:=x7) (W:=W) (v:=v) (k:=k) (c:=c) (b:=dW a ss d c now) (x13:=x13) (x14:=x14) (e0:=e0) (e1:=e1) (e2:=e2) (e3:=e3) (e4:=e4) (e5:=e5) (e6:=e6) (by lia);rw[<-j]at b;have tl:(fR a ss ds now [v,(k:Int),(c:Int)]).length<=2:=by rw[j];split<;>simp
  obtain⟨i,e,f,g,m⟩:=HG L (W:=W++fR a ss ds now [v,(k:Int),(c:Int)]) (x9:=some (.dat (.int v))) (x10:=some (.dat (aE k))) (x11:=some (.dat (aE c))) (x12:=some (.dat (.str (cY (dW a ss d c now))))) (fun r p=>h r (bt _ p)) (by rw[q0q];lia);refine⟨i,e,f,g,?_⟩;rw[q0k]at m;rw[q0l,bR,q2v,<-m,o];have q:cE ([v,(k:Int),(c:Int)],cY (dW a ss d c now))=.tuple [.int v,.int k,.int c,.str (cY (dW a ss d c now))]:=rfl;rw[q];generalize cY (dW a ss d c now)=w at *;generalize fR a ss ds now [v,(k:Int),(c:Int)]=TT at *;generalize kK C=s at *;simp[b]
end
end K3
noncomputable section
namespace K3
open PySem L2 L2.L3 Due
theorem VB(T x):mH (.list (T++[x])) none (some (-1))=some (.list T):=by
 show some (PyData.list (L3.cutD ..))=_;unfold L3.cutD;have e:HT.sIx (T++[x]).length (T++[x]).length (some (-1))=T.length:=by unfold HT.sIx;simp;lia
 rw[e,show HT.sIx (T++[x]).length 0 none=0 from rfl,q2N,q2S,List.take_left'];rfl
theorem VC(T x):aI (.list (T++[x])) (.int (-1))=some x:=by simp
theorem qV{n:Nat}(h:n<=6):gQ (.list [.int 0]) (.int n)=some (.list (List.replicate n (.int 0))):=by
 obtain rfl |rfl |rfl |rfl |rfl |rfl |rfl:n=0\/n=1\/n=2\/n=3\/n=4\/n=5\/n=6:=by lia
 all_goals kernel_rfl
theorem HI(h:PyData.strOk w=true)(k c):Ly 1 (.tuple [.str w,.int k,.int c]):=HD fun y a=>by
 simp only[q0b,q0e,or_false]at a;rcases a with rfl |rfl |rfl
 .exact HE h _
 .exact uE _ _
 .exact uE _ _
theorem VD(r):∀x∈fR a e c m r,Ly 1 x:=fun x b=>by
 delta fR at b
 generalize c[(r.getD 1 0).toNat]? = o at b;cases o with
 |none=>cases b
 |some d=>
  dsimp only[Option.elim]at b;split at b
  .rw[q0i.mp b];exact HI (by decide +kernel) _ _
  .simp only[q0b,q0e,or_false]at b;rcases b with rfl |rfl<;>exact HI (by decide +kernel) _ _
theorem VE(L:List (List Int)):Ly 2 (.list (L.flatMap (fR a c d m))):=yv fun x b=>by obtain⟨r,_,h⟩:=List.mem_flatMap.mp b;exact VD r x h
theorem VF(S):Ly 0 (hV S):=by delta hV;cases dQ S;exact Vy _;exact uE _ _
theorem VG(S):Ly 2 (.list [.tuple [.str "idle",hV S]]):=yv fun x b=>by
 rw[q0i.mp b];exact HD fun y a=>by
  simp only[q0b,q0e,or_false]at a;rcases a with rfl |rfl
  .exact HE (by decide +kernel) _
  .exact VF S
abbrev HJ:SM:=(bF (ab cg (xV 5) (aP (aO ej (bv 0 (bv 1 (ak (xC (.int 90)) aK)))))) (al 5))
abbrev HK(C:Addr):SM:=(il (cB C 4 "take" (kI C) (ak (xC (.int 2)) (ak (xV 5) (ak (xC (.int 99)) aK)))))
abbrev HL:SM:=(fW 8 (iI aH))
abbrev yx(C:Addr):SM:=(fw (jH (aP (aO jl (ak (xV 2) (ak (xV 3) (ak (xV 5) (bv 6 aK))))))) (cy 4 (aR (al 9) (aR (al 10) (aR (al 11) (aR (al 12) cx))))) (kK C))
abbrev HM(C:Addr):SM:=(bF (aP (aO (jO C) (bv 4 (ak (xC (.int 2)) (ak (xV 5) (ak (xC (.int 999)) aK)))))) (al 13))
abbrev HN(C:Addr):SM:=(bI (jc (aT (ab (aB true) (nU (xV 13) nQ (nR (kj (xC (.int 1))))) (xV 8))) (jc (aT (ab (aB true) (ab aI (ab aI (xV 13) (kj (xC (.int 1)))) (xC (.int 0))) (xC (.str "idle")))) (aT (ab (aB true) (aP (df C 4 "waiting" (jN C))) (ab gQ (dI (aq (xC (.int 0)) aH)) (cA dq (aq (xV 3) aH))))))) (bA (xC (.bool false))) bM)
abbrev yy(C:Addr):SM:=(bF (fY 1 [] (jH (aP (mJ jl (xV 2) (xV 3) (ab cg (xV 5) (xC (.int 2600))) (mK 6)))) (al 0) cN (mT C)) (al 14))
abbrev HP(C:Addr):SM:=(bI (aT (ab (aB true) (aP (aO (jO C) (bv 4 (ak (xC (.int 2)) (ak (xV 5) (ak (xC (.int 5)) aK)))))) (dI (aq (dH (aq (xC (.str "idle")) (aq (ab aI (ab jD (xV 14) (dI (aq (xC .none) aH))) (xC (.int 0))) aH))) aH)))) (bA (xC (.bool false))) bM)
theorem VH(C):tV C=az HJ (az (HK C) (az HL (az (yx C) (az (HM C) (az (HN C) (az (yy C) (HP C))))))):=rfl
theorem VI(S):List.lookup ("waiting":Str) (ai S)=none:=by kernel_rfl
theorem HQ(h:A U=.ok false a):jc A B U=B a:=by simp[h]
theorem HS(h:T U=.ok false b):bI T a bM U=.nx b:=by simp[h]
abbrev u6(C:Addr)(ns:List Int)(t:List PyData)(Z D:PyData)(S:Hl)(now:Int)(V:List PyData)(x7 x8 x9 x10 x11 x12 x13 x14:Option aa):aj:=[some (.scr ns),some (.own false (.l t)),some (.dat Z),some (.dat D),some (.own false (hB C S)),some (.dat (.int now)),some (.own false (.l V)),x7,x8,x9,x10,x11,x12,x13,x14]
theorem VJ{V:List PyData}(h:ej [.scr ns,.own true (.l t),.dat (.int 90)]=.rt (.dat (.int k)) [.l t']):HJ (u6 C ns t Z D S now V x7 x8 x9 x10 x11 x12 x13 x14)=.nx (u6 C ns t' Z D S (now+k) V x7 x8 x9 x10 x11 x12 x13 x14):=by simp[h]
theorem VL{V:List PyData}(h:kI C [.own true (hB C S),.dat (.int 2),.dat (.int now),.dat (.int 99)]=.rt (.dat x) [hB C S']):HK C (u6 C ns t Z D S now V x7 x8 x9 x10 x11 x12 x13 x14)=.nx (u6 C ns t Z D S' now V x7 x8 x9 x10 x11 x12 x13 x14):=by simp[cB,fg,cb,h]
theorem VM{V:List PyData}:HL (u6 C ns t Z D S now V x7 x8 x9 x10 x11 x12 x13 x14)=.nx (u6 C ns t Z D S now V x7 (some (.own false (.l []))) x9 x10 x11 x12 x13 x14):=by simp
theorem VN{V:List PyData}(h:jl [.dat Z,.dat D,.dat (.int now),.own true (.l V)]=.rt (.dat (.list W)) [.l V'])(g:bR (cy 4 (aR (al 9) (aR (al 10) (aR (al 11) (aR (al 12) cx))))) (kK C) W (u6 C ns t Z D S now V' x7 x8 x9 x10 x11 x12 x13 x14)=o):yx C (u6 C ns t Z D S now V x7 x8 x9 x10 x11 x12 x13 x14)=o:=by rw[<-g];unfold yx;generalize cy 4 (aR (al 9) (aR (al 10) (aR (al 11) (aR (al 12) cx))))=TG at *;generalize kK C=a at *;simp[h]
theorem VO{V:List PyData}(h:jO C [.own true (hB C S),.dat (.int 2),.dat (.int now),.dat (.int 999)]=.rt (.own false (.l T)) [hB C S']):HM C (u6 C ns t Z D S now V x7 x8 x9 x10 x11 x12 x13 x14)=.nx (u6 C ns t Z D S' now V x7 x8 x9 x10 x11 x12 (some (.dat (.list T))) x14):=by simp[h]
theorem VP{V:List PyData}(e:jN C [.own true (hB C S)]=.rt (.dat (.list a)) [hB C S])(f:b [D]=some (.int d))(g:c (.list [.int 0]) (.int d)=some (.list a))(ud:aB true (.list a) (.list a)=some (.bool false)):aT (ab (aB true) (aP (df C 4 "waiting" (jN C))) (ab c (dI (aq (xC (.int 0)) aH)) (cA b (aq (xV 3) aH)))) (u6 C ns t Z D S now V x7 x8 x9 x10 x11 x12 x13 x14)=.ok false (u6 C ns t Z D S now V x7 x8 x9 x10 x11 x12 x13 x14):=by
 have sz:1000<sizeLine:=by decide
 clear sz;have i:df C 4 "waiting" (jN C) (u6 C ns t Z D S now V x7 x8 x9 x10 x11 x12 x13 x14)=.ok (.dat (.list a)) (u6 C ns t Z D S now V x7 x8 x9 x10 x11 x12 x13 x14):=by simp[df,cb,e]
 generalize df C 4 "waiting" (jN C)=j at *;simp[i,f,g,ud]
theorem VQ{V:List PyData}{N:Nat}(a:dq [D]=some (.int N))(b:N<=6)(c:jN C [.own true (hB C S)]=.rt (.dat (.list (List.replicate N (.int 0)))) [hB C S])(d:aB true (.list T) (.list T)=some (.bool false)):HN C (u6 C ns t Z D S now V x7 (some (.own false (.l T))) x9 x10 x11 x12 (some (.dat (.list (T++[.tuple [.str "idle",x]])))) x14)=.nx (u6 C ns t Z D S now V x7 (some (.dat (.list T))) x9 x10 x11 x12 (some (.dat (.list (T++[.tuple [.str "idle",x]])))) x14):=by
 have sz:1000<sizeLine:=by decide
 have l1:(1:Nat)<=sizeLine:=by lia
 clear sz;have e:=VB T (.tuple [.str "idle",x]);have f:=VC T (.tuple [.str "idle",x]);have g:aI (.tuple [.str "idle",x]) (.int 0)=some (.str "idle"):=rfl;have h:aB true (.str "idle") (.str "idle")=some (.bool false):=by kernel_rfl
 have i:=qV b;have ud:aB true (.list (List.replicate N (.int 0))) (.list (List.replicate N (.int 0)))=some (.bool false):=uh (yw (yv (k:=0) fun y j=>by rw[q2w j];exact uE _ _) (by decide));generalize T++[.tuple [.str "idle",x]]=TT at *;have m:aT (ab (aB true) (nU (xV 13) nQ (nR (kj (xC (.int 1))))) (xV 8)) (u6 C ns t Z D S now V x7 (some (.own false (.l T))) x9 x10 x11 x12 (some (.dat (.list TT))) x14)=.ok false (u6 C ns t Z D S now V x7 (some (.dat (.list T))) x9 x10 x11 x12 (some (.dat (.list TT))) x14):=by simp[e,d]
 exact HS ((HQ m).trans ((HQ (by simp[-aI,f,g,h])).trans (VP c a i ud)))
end K3
noncomputable section
namespace K3
open PySem L2 L2.L3 Due
theorem VR{V:List PyData}(h:jl [.dat Z,.dat D,.dat (.int (now+2600)),.own true (.l V)]=.rt (.dat (.list W)) [.l V'])(g:bU (al 0) cN (mT C) W [] [none]=some H)(a:H.length<=sizeLine):yy C (u6 C ns t Z D S now V x7 x8 x9 x10 x11 x12 x13 x14)=.nx (u6 C ns t Z D S now V x7 x8 x9 x10 x11 x12 x13 (some (.dat (.list H)))):=by
 have e:mJ jl (xV 2) (xV 3) (ab cg (xV 5) (xC (.int 2600))) (mK 6) (u6 C ns t Z D S now V x7 x8 x9 x10 x11 x12 x13 x14)=.ok (.dat (.list W)) (u6 C ns t Z D S now V x7 x8 x9 x10 x11 x12 x13 x14):=by simp[mJ,mK,kD,h]
 unfold yy;generalize mT C=b at *;generalize mJ jl (xV 2) (xV 3) (ab cg (xV 5) (xC (.int 2600))) (mK 6)=c at *;simp[e,g,a]
theorem VS{V:List PyData}(h:jO C [.own true (hB C S),.dat (.int 2),.dat (.int now),.dat (.int 5)]=.rt (.own false (.l [.tuple [.str "idle",x]])) [hB C S'])(a:aI (.list (H++[.none])) (.int 0)=some x)(b:H.length+1<=sizeLine)(e:aB true (.list [.tuple [.str "idle",x]]) (.list [.tuple [.str "idle",x]])=some (.bool false)):HP C (u6 C ns t Z D S now V x7 x8 x9 x10 x11 x12 x13 (some (.dat (.list H))))=.nx (u6 C ns t Z D S' now V x7 x8 x9 x10 x11 x12 x13 (some (.dat (.list H)))):=by
 have sz:1000<sizeLine:=by decide
 clear sz;exact HS (by simp[-aI,h,(by lia),b,a,e])
theorem HU{wf:List Int->Str}:∀(L:List (List Int))  e  y,(∀r∈L,∃a b c,r=[a,b,c])->e.length+L.length<900000->bU (al 0) cN (mT C) (L.map fun r=>cE (r,wf r)) e [y]=some (e++L.map fun r=>PyData.int (r.headD 0))
 |[],e,y,_,_=>by simp[bU]
 |r::L,e,y,h,f=>by
  have sz:1000000<sizeLine:=by decide
  simp only[q0o]at f;obtain⟨a,b,c,rfl⟩:=h r q0f;have g:=HU (C:=C) (wf:=wf) L (e++[.int a]) (some (.dat (cE ([a,b,c],wf [a,b,c])))) (fun r i=>h r (bt _ i)) (by simp;lia);have j:mT C [some (.dat (cE ([a,b,c],wf [a,b,c])))]=.ok (.int a) [some (.dat (cE ([a,b,c],wf [a,b,c])))]:=by have l:aI (cE ([a,b,c],wf [a,b,c])) (.int 0)=some (.int a):=rfl;generalize cE ([a,b,c],wf [a,b,c])=d at *;simp[-aI,mT,l]
  rw[q0l,bU];simp only[al,q01,cN,j];rw[if_pos (by lia),g,q0k,q1c];rfl
theorem HV(z:du a ss)(h:last<=9999):∃un:aF->Nat,∀p,cP p->bd a ss p last (un p):=by
 classical
 exact⟨fun p=>if q:cP p then(De z q h).choose else 0,fun p q=>by simp only[q];exact(De z q h).choose_spec⟩
theorem VT(c:b.a=S.a)(d:b.ss=S.ss)(e:b.ds=S.ds)(f:b.settled=S.settled):dQ b = dQ S:=by cases S;cases b;subst c d e f;rfl
structure T6 (S:Hl) (now pv:Int) (n:Nat) (up:aF->Nat):Prop where
 cu:Cu S now n
 pb:∀d∈S.ds,oF d.plan
 vp:∀d∈S.ds,bd S.a S.ss d.plan pv (up d.plan)
 lo:∀(k c:Nat) (d:ay),S.ds[k]? = some d->S.settled[k]? = some c->up d.plan<=c
 h1:-1<=pv
 h2:pv<=now
 h3:now<=pv+1
 h0:0<=now
 tl:S.til=now+99
theorem turn{pv:Int}(hn:ns.length<=63)(ht:t.length<=900)(T:T6 S now pv n up)(hm:now<=400)(hN:n<100000) :
  ∃U g t' un y8 y9 G H I a5 a6,tV C (u6 C ns t (bN S.a S.ss) (cQ S.ds) S now (S.settled.map aE) x7 x8 x9 x10 x11 x12 x13 x14)=.nx (u6 C ns t' (bN S.a S.ss) (cQ S.ds) U g (U.settled.map aE) x7 y8 y9 G H I a5 a6)/\T6 U g g (n+2008) un/\(U.a=S.a/\U.ss=S.ss/\U.ds=S.ds)/\g<=now+89/\t'.length<=t.length+1:=by
 have sz:1000000<sizeLine:=by decide
 have p:=T.cu;have ok:=p.run.ok;have h0:=T.h0;obtain⟨k,k0,k1,a7⟩:=gi (ns:=ns) (t:=t) (many:=90) hn (by lia) (by lia);obtain⟨m,em⟩:∃m,m=now+k:=⟨_,rfl⟩
 have ck:=p.run.call (C:=C) (r:=2) (m':=m) ⟨by lia,by lia⟩ (by lia) ⟨by lia,by lia⟩;have J:=GG ck (t:=99) (by simp[di]);have hh:iP S m=true:=by unfold iP;rw[p.ho];have:=T.tl;simp;lia
 have a8:oG S 2 m 99=({ S with last:=some m,holder:=some 2,til:=m+99 },true):=by unfold oG;rw[hh,if_neg (by simp),if_pos p.ho]
 rw[a8]at J;simp only at J;have a9:Cu { S with last:=some m,holder:=some 2,til:=m+99 } m n:=⟨p.run.hold (k:=S.holds) (by lia:now<=m) (fun h e=>by cases e;exact⟨by lia,by lia⟩) (q0U _),rfl,by show m<m+99;lia,p.bn,p.hs,p.uw,fun k c x R h2=>(p.st k c x R h2).mono (by lia)⟩
 obtain⟨un,b0⟩:=HV (a:=S.a) (ss:=S.ss) (last:=m) ok.z (by lia);have Y:∀d∈S.ds,bd S.a S.ss d.plan m (un d.plan):=fun d hd=>b0 _ (ok.pl d hd).plan;have Z:=Hy (un:=un) ok.z (now:=m) ⟨by lia,by lia⟩ (ds:=S.ds) (cs:=S.settled) (fun d hd=>⟨(ok.pl d hd).plan,Y d hd⟩) ok.sl.symm ok.dl;have b1:∀(j c:Nat) (d:ay),S.ds[j]? = some d->S.settled[j]? = some c->c<=un d.plan:=fun j c d R h2=>by
  have X:=(q0a.mp R)
  have dm:d∈S.ds:=by rw[<-X.2];exact q0L X.1
  exact Hz ok.z (ok.pl d dm).plan (Y d dm) ((p.st j c d R h2).mono (by lia))
 rw[Vx (S:=S) (m:=m) ok.sl.symm b1]at Z;have b6:(TS.sortR (fB un S)).length<=94 * S.ds.length:=by rw[(TS.sortR_perm _).length_eq];exact HA ok.z T.h1 (by have:=T.h2;lia:pv<=m) (by have:=T.h3;lia) S.ds S.settled 0 (fun d hd=>⟨(ok.pl d hd).plan,Y d hd,T.vp d hd⟩) T.lo
 have dl:=ok.dl;obtain⟨y9,G,H,I,wg⟩:=HG (C:=C) (now:=m) (a:=S.a) (ss:=S.ss) (ds:=S.ds) (wf:=eS (gm S.a S.ss un m 0 S.ds S.settled)) (x7:=x7) (x13:=x13) (x14:=x14) (e0:=some (.scr ns)) (e1:=some (.own false (.l (t++[.int 0])))) (e2:=some (.dat (bN S.a S.ss))) (e3:=some (.dat (cQ S.ds))) (e4:=some (.own false (hB C { S with last:=some m,holder:=some 2,til:=m+99 }))) (e5:=some (.dat (.int m))) (e6:=some (.own false (.l ((S.ds.map fun d=>un d.plan).map aE)))) (TS.sortR (fB un S)) (W:=[]) (x9:=x9) (x10:=x10) (x11:=x11) (x12:=x12) (fun r hr=>by
  obtain⟨j,d,c,e,R,h2,h3,h4,rfl⟩:=qR.mp ((TS.sortR_perm _).mem_iff.mp hr);refine⟨j,e,_,d,by rw[q1i],R,?_⟩;rw[q1i];exact Vv R h2 h3 h4) (by simp;lia)
 rw[q0w]at wg;obtain⟨b,ct,y,f2,b2,a0⟩:=Hh (C:=C) (un:=un) (q:=999) a9 Y ⟨by lia,by lia⟩ ⟨by lia,by lia⟩ (by show((TS.sortR (fB un S)).length:Int)<999;lia) (by lia);have A:∀d∈b.ds,bd b.a b.ss d.plan m (un d.plan):=fun d hd=>by rw[f2.1,f2.2.1];rw[f2.2.2.1]at hd;exact Y d hd
 have o:=HB y A a0;have wt:=Vz (C:=C) y.run.ok b2 A o;have f:b.ds=S.ds:=f2.2.2.1;have L:b.a=S.a:=f2.1;have M:b.ss=S.ss:=f2.2.1;rw[f]at wt o;have ln:dq [cQ S.ds]=some (.int S.ds.length):=by rw[kO];simp[dq]
 obtain⟨s,i⟩:=HV (a:=S.a) (ss:=S.ss) (last:=m+2600) ok.z (by lia);have a1:=Hy (un:=s) ok.z (now:=m+2600) ⟨by lia,by lia⟩ (ds:=S.ds) (cs:=b.settled) (fun d hd=>⟨(ok.pl d hd).plan,i _ (ok.pl d hd).plan⟩) (by rw[o,q0h]) ok.dl;rw[o]at a1;have l2:(eP S.a S.ss s 0 S.ds (S.ds.map fun d=>un d.plan)).length<=120000:=by have:(lZ S.a S.ss s (m+2600) 0 S.ds (S.ds.map fun d=>un d.plan)).length<=20000 * S.ds.length:=Hu S.ds _ 0 fun d hd=>(i _ (ok.pl d hd).plan).le;rw[yt ok.z S.ds _ 0 fun d hd=>⟨(ok.pl d hd).plan,i _ (ok.pl d hd).plan⟩,q0h]at this;rw[<-uC (now:=m+2600),q0h];lia
 have hg:=HU (C:=C) (wf:=eS (gm S.a S.ss s (m+2600) 0 S.ds (S.ds.map fun d=>un d.plan))) (TS.sortR (eP S.a S.ss s 0 S.ds (S.ds.map fun d=>un d.plan))) [] none (fun r hr=>by
  obtain⟨j,d,c,e,_,_,_,_,rfl⟩:=qR.mp ((TS.sortR_perm _).mem_iff.mp hr);exact⟨_,_,_,rfl⟩) (by rw[(TS.sortR_perm _).length_eq];simp;lia)
 rw[q0w]at hg;have B:fB un b=[]:=uy a0;obtain⟨D,a2,c3,w,b7,a3⟩:=Hh (C:=C) (un:=un) (q:=5) y A ⟨by lia,by lia⟩ ⟨by lia,by lia⟩ (by rw[B];simp[TS.sortR]) (by lia);rw[B,show TS.sortR []=[] by simp[TS.sortR]]at a2;have a4:∀d∈D.ds,bd D.a D.ss d.plan m (un d.plan):=fun d hd=>by rw[w.1,w.2.1];rw[w.2.2.1]at hd;exact A d hd
 have N:=HB c3 a4 a3;have u:D.ds=S.ds:=w.2.2.1.trans f;rw[u]at N;have b3:dQ D=dQ b:=VT w.1 w.2.1 w.2.2.1 (by rw[N,o]);have O:aI (.list ((TS.sortR (eP S.a S.ss s 0 S.ds (S.ds.map fun d=>un d.plan))).map (fun r=>PyData.int (r.headD 0))++[.none])) (.int 0)=some (hV D):=by
  have E:∀d∈b.ds,bd b.a b.ss d.plan (m+2600) (s d.plan):=fun d hd=>by rw[L,M];rw[f]at hd;exact i _ (ok.pl d hd).plan
  have er:fB s b=eP S.a S.ss s 0 S.ds (S.ds.map fun d=>un d.plan):=by unfold fB;rw[L,M,f,o]
  delta hV
  rw[b3];cases Q:dQ b with
  |none=>have r0:fB s b=[]:=uy (He y.run.ok E (.inl Q));rw[<-er,r0,show TS.sortR []=[] by simp[TS.sortR]];rfl
  |some pr=>obtain⟨v,j⟩:=pr;obtain⟨X,b4,_⟩:=qO Q;have dm:b.ds[j]∈b.ds:=q0L X;have b5:=UM y.run.ok.z (y.run.ok.pl _ dm).plan (T.pb _ (by rw[<-f];exact dm)) (y.st j (bu b j) _ (q0c X) (uz y.run.ok X)) (by lia:0<=m) b4;rw[<-er,Hf y.run.ok E Q b5,q0l];simp
 refine⟨D,m,t++[.int 0],un,some (.dat (.list ((TS.sortR (fB un S)).flatMap (fR S.a S.ss S.ds m)))),y9,G,H,I,some (.dat (.list ((TS.sortR (fB un S)).flatMap (fR S.a S.ss S.ds m)++[.tuple [.str "idle",hV b]]))),some (.dat (.list ((TS.sortR (eP S.a S.ss s 0 S.ds (S.ds.map fun d=>un d.plan))).map (fun r=>PyData.int (r.headD 0))))),?_,⟨c3.mono (by simp<;>lia),fun d hd=>T.pb d (by rw[<-u];exact hd),a4,a3,by lia,q0U _,by lia,by lia,w.2.2.2.trans f2.2.2.2⟩,⟨w.1.trans L,w.2.1.trans M,u⟩,by lia,by simp⟩;rw[N,VH];subst em;refine(gG (VJ a7)).trans ?_;refine(gG (VL J)).trans ((gG VM).trans ((gG (VN Z wg)).trans ((gG (VO ct)).trans ((gG (VQ ln dl wt (uh (yw (VE _) (by decide))))).trans ((gG (VR a1 hg (by rw[q0h,(TS.sortR_perm _).length_eq];lia))).trans ?_)))));exact VS a2 O (by rw[q0h,(TS.sortR_perm _).length_eq];lia) (uh (yw (VG D) (by decide)))
end K3
noncomputable section
namespace K3
open PySem L2 L2.L3 Due
theorem me(y:x.length<=63):∀q  i {t}{S}{now pv}{n}{up}{x7 x8 x9 x10 x11 x12 x13 x14},t.length+q<=900->T6 S now pv n up->n+2008 * q<90000->now+89 * q<=400->
  ∃m b t' z V D o p c d f g j,bR (al 7) (tV C) (L3.intsFrom i q) (u6 C x t (bN S.a S.ss) (cQ S.ds) S now (S.settled.map aE) x7 x8 x9 x10 x11 x12 x13 x14)=.nx (u6 C x t' (bN S.a S.ss) (cQ S.ds) m b V D o p c d f g j)/\Cu m b z/\z<90000
 |0,i,t,S,now,pv,n,up,x7,x8,x9,x10,x11,x12,x13,x14,_,T,h,_=>⟨S,now,t,n,_,x7,x8,x9,x10,x11,x12,x13,x14,by rfl,T.cu,by lia⟩
 |q+1,i,t,S,now,pv,n,up,x7,x8,x9,x10,x11,x12,x13,x14,U,T,X,Y=>by obtain⟨m,b,t',un,o,p,c,d,f,g,j,e,E,⟨G,H,I⟩,A,l⟩:=turn (C:=C) (x9:=x9) y (by lia:t.length<=900) T (by lia) (by lia);obtain⟨J,k,L,M,V,N,O,Q,r,s,u,v,w,B,R,l2⟩:=me y q (i+1) (t:=t') (S:=m) (x8:=o) (x9:=p) (x10:=c) (by lia) E (by lia) (by lia);rw[G,H,I]at B;refine⟨J,k,L,M,V,N,O,Q,r,s,u,v,w,?_,R,l2⟩;rw[qJ,bR];simp only[al,q1r,q01];rw[e];exact B
theorem HW:∀(b:List jn)  a  y,a.length+b.length<900000->bU (al 0) cN (oz C) (b.map gk) a [y]=some (a++b.map fun r=>PyData.str (eK r.wd))
 |[],a,y,_=>by simp[bU]
 |r::b,a,y,c=>by
  have sz:1000000<sizeLine:=by decide
  simp only[q0o]at c;have e:=HW (C:=C) b (a++[.str (eK r.wd)]) (some (.dat (gk r))) (by simp;lia);have f:oz C [some (.dat (gk r))]=.ok (.str (eK r.wd)) [some (.dat (gk r))]:=by have g:aI (gk r) (.int 2)=some (.str (eK r.wd)):=rfl;generalize gk r=d at *;simp[-aI,oz,g]
  rw[q0l,bU];simp only[al,q01,cN,f];rw[if_pos (by lia),e,q0k,q1c];rfl
theorem HX:∀(a:List jn),mC (a.map fun r=>PyData.str (eK r.wd))=some (a.map fun r=>V.str (eK r.wd))
 |[]=>rfl
 |r::a=>by rw[q0l,mC,HX a];rfl
theorem VU{a:List jn}(h:∀r∈a,r.wd≠.unsure):lq (a.map fun r=>PyData.str (eK r.wd)) (.str "unsure")=some (.int 0):=by
 unfold lq;rw[HX];show some (PyData.int _)=_;have:(a.map fun r=>V.str (eK r.wd)).countP (fun z=>kR z (.str "unsure"))=0:=by
  rw[List.countP_eq_zero];intro z b;obtain⟨r,c,rfl⟩:=q04.mp b;have:=h r c;cases e:r.wd with
  |begun=>decide +kernel
  |done=>decide +kernel
  |left=>decide +kernel
  |unsure=>exact absurd e this
 rw[this];rfl
theorem VV(S):List.lookup ("log":Str) (ai S)=none:=by kernel_rfl
theorem VW(S):List.lookup ("held":Str) (ai S)=none:=by kernel_rfl
theorem yz{V:List PyData}(c:mP C [.own true (hB C S)]=.rt (.dat (.list R)) [hB C S])(d:mO C [.own true (hB C S)]=.rt (.dat b) [hB C S])(g:bU (al 0) cN (oz C) R [] [none]=some a)(e:a.length<=sizeLine)(f:lq a (.str "unsure")=some (.int 0))(o:aI b (.int 2)=some (.int 1)):xE C (u6 C ns t Z D S now V x7 x8 x9 x10 x11 x12 x13 x14)=.rt (.dat (.bool true)) (u6 C ns t Z D S now V x7 x8 x9 x10 x11 x12 x13 x14):=by
 have h:=VV S;have j:df C 4 "log" (mP C) (u6 C ns t Z D S now V x7 x8 x9 x10 x11 x12 x13 x14)=.ok (.dat (.list R)) (u6 C ns t Z D S now V x7 x8 x9 x10 x11 x12 x13 x14):=by simp[df,cb,h,jG,c,cM]
 have l:df C 4 "held" (mO C) (u6 C ns t Z D S now V x7 x8 x9 x10 x11 x12 x13 x14)=.ok (.dat b) (u6 C ns t Z D S now V x7 x8 x9 x10 x11 x12 x13 x14):=by simp[df,cb,(VW S),jG,d,cM]
 have m:aB false (.int 0) (.int 0)=some (.bool true):=by kernel_rfl
 have n:aB false (.int 1) (.int 1)=some (.bool true):=by kernel_rfl
 unfold xE;generalize df C 4 "log" (mP C)=p at *;generalize df C 4 "held" (mO C)=q at *;generalize oz C=r at *;simp[-aI,-lq,xb,xa,wZ,j,l,g,e,f,o,m,n]
theorem yA{V}{e6}(r:ej [.scr f,.own true (.l t),.dat (.int 5)]=.rt (.dat (.int k)) [.l t'])(s:g [.int k]=some V)(u:bR (al 7) B V [some (.scr f),some (.own false (.l t')),h,i,j,m,e6,n,p,q,a,b,c,d,e]=o) :
  (fw (ff g (aq (aP (aO ej (bv 0 (bv 1 (ak (xC (.int 5)) aK))))) aH)) (al 7) B) [some (.scr f),some (.own false (.l t)),h,i,j,m,e6,n,p,q,a,b,c,d,e]=o:=by
 rw[<-u];simp[r,s]
theorem yB{V}(d:U[3]? = some (some (.dat D)))(b:a [D]=some (.int N))(r:gQ (.list [.int 0]) (.int N)=some (.list V)):fW 6 (qa (dI (aq (xC (.int 0)) aH)) (cA a (aq (xV 3) aH))) U=rR 6 (.own false (.l V)) U:=by
 have sz:1000<sizeLine:=by decide
 clear sz;have h1:dI (aq (xC (.int 0)) aH) U=.ok (.list [.int 0]) U:=by simp[(by lia)]
 have h2:cA a (aq (xV 3) aH) U=.ok (.int N) U:=by simp[d,b]
 have c:qa (dI (aq (xC (.int 0)) aH)) (cA a (aq (xV 3) aH)) U=.ok (.own false (.l V)) U:=by unfold qa;rw[h1];show sS _ _ _=_;unfold sS;rw[h2];show sR ..=_;unfold sR;rw[r];rfl
 unfold fW;rw[c];rfl
theorem qW{n:Nat}(h:n<=6):gQ (.list [.int 0]) (.int n)=some (.list ((List.replicate n (0:Nat)).map aE)):=by rw[qV h,List.map_replicate];rfl
theorem VX(i:g.length<=63):Em C [.scr g]=.rt (.dat (.bool true)) []:=by
 have sz:1000000<sizeLine:=by decide
 obtain⟨a,ss,G,H,I,J,L,M,l1⟩:=Tw (ns:=g) (t:=[]) i (by simp);have l:du a ss:=⟨I,J,L,fun p N=>by have:=M p N;lia⟩
 simp only[q00]at l1;obtain⟨b,u,hd,dl,l2,h2⟩:=UI (ns:=g) (t:=G) i (by lia);rw[<-kO]at h2;obtain⟨k,k0,k1,v⟩:=gi (ns:=g) (t:=u) (many:=5) i (by lia) (by lia);have m:=Ui (C:=C) (Tl l) (UG (ds:=b) dl fun d f=>⟨(hd d f).1.1,(hd d f).2⟩) dl;have w:=UJ l dl fun d f=>⟨(hd d f).1.1,(hd d f).2⟩
 have o:=GG (w.call (C:=C) (r:=2) (m':=0) ⟨by lia,by lia⟩ (by lia) ⟨by lia,by lia⟩) (t:=99) (by simp[di]);have q:oG (eO a ss b) 2 0 99=({ eO a ss b with last:=some 0,holds:=1,holder:=some 2,til:=99 },true):=rfl;rw[q]at o;simp only at o;have O:T6 { eO a ss b with last:=some 0,holds:=1,holder:=some 2,til:=99 } 0 (0 - 1) 0 (fun _=>0):=⟨⟨w.hold (k:=1) (by lia) (fun h e=>by cases e;exact⟨by lia,by lia⟩) (by show(99:Int)<=0+99;lia),rfl,by show(0:Int)<99;lia,rfl,rfl,fun r Q=>(by cases Q),fun k c x f hs=>.inl (q2w (q0K (hs)))⟩,fun d f=>(hd d f).1.2,fun d f=>Dg l (hd d f).1.1,fun k c d _ _=>q0Y _,by lia,by lia,by lia,by lia,rfl⟩
 obtain⟨y,z,t',n',V,y7,y8,y9,R,S,T,U,X,A,cu,nl⟩:=me (C:=C) i k.toNat 0 (t:=u++[.int 0]) (x7:=none) (x8:=none) (x9:=none) (x10:=none) (x11:=none) (x12:=none) (x13:=none) (x14:=none) (by simp;lia) O (by lia) (by lia);have B:=GP (j:=k) (by lia) (by lia);have Y:dq [cQ b]=some (.int b.length):=by rw[kO];simp[dq]
 have rl:=cu.run.rl;have E:=HW (C:=C) y.rows [] none (by simp;lia);rw[q0w]at E;have s:=yA v B A;have rp:=qW dl;clear A B v;have es:({ eO a ss b with last:=some 0,holds:=1,holder:=some 2,til:=99 }:Hl).settled.map aE=(List.replicate b.length (0:Nat)).map aE:=rfl;rw[es]at s;have ez:bN ({ eO a ss b with last:=some 0,holds:=1,holder:=some 2,til:=99 }:Hl).a ({ eO a ss b with last:=some 0,holds:=1,holder:=some 2,til:=99 }:Hl).ss=bN a ss:=rfl;have ed:cQ ({ eO a ss b with last:=some 0,holds:=1,holder:=some 2,til:=99 }:Hl).ds=cQ b:=rfl;rw[ez,ed]at s;generalize (List.replicate b.length (0:Nat)).map aE=V0 at *;generalize ({ eO a ss b with last:=some 0,holds:=1,holder:=some 2,til:=99 }:Hl)=S0 at *;generalize eO a ss b=Sn at *;generalize bN a ss=Z at *;generalize cQ b=D at *;refine TR (n:=14) ?_;unfold El;simp only[List.replicate];refine lK (by simp[Ed]<;>rfl) ?_;refine lK (by simp[Ee,H]<;>rfl) ?_;refine lK (by simp[Ef,h2]<;>rfl) ?_;refine lK (by simp[Eg,wA,pE,m]<;>rfl) ?_;refine lK (by simp[Eh,cB,fg,cb,o]<;>rfl) ?_;refine lK (by simp[Ei]<;>rfl) ?_;refine lK (by unfold Ej;exact yB rfl Y rp) ?_;refine lK (by unfold Ek;exact s) ?_;exact⟨_,_,yz Ug Uf E (by rw[q0h];lia) (VU cu.uw) (by show some (PyData.int y.holds)=_;rw[cu.hs])⟩
end K3
namespace K3
open PySem PySem.Spec L2 L2.L3 PyProof.Rows
theorem VY{K}(i:GH mg H)(j:∀c,c.length<=63->f [.scr c]=.rt (.dat (.bool true)) [])(h:∃a c,e=[.ref a]/\jx K H a c/\∀d,Q (.bl true) d):fq K mg f e H Q E:=by obtain⟨a,c,rfl,hs,q⟩:=h;refine⟨i,[.scr c],[[]],[],.oth (fun _ z=>by cases z) (fun _ _ z=>by cases z) ⟨a,rfl,hs⟩ .nil,q0M,fun b l=>by simp at l,?_⟩;rw[j c hs.1];intro v d m g k _ _;rw[DV.bl_inv k];exact q d
def yC(K:Frag):Sp:=fun b H Q _=>∃a d,b=[.ref a]/\jx K H a d/\∀c,Q (.bl true) c
abbrev LK(K:Frag)(f:Addr)(a:Value)(b:Option Addr)(n q:Str)(s:Stmt)(k d p:Value)(e:Option Addr)(c t:Value)(l:Array (Option Value)):Prop:=K.lookup f=some ⟨a,b,.func (fnOf n q (ka s) (iD s) (ek s) .none k d p e c t),l⟩
abbrev NI(K:Frag)(n:Str)(f:Addr):Prop:=nsIn K mainGlobals n=some (some (.ref f))
abbrev NV(K:Frag)(n:Str)(i:Int)(t:Tok):Prop:=nsIn K mainGlobals n=some (some (.int i t))
abbrev NZ(K:Frag)(n:Str):Prop:=nsIn K mainGlobals n=some none
abbrev KI(K:Frag)(f:Addr):Prop:=keepIn K (.ref f)=true
theorem all_mk{l:PySem.W.OpenLaw}{K}(X:K.In h)(G:h.Ns mainGlobals mg)(a7:mg "law" = some (.ref fa))
  (n:NI K "Hall" a)
  (l0:DF K "is_whole" En)
  (l1:DF K "is_tuple_of" Eo)
  (l2:DF K "is_ahead" Ep)
  (l3:DF K "is_moment" Er)
  (l4:DF K "is_runner" Es)
  (l5:DF K "is_term" Et)
  (l6:DF K "are_shifts" Eu)
  (l7:DF K "is_zone" Ev)
  (l8:DF K "has_word" Ew)
  (l9:DF K "is_plan" Ex)
  (b8:DF K "is_late" Ey)
  (b9:DF K "is_deed" Ez)
  (c0:DF K "are_deeds" EA)
  (c1:DF K "check_zone" EB)
  (c2:DF K "check_moment" EC)
  (c3:DF K "check_deeds" ED)
  (c4:DF K "check_runner" EE)
  (c5:DF K "check_term" EF)
  (c6:DF K "shown" EG)
  (c7:DF K "stretches" EH)
  (c8:DF K "is_ahead_of" EI)
  (c9:DF K "first_showing" EJ)
  (d0:DF K "furthest_shown" EK)
  (d1:DF K "first_day" EL)
  (d2:DF K "daily_time" EM)
  (d3:DF K "time_of" EN)
  (d4:DF K "times_by" EO)
  (d5:DF K "is_left_out" EQ)
  (d6:MF K a "__init__" "Hall.__init__" ER)
  (d7:MF K a "is_held" "Hall.is_held" ES)
  (d8:MF K a "check_call" "Hall.check_call" ET)
  (d9:MF K a "check_holder" "Hall.check_holder" EU)
  (e0:MF K a "take" "Hall.take" EV)
  (e1:MF K a "add_row" "Hall.add_row" EW)
  (e2:MF K a "is_busy" "Hall.is_busy" EY)
  (e3:MF K a "first_unsettled" "Hall.first_unsettled" EZ)
  (e4:MF K a "step" "Hall.step" Fa)
  (e5:MF K a "step_behind_a_fall" "Hall.step_behind_a_fall" Fb)
  (e6:MF K a "step_ahead" "Hall.step_ahead" Fc)
  (e7:MF K a "finish" "Hall.finish" Fd)
  (e8:MF K a "held" "Hall.held" Fe)
  (e9:MF K a "log" "Hall.log" Ff)
  (f0:MF K a "waiting" "Hall.waiting" Fg)
  (f1:DF K "catch_up" Fh)
  (f2:DF K "_law_cell_at" Fi)
  (f3:DF K "_law_mixed" Fj)
  (f4:DF K "_law_draw" Fk)
  (f5:DF K "_law_pick" Fm)
  (f6:DF K "_law_zone" Fo)
  (f7:DF K "_law_clock" Fp)
  (f8:DF K "_law_plan" Fq)
  (f9:DF K "_law_dues" Fs)
  (g0:DF K "_law_deeds" Ft)
  (g1:DF K "_law_words" Fu)
  (M:NI K "law" d)
  (g2:LK K d B z "law" "law" lJ t u x r f y A)
  (g3:codeIn K f "law" = true)
  (g4:KI K d)
  (g5:NV K "LAST_MOMENT" (9999) a8)
  (N:NV K "LAST_HOUR" (23) a9)
  (g6:NV K "LEAST_AHEAD" (-12) b0)
  (g7:NV K "MOST_AHEAD" (14) b1)
  (g8:NV K "MOST_SHIFTS" (6) b2)
  (O:NV K "MOST_STEP" (999) b3)
  (g9:NV K "MOST_DEEDS" (6) b4)
  (h0:NV K "MOST_WITHIN" (999) b5)
  (h1:NV K "LAST_RUNNER" (3) b6)
  (h2:NV K "MOST_TERM" (99) C)
  (h3:NV K "DAY_HOURS" (24) D)
  (R:NV K "PLAN" (0) I)
  (S:NV K "LATE" (1) J)
  (U:NV K "AGAIN" (2) L)
  (h4:NV K "MOST_STEPS" (999) b7)
  (h5:NZ K "ANY_ZONE")
  (h6:NZ K "NO_DEEDS")
  (Y:NZ K "all")
  (h7:NZ K "bool")
  (h8:NZ K "enumerate")
  (Z:NZ K "int")
  (h9:NZ K "isinstance")
  (a0:NZ K "len")
  (i0:NZ K "list")
  (i1:NZ K "max")
  (a1:NZ K "min")
  (i2:NZ K "range")
  (i3:NZ K "sorted")
  (a2:NZ K "str")
  (i4:NZ K "tuple")
  (a3:NZ K "zip")
  (i5:plainGet K a Str.empty=true)
  (i6:PySem.W.hasDictIn K a=true)
  (i7:PySem.W.plainOver K a=true)
  (i8:findIn K (.ref a) "__setattr__" = some (some (.builtin "object.__setattr__")))
  (a4:PySem.W.makesIn K a=true)
  (a5:KI K a)
  (g:findIn K (.ref a) "begun" = some none)
  (i:findIn K (.ref a) "deeds" = some none)
  (c:findIn K (.ref a) "holder" = some none)
  (j:findIn K (.ref a) "holds" = some none)
  (o:findIn K (.ref a) "last" = some none)
  (p:findIn K (.ref a) "rows" = some none)
  (b:findIn K (.ref a) "settled" = some none)
  (k:findIn K (.ref a) "until" = some none)
  (m:findIn K (.ref a) "words" = some none)
  (q:findIn K (.ref a) "zone" = some none) :
  ∃fd,(∀s  v,BindsTo s fd ⟨[v],[]⟩ [("_law_script",v)])/\∀base,K.In base->base.Ns mainGlobals mg->bX l.prog w K mg base (dR l.prog w) 9 fa fd ["_law_script"] (yC K):=by
 have e:=a7.symm.trans (mg_of X G M);cases e;have a6:=oP (st:=lJ) g2 g3 g4;have i9:FD K mg "law" lJ ["_law_script"] _ _:=⟨a6,mg_of X G M,a6.binds fun _ _ _ _ _ _=>sQ fun _=>rfl⟩
 have HC:eV K mg a:=⟨⟨i5,i6,i7,i8⟩,mg_of X G n,a4,a5,g,i,c,j,o,p,b,k,m,q,d6.md,d7.md,d8.md,d9.md,e0.md,e1.md,e2.md,e3.md,e4.md,e5.md,e6.md,e7.md,e8.md,e9.md,f0.md⟩
 have T:Tx K mg:=⟨l0.fd X G,l1.fd X G,l2.fd X G,l3.fd X G,l4.fd X G,l5.fd X G,l6.fd X G,l7.fd X G,l8.fd X G,l9.fd X G,b8.fd X G,b9.fd X G,c0.fd X G,c1.fd X G,c2.fd X G,c3.fd X G,c4.fd X G,c5.fd X G,c6.fd X G,c7.fd X G,c8.fd X G,c9.fd X G,d0.fd X G,d1.fd X G,d2.fd X G,d3.fd X G,d4.fd X G,d5.fd X G,f1.fd X G,f2.fd X G,f3.fd X G,f4.fd X G,f5.fd X G,f6.fd X G,f7.fd X G,f8.fd X G,f9.fd X G,g0.fd X G,g1.fd X G,⟨_,mg_of X G g5⟩,⟨_,mg_of X G N⟩,⟨_,mg_of X G g6⟩,⟨_,mg_of X G g7⟩,⟨_,mg_of X G g8⟩,⟨_,mg_of X G O⟩,⟨_,mg_of X G g9⟩,⟨_,mg_of X G h0⟩,⟨_,mg_of X G h1⟩,⟨_,mg_of X G h2⟩,⟨_,mg_of X G h3⟩,⟨_,mg_of X G R⟩,⟨_,mg_of X G S⟩,⟨_,mg_of X G U⟩,⟨_,mg_of X G h4⟩,mg_none_of X G Y,mg_none_of X G h7,mg_none_of X G h8,mg_none_of X G Z,mg_none_of X G h9,mg_none_of X G a0,mg_none_of X G i0,mg_none_of X G i1,mg_none_of X G a1,mg_none_of X G i2,mg_none_of X G i3,mg_none_of X G a2,mg_none_of X G i4,mg_none_of X G a3⟩
 exact⟨fnOf "law" "law" (ka lJ) (iD lJ) (ek lJ) .none t u x r f y,fun s v=>.of_eq rfl,fun base _ _=>(Ti _ _ _ T HC i9).imp fun vs H Q E h=>VY (RJ (mg_none_of X G h5) (mg_none_of X G h6) H) (fun ns hn=>VX hn) h⟩
theorem law_walk{l:PySem.W.OpenLaw}{K:Params->Frag}(j:l.most=some 63)(c:d.params.defaults=[])
  (m:∀w  h,e w h->(K w.params).In h)
  (F:∀w  mg  g  h,(K w.params).In h->h.Ns mainGlobals mg->mg d.name=some (.ref g)->
   ∃fd,(∀s  u,BindsTo s fd ⟨[u],[]⟩ [("_law_script",u)])/\∀base,(K w.params).In base->base.Ns mainGlobals mg->bX l.prog w (K w.params) mg base (dR l.prog w) 9 g fd ["_law_script"] (yC (K w.params))) :
  PySem.W.WalkO q b i e l.row.toRowW d [] (fun f p=>PySem.call f p):=by
 refine L2.walk_of j (by decide) c ⟨rfl,by decide,by decide⟩ m F (fun w H a A r t v=>?hsp) (fun _ _ _ _ _ y=>by obtain⟨_,_,_,_,_,_,_,_,_,z⟩:=y;exact z);refine⟨a,A,rfl,⟨r,?_⟩,fun _=>rfl⟩;rcases v with(h1 |h1) |h1
 .rcases t a with h2 |⟨o,B,h2⟩
  .rw[h2]at h1;cases h1
  .rw[h2]at h1;cases h1
 .exact .inl h1
 .exact .inr h1
end K3
namespace PySem.W.Fast
def tw2783271613066036277:=Nat
def tw15672104855433491589:=Nat
def tw8228251185622913682:=Nat
def tw6887366637302088774:=Nat
def tw361172687677436914:=Nat
def tw9589881969421641042:=Nat
def tw12886995981592428589:=Nat
def tw11034373475991455992:=Nat
def tw2672012723608579961:=Nat
def tw11616758677339509928:=Nat
def tw4883504841066145618:=Nat
def tw674230603154867145:=Nat
def tw7695286632979681284:=Nat
def tw13011066220081208378:=Nat
def tw10486927046477377235:=Nat
def tw17090084531511553867:=Nat
def tw4496799509023843637:=Nat
def tw17264638164061819148:=Nat
def tw6827152925650249664:=Nat
def tw2730479545587641628:=Nat
def tw6211318654912717278:=Nat
def tw4173517755485906620:=Nat
def tw10928004830841653380:=Nat
def tw13546190860875295583:=Nat
def tw6037741670779857813:=Nat
def tw18427193946199545163:=Nat
def tw3850722186707647308:=Nat
def tw12219232478384182989:=Nat
def tw9529566130320909404:=Nat
def tw9866671579967970612:=Nat
def tw11490919562309229039:=Nat
def tw6368585921283691572:=Nat
def tw13963179100889628360:=Nat
def tw1667453159778781130:=Nat
def tw13815787950204576198:=Nat
def tw395209389152664157:=Nat
def tw7381249431239907309:=Nat
def tw13060457837291198396:=Nat
def tw17915735798789233181:=Nat
def tw3389534201809727841:=Nat
def tw16202267589653533760:=Nat
def tw15425121535785967276:=Nat
def tw11775414861492448830:=Nat
def tw16278620572398478463:=Nat
def tw13192831949075921923:=Nat
def tw16057174676513715676:=Nat
def tw6265295640616038246:=Nat
def tw13663386700447009051:=Nat
def tw6362156496444896273:=Nat
def tw17083139192779335537:=Nat
def tw3585302156344330085:=Nat
def tw12825958664836289708:=Nat
def tw8350305356670889501:=Nat
def tw15584351329580013860:=Nat
def tw14520331223728514196:=Nat
def tw11787187206973110005:=Nat
def tw7349621812276448931:=Nat
def tw6456769138440671092:=Nat
def tw57963082747175175:=Nat
def tw3922373475121847990:=Nat
def tw14620684940755026483:=Nat
def tw17143432227665071870:=Nat
def tw1702451944954865855:=Nat
def tw14942104625561931838:=Nat
def tw11797807179906499367:=Nat
def tw17188206445785529715:=Nat
def tw8705180392235493308:=Nat
def tw923145747664295334:=Nat
def tw7252927760822190756:=Nat
def tw7837168485558507135:=Nat
def tw11642551035771411779:=Nat
def tw9747451872974394316:=Nat
def tw655925815619761607:=Nat
def tw13079381877652177029:=Nat
def tw7777034022276802116:=Nat
def tw1134732154623352104:=Nat
def tw15632636636383290149:=Nat
def tw10516027683405970562:=Nat
def tw5040138750117588559:=Nat
def tw6857037103563331000:=Nat
def tw12671636297469423839:=Nat
def tw10211534528205403825:=Nat
def tw6042699328111872622:=Nat
def tw1466844280980930211:=Nat
def tw4293744483872008137:=Nat
def tw6433077259466688359:=Nat
def tw4840028805419211166:=Nat
def tw2944664456953777806:=Nat
def tw2337168392459715038:=Nat
def tw10841524435073643322:=Nat
def tw14626574682171825910:=Nat
def tw65210579949852650:=Nat
def tw12379134811513560746:=Nat
def tw6236883356820070446:=Nat
def tw2116657035280808381:=Nat
def tw12438994949509368174:=Nat
def tw6121213518860687591:=Nat
def tw14633876783106060672:=Nat
def tw7201428079355742871:=Nat
def tw17855228490671749050:=Nat
def tw9659161754902802614:=Nat
def tw8490380746224021674:=Nat
def tw6366860323717759756:=Nat
def tw12293395534283648083:=Nat
def tw16389707127153465463:=Nat
def tw14344680595949189950:=Nat
def tw9758146999739868475:=Nat
def tw14199231173396066399:=Nat
def tw7031696805151306803:=Nat
def tw15696432646402916342:=Nat
def tw9694158571046658562:=Nat
def tw7249831488194147581:=Nat
def tw10644637860211935192:=Nat
def tw5163592544987088982:=Nat
def tw7839826055799374710:=Nat
def tw18444428054661267768:=Nat
def tw1592293603527939557:=Nat
def tw17100181168646565905:=Nat
def tw13763516209432300472:=Nat
def tw8254289269628669115:=Nat
def tw1720228958602500861:=Nat
def tw16877931047530358112:=Nat
def tw15637060412117190802:=Nat
def tw14685183694491900539:=Nat
def tw11278575833539297192:=Nat
def tw8323520554875831950:=Nat
def tw13101191529232947287:=Nat
def tw4433776393635085519:=Nat
def tw9696464630396665978:=Nat
def tw15671041402540456836:=Nat
def tw7736951070719751351:=Nat
def tw1912792900661076528:=Nat
def tw3767038020949234588:=Nat
def tw4266577090041036097:=Nat
def tw2791977003154169834:=Nat
def tw13471980586464099321:=Nat
def tw44146158162725612:=Nat
def tw16179010612455238790:=Nat
def tw18320125561110410046:=Nat
def tw13365461924512906410:=Nat
def tw10763970576472730647:=Nat
def tw14015503492805256512:=Nat
def tw1169674302275110399:=Nat
def tw4871179288347576859:=Nat
def tw14942663238630738611:=Nat
def tw3073278565441089643:=Nat
def tw1749608743487328687:=Nat
def tw6922814863532443513:=Nat
def tw438531157819528543:=Nat
def tw4516107720188036446:=Nat
def tw18189448455273783454:=Nat
def tw15449277217339571783:=Nat
def tw12515842943560426888:=Nat
def tw13957513212843589042:=Nat
def tw9789831176374033978:=Nat
def tw9374854436054463609:=Nat
def tw5714530410715930414:=Nat
def tw1823959379914959430:=Nat
def tw9084244359506389467:=Nat
def tw14917062247003579654:=Nat
def tw17472661623686035614:=Nat
def tw6680600071459777415:=Nat
def tw18437225693430832546:=Nat
def tw17333240081052681138:=Nat
def tw4099555582013153982:=Nat
def tw12659612776221130895:=Nat
def tw8941357913018392653:=Nat
def tw18116666577299996109:=Nat
def tw7178285983774656961:=Nat
def tw6642409672724516633:=Nat
def tw10573896167773012425:=Nat
def tw8947988785147400513:=Nat
def tw1835402959867436598:=Nat
def tw12597222142252942954:=Nat
def tw5278667865630427432:=Nat
def tw4716322797984097324:=Nat
def tw3260283360556901260:=Nat
def tw607642339695840091:=Nat
def tw5202783675161006641:=Nat
def tw3364128254430394041:=Nat
def tw12825474450308105950:=Nat
def tw10250171417891322367:=Nat
def tw2428574184597110951:=Nat
def tw2462309315559301477:=Nat
def tw11451066814023374257:=Nat
def tw13377405727369736386:=Nat
def tw10399142592170250099:=Nat
def tw14478656908578177851:=Nat
def tw14138728766051752000:=Nat
def tw3078085281330760833:=Nat
def tw7280374105805856531:=Nat
def tw5573433246114424859:=Nat
def tw17788644275522249892:=Nat
def tw11537638636842318250:=Nat
def tw5389297592596253497:=Nat
def tw18041008774065326196:=Nat
def tw843125678285872738:=Nat
def tw824877878312697361:=Nat
def tw6971465447360119952:=Nat
def tw633808928048675936:=Nat
def tw2908579117336218500:=Nat
def tw18350260624475725868:=Nat
def tw18287160344107484240:=Nat
def tw17999538114051446183:=Nat
def tw158575242735911555:=Nat
def tw13537734960410583504:=Nat
def tw12550055136013142222:=Nat
def tw10928945103483666534:=Nat
def tw10020929944451398324:=Nat
def tw8198778819038129021:=Nat
def tw4695410698394509002:=Nat
def tw3464043054807798104:=Nat
def tw9049957804006055213:=Nat
def tw6446749636834638064:=Nat
def tw13716281664983219535:=Nat
def tw11074446444799764193:=Nat
def tw5201243974254822809:=Nat
def tw12998072855819589215:=Nat
def tw6503855890050049250:=Nat
def tw555057575796090519:=Nat
def tw3812085753560304422:=Nat
def tw3535784607325059875:=Nat
def tw3018001251263186462:=Nat
def tw15322197573529465757:=Nat
def tw10280109541930104534:=Nat
def tw3038332628721631193:=Nat
def tw3486965234530761709:=Nat
def tw15671010557347137082:=Nat
def tw11027181594050744575:=Nat
def tw1463236752950113990:=Nat
def tw111761448531594415:=Nat
def tw2085143295934601977:=Nat
def tw17017539208062392537:=Nat
def tw12398386529032300695:=Nat
def tw9643603236025484343:=Nat
def tw9629524911976757737:=Nat
def tw8920507180586865891:=Nat
def tw8180441916835033961:=Nat
def tw7597029337387174047:=Nat
def tw6625145169848575806:=Nat
def tw6561337645325849872:=Nat
def tw469347408718418512:=Nat
def tw4302677995728005077:=Nat
def tw241576013300233829:=Nat
def tw18418998633579775375:=Nat
def tw16267122383450579646:=Nat
def tw15630963000832553295:=Nat
def tw14188458587519539267:=Nat
def tw12929922689198944546:=Nat
def tw11155554190312387742:=Nat
def tw3465118929896469843:=Nat
def tw1455919968612228307:=Nat
def tw8248260197646227988:=Nat
def tw7644876222598171678:=Nat
def tw5714337000785399241:=Nat
def tw15996477552193923483:=Nat
def tw1533201105195826928:=Nat
def tw14750347427437459703:=Nat
def tw14099124035220745283:=Nat
def tw12457050115923434563:=Nat
def tw10858668882534939850:=Nat
def tw8882727515222361191:=Nat
def tw8734039379576562455:=Nat
def tw6733192393813385793:=Nat
def tw4598408586555339243:=Nat
def tw16792983521023996527:=Nat
def tw8272002186036576056:=Nat
def tw9905614493261858573:=Nat
def tw582038625157396667:=Nat
def tw10240600490320314281:=Nat
def tw1026972549268727358:=Nat
def tw10476234896675266432:=Nat
def tw10529809208756500011:=Nat
def tw10601349591844724310:=Nat
def tw10792143382766670557:=Nat
def tw11324613418983356387:=Nat
def tw11529482697084105086:=Nat
def tw11809089966712385175:=Nat
def tw12101035891087004371:=Nat
def tw12103842039188963770:=Nat
def tw12284907673803154390:=Nat
def tw12414615764265432975:=Nat
def tw12475368334992136841:=Nat
def tw12535180080257937619:=Nat
def tw12722636555699551212:=Nat
def tw12750546193452437241:=Nat
def tw12913202521431629292:=Nat
def tw12948180070819424762:=Nat
def tw13011744496016358710:=Nat
def tw13672101098292646996:=Nat
def tw13685647743522344258:=Nat
def tw13754742808766026698:=Nat
def tw1399559814255417568:=Nat
def tw14109859269584695074:=Nat
def tw14278559910834119430:=Nat
def tw14370890866148632825:=Nat
def tw14371712142525058952:=Nat
def tw14510094918728311190:=Nat
def tw14683041555165603519:=Nat
def tw14831076658620786614:=Nat
def tw15255236219969012874:=Nat
def tw15422169703696242808:=Nat
def tw15425694834600774704:=Nat
def tw15575967151795864138:=Nat
def tw15823257673236248253:=Nat
def tw15966044867992707555:=Nat
def tw1605152374228947833:=Nat
def tw16188617777852851570:=Nat
def tw16408345061679867244:=Nat
def tw17480974298056267880:=Nat
def tw17607267457919377264:=Nat
def tw18239385539480510195:=Nat
def tw1825923150321728558:=Nat
def tw22077807312873373:=Nat
def tw2220264778325668636:=Nat
def tw224182809876741515:=Nat
def tw2399537317878893674:=Nat
def tw2477896078124730447:=Nat
def tw266823733938628198:=Nat
def tw2871099450550936532:=Nat
def tw2960937756538764842:=Nat
def tw2997082053424758983:=Nat
def tw3409187790718714696:=Nat
def tw34375751955593978:=Nat
def tw3455726692384919251:=Nat
def tw3549192096590304706:=Nat
def tw3616775425567698984:=Nat
def tw3989811144231658765:=Nat
def tw4169733309964778933:=Nat
def tw4238918303173979073:=Nat
def tw4399200087322540702:=Nat
def tw4674919156726185024:=Nat
def tw5015028775439632917:=Nat
def tw5221653124429069927:=Nat
def tw5342865807687443897:=Nat
def tw5376034252793881623:=Nat
def tw5499318878820159929:=Nat
def tw553876477130338843:=Nat
def tw5557308543264115499:=Nat
def tw5640752483834097368:=Nat
def tw5647308655000704815:=Nat
def tw5689399753597934509:=Nat
def tw5778124748350298109:=Nat
def tw5835854806352675911:=Nat
def tw6025716048227789219:=Nat
def tw617465154215131038:=Nat
def tw6305684816185140867:=Nat
def tw6347062840164250593:=Nat
def tw6547149544564421559:=Nat
def tw6687913319519276846:=Nat
def tw6723129969772734994:=Nat
def tw6815850128145061977:=Nat
def tw6933371314315629607:=Nat
def tw7099876832564014050:=Nat
def tw7262345452807911822:=Nat
def tw7277808448996399017:=Nat
def tw730069539159475157:=Nat
def tw7581455758737263303:=Nat
def tw7586174401995460666:=Nat
def tw7746424588486651050:=Nat
def tw7884714849636290693:=Nat
def tw8109507656811971227:=Nat
def tw8212727896013215814:=Nat
def tw8552049942552865486:=Nat
def tw8570822294503751118:=Nat
def tw8791718722949493245:=Nat
def tw8807711953172385344:=Nat
def tw9169125532358886431:=Nat
def tw9303929446217741355:=Nat
def tw9517760366106179090:=Nat
def tw9579252063916135792:=Nat
def tw9619042288546920826:=Nat
def tw9911229613781660158:=Nat
end PySem.W.Fast
open PySem PySem.W PyProof.Rows
set_option maxRecDepth 100000 in
set_option maxHeartbeats 0 in
theorem PySem.Challenge.cw_duehall_k06_whole_one_runner_holds : PySem.Challenge.rw_duehall_k06_whole_one_runner.Holds := by
  w_on;o_law;k_head;(case hw => w_witness2)
  k_fill
  refine K3.law_walk (l := PySem.Challenge.rw_duehall_k06_whole_one_runner) rfl rfl (fun w h Y => PySem.W.kIn_of Y) ?F
  case F =>
    intro w mg fa h KX G hmg
    refine' K3.all_mk KX G hmg ?a_Hall ?l0 ?l1 ?l2 ?l3 ?l4 ?l5 ?l6 ?l7 ?l8 ?l9 ?l10 ?l11 ?l12 ?l13 ?l14 ?l15 ?l16 ?l17 ?l18 ?l19 ?l20 ?l21 ?l22 ?l23 ?l24 ?l25 ?l26 ?l27 ?l28 ?l29 ?l30 ?l31 ?l32 ?l33 ?l34 ?l35 ?l36 ?l37 ?l38 ?l39 ?l40 ?l41 ?l42 ?l43 ?l44 ?l45 ?l46 ?l47 ?l48 ?l49 ?l50 ?l51 ?l52 ?l53 ?a54 ?l54 ?c54 ?k54 ?v1_ ?v10_ ?v3_ ?v5_ ?v4_ ?v11_ ?v6_ ?v2_ ?v0_ ?v8_ ?v9_ ?v14_ ?v13_ ?v12_ ?v7_ ?z2_ ?z3_ ?z13_ ?z8_ ?z1_ ?z15_ ?z0_ ?z11_ ?z7_ ?z9_ ?z12_ ?z5_ ?z4_ ?z10_ ?z6_ ?z14_ ?pg_ ?hd_ ?po_ ?sa_ ?mks_ ?kpC_ ?n_begun ?n_deeds ?n_holder ?n_holds ?n_last ?n_rows ?n_settled ?n_until ?n_words ?n_zone
    (case a_Hall => (first |unfold K3.LK |unfold K3.NI |unfold K3.NV |unfold K3.NZ |unfold K3.KI |skip);k_is)
    (case l0|l1|l2|l3|l4|l5|l6|l7|l8|l9|l10|l11|l12|l13|l14|l15|l16|l17|l18|l19|l20|l21|l22|l23|l24|l25|l26|l27|l43|l44|l45|l46|l47|l48|l49|l50|l51|l52|l53 => exact⟨_,_,_,_,_,_,_,_,_,_,by k_is,by k_is,by k_is,by k_is⟩)
    (case l28|l29|l30|l31|l32|l33|l34|l35|l36|l37|l38|l39|l40|l41|l42 => exact⟨_,_,_,_,_,_,_,_,_,_,by k_is,by k_is,by k_is,by k_is,by k_is⟩)
    (case a54|l54|c54|k54|v1_|v10_|v3_|v5_|v4_|v11_|v6_|v2_|v0_|v8_|v9_|v14_|v13_|v12_|v7_|z2_|z3_|z13_|z8_|z1_|z15_|z0_|z11_|z7_|z9_|z12_|z5_|z4_|z10_|z6_|z14_|pg_|hd_|po_|sa_|mks_|kpC_|n_begun|n_deeds|n_holder|n_holds|n_last|n_rows|n_settled|n_until|n_words|n_zone => (first |unfold K3.LK |unfold K3.NI |unfold K3.NV |unfold K3.NZ |unfold K3.KI |skip);k_is)

