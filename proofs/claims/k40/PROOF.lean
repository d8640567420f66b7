import PyProof.Rows.All
import Wide.All
import OpenK.AllK
import Wide.FinOn
import Lean
import PyProof.EqAt
import PyProof.EqKinds
import PyProof.TupleCall
import PySem.Challenge.RW_duehall_k40_whole_again_and_kept
abbrev q0a:=@List.getElem?_eq_some_iff
abbrev q0b:=@List.mem_append
abbrev q0c:=@List.map_cons
abbrev q0d:=@List.mem_cons
abbrev q0e:=@List.flatten_cons
abbrev q0f:=@List.nodup_append
abbrev q0g:=@List.mem_cons_self
abbrev q0h:=@List.length_map
abbrev q0i:=@Option.map_eq_some_iff
abbrev q0j:=@List.getElem?_eq_getElem
abbrev q0k:=@List.mem_singleton
abbrev q0l:=@List.length_cons
abbrev q0m:=@List.lookup_cons
abbrev q0n:=@Option.some.inj
abbrev q0o:=@Nat.lt_of_lt_of_le
abbrev q0p:=@List.size_toArray
abbrev q0q:=@List.getElem?_set_self
abbrev q0r:=@List.getElem?_set_ne
abbrev q0s:=@List.getElem?_map
abbrev q0t:=@List.append_assoc
abbrev q0u:=@List.length_append
abbrev q0v:=@Nat.ne_of_lt
abbrev q0w:=@List.length_set
abbrev q0x:=@List.set_cons_zero
abbrev q0y:=@Array.getD_eq_getD_getElem?
abbrev q0z:=@Nat.lt_irrefl
abbrev q0A:=@List.getElem?_append_right
abbrev q0B:=@List.append_nil
abbrev q0C:=@Bool.false_ne_true
abbrev q0D:=@List.drop_eq_getElem_cons
abbrev q0E:=@Array.length_toList
abbrev q0F:=@List.length_nil
abbrev q0G:=@List.mem_of_getElem?
abbrev q0H:=@List.getElem?_append_left
abbrev q0I:=@List.nil_append
abbrev q0J:=@List.getElem?_of_mem
abbrev q0K:=@List.set_cons_succ
abbrev q0L:=@Bool.false_eq_true
abbrev q0M:=@PySem.mem_of_lookup
abbrev q0N:=@Option.some.injEq
abbrev q0O:=@Nat.add_sub_cancel_left
abbrev q0P:=@List.cons_merge_cons
abbrev q0Q:=@List.nodup_cons
abbrev q0R:=@List.mem_map
abbrev q0S:=@Bool.and_eq_true
abbrev q0T:=@Nat.zero_le
abbrev q0U:=@List.ext_getElem?
abbrev q0V:=@Option.isSome_iff_exists
abbrev q0W:=@Nat.le_trans
abbrev q0X:=@Option.bind_eq_some_iff
abbrev q0Y:=@List.getD_eq_getElem?_getD
abbrev q0Z:=@List.take_of_length_le
abbrev q00:=@List.filterMap_cons
abbrev q01:=@List.all_eq_true
abbrev q02:=@Array.toList_append
abbrev q03:=@List.length_replicate
abbrev q04:=@List.length_singleton
abbrev q05:=@List.take_append_drop
abbrev q06:=@Array.getElem?_eq_some_iff
abbrev q07:=@List.cons_append
abbrev q08:=@List.map_nil
abbrev q09:=@List.map_append
abbrev q1a:=@Nat.lt_or_eq_of_le
abbrev q1b:=@PySem.boot_len
abbrev q1c:=@List.pairwise_map
abbrev q1d:=@List.getElem?_replicate
abbrev q1e:=@List.replicate_succ
abbrev q1f:=@List.pairwise_mergeSort
abbrev q1g:=@List.map_congr_left
abbrev q1h:=@Nat.lt_succ_self
abbrev q1i:=@Nat.le_of_not_lt
abbrev q1j:=@List.not_mem_nil
abbrev q1k:=@Array.perm_iff_toList_perm
abbrev q1l:=@List.drop_drop
abbrev q1m:=@List.drop_eq_nil_of_le
abbrev q1n:=@List.find?_cons
abbrev q1o:=@List.sublist_flatten_of_mem
abbrev q1p:=@Nat.le_of_succ_le
abbrev q1q:=@Nat.add_sub_assoc
abbrev q1r:=@List.getElem_mem
abbrev q1s:=@List.drop_length
abbrev q1t:=@Nat.le_succ
abbrev q1u:=@List.mergeSort_perm
abbrev q1v:=@Nat.le_of_lt
abbrev q1w:=@PySem.F.args_tuple_add_2
abbrev q1x:=@List.Perm.eq_of_pairwise
abbrev q1y:=@List.Pairwise.imp_of_mem
abbrev q1z:=@List.map_map
abbrev q1A:=@List.mem_filter
abbrev q1B:=@List.zip_cons_cons
abbrev q1C:=@PySem.F.entry_tuple_add
abbrev q1D:=@PySem.W.callWith_K
abbrev q1E:=@List.map_const'
abbrev q1F:=@PySem.F.plainAttrs_list
abbrev q1G:=@List.getElem?_take
abbrev q1H:=@List.getElem?_drop
abbrev q1I:=@Nat.add_sub_cancel
abbrev q1J:=@List.length_pos_iff
abbrev q1K:=@List.map_singleton
abbrev q1L:=@PySem.F.slot_tuple_add
abbrev q1M:=@List.Sublist.refl
abbrev q1N:=@Int.toNat_natCast
abbrev q1O:=@List.nodup_nil
abbrev q1P:=@List.drop_left
abbrev q1Q:=@PySem.F.slot_dict_get
abbrev q1R:=@Nat.succ.inj
abbrev q1S:=@Nat.zero_add
abbrev q1T:=@List.singleton_append
abbrev q1U:=@List.drop_append_of_le_length
abbrev q1V:=@List.take_append_of_le_length
abbrev q1W:=@PySem.W.hideAll_none
abbrev q1X:=@Array.toList_reverse
abbrev q1Y:=@Bool.not_true
abbrev q1Z:=@List.getElem?_eq_none_iff
abbrev q10:=@PySem.W.hideAll_get
abbrev q12:=@PySem.W.plainGet_of
abbrev q14:=@Option.map_some
abbrev q15:=@List.mem_flatten
abbrev q16:=@List.Sublist.append
abbrev q17:=@List.flatten_append
abbrev q18:=@Bool.or_eq_true
abbrev q19:=@Int.fmod_eq_emod_of_nonneg
abbrev q2a:=@PySem.F.excBase_ValueError
abbrev q2b:=@Array.toList_setIfInBounds
abbrev q2c:=@List.mem_range
abbrev q2d:=@Nat.lt_of_le_of_lt
abbrev q2e:=@Option.isSome_some
abbrev q2f:=@List.sublist_append_right
abbrev q2g:=@Array.getElem?_eq_getElem
abbrev q2h:=@List.pairwise_iff_getElem
abbrev q2i:=@Nat.lt_succ_of_lt
abbrev q2j:=@List.length_range
abbrev q2k:=@PySem.F.slot_list_append
abbrev q2l:=@PySem.F.type_list_append
abbrev q2m:=@Bool.not_eq_true'
abbrev q2n:=@Nat.le_of_lt_succ
abbrev q2o:=@PySem.F.args_dict_get_3
abbrev q2p:=@List.getElem?_cons_zero
abbrev q2q:=@List.flatten_nil
abbrev q2r:=@List.merge_right
abbrev q2s:=@Array.toList_map
abbrev q2t:=@List.filter_cons
abbrev q2u:=@PySem.W.cellsFrom_some
abbrev q2v:=@PySem.F.entry_dict_get
abbrev q2w:=@List.Perm.append_right
abbrev q2x:=@List.mem_filterMap
abbrev q2y:=@List.of_mem_zip
abbrev q2z:=@Bool.eq_iff_iff
abbrev q2A:=@PySem.W.methodCall_KW
abbrev q2B:=@List.getElem?_toArray
abbrev q2C:=@Nat.min_eq_left
abbrev q2D:=@List.foldl_cons
abbrev q2E:=@List.cons.injEq
abbrev q2F:=@List.getElem?_eq_none
abbrev q2G:=@List.take_zero
abbrev q2H:=@Bool.not_false
abbrev q2I:=@List.any_cons
abbrev q2J:=@List.all_cons
abbrev q2K:=@Nat.add_assoc
noncomputable section
set_option Elab.async false
set_option linter.all false
set_option maxRecDepth 100000
set_option compiler.extract_closed false
set_option genSizeOf false
set_option genInjectivity false
local macro_rules | `(tactic|lia)=>`(tactic|first|lia(splits:=9)|omega)
theorem aH:type_of% @PySem.wpAny_bind:=@PySem.wpAny_bind
theorem bz:type_of% @PySem.wpAny_pure:=@PySem.wpAny_pure
theorem bD:type_of% @PySem.Heap.get?_push_of_some:=@PySem.Heap.get?_push_of_some
theorem bE:type_of% @PySem.Heap.lt_size:=@PySem.Heap.lt_size
theorem be:type_of% @Nat.le_refl:=@Nat.le_refl
theorem aN:type_of% @PyProof.Rows.wpS_bind:=@PyProof.Rows.wpS_bind
theorem ba:type_of% @PyProof.Rows.wpS_pure:=@PyProof.Rows.wpS_pure
theorem bJ:type_of% @bind_congr:=@bind_congr
theorem bf:type_of% @List.mem_append_right:=@List.mem_append_right
theorem bj:type_of% @List.mem_append_left:=@List.mem_append_left
theorem bG:type_of% @List.mem_cons_of_mem:=@List.mem_cons_of_mem
open PySem.W (instObj Frag plainGet hasDictIn findIn isFn makesIn emptyDict keepIn kitOne kia_one fnOf codeIn nsIn excIn mg_of mg_none_of)
theorem Zq(_:0=0:=by rfl):0=0:=rfl
theorem Zr(_:0=0:=by decide):0=0:=rfl
theorem Zs(_:Nat->0=0:=by intro _;rfl):0=0:=rfl
namespace L2
open PySem PySem.Spec PyProof.Rows
abbrev aR:=Sum Int Str
noncomputable def ko:aR->Value->Bool
 |.inl k,v=>Value.isInt k v
 |.inr x,v=>Value.isStrOf x v
noncomputable def IG(w:World):aR->Int
 |.inl k=>hashInt k
 |.inr x=>hashStr w x
theorem iI:∀{k v},ko k v=true->(∃i t,k=Sum.inl i/\v=Value.int i t)\/(∃x t,k=Sum.inr x/\v=Value.str x t)
 |.inl i,v,h=>by obtain⟨t,e⟩:=Value.isInt_shape (k:=i) (v:=v) h;exact .inl ⟨i,t,rfl,e⟩
 |.inr x,v,h=>by obtain⟨t,e⟩:=Value.isStrOf_shape (x:=x) (v:=v) h;exact .inr ⟨x,t,rfl,e⟩
theorem IH(i t):ko (.inl i) (.int i t)=true:=by simp[ko,Value.isInt]
theorem II(x t):ko (.inr x) (.str x t)=true:=by simp[ko,Value.isStrOf]
theorem IJ(a b):decide ((Sum.inl a:aR)=Sum.inl b)=(a==b):=by
 by_cases e:a=b
 .subst e;simp
 .have h:¬ (Sum.inl a:aR)=Sum.inl b:=fun q=>e (Sum.inl.inj q);rw[decide_eq_false h];exact(beq_eq_false_iff_ne.mpr e).symm
theorem IK(a b):decide ((Sum.inr a:aR)=Sum.inr b)=decide (a=b):=by
 by_cases e:a=b
 .subst e;simp
 .have h:¬ (Sum.inr a:aR)=Sum.inr b:=fun q=>e (Sum.inr.inj q);rw[decide_eq_false h,decide_eq_false e]
theorem IL(a b):decide ((Sum.inl a:aR)=Sum.inr b)=false:=decide_eq_false (fun q=>nomatch q)
theorem IM(a b):decide ((Sum.inr a:aR)=Sum.inl b)=false:=decide_eq_false (fun q=>nomatch q)
def fk(prog:Program)(w:World):PySem.KeyKind prog w aR where
 is:=ko
 hash:=IG w
 inj:=fun v a b ha hb=>by
  rcases iI ha with⟨i,t,rfl,rfl⟩ |⟨x,t,rfl,rfl⟩
  .rcases iI hb with⟨j,u,rfl,e⟩ |⟨y,u,rfl,e⟩
   .injection e with e1 _;rw[e1]
   .exact nomatch e
  .rcases iI hb with⟨j,u,rfl,e⟩ |⟨y,u,rfl,e⟩
   .exact nomatch e
   .injection e with e1 _;rw[e1]
 byValue:=fun k v h=>by rcases iI h with⟨i,t,rfl,rfl⟩ |⟨x,t,rfl,rfl⟩<;>rfl
 pyHash:=fun hv h=>by
  rcases iI hv with⟨i,t,rfl,rfl⟩ |⟨x,t,rfl,rfl⟩
  .exact wpAny_pyHash_int h
  .exact wpAny_pyHash_str h
 eqBool:=fun hu hv h=>by
  rcases iI hu with⟨i,t,rfl,rfl⟩ |⟨x,t,rfl,rfl⟩
  .rcases iI hv with⟨j,u,rfl,rfl⟩ |⟨y,u,rfl,rfl⟩
   .rw[IJ]at h;exact wpAny_eqBool_int h
   .rw[IL]at h;exact SeqAt.EqAt.int_str i t y u _ _ _ _ h
  .rcases iI hv with⟨j,u,rfl,rfl⟩ |⟨y,u,rfl,rfl⟩
   .rw[IM]at h;exact SeqAt.EqAt.str_int x t j u _ _ _ _ h
   .rw[IK]at h;exact wpAny_eqBool_str h
 «strs»:=fun k x t v h=>by
  rcases iI h with⟨i,u,rfl,e⟩ |⟨y,u,rfl,e⟩
  .exact nomatch e
  .injection e with e1 _
   subst e1;cases v<;>rfl
theorem IP(a w i t):(fk a w).is (.inl i) (.int i t)=true:=IH i t
theorem IQ(a w x t):(fk a w).is (.inr x) (.str x t)=true:=II x t
inductive V where
 |non |bl (b:Bool) |int (i:Int) |str (x:Str) |byt (b:Array UInt8) |flt (b:UInt64) |ref (a:Addr) |ty (n:String)
 deriving DecidableEq
def aV:V->Value->Prop
 |.non,u=>u=Value.none
 |.bl b,u=>u=Value.bool b
 |.int i,u=>∃t,u=Value.int i t
 |.str x,u=>∃t,u=Value.str x t
 |.byt b,u=>∃t,u=Value.bytes b t
 |.flt b,u=>∃t,u=Value.float b t
 |.ref a,u=>u=Value.ref a
 |.ty n,u=>u=Value.type n
abbrev bp:List V->List Value->Prop:=Paired aV
theorem bp.length(r:bp a b):a.length=b.length:=Paired.length r
theorem bp.get:∀{a b}{i:Nat}{x},bp a b->a[i]? = some x->∃u,b[i]? = some u/\aV x u
 |_,_,_,_,.nil,e=>by simp at e
 |_,_,0,_,.cons r _,e=>by simp at e;subst e;exact⟨_,rfl,r⟩
 |_,_,i+1,x,.cons _ t,e=>by obtain⟨u,c,d⟩:=bp.get (i:=i) (x:=x) t (by simpa using e);exact⟨u,by simpa using c,d⟩
theorem bp.set(r:aV x u):∀{a b} i,bp a b->bp (a.set i x) (b.set i u)
 |_,_,_,.nil=>.nil
 |_,_,0,.cons _ t=>.cons r t
 |_,_,i+1,.cons q t=>.cons q (bp.set r i t)
theorem bp.append:∀{a b c d},bp a c->bp b d->bp (a++b) (c++d):=by
 intro a b c d h s
 induction h with
 |nil=>exact s
 |cons r _ e=>exact .cons r e
def eZ:Option V->Option Value->Prop
 |some v,some u=>aV v u
 |none,none=>True
 |_,_=>False
def KV{κ:Type}:List (κ×V)->List (κ×Value)->Prop:=Paired fun(p:κ×V) (q:κ×Value)=>p.1=q.1/\aV p.2 q.2
noncomputable def kV:aR->V
 |.inl i=>.int i
 |.inr x=>.str x
inductive HO where
 |lst (xs:List V)
 |tup (xs:List V)
 |dK (kvs:List (aR×V)) |dT (kvs:List (List aR×V))
 |set (S:Int->Bool) (n:Nat)
 |ins (C dx:Addr) (fs:List (Str×V))
 |own (x:Addr)
 |xd (fs:List (Str×V))
 |met (f x:Addr)
 |rng (lo hi:Int)
 |frz (o:Obj) (u:HO)
 |tbl (ps:Array Value)
 |ext (φ:Heap->Prop)
abbrev Hp:=Addr->Option HO
noncomputable def aI(H:Hp)(a:Addr)(o:HO):Hp:=fun b=>if b=a then some o else H b
theorem cc:aI H a o a=some o:=by unfold aI;rw[if_pos rfl]
theorem bn(h:b≠a):aI H a o b=H b:=by unfold aI;rw[if_neg h]
theorem IR{H:Hp}(h:H a=some o)(c:H b=some u)(d:o≠u):a≠b:=by intro e;subst e;rw[h]at c;exact d (q0n c)
theorem iJ{H:Hp}(h:H a=some o)(c:H b=none):a≠b:=by intro e;subst e;rw[h]at c;cases c
section
variable(P:Program)(w:World)
def cw(H:Hp)(h:Heap)(a:Addr):HO->Prop
 |.lst d=>d.length<=sizeLine/\∃(b:List Value) (n:Nat),bp d b/\h.get? a=some { cls:=.type "list",data:=.seq b.toArray n }
 |.tup d=>d.length<=sizeLine/\∃b:List Value,bp d b/\IsTup h a b.toArray
 |.dK c=>c.length<=sizeLine/\(a==sysModules)=false/\∃vs,KV c vs/\h.DictOf (fk P w) a vs
 |.dT c=>c.length<=sizeLine/\(a==sysModules)=false/\∃d:List (List aR×Addr×Value),
   Paired (fun(p:List aR×V) (q:List aR×Addr×Value)=>p.1=q.1/\H q.2.1=some (.tup (p.1.map kV))/\aV p.2 q.2.2) c d/\
   ∃o i l,h.get? a=some o/\o.ExactDict/\o.data=.dict i l/\i.toList=d.map (entryOfKey (tupleKind (fk P w)))/\(d.map (·.1)).Nodup
 |.set S n=>h.SetOf (intKind P w) a S n
 |.ins C g fs=>H g=some (.own a)/\fs.length<=1000/\g≠a/\h.get? a=some (instObj C g)/\
   ∃e,h.Ns1 g e/\(∀f,eZ (fs.lookup f) (e f))/\PySem.Within e (fs.map (·.1))
 |.own _=>∃o,h.get? a=some o
 |.xd fs=>∃e,h.Ns1 a e/\∀f,eZ (fs.lookup f) (e f)
 |.rng lo m=>∃t u v,h.get? a=some { cls:=.type "range",data:=.fields #[.int lo t,.int m u,.int 1 v] }
 |.frz o u=>h.get? a=some o/\cw H h a u
 |.tbl r=>h.get? a=some { cls:=.none,data:=.fields r }
 |.met f x=>h.get? a=some (PySem.W.methodObj (.ref f) (.ref x))
 |.ext φ=>φ h/\(∃o,h.get? a=some o)/\∀j k:Heap,φ j->(∀o,j.get? a=some o->k.get? a=some o)->φ k
def bH(H:Hp)(h:Heap):Prop:=∀a o,H a=some o->cw P w H h a o
end
theorem cw.lt(x:cw P w H h a o):a<h.objs.size:=by
 cases o with
 |lst c=>obtain⟨_,_,_,_,e⟩:=x;exact bE e
 |tup c=>obtain⟨_,_,_,p⟩:=x;exact p.lt
 |dK b=>obtain⟨_,_,_,_,o,_,_,e,_⟩:=x;exact bE e
 |dT b=>obtain⟨_,_,_,_,o,_,_,e,_⟩:=x;exact bE e
 |set S n=>obtain⟨o,_,_,_,e,_⟩:=x;exact bE e
 |ins C d fs=>obtain⟨_,_,_,e,_⟩:=x;exact bE e
 |own y=>obtain⟨_,e⟩:=x;exact bE e
 |xd fs=>obtain⟨_,⟨_,_,_,e,_⟩,_⟩:=x;exact bE e
 |rng lo g=>obtain⟨_,_,_,e⟩:=x;exact bE e
 |frz ob u=>obtain⟨e,_⟩:=x;exact bE e
 |tbl i=>exact bE (show h.get? a=some _ from x)
 |met f y=>exact bE (show h.get? a=some _ from x)
 |ext φ=>obtain⟨_,⟨_,e⟩,_⟩:=x;exact bE e
theorem Paired.mapP:∀{c:List α}{d},Paired F c d->(∀a b,F a b->G a b)->Paired G c d:=by
 intro c d h f
 induction h with
 |nil=>exact .nil
 |cons r _ e=>exact .cons (f _ _ r) e
theorem cw.stay(x:cw P w H h a o)(k:∀b u,(b=a\/H b=some (.own a))->h.get? b=some u->h'.get? b=some u)
  (E:∀b,H b=some (.own a)->Z b=some (.own a)) (G:∀b m,H b=some (.tup m)->Z b=some (.tup m)):cw P w Z h' a o:=by
 induction o with
 |lst m=>obtain⟨z,l,n,r,e⟩:=x;exact⟨z,l,n,r,k _ _ (.inl rfl) e⟩
 |tup m=>obtain⟨z,l,r,g,e,c⟩:=x;exact⟨z,l,r,g,k _ _ (.inl rfl) e,c⟩
 |dK s=>obtain⟨z,y,vs,r,g,i,j,e,c⟩:=x;exact⟨z,y,vs,r,g,i,j,k _ _ (.inl rfl) e,c⟩
 |dT s=>obtain⟨z,y,m,r,g,i,j,e,c⟩:=x;exact⟨z,y,m,Paired.mapP r fun p q z=>⟨z.1,G _ _ z.2.1,z.2.2⟩,g,i,j,k _ _ (.inl rfl) e,c⟩
 |set S n=>obtain⟨g,i,j,t,e,c⟩:=x;exact⟨g,i,j,t,k _ _ (.inl rfl) e,c⟩
 |ins C L fs=>obtain⟨d,z,ne,e,A,⟨B,i,j,I,c⟩,r⟩:=x;exact⟨E _ d,z,ne,k _ _ (.inl rfl) e,A,⟨B,i,j,k _ _ (.inr d) I,c⟩,r⟩
 |own y=>obtain⟨g,e⟩:=x;exact⟨g,k _ _ (.inl rfl) e⟩
 |xd fs=>obtain⟨A,⟨B,i,j,e,c⟩,r⟩:=x;exact⟨A,⟨B,i,j,k _ _ (.inl rfl) e,c⟩,r⟩
 |rng lo M=>obtain⟨t,u,v,e⟩:=x;exact⟨t,u,v,k _ _ (.inl rfl) e⟩
 |frz g u J=>obtain⟨e,q⟩:=x;exact⟨k _ _ (.inl rfl) e,J q⟩
 |tbl D=>have e:h.get? a=some { cls:=.none,data:=.fields D }:=x;show h'.get? a=some { cls:=.none,data:=.fields D };exact k a _ (.inl rfl) e
 |met f y=>have e:h.get? a=some (PySem.W.methodObj (.ref f) (.ref y)):=x;show h'.get? a=some (PySem.W.methodObj (.ref f) (.ref y));exact k a _ (.inl rfl) e
 |ext φ=>obtain⟨p,⟨o,e⟩,st⟩:=x;exact⟨st _ _ p fun o q=>k _ _ (.inl rfl) q,⟨o,k _ _ (.inl rfl) e⟩,st⟩
theorem bH.lt(x:bH P w H h)(e:H a=some o):a<h.objs.size:=(x a o e).lt
theorem bH.fresh{a:Addr}(x:bH P w H h)(e:h.objs.size<=a):H a=none:=by
 cases q:H a with
 |none=>rfl
 |some u=>exact absurd (q0o (x.lt q) e) (q0z _)
theorem bH.kept(x:bH P w H h)(k:∀b u,h.get? b=some u->h'.get? b=some u):bH P w H h':=fun a o e=>(x a o e).stay (fun b u _ q=>k b u q) (fun _ q=>q) fun _ _ q=>q
theorem bH.laid{a:Addr}(x:bH P w H h)(k:∀b u,h.get? b=some u->h'.get? b=some u)(f:h.objs.size<=a)(new:cw P w (aI H a o) h' a o):bH P w (aI H a o) h':=fun b u e=>by
 have d:=x.fresh f
 by_cases hb:b=a
 .subst hb;rw[cc]at e;cases e;exact new
 .rw[bn hb]at e;exact(x b u e).stay (fun c v _ q=>k c v q) (fun c q=>by rw[bn (iJ q d)];exact q) fun c g q=>by rw[bn (iJ q d)];exact q
def Rd(H:Hp)(a:Addr)(u:HO):Prop:=H a=some u\/∃o,H a=some (.frz o u)
theorem Rd.of(h:H a=some u):Rd H a u:=.inl h
theorem Rd.ok(r:Rd H a u)(x:bH P w H h):cw P w H h a u:=by
 rcases r with r |⟨o,r⟩
 .exact x a u r
 .obtain⟨_,q⟩:=x a _ r;exact q
def oE:Option HO->Prop
 |some (.lst _)=>True
 |some (.dK _)=>True
 |some (.dT _)=>True
 |some (.set _ _)=>True
 |some (.ins _ _ _)=>True
 |some (.ext _)=>True
 |_=>False
theorem bH.write(ok:bH P w H h)(g:oE (H x))(m:e=x\/H e=some (.own x))(k:∀b u,b≠e->h.get? b=some u->Y.get? b=some u)(l:∃u,Y.get? e=some u)
  (new:cw P w (aI H x X) Y x X):bH P w (aI H x X) Y:=fun b u q=>by
 have d:∀c y,H c=some (.own y)->c≠x:=fun c y r z=>by subst z;rw[r]at g;exact g
 have f:∀c i,H c=some (.tup i)->c≠x:=fun c i r z=>by subst z;rw[r]at g;exact g
 by_cases hb:b=x
 .subst hb;rw[cc]at q;cases q;exact new
 .rw[bn hb]at q
  by_cases a:b=e
  .have n:H b=some (.own x):=by
    rcases m with z |z
    .exact absurd (a.trans z) hb
    .rw[a];exact z
   rw[q]at n;cases n;obtain⟨v,o⟩:=l;exact⟨v,by rw[a];exact o⟩
  .refine(ok b u q).stay (fun c v j r=>k c v ?_ r) (fun c r=>by rw[bn (d c b r)];exact r) fun c i r=>by rw[bn (f c i r)];exact r
   rcases j with rfl |j
   .exact a
   .rintro rfl;rcases m with z |z
    .exact d c b j z
    .rw[j]at z;cases z;exact hb rfl
structure Un (fs ex:List Addr) (H H':Hp) (h h':Heap):Prop where
 keep:∀b o,h.get? b=some o->H b=none->b∉fs->b∉ex->h'.get? b=some o
 slot:∀b o,h.get? b=some o->H b=none->b∈fs->b∉ex->∃sl,h'.get? b=some { o with slots:=sl }
 free:∀b o,h.get? b=some o->H b=none->b∉ex->H' b=none
 there:∀b o,h.get? b=some o->b∉ex->∃o',h'.get? b=some o'
 tups:∀b xs,H b=some (.tup xs)->H' b=some (.tup xs)
 frzs:∀b o u,H b=some (.frz o u)->H' b=some (.frz o u)
 tbls:∀b ps,H b=some (.tbl ps)->∃more,H' b=some (.tbl (ps++more))
theorem Un.any(u:Un fs ex H R h U)(q:h.get? b=some c)(n:H b=none)(d:b∉ex):∃f,U.get? b=some { c with slots:=f }:=by
 by_cases hb:b∈fs
 .exact u.slot b c q n hb d
 .exact⟨c.slots,u.keep b c q n hb d⟩
theorem Un.kept(k:∀b u,h.get? b=some u->h'.get? b=some u):Un fs ex H H h h':=
 ⟨fun b c q _ _ _=>k b c q,fun b c q _ _ _=>⟨c.slots,k b c q⟩,fun _ _ _ n _=>n,fun b c q _=>⟨c,k b c q⟩,fun _ _ q=>q,fun _ _ _ q=>q,fun _ d q=>⟨#[],by rw[q];simp⟩⟩
theorem Un.refl:Un fs ex H H h h:=Un.kept fun _ _ q=>q
theorem Un.laid{h:Heap}{a:Addr}(k:∀b u,h.get? b=some u->h'.get? b=some u)(hp:h.objs.size<=a)(hn:H a=none):Un fs ex H (aI H a o) h h' where
 keep:=fun b u q _ _ _=>k b u q
 slot:=fun b u q _ _ _=>⟨u.slots,k b u q⟩
 free:=fun b u q n _=>by rw[bn (q0v (q0o (bE q) hp))];exact n
 there:=fun b u q _=>⟨u,k b u q⟩
 tups:=fun b xs q=>by rw[bn (iJ q hn)];exact q
 frzs:=fun b u xs q=>by rw[bn (iJ q hn)];exact q
 tbls:=fun b ps q=>⟨#[],by rw[bn (iJ q hn),q];simp⟩
theorem Un.write(d:oE (H x))(j:e=x\/H e=some (.own x))(k:∀b u,b≠e->h.get? b=some u->h'.get? b=some u)(f:∃u,h'.get? e=some u):Un fs ex H (aI H x o) h h':=by
 have i:∀b,H b=none->b≠x:=fun b n z=>by subst z;rw[n]at d;exact d
 have hb:∀b,H b=none->b≠e:=fun b n z=>by
  subst z;rcases j with r |r
  .exact i b n r
  .rw[n]at r;cases r
 have g:∀b u,H b=some u->¬ oE (some u)->b≠x:=fun b u q l z=>by subst z;rw[q]at d;exact l d
 refine⟨fun b u q n _ _=>k b u (hb b n) q,fun b u q n _ _=>⟨u.slots,k b u (hb b n) q⟩,fun b u q n _=>by rw[bn (i b n)];exact n,fun b u q _=>?_,
  fun b m q=>by rw[bn (g b _ q fun z=>z)];exact q,fun b u m q=>by rw[bn (g b _ q fun z=>z)];exact q,fun b p q=>⟨#[],by rw[bn (g b _ q fun z=>z),q];simp⟩⟩
 by_cases c:b=e
 .subst c;exact f
 .exact⟨u,k b u c q⟩
noncomputable def rq(h:Heap)(H:Hp):List Addr:=(List.range h.objs.size).filter fun a=>(H a).isSome
def kq(h:Heap)(H:Hp):Heap:=PySem.W.hideAll h (rq h H)
theorem IS(h H):(kq h H).objs.size=h.objs.size:=PySem.W.hideAll_size _ _
theorem yZ(e:h.get? b=some o)(n:H b=none):(kq h H).get? b=some o:=
 q10 _ e fun a=>by have q:(H b).isSome=true:=(q1A.mp a).2;rw[n]at q;simp at q
theorem IT(e:(kq h H).get? b=some o):h.get? b=some o/\H b=none:=by
 have a:h.get? b=some o:=PySem.W.of_hideAll (rq h H) e;refine⟨a,?_⟩;cases q:H b with
 |none=>rfl
 |some x=>have c:b∈rq h H:=q1A.mpr ⟨q2c.mpr (bE a),by simp[q]⟩;have z:(kq h H).get? b=none:=q1W (rq h H) c;rw[z]at e;cases e
structure Mod (K:Frag) (mg:Str->Option Value) (base:Heap):Prop where
 kin:K.In base
 glob:base.Ns mainGlobals mg
 blt:∃mb,base.Ns builtinsNs mb/\∀x:Str,x≠"__name__"->mb x=bootBuiltins x
 nolimit:base.NoLimit
structure Cx where
 prog:Program
 w:World
 K:Frag
 mg:Str->Option Value
 base:Heap
 A:Around
 N:List Str
 s₀:Shared
 H₀:Hp
 env:Env
 outer:List Env
 stack:List Env
 ex:List Addr
 fn:Str->Bool
 calm:Bool
 pn:List (Addr×Obj)
 xe:Value->Shared->Prop
noncomputable def bO(l:List Env):List Addr:=l.filterMap (·.frame)
abbrev Cx.fs(X:Cx):List Addr:=bO X.outer
def kr(a:Scope)(x:Str):Prop:=a.names.lookup x=some .local\/a.names.lookup x=some .cell\/a.names.lookup x=some .free
def Loc(a:Scope)(x:Str):Prop:=a.names.lookup x=some .local\/a.names.lookup x=some .cell
def IU(a:Env)(h:Heap)(m:Str->Option Value)(x:Str)(u:Value):Prop:=
 (a.kindOf x=some .local/\m x=some u)\/((a.kindOf x=some .cell\/a.kindOf x=some .free)/\∃c,a.cells.lookup x=some c/\h.IsCell c (some u))
structure Cx.Ok (X:Cx):Prop where
 mod:Mod X.K X.mg X.base
 kind:X.env.scope.kind=.function
 glob:X.env.globals=mainGlobals
 blt:X.env.builtins=builtinsNs
 above:X.s₀.heap.objs.size<=X.env.locals
 inj:∀x y c,X.env.cells.lookup x=some c->X.env.cells.lookup y=some c->x=y
 has:∀x,(X.env.kindOf x=some .cell\/X.env.kindOf x=some .free)->∃c,X.env.cells.lookup x=some c
 cab:∀x c,X.fn x=true->X.env.cells.lookup x=some c->X.s₀.heap.objs.size<=c
 hd:X.calm=true->X.A.handled=none
 frames:X.A.frames=some X.stack
 stk:X.stack=X.outer\/(X.stack=X.env::X.outer/\X.env.frame=some X.env.locals)
 exf:∀b∈X.ex,b≠X.env.locals/\∀x c,X.env.cells.lookup x=some c->c≠b
 bs:∀b o,X.base.get? b=some o->X.s₀.heap.get? b=some o/\X.H₀ b=none
 bsz:X.base.objs.size<=X.s₀.heap.objs.size
 noex:∀b o,X.base.get? b=some o->b∉X.ex
 exfs:∀b∈X.ex,b∉X.fs
 funs:X.s₀.heap.FunFrames X.base X.outer
 frf:∀b∈X.fs,X.H₀ b=none
structure Inv (X:Cx) (pins:List (Addr×Obj)) (Y:List (Option V)) (H:Hp) (s:Shared):Prop where
 ok:X.Ok
 os:s.os=X.s₀.os
 bare:AllBare s.gens
 base:Un X.fs X.ex X.H₀ H X.s₀.heap s.heap
 loc:∃m,s.heap.Ns X.env.locals m/\∀(i:Nat) (x:Str) (v:V),X.N[i]? = some x->Y[i]? = some (some v)->kr X.env.scope x->∃u,aV v u/\IU X.env s.heap m x u
 cell:∀x c,X.env.cells.lookup x=some c->∃v,s.heap.IsCell c v
 free:H X.env.locals=none
 freeC:∀x c,X.env.cells.lookup x=some c->H c=none
 pin:∀p∈X.pn++pins,s.heap.get? p.1=some p.2/\H p.1=none/\p.1≠X.env.locals/\p.1∉X.fs/\∀v,p.2.data≠.cell v
 hok:bH X.prog X.w H s.heap
 len:Y.length=X.N.length
theorem Cx.Ok.nofr{X:Cx}(ok:X.Ok)(e:X.base.get? b=some o):b∉X.fs:=fun a=>by have:=(ok.funs.mem a).1;rw[e]at this;cases this
theorem Inv.bs(I:Inv X J Y H s):∀b o,X.base.get? b=some o->s.heap.get? b=some o/\H b=none:=fun b o e=>⟨I.base.keep b o (I.ok.bs b o e).1 (I.ok.bs b o e).2 (I.ok.nofr e) (I.ok.noex b o e),I.base.free b o (I.ok.bs b o e).1 (I.ok.bs b o e).2 (I.ok.noex b o e)⟩
theorem Inv.bk(I:Inv X J Y H s):∀b o,X.base.get? b=some o->s.heap.get? b=some o:=fun b o e=>(I.bs b o e).1
theorem Inv.mod(I:Inv X J Y H s):Mod X.K X.mg X.base:=I.ok.mod
theorem Inv.kIn(I:Inv X J Y H s):X.K.In s.heap:=I.ok.mod.kin.keeps I.bk
theorem Inv.lt(I:Inv X J Y H s):X.env.locals<s.heap.objs.size:=let⟨_,a,_⟩:=I.loc;a.lt
theorem Inv.sz(I:Inv X J Y H s):X.s₀.heap.objs.size<=s.heap.objs.size:=q0W I.ok.above (q1v I.lt)
theorem Inv.nofs(I:Inv X J Y H s){a:Addr}(h:s.heap.objs.size<=a):a∉X.fs:=fun c=>by obtain⟨_,o,b,_⟩:=I.ok.funs.mem c;exact absurd (q0o (bE b) (q0W I.sz h)) (q0z _)
theorem Inv.cne(I:Inv X J Y H s):∀x c,X.env.cells.lookup x=some c->c≠X.env.locals:=fun x c e z=>by obtain⟨v,o,d,hd⟩:=I.cell x c e;obtain⟨m,⟨f,g,h,a,b,_⟩,_⟩:=I.loc;rw[z,a]at d;cases d;rw[b]at hd;cases hd
theorem Inv.funs(I:Inv X J Y H s):s.heap.FunFrames X.base X.outer:=by
 have all:∀(l:List Env),(∀b∈bO l,b∈X.fs)->X.s₀.heap.FunFrames X.base l->s.heap.FunFrames X.base l:=by
  intro l
  induction l with
  |nil=>intro _ _;trivial
  |cons env r g=>intro f h;obtain⟨i,⟨L,o,a,j,k,hd⟩,m⟩:=h;have c:L∈X.fs:=f L (by unfold bO;rw[q00,a];exact q0g);obtain⟨n,e⟩:=I.base.slot L o k (I.ok.frf L c) c fun z=>I.ok.exfs L z c;exact⟨i,⟨L,_,a,j,e,hd⟩,g (fun b d=>f b (by unfold bO;rw[q00,a];exact bG _ d)) m⟩
 exact all X.outer (fun _ d=>d) I.ok.funs
theorem Inv.stack(I:Inv X J Y H s):s.heap.FunFrames X.base X.stack:=by
 rcases I.ok.stk with e |⟨e,a⟩
 .rw[e];exact I.funs
 .rw[e];obtain⟨m,b,_⟩:=I.loc;refine .cons (by rw[I.ok.kind];decide) a b ?_ I.funs;exact Heap.get?_none_of_le (q0W I.ok.bsz I.ok.above)
theorem Inv.stkSub(I:Inv X J Y H s):∀b∈bO X.stack,b∈X.env.locals::X.fs:=fun b a=>by
 rcases I.ok.stk with e |⟨e,c⟩
 .rw[e]at a;exact bG _ a
 .rw[e]at a;unfold bO at a;rw[q00,c]at a;exact a
theorem Inv.stkFree(I:Inv X J Y H s):∀b∈bO X.stack,H b=none:=fun b a=>by
 rcases q0d.mp (I.stkSub b a) with e |a
 .rw[e];exact I.free
 .obtain⟨_,o,c,_⟩:=I.ok.funs.mem a;exact I.base.free b o c (I.ok.frf b a) fun z=>I.ok.exfs b z a
theorem Inv.step{ch:List Addr}(I:Inv X J Y H s)
  (f:∀b∈ch,(b∈X.ex\/X.s₀.heap.objs.size<=b)/\b≠X.env.locals/\(∀x c,X.env.cells.lookup x=some c->c≠b)/\∀p∈X.pn++J,p.1≠b)
  (keep:∀b o,b≠X.env.locals->b∉X.fs->b∉ch->s.heap.get? b=some o->H b=none->h'.get? b=some o)
  (slot:∀b o,b≠X.env.locals->b∈X.fs->b∉ch->s.heap.get? b=some o->H b=none->∃R,h'.get? b=some { o with slots:=R }) (free:∀b o,b∉ch->s.heap.get? b=some o->H b=none->G b=none)
  (there:∀b o,b∉ch->s.heap.get? b=some o->∃C,h'.get? b=some C)
  (L:∀b y,H b=some (.tup y)->G b=some (.tup y)) (M:∀b o u,H b=some (.frz o u)->G b=some (.frz o u)) (N:∀b O,H b=some (.tbl O)->∃more,G b=some (.tbl (O++more)))
  (ns:∀m,s.heap.Ns X.env.locals m->h'.Ns X.env.locals m) (S:bH X.prog X.w G h') (hg:AllBare g') :
  Inv X J Y G { s with heap:=h',gens:=g',drawn:=d',toks:=t' }:=by
 have D:∀b o,X.s₀.heap.get? b=some o->b≠X.env.locals:=fun b o e=>q0v (q0o (bE e) I.ok.above);have j:∀b o,X.s₀.heap.get? b=some o->b∉X.ex->b∉ch:=fun b o e a A=>by
  rcases(f b A).1 with z |z
  .exact a z
  .exact absurd (q0o (bE e) z) (q0z _)
 have g:∀x c,X.env.cells.lookup x=some c->∀v,s.heap.IsCell c v->h'.IsCell c v:=fun x c e v ⟨o,B,hd⟩=>by
  have h:c∉ch:=fun z=>(f c z).2.2.1 x c e rfl
  by_cases T:c∈X.fs
  .obtain⟨R,q⟩:=slot c o (I.cne x c e) T h B (I.freeC x c e);exact⟨_,q,hd⟩
  .exact⟨o,keep c o (I.cne x c e) T h B (I.freeC x c e),hd⟩
 refine⟨I.ok,I.os,hg,⟨fun b o e n A a=>?_,fun b o e n A a=>?_,fun b o e n a=>?_,fun b o e a=>?_,fun b y e=>L b y (I.base.tups b y e),fun b o y e=>M b o y (I.base.frzs b o y e),fun b O e=>?_⟩,?_,fun x c e=>?_,?_,fun x c e=>?_,fun p U=>?_,S,I.len⟩
 .exact keep b o (D b o e) A (j b o e a) (I.base.keep b o e n A a) (I.base.free b o e n a)
 .obtain⟨R,t⟩:=I.base.slot b o e n A a;obtain⟨Q,E⟩:=slot b _ (D b o e) A (j b o e a) t (I.base.free b o e n a);exact⟨Q,E⟩
 .obtain⟨C,t⟩:=I.base.there b o e a;exact free b C (j b o e a) t (I.base.free b o e n a)
 .obtain⟨C,t⟩:=I.base.there b o e a;exact there b C (j b o e a) t
 .obtain⟨m1,t⟩:=I.base.tbls b O e;obtain⟨m2,E⟩:=N b _ t;exact⟨m1++m2,by rw[E,Array.append_assoc]⟩
 .obtain⟨m,hn,hl⟩:=I.loc;refine⟨m,ns m hn,fun i x v t E e3=>?_⟩;obtain⟨u,r,l⟩:=hl i x v t E e3;refine⟨u,r,?_⟩;rcases l with l |⟨k,c,e,z⟩
  .exact .inl l
  .exact .inr ⟨k,c,e,g x c e _ z⟩
 .obtain⟨v,z⟩:=I.cell x c e;exact⟨v,g x c e v z⟩
 .obtain⟨m,⟨o,_,_,B,_⟩,_⟩:=I.loc;exact free _ o (fun z=>(f _ z).2.1 rfl) B I.free
 .obtain⟨v,o,B,hd⟩:=I.cell x c e;exact free c o (fun z=>(f c z).2.2.1 x c e rfl) B (I.freeC x c e)
 .obtain⟨e,n,ne,Z,d⟩:=I.pin p U;have h:p.1∉ch:=fun z=>(f p.1 z).2.2.2 p U rfl;exact⟨keep p.1 p.2 ne Z h e n,free p.1 p.2 h e n,ne,Z,d⟩
theorem Inv.un(I:Inv X J Y H s)(u:Un X.fs [] H G s.heap h')(f:bH X.prog X.w G h'):Inv X J Y G { s with heap:=h',toks:=t' }:=by
 obtain⟨m,⟨o,l,p,h,r⟩,_⟩:=id I.loc;obtain⟨v,i⟩:=u.any h I.free (by simp);exact I.step (g':=s.gens) (d':=s.drawn) (ch:=[]) (fun _ z=>nomatch z) (fun b o _ g _ e n=>u.keep b o e n g (by simp)) (fun b o _ g _ e n=>u.slot b o e n g (by simp)) (fun b o _ e n=>u.free b o e n (by simp)) (fun b o _ e=>u.there b o e (by simp)) u.tups u.frzs u.tbls (fun q j=>by
  obtain⟨t,c,d,a,k⟩:=j;rw[h]at a;cases a;exact⟨_,c,d,i,k⟩) f I.bare
theorem Inv.call(I:Inv X J Y H s)(u:Un (bO X.stack) ch H G s.heap h')(j:bH X.prog X.w G h')(l:AllBare g')
  (d:∀b∈ch,(b∈X.ex\/X.s₀.heap.objs.size<=b)/\b≠X.env.locals/\(∀x c,X.env.cells.lookup x=some c->c≠b)/\∀p∈X.pn++J,p.1≠b) :
  Inv X J Y G { s with heap:=h',gens:=g',drawn:=d',toks:=t' }:=by
 obtain⟨m,⟨o,y,A,k,r⟩,_⟩:=id I.loc;obtain⟨D,g⟩:=u.any k I.free fun z=>(d _ z).2.1 rfl;exact I.step (ch:=ch) d (fun b o g v a e n=>u.keep b o e n (fun z=>(q0d.mp (I.stkSub b z)).elim g v) a) (fun b o _ _ a e n=>u.any e n a) (fun b o a e n=>u.free b o e n a) (fun b o a e=>u.there b o e a) u.tups u.frzs u.tbls (fun B q=>by
  obtain⟨C,h,i,f,t⟩:=q;rw[k]at f;cases f;exact⟨_,h,i,g,t⟩) j l
theorem Inv.turned(I:Inv X J Y H s)(k:∀b o,b≠it->s.heap.get? b=some o->h'.get? b=some o)(g:H it=none)(f:it≠X.env.locals)
  (h:it∈X.ex\/X.s₀.heap.objs.size<=it) (i:∀x c,X.env.cells.lookup x=some c->c≠it) (j:∀p∈X.pn++J,p.1≠it):Inv X J Y H { s with heap:=h',toks:=t' }:=by
 have d:∀b u,H b=some u->b≠it:=fun b u e z=>by rw[z,g]at e;cases e
 refine I.step (g':=s.gens) (d':=s.drawn) (ch:=[it]) (fun b A=>?_) (fun b o _ _ a e _=>k b o (fun z=>a (by simp[z])) e) (fun b o _ _ a e _=>⟨o.slots,k b o (fun z=>a (by simp[z])) e⟩) (fun _ _ _ _ n=>n)
  (fun b o a e=>⟨o,k b o (fun z=>a (by simp[z])) e⟩) (fun _ _ e=>e) (fun _ _ _ e=>e) (fun b B e=>⟨#[],by rw[e];simp⟩) (fun m l=>?_) (fun b u e=>?_) I.bare
 .have e:b=it:=by simpa using A
  subst e;exact⟨h,f,i,j⟩
 .obtain⟨o,t,w,y,r⟩:=l;exact⟨o,t,w,k _ o (Ne.symm f) y,r⟩
 .refine(I.hok b u e).stay (fun c v a q=>k c v ?_ q) (fun _ q=>q) fun _ _ q=>q;rcases a with z |z
  .rw[z];exact d b u e
  .exact d c _ z
theorem Inv.tok(I:Inv X J Y H s)(t):Inv X J Y H { s with toks:=t }:=I.un (h':=s.heap) (t':=t) Un.refl I.hok
theorem Inv.kept(I:Inv X J Y H s)(k:∀b u,s.heap.get? b=some u->h'.get? b=some u):Inv X J Y H { s with heap:=h',toks:=t' }:=I.un (Un.kept k) (I.hok.kept k)
theorem Inv.laid{a:Addr}(I:Inv X J Y H s)(k:∀b u,s.heap.get? b=some u->h'.get? b=some u)(c:s.heap.objs.size<=a)(new:cw X.prog X.w (aI H a o) h' a o) :
  Inv X J Y (aI H a o) { s with heap:=h',toks:=t' }:=I.un (Un.laid k c (I.hok.fresh c)) (I.hok.laid k c new)
theorem Inv.write(I:Inv X J Y H s)(c:oE (H x))(d:e=x\/H e=some (.own x))(k:∀b u,b≠e->s.heap.get? b=some u->h'.get? b=some u)(a:∃u,h'.get? e=some u)
  (new:cw X.prog X.w (aI H x o) h' x o):Inv X J Y (aI H x o) { s with heap:=h',toks:=t' }:=I.un (Un.write c d k a) (I.hok.write c d k a new)
theorem Inv.pins_of(I:Inv X J Y H s)(h:∀p∈pins',s.heap.get? p.1=some p.2/\H p.1=none/\p.1≠X.env.locals/\p.1∉X.fs/\∀v,p.2.data≠.cell v):Inv X pins' Y H s:=
 ⟨I.ok,I.os,I.bare,I.base,I.loc,I.cell,I.free,I.freeC,fun p a=>(q0b.mp a).elim (fun z=>I.pin p (bj _ z)) (h p),I.hok,I.len⟩
theorem za{N:List Str}(c:N.Nodup){j:Nat}(a:N[i]? = some x)(b:N[j]? = some x):i=j:=by obtain⟨f,d⟩:=q0a.mp a;obtain⟨g,e⟩:=q0a.mp b;exact(List.getElem_inj c).mp (d.trans e.symm)
theorem IW(I:Inv X J Y H s)(hN:X.N.Nodup)(T:X.N[i]? = some x)(B:Loc X.env.scope x)(r:aV v u)
  (h:∀s',Inv X J (Y.set i (some v)) H s'->(∃a,Heap.SameBut a s.heap s'.heap/\(a=X.env.locals\/X.env.cells.lookup x=some a))->Q () s') (hf:X.fn x=true\/X.env.scope.names.lookup x=some .local:=by first |exact .inl rfl |exact .inr rfl |assumption):wpAny M A (storeName X.env x u) Q E s:=by
 obtain⟨m,hn,hl⟩:=id I.loc;have U:(X.env.scope.kind==.class||(X.env.scope.kind==.module&&X.env.locals != X.env.globals))=false:=by rw[I.ok.kind];rfl
 have Z:i<Y.length:=by rw[I.len];exact(q0a.mp T).1
 have cne:=I.cne;have g:∀{a:Addr}{h':Heap},(∃o,s.heap.get? a=some o/\H a=none)->Heap.SameBut a s.heap h'->bH X.prog X.w H h':=fun {a h'} ha f b ob e=>by
  obtain⟨_,_,C⟩:=ha;refine(I.hok b ob e).stay (fun c w' t q=>(f.2 c ?_).trans q) (fun _ q=>q) fun _ _ q=>q;rintro rfl;rcases t with rfl |t
  .rw[C]at e;cases e
  .rw[C]at t;cases t
 rcases B with L |L
 .refine wpAny_storeName_local L hn (fun h' a4 f=>?_) U;obtain⟨oL,_,_,a5,_⟩:=id hn;refine h _ ⟨I.ok,I.os,I.bare,⟨fun b o e n S B=>?_,fun b o e n S B=>?_,I.base.free,fun b o e B=>?_,I.base.tups,I.base.frzs,I.base.tbls⟩,⟨_,a4,fun j y v' l D e3=>?_⟩,fun y c e=>?_,I.free,I.freeC,fun p hp=>?_,g ⟨oL,a5,I.free⟩ f,by simpa using I.len⟩ ⟨_,f,.inl rfl⟩
  .exact(f.2 b (q0v (q0o (bE e) I.ok.above))).trans (I.base.keep b o e n S B)
  .obtain⟨sl,l⟩:=I.base.slot b o e n S B;exact⟨sl,(f.2 b (q0v (q0o (bE e) I.ok.above))).trans l⟩
  .obtain⟨o',l⟩:=I.base.there b o e B;exact⟨o',(f.2 b (q0v (q0o (bE e) I.ok.above))).trans l⟩
  .by_cases O:j=i
   .subst O;rw[T]at l;cases l;rw[q0q Z]at D;cases D;exact⟨u,r,.inl ⟨L,by simp⟩⟩
   .rw[q0r (Ne.symm O)]at D;obtain⟨u',r',q⟩:=hl j y v' l D e3;refine⟨u',r',?_⟩;rcases q with⟨k,e⟩ |⟨k,c,e,z⟩
    .refine .inl ⟨k,?_⟩;have:y≠x:=fun e=>O (za hN l (e▸T));simp[this,e]
    .exact .inr ⟨k,c,e,z.sameBut f (cne y c e)⟩
  .obtain⟨w',z⟩:=I.cell y c e;exact⟨w',z.sameBut f (cne y c e)⟩
  .obtain⟨e,n,ne,nf,d⟩:=I.pin p hp;exact⟨(f.2 p.1 ne).trans e,n,ne,nf,d⟩
 .have R:X.fn x=true:=by
   rcases hf with z |z
   .exact z
   .rw[z]at L;cases L
  obtain⟨c,t⟩:=I.ok.has x (.inl L);obtain⟨w',z⟩:=I.cell x c t;refine wpAny_storeName_cell I.ok.kind L t z (fun h' a0 f=>?_);obtain⟨oc,a1,a2⟩:=id z;refine h { s with heap:=h' } ⟨I.ok,I.os,I.bare,⟨fun b o e n S B=>?_,fun b o e n S B=>?_,I.base.free,fun b o e B=>?_,I.base.tups,I.base.frzs,I.base.tbls⟩,⟨m,hn.sameBut f (Ne.symm (cne x c t)),fun j y v' l D e3=>?_⟩,fun y c' e=>?_,I.free,I.freeC,fun p hp=>?_,g ⟨oc,a1,I.freeC x c t⟩ f,by simpa using I.len⟩ ⟨c,f,.inr t⟩
  .exact(f.2 b (q0v (q0o (bE e) (I.ok.cab x c R t)))).trans (I.base.keep b o e n S B)
  .obtain⟨sl,l⟩:=I.base.slot b o e n S B;exact⟨sl,(f.2 b (q0v (q0o (bE e) (I.ok.cab x c R t)))).trans l⟩
  .obtain⟨o',l⟩:=I.base.there b o e B;exact⟨o',(f.2 b (q0v (q0o (bE e) (I.ok.cab x c R t)))).trans l⟩
  .by_cases O:j=i
   .subst O;rw[T]at l;cases l;rw[q0q Z]at D;cases D;exact⟨u,r,.inr ⟨.inl L,c,t,a0⟩⟩
   .rw[q0r (Ne.symm O)]at D;obtain⟨u',r',q⟩:=hl j y v' l D e3;refine⟨u',r',?_⟩;rcases q with q |⟨k,c',e,z'⟩
    .exact .inl q
    .refine .inr ⟨k,c',e,z'.sameBut f ?_⟩;rintro rfl;exact O (za hN l (I.ok.inj _ _ _ e t▸T))
  .by_cases a3:c' = c
   .subst a3;exact⟨_,a0⟩
   .obtain⟨w2,z2⟩:=I.cell y c' e;exact⟨w2,z2.sameBut f a3⟩
  .obtain⟨e,n,ne,nf,d⟩:=I.pin p hp;refine⟨(f.2 p.1 ?_).trans e,n,ne,nf,d⟩;intro q;rw[q,a1]at e;have q':oc=p.2:=q0n e;exact d w' (by rw[<-q'];exact a2)
theorem vh(I:Inv X J Y H s)(b:X.N.Nodup)(c:X.N[i]? = some x)(d:Loc X.env.scope x)(r:aV v u)
  (h:∀a,Inv X J (Y.set i (some v)) H a->Q () a) (e:X.fn x=true\/X.env.scope.names.lookup x=some .local:=by first |exact .inl rfl |exact .inr rfl |assumption):wpAny M A (storeName X.env x u) Q E s:=
 IW I b c d r (fun a f _=>h a f) e
theorem Inv.call'(I:Inv X J Y H s)(g:a.os=s.os)(u:Un (bO X.stack) ch H G s.heap a.heap)(f:bH X.prog X.w G a.heap)(h:AllBare a.gens)
  (d:∀b∈ch,(b∈X.ex\/X.s₀.heap.objs.size<=b)/\b≠X.env.locals/\(∀x c,X.env.cells.lookup x=some c->c≠b)/\∀p∈X.pn++J,p.1≠b):Inv X J Y G a:=by
 obtain⟨h',i,j,t',k⟩:=a;have e:k = s.os:=g;subst e;exact I.call (g':=i) (t':=t') (d':=j) u f h d
abbrev XK:=Value->Option Addr->Hp->Prop
abbrev St:=List (Option V)
abbrev VK:=V->Hp->Prop
abbrev TE:=St->Hp->VK->Prop
abbrev TT:=St->Hp->(Bool->Hp->Prop)->Prop
abbrev TA:=St->Hp->(List V->Hp->Prop)->Prop
structure fm where
 nx:St->Hp->Prop
 rt:VK
 bk:St->Hp->Prop:=fun _ _=>False
 ct:St->Hp->Prop:=fun _ _=>False
abbrev TS:=fm->St->Hp->Prop
def EP(X:Cx)(a:List (Addr×Obj))(Y:St)(Q:VK)(u:Value)(c:Shared):Prop:=∃v b,Inv X a Y b c/\aV v u/\Q v b
def TP(X:Cx)(a:List (Addr×Obj))(Y:St)(Q:Bool->Hp->Prop)(b:Bool)(d:Shared):Prop:=∃c,Inv X a Y c d/\Q b c
def AP(X:Cx)(a:List (Addr×Obj))(Y:St)(Q:List V->Hp->Prop)(c:List Value)(d:Shared):Prop:=∃vs b,Inv X a Y b d/\bp vs c/\Q vs b
def SP(X:Cx)(a:List (Addr×Obj))(D:fm)(f:Flow)(d:Shared):Prop:=
 match f with
 |.next=>∃c b,Inv X a c b d/\D.nx c b
 |.brk=>∃c b,Inv X a c b d/\D.bk c b
 |.cont=>∃c b,Inv X a c b d/\D.ct c b
 |.ret u=>∃v c b,Inv X a c b d/\aV v u/\D.rt v b
def PE(X:Cx)(e:Expr)(t:TE):Prop:=
 ∀(a:List (Addr×Obj)) (s:Shared) (Y:St) (H:Hp) (Q:VK),Inv X a Y H s->t Y H Q->wpAny (model X.prog X.w) X.A (eval e X.env) (EP X a Y Q) X.xe s
def PT(X:Cx)(e:Expr)(t:TT):Prop:=
 ∀(a:List (Addr×Obj)) (s:Shared) (Y:St) (H:Hp) (Q:Bool->Hp->Prop),Inv X a Y H s->t Y H Q->wpAny (model X.prog X.w) X.A (isTrue e X.env (eval e X.env)) (TP X a Y Q) X.xe s
def PW(X:Cx)(e:Expr)(t:TT):Prop:=
 ∀(whole:Sem Value) (a:List (Addr×Obj)) (s:Shared) (Y:St) (H:Hp) (Q:Bool->Hp->Prop),Inv X a Y H s->t Y H Q->wpAny (model X.prog X.w) X.A (isTrue e X.env whole) (TP X a Y Q) X.xe s
theorem PW.pt(h:PW X e t):PT X e t:=h _
def PA(X:Cx)(b:List Expr)(t:TA):Prop:=
 ∀(pos:Pos) (a:List (Addr×Obj)) (s:Shared) (Y:St) (H:Hp) (Q:List V->Hp->Prop),Inv X a Y H s->t Y H Q->wpAny (model X.prog X.w) X.A (spliced (backTo pos (starEach b X.env))) (AP X a Y Q) X.xe s
def PS(X:Cx)(st:Stmt)(t:TS):Prop:=
 ∀(a:List (Addr×Obj)) (s:Shared) (Y:St) (H:Hp) (D:fm),Inv X a Y H s->t D Y H->wpAny (model X.prog X.w) X.A (exec st X.env) (SP X a D) X.xe s
def PSs(X:Cx)(st:List Stmt)(t:TS):Prop:=
 ∀(a:List (Addr×Obj)) (s:Shared) (Y:St) (H:Hp) (D:fm),Inv X a Y H s->t D Y H->wpAny (model X.prog X.w) X.A (execs st X.env) (SP X a D) X.xe s
theorem aL{t:Sem α}{Q b}(h:wpAny M A t Q E s)(c:∀a s,Q a s->b a s):wpAny M A t b E s:=wpAny_mono h c fun _ _ x=>x
def bQ(i:Nat):TE:=fun Y H Q=>∃v,Y[i]? = some (some v)/\Q v H
def tC(v:V):TE:=fun _ H Q=>Q v H
theorem IX{X:Cx}{pos}(j:X.N[i]? = some x)(k:kr X.env.scope x)(hd:autoParam ((x==("__debug__":Str))=false) Zr._auto_1)(f:autoParam ((x==("__classdict__":Str))=false) Zr._auto_1):PE X (.Name x pos) (bQ i):=by
 intro d s Y H Q I h;obtain⟨v,e,h⟩:=h;obtain⟨m,n,o⟩:=I.loc;obtain⟨u,r,l⟩:=o i x v j e k;have fin:EP X d Y Q u s:=⟨v,H,I,r,h⟩
 rcases l with⟨b,p⟩ |⟨b,c,g,a⟩
 .exact wpAny_Name (wpAny_loadName_local I.ok.kind b n p fin) hd
 .rcases b with b |b
  .exact wpAny_Name (wpAny_loadName_cell I.ok.kind b g a fin) hd
  .exact wpAny_Name (wpAny_loadName_free I.ok.kind b g a fin f) hd
theorem rr:PE X (.Constant (.int i) j pos) (tC (.int i)):=fun _ _ _ H _ I h=>wpAny_Constant_int ⟨.int i,H,I.tok _,⟨_,rfl⟩,h⟩
theorem IY:PE X (.Constant (.bool b) j pos) (tC (.bl b)):=fun _ _ _ H _ I h=>Constant_bool ⟨.bl b,H,I,rfl,h⟩
theorem zb:PE X (.Constant .none j pos) (tC .non):=fun _ _ _ H _ I h=>Constant_none ⟨.non,H,I,rfl,h⟩
theorem zc:PE X (.Constant (.str x) j pos) (tC (.str x)):=fun _ _ _ H _ I h=>Calls.Constant_str ⟨.str x,H,I.tok _,⟨_,rfl⟩,h⟩
def Gl(X:Cx)(x:Str):Prop:=X.env.kindOf x=some .globalImplicit
theorem mZ{Y:St}(I:Inv X a Y H s)(b:Gl X x)(c:X.mg x=some u)(h:Q u s)
  (hd:autoParam ((x==("__debug__":Str))=false) Zr._auto_1):wpAny (model X.prog X.w) X.A (eval (.Name x pos) X.env) Q E s:=
 Calls.Name_function_global I.ok.kind b (Calls.loadGlobal_global (by rw[I.ok.glob];exact I.mod.glob.keeps I.bk) c h) hd
theorem kt{E}{Y:St}{pos}(I:Inv X a Y H s)(b:Gl X x)(c:X.mg x=none)(d:bootBuiltins x=some u)(h:Q u s)
  (e:autoParam (x≠"__name__") Zr._auto_1) (hd:autoParam ((x==("__debug__":Str))=false) Zr._auto_1):wpAny (model X.prog X.w) X.A (eval (.Name x pos) X.env) Q E s:=by
 obtain⟨i,f,g⟩:=I.mod.blt;exact Calls.Name_function_global I.ok.kind b (Calls.loadGlobal_builtin (by rw[I.ok.glob];exact I.mod.glob.keeps I.bk) c (by rw[I.ok.blt];exact f.keeps I.bk) ((g x e).trans d) h) hd
theorem oF(a:Gl X x)(b:X.mg x=some u)(r:aV v u)(hd:autoParam ((x==("__debug__":Str))=false) Zr._auto_1):PE X (.Name x pos) (tC v):=
 fun _ _ _ H _ I h=>mZ I a b ⟨v,H,I,r,h⟩ hd
theorem iK{pos}(a:Gl X x)(b:X.mg x=none)(c:bootBuiltins x=some u)(r:aV v u)(d:autoParam (x≠"__name__") Zr._auto_1)(hd:autoParam ((x==("__debug__":Str))=false) Zr._auto_1):PE X (.Name x pos) (tC v):=
 fun _ _ _ H _ I h=>kt I a b c ⟨v,H,I,r,h⟩ d hd
def tB(t:TE):TT:=fun Y H Q=>t Y H fun x d=>∃c,x=.bl c/\Q c d
theorem IZ(h:PE X e t)(f:autoParam (∀whole,isTrue e X.env whole=(do let v <-whole;standAt e.pos;holding [v] (truthy v))) Zs._auto_1):PT X e (tB t):=by intro c s Y H Q I g;refine isTrue_plain (aL (h c s Y H _ I g) fun v n i=>?_) (f _);obtain⟨x,j,k,l,m⟩:=i;obtain⟨d,rfl,q⟩:=m;cases l;exact wpAny_truthy_bool ⟨j,k,q⟩
def Ja(t u:TT):TT:=fun Y H Q=>t Y H fun c d=>if c=true then u Y d Q else Q false d
def Jb(t u:TT):TT:=fun Y H Q=>t Y H fun c d=>if c=true then Q true d else u Y d Q
def Jc(t:TT):TT:=fun Y H Q=>t Y H fun c d=>Q (!c) d
theorem Jd(f:PT X a D):PW X (.BoolOp .And [a] pos) D:=by
 intro g d s Y H Q I h;refine isTrue_and (aL (f d s Y H Q I h) fun c i e=>?_);cases c with
 |true=>exact isTrue_and_nil e
 |false=>exact e
theorem Je(f:PT X a D):PW X (.BoolOp .Or [a] pos) D:=by
 intro g d s Y H Q I h;refine isTrue_or (aL (f d s Y H Q I h) fun c i e=>?_);cases c with
 |false=>exact isTrue_or_nil e
 |true=>exact e
theorem Jf(i:PT X a D)(m:PW X (.BoolOp .And (b::rest) pos) C):PW X (.BoolOp .And (a::b::rest) pos) (Ja D C):=by
 intro j d s Y H Q I h;refine isTrue_and (aL (i d s Y H _ I h) fun c k l=>?_);obtain⟨e,f,g⟩:=l;cases c with
 |true=>exact m j d k Y e Q f g
 |false=>exact⟨e,f,g⟩
theorem Jg(i:PT X a D)(m:PW X (.BoolOp .Or (b::rest) pos) C):PW X (.BoolOp .Or (a::b::rest) pos) (Jb D C):=by
 intro j d s Y H Q I h;refine isTrue_or (aL (i d s Y H _ I h) fun c k l=>?_);obtain⟨e,f,g⟩:=l;cases c with
 |true=>exact⟨e,f,g⟩
 |false=>exact m j d k Y e Q f g
theorem Jh(e:PT X a D):PT X (.UnaryOp .Not a pos) (Jc D):=by intro d s Y H Q I h;exact isTrue_not (e d s Y H (fun c f=>Q (!c) f) I h)
def Ji(M L:TE):TE:=fun Y H Q=>M Y H fun x d=>∃c,x=.bl c/\if c=true then L Y d Q else Q (.bl false) d
def Jj(M L:TE):TE:=fun Y H Q=>M Y H fun x d=>∃c,x=.bl c/\if c=true then Q (.bl true) d else L Y d Q
def Jk(M:TE):TE:=fun Y H Q=>M Y H fun x d=>∃c,x=.bl c/\Q (.bl (!c)) d
theorem Jl(h:PE X a t):PE X (.BoolOp op [a] pos) t:=fun c s Y H Q I d=>BoolOp_one (h c s Y H Q I d)
theorem Jm(j:PE X a M)(m:PE X (.BoolOp .And (b::rest) pos) L):PE X (.BoolOp .And (a::b::rest) pos) (Ji M L):=by
 intro d s Y H Q I h;refine BoolOp_and (aL (j d s Y H _ I h) fun v k e=>?_);obtain⟨x,g,i,l,f⟩:=e;obtain⟨c,rfl,f⟩:=f;cases l;refine wpAny_truthy_bool ?_;cases c with
 |true=>exact m d k Y g Q i f
 |false=>exact⟨.bl false,g,i,rfl,f⟩
theorem Jn(j:PE X a M)(m:PE X (.BoolOp .Or (b::rest) pos) L):PE X (.BoolOp .Or (a::b::rest) pos) (Jj M L):=by
 intro d s Y H Q I h;refine BoolOp_or (aL (j d s Y H _ I h) fun v k e=>?_);obtain⟨x,g,i,l,f⟩:=e;obtain⟨c,rfl,f⟩:=f;cases l;refine wpAny_truthy_bool ?_;cases c with
 |false=>exact m d k Y g Q i f
 |true=>exact⟨.bl true,g,i,rfl,f⟩
theorem Jo(g:PE X a M):PE X (.UnaryOp .Not a pos) (Jk M):=by intro d s Y H Q I h;refine UnaryOp_ (aL (g d s Y H _ I h) fun v l e=>?_);obtain⟨x,i,j,k,f⟩:=e;obtain⟨c,rfl,f⟩:=f;cases k;exact not_of (wpAny_truthy_bool ⟨.bl (!c),i,j,rfl,f⟩)
def Jp(t:TT)(M L:TE):TE:=fun Y H Q=>t Y H fun c d=>if c=true then M Y d Q else L Y d Q
theorem ze(k:PT X c D)(l:PE X a M)(n:PE X b L):PE X (.IfExp c a b pos) (Jp D M L):=by
 intro e s Y H Q I h;refine wpAny_IfExp (aL (k e s Y H _ I h) fun d f m=>?_);obtain⟨g,i,j⟩:=m;cases d with
 |true=>exact l e f Y g Q i j
 |false=>exact n e f Y g Q i j
def dE(K:Frag)(H:Hp)(a:Addr)(c:List V):Prop:=
 Rd H a (.lst c)\/
  ∃(o:Obj) (b:Array Value) (n:Nat),K.lookup a=some o/\o.cls=.type "list"/\o.dict=none/\o.data=.seq b n/\b.size<=sizeLine/\bp c b.toList
def dg(K:Frag)(H:Hp)(a:Addr)(c:List V):Prop:=
 Rd H a (.tup c)\/
  ∃(o:Obj) (b:Array Value) (n:Nat),K.lookup a=some o/\o.cls=.type "tuple"/\o.data=.seq b n/\b.size<=sizeLine/\bp c b.toList
noncomputable def Jq:Value->Option V
 |.none=>some .non
 |.bool b=>some (.bl b)
 |.int i _=>some (.int i)
 |.str x _=>some (.str x)
 |.bytes b _=>some (.byt b)
 |.float b _=>some (.flt b)
 |.ref a=>some (.ref a)
 |.type n=>some (.ty n)
 |_=>none
theorem aV.abs(r:aV x u):Jq u=some x:=by
 cases x with
 |non=>cases r;rfl
 |bl _=>cases r;rfl
 |int _=>obtain⟨t,rfl⟩:=r;rfl
 |str _=>obtain⟨t,rfl⟩:=r;rfl
 |byt _=>obtain⟨t,rfl⟩:=r;rfl
 |flt _=>obtain⟨t,rfl⟩:=r;rfl
 |ref _=>cases r;rfl
 |ty _=>cases r;rfl
theorem aV.inj(r:aV x u)(q:aV y u):x=y:=q0n (r.abs.symm.trans q.abs)
theorem bp.inj:∀{b a c},bp b c->bp a c->b=a:=by
 intro b a c h
 induction h generalizing a with
 |nil=>intro g;cases g;rfl
 |cons r _ d=>intro g;cases g with
  |cons e t'=>rw[r.inj e,d t']
theorem dE.of{K}(h:H a=some (.lst E)):dE K H a E:=.inl (.inl h)
theorem Inv.list{Y:St}(I:Inv X N Y H s)(h:dE X.K H a E):∃b,bp E b/\PlainL s.heap a b.toArray/\E.length<=sizeLine:=by
 rcases h with h |⟨o,b,n,c,d,hd,f,g,r⟩
 .obtain⟨z,b,n,r,e⟩:=h.ok I.hok;exact⟨b,r,⟨_,n,e,rfl,rfl,rfl⟩,z⟩
 .refine⟨b.toList,r,⟨o,n,I.kIn a o c,d,hd,by simpa using f⟩,?_⟩;have e:=r.length;simp only[q0E]at e;lia
theorem Inv.tuple{Y:St}(I:Inv X N Y H s)(h:dg X.K H a E):∃b,bp E b/\IsTup s.heap a b.toArray/\E.length<=sizeLine:=by
 rcases h with h |⟨o,b,n,c,d,f,g,r⟩
 .obtain⟨z,b,r,p⟩:=h.ok I.hok;exact⟨b,r,p,z⟩
 .refine⟨b.toList,r,⟨o,I.kIn a o c,d,n,by simpa using f⟩,?_⟩;have e:=r.length;simp only[q0E]at e;lia
theorem Inv.list_inj{Y:St}(I:Inv X N Y H s)(h:dE X.K H a E)(i:dE X.K H a B):E=B:=by
 obtain⟨c,r,⟨o,n,e,_,_,d⟩,_⟩:=I.list h;obtain⟨b,j,⟨l,m,f,_,_,g⟩,_⟩:=I.list i;rw[e]at f;cases f;rw[d]at g;injection g with k _
 have:c=b:=by simpa using congrArg Array.toList k
 subst this;exact r.inj j
theorem Inv.tuple_inj{Y:St}(I:Inv X N Y H s)(h:dg X.K H a E)(i:dg X.K H a B):E=B:=by
 obtain⟨c,r,⟨o,e,_,n,d⟩,_⟩:=I.tuple h;obtain⟨b,j,⟨l,f,_,m,g⟩,_⟩:=I.tuple i;rw[e]at f;cases f;rw[d]at g;injection g with k _
 have:c=b:=by simpa using congrArg Array.toList k
 subst this;exact r.inj j
def Jr:TS:=fun D Y H=>D.nx Y H
def Js(t u:TS):TS:=fun D Y H=>t { D with nx:=u D } Y H
theorem Jt:PSs X [] Jr:=fun _ _ Y H _ I h=>wpAny_execs_nil ⟨Y,H,I,h⟩
theorem Ju{st:Stmt}(b:PS X st t)(c:PSs X rest u):PSs X (st::rest) (Js t u):=by
 intro a s Y H D I h;refine wpAny_execs_cons (aL (b a s Y H { D with nx:=u D } I h) fun f d q=>?_);cases f with
 |next=>obtain⟨g,i,j,q⟩:=q;exact c a d g i D j q
 |ret v=>exact q
 |brk=>exact q
 |cont=>exact q
theorem Jv{st:Stmt}(b:PS X st t):PSs X [st] t:=by
 intro a s Y H D I h;refine wpAny_execs_cons (aL (b a s Y H D I h) fun f c q=>?_);cases f with
 |next=>exact wpAny_execs_nil q
 |ret v=>exact q
 |brk=>exact q
 |cont=>exact q
def Jw:TS:=fun D Y H=>D.bk Y H
theorem Jx:PS X (.Break pos) Jw:=fun _ _ Y H _ I h=>wpAny_Break ⟨Y,H,I,h⟩
theorem Inv.quiet{Y:St}(I:Inv X a Y H s):interactive X.env=false:=by simp[interactive,I.ok.kind]
def Jy(A:TE):TS:=fun D Y H=>A Y H fun _ a=>D.nx Y a
theorem vi(c:PE X e A)(d:autoParam (swapsWith e none pos.line X.env=pure false) Zq._auto_1):PS X (.Expr e pos) (Jy A):=by intro a s Y H D I h;exact wpAny_Expr_any (aL (c a s Y H _ I h) fun v j b=>by obtain⟨x,f,g,k,i⟩:=b;exact⟨Y,f,g,i⟩) I.quiet d
def Jz(A:TE):TS:=fun D Y H=>A Y H D.rt
theorem vj(b:PE X e A):PS X (.Return (some e) pos) (Jz A):=by intro a s Y H D I h;exact wpAny_Return_some (aL (b a s Y H _ I h) fun v i ⟨x,c,d,f,g⟩=>⟨x,Y,c,d,f,g⟩)
def JA(c:TT)(t u:TS):TS:=fun D Y H=>c Y H fun b a=>if b=true then t D Y a else u D Y a
theorem JB(m:PT X c g)(n:PSs X a t)(p:PSs X b u):PS X (.If c a b pos) (JA g t u):=by
 intro f s Y H D I h;refine wpAny_If (aL (m f s Y H _ I h) fun d i o=>?_);obtain⟨j,k,l⟩:=o;cases d with
 |true=>exact n f i Y j D k l
 |false=>exact p f i Y j D k l
abbrev TG:=V->St->Hp->(St->Hp->Prop)->Prop
abbrev jG:=List V->St->Hp->(St->Hp->Prop)->Prop
def PG(X:Cx)(target:Expr)(t:TG):Prop:=
 ∀(a:List (Addr×Obj)) (s:Shared) (Y:St) (H:Hp) (v:V) (u:Value) (Q:St->Hp->Prop),Inv X a Y H s->aV v u->t v Y H Q->
  wpAny (model X.prog X.w) X.A (assign target X.env u) (fun _ d=>∃b c,Inv X a b c d/\Q b c) X.xe s
def PGs(X:Cx)(e:List Expr)(t:jG):Prop:=
 ∀(a:List (Addr×Obj)) (s:Shared) (Y:St) (H:Hp) (vs:List V) (b:List Value) (Q:St->Hp->Prop),Inv X a Y H s->bp vs b->t vs Y H Q->
  wpAny (model X.prog X.w) X.A (assignInOrder ((assignEach e X.env).map (·.2)) b) (fun _ f=>∃c d,Inv X a c d f/\Q c d) X.xe s
abbrev vk:=V->V->V->Hp->(Hp->Prop)->Prop
def zf(X:Cx)(t:vk):Prop:=
 ∀(a:List (Addr×Obj)) (s:Shared) (Y:St) (H:Hp) (o i v:V) (b c u:Value) (Q:Hp->Prop),Inv X a Y H s->aV o b->aV i c->aV v u->t o i v H Q->
  wpAny (model X.prog X.w) X.A (setItem b c u) (fun _ e=>∃d,Inv X a Y d e/\Q d) X.xe s
abbrev ry:=V->V->Hp->VK->Prop
def vl(X:Cx)(op:Operator)(t:ry):Prop:=
 ∀(a:List (Addr×Obj)) (s:Shared) (Y:St) (H:Hp) (x y:V) (v u:Value) (Q:VK),Inv X a Y H s->aV x v->aV y u->t x y H Q->
  wpAny (model X.prog X.w) X.A (inplaceOp op v u) (EP X a Y Q) X.xe s
section
variable{X:Cx}{pos:Pos}
def vm(i:Nat):TG:=fun v Y H Q=>Q (Y.set i (some v)) H
theorem JC(b:X.N.Nodup)(c:X.N[i]? = some x)(d:Loc X.env.scope x)(e:X.fn x=true\/X.env.scope.names.lookup x=some .local:=by first |exact .inl rfl |exact .inr rfl |assumption):PG X (.Name x pos) (vm i):=by intro a s Y H v u Q I r h;exact wpAny_assign_Name (vh I b c d r (fun g f=>⟨_,H,f,h⟩) e)
def JD:jG:=fun vs Y H Q=>vs=[]/\Q Y H
def JE(t:TG)(u:jG):jG:=fun vs Y H Q=>∃v r,vs=v::r/\t v Y H fun a b=>u r a b Q
theorem JF:PGs X [] JD:=by intro a s Y H vs b Q I r h;obtain⟨e,h⟩:=h;subst e;cases r;exact assignInOrder_nil ⟨Y,H,I,h⟩
theorem JG(c:PG X e t)(d:PGs X b u)
  (f:autoParam ((assignEach (e::b) X.env).map (·.2)=assign e X.env::(assignEach b X.env).map (·.2)) Zq._auto_1):PGs X (e::b) (JE t u):=by
 intro a s Y H vs p Q I r h;obtain⟨v,q,g,h⟩:=h;subst g;cases r with
 |cons r i=>rw[f];refine assignInOrder_cons (aL (c a s Y H _ _ _ I r h) fun _ j k=>?_);obtain⟨l,m,n,o⟩:=k;exact d a j l m _ _ Q n i o
def JH(K:Frag)(n:Nat)(t:jG):TG:=fun v Y H Q=>∃a b,v=.ref a/\dg K H a b/\b.length=n/\t b Y H Q
theorem JI{k}(j:X.calm=true)(h:PGs X d t)
  (l:autoParam ((assignEach d X.env).length=n) Zq._auto_1) (f:autoParam ((assignEach d X.env).findIdx? (·.1)=none) Zq._auto_1):PG X (.Tuple d k pos) (JH X.K n t):=by
 intro c s Y H v u Q I r g;obtain⟨a,m,p,q,w,g⟩:=g;subst p;cases r;obtain⟨x,i,y,C⟩:=I.tuple q;refine assign_Tuple_tuple (I.ok.hd j) y (by simp[l,<-w,i.length]) f fun z A=>?_;have B:Inv X c Y H { s with heap:=z }:=I.kept (t':=s.toks) fun b o e=>A b o (q0v (bE e)) e;exact h c _ Y H m _ Q B (by simpa using i) g
def ji(a b:TE)(t:vk):TG:=fun v Y H Q=>a Y H fun o c=>b Y c fun i d=>t o i v d fun e=>Q Y e
theorem zg(k:PE X o g)(l:PE X i j)(m:zf X t)
  (n:autoParam (∀v,assign (.Subscript o i pos) X.env v=(do
   let b <-holding [v] (eval o X.env);let c <-holding [v,b] (eval i X.env)
   standAt pos
   holding [v,b,c] (setItem b c v)
   release [v,b,c] [])) Zs._auto_1):PG X (.Subscript o i pos) (ji g j t):=by
 intro a s Y H v u Q I r h;rw[n];refine aH (wpAny_holding (aL (k a s Y H _ I h) fun b p d=>?_));obtain⟨x,q,w,z,A⟩:=d;refine aH (wpAny_holding (aL (l a p Y q _ w A) fun c B e=>?_));obtain⟨y,C,D,E,G⟩:=e;refine aH (wpAny_standAt (aH (wpAny_holding (aL (m a B Y C x y v b c u _ D z E r G) fun _ N f=>?_))));obtain⟨J,L,M⟩:=f;exact wpAny_release ⟨Y,J,L,M⟩
def zh(a:TE)(g:TG):TS:=fun D Y H=>a Y H fun x b=>g x Y b D.nx
theorem vn(f:PE X e d)(i:PG X b g)(j:autoParam (swapsWithSole [b] e pos.line X.env=pure false) Zq._auto_1)(k:autoParam (swappedStores [b] e X.env=pure none) Zq._auto_1)
  (l:autoParam ((assignEach [b] X.env).map (·.2)=[assign b X.env]) Zq._auto_1):PS X (.Assign [b] e pos) (zh d g):=by
 intro a s Y H D I h;refine wpAny_Assign_stores (aL (f a s Y H _ I h) fun v m c=>?_) j k;obtain⟨x,n,o,p,r⟩:=c;rw[l];exact aL (i a m Y n x v _ o p r) fun _ t q=>q
theorem zi(f:X.N.Nodup)(g:X.N[i]? = some x)(j:Loc X.env.scope x)(k:PE X e d)(l:autoParam (swapsWith e (some (.Name x a)) pos.line X.env=pure false) Zq._auto_1)(m:X.fn x=true\/X.env.scope.names.lookup x=some .local:=by first |exact .inl rfl |exact .inr rfl |assumption) :
  PS X (.Assign [.Name x a] e pos) (zh d (vm i)):=by
 intro b s Y H D I h;refine wpAny_Assign_Name (aL (k b s Y H _ I h) fun v t c=>?_) l;obtain⟨y,n,o,p,q⟩:=c;exact vh o f g j p (fun u r=>⟨_,n,r,q⟩) m
def JK(i:Nat)(a:TE)(b:ry):TS:=fun D Y H=>∃x,Y[i]? = some (some x)/\a Y H fun y c=>b x y c fun z d=>D.nx (Y.set i (some z)) d
theorem JL(B:X.N.Nodup)(t:X.N[i]? = some x)(n:Loc X.env.scope x)(C:PE X e p)(E:vl X op q)(G:X.fn x=true\/X.env.scope.names.lookup x=some .local:=by first |exact .inl rfl |exact .inr rfl |assumption) :
  PS X (.AugAssign (.Name x f) op e pos) (JK i p q):=by
 intro a s Y H D I h;obtain⟨v,J,h⟩:=h;obtain⟨m,L,M⟩:=I.loc;have o:kr X.env.scope x:=by rcases n with k |k;exact .inl k;exact .inr (.inl k)
 obtain⟨u,r,l⟩:=M i x v t J o;refine wpAny_AugAssign_Name ?_;have go:wpAny (model X.prog X.w) X.A (eval e X.env) (fun w O=>wpAny (model X.prog X.w) X.A (inplaceOp op u w) (fun r Q=>wpAny (model X.prog X.w) X.A (storeName X.env x r) (fun _=>SP X a D .next) X.xe Q) X.xe O) X.xe s:=by refine aL (C a s Y H _ I h) fun w R g=>?_;obtain⟨y,S,T,U,Z⟩:=g;refine aL (E a R Y S v y u w _ T r U Z) fun z s2 j=>?_;obtain⟨zv,H2,I2,r2,q2⟩:=j;exact vh I2 B t n r2 (fun s3 I3=>⟨_,H2,I3,q2⟩) G
 rcases l with⟨b,hm⟩ |⟨b,c,hc,d⟩
 .exact wpAny_loadName_local I.ok.kind b L hm go
 .rcases b with b |b
  .exact wpAny_loadName_cell I.ok.kind b hc d go
  .rcases n with k |k
   .have:X.env.scope.names.lookup x=some .free:=b;rw[k]at this;cases this
   .have:X.env.scope.names.lookup x=some .free:=b;rw[k]at this;cases this
def zj(f:Int->Int->Int):ry:=fun x y H Q=>∃i j,x=.int i/\y=.int j/\Q (.int (f i j)) H
theorem JM:vl X .Add (zj fun i j=>i+j):=by intro a s Y H x y v u Q I b c h;obtain⟨i,j,d,e,q⟩:=h;subst d;subst e;obtain⟨t,rfl⟩:=b;obtain⟨t',rfl⟩:=c;exact iadd_int ⟨.int _,H,I.tok _,⟨_,rfl⟩,q⟩
end
def JN(c:TT)(g:TS):TS:=fun D Y H=>∃W:Nat->St->Hp->Prop,(∃m,W m Y H)/\∀m Y H,W m Y H->
 c Y H fun b a=>if b=true then ∃N:St->Hp->Prop,(∀d e,N d e->∃f,f<m/\W f d e)/\g { D with nx:=N,ct:=N,bk:=D.nx } Y a else D.nx Y a
theorem JO(x:PassesOwn (model X.prog X.w) X.A X.env X.xe)(J:PT X c t)(U:PSs X body u):PS X (.While c body [] pos) (JN t u):=by
 intro a s Y H D I h;obtain⟨W,⟨L,M⟩,d⟩:=h;refine wpAny_While (codeAny_whileLoop (fun n O=>∃y z,Inv X a y z O/\W n y z) ?_ L ⟨Y,H,I,M⟩);rintro n Q ⟨j,B,R,S⟩;refine wpAny_passesOwn x (aL (J a Q j B _ R (d n j B S)) fun b T e=>?_);obtain⟨C,E,k⟩:=e;cases b with
 |true=>
  obtain⟨N,G,k⟩:=k;rw[if_pos rfl];refine wpAny_passesOwn x (aL (U a T j C _ E k) fun f Z l=>?_);cases f with
  |next=>obtain⟨g,i,m,o⟩:=l;obtain⟨p,q,r⟩:=G g i o;exact⟨p,q,g,i,m,r⟩
  |cont=>obtain⟨g,i,m,o⟩:=l;obtain⟨p,q,r⟩:=G g i o;exact⟨p,q,g,i,m,r⟩
  |brk=>exact l
  |ret v=>exact l
 |false=>rw[if_neg q0C];exact wpAny_execs_nil ⟨j,C,E,k⟩
structure It where
 go:Nat->Hp->Prop
 yld:Nat->Hp->V->Hp->Prop
 stop:Nat->Hp->Prop
def hV(X:Cx)(a:List (Addr×Obj))(H:Hp)(b:Addr):Prop:=
 H b=none/\b≠X.env.locals/\b∉X.fs/\(b∈X.ex\/X.s₀.heap.objs.size<=b)/\(∀x c,X.env.cells.lookup x=some c->c≠b)/\∀p∈X.pn++a,p.1≠b
theorem Inv.fpOk{Y:St}{b:Addr}(I:Inv X a Y H s)(d:s.heap.objs.size<=b)(f:H' b=none):hV X a H' b:=by
 refine⟨f,Nat.ne_of_gt (q0o I.lt d),I.nofs d,.inr (q0W I.sz d),fun x c e z=>?_,fun p g z=>?_⟩
 .obtain⟨v,q⟩:=I.cell x c e;exact absurd (q0o q.lt (by rw[z];exact d)) (q0z _)
 .exact absurd (q0o (bE (I.pin p g).1) (by rw[z];exact d)) (q0z _)
structure gK (P:Program) (w:World) (K:Frag) (tg:Expr) (J:It) (fp:List Addr) (it:Addr) (tn:Nat->Heap->Prop):Prop where
 mem:it∈fp
 obj:∀i h,tn i h->∀b∈fp,∃o,h.get? b=some o/\∀v,o.data≠.cell v
 keep:∀i h h',tn i h->(∀b∈fp,∀o,h.get? b=some o->h'.get? b=some o)->tn i h'
 item:∀(X:Cx),X.prog=P->X.w=w->X.K=K->X.calm=true->∀(i:Nat) (pins:List (Addr×Obj)) (s:Shared) (Y:St) (H:Hp) (E:Value->Shared->Prop),Inv X pins Y H s->(∀b∈fp,hV X pins H b)->tn i s.heap->J.go i H->
  wpAny (model P w) X.A (pyNext (.ref it)) (fun r s1=>∃u,r=some u/\
   wpAny (model P w) X.A (letOwnedTupleGo tg (.ref it) u) (fun _ s2=>∃x H',Inv X pins Y H' s2/\aV x u/\J.yld i H x H'/\tn (i+1) s2.heap/\∀b∈fp,H' b=none) E s1) E s
 done:∀(X:Cx),X.prog=P->X.w=w->X.K=K->X.calm=true->∀(i:Nat) (pins:List (Addr×Obj)) (s:Shared) (Y:St) (H:Hp) (E:Value->Shared->Prop),Inv X pins Y H s->(∀b∈fp,hV X pins H b)->tn i s.heap->J.stop i H->
  wpAny (model P w) X.A (pyNext (.ref it)) (fun r s1=>r=none/\Inv X pins Y H s1) E s
 self:∀(A:Around) (i:Nat) (s:Shared) (Q:Value->Shared->Prop) (E:Value->Shared->Prop),tn i s.heap->Q (.ref it) s->wpAny (model P w) A (pyIter (.ref it)) Q E s
abbrev TI:=St->Hp->(It->Hp->Prop)->Prop
def zk(X:Cx)(a:List (Addr×Obj))(Y:St)(h:Expr)(R:It->Hp->Prop)(c:Value)(e:Shared):Prop:=
 ∃(it:Addr) (f:List Addr) (g:Nat->Heap->Prop) (J:It) (d:Hp),c=.ref it/\Inv X a Y d e/\gK X.prog X.w X.K h J f it g/\g 0 e.heap/\(∀b∈f,hV X a d b)/\R J d
def PI(X:Cx)(b iter:Expr)(c:TI):Prop:=
 ∀(a:List (Addr×Obj)) (s:Shared) (Y:St) (H:Hp) (R:It->Hp->Prop),Inv X a Y H s->c Y H R->
  wpAny (model X.prog X.w) X.A (eval iter X.env) (fun v d=>wpAny (model X.prog X.w) X.A (pyIter v) (zk X a Y b R) X.xe d) X.xe s
theorem rA(c:s.heap.get? it=some o)(d:o.cls=.type n)(hd:o.data=.fields vs)
    (e:["enumerate","zip","dict_itemiterator","dict_reverseitemiterator","odict_iterator","itertools.zip_longest","itertools.pairwise"].contains n=false) (a:Q () s):wpAny M A (letOwnedTupleGo b (.ref it) u) Q E s:=by
  unfold letOwnedTupleGo;cases b<;>first
    |exact bz a
    | (cases u<;>first
        |exact bz a
        | (refine aH (wpAny_load c ?_)
           rw[d,hd];show wpAny M A (if (["enumerate","zip","dict_itemiterator","dict_reverseitemiterator","odict_iterator","itertools.zip_longest","itertools.pairwise"].contains n&&vs[0]?==some (rawInt _))=true then _ else _) Q E s;rw[if_neg (by intro h;rw[e,Bool.false_and]at h;cases h)];exact bz a))
noncomputable def vo(K:Frag)(a:Addr):It:=
 ⟨fun i H=>∃b x,dE K H a b/\b[i]? = some x,fun i H x c=>c = H/\∀b,dE K H a b->b[i]? = some x,fun i H=>∃b,dE K H a b/\b.length<=i⟩
noncomputable def rB(K:Frag)(a:Addr):It:=
 ⟨fun i H=>∃b x,dg K H a b/\b[i]? = some x,fun i H x c=>c = H/\∀b,dg K H a b->b[i]? = some x,fun i H=>∃b,dg K H a b/\b.length<=i⟩
noncomputable def oG(lo:Int)(n:Nat):It:=⟨fun i _=>i<n,fun i H x a=>a = H/\x=.int (lo+i),fun i _=>n<=i⟩
theorem JP{K}(a it):gK P w K tg (vo K a) [it] it (fun i h=>h.IsListIter it a i) where
 mem:=by simp
 obj:=fun i h st b hb=>by
  have e:b=it:=by simpa using hb
  subst e;obtain⟨o,e,c,d⟩:=st;exact⟨o,e,fun v z=>by rw[d]at z;cases z⟩
 keep:=fun i h h' st k=>st.at fun o e=>k it (by simp) o e
 item:=by intro X hP hw hK hc i pins s Y H E I hf st hg;subst hP hw hK;obtain⟨xs,x,hq,hx⟩:=hg;obtain⟨its,rv,p,hz⟩:=I.list hq;obtain⟨u,hu,ru⟩:=rv.get hx;obtain⟨f0,f1,f2,f3,f4,f5⟩:=hf it (by simp);refine wpAny_pyNext_list_item st p.isList (x:=u) (by simpa using hu) fun h' st' sb=>?_;have I1:Inv X pins Y H { s with heap:=h' }:=I.turned (t':=s.toks) (fun b o hb e=>(sb.2 b hb).trans e) f0 f1 f3 f4 f5;obtain⟨o,e,c,d⟩:=id st';exact⟨u,rfl,rA (s:={ s with heap:=h' }) e c d (by decide) ⟨x,H,I1,ru,⟨rfl,fun ys hy=>by rw[I.list_inj hy hq];exact hx⟩,st',fun b hb=>(hf b hb).1⟩⟩
 done:=by intro X hP hw hK hc i pins s Y H E I hf st hg;subst hP hw hK;obtain⟨xs,hq,hx⟩:=hg;obtain⟨its,rv,p,hz⟩:=I.list hq;obtain⟨f0,f1,f2,f3,f4,f5⟩:=hf it (by simp);have hl:=rv.length;exact wpAny_pyNext_list_end (I.ok.hd hc) st p.isList (by simp;lia) fun h' eb=>⟨rfl,I.turned (t':=s.toks) (fun b o hb e=>eb b o hb e) f0 f1 f3 f4 f5⟩
 self:=fun _ _ _ _ _ st h=>wpAny_pyIter_listiter st h
theorem JQ{K}(a it):gK P w K tg (rB K a) [it] it (fun i h=>h.IsTupleIter it a i) where
 mem:=by simp
 obj:=fun i h st b hb=>by
  have e:b=it:=by simpa using hb
  subst e;obtain⟨o,e,c,d⟩:=st;exact⟨o,e,fun v z=>by rw[d]at z;cases z⟩
 keep:=fun i h h' st k=>st.at fun o e=>k it (by simp) o e
 item:=by intro X hP hw hK hc i pins s Y H E I hf st hg;subst hP hw hK;obtain⟨xs,x,hq,hx⟩:=hg;obtain⟨its,rv,p,hz⟩:=I.tuple hq;obtain⟨u,hu,ru⟩:=rv.get hx;obtain⟨f0,f1,f2,f3,f4,f5⟩:=hf it (by simp);refine wpAny_pyNext_tuple_item st (show s.heap.IsTuple a its.toArray from p) (x:=u) (by simpa using hu) fun h' st' sb=>?_;have I1:Inv X pins Y H { s with heap:=h' }:=I.turned (t':=s.toks) (fun b o hb e=>(sb.2 b hb).trans e) f0 f1 f3 f4 f5;obtain⟨o,e,c,d⟩:=id st';exact⟨u,rfl,rA (s:={ s with heap:=h' }) e c d (by decide) ⟨x,H,I1,ru,⟨rfl,fun ys hy=>by rw[I.tuple_inj hy hq];exact hx⟩,st',fun b hb=>(hf b hb).1⟩⟩
 done:=by intro X hP hw hK hc i pins s Y H E I hf st hg;subst hP hw hK;obtain⟨xs,hq,hx⟩:=hg;obtain⟨its,rv,p,hz⟩:=I.tuple hq;obtain⟨f0,f1,f2,f3,f4,f5⟩:=hf it (by simp);have hl:=rv.length;exact wpAny_pyNext_tuple_end (I.ok.hd hc) st (show s.heap.IsTuple a its.toArray from p) (by simp;lia) fun h' eb=>⟨rfl,I.turned (t':=s.toks) (fun b o hb e=>eb b o hb e) f0 f1 f3 f4 f5⟩
 self:=fun _ _ _ _ _ st h=>wpAny_pyIter_tupleiter st h
theorem JR{K}(it lo n):gK P w K tg (oG lo n) [it] it (fun i h=>IsRangeIter h it (lo+(i:Nat) * 1) ((n:Int) - (i:Nat)) 1) where
 mem:=by simp
 obj:=fun i h st b hb=>by
  have e:b=it:=by simpa using hb
  subst e;exact⟨_,st,fun v z=>by
   have z':Data.fields _=Data.cell v:=z;cases z'⟩
 keep:=fun i h h' st k=>k it (by simp) _ st
 item:=by intro X hP hw hK hc i pins s Y H E I hf st hg;subst hP hw hK;obtain⟨f0,f1,f2,f3,f4,f5⟩:=hf it (by simp);have W:=Walks.range (prog:=X.prog) (w:=X.w) (I.ok.hd hc) it lo 1 n;refine W.item i s _ _ hg st fun v h' tk hv st' kk=>?_;obtain⟨t,rfl⟩:=hv;have I1:Inv X pins Y H { s with heap:=h',toks:=tk }:=I.turned (fun b o hb e=>kk b o (by simpa using hb) e) f0 f1 f3 f4 f5;refine⟨_,rfl,rA (s:={ s with heap:=h',toks:=tk }) (n:="range_iterator") st' rfl rfl (by decide) ⟨.int (lo+i),H,I1,⟨t,?_⟩,⟨rfl,rfl⟩,st',fun b hb=>(hf b hb).1⟩⟩;rw[Int.mul_one]
 done:=by intro X hP hw hK hc i pins s Y H E I hf st hg;subst hP hw hK;obtain⟨f0,f1,f2,f3,f4,f5⟩:=hf it (by simp);exact wpAny_pyNext_range_end (I.ok.hd hc) st (by have:n<=i:=hg;lia) fun h' eb=>⟨rfl,I.turned (t':=s.toks) (fun b o hb e=>eb b o hb e) f0 f1 f3 f4 f5⟩
 self:=fun _ _ _ _ _ st h=>wpAny_pyIter_rangeiter st h
def JS(K:Frag)(c:TE):TI:=fun Y H R=>c Y H fun x b=>∃a,x=.ref a/\(∃d,dE K b a d)/\R (vo K a) b
def JT(K:Frag)(c:TE):TI:=fun Y H R=>c Y H fun x b=>∃a,x=.ref a/\(∃d,dg K b a d)/\R (rB K a) b
theorem JU(j:PE X l i):PI X y l (JS X.K i):=by
 intro c s Y H R I h;refine aL (j c s Y H _ I h) fun v f d=>?_;obtain⟨x,k,g,m,n⟩:=d;obtain⟨a,e,⟨w,r⟩,q⟩:=n;subst e;cases m;obtain⟨t,z,p,A⟩:=g.list r;refine wpAny_pyIter_list p.isList ?_;refine⟨f.heap.objs.size,[f.heap.objs.size],_,_,k,rfl,g.kept (t':=f.toks) fun b o e=>bD _ e,JP a _,⟨_,Heap.get?_push_size _ rfl,rfl,rfl⟩,fun b u=>?_,q⟩;have e:b=f.heap.objs.size:=by simpa using u
 subst e;exact g.fpOk (be _) (g.hok.fresh (be _))
theorem zl(k:PE X l j):PI X y l (JT X.K j):=by
 intro c s Y H R I h;refine aL (k c s Y H _ I h) fun v d f=>?_;obtain⟨x,m,g,n,r⟩:=f;obtain⟨a,e,⟨w,t⟩,q⟩:=r;subst e;cases n;obtain⟨i,z,p,A⟩:=g.tuple t;refine wpAny_pyIter_tuple (show d.heap.IsTuple a i.toArray from p) ?_;refine⟨d.heap.objs.size,[d.heap.objs.size],_,_,m,rfl,g.kept (t':=d.toks) fun b o e=>bD _ e,JQ a _,⟨_,Heap.get?_push_size _ rfl,rfl,rfl⟩,fun b u=>?_,q⟩;have e:b=d.heap.objs.size:=by simpa using u
 subst e;exact g.fpOk (be _) (g.hok.fresh (be _))
theorem zm{Y:St}{lo }(I:Inv X c Y H s)(g:-(2 ^ 62)<=lo)(h:lo<2 ^ 62)(i:-(2 ^ 62)<=a)(j:a<2 ^ 62)
  (q:R (oG lo (a - lo).toNat) H):wpAny (model X.prog X.w) X.A (pyIter (.ref s.heap.objs.size)) (zk X c Y y R) E { s with heap:=s.heap.push { cls:=.type "range",data:=.fields #[.int lo t,.int a u,.int 1 v] },toks:=d }:=by
 refine wpAny_pyIter_range (IsRange.new ..) (small_one g h i j) ?_;have f:Inv X c Y H { s with heap:=s.heap.push { cls:=.type "range",data:=.fields #[.int lo t,.int a u,.int 1 v] },toks:=d }:=I.kept fun b o e=>bD _ e;refine⟨(s.heap.push { cls:=.type "range",data:=.fields #[.int lo t,.int a u,.int 1 v] }).objs.size,[(s.heap.push { cls:=.type "range",data:=.fields #[.int lo t,.int a u,.int 1 v] }).objs.size],_,_,H,rfl,
  f.kept (t':=d) fun b o e=>bD _ e,JR _ lo (a - lo).toNat,?_,fun b m=>?_,q⟩
 .have k:lo+((0:Nat):Int) * 1=lo:=by simp
  have l:(((a - lo).toNat:Nat):Int) - ((0:Nat):Int)=Builtin.Range.rangeSize lo a 1:=by rw[rangeSize_one];split<;>lia
  show IsRangeIter _ _ (lo+((0:Nat):Int) * 1) ((((a - lo).toNat:Nat):Int) - ((0:Nat):Int)) 1;rw[k,l];exact Heap.get?_push_size _ rfl
 .have e:b=(s.heap.push { cls:=.type "range",data:=.fields #[.int lo t,.int a u,.int 1 v] }).objs.size:=by simpa using m
  subst e;exact f.fpOk (be _) (f.hok.fresh (be _))
def JV(a:TA):TI:=fun Y H R=>a Y H fun vs b=>∃j:Int,vs=[.int j]/\-(2 ^ 62)<=j/\j<2 ^ 62/\R (oG 0 j.toNat) b
def JW(a:TA):TI:=fun Y H R=>a Y H fun vs b=>∃i j:Int,vs=[.int i,.int j]/\(-(2 ^ 62)<=i/\i<2 ^ 62/\-(2 ^ 62)<=j/\j<2 ^ 62)/\R (oG i (j - i).toNat) b
theorem JX(g:Gl X "range")(i:X.mg "range" = none)(k:PA X [a] f)(l:autoParam (starEach [a] X.env=[(false,eval a X.env)]) Zq._auto_1):PI X y (.Call (.Name "range" p) [a] [] pos) (JV f):=by
 intro b s Y H R I h;refine Call_ (kt I g i boot_range (PyProof.Rows.callWith_type1 (aL (k pos b s Y H _ I h) fun v w c=>?_) l rfl));obtain⟨vs,x,m,n,d⟩:=c;obtain⟨j,e,d,o,q⟩:=d;subst e;cases n with
 |cons r u=>cases u;obtain⟨t,rfl⟩:=r;exact call_range_1 (zm m (by lia) (by lia) d o (by simpa using q))
theorem JY{y:Expr}{p pos}(l:Gl X "range")(m:X.mg "range" = none)(n:PA X [a,b] k)(o:autoParam (starEach [a,b] X.env=[(false,eval a X.env),(false,eval b X.env)]) Zq._auto_1)(c:autoParam (starEach [b] X.env=[(false,eval b X.env)]) Zq._auto_1) :
  PI X y (.Call (.Name "range" p) [a,b] [] pos) (JW k):=by
 intro d s Y H R I h;refine Call_ (kt I l m boot_range (PyProof.Rows.callWith_type1 (aL (n pos d s Y H _ I h) fun C D u=>?_) (by rw[o,c]) (by rw[c];rfl)));obtain⟨vs,E,v,w,f⟩:=u;obtain⟨i,j,e,⟨f,x,z,A⟩,q⟩:=f;subst e;cases w with
 |cons r g=>
  cases g with
  |cons B g=>cases g;obtain⟨t,rfl⟩:=r;obtain⟨t',rfl⟩:=B;exact call_range_2 (zm v f x z A q)
def JZ(d:TI)(g:TG)(e:TS):TS:=fun D Y H=>d Y H fun J f=>∃W:Nat->Nat->St->Hp->Prop,(∃m,W 0 m Y f)/\∀i m Y H,W i m Y H->
 (J.stop i H/\D.nx Y H)\/(J.go i H/\∃N:St->Hp->Prop,(∀b a,N b a->∃c,c<m/\W (i+1) c b a)/\∀x a,J.yld i H x a->g x Y a fun h j=>e { D with nx:=N,ct:=N,bk:=D.nx } h j)
noncomputable def oH(a:List Addr)(h:Heap):List (Addr×Obj):=a.filterMap fun b=>(h.get? b).map fun o=>(b,o)
theorem rC(c:b∈a)(e:h.get? b=some o):(b,o)∈oH a h:=q2x.mpr ⟨b,c,by rw[e];rfl⟩
theorem Ka(c:p∈oH a h):p.1∈a/\h.get? p.1=some p.2:=by
 obtain⟨b,hb,e⟩:=q2x.mp c;cases q:h.get? b with
 |none=>rw[q]at e;cases e
 |some o=>rw[q]at e;have d:(b,o)=p:=q0n e;subst d;exact⟨hb,q⟩
theorem Inv.pinned{Y:St}(I:Inv X a Y H s)(h:∀b∈c,hV X a H b)(i:∀b∈c,∃o,s.heap.get? b=some o/\∀v,o.data≠.cell v):Inv X (a++oH c s.heap) Y H s:=
 I.pins_of fun p j=>(q0b.mp j).elim (fun z=>I.pin p (bf _ z)) fun z=>by obtain⟨g,e⟩:=Ka z;obtain⟨k,f1,f2,_⟩:=h p.1 g;obtain⟨o,f,d⟩:=i p.1 g;rw[e]at f;cases f;exact⟨e,k,f1,f2,d⟩
theorem Inv.unpinned{Y:St}(I:Inv X (a++c) Y H s):Inv X a Y H s:=I.pins_of fun p b=>I.pin p (bf _ (bj _ b))
theorem Kb(B:PassesOwn (model X.prog X.w) X.A X.env X.xe)(hc:X.calm=true)(hi:PI X y iter wi)(hg:PG X y g)(p:PSs X body tb)
  (hs:autoParam (∀x,foldedSetIterable iter X.env x=pure x) Zs._auto_1):PS X (.For y iter body [] pos) (JZ wi g tb):=by
 intro a s Y H D I h;refine wpAny_For (aL (hi a s Y H _ I h) fun v s1 h1=>aL h1 fun a3 s2 h2=>?_) hs;obtain⟨it,C,tn,J,H2,e,I2,T,a0,f2,W,⟨m0,w0⟩,E⟩:=h2;subst e;have c:∀{q:Hp},(∀b∈C,q b=none)->∀b∈C,hV X a q b:=fun hn b p=>⟨hn b p,(f2 b p).2⟩
 refine codeAny_forLoop_any (fun n s'=>∃i G q,Inv X a G q s'/\tn i s'.heap/\(∀b∈C,q b=none)/\W i n G q) ?_ m0 ⟨0,Y,H2,I2,a0,fun b p=>(f2 b p).1,w0⟩;rintro n s3 ⟨i,L,H3,I3,M,O,w3⟩;rcases E i n L H3 w3 with⟨stop,qn⟩ |⟨go,N,hN,step⟩
 .refine wpAny_passesOwn B (aL (T.done X rfl rfl rfl hc i a s3 L H3 X.xe I3 (c O) M stop) fun r s4 Q=>?_);obtain⟨hr,I4⟩:=Q;subst hr;exact wpAny_execs_nil ⟨L,H3,I4,qn⟩
 .refine wpAny_passesOwn B (aL (T.item X rfl rfl rfl hc i a s3 L H3 X.xe I3 (c O) M go) fun r s4 R=>?_);obtain⟨u,hr,h4⟩:=R;subst hr;refine wpAny_passesOwn B (aL h4 fun _ s5 S=>?_);obtain⟨x,H5,I5,r5,y5,z,a1⟩:=S;have a2:=I5.pinned (c a1) (T.obj _ _ z);refine wpAny_passesOwn B (aL (hg _ s5 L H5 x u _ a2 r5 (step x H5 y5)) fun _ s6 U=>?_);obtain⟨Y6,H6,I6,q6⟩:=U;refine wpAny_passesOwn B (aL (p _ s6 Y6 H6 _ I6 q6) fun f s7 t=>?_);have again:∀{j:St}{k:Hp},Inv X (a++oH C s5.heap) j k s7->N j k->∃m,m<n/\∃i G q,Inv X a G q s7/\tn i s7.heap/\(∀b∈C,q b=none)/\W i m G q:=fun {j k} l Z=>by obtain⟨m',hm,w7⟩:=hN j k Z;refine⟨m',hm,i+1,j,k,l.unpinned,T.keep _ _ _ z fun b p o e=>(l.pin (b,o) (bf _ (bf _ (rC p e)))).1,fun b p=>?_,w7⟩;obtain⟨o,e,d⟩:=T.obj _ _ z b p;exact(l.pin (b,o) (bf _ (bf _ (rC p e)))).2.1
  cases f with
  |next=>obtain⟨j,k,l,Z⟩:=t;exact again l Z
  |cont=>obtain⟨j,k,l,Z⟩:=t;exact again l Z
  |brk=>obtain⟨j,k,l,t⟩:=t;exact⟨j,k,l.unpinned,t⟩
  |ret v=>obtain⟨x7,j,k,l,r7,t⟩:=t;exact⟨x7,j,k,l.unpinned,r7,t⟩
abbrev R2:=V->V->Hp->VK->Prop
def cn(X:Cx)(f:Value->Value->Sem Value)(r:R2):Prop:=
 ∀(a:List (Addr×Obj)) (s:Shared) (Y:St) (H:Hp) (x y:V) (v u:Value) (Q:VK),Inv X a Y H s->aV x v->aV y u->r x y H Q->
  wpAny (model X.prog X.w) X.A (f v u) (EP X a Y Q) X.xe s
def vp(X:Cx)(f:Value->Sem Value)(r:V->Hp->VK->Prop):Prop:=
 ∀(a:List (Addr×Obj)) (s:Shared) (Y:St) (H:Hp) (x:V) (v:Value) (Q:VK),Inv X a Y H s->aV x v->r x H Q->
  wpAny (model X.prog X.w) X.A (f v) (EP X a Y Q) X.xe s
def fR(X:Cx)(f:Value)(r:List V->Hp->VK->Prop):Prop:=
 ∀(a:List (Addr×Obj)) (s:Shared) (Y:St) (H:Hp) (b:List V) (c:List Value) (Q:VK),Inv X a Y H s->bp b c->r b H Q->
  wpAny (model X.prog X.w) X.A (call f c) (EP X a Y Q) X.xe s
def oI(r:R2)(a b:TE):TE:=fun Y H Q=>a Y H fun x c=>b Y c fun y d=>r x y d Q
def Kc(r:V->Hp->VK->Prop)(a:TE):TE:=fun Y H Q=>a Y H fun x b=>r x b Q
def rI(C:Int->Int->Prop)(g:Int->Int->V):R2:=fun x y H Q=>∃i j,x=.int i/\y=.int j/\C i j/\Q (g i j) H
def hZ(g:Int->Int->V):R2:=fun x y H Q=>∃i j,x=.int i/\y=.int j/\Q (g i j) H
def rU(g:Int->V):V->Hp->VK->Prop:=fun x H Q=>∃i,x=.int i/\Q (g i) H
theorem vq(k:PE X a z)(G:PE X b p){Y:St}{R:V->V->Hp->Prop}(I:Inv X d Y H s)
  (h:z Y H fun x i=>p Y i fun y e=>R x y e) {f:Value->Value->Sem Value}
  (l:∀v u g x y e,Inv X d Y e g->aV x v->aV y u->R x y e->wpAny (model X.prog X.w) X.A (f v u) Q X.xe g) :
  wpAny (model X.prog X.w) X.A (eval a X.env) (fun v m=>wpAny (model X.prog X.w) X.A (eval b X.env) (fun u o=>wpAny (model X.prog X.w) X.A (f v u) Q X.xe o) X.xe m) X.xe s:=by
 refine aL (k d s Y H _ I h) fun v q j=>?_;obtain⟨x,i,r,t,B⟩:=j;refine aL (G d q Y i _ r B) fun u g j=>?_;obtain⟨y,e,C,D,E⟩:=j;exact l v u g x y e C t D E
theorem Kd(e:cn X (binaryOp op) r)(f:PE X a z)(m:PE X b p):PE X (.BinOp a op b pos) (oI r z p):=by intro d s Y H Q I h;exact wpAny_BinOp (vq f m I h fun v u g x y i j k l q=>e d g Y i x y v u Q j k l q)
theorem zn(f:vp X (unaryOp op) r)(g:PE X a z):PE X (.UnaryOp op a pos) (Kc r z):=by intro d s Y H Q I h;exact UnaryOp_ (aL (g d s Y H _ I h) fun v i e=>by obtain⟨x,j,k,l,m⟩:=e;exact f d i Y j x v Q k l m)
theorem vr{g:Int->Int->Int}
  (rule:∀i j  t u  s  Q  E,C i j->Q (.int (g i j) s.toks) { s with toks:=s.toks+1 }->wpAny (model X.prog X.w) X.A (f (.int i t) (.int j u)) Q E s) :
  cn X f (rI C fun i j=>.int (g i j)):=by
 intro d s Y H x y v u Q I e k h;obtain⟨i,j,rfl,rfl,l,q⟩:=h;obtain⟨t,rfl⟩:=e;obtain⟨t',rfl⟩:=k;exact rule i j t t' s _ _ l ⟨.int (g i j),H,I.tok _,⟨_,rfl⟩,q⟩
theorem zo{g:Int->Int->Int}
  (rule:∀i j  t u  s  Q  E,Q (.int (g i j) s.toks) { s with toks:=s.toks+1 }->wpAny (model X.prog X.w) X.A (f (.int i t) (.int j u)) Q E s) :
  cn X f (hZ fun i j=>.int (g i j)):=by
 intro d s Y H x y v u Q I e k h;obtain⟨i,j,rfl,rfl,q⟩:=h;obtain⟨t,rfl⟩:=e;obtain⟨t',rfl⟩:=k;exact rule i j t t' s _ _ ⟨.int (g i j),H,I.tok _,⟨_,rfl⟩,q⟩
theorem vt{g:Int->Int->Bool}
  (rule:∀i j  t u  s  Q  E,Q (.bool (g i j)) s->wpAny (model X.prog X.w) X.A (f (.int i t) (.int j u)) Q E s) :
  cn X f (hZ fun i j=>.bl (g i j)):=by
 intro d s Y H x y v u Q I e k h;obtain⟨i,j,rfl,rfl,q⟩:=h;obtain⟨t,rfl⟩:=e;obtain⟨t',rfl⟩:=k;exact rule i j t t' s _ _ ⟨.bl (g i j),H,I,rfl,q⟩
def rD(i j:Int):Prop:=0<j/\j<1073741824
def vu(i j:Int):Prop:=0<=j/\j<=1000000/\i.natAbs<2 ^ 64
def oJ(i j:Int):Prop:=(-(2 ^ 64)<i/\i<2 ^ 64)\/(-(2 ^ 64)<j/\j<2 ^ 64)
theorem oJ.ok(h:oJ i j):IntMulOk i j:=by
 rcases h with⟨d,e⟩ |⟨d,e⟩
 .exact .of_left (intBits_le_64 d e)
 .exact .of_right (intBits_le_64 d e)
theorem Ke:cn X (binaryOp .Add) (hZ fun i j=>.int (i+j)):=zo fun _ _ _ _ _ _ _ q=>add_int q
theorem Kf:cn X (binaryOp .Sub) (hZ fun i j=>.int (i - j)):=zo fun _ _ _ _ _ _ _ q=>sub_int q
theorem Kg:cn X (binaryOp .Mult) (rI oJ fun i j=>.int (i * j)):=vr fun _ _ _ _ _ _ _ d q=>mul_int q d.ok
theorem Kh:cn X (binaryOp .Mod) (rI (fun _ j=>0<j) fun i j=>.int (i % j)):=vr fun i j _ _ _ _ _ d q=>by have e:(0:Int)<j:=d;exact mod_int' (by lia) (by rw[q19 i (by lia)];exact q)
theorem Ki:cn X (binaryOp .Pow) (rI vu fun i j=>.int (i ^ j.toNat)):=vr fun _ _ _ _ _ _ _ d q=>pow_int_small d.1 d.2.1 d.2.2 q
theorem Kj{g:Int->Int}
  (rule:∀i  t  s  Q  E,Q (.int (g i) s.toks) { s with toks:=s.toks+1 }->wpAny (model X.prog X.w) X.A (f (.int i t)) Q E s) :
  vp X f (rU fun i=>.int (g i)):=by
 intro d s Y H x v Q I e h;obtain⟨i,rfl,q⟩:=h;obtain⟨t,rfl⟩:=e;exact rule i t s _ _ ⟨.int (g i),H,I.tok _,⟨_,rfl⟩,q⟩
theorem zp:vp X (unaryOp .USub) (rU fun i=>.int (-i)):=Kj fun _ _ _ _ _ q=>neg_int q
theorem jj{Y:St}(I:Inv X d Y H s)(q:Q (.bl k) H)(e:k=f):EP X d Y Q (.bool f) s:=by subst e;exact⟨.bl k,H,I,rfl,q⟩
theorem vv:cn X (compareOp .Lt) (hZ fun i j=>.bl (decide (i<j))):=vt fun _ _ _ _ _ _ _ q=>lt_int q
theorem oK:cn X (compareOp .LtE) (hZ fun i j=>.bl (decide (i<=j))):=vt fun _ _ _ _ _ _ _ q=>le_int q
theorem zr:cn X (compareOp .Gt) (hZ fun i j=>.bl (decide (j<i))):=vt fun _ _ _ _ _ _ _ q=>gt_int q
theorem Kk:cn X (compareOp .Is) (fun x y H Q=>y=.non/\Q (.bl (decide (x=.non))) H):=by
 intro d s Y H x y v u Q I e f h;obtain⟨rfl,q⟩:=h;cases f;refine is_none_gen (jj I q ?_);cases x<;>first
  |(cases e;rfl)
  |(obtain⟨t,rfl⟩:=e;rfl)
theorem zt:cn X (compareOp .IsNot) (fun x y H Q=>y=.non/\Q (.bl (!decide (x=.non))) H):=by
 intro d s Y H x y v u Q I e f h;obtain⟨rfl,q⟩:=h;cases f;refine isnot_none_gen (jj I q ?_);cases x<;>first
  |(cases e;rfl)
  |(obtain⟨t,rfl⟩:=e;rfl)
theorem bq(b)(h:autoParam (op≠.In) Zr._auto_1)(d:autoParam (op≠.NotIn) Zr._auto_1):behindInMarks op b=false:=by
 have e:(op==CmpOp.In)=false:=by cases op<;>first |rfl |exact absurd rfl h
 have f:(op==CmpOp.NotIn)=false:=by cases op<;>first |rfl |exact absurd rfl d
 cases b<;>simp[behindInMarks,e,f]
theorem Kl(e:cn X (compareOp op) r)(f:PE X a m)(t:PE X b l)(i:behindInMarks op b=false):PE X (.Compare a [op] [b] pos) (oI r m l):=by intro d s Y H Q I h;exact wpAny_Compare1 (vq f t I h fun v u j x y k n o p q=>e d j Y k x y v u Q n o p q) i
def zu(t:TE):TT:=fun Y H Q=>t Y H fun x d=>∃k,x=.bl k/\Q k d
theorem zw(f:cn X (compareOp op) r)(i:PE X a m)(M:PE X b l)(j:behindInMarks op b=false):PT X (.Compare a [op] [b] pos) (zu (oI r m l)):=by
 intro d s Y H Q I h;refine wpAny_isTrue_Compare1 (aL (i d s Y H _ I h) fun v n ⟨x,o,p,q,t⟩=>aL (M d n Y o _ p t) fun u w ⟨y,A,B,C,D⟩=>
  aL (f d w Y A x y v u _ B q C D) fun c N ⟨z,E,G,J,k,e,L⟩=>?_) j
 subst e;cases J;exact wpAny_truthy_bool ⟨E,G,L⟩
def zx(r e:R2)(m l g:TE):TE:=fun Y H Q=>m Y H fun x f=>l Y f fun y h=>r x y h fun z d=>∃k,z=.bl k/\
 (if k=true then g Y d fun i j=>e y i j Q else Q (.bl false) d)
theorem Km(w:cn X (compareOp op) r)(j:cn X (compareOp i) n)(A:PE X a m)(hb:PE X b l)(B:PE X c g)
  (C:lastMarks [op,i] [b,c]=false:=by with_unfolding_all rfl):PE X (.Compare a [op,i] [b,c] pos) (zx r n m l g):=by
 intro f s Y H Q I h;refine Compare_chain (aL (A f s Y H _ I h) fun v D ⟨x,E,G,J,L⟩=>chain_link (aL (hb f D Y E _ G L) fun u M ⟨y,N,O,o,R⟩=>
  aL (w f M Y N x y v u _ O J o R) fun d S ⟨z,p,q,T,k,e,t⟩=>?_)) C
 subst e;cases T;refine wpAny_truthy_bool ?_;cases k with
 |false=>exact ite_ff ⟨.bl false,p,q,rfl,t⟩
 |true=>exact ite_tt (chain_last (aL (B f S Y p _ q t) fun U s4 ⟨z',Z,I4,r4,q4⟩=>j f s4 Y Z y z' u U Q I4 o r4 q4))
theorem Kn(w:cn X (compareOp op) r)(j:cn X (compareOp i) n)(A:PE X a m)(hb:PE X b l)(B:PE X c g)
  (C:lastMarks [op,i] [b,c]=false:=by with_unfolding_all rfl):PT X (.Compare a [op,i] [b,c] pos) (zu (zx r n m l g)):=by
 intro f s Y H Q I h;refine isTrue_chain (aL (A f s Y H _ I h) fun v D ⟨x,E,G,J,L⟩=>test_link (aL (hb f D Y E _ G L) fun u M ⟨y,N,O,o,R⟩=>
  aL (w f M Y N x y v u _ O J o R) fun d S ⟨z,p,q,T,k,e,t⟩=>?_)) C
 subst e;cases T;refine wpAny_truthy_bool ?_;cases k with
 |false=>obtain⟨k',U,Z⟩:=t;cases U;exact ite_ff ⟨p,q,Z⟩
 |true=>refine ite_tt (test_last (aL (B f S Y p _ q t) fun w' s4 ⟨z',H4,I4,r4,q4⟩=>aL (j f s4 Y H4 y z' u w' _ I4 o r4 q4) fun d' s5 zq=>?_));obtain⟨z2,H5,I5,r5,k2,e2,q5⟩:=zq;subst e2;cases r5;exact wpAny_truthy_bool ⟨H5,I5,q5⟩
theorem eL:(sizeLine:Nat)<2 ^ 63:=by rw[sizeLine_eq];decide
theorem vals1(r:bp [x] d):∃u,d=[u]/\aV x u:=by
 cases r with
 |cons e f=>cases f;exact⟨_,rfl,e⟩
theorem vals2(r:bp [x,y] d):∃u e,d=[u,e]/\aV x u/\aV y e:=by
 cases r with
 |cons f h=>
  cases h with
  |cons i j=>cases j;exact⟨_,_,rfl,f,i⟩
theorem Ko(n:X.calm=true):fR X (.builtin "min") (fun e H Q=>∃i j,e=[.int i,.int j]/\Q (.int (if j<i then j else i)) H):=by
 intro f s Y H e o Q I r h;obtain⟨i,j,rfl,q⟩:=h;obtain⟨u,p,rfl,⟨t,rfl⟩,⟨t',rfl⟩⟩:=vals2 r;refine min_two_ints (I.ok.hd n) fun v w k=>⟨_,H,I.kept k,?_,q⟩
 by_cases d:j<i
 .rw[if_pos d,if_pos d];exact⟨_,rfl⟩
 .rw[if_neg d,if_neg d];exact⟨_,rfl⟩
theorem Kp:fR X (.builtin "divmod") (fun d H Q=>∃i j,d=[.int i,.int j]/\rD i j/\∀p,H p=none->Q (.ref p) (aI H p (.tup [.int (i / j),.int (i % j)]))):=by intro f s Y H d n Q I r h;obtain⟨i,j,rfl,⟨v,w⟩,q⟩:=h;obtain⟨u,x,rfl,⟨t,rfl⟩,⟨t',rfl⟩⟩:=vals2 r;refine divmod_int (by lia) ?_ (.inl (PyProof.noPylong_small (by lia)));rw[Int.fdiv_eq_ediv_of_nonneg i (by lia),q19 i (by lia)];have k:H s.heap.objs.size=none:=I.hok.fresh (be _);refine⟨.ref s.heap.objs.size,_,?_,rfl,q _ k⟩;refine I.laid (fun b o e=>bD _ e) (be _) ⟨by simp only[q0l,q0F];rw[sizeLine_eq];decide,[.int (i / j) s.toks,.int (i % j) (s.toks+1)],.cons ⟨_,rfl⟩ (.cons ⟨_,rfl⟩ .nil),?_⟩;exact⟨_,Heap.get?_push_size s.heap rfl,rfl,0,rfl⟩
structure fS (h:Heap) (x dx C:Addr) (mA:Str->Option Value):Prop where
 obj:h.get? x=some (instObj C dx)
 ns:h.Ns1 dx mA
 ne:dx≠x
theorem Kq{h:Heap}(n:h.Ns1 c d):∃f,h.get? c=some f/\∀name,PySem.W.lookIn name f=some (d name):=by
 obtain⟨o,g,p,i,hd,j,_,k⟩:=n;refine⟨o,i,fun name=>?_⟩;have e:=k name;unfold nsFind findBy at e;rw[<-Array.find?_toList]at e;unfold PySem.W.lookIn;rw[hd];dsimp only;split
 .rename_i y q;rw[q]at e;exact congrArg some e
 .rename_i q;rw[q]at e;have a:g.toList.any (·.refKey)=false:=by rw[List.any_eq_false];intro y l;obtain⟨z,t,b⟩:=j y (Array.mem_toList_iff.mp l);simp[DictEntry.refKey,b]
  have m:¬ g.toList.any (·.refKey)=true:=by rw[a];exact q0C
  rw[if_neg m];exact congrArg some e
theorem fS.look(I:fS h x b C c):∃a,PySem.W.InstAt h x (instObj C b) C (some a)/\∀name,PySem.W.lookIn name a=some (c name):=
 let⟨a,d,e⟩:=Kq I.ns
 ⟨a,⟨I.obj,rfl,rfl,d⟩,e⟩
theorem Kr{K:Frag}(X:K.In s.heap)(I:fS s.heap x q C k)(b:plainGet K C name=true)(c:hasDictIn K C=true)
  (d:findIn K (.ref C) name=some none) (e:k name=some v) (a:PySem.W.handedIn v=true) (h:Q v { s with toks:=s.toks+1 }) :
  wpAny (model prog w) A (getAttr (.ref x) name expr) Q E s:=by
 obtain⟨i,J,g⟩:=I.look;exact PySem.W.get_value X J (q12 b).1 (PySem.W.findObj_own c d rfl (by rw[g,e])) a h
theorem Ks{K:Frag}(X:K.In s.heap)(I:fS s.heap x q C k)(a:plainGet K C name=true)
  (b:findIn K (.ref C) name=some (some (.ref f))) (c:isFn K (.ref f)=true) (d:k name=none) (h:Q (.ref f,[.ref x]) s) :
  wpAny (model prog w) A (getMethod (.ref x) name i) Q E s:=by
 obtain⟨e,J,g⟩:=I.look;exact PySem.W.method_fn X J (q12 a).1 (q12 a).2 b (beq_iff_eq.mp c) (by show(PySem.W.lookIn name e).map (·.isSome)=some false;rw[g,d];rfl) h
theorem Kt{K:Frag}(X:K.In s.heap)(I:fS s.heap x q C k)
  (m:findIn K (.ref C) "__setattr__" = some (some (.builtin "object.__setattr__"))) (n:PySem.W.plainOver K C=true) (o:PySem.W.takerIn K C name=some none) (p:hasDictIn K C=true)
  (t:PySem.Within k l) (u:l.length<=sizeLine)
  (h:∀e,fS e x q C (fun y=>if y=name then some v else k y)->Heap.SameBut q s.heap e->Q () { s with heap:=e,toks:=s.toks+2 }) :
  wpAny (model prog w) A (setAttr (.ref x) name v) Q E s:=by
 obtain⟨H,J,L⟩:=I.look;refine PySem.W.set_plain X J m (PySem.W.osa_open (s:={ s with toks:=s.toks+1 }) (r:=none) X J n o fun b=>?_);obtain⟨M,z,g⟩:=PySem.W.any_some p;have B:s.heap.get? x=some ⟨.ref C,some q,.plain,#[]⟩:=I.obj;refine aH (bz (aH (aH (wpAny_loadPart B (aH (PySem.W.Looks.here (s:={ s with toks:=s.toks+1 }) (PySem.W.looks_clsIn X z) ?_))))));rw[g];refine bz (a:=some q) (aH (bz (aH ?_)));refine wpAny_nsSet1 (s:={ s with toks:=s.toks+1 }) I.ns fun e c d=>?_;obtain⟨N,D,G,cL,i,j⟩:=c.count (PySem.Within.cons name v t);refine aH (wpAny_lookBehind cL (by rw[i];exact pastItsLine_dict (q0W j (by rw[q0l];lia))) ?_);exact bz (h _ ⟨(d.2 _ (Ne.symm I.ne)).trans I.obj,c,I.ne⟩ d)
theorem Ku{s:Shared}{K:Frag}(X:K.In s.heap)(b:makesIn K C=true)
  (c:findIn K (.ref C) "__init__" = some (some (.ref f))) (e:PySem.W.typeIn K (.ref f)=some (.type "function"))
  (h:codeAny (model prog w) (A.under (.builtin "type.__call__" ⟨.ref C::vs,a⟩)) (.call (.ref f) ⟨.ref (s.heap.objs.size+1)::vs,a⟩) (PySem.W.InitBack (s.heap.objs.size+1) R)
   { s with heap:=(s.heap.push emptyDict).push (instObj C s.heap.objs.size) }) :
  codeAny (model prog w) A (.call (.ref C) ⟨vs,a⟩) R s:=by
 obtain⟨i,g,d,t,os⟩:=s;exact PySem.W.make_core (PySem.W.makes_of X b) (PySem.W.looks_findIn X c) (fun self=>PySem.W.bind_fn X self e) (.inl rfl) h
noncomputable def cH(f:Str)(v:V):List (Str×V)->List (Str×V)
 |[]=>[(f,v)]
 |(g,x)::r=>if g=f then(g,v)::r else(g,x)::cH f v r
theorem zy(f g v):∀fs,(cH f v fs).lookup g=if g=f then some v else fs.lookup g
 |[]=>by
  show List.lookup g [(f,v)]=_
  by_cases h:g=f
  .have hb:(g==f)=true:=beq_iff_eq.mpr h;simp only[List.lookup,hb,if_pos h]
  .have hb:(g==f)=false:=beq_eq_false_iff_ne.mpr h;simp only[List.lookup,hb,if_neg h]
 | (k,x)::r=>by
  have b:=zy f g v r;rw[show cH f v ((k,x)::r)=(if k=f then(k,v)::r else(k,x)::cH f v r) from rfl]
  by_cases a:k=f
  .rw[if_pos a]
   by_cases h:g=k
   .have hb:(g==k)=true:=beq_iff_eq.mpr h;simp only[List.lookup,hb,if_pos (h.trans a)]
   .have hb:(g==k)=false:=beq_eq_false_iff_ne.mpr h;simp only[List.lookup,hb,if_neg (fun e:g=f=>h (e.trans a.symm))]
  .rw[if_neg a]
   by_cases h:g=k
   .have hb:(g==k)=true:=beq_iff_eq.mpr h;simp only[List.lookup,hb,if_neg (fun e:g=f=>a (h.symm.trans e))]
   .have hb:(g==k)=false:=beq_eq_false_iff_ne.mpr h;simp only[List.lookup,hb];exact b
theorem vx(f v):∀fs,f∈(cH f v fs).map (·.1)/\∀g,g∈fs.map (·.1)->g∈(cH f v fs).map (·.1)
 |[]=>⟨by simp[cH],fun g h=>by simp at h⟩
 | (k,x)::r=>by
  obtain⟨b,c⟩:=vx f v r;rw[show cH f v ((k,x)::r)=(if k=f then(k,v)::r else(k,x)::cH f v r) from rfl]
  by_cases a:k=f
  .rw[if_pos a];subst a;exact⟨by simp,fun g h=>by simpa using h⟩
  .rw[if_neg a];refine⟨?_,fun g h=>?_⟩
   .rw[q0c];exact bG _ b
   .rw[q0c]at h ⊢;rcases q0d.mp h with e |e
    .exact q0d.mpr (.inl e)
    .exact bG _ (c g e)
theorem zA(f v):∀fs,(cH f v fs).length<=fs.length+1
 |[]=>by simp[cH]
 | (k,x)::r=>by
  have b:=zA f v r;rw[show cH f v ((k,x)::r)=(if k=f then(k,v)::r else(k,x)::cH f v r) from rfl]
  by_cases a:k=f
  .rw[if_pos a,q0l,q0l];lia
  .rw[if_neg a,q0l,q0l];lia
theorem eZ.some_of(r:eZ (some v) o):∃u,o=some u/\aV v u:=by
 cases o with
 |none=>exact(show False from r).elim
 |some u=>exact⟨u,rfl,r⟩
theorem eZ.none_of(r:eZ none o):o=none:=by
 cases o with
 |none=>rfl
 |some u=>exact(show False from r).elim
theorem Kv(r:aV v u):PySem.W.handedIn u=true:=by
 cases v with
 |non=>cases(show u=Value.none from r);rfl
 |bl b=>cases(show u=Value.bool b from r);rfl
 |int i=>obtain⟨t,e⟩:=(show ∃t,u=Value.int i t from r);cases e;rfl
 |str x=>obtain⟨t,e⟩:=(show ∃t,u=Value.str x t from r);cases e;rfl
 |byt b=>obtain⟨t,e⟩:=(show ∃t,u=Value.bytes b t from r);cases e;rfl
 |flt b=>obtain⟨t,e⟩:=(show ∃t,u=Value.float b t from r);cases e;rfl
 |ref a=>cases(show u=Value.ref a from r);rfl
 |ty n=>cases(show u=Value.type n from r);rfl
theorem rE(c:bH P w H h)(e:H a=some (.ins C I fs)):∃b,fS h a I C b/\(∀f,eZ (fs.lookup f) (b f))/\PySem.Within b (fs.map (·.1))/\fs.length<=1000/\H I=some (.own a):=by
 obtain⟨d,z,ne,ob,b,n,r,q⟩:=(show cw P w H h a (.ins C I fs) from c a _ e)
 exact⟨b,⟨ob,n,ne⟩,r,q,z,d⟩
structure di (K:Frag) (C:Addr):Prop where
 pg:plainGet K C Str.empty=true
 hd:hasDictIn K C=true
 po:PySem.W.plainOver K C=true
 sa:findIn K (.ref C) "__setattr__" = some (some (.builtin "object.__setattr__"))
theorem di.get{K}(c:di K C)(f):plainGet K C f=true:=c.pg
def cP(K:Frag)(C:Addr)(f:Str):Prop:=findIn K (.ref C) f=some none
theorem cP.taker{K}(n:cP K C f):PySem.W.takerIn K C f=some none:=by unfold PySem.W.takerIn;rw[show findIn K (.ref C) f=some none from n];rfl
structure iM (K:Frag) (C:Addr) (m:Str) (f:Addr):Prop where
 at_:findIn K (.ref C) m=some (some (.ref f))
 fn:isFn K (.ref f)=true
 kp:keepIn K (.ref f)=true
theorem zB{Y:St}(I:Inv X d Y H s)(e:H a=some (.ins C dx fs))(c:di X.K C)(n:cP X.K C f)(l:fs.lookup f=some v)
  (h:∀u g,Inv X d Y H g->aV v u->Q u g):wpAny (model X.prog X.w) A (getAttr (.ref a) f b) Q E s:=by
 obtain⟨i,O,r,_,_,_⟩:=rE I.hok e;obtain⟨u,j,ru⟩:=eZ.some_of (v:=v) (o:=i f) (by rw[<-l];exact r f);exact Kr I.kIn O (c.get f) c.hd n j (Kv ru) (h u _ (I.tok _) ru)
theorem zC{Y:St}(I:Inv X d Y H s)(e:H a=some (.ins C dx fs))(c:di X.K C)(k:iM X.K C m g)(l:fs.lookup m=none)
  (h:Q (.ref g,[.ref a]) s):wpAny (model X.prog X.w) A (getMethod (.ref a) m j) Q E s:=by
 obtain⟨b,O,r,_,_,_⟩:=rE I.hok e;have i:b m=none:=eZ.none_of (by rw[<-l];exact r m);exact Ks I.kIn O (c.get m) k.at_ k.fn i h
theorem zD{Y:St}(I:Inv X d Y H s)(e:H a=some (.ins C dx fs))(c:di X.K C)(n:cP X.K C f)(M:fs.length<1000)(p:aV y u)
  (h:∀j,Inv X d Y (aI H a (.ins C dx (cH f y fs))) j->Q () j):wpAny (model X.prog X.w) A (setAttr (.ref a) f u) Q E s:=by
 obtain⟨k,O,r,l,_,m⟩:=rE I.hok e;have t:(fs.map (·.1)).length<=sizeLine:=by rw[q0h,sizeLine_eq];lia
 refine Kt I.kIn O c.sa c.po n.taker c.hd l t fun B i J=>h _ ?_;have hd:∃o,B.get? dx=some o:=let⟨o,_,_,D,_⟩:=i.ns;⟨o,D⟩;refine I.write (x:=a) (e:=dx) (by rw[e];exact True.intro) (.inr m) (fun b q L z=>(J.2 b L).trans z) hd ?_;refine⟨by rw[bn O.ne];exact m,?_,O.ne,i.obj,_,i.ns,fun g=>?_,fun g G=>?_⟩
 .have:=zA f y fs;lia
 .show eZ ((cH f y fs).lookup g) (if g=f then some u else k g);rw[zy]
  by_cases q:g=f
  .rw[if_pos q,if_pos q];exact p
  .rw[if_neg q,if_neg q];exact r g
 .by_cases q:g=f
  .rw[q];exact(vx f y fs).1
  .refine(vx f y fs).2 g (l g fun z=>G ?_);show(if g=f then some u else k g)=none;rw[if_neg q];exact z
theorem Inv.made{Y:St}(I:Inv X d Y H s):Inv X d Y (aI (aI H s.heap.objs.size (.own (s.heap.objs.size+1))) (s.heap.objs.size+1) (.ins C s.heap.objs.size []))
  { s with heap:=(s.heap.push emptyDict).push (instObj C s.heap.objs.size) }:=by
 have c:(s.heap.push emptyDict).get? s.heap.objs.size=some emptyDict:=Heap.get?_push_size s.heap rfl;have g:((s.heap.push emptyDict).push (instObj C s.heap.objs.size)).get? (s.heap.objs.size+1)=some (instObj C s.heap.objs.size):=by
  have:=Heap.get?_push_size (s.heap.push emptyDict) (o:=instObj C s.heap.objs.size) rfl
  rwa [Heap.size_push]at this
 have h:(s.heap.push emptyDict).Ns s.heap.objs.size (fun _=>none):=⟨emptyDict,#[],_,c,rfl,(fun e i=>absurd i (by simp)),fun _=>rfl⟩
 have j:=I.laid (a:=s.heap.objs.size) (o:=.own (s.heap.objs.size+1)) (h':=s.heap.push emptyDict) (t':=s.toks) (fun b u q=>bD _ q) (be _) ⟨_,c⟩;refine j.laid (a:=s.heap.objs.size+1) (o:=.ins C s.heap.objs.size []) (t':=s.toks) (fun b u q=>bD _ q) (Nat.le_of_eq (Heap.size_push _ _)) ?_;have ne:s.heap.objs.size≠s.heap.objs.size+1:=q0v (q1h _);refine⟨by rw[bn ne,cc],q0T _,ne,g,fun _=>none,(Heap.Ns1.of_empty h).at fun o q=>bD _ q,fun _=>True.intro,fun y k=>absurd rfl k⟩
theorem Kw(i:attributeBase e f c (eval e c)=eval e c)
  (h:wpAny (model b w) A (eval e c) (fun o g=>wpAny (model b w) A (getAttr o f true) Q E g) E s):wpAny (model b w) A (eval (.Attribute e f pos) c) Q E s:=
 Attribute_any_ h (by rw[arm_eval_Attribute,i])
def Kx(K:Frag)(c:TE)(f:Str):TE:=fun Y H Q=>c Y H fun x b=>∃a C d fs v,x=.ref a/\b a=some (.ins C d fs)/\di K C/\cP K C f/\fs.lookup f=some v/\Q v b
def Ky(K:Frag)(d e:TE)(f:Str):TS:=fun D Y H=>e Y H fun y g=>d Y g fun x b=>∃a C c fs,x=.ref a/\b a=some (.ins C c fs)/\di K C/\cP K C f/\fs.length<1000/\
 D.nx Y (aI b a (.ins C c (cH f y fs)))
def zE(X:Cx)(op:Operator)(rd:V->V->Hp->VK->Prop):Prop:=
 ∀(a:List (Addr×Obj)) (s:Shared) (Y:St) (H:Hp) (x y:V) (u v:Value) (Q:VK),Inv X a Y H s->aV x u->aV y v->rd x y H Q->wpAny (model X.prog X.w) X.A (inplaceOp op u v) (EP X a Y Q) X.xe s
def Kz(K:Frag)(g h:TE)(rd:V->V->Hp->VK->Prop)(f:Str):TS:=fun D Y H=>g Y H fun x d=>∃a C i fs v,x=.ref a/\d a=some (.ins C i fs)/\di K C/\cP K C f/\fs.lookup f=some v/\
 h Y d fun y j=>rd v y j fun z e=>∃c b,e a=some (.ins C c b)/\b.length<1000/\D.nx Y (aI e a (.ins C c (cH f z b)))
theorem ng(g:PE X e ta)(t:attributeBase e f X.env (eval e X.env)=eval e X.env):PE X (.Attribute e f pos) (Kx X.K ta f):=by intro b s Y H Q I h;refine Kw t (aL (g b s Y H _ I h) fun u y d=>?_);obtain⟨x,i,j,k,a,C,z,fs,v,ex,m,c,n,l,q⟩:=d;subst ex;obtain rfl:u=Value.ref a:=k;exact zB j m c n l fun A B p w=>⟨v,i,p,w,q⟩
theorem rF(g:PE X o ta)(i:PE X value tv)(j:swapsWith value (some (.Attribute o f r)) pos.line X.env=pure false):PS X (.Assign [.Attribute o f r] value pos) (Ky X.K ta tv f):=by intro b s Y H D I h;refine plainObj_wpAny_Assign_Attribute (aL (i b s Y H _ I h) fun u k ⟨y,m,p,t,q⟩=>aL (g b k Y m _ p q) fun v G d=>?_) j;obtain⟨x,J,w,z,a,C,L,fs,ex,A,c,n,l,B⟩:=d;subst ex;obtain rfl:v=Value.ref a:=z;exact zD w A c n l t fun M E=>⟨Y,_,E,B⟩
theorem KA(k:PE X o ta)(m:PE X value tv)(i:zE X op rd):PS X (.AugAssign (.Attribute o f tpos) op value pos) (Kz X.K ta tv rd f):=by intro b s Y H D I h;refine wpAny_AugAssign_AttributeAny (aL (k b s Y H _ I h) fun p s1 d=>?_);obtain⟨x,t,w,A,a,C,dx,fs,v,ex,B,c,n,l,q⟩:=d;subst ex;obtain rfl:p=Value.ref a:=A;refine zB w B c n l fun u E G ru=>aL (m b E Y t _ G q) fun J L ⟨y,M,N,O,Q⟩=>aL (i b L Y M v y u J _ N ru O Q) fun w4 s4 g=>?_;obtain⟨z,H3,R,S,T,U,j,Z,q4⟩:=g;exact zD R j c n Z S fun s5 I5=>⟨Y,_,I5,q4⟩
def KB:V->V->Hp->VK->Prop:=fun x y H Q=>∃i j,x=.int i/\y=.int j/\Q (.int (i+j)) H
theorem KC:zE X .Add KB:=by
 rintro a s Y H x y u v Q I b c ⟨i,j,rfl,rfl,q⟩;obtain⟨t,rfl⟩:=(show ∃t,u=Value.int i t from b)
 obtain⟨t',rfl⟩:=(show ∃t',v=Value.int j t' from c)
 exact PyProof.Rows.iadd_int ⟨.int (i+j),H,I.tok _,⟨_,rfl⟩,q⟩
inductive dj (K:Frag) (H:Hp):V->Value->Prop where
 |non:dj K H .non (.type "NoneType")
 |bl (x:Bool):dj K H (.bl x) (.type "bool")
 |int (i:Int):dj K H (.int i) (.type "int")
 |str (x:Str):dj K H (.str x) (.type "str")
 |flt (x:UInt64):dj K H (.flt x) (.type "float")
 |lst {a:Addr}{xs:List V}(e:H a=some (.lst xs)):dj K H (.ref a) (.type "list")
 |frz {a:Addr}{o:Obj}{xs:List V}(e:H a=some (.frz o (.lst xs))):dj K H (.ref a) (.type "list")
 |tup {a:Addr}{xs:List V}(e:H a=some (.tup xs)):dj K H (.ref a) (.type "tuple")
 |dK {a:Addr}{kvs:List (aR×V)}(e:H a=some (.dK kvs)):dj K H (.ref a) (.type "dict")
 |dT {a:Addr}{kvs:List (List aR×V)}(e:H a=some (.dT kvs)):dj K H (.ref a) (.type "dict")
 |ins {a C dx:Addr}{fs:List (Str×V)}(e:H a=some (.ins C dx fs)) (cl:di K C) (ha:findIn K (.ref C) "__class__" = some (some (.builtin "object.__class__")))
   (hn:PySem.W.specialIn K (.builtin "object.__class__") "__get__" = some (some (.builtin "getset_descriptor.__get__"))) (htk:PySem.W.takesIn K (.builtin "object.__class__")=some true)
   (hm:PySem.W.mroIn K C (.type "object")=some true):dj K H (.ref a) (.ref C)
theorem oM{Y:St}(I:Inv X pins Y H s)(d:aV x u)(M:dj X.K H x t)(e:kitOne X.K t c=some b)(h:∀r,Q (.bool b) { s with toks:=r }) :
  wpAny (model X.prog X.w) A (call (.builtin "isinstance") [u,c]) Q E s:=by
 cases M with
 |non=>cases(show u=Value.none from d);exact kia_one PySem.W.kitx_none I.kIn True.intro e (fun z=>nomatch z) h
 |bl y=>cases(show u=Value.bool y from d);exact kia_one PySem.W.kitx_bool I.kIn True.intro e (fun z=>nomatch z) h
 |int i=>obtain⟨t,q⟩:=(show ∃t,u=Value.int i t from d);cases q;exact kia_one PySem.W.kitx_int I.kIn True.intro e (fun z=>nomatch z) h
 |str y=>obtain⟨t,q⟩:=(show ∃t,u=Value.str y t from d);cases q;exact kia_one PySem.W.kitx_str I.kIn True.intro e (fun z=>nomatch z) h
 |flt y=>obtain⟨t,q⟩:=(show ∃t,u=Value.float y t from d);cases q;exact kia_one PySem.W.kitx_float I.kIn True.intro e (fun z=>nomatch z) h
 | @lst a k f=>
  cases(show u=Value.ref a from d);obtain⟨_,_,n,_,g⟩:=(show cw X.prog X.w H s.heap a (.lst k) from I.hok a _ f)
  exact kia_one PySem.W.kitx_list I.kIn ⟨_,g,rfl⟩ e (fun z=>nomatch z) h
 | @frz a ob k f=>
  cases(show u=Value.ref a from d);obtain⟨_,_,_,n,_,g⟩:=(show cw X.prog X.w H s.heap a (.frz ob (.lst k)) from I.hok a _ f)
  exact kia_one PySem.W.kitx_list I.kIn ⟨_,g,rfl⟩ e (fun z=>nomatch z) h
 | @tup a k f=>
  cases(show u=Value.ref a from d);obtain⟨_,_,_,p⟩:=(show cw X.prog X.w H s.heap a (.tup k) from I.hok a _ f)
  obtain⟨o,g,l,_⟩:=p;exact kia_one PySem.W.kitx_tuple I.kIn ⟨o,g,l⟩ e (fun z=>nomatch z) h
 | @dK a j f=>
  cases(show u=Value.ref a from d);obtain⟨_,_,vs,_,p⟩:=(show cw X.prog X.w H s.heap a (.dK j) from I.hok a _ f)
  obtain⟨o,v,B,g,l,_⟩:=p;exact kia_one PySem.W.kitx_dict I.kIn ⟨o,g,l.1⟩ e (fun z=>nomatch z) h
 | @dT a j f=>
  cases(show u=Value.ref a from d);obtain⟨_,_,k,_,o,v,B,g,l,_⟩:=(show cw X.prog X.w H s.heap a (.dT j) from I.hok a _ f)
  exact kia_one PySem.W.kitx_dict I.kIn ⟨o,g,l.1⟩ e (fun z=>nomatch z) h
 | @ins a C N fs f cl D G m L=>cases(show u=Value.ref a from d);obtain⟨R,O,_⟩:=rE I.hok f;obtain⟨S,J,_⟩:=O.look;exact kia_one (PySem.W.kitx_own (cl.get _) cl.hd D G m L) I.kIn J e (fun z=>nomatch z) h
structure bh (k:Nat) (A:Around):Prop where
 hd:A.handled=none
 dp:A.depth+3 * k+5<recursionLimit
 un:A.units+16 * k+200<cLine
theorem bh.mono(r:bh k A)(h:j<=k):bh j A:=⟨r.hd,by have:=r.dp;lia,by have:=r.un;lia⟩
theorem bh.deeper(r:bh (k+1) A)(a):bh k (A.deeper a):=
 ⟨r.hd,by have:=r.dp;show A.depth+1+3 * k+5<_;lia,by have:=r.un;show A.units+3+16 * k+200<_;lia⟩
theorem KD{A:Around}:(A.under (.builtin "type.__call__" ⟨.ref C::a,b⟩)).depth=A.depth+1:=by first |rfl |simp[Around.under,Code.weight,Code.isCreation,Code.isGuard,Code.isCaller,Code.frames,Code.isFrame,guardIds]
theorem KE{A:Around}:(A.under (.builtin "type.__call__" ⟨.ref C::a,b⟩)).units=A.units+1:=by first |rfl |simp[Around.under,Code.cUnits,Code.frames,Code.isFrame]
theorem bh.make(r:bh (k+1) A)(C a b):bh k (A.under (.builtin "type.__call__" ⟨.ref C::a,b⟩)):=
 ⟨r.hd,by have:=r.dp;rw[KD];lia,by have:=r.un;rw[KE];lia⟩
theorem bh.depth(r:bh k A):A.depth<recursionLimit:=by have:=r.dp;lia
theorem bh.units(r:bh k A):A.units+64<cLine:=by have:=r.un;lia
def zF:TA:=fun _ H Q=>Q [] H
def zG(a:TE)(e:TA):TA:=fun Y H Q=>a Y H fun x b=>e Y b fun c d=>Q (x::c) d
theorem eM:PA X [] zF:=fun _ _ _ _ H Q I h=>Calls.spliced_nil ⟨[],H,I,.nil,h⟩
theorem dO(d:PE X e te)(f:PA X es t)(g:autoParam (starEach (e::es) X.env=(false,eval e X.env)::starEach es X.env) Zq._auto_1):PA X (e::es) (zG te t):=by intro pos a s Y H Q I h;rw[g];show wpAny _ _ (spliced ((false,eval e X.env)::backTo pos (starEach es X.env))) _ _ s;refine Calls.spliced_cons (aL (d a s Y H _ I h) fun u i b=>?_);obtain⟨x,j,k,l,m⟩:=b;exact aL (f pos a i Y j _ k m) fun v w c=>by obtain⟨n,o,p,q,r⟩:=c;exact⟨x::n,o,p,.cons l q,r⟩
def KF(t:TA):TE:=fun Y H Q=>t Y H fun a b=>a.length<=sizeLine/\∀p,b p=none->Q (.ref p) (aI b p (.tup a))
def KG(t:TA):TE:=fun Y H Q=>t Y H fun a b=>a.length<=sizeLine/\∀p,b p=none->Q (.ref p) (aI b p (.lst a))
theorem vz(h:PA X es t):PE X (.Tuple es g pos) (KF t):=by intro a s Y H Q I i;refine wpAny_Tuple_spliced (aL (h pos a s Y H _ I i) fun j c ⟨k,d,f,r,z,q⟩=>⟨by rw[<-r.length];exact z,?_⟩);have l:d c.heap.objs.size=none:=f.hok.fresh (be _);refine⟨.ref c.heap.objs.size,aI d c.heap.objs.size (.tup k),f.laid (t':=c.toks) (fun b u e=>bD _ e) (be _) ?_,rfl,q _ l⟩;exact⟨z,j,r,⟨_,Heap.get?_push_size _ rfl,rfl,_,rfl⟩⟩
theorem oN(h:PA X es t):PE X (.List es pos) (KG t):=by intro a s Y H Q I g;refine wpAny_List_spliced (aL (h pos a s Y H _ I g) fun i c ⟨j,d,f,r,z,q⟩=>⟨by rw[<-r.length];exact z,?_⟩);have k:d c.heap.objs.size=none:=f.hok.fresh (be _);refine⟨.ref c.heap.objs.size,aI d c.heap.objs.size (.lst j),f.laid (t':=c.toks) (fun b u e=>bD _ e) (be _) ?_,rfl,q _ k⟩;exact⟨z,i,0,r,Heap.get?_push_size _ rfl⟩
abbrev Sp:=List V->Hp->VK->XK->Prop
abbrev iN:=List Env->Hp->Shared->XK->Value->Shared->Prop
structure fT (P:Program) (w:World) (K:Frag) (mg:Str->Option Value) (base:Heap) (A:Around) (outer:List Env) (s:Shared) (H:Hp):Prop where
 frames:A.frames=some outer
 mod:Mod K mg base
 bs:∀b o,base.get? b=some o->s.heap.get? b=some o/\H b=none
 bsz:base.objs.size<=s.heap.objs.size
 funs:s.heap.FunFrames base outer
 frf:∀b∈bO outer,H b=none
 hok:bH P w H s.heap
 bare:AllBare s.gens
def CE(a:List Env)(P:Program)(w:World)(H:Hp)(s:Shared)(Q:VK)(u:Value)(b:Shared):Prop:=
 ∃v c,b.os=s.os/\AllBare b.gens/\Un (bO a) [] H c s.heap b.heap/\bH P w c b.heap/\aV v u/\Q v c
def CR(c:iN)(a:List Env)(P:Program)(w:World)(H:Hp)(s:Shared)(Q:VK)(E:XK)(r:Result)(b:Shared):Prop:=
 match r with
 |.ok (.ret u)=>CE a P w H s Q u b
 |.ok _=>False
 |.error e=>c a H s E e b
structure bU (P:Program) (w:World) (K:Frag) (mg:Str->Option Value) (base:Heap) (CX:iN) (k:Nat) (f:Addr) (fd:FuncData) (ps:List Str) (sp:Sp):Prop where
 len:∀vs H Q E,sp vs H Q E->vs.length=ps.length
 run:∀(A:Around) (outer:List Env) (s:Shared) (H:Hp) (args:Args) (us:List Value) (vs:List V) (Q:VK) (E:XK),bh k A->fT P w K mg base A outer s H->BindsTo s fd args (ps.zip us)->bp vs us->sp vs H Q E->
  codeAny (model P w) A (.call (.ref f) args) (CR CX outer P w H s Q E) s
theorem bU.imp{K}(F:bU P w K mg base c k f fd d e)
  (h:∀vs H Q E,b vs H Q E->e vs H Q E):bU P w K mg base c k f fd d b:=
 ⟨fun vs H Q E q=>F.len vs H Q E (h _ _ _ _ q),fun A a s H args g vs Q E i j n l m=>F.run A a s H args g vs Q E i j n l (h _ _ _ _ m)⟩
theorem fT.make{K}(e:fT P w K mg base A a s H)(C b)(c) :
  fT P w K mg base (A.under (.builtin "type.__call__" ⟨.ref C::b,c⟩)) a s H:=⟨by first |exact e.frames |(simpa[Around.under,Code.envs,Code.isFrame,pushEnvs] using e.frames),e.mod,e.bs,e.bsz,e.funs,e.frf,e.hok,e.bare⟩
theorem Inv.env0{Y:St}(I:Inv X pins Y H s):fT X.prog X.w X.K X.mg X.base X.A X.stack s H:=
 ⟨I.ok.frames,I.ok.mod,I.bs,q0W I.ok.bsz I.sz,I.stack,I.stkFree,I.hok,I.bare⟩
theorem Inv.after{Y:St}(I:Inv X pins Y H s)(h:CE X.stack X.prog X.w H s Q u s'):EP X pins Y Q u s':=by obtain⟨v,c,os,bare,un,hok,r,q⟩:=h;obtain⟨e,g,d,t,a⟩:=s';obtain rfl:a = s.os:=os;exact⟨v,c,I.call (h':=e) (g':=g) (d':=d) (t':=t) (ch:=[]) un hok bare (fun b z=>absurd z (by simp)),r,q⟩
def gL(K:Frag)(fd:FuncData)(b:List Str)(c:List Value):Prop:=
 ∀(s:Shared) (a:List Value),K.In s.heap->(a++c).length=b.length->BindsTo s fd ⟨a,[]⟩ (b.zip (a++c))
theorem gL.all{K}(h:∀a,a.length=b.length->bindArgs fd ⟨a,[]⟩=pure (b.zip a)):gL K fd b []:=fun s a _ c=>by rw[q0B]at c ⊢;exact .of_eq (h a c)
structure Mk (K:Frag) (C f:Addr):Prop where
 makes:makesIn K C=true
 init:findIn K (.ref C) "__init__" = some (some (.ref f))
 fn:isFn K (.ref f)=true
 kp:keepIn K (.ref C)=true
def PK(X:Cx)(b:List Keyword)(t:TA):Prop:=
 ∀(pos:Pos) (a:List (Addr×Obj)) (s:Shared) (Y:St) (H:Hp) (Q:List V->Hp->Prop),Inv X a Y H s->t Y H Q->wpAny (model X.prog X.w) X.A (evalAll ((backToKw pos (keywordEach b X.env)).map (·.2))) (AP X a Y Q) X.xe s
theorem KH:PK X [] zF:=fun _ _ _ _ H Q I h=>wpAny_evalAll_nil ⟨[],H,I,.nil,h⟩
theorem KJ(b:PE X e te)(c:PK X kws t):PK X (⟨nm,e,kpos⟩::kws) (zG te t):=by intro pos a s Y H Q I h;show wpAny _ _ (evalAll ((do let v <-eval e X.env;standAt pos;pure v)::(backToKw pos (keywordEach kws X.env)).map (·.2))) _ _ s;refine wpAny_evalAll_cons (aH (aL (b a s Y H _ I h) fun u d ⟨x,g,i,j,l⟩=>aH (wpAny_standAt (bz ?_))));exact aL (c pos a d Y g _ i l) fun z A ⟨n,q,r,w,y⟩=>⟨x::n,q,r,.cons j w,y⟩
structure ca (N P:List Str) (sc:Scope):Prop where
 kind:sc.kind=.function
 co:sc.isCoroutine=false
 gen:sc.isGenerator=false
 nd:N.Nodup
 pre:N.take P.length=P
 par:∀x∈P,sc.names.lookup x=some .local\/sc.names.lookup x=some .cell
 nofree:∀y∈sc.names,y.2≠.free
theorem zH{kindOf}:∀{binds m},(∀v,(x,v)∉binds)->bindL kindOf binds m x=m x
 |[],_,_=>rfl
 | (n,v)::r,m,h=>by
  unfold bindL;rw[zH fun w a=>h w (bG _ a)];split
  .have:x≠n:=by rintro rfl;exact h v q0g
   simp[this]
  .rfl
theorem zI{kindOf}:∀{binds m},(∀v,(x,v)∉binds)->bindC kindOf binds m x=m x
 |[],_,_=>rfl
 | (n,v)::r,m,h=>by
  unfold bindC;rw[zI fun w a=>h w (bG _ a)];split
  .rfl
  .have:x≠n:=by rintro rfl;exact h v q0g
   simp[this]
theorem zJ{kindOf}:∀{P:List Str}{vs}{i:Nat}{m},P.Nodup->P[i]? = some x->vs[i]? = some v->kindOf x=some .local->
  bindL kindOf (P.zip vs) m x=some v
 |[],_,_,_,_,h,_,_=>by simp at h
 |_::_,[],_,_,_,_,h,_=>by simp at h
 |p::P,w::vs,0,m,nd,a,b,c=>by simp at a b;subst a;subst b;show bindL kindOf ((p,w)::P.zip vs) m p=_;unfold bindL;rw[zH fun v d=>(q0Q.mp nd).1 (q2y d).1,if_pos c];simp
 |p::P,w::vs,i+1,m,nd,a,b,c=>by show bindL kindOf ((p,w)::P.zip vs) m x=_;unfold bindL;exact zJ (i:=i) (q0Q.mp nd).2 (by simpa using a) (by simpa using b) c
theorem zK{kindOf}:∀{P:List Str}{vs}{i:Nat}{m},P.Nodup->P[i]? = some x->vs[i]? = some v->kindOf x≠some .local->
  bindC kindOf (P.zip vs) m x=some v
 |[],_,_,_,_,h,_,_=>by simp at h
 |_::_,[],_,_,_,_,h,_=>by simp at h
 |p::P,w::vs,0,m,nd,a,b,c=>by simp at a b;subst a;subst b;show bindC kindOf ((p,w)::P.zip vs) m p=_;unfold bindC;rw[zI fun v d=>(q0Q.mp nd).1 (q2y d).1,if_neg c];simp
 |p::P,w::vs,i+1,m,nd,a,b,c=>by show bindC kindOf ((p,w)::P.zip vs) m x=_;unfold bindC;exact zK (i:=i) (q0Q.mp nd).2 (by simpa using a) (by simpa using b) c
noncomputable def start(N:List Str)(vs:List V):St:=vs.map some++List.replicate (N.length - vs.length) none
noncomputable def ic(CX:iN)(P:Program)(w:World)(K:Frag)(mg:Str->Option Value)(base:Heap)(N:List Str)(qual:Str)(scope:Scope)(f:Addr)(cd:Value)(A:Around)(outer:List Env)(s:Shared)(H:Hp)(E:XK):Cx where
 prog:=P
 w:=w
 K:=K
 mg:=mg
 base:=base
 A:=A.deeper (envOfC qual scope s.heap.objs.size f cd)
 N:=N
 s₀:=s
 H₀:=H
 env:=envOfC qual scope s.heap.objs.size f cd
 outer:=outer
 stack:=envOfC qual scope s.heap.objs.size f cd::outer
 ex:=[]
 calm:=true
 fn:=fun _=>true
 pn:=[]
 xe:=fun e s'=>wpAny (model P w) (A.deeper (envOfC qual scope s.heap.objs.size f cd)) (leaving (envOfC qual scope s.heap.objs.size f cd) e) (fun _ s''=>CX outer H s E e s'') (fun e' s''=>CX outer H s E e' s'') s'
theorem zL{a:Scope}(h:a.names.lookup x=some .cell):∃c,(cellsFrom n a.names []).lookup x=some c:=by have q:=q2u a.names n [] (.inl h);exact q0V.mp q
theorem KL{K}
  (S:ca N o d) (hd:A.handled=none) (m:fT P w K mg base A g s H) (Y:vs.length=o.length) (r:bp vs L)
  (x:InCallC s s.heap.objs.size (bindL (envOfC j d s.heap.objs.size f G).kindOf (o.zip L) fun _=>none) (cellsFrom (s.heap.objs.size+1) d.names []) (bindC (envOfC j d s.heap.objs.size f G).kindOf (o.zip L) fun _=>none) O) :
  Inv (ic M P w K mg base N j d f G A g s H E) [] (start N vs) H O:=by
 have T:o.length<=N.length:=by have:=congrArg List.length S.pre;rw[List.length_take]at this;lia
 obtain⟨I,Z,rfl,Q⟩:=x.done;have t:∀b:Addr,b∉(ic M P w K mg base N j d f G A g s H E).ex:=fun b z=>absurd (show b∈([]:List Addr) from z) (by simp);refine⟨⟨m.mod,S.kind,rfl,rfl,be _,fun y z c I l=>?_,fun y B=>?_,fun y c _ h=>?_,fun _=>hd,Around.frames_deeper m.frames,.inr ⟨rfl,rfl⟩,fun b z=>absurd z (t b),m.bs,m.bsz,fun b _ _=>t b,fun b z=>absurd z (t b),m.funs,m.frf⟩,
  rfl,m.bare,Un.kept Q,⟨_,x.toInCall.ns,fun i y v I l h3=>?_⟩,fun y c h=>⟨_,x.cell y c h⟩,m.hok.fresh (be _),fun y c h=>?_,fun p C=>absurd (show p∈([]:List (Addr×Obj)) from C) (by simp),m.hok.kept Q,?_⟩
 .exact name_of_addr x.apart (q0M I) (q0M l)
 .have B:d.names.lookup y=some .cell\/d.names.lookup y=some .free:=B;rcases B with B |B
  .exact zL B
  .exact absurd rfl (S.nofree _ (q0M B))
 .exact q1v (x.above y c (q0M h))
 .have J:i<vs.length:=by
   unfold start at l
   by_cases J:i<vs.length
   .exact J
   .rw[q0A (by simpa using J)]at l;rw[q1d]at l;split at l<;>cases l
  have U:vs[i]? = some v:=by
   unfold start at l;rw[q0H (by simpa using J),q0s]at l;cases e:vs[i]? with
   |none=>rw[e]at l;cases l
   |some a=>rw[e]at l;cases l;rfl
  obtain⟨u,R,X⟩:=r.get U;have C:o[i]? = some y:=by rw[<-S.pre,List.getElem?_take_of_lt (by lia)];exact I
  have D:o.Nodup:=by rw[<-S.pre];exact S.nd.sublist (List.take_sublist _ _)
  refine⟨u,X,?_⟩;rcases S.par y (q0G C) with k |k
  .exact .inl ⟨k,zJ D C R k⟩
  .obtain⟨c,e⟩:=zL (n:=s.heap.objs.size+1) k;refine .inr ⟨.inl k,c,e,?_⟩;have q:=x.cell y c e;rw[zK D C R (by show d.names.lookup y≠_;rw[k];decide)]at q;exact q
 .exact m.hok.fresh (q1v (x.above y c (q0M h)))
 .unfold start;show _=N.length;rw[q0u,q0h,q03];lia
theorem KM{K}{kV }
  (lk:K.lookup f=some ⟨oc,od,.func (fnOf name d h body a dV kV p pm Y g ct),L⟩) (O:codeIn K g d=true) (S:ca N D a)
  (len:∀vs H Q E,M vs H Q E->vs.length=D.length)
  (j:∀A  c  s  H  vs  Q  E,bh k (A.deeper (envOfC d a s.heap.objs.size f g))->M vs H Q E->
   ∃t,PSs (ic C P w K mg base N d a f g A c s H E) body t/\t { nx:=fun _ i=>Q .non i,rt:=Q } (start N vs) H) :
  bU P w K mg base C (k+1) f (fnOf name d h body a dV kV p pm Y g ct) D M:=by
 refine⟨len,fun A c s H args us vs Q E R z hb r B=>?_⟩;have hl:=len _ _ _ _ B;have Z:K.In s.heap:=z.mod.kin.keeps fun b o e=>(z.bs b o e).1;have T:s.heap.NoLimit:=z.mod.nolimit.keeps fun b o e=>(z.bs b o e).1;have l:∀y∈D.zip us,a.names.lookup y.1=some .local\/(a.names.lookup y.1=some .cell/\((cellsFrom (s.heap.objs.size+1) a.names []).lookup y.1).isSome=true):=fun⟨n,v⟩ hy=>by
  rcases S.par n (q2y hy).1 with q |q
  .exact .inl q
  .exact .inr ⟨q,q2u _ _ _ (.inl q)⟩
 refine codeAny_call_function R.depth (Z _ _ lk) rfl S.co S.gen rfl (PySem.W.codeRec_of Z O) (hb _ _ _ _ ?_);refine wpAny_newFunctionEnv_cells S.kind l fun a0 he s1 x=>?_;subst he;refine⟨T.keeps x.toInCall.keep,codeAny_func ?_⟩;obtain⟨t,ht,hq⟩:=j A c s H vs Q E (R.deeper _) B;have I:Inv (ic C P w K mg base N d a f g A c s H E) [] (start N vs) H s1:=KL S R.hd z hl r x;refine wpAny_mono (ht [] s1 (start N vs) H _ I hq) (fun fl U m=>?_) fun e U m=>m;have fin:∀{G:St}{i:Hp}{v:V}{u:Value},Inv (ic C P w K mg base N d a f g A c s H E) [] G i U->aV v u->Q v i->CE c P w H s Q u U:=
  fun {G i v u} J X q=>⟨v,i,J.os,J.bare,J.base,J.hok,X,q⟩
 cases fl with
 |ret u=>obtain⟨v,G,i,J,X,q⟩:=m;exact fin J X q
 |next=>obtain⟨G,i,J,q⟩:=m;exact fin (v:=V.non) (u:=Value.none) J rfl q
 |brk=>obtain⟨_,_,_,q⟩:=m;exact False.elim q
 |cont=>obtain⟨_,_,_,q⟩:=m;exact False.elim q
def vA(r:List V->Hp->VK->Prop)(t:TA):TE:=fun Y H Q=>t Y H fun vs a=>r vs a Q
theorem nh{p:Pos}{pos:Pos}{id:String}(f:fR X (.builtin id) r)(g:Gl X x)(i:X.mg x=none)(j:bootBuiltins x=some (.builtin id))(k:PA X (e::es) t)(l:autoParam (x≠"__name__") Zr._auto_1)(c:autoParam ((x==("__debug__":Str))=false) Zr._auto_1)
  (m:autoParam (starEach (e::es) X.env=(false,eval e X.env)::starEach es X.env) Zq._auto_1) (d:autoParam ((backTo pos (starEach es X.env)).any (·.1)=false) Zq._auto_1):PE X (.Call (.Name x p) (e::es) [] pos) (vA r t):=by
 intro a s Y H Q I h;refine wpAny_Call_Name_kw (kt I g i j ?_ l c);exact PyProof.Rows.callWith_builtin1 (aL (k pos a s Y H _ I h) fun n o b=>by obtain⟨vs,q,u,v,w⟩:=b;exact f a o Y q vs n Q u v w) m d
theorem vB{p:Pos}{pos:Pos}(d:fR X (.type T) r)(f:Gl X x)(g:X.mg x=none)(i:bootBuiltins x=some (.type T))(j:PA X (e::es) t)(k:autoParam (x≠"__name__") Zr._auto_1)(b:autoParam ((x==("__debug__":Str))=false) Zr._auto_1)
  (l:autoParam (starEach (e::es) X.env=(false,eval e X.env)::starEach es X.env) Zq._auto_1) (c:autoParam ((backTo pos (starEach es X.env)).any (·.1)=false) Zq._auto_1):PE X (.Call (.Name x p) (e::es) [] pos) (vA r t):=by
 intro a s Y H Q I h;refine wpAny_Call_Name_kw (kt I f g i ?_ k b);exact PyProof.Rows.callWith_type1 (aL (j pos a s Y H _ I h) fun m n ⟨vs,o,q,u,v⟩=>d a n Y o vs m Q q u v) l c
end L2
namespace HT
open PySem PyProof.Rows
noncomputable def lexLt:List Int->List Int->Bool
 |[],[]=>false
 |[],_::_=>true
 |_::_,[]=>false
 |x::a,y::b=>if x=y then lexLt a b else decide (x<y)
theorem lexLt_cons(x y a b):lexLt (x::a) (y::b)=if x=y then lexLt a b else decide (x<y):=rfl
theorem lexLt_nil_nil:lexLt [] []=false:=rfl
theorem KN(y a):lexLt [] (y::a)=true:=rfl
theorem KO(x a):lexLt (x::a) []=false:=rfl
theorem KP(A s a t c u):∃e,SeqAt.EqAt A s (.int a t) (.int c u) e/\(e=true↔a=c):=
 ⟨(a==c),SeqAt.EqAt.int_int a t c u,by simp⟩
theorem KQ(A s a t c u b w E Q)(h:Q (.bool (decide (a<c))) s) :
  wpAny (model b w) A (richCompare .Lt (.int a t) (.int c u)) Q E s:=
 (PyProof.Rows.lt_int h:wpAny (model b w) A (compareOp .Lt (.int a t) (.int c u)) Q E s)
section
open PySem.SeqAt
open PySem.AutoSeq1 (wpAny_loadPart')
open PySem.MeetsSeq PySem.MeetsSeq2 PySem.MeetsSeq3
theorem KR(l b)(items f)(n Y dd M sl N L G)(T:IntsAre items.toList L)(U:IntsAre f.toList G) :
  Meets (Builtin.«tuple.__lt__» ⟨[.ref l,.ref b],[]⟩)
   (fun _ R s=>s.heap.get? l=some { cls:=.type "tuple",dict:=dd,data:=.seq items n,slots:=sl }/\s.heap.get? b=some { cls:=.type "tuple",dict:=M,data:=.seq f Y,slots:=N }/\
    R (.ok (.ret (.bool (lexLt L G)))) s):=
 .of_wp fun v w A R s h=>by
  obtain⟨H,g,d,I,os⟩:=s;obtain⟨Z,hb,h⟩:=h;have f2:=AutoSeq1.sub_tuple_tuple;have z1:items.size=L.length:=by rw[<-T.length];simp
  have z2:f.size=G.length:=by rw[<-U.length];simp
  wp_walk using wpAny_loadPart' Z,wpAny_loadPart' hb,wpAny_forIn_list _ (fun rest b O=>b.1=none/\O = ⟨H,g,d,I,os⟩/\∃(vs J:List Value) (j k:List Int),rest=vs.zip J/\
   IntsAre vs j/\IntsAre J k/\j.length+f.size=k.length+items.size/\R (.ok (.ret (.bool (lexLt j k)))) ⟨H,g,d,I,os⟩) _
  case turn=>
   rintro⟨y,x⟩ rest b O ⟨z,rfl,vs,J,j,k,m,B,o,i,p⟩;cases B with
   |nil=>rw[List.zip_nil_left]at m;cases m
   |cons a t D=>
    cases o with
    |nil=>rw[List.zip_nil_right]at m;cases m
    |cons c u E=>
     rw[q1B]at m;injection m with Q C
     injection Q with hy hx
     subst hy hx;rw[lexLt_cons]at p;simp only[q0l]at i;obtain⟨e,he,r⟩:=KP A.in1 ⟨H,g,d,I,os⟩ a t c u;refine aH (he v w _ _ ?_);cases e with
     |true=>
      rw[if_pos (r.mp rfl)]at p
      wp_walk
      exact⟨rfl,rfl,_,_,_,_,C,D,E,by lia,p⟩
     |false=>
      rw[if_neg (fun q=>absurd (r.mpr q) q0C)]at p;have S:=KQ A.in1 ⟨H,g,d,I,os⟩ a t c u v w
      wp_walk using S
      exact⟨_,rfl,by simpa using p⟩
  case fin=>
   rintro⟨b1,b2⟩ O ⟨z,rfl,vs,J,j,k,m,B,o,i,p⟩;simp only at z;subst z;have X:lexLt j k = decide (items.size<f.size):=by
    cases B with
    |nil=>
     cases o with
     |nil=>simp only[q0F]at i;rw[lexLt_nil_nil];exact(decide_eq_false (by lia)).symm
     |cons c u hw=>simp only[q0F,q0l]at i;rw[KN];exact(decide_eq_true (by lia)).symm
    |cons a t X=>
     cases o with
     |nil=>simp only[q0F,q0l]at i;rw[KO];exact(decide_eq_false (by lia)).symm
     |cons c u hw=>rw[q1B]at m;cases m
   rw[X]at p
   wp_walk
   exact⟨_,rfl,by simpa[Builtin.Tuple.tupleCompareSizes] using p⟩
  case h=>exact⟨rfl,rfl,items.toList,f.toList,L,G,rfl,T,U,by lia,h⟩
end
theorem lt_tupInts(p:IsTup s.heap l items)(v:IsTup s.heap b a)(q:IntsAre items.toList g)(r:IntsAre a.toList c)
  (t:A.units<cLine) (h:Q (.bool (lexLt g c)) s):wpAny (model prog w) A (compareOp .Lt (.ref l) (.ref b)) Q E s:=by
 obtain⟨⟨cls,dd,data,sl⟩,k,m,n,hd⟩:=id p;obtain⟨⟨o,i,data2,j⟩,d,e,u,f⟩:=id v;simp only at m hd e f;subst m hd e f;exact richCompare_meets_room (op:=.Lt) ⟨_,k,rfl⟩ ⟨_,d,rfl⟩ PySem.F.slot_tuple_lt PySem.F.entry_tuple_lt (PySem.F.args_tuple_lt_2 _ _) (KR l b items a n u dd i sl j g c q r)
  ⟨k,d,show Value.bool (lexLt g c)≠Value.notImplemented/\Q (.bool (lexLt g c)) s from⟨(fun x=>nomatch x),h⟩⟩ t
theorem cat_tup(q:IsTup s.heap t vs.toArray)(v:IsTup s.heap b a.toArray)(l:vs≠[])
  (r:a=[]->Q (.ref t) s) (u:a≠[]->Q (.ref s.heap.objs.size) { s with heap:=s.heap.push { cls:=.type "tuple",data:=.seq (vs++a).toArray } })
  (k:vs.length+a.length<=sizeLine):wpAny (model prog w) A (binaryOp .Add (.ref t) (.ref b)) Q E s:=by
 obtain⟨⟨cls,dd,data,sl⟩,i,m,n,hd⟩:=id q;obtain⟨⟨o,d,data2,f⟩,c,g,p,h⟩:=id v;simp only at m hd g h;subst m hd g h;have e:vs.toArray++a.toArray=(vs++a).toArray:=by simp
 by_cases j:a=[]
 .exact concat_meets ⟨_,i,rfl⟩ ⟨_,c,rfl⟩ noFill_tuple_add seq_tuple_add q1L q1C (q1w _ _)
   (tuple_addW1 t b vs.toArray a.toArray n p dd d sl f (by simpa using l) (by simp[j])) ⟨i,c,r j⟩
 .refine concat_meets ⟨_,i,rfl⟩ ⟨_,c,rfl⟩ noFill_tuple_add seq_tuple_add q1L q1C (q1w _ _)
   (tuple_addW2 t b vs.toArray a.toArray n p dd d sl f (by simpa using l) (by simpa using j) (by rw[q0p,q0p];exact k)) ⟨i,c,?_⟩
  rw[e];exact u j
end HT
namespace L2
open PySem PySem.Spec PyProof.Rows
def KS(K:Frag):R2:=fun x y H Q=>∃a b d c,x=.ref a/\y=.ref b/\dg K H a d/\dg K H b c/\d≠[]/\d.length+c.length<=sizeLine/\
 (c=[]->Q (.ref a) H)/\(c≠[]->∀p,H p=none->Q (.ref p) (aI H p (.tup (d++c))))
theorem bp.nil_iff(r:bp a b):b=[]↔a=[]:=by
 cases r with
 |nil=>simp
 |cons _ _=>simp
theorem KU:cn X (binaryOp .Add) (KS X.K):=by intro f s Y H x y v u Q I j k h;obtain⟨a,b,l,m,rfl,rfl,n,hb,p,g,r,t⟩:=h;cases j;cases k;obtain⟨A,d,B,_⟩:=I.tuple n;obtain⟨i,c,p2,_⟩:=I.tuple hb;refine HT.cat_tup B p2 (fun z=>p (d.nil_iff.mp z)) (fun z=>⟨.ref a,H,I,rfl,r (c.nil_iff.mp z)⟩) (fun z=>?_) (by rw[<-d.length,<-c.length];exact g);refine⟨.ref s.heap.objs.size,_,I.laid (t':=s.toks) (o:=.tup (l++m)) (fun b C q=>bD _ q) (be _) ?_,rfl,t (fun w=>z (c.nil_iff.mpr w)) _ (I.hok.fresh (be _))⟩;exact⟨by rw[q0u];exact g,_,d.append c,IsTup.new _ _⟩
noncomputable def cI(n:Nat)(i:Int):Option Nat:=if 0<=i then(if i<n then some i.toNat else none) else if -(n:Int)<=i then some (i+n).toNat else none
def bA{α:Type}(a:List α)(i:Int):Option α:=(cI a.length i).bind fun j=>a[j]?
theorem zM(h:cI n i=some j):seqIndex? i n=some j/\j<n/\-(n:Int)<=i/\i<n:=by
 unfold cI at h
 by_cases b:0<=i
 .rw[if_pos b]at h
  by_cases a:i<n
  .rw[if_pos a]at h;have e:i.toNat=j:=q0n h;exact⟨by rw[seqIndex_of b a,e],by lia,by lia,a⟩
  .rw[if_neg a]at h;cases h
 .rw[if_neg b]at h
  by_cases a:-(n:Int)<=i
  .rw[if_pos a]at h;have e:(i+n).toNat=j:=q0n h;exact⟨by rw[seqIndex_neg (by lia) a,e],by lia,a,by lia⟩
  .rw[if_neg a]at h;cases h
theorem zN(h:bA a i=some v):∃j,seqIndex? i a.length=some j/\a[j]? = some v/\j<a.length/\-(a.length:Int)<=i/\i<a.length:=by
 unfold bA at h;cases e:cI a.length i with
 |none=>rw[e]at h;cases h
 |some j=>rw[e]at h;obtain⟨b,c,d,f⟩:=zM e;exact⟨j,b,h,c,d,f⟩
def lG(b:Expr):Prop:=∀o i,subscripted b false o i=operate [o,i] (getItem o i)
def jH(X:Cx)(r:R2):Prop:=
 ∀(value slice:Expr) (a:List (Addr×Obj)) (s:Shared) (Y:St) (H:Hp) (x y:V) (v u:Value) (Q:VK),Inv X a Y H s->aV x v->aV y u->r x y H Q->
  subscripted slice false v u=operate [v,u] (getItem v u)->wpAny (model X.prog X.w) X.A (subscriptTail value slice v u) (EP X a Y Q) X.xe s
def vC(X:Cx)(id:String)(r:V->List V->Hp->VK->Prop):Prop:=
 ∀(a:List (Addr×Obj)) (s:Shared) (Y:St) (H:Hp) (x:V) (b:List V) (v:Value) (c:List Value) (Q:VK),Inv X a Y H s->aV x v->bp b c->r x b H Q->
  wpAny (model X.prog X.w) X.A (call (.builtin id) (v::c)) (EP X a Y Q) X.xe s
theorem jH.or(h:jH X r)(i:jH X d):jH X (fun x y H Q=>r x y H Q\/d x y H Q):=by
 intro value slice c s Y H x y v u Q I e f q g;rcases q with q |q
 .exact h value slice c s Y H x y v u Q I e f q g
 .exact i value slice c s Y H x y v u Q I e f q g
theorem oO(d:jH X r)(e:PE X a ta)(m:PE X b tb)(f:lG b):PE X (.Subscript a b pos) (oI r ta tb):=by intro c s Y H Q I h;exact Subscript_ (vq e m I h fun v u g x y i j k l q=>d a b c g Y i x y v u Q j k l q (f _ _))
def vD(K:Frag):R2:=fun x y H Q=>∃p c i v,x=.ref p/\y=.int i/\dE K H p c/\bA c i=some v/\Q v H
def vE(K:Frag):R2:=fun x y H Q=>∃p c i v,x=.ref p/\y=.int i/\dg K H p c/\bA c i=some v/\Q v H
theorem oP:jH X (vD X.K):=by
 intro value slice c s Y H x y v u Q I n o h k;obtain⟨p,L,i,z,rfl,rfl,A,B,q⟩:=h;cases n;obtain⟨t,rfl⟩:=o;obtain⟨e,r,pl,M⟩:=I.list A;obtain⟨j,d,C,N,D,E⟩:=zN B;obtain⟨w,l,f⟩:=r.get C;have G:=r.length;have O:=eL;have fin:EP X c Y Q w s:=⟨z,H,I,f,q⟩
 by_cases m:0<=i
 .have g:i.toNat=j:=by rw[seqIndex_of m E]at d;exact q0n d
  exact item_listR pl.isList m (by lia) (by rw[g];simpa using l) fin k
 .have g:(i+(e.toArray.size:Int)).toNat=j:=by rw[seqIndex_neg (by lia) D]at d;rw[q0p,<-G];exact q0n d
  exact subscriptTail_builtinR (x:=w) pl.isList.typeIs slot_list_getitem.lookup
   (wpAny_getItem_list_neg (Q:=fun r J=>r=w/\EP X c Y Q r J) pl.isList (by lia) (by rw[q0p]<;>lia) (by lia) (by rw[g];simpa using l) ⟨rfl,fin⟩) k
theorem KW:jH X (vE X.K):=by
 intro value slice c s Y H x y v u Q I e f h g;obtain⟨p,D,i,z,rfl,rfl,k,l,q⟩:=h;cases e;obtain⟨t,rfl⟩:=f;obtain⟨m,r,pl,E⟩:=I.tuple k;obtain⟨j,n,o,G,J,L⟩:=zN l;obtain⟨w,A,d⟩:=r.get o;have B:=r.length;have M:=eL;have fin:EP X c Y Q w s:=⟨z,H,I,d,q⟩
 exact subscriptTail_builtinR (x:=w) pl.typeIs slot_tuple_getitem.lookup
  (getItem_tuple (j:=j) (Q:=fun r C=>r=w/\EP X c Y Q r C) pl (by lia) (by lia) (by rw[q0p,<-B];exact n) (by simpa using A) ⟨rfl,fin⟩) g
theorem KY(c:List Value)(n j u):Obj.mapSeq (·.setIfInBounds j u) { cls:=.type "list",data:=.seq c.toArray n } = { cls:=.type "list",data:=.seq (c.set j u).toArray n }:=by simp[Obj.mapSeq]
theorem Inv.lst{Y:St}(I:Inv X d Y H s)(h:H p=some (.lst f)) :
  ∃(c:List Value) (n:Nat),bp f c/\s.heap.get? p=some { cls:=.type "list",data:=.seq c.toArray n }/\f.length<=sizeLine:=by
 obtain⟨z,c,n,r,e⟩:=I.hok p _ h;exact⟨c,n,r,e,z⟩
theorem Inv.lstUpd{Y:St}{g :List Value}(I:Inv X d Y H s)(h:H p=some (.lst l))
  (m:s.heap.get? p=some { cls:=.type "list",data:=.seq g.toArray n }) (k:f { cls:=.type "list",data:=.seq g.toArray n } = { cls:=.type "list",data:=.seq c.toArray j }) (r:bp i c) (o:i.length<=sizeLine) (t) :
  Inv X d Y (aI H p (.lst i)) { s with heap:=s.heap.update p f,toks:=t }:=by
 have e:(s.heap.update p f).get? p=some { cls:=.type "list",data:=.seq c.toArray j }:=by rw[Heap.get?_update_self f m (by rw[k]<;>rfl),k]
 refine I.write (x:=p) (e:=p) (by rw[h];trivial) (.inl rfl) (fun b u v q=>(Heap.get?_update_other _ _ (Ne.symm v)).trans q) ⟨_,e⟩ ?_;exact⟨o,c,j,r,e⟩
def KZ:V->V->V->Hp->(Hp->Prop)->Prop:=fun o i v H Q=>∃p c k j,o=.ref p/\i=.int k/\H p=some (.lst c)/\cI c.length k=some j/\Q (aI H p (.lst (c.set j v)))
theorem zO:zf X KZ:=by
 intro c s Y H o i v J L u Q I A B C h;obtain⟨p,D,k,j,rfl,rfl,m,E,q⟩:=h;cases A;obtain⟨t,rfl⟩:=B;obtain⟨d,n,r,f,G⟩:=I.lst m;obtain⟨e,M,w,x⟩:=zM E;have g:=r.length;have N:=eL;have y:Inv X c Y (aI H p (.lst (D.set j v))) { s with heap:=s.heap.update p (Obj.mapSeq (·.setIfInBounds j u)) }:=
  I.lstUpd m f (KY d n j u) (r.set C j) (by rw[q0w];exact G) s.toks
 by_cases z:0<=k
 .have l:k.toNat=j:=by rw[seqIndex_of z x]at e;exact q0n e
  exact PySem.W.ki_setAt f z (by lia) (by rw[q0p,<-g];exact x) (by rw[l];exact⟨_,y,q⟩)
 .have l:(k+(d.toArray.size:Int)).toNat=j:=by rw[seqIndex_neg (by lia) w]at e;rw[q0p,<-g];exact q0n e
  exact PySem.W.ki_setBack f (by lia) (by rw[q0p,<-g];exact w) (by lia) (by rw[l];exact⟨_,y,q⟩)
noncomputable def jI:V->Bool
 |.non=>true
 |.bl _=>true
 |.int _=>true
 |.str _=>true
 |_=>false
noncomputable def jJ:V->V->Bool
 |.non,.non=>true
 |.bl a,.bl b=>a==b
 |.bl a,.int b=>(if a then 1 else 0)==b
 |.int a,.bl b=>a==(if b then 1 else 0)
 |.int a,.int b=>a==b
 |.str a,.str b=>a==b
 |_,_=>false
theorem La(d:aV y u)(c:aV x v)(f:jI y=true)(e:jI x=true):SeqAt.EqAt A s u v (jJ y x):=by
 cases y with
 |non=>
  cases d;cases x with
  |non=>cases c;exact SeqAt.EqAt.same _
  |bl b=>cases c;exact SeqAt.EqAt.none_bool b
  |int b=>obtain⟨t,rfl⟩:=c;exact SeqAt.EqAt.none_int b t
  |str b=>obtain⟨t,rfl⟩:=c;exact SeqAt.EqAt.none_str b t
  |_=>exact absurd (show false=true from e) q0C
 |bl a=>
  cases d;cases x with
  |non=>cases c;exact SeqAt.EqAt.bool_none a
  |bl b=>cases c;exact SeqAt.EqAt.bool_bool a b
  |int b=>obtain⟨t,rfl⟩:=c;exact SeqAt.EqAt.bool_int a b t
  |str b=>obtain⟨t,rfl⟩:=c;exact SeqAt.EqAt.bool_str a b t
  |_=>exact absurd (show false=true from e) q0C
 |int a=>
  obtain⟨t',rfl⟩:=d;cases x with
  |non=>cases c;exact SeqAt.EqAt.int_none a t'
  |bl b=>cases c;exact SeqAt.EqAt.int_bool a t' b
  |int b=>obtain⟨t,rfl⟩:=c;exact SeqAt.EqAt.int_int a t' b t
  |str b=>obtain⟨t,rfl⟩:=c;exact SeqAt.EqAt.int_str a t' b t
  |_=>exact absurd (show false=true from e) q0C
 |str a=>
  obtain⟨t',rfl⟩:=d;cases x with
  |non=>cases c;exact SeqAt.EqAt.str_none a t'
  |bl b=>cases c;exact SeqAt.EqAt.str_bool a t' b
  |int b=>obtain⟨t,rfl⟩:=c;exact SeqAt.EqAt.str_int a t' b t
  |str b=>obtain⟨t,rfl⟩:=c;exact SeqAt.EqAt.str_str a t' b t
  |_=>exact absurd (show false=true from e) q0C
 |_=>exact absurd (show false=true from f) q0C
theorem ku:fR X (.builtin "len") (fun i H Q=>∃p d,i=[.ref p]/\(dE X.K H p d\/dg X.K H p d)/\Q (.int d.length) H):=by
 intro j s Y H i m Q I r h;obtain⟨p,d,rfl,e,q⟩:=h;obtain⟨u,rfl,k⟩:=vals1 r;cases k;have n:=eL;rcases e with e |e
 .obtain⟨f,g,pl,l⟩:=I.list e;have c:=g.length;exact Calls.call_len_list pl.isList (by simp only[q0p]<;>lia) ⟨.int d.length,H,I.tok _,⟨s.toks+1,by rw[q0p,c]⟩,q⟩
 .obtain⟨f,g,pl,l⟩:=I.tuple e;have c:=g.length;exact len_tuple pl (by simp only[q0p]<;>lia) ⟨.int d.length,H,I.tok _,⟨s.toks+1,by rw[q0p,c]⟩,q⟩
theorem vF:fR X (.type "list") (fun z H Q=>∃p f,z=[.ref p]/\(dE X.K H p f\/dg X.K H p f)/\∀l,H l=none->Q (.ref l) (aI H l (.lst f))):=by
 intro j s Y H z C Q I r h;obtain⟨p,f,rfl,k,q⟩:=h;obtain⟨u,rfl,B⟩:=vals1 r;cases B;have fin:∀(c:List Value),bp f c->f.length<=sizeLine->∀(d:Heap) (g:Nat),(∀b A,s.heap.get? b=some A->d.get? b=some A)->
   d.get? s.heap.objs.size=some { cls:=.type "list",dict:=none,data:=.seq c.toArray g,slots:=#[] }->EP X j Y Q (.ref s.heap.objs.size) { s with heap:=d }:=fun c i m d g v e=>
  ⟨.ref s.heap.objs.size,_,I.laid (t':=s.toks) v (be _) (show cw X.prog X.w _ d _ (.lst f) from⟨m,c,g,i,e⟩),rfl,q _ (I.hok.fresh (be _))⟩
 rcases k with k |k
 .obtain⟨c,i,pl,m⟩:=I.list k;have t:=i.length;obtain⟨o,x,y,n,hd⟩:=pl.isList;exact call_list_seq p (.inl rfl) x y hd (fun d g v e=>fin c i m d g v e) (by simp only[q0p]<;>lia)
 .obtain⟨c,i,pl,m⟩:=I.tuple k;have t:=i.length;obtain⟨o,x,y,n,hd⟩:=pl;exact call_list_seq p (.inr rfl) x y hd (fun d g v e=>fin c i m d g v e) (by simp only[q0p]<;>lia)
theorem Lb:fR X (.type "tuple") (fun k H Q=>∃p f,k=[.ref p]/\((dE X.K H p f/\∀l,H l=none->Q (.ref l) (aI H l (.tup f)))\/(dg X.K H p f/\Q (.ref p) H))):=by
 intro c s Y H k z Q I r h;obtain⟨p,f,rfl,h⟩:=h;obtain⟨u,rfl,v⟩:=vals1 r;cases v;rcases h with⟨i,q⟩ |⟨i,q⟩
 .obtain⟨d,j,pl,m⟩:=I.list i;have n:=j.length;refine call_tuple_list pl.isList (fun g y=>?_) (by simp only[q0p]<;>lia);have t:Inv X c Y H { s with heap:=g }:=I.kept (t':=s.toks) y;have x:Inv X c Y (aI H g.objs.size (.tup f)) { s with heap:=g.push { cls:=.type "tuple",data:=.seq d.toArray } }:=
   t.laid (t':=s.toks) (fun b o e=>bD _ e) (be _) (show cw X.prog X.w _ _ _ (.tup f) from⟨m,d,j,IsTup.new _ _⟩)
  exact⟨.ref g.objs.size,_,x,rfl,q _ (t.hok.fresh (be _))⟩
 .obtain⟨d,j,pl,m⟩:=I.tuple i;exact call_tuple_same pl ⟨.ref p,H,I,rfl,q⟩
def zP(K:Frag)(T:String)(x:V)(H:Hp):Prop:=match x with
 |.str _=>T="str"
 |.int _=>T="int"
 |.ref p=>(T="list"/\∃d,dE K H p d)\/(T="tuple"/\∃o,K.lookup p=some o/\o.cls=.type "tuple"/\o.dict=none)\/
   (T="dict"/\((∃c,H p=some (.dK c))\/∃c,H p=some (.dT c)))\/(T="set"/\∃S n,H p=some (.set S n))
 |_=>False
theorem Lc{Y:St}(I:Inv X f Y H s)(r:aV x v)(g:zP X.K T x H) :
  s.TypeIs v T/\∀a,v=.ref a->∃k,s.heap.get? a=some k/\k.dict=none:=by
 cases x with
 |str z=>obtain⟨t,rfl⟩:=r;cases(show T="str" from g);exact⟨typeIs_str s z t,fun _ e=>nomatch e⟩
 |int i=>obtain⟨t,rfl⟩:=r;cases(show T="int" from g);exact⟨typeIs_int s i t,fun _ e=>nomatch e⟩
 |ref p=>
  cases r;rcases g with⟨rfl,u,l⟩ |⟨rfl,o,d,m,hd⟩ |⟨rfl,d⟩ |⟨rfl,S,n,d⟩
  .obtain⟨q,_,pl,_⟩:=I.list l;refine⟨pl.isList.typeIs,fun a e=>?_⟩;cases e;obtain⟨o,n,e,c,hd,_⟩:=pl;exact⟨o,e,hd⟩
  .refine⟨⟨o,I.kIn p o d,m⟩,fun a e=>?_⟩;cases e;exact⟨o,I.kIn _ o d,hd⟩
  .have z:∃o,s.heap.get? p=some o/\o.ExactDict:=by
    rcases d with⟨h,d⟩ |⟨h,d⟩
    .obtain⟨_,_,_,_,o,_,_,e,ex,_⟩:=I.hok p _ d;exact⟨o,e,ex⟩
    .obtain⟨_,_,_,_,o,_,_,e,ex,_⟩:=I.hok p _ d;exact⟨o,e,ex⟩
   obtain⟨o,e,ex⟩:=z;refine⟨⟨o,e,ex.1⟩,fun a j=>?_⟩;cases j;exact⟨o,e,ex.2.1⟩
  .obtain⟨o,_,_,_,e,ex,_⟩:=I.hok p _ d;refine⟨⟨o,e,ex.1⟩,fun a j=>?_⟩;cases j;exact⟨o,e,ex.2.1⟩
 |_=>exact False.elim g
def Ld(K:Frag)(T:String)(r:V->List V->Hp->VK->Prop)(d:TE)(t:TA):TE:=fun Y H Q=>d Y H fun x c=>zP K T x c/\t Y c fun e f=>r x e f Q
theorem vG{apos:Pos}{cpos:Pos}{id:String}(pa:PlainAttrs T)(slot:Slot T name id)(l:typeOf (.builtin id)=pure (.type "method_descriptor"))(q:vC X id r)(u:PE X o to)(w:PA X (e::es) t)
  (f:autoParam (attributeBase o name X.env (eval o X.env)=eval o X.env) Zq._auto_1)
  (i:autoParam (((backTo cpos (starEach (e::es) X.env)).all (fun x=>!x.1)&&(backToKw cpos (keywordEach [] X.env)).all (fun x=>x.1.isSome)
   && decide ((e::es).length+([]:List Keyword).length+(if ([]:List Keyword).isEmpty then 0 else 1)<30))=true) Zq._auto_1)
  (g:autoParam ((apos.endLine==cpos.line)=true) Zq._auto_1) (y:autoParam (starEach (e::es) X.env=(false,eval e X.env)::starEach es X.env) Zq._auto_1) (d:autoParam ((backTo cpos (starEach es X.env)).any (·.1)=false) Zq._auto_1) :
  PE X (.Call (.Attribute o name apos) (e::es) [] cpos) (Ld X.K T r to t):=by
 intro c s Y H Q I h;refine wpAny_Call_method_late f i g rfl (aL (u c s Y H _ I h) fun v z j=>?_);obtain⟨x,A,m,n,ty,B⟩:=j;obtain⟨C,D⟩:=Lc m n ty;refine⟨T,id,pa,slot,l,C,D,?_⟩;have p:=w cpos c z Y A _ m B;rw[y]at p ⊢;refine Calls.callWith_builtin (by show(false||(backTo cpos (starEach es X.env)).any (·.1))=false;rw[d]<;>rfl) (Calls.evalArgs_plain ?_);exact aL p fun E G k=>by obtain⟨vs,J,L,M,N⟩:=k;exact q c G Y J x vs v E Q L n M N
def Lf(X:Cx)(id:String)(r:V->List V->Hp->VK->Prop):Prop:=
 ∀(a:List (Addr×Obj)) (s:Shared) (Y:St) (H:Hp) (x:V) (b:List V) (v:Value) (c:List Value) (Q:VK),Inv X a Y H s->aV x v->bp b c->r x b H Q->
  wpAny (model X.prog X.w) X.A (call (.builtin id) (v::c)) (EP X a Y Q) X.xe s
theorem bp.one:∀{x a},bp [x] a->∃u,a=[u]/\aV x u:=by
 intro x a h;cases h with
 |cons r t=>cases t;exact⟨_,rfl,r⟩
theorem Inv.lset{Y:St}{a :List Value}(I:Inv X pins Y H s)(c:H l=some (.lst xs))
  (e:s.heap.get? l=some { cls:=.type "list",data:=.seq a.toArray n }) (d:f a.toArray=its'.toArray) (g:bp ys its') (h:ys.length<=sizeLine) :
  Inv X pins Y (aI H l (.lst ys)) { s with heap:=s.heap.update l (Obj.mapSeq f),toks:=t' }:=by
 have q:=PySem.IsL.update e f;rw[d]at q;refine I.write (x:=l) (e:=l) (by rw[c];exact trivial) (.inl rfl) (fun k u j i=>(Heap.get?_update_other s.heap (Obj.mapSeq f) (Ne.symm j)).trans i) ⟨_,q⟩ ?_;exact⟨h,its',_,g,q⟩
theorem Inv.lnew{Y:St}(I:Inv X pins Y H s)(c:bp ys a)(d:ys.length<=sizeLine) :
  Inv X pins Y (aI H s.heap.objs.size (.lst ys)) { s with heap:=s.heap.push { cls:=.type "list",data:=.seq a.toArray },toks:=t' }:=
 I.laid (fun _ _ q=>bD _ q) (be _) ⟨d,a,0,c,Heap.get?_push_size _ rfl⟩
theorem Inv.fresh{Y:St}(I:Inv X pins Y H s):H s.heap.objs.size=none:=I.hok.fresh (be _)
theorem Inv.lstM{Y:St}(I:Inv X pins Y H s)(c:H l=some (.lst xs)):xs.length<=sizeLine/\∃(a:List Value) (n:Nat),bp xs a/\xs.length=a.length/\s.heap.get? l=some { cls:=.type "list",data:=.seq a.toArray n }:=by obtain⟨z,a,n,r,e⟩:=I.hok l _ c;exact⟨z,a,n,r,r.length,e⟩
def Lg:V->List V->Hp->VK->Prop:=fun x vs H Q=>∃l a y,x=.ref l/\vs=[y]/\H l=some (.lst a)/\a.length<sizeLine/\Q .non (aI H l (.lst (a++[y])))
theorem zQ:Lf X "list.append" Lg:=by intro b s Y H x vs v g Q I d f h;obtain⟨l,i,y,rfl,rfl,c,j,q⟩:=h;cases d;obtain⟨u,rfl,ru⟩:=f.one;obtain⟨z,a,n,r,k,e⟩:=I.lstM c;refine call_meets F.slot_list_append ⟨_,e,rfl⟩ F.entry_list_append (F.args_list_append_2 _ _) (PySem.list_append l a.toArray n u (by rw[q0p];lia)) ⟨e,?_⟩;refine⟨.non,_,I.lset (its':=a++[u]) c e (by simp) (r.append (.cons ru .nil)) ?_,rfl,q⟩;rw[q0u,q04];lia
def zR:R2:=fun x y H Q=>∃l b a c,x=.ref l/\y=.ref b/\H l=some (.lst a)/\H b=some (.lst c)/\a.length+c.length<=sizeLine/\∀p,H p=none->Q (.ref p) (aI H p (.lst (a++c)))
theorem Lh:cn X (binaryOp .Add) zR:=by
 intro d s Y H x y v u Q I f g h;obtain⟨l,b,p,t,rfl,rfl,i,hB,w,q⟩:=h;cases f;cases g;obtain⟨z,c,n,r,A,e⟩:=I.lstM i;obtain⟨B,a,C,j,k,m⟩:=I.lstM hB;refine PySem.P.add_list e m ?_ (by rw[q0p,q0p];lia);have o:c.toArray++a.toArray=(c++a).toArray:=by simp
 rw[o];exact⟨.ref _,_,I.lnew (t':=s.toks) (r.append j) (by rw[q0u];lia),rfl,q _ I.fresh⟩
end L2
namespace Att
open PySem PySem.W PySem.Calls PyProof.Rows
theorem Li:∀c  vs,WellAll P h vs (c.map WData.int)->IntsAre vs c:=by
 intro c
 induction c with
 |nil=>intro vs w;rw[q08]at w;cases w;exact .nil
 |cons n c d=>
  intro vs w;rw[q0c]at w;cases w with
  |cons a b=>cases a;exact .cons _ _ (d _ b)
theorem Lj{l:OpenLaw}(p:l.most=some n)
  (e:l.row.toRowW.claim.pre args=true) (k:WellAll P h c args) :
  ∃a vs b,c=[Value.ref a]/\args=[WData.list (b.map WData.int)]/\h.get? a=some { cls:=.type "list",data:=.seq vs.toArray }/\IntsAre vs b/\b.length<=n:=by
 have m:WShape.hasAll [] args [.list .int]=true:=(pre_splitW e).1;have o:l.pre.holds [] { args:=args }=true:=(pre_splitW e).2;obtain⟨d,r,rfl,s,t⟩:=hasAllW_cons m;obtain rfl:=hasAllW_nil t;obtain⟨z,rfl,u⟩:=hasW_list s;obtain⟨b,rfl⟩:=items_int u;have f:b.length<=n:=by
  unfold OpenLaw.pre at o;have i:(WTm.not (.lt (.lit (.int (n:Int))) (.len (.arg 0)))).holds [] { args:=[.list (b.map .int)] }=true:=by have i:=(holds_andW o).1;rw[p]at i;exact i
  have j:=condW_of i (w_not (w_lt w_lit (w_len_list (w_arg rfl))));rw[q0h]at j;refine q1i fun q=>?_;have v:(n:Int)<((b.length:Nat):Int):=by lia
  first
   |(rw[decide_eq_true v]at j;exact absurd j (by decide))
   |(simp at j;lia)
 cases k with
 |cons w x=>
  cases x;cases w with
  |list y g=>exact⟨_,_,b,rfl,rfl,y,Li b _ g,f⟩
theorem Lk(l:OpenLaw)(args):l.row.toRowW.claim.post args (.bool true) args=true:=
 postW_of (r:=l.row.toRowW) (X:=(true==true))
  (show WShape.has [] (.bool true) .bool=true by first |rfl |decide |simp[WShape.has,WShape.arms,WShape.armsAll])
  (show(WTm.eq .res (.lit (.bool true))).value [] { args:=args,res:=some (.bool true),after:=args }=some (.bool (true==true)) from w_eq_bool (w_res rfl) w_lit) rfl
theorem attach_call{l:OpenLaw}
  (H:l.most=some n) (t:d.params.defaults=[])
  (call:∀w  z c  mg u  h  o  pm m e  a  vs  s,
   Ground q b [] A w z mg u c.heap->B w c.heap->
   c.heap.get? h=some o->o.data=.func (docDef d.name d.params d.body d.scope pm m e)->c.heap.CodeRec m d.name->mg d.name=some (.ref h)->
   c.heap.get? a=some { cls:=.type "list",data:=.seq vs.toArray }->IntsAre vs s->s.length<=n->c.gens = #[]->
   codeAny (model l.prog w) callerA (.call (.ref h) ⟨[.ref a],[]⟩) (fun r p=>r=.ok (.ret (.bool true))/\OldK c.heap p.heap/\p.os=c.os/\AllBare p.gens) c) :
  WalkO q b A B l.row.toRowW d [] (fun f vs=>PySem.call f vs):=by
 intro w z c mg u G I h o pm m e dV kV J hd v C x L args D as i E M y N;obtain rfl:dV=.none:=Dflts.none C t;obtain rfl:kV=.none:=Dflts.noKw C;obtain⟨a,vs,s,rfl,rfl,j,g,k⟩:=Lj H i y;refine enter_call (codeAny_mono (call w z c mg u h o pm m e a vs s G I J (fd_plain hd) v x j g k L) fun r p O=>?_);obtain⟨rfl,Q,T,U⟩:=O;exact⟨.inl ⟨.bool true,.bool true,[],rfl,fun _=>rfl,.bool true,Lk l _,fun _=>⟨List.Pairwise.nil,fun _ Y=>(nomatch Y)⟩⟩,Q,T,U⟩
end Att
namespace L2
open PySem PySem.Spec PyProof.Rows
theorem Ll:∀{vs a},IntsAre vs a->bp (a.map V.int) vs:=by
 intro vs a h
 induction h with
 |nil=>exact .nil
 |cons n t _ b=>exact .cons ⟨t,rfl⟩ b
noncomputable def gr(s:Stmt)(j:Nat):Stmt:=match s with
 |.ClassDef _ _ _ body _ _ _ _ _ _ _=>body.getD j (.Pass ⟨0,0,0,0⟩)
 |_=>.Pass ⟨0,0,0,0⟩
noncomputable def gu(s:Stmt):Arguments:=match s with
 |.FunctionDef _ a _ _ _ _ _ _ _ _=>a
 |_=>{ posonlyargs:=[],args:=[],vararg:=none,kwonlyargs:=[],kw_defaults:=[],kwarg:=none,defaults:=[] }
noncomputable def fo(s:Stmt):List Stmt:=match s with
 |.FunctionDef _ _ b _ _ _ _ _ _ _=>b
 |_=>[]
noncomputable def cS(s:Stmt):Scope:=match s with
 |.FunctionDef _ _ _ _ _ _ a _ _ _=>a
 |_=>{ kind:=.function,names:=[],isGenerator:=false,isCoroutine:=false }
structure ni (K:Frag) (x qual:Str) (st:Stmt) (f:Addr) (fd:FuncData):Prop where
 ex:∃(oc:Value) (od:Option Addr) (kV doc pm:Value) (an:Option Addr) (cdv ct:Value) (osl:Array (Option Value)),
  fd=fnOf x qual (gu st) (fo st) (cS st) .none kV doc pm an cdv ct/\K.lookup f=some ⟨oc,od,.func fd,osl⟩/\codeIn K cdv qual=true
 kp:keepIn K (.ref f)=true
theorem ni.binds{K:Frag}{st}(F:ni K x a st f fd)
  (h:∀kV b pm  e  c i  g,g.length=d.length->bindArgs (fnOf x a (gu st) (fo st) (cS st) .none kV b pm e c i) ⟨g,[]⟩=pure (d.zip g)):gL K fd d []:=by
 obtain⟨l,m,kV,b,pm,e,c,i,j,rfl,lk,k⟩:=F.ex;exact .all (h kV b pm e c i)
theorem oQ{K:Frag}{st}{kV }(l:K.lookup f=some ⟨i,j,.func (fnOf x a (gu st) (fo st) (cS st) .none kV d pm g b h),e⟩)
  (c:codeIn K b a=true) (k:keepIn K (.ref f)=true):ni K x a st f (fnOf x a (gu st) (fo st) (cS st) .none kV d pm g b h):=⟨⟨i,j,kV,d,pm,g,b,h,e,rfl,l,c⟩,k⟩
theorem jk(a:bh k A):A.units+1<cLine:=q2d (Nat.add_le_add_left (by decide:1<=64) _) a.units
section
variable{X:Cx}
theorem pv(i){pos}(b:autoParam (X.N[i]? = some x) Zq._auto_1)(c:kr X.env.scope x:=by first |exact Or.inl rfl |exact Or.inr (Or.inl rfl) |exact Or.inr (Or.inr rfl))(hd:autoParam ((x==("__debug__":Str))=false) Zr._auto_1)
  (a:autoParam ((x==("__classdict__":Str))=false) Zr._auto_1):PE X (.Name x pos) (bQ i):=IX b c hd a
end
theorem ei{B:Prop}(h:B):if false=true then A else B:=by rw[if_neg q0C];exact h
theorem ej{B:Prop}(h:A):if true=true then A else B:=by rw[if_pos rfl];exact h
def bP(H a:Hp):Prop:=∀b o,H b=some o->a b=some o
theorem bP.seq{K}(e:bP H b)(h:dE K H a c):dE K b a c:=by
 rcases h with(h |⟨o,h⟩) |h
 .exact .inl (.inl (e _ _ h))
 .exact .inl (.inr ⟨o,e _ _ h⟩)
 .exact .inr h
end L2
set_option maxHeartbeats 4000000
namespace L2
open PySem PySem.Spec PyProof.Rows
section
variable{κ:Type}[DecidableEq κ]
noncomputable def fU(a:List (κ×V))(k:κ):Option V:=(a.find? fun b=>decide (b.1=k)).map (·.2)
noncomputable def fJ(a:List (κ×V))(k:κ)(v:V):List (κ×V):=
 if (a.any fun b=>decide (b.1=k))=true then a.map (fun b=>if b.1=k then(b.1,v) else b) else a++[(k,v)]
theorem rG{p:κ×V}(e:p.1=k):fU (p::r) k=some p.2:=by simp[fU,q1n,e]
theorem rH{p:κ×V}(e:¬ p.1=k):fU (p::r) k=fU r k:=by simp[fU,q1n,e]
theorem rJ(k):∀a:List (κ×V),(a.any fun b=>decide (b.1=k))=(fU a k).isSome
 |[]=>rfl
 |p::r=>by
  rw[q2I]
  by_cases e:p.1=k
  .simp only[rG e,decide_eq_true e,Bool.true_or,q2e]
  .rw[rH e,decide_eq_false e,Bool.false_or];exact rJ k r
theorem zS(a)(k:κ)(v):(fJ a k v).length<=a.length+1:=by
 unfold fJ;split
 .rw[q0h];lia
 .rw[q0u,q0l,q0F];lia
theorem Lm{a:List (κ×V)}(v)(h:fU a k=none):fJ a k v=a++[(k,v)]:=by unfold fJ;rw[rJ,h];exact if_neg (by decide)
theorem eZ.isSome_eq(r:eZ o u):o.isSome=u.isSome:=by
 cases o with
 |none=>cases u with
  |none=>rfl
  |some _=>exact(show False from r).elim
 |some _=>cases u with
  |none=>exact(show False from r).elim
  |some _=>rfl
theorem eZ.getD(r:eZ o u)(rd:aV d a):aV (o.getD d) (u.getD a):=by
 cases o with
 |none=>cases u with
  |none=>exact rd
  |some _=>exact(show False from r).elim
 |some _=>cases u with
  |none=>exact(show False from r).elim
  |some _=>exact r
theorem KV.val(r:KV a vs)(k:κ):eZ (fU a k) (valueAt vs k):=by
 unfold KV at r
 induction r with
 |nil=>exact True.intro
 | @cons p q j c h t g=>
  obtain⟨f,i⟩:=h
  by_cases e:p.1=k
  .have d:q.1=k:=f.symm.trans e;have b:valueAt (q::c) k=some q.2:=by simp[valueAt,q1n,d]
   rw[rG e,b];exact i
  .have d:¬ q.1=k:=fun z=>e (f.trans z);have b:valueAt (q::c) k=valueAt c k:=by simp[valueAt,q1n,d]
   rw[rH e,b];exact g
theorem KV.any(r:KV a vs)(k:κ):(a.any fun b=>decide (b.1=k))=vs.any fun b=>decide (b.1=k):=by
 unfold KV at r
 induction r with
 |nil=>rfl
 |cons h t c=>rw[q2I,q2I,c,h.1]
theorem KV.repl(r:KV b vs)(k:κ)(d:aV y u) :
  KV (b.map fun a=>if a.1=k then(a.1,y) else a) (vs.map fun a=>if a.1=k then(a.1,u) else a):=by
 unfold KV at r ⊢
 induction r with
 |nil=>exact .nil
 | @cons p q i j h t f=>
  rw[q0c,q0c];refine .cons ?_ f;obtain⟨c,g⟩:=h
  by_cases e:p.1=k
  .rw[if_pos e,if_pos (c.symm.trans e)];exact⟨c,d⟩
  .rw[if_neg e,if_neg (fun z=>e (c.trans z))];exact⟨c,g⟩
theorem KV.put(r:KV a vs)(k:κ)(b:aV y u):KV (fJ a k y) (stored vs k u):=by
 unfold fJ stored;rw[r.any k]
 by_cases e:(vs.any fun c=>decide (c.1=k))=true
 .rw[if_pos e,if_pos e];exact r.repl k b
 .rw[if_neg e,if_neg e];exact Paired.snoc r ⟨rfl,b⟩
theorem KV.length{a:List (κ×V)}(r:KV a vs):a.length=vs.length:=Paired.length r
end
theorem rK(r:aV (kV k) u):(fk P w).is k u=true:=by
 cases k with
 |inl i=>obtain⟨t,e⟩:=(show ∃t,u=Value.int i t from r);subst e;exact IP P w i t
 |inr x=>obtain⟨t,e⟩:=(show ∃t,u=Value.str x t from r);subst e;exact IQ P w x t
theorem zT:∀{a b},bp (a.map kV) b->ItemsAre (fk P w) a b
 |[],_,r=>by rw[q08]at r;cases r;exact .nil
 |k::a,_,r=>by
  rw[q0c]at r;cases r with
  |cons h t=>exact .cons (rK h) (zT t)
abbrev KT(H:Hp):List (List aR×V)->List (List aR×Addr×Value)->Prop:=Paired fun p q=>p.1=q.1/\H q.2.1=some (.tup (p.1.map kV))/\aV p.2 q.2.2
theorem KT.val(r:KT H a f)(k):eZ (fU a k) ((atKey f k).map (·.2)):=by
 induction r with
 |nil=>exact True.intro
 | @cons p q l c h t i=>
  obtain⟨g,_,j⟩:=h
  by_cases e:p.1=k
  .have d:q.1=k:=g.symm.trans e;have b:atKey (q::c) k=some q.2:=by simp[atKey,q1n,d]
   rw[rG e,b];exact j
  .have d:¬ q.1=k:=fun z=>e (g.trans z);have b:atKey (q::c) k=atKey c k:=by simp[atKey,q1n,d]
   rw[rH e,b];exact i
theorem KT.repl(r:KT H a d)(k)(g:aV y u) :
  KT H (a.map fun c=>if c.1=k then(c.1,y) else c) (d.map (putAt k u)):=by
 induction r with
 |nil=>exact .nil
 | @cons p q l m h t i=>
  rw[q0c,q0c];refine .cons ?_ i;obtain⟨b,f,j⟩:=h;unfold putAt
  by_cases e:p.1=k
  .rw[if_pos e,if_pos (b.symm.trans e)];exact⟨b,f,g⟩
  .rw[if_neg e,if_neg (fun z=>e (b.trans z))];exact⟨b,f,j⟩
theorem KT.put(r:KT H a c)(k)(g:H b=some (.tup (k.map kV)))(d:aV y u) :
  KT H (fJ a k y) (storedH c k b u):=by
 have e:(a.any fun f=>decide (f.1=k))=(atKey c k).isSome:=by rw[rJ,(r.val k).isSome_eq,Option.isSome_map]
 unfold fJ storedH;rw[e]
 by_cases q:(atKey c k).isSome=true
 .rw[if_pos q,if_pos q];exact r.repl k d
 .rw[if_neg q,if_neg q];exact Paired.snoc r ⟨rfl,g,d⟩
theorem KT.keeps(r:KT H a d)(f:∀b e,H b=some (.tup e)->c b=some (.tup e)):KT c a d:=
 Paired.mapP r fun _ _ z=>⟨z.1,f _ _ z.2.1,z.2.2⟩
theorem zU(ok:bH P w H h)(e:Rd H a u):cw P w H h a u:=e.ok ok
theorem oR(ok:bH P w H h)(e:Rd H a (.dK b)):b.length<=sizeLine/\(a==sysModules)=false/\∃vs,KV b vs/\h.DictOf (fk P w) a vs:=
 show cw P w H h a (.dK b) from zU ok e
theorem vH(ok:bH P w H h)(e:H a=some (.dK b)):b.length<=sizeLine/\(a==sysModules)=false/\∃vs,KV b vs/\h.DictOf (fk P w) a vs:=oR ok (.inl e)
theorem rL(ok:bH P w H h)(e:H a=some (.tup (b.map kV))):(tupleKind (fk P w)).is h b a:=by
 obtain⟨_,c,r,o,d,f,n,g⟩:=(show cw P w H h a (.tup (b.map kV)) from ok a _ e)
 exact⟨o,c.toArray,n,d,f,g,by simpa using zT r⟩
theorem oS(ok:bH P w H h)(e:Rd H a (.dT b)):b.length<=sizeLine/\(a==sysModules)=false/\
  ∃d,KT H b d/\h.DictOfH (tupleKind (fk P w)) a d:=by
 obtain⟨z,y,d,r,o,g,i,j,k,n,s,u⟩:=(show cw P w H h a (.dT b) from zU ok e)
 refine⟨z,y,d,r,o,g,i,j,k,n,s,fun x c=>?_,u⟩;have all:∀{l:List (List aR×V)}{m:List (List aR×Addr×Value)},KT H l m->∀x∈m,(tupleKind (fk P w)).is h x.1 x.2.1:=by
  intro l m q
  induction q with
  |nil=>intro x c;exact nomatch c
  | @cons p q A B f t v=>
   intro x c;rcases q0d.mp c with e |c
   .subst e;exact rL ok (by rw[<-f.1];exact f.2.1)
   .exact v x c
 exact all r x c
theorem Ln(ok:bH P w H h)(e:H a=some (.dT b)):b.length<=sizeLine/\(a==sysModules)=false/\
  ∃c,KT H b c/\h.DictOfH (tupleKind (fk P w)) a c:=oS ok (.inl e)
def iO(H:Hp)(a:Addr)(y:V)(r:Option V):Prop:=
 (∃c k,Rd H a (.dK c)/\y=kV k/\r=fU c k)\/∃c k b,Rd H a (.dT c)/\y=.ref b/\H b=some (.tup (k.map kV))/\r=fU c k
def lH(H:Hp)(a:Addr)(y v:V)(d:Hp):Prop:=
 (∃c k,H a=some (.dK c)/\y=kV k/\c.length<sizeLine/\d = aI H a (.dK (fJ c k v)))\/
 ∃c k b,H a=some (.dT c)/\y=.ref b/\H b=some (.tup (k.map kV))/\c.length<sizeLine/\d = aI H a (.dT (fJ c k v))
theorem iO.k{k}(e:H a=some (.dK b)):iO H a (kV k) (fU b k):=.inl ⟨b,k,.inl e,rfl,rfl⟩
theorem iO.t{k}(e:H a=some (.dT c))(d:H b=some (.tup (k.map kV))):iO H a (.ref b) (fU c k):=.inr ⟨c,k,b,.inl e,rfl,d,rfl⟩
theorem lH.k{k}(e:H a=some (.dK b))(c:b.length<sizeLine):lH H a (kV k) v (aI H a (.dK (fJ b k v))):=.inl ⟨b,k,e,rfl,c,rfl⟩
theorem lH.t{k}(e:H a=some (.dT c))(d:H b=some (.tup (k.map kV)))(f:c.length<sizeLine) :
  lH H a (.ref b) v (aI H a (.dT (fJ c k v))):=.inr ⟨c,k,b,e,rfl,d,f,rfl⟩
theorem Inv.big{Y:St}(I:Inv X pins Y H s):sysModules<s.heap.objs.size:=by have h:mainGlobals<s.heap.objs.size:=(I.mod.glob.keeps I.bk).lt;exact Nat.lt_trans (by decide) h
theorem Lo{Y:St}(t:A.units+1<cLine)(I:Inv X pins Y H s)(g:iO H a y (some v))(n:aV y u)(h:∀d q,Inv X pins Y H q->aV v d->Q d q) :
  wpAny (model X.prog X.w) A (getItem (.ref a) u) Q E s:=by
 rcases g with⟨f,k,e,i,l⟩ |⟨f,k,b,e,i,x,l⟩
 .subst i;obtain⟨z,hd,vs,rel,dd⟩:=oR I.hok e;obtain⟨d,j,c⟩:=eZ.some_of (v:=v) (o:=valueAt vs k) (by rw[l];exact rel.val k);exact wpAny_getItem_of (rK n) dd.mapOf j (h d _ (I.tok _) c)
 .subst i;cases(show u=Value.ref b from n);obtain⟨z,hd,B,rel,dd⟩:=oS I.hok e;obtain⟨d,j,c⟩:=eZ.some_of (v:=v) (o:=(atKey B k).map (·.2)) (by rw[l];exact rel.val k);obtain⟨p,C,m⟩:=q0i.mp j;refine wpAny_getItem_heap (tupleKind_room_in1 t) (rL I.hok x) dd C ?_;rw[m];exact h d _ (I.tok _) c
theorem zV{Y:St}(I:Inv X pins Y H s)(f:oE (H a))(g:Heap.SameBut a s.heap c)(h:∃q,c.get? a=some q)(new:cw X.prog X.w (aI H a d) c a d) :
  Inv X pins Y (aI H a d) { s with heap:=c,toks:=t' }:=
 I.write (x:=a) (e:=a) f (.inl rfl) (fun b q i z=>(g.2 b i).trans z) h new
theorem Lp(z:b.length<=sizeLine)(hd:(a==sysModules)=false)(rel:KV b vs)(e:c.DictOf (fk P w) a vs) :
  cw P w d c a (.dK b):=⟨z,hd,vs,rel,e⟩
theorem Lq{Y:St}(M:A.units+1<cLine)(I:Inv X pins Y H s)(g:lH H a y v x)(B:aV y u)(C:aV v r)(h:∀D,Inv X pins Y x D->Q () D) :
  wpAny (model X.prog X.w) A (setItem (.ref a) u r) Q E s:=by
 rcases g with⟨d,k,e,j,l,m⟩ |⟨d,k,b,e,j,G,l,m⟩
 .subst j m;obtain⟨z,hd,vs,rel,dd⟩:=vH I.hok e;have n:vs.length<=sizeLine:=by rw[<-rel.length];exact z
  have p:(fJ d k v).length<=sizeLine:=by have:=zS d k v;lia
  refine wpAny_setItem_pairs (hsz:=n) (rK B) dd fun J f t=>h _ ?_;have N:∃q,J.get? a=some q:=let⟨q,_,_,i,_⟩:=f;⟨q,i⟩;exact zV I (by rw[e];exact True.intro) t N (Lp p hd (rel.put k C) f)
 .subst j m;cases(show u=Value.ref b from B);obtain⟨z,hd,O,rel,dd⟩:=Ln I.hok e;have n:O.length<=sizeLine:=by rw[<-Paired.length rel];exact z
  have p:(fJ d k v).length<=sizeLine:=by have:=zS d k v;lia
  refine wpAny_setItem_heap (hsz:=n) (tupleKind_room_in1 M) (rL I.hok G) dd fun J f t=>h _ ?_;obtain⟨q,R,S,i,T,U,Z,_,h5⟩:=f;refine zV I (by rw[e];exact True.intro) t ⟨q,i⟩ ⟨p,hd,_,(rel.put k G C).keeps fun c ys L=>?_,q,R,S,i,T,U,Z,h5⟩;rw[bn (IR L e (fun z=>nomatch z))];exact L
def oU(i:Expr):Prop:=∀a b,subscripted i false a b=operate [a,b] (getItem a b)
theorem zW{id}
  (j:typeLookup (.type T) "__getitem__" = pure (some (.builtin id))) (k:oU slice)
  (h:wpAny (model a w) A (eval value b) (fun o e=>wpAny (model a w) A (eval slice b) (fun i c=>c.TypeIs o T/\wpAny (model a w) A (getItem o i) Q E c) E e) E s) :
  wpAny (model a w) A (eval (.Subscript value slice pos) b) Q E s:=by
 refine Subscript_ (wpAny_mono h (fun o e l=>wpAny_mono l (fun i c d=>?_) fun _ _ x=>x) fun _ _ x=>x);obtain⟨f,d⟩:=d;unfold subscriptTail;refine aH ?_;rw[getitemInPython_of_ne f.not_modules];refine aH (wpAny_specialOf f j ?_);have fin:wpAny (model a w) A (subscripted slice false o i) (fun r g=>wpAny (model a w) A (letTemporaryGo value o r >>= fun _=>pure r) Q E g) E c:=by rw[k o i];exact wpAny_operating (wpAny_mono d (fun r g m=>aH (wpAny_letTemporaryGo (bz m))) fun _ _ x=>x)
 first
  |exact bz (aH fin)
  |exact aH (bz (aH fin))
  |exact aH fin
theorem Lr{Y:St}(I:Inv X c Y H s)(g:iO H a y o):s.TypeIs (.ref a) "dict":=by
 rcases g with⟨d,k,e,_,_⟩ |⟨d,k,b,e,_,_,_⟩
 .obtain⟨_,_,vs,_,dd⟩:=oR I.hok e;exact dd.typeIs
 .obtain⟨_,_,f,_,dd⟩:=oS I.hok e;exact dd.typeIs
def Ls(c e:TE):TE:=fun Y H Q=>c Y H fun x d=>e Y d fun y b=>∃a v,x=.ref a/\iO b a y (some v)/\Q v b
def Lu(c h d:TE):TS:=fun D Y H=>d Y H fun v e=>c Y e fun x f=>h Y f fun y g=>∃a b,x=.ref a/\lH g a y v b/\D.nx Y b
theorem zX(j:X.A.units+1<cLine)(k:PE X o td)(l:PE X i ty)(m:oU i):PE X (.Subscript o i pos) (Ls td ty):=by intro b s Y H Q I h;refine zW PySem.F.slot_dict_getitem.lookup m (aL (k b s Y H _ I h) fun u n ⟨x,p,q,r,t⟩=>aL (l b n Y p _ q t) fun D E c=>?_);obtain⟨y,w,f,z,a,v,ex,g,B⟩:=c;subst ex;obtain rfl:u=Value.ref a:=r;exact⟨Lr f g,Lo j f g z fun G J C d=>⟨v,w,C,d,B⟩⟩
theorem zY(d:X.A.units+1<cLine)(f:PE X o td)(j:PE X i ty)(k:PE X value tv)(l:swapsWith value (some (.Subscript o i pos')) pos.line X.env=pure false) :
  PS X (.Assign [.Subscript o i pos'] value pos) (Lu td ty tv):=by
 intro b s Y H D I h;refine wpAny_Assign_Subscript (aL (k b s Y H _ I h) fun r m ⟨v,n,p,q,t⟩=>aL (f b m Y n _ p t) fun u w ⟨x,z,B,C,E⟩=>aL (j b w Y z _ B E) fun O Q c=>?_) l;obtain⟨y,R,G,J,a,L,ex,g,M⟩:=c;subst ex;obtain rfl:u=Value.ref a:=C;exact Lq d G g J q fun s4 N=>⟨Y,L,N,M⟩
theorem Lv(h:Heap)(a:sysModules<h.objs.size):cw P w H (h.push { cls:=.type "dict",data:=.dict #[] }) h.objs.size (.dK []):=
 ⟨q0T _,beq_eq_false_iff_ne.mpr (Ne.symm (q0v a)),[],.nil,Heap.DictOf.new h⟩
theorem Lw(h:Heap)(a:sysModules<h.objs.size):cw P w H (h.push { cls:=.type "dict",data:=.dict #[] }) h.objs.size (.dT []):=
 ⟨q0T _,beq_eq_false_iff_ne.mpr (Ne.symm (q0v a)),[],.nil,_,#[],0,Heap.get?_push_size _ rfl,⟨rfl,rfl,rfl⟩,rfl,rfl,q1O⟩
def Lx:TE:=fun _ H Q=>∀p,H p=none->Q (.ref p) (aI H p (.dK []))
def Ly:TE:=fun _ H Q=>∀p,H p=none->Q (.ref p) (aI H p (.dT []))
theorem Lz:PE X (.Dict [] [] pos) Lx:=fun b s Y H Q I h=>wpAny_Dict_empty ⟨.ref s.heap.objs.size,_,I.laid (a:=s.heap.objs.size) (o:=.dK []) (t':=s.toks) (fun _ _ q=>bD _ q) (be _) (Lv s.heap I.big),rfl,h _ (I.hok.fresh (be _))⟩
theorem zZ:PE X (.Dict [] [] pos) Ly:=fun b s Y H Q I h=>wpAny_Dict_empty ⟨.ref s.heap.objs.size,_,I.laid (a:=s.heap.objs.size) (o:=.dT []) (t':=s.toks) (fun _ _ q=>bD _ q) (be _) (Lw s.heap I.big),rfl,h _ (I.hok.fresh (be _))⟩
structure M2 (X:Cx) (o:Expr) (m:Str) (apos:Pos) (e f:Expr) (cpos:Pos):Prop where
 base:attributeBase o m X.env (eval o X.env)=eval o X.env
 few:((backTo cpos (starEach [e,f] X.env)).all (fun x=>!x.1)&&(backToKw cpos (keywordEach [] X.env)).all (fun x=>x.1.isSome)
  && decide (([e,f]:List Expr).length+([]:List Keyword).length+(if ([]:List Keyword).isEmpty then 0 else 1)<30))=true
 line:(apos.endLine==cpos.line)=true
 trees:backTo cpos (starEach [e,f] X.env)=[(false,eval e X.env),(false,eval f X.env)]
def vI(H:Hp)(a:Addr):Prop:=(∃b,Rd H a (.dK b))\/∃b,Rd H a (.dT b)
theorem LA{Y:St}(I:Inv X f Y H s)(d:vI H a) :
  s.TypeIs (.ref a) "dict"/\(∀b,Value.ref a=.ref b->∃c,s.heap.get? b=some c/\c.dict=none)/\(a==sysModules)=false:=by
 rcases d with⟨g,e⟩ |⟨g,e⟩
 .obtain⟨_,hd,vs,_,dd⟩:=oR I.hok e;refine⟨dd.typeIs,fun b q=>?_,hd⟩;cases q;obtain⟨c,_,_,h,i,_⟩:=dd;exact⟨c,h,i.2.1⟩
 .obtain⟨_,hd,j,_,dd⟩:=oS I.hok e;refine⟨dd.typeIs,fun b q=>?_,hd⟩;cases q;obtain⟨c,_,_,h,i,_⟩:=dd;exact⟨c,h,i.2.1⟩
theorem LB{Y:St}(n:A.units+1<cLine)(I:Inv X pins Y H s)(g:iO H a y o)(i:aV y u)(rd:aV d r)(h:∀j m,Inv X pins Y H m->aV (o.getD d) j->Q j m) :
  wpAny (model X.prog X.w) A (call (.builtin "dict.get") [.ref a,u,r]) Q E s:=by
 rcases g with⟨c,k,e,f,l⟩ |⟨c,k,b,e,f,p,l⟩
 .subst f;obtain⟨z,hd,vs,rel,dd⟩:=oR I.hok e;refine call_meetsIn q1Q dd.typeIs q2v (q2o _ _ _) (meets_dict_get_default (fk X.prog X.w) a (rK i) hd r) ⟨_,dd.mapOf,h _ _ (I.tok _) ?_⟩;rw[l];exact(rel.val k).getD rd
 .subst f;cases(show u=Value.ref b from i);obtain⟨z,hd,q,rel,dd⟩:=oS I.hok e;refine call_meetsIn q1Q dd.typeIs q2v (q2o _ _ _) (meetsH_dict_get_default (tupleKind (fk X.prog X.w)) a b hd r) ⟨tupleKind_room_in1 n,k,q,rL I.hok p,dd,h _ _ (I.tok _) ?_⟩;rw[l];exact(rel.val k).getD rd
def LC(d g e:TE):TE:=fun Y H Q=>d Y H fun x b=>∃a,x=.ref a/\vI b a/\g Y b fun y f=>e Y f fun z c=>∃o,iO c a y o/\Q (o.getD z) c
theorem LD(j:X.A.units+1<cLine)(k:PE X o td)(l:PE X e ty)(n:PE X f tx)(m:M2 X o "get" apos e f cpos):PE X (.Call (.Attribute o "get" apos) [e,f] [] cpos) (LC td ty tx):=by
 intro b s Y H Q I h;refine wpAny_Call_method m.base m.few m.line PySem.F.plainAttrs_dict q1Q PySem.F.type_dict_get (aL (k b s Y H _ I h) fun u p q=>?_);obtain⟨x,r,i,t,a,ex,d,v⟩:=q;subst ex;obtain rfl:u=Value.ref a:=t;obtain⟨w,B,_⟩:=LA i d;refine⟨w,B,?_⟩;rw[m.trees];refine Calls.callWith_builtin rfl (Calls.evalArgs_plain (Calls.spliced_cons (aL (l b p Y r _ i v) fun S C ⟨y,D,E,G,J⟩=>
  Calls.spliced_cons (aL (n b C Y D _ E J) fun fv T ⟨z,L,M,N,U,g,O⟩=>Calls.spliced_nil ?_))))
 exact LB j M g G N fun Z s4 R c=>⟨_,L,R,c,O⟩
noncomputable def dG(b:Env):List (Str×NameKind)->List (Str×Addr)->List (Str×Addr)
 |[],a=>a
 |(n,k)::r,a=>if k==.free then dG b r ((n,(b.cells.lookup n).getD 0)::a) else dG b r a
theorem Aa(d):∀b  e,(∀y∈b,y.2=.free->(d.cells.lookup y.1).isSome=true)->
  (forIn b e fun(x:Str×NameKind) (g:List (Str×Addr))=>if (x.2==NameKind.free)=true then(do let c <-cellOf d x.1;pure (ForInStep.yield ((x.1,c)::g))) else(pure (ForInStep.yield g):Sem (ForInStep (List (Str×Addr)))))=pure (dG d b e)
 |[],e,_=>rfl
 | (n,k)::r,e,h=>by
  have i:=fun a=>Aa d r a fun y l=>h y (bG _ l);rw[List.forIn_cons];unfold dG
  by_cases f:(k==NameKind.free)=true
  .obtain⟨c,j⟩:=q0V.mp (h (n,k) q0g (by simpa using f));simp only[f,if_true];have:cellOf d n=pure c:=by unfold cellOf;rw[j]
   rw[this,j];exact i _
  .simp only[f];exact i _
theorem LF(h:∀y∈a.names,y.2=.free->(b.cells.lookup y.1).isSome=true):closureFor a b=pure (dG b a.names []):=by have e:=Aa b a.names [] h;unfold closureFor;exact congrArg (fun m=>m >>= pure) e
theorem vJ:∀{a f c},(∀y∈a,y.2=.free->(b.cells.lookup y.1).isSome=true)->
  (∀c,f.lookup x=some c->b.cells.lookup x=some c)->(dG b a f).lookup x=some c->b.cells.lookup x=some c
 |[],_,_,_,g,h=>g _ h
 | (n,k)::r,f,c,i,g,h=>by
  unfold dG at h
  by_cases j:(k==NameKind.free)=true
  .rw[if_pos j]at h;refine vJ (fun y l=>i y (bG _ l)) (fun o e=>?_) h;rw[q0m]at e;cases m:x==n with
   |true=>
    rw[m]at e;have:x=n:=by simpa using m
    subst this;obtain⟨d,hd⟩:=q0V.mp (i (x,k) q0g (by simpa using j));rw[hd]at e ⊢;exact e
   |false=>rw[m]at e;exact g _ e
  .rw[if_neg j]at h;exact vJ (fun y l=>i y (bG _ l)) g h
theorem rM:∀{a acc},((x,NameKind.free)∈a\/(acc.lookup x).isSome=true)->((dG env a acc).lookup x).isSome=true
 |[],_,h=>by rcases h with h |h;cases h;exact h
 | (n,k)::r,acc,h=>by
  unfold dG
  by_cases b:(k==NameKind.free)=true
  .rw[if_pos b];refine rM ?_;rw[q0m];cases c:x==n with
   |true=>exact .inr rfl
   |false=>
    rcases h with h |h
    .rcases q0d.mp h with e |h
     .cases e;simp at c
     .exact .inl h
    .exact .inr h
  .rw[if_neg b];refine rM ?_;rcases h with h |h
   .rcases q0d.mp h with e |h
    .cases e;simp at b
    .exact .inl h
   .exact .inr h
noncomputable abbrev fV(a:Env):Str×NameKind->Str×NameKind:=fun(n,k)=>if (k==NameKind.free&&a.scope.kind==.function&&a.kindOf n==some .cell) then(n,NameKind.cell) else(n,k)
theorem vK:∀{a:List (Str×NameKind)}{x}{k},a.lookup x=some k->
  (a.map (fV env)).lookup x=some k\/(k=.free/\(a.map (fV env)).lookup x=some .cell)
 |[],_,_,h=>by simp at h
 | (n,k)::r,x,f,h=>by
  have g:=@vK env r x f;rw[q0c];have e:fV env (n,k)=(n,k)\/(k=.free/\fV env (n,k)=(n,.cell)):=by
   by_cases c:(k==NameKind.free&&env.scope.kind==.function&&env.kindOf n==some .cell)=true
   .refine .inr ⟨?_,if_pos c⟩;cases k<;>first |rfl |(simp at c)
   .exact .inl (if_neg c)
  cases b:x==n with
  |true=>
   simp only[q0m,b]at h;cases h;rcases e with e |⟨d,e⟩
   .rw[e];exact .inl (by simp only[q0m,b])
   .rw[e];exact .inr ⟨d,by simp only[q0m,b]⟩
  |false=>simp only[q0m,b]at h;rcases e with e |⟨d,e⟩<;>(rw[e];simp only[q0m,b];exact g h)
theorem Ab:∀{a:List (Str×NameKind)}{x},a.lookup x=none->(a.map (fV env)).lookup x=none
 |[],_,_=>rfl
 | (n,k)::r,x,h=>by
  have d:=@Ab env r x;rw[q0c];have e:fV env (n,k)=(n,k)\/fV env (n,k)=(n,.cell):=by
   by_cases c:(k==NameKind.free&&env.scope.kind==.function&&env.kindOf n==some .cell)=true
   .exact .inr (if_pos c)
   .exact .inl (if_neg c)
  cases b:x==n with
  |true=>simp only[q0m,b]at h;cases h
  |false=>simp only[q0m,b]at h;rcases e with e |e<;>(rw[e];simp only[q0m,b];exact d h)
theorem LG(I:Nat->Shared->Prop)
  (turn:∀n s,I n s->wpAny (model prog w) A (pyNext it) (fun r j=>match r with
   |none=>R (.ok .next) j
   |some v=>wpAny (model prog w) A (letOwnedTupleGo target it v) (fun _ i=>wpAny (model prog w) A (assign target a v) (fun _ o=>
     wpAny (model prog w) A (forIn f true fun c r=>if r=true then do let ok <-isTrue c a (eval c a);pure (ForInStep.yield ok) else pure (ForInStep.yield r)) (fun ok k=>
      if ok=true then wpAny (model prog w) A (eval e a) (fun x p=>
       wpAny (model prog w) A (call (.builtin "list.append") [g,x]) (fun _ q=>∃m,m<n/\I m q) (fun _ _=>False) p) (fun _ _=>False) k
      else ∃m,m<n/\I m k) (fun _ _=>False) o) (fun _ _=>False) i) (fun _ _=>False) j) (fun _ _=>False) s)
  (n) (h:I n s) :
  codeAny (model prog w) A (.compLoop (.ListComp e [⟨target,iter,f,0⟩] d pos) 0 it g a) R s:=by
 refine codeAny_loop rfl I (fun n s C=>?_) n h;show wpAny _ A ((compTurn (.ListComp e [⟨target,iter,f,0⟩] d pos) 0 it g a).onRaise (fun x=>do noteFrame x a;theTreesLotGoes x)) _ _ s;refine wpAny_noted (wpAny_noRaise ?_);rw[compTurn_list];refine aH (wpAny_standAt (aH (wpAny_mono (turn n s C) (fun r j t=>?_) fun _ _ b=>b)));cases r with
 |none=>exact bz t
 |some v=>
  refine aH (wpAny_mono t (fun _ i l=>?_) fun _ _ b=>b);refine aH (wpAny_mono l (fun _ o y=>aH (wpAny_mono y (fun ok k u=>?_) fun _ _ b=>b)) fun _ _ b=>b);cases ok with
  |false=>exact bz ⟨rfl,u⟩
  |true=>exact aH (aH (wpAny_mono u (fun x p z=>aH (wpAny_mono z (fun _ q B=>bz (bz ⟨rfl,B⟩)) fun _ _ b=>b)) fun _ _ b=>b))
theorem rN:∀a  n  b,((x,NameKind.cell)∉a)->(cellsFrom n a b).lookup x=b.lookup x
 |[],_,_,_=>rfl
 | (y,k)::r,n,b,h=>by
  unfold cellsFrom;have c:(x,NameKind.cell)∉r:=fun z=>h (bG _ z);split
  .rename_i d;rw[rN r _ _ c,q0m];have:(x==y)=false:=by
    cases e:x==y with
    |false=>rfl
    |true=>exact absurd (by rw[eq_of_beq e,<-eq_of_beq d];exact q0g) h
   rw[this]
  .exact rN r _ _ c
theorem vL:∀a (h:Heap)  b,(cellsFrom h.objs.size a b).lookup x=some c->b.lookup x=some c\/(h.objs.size<=c/\(x,NameKind.cell)∈a/\(pushCells h a).IsCell c none)
 |[],_,_,e=>.inl e
 | (y,k)::r,h,b,e=>by
  unfold cellsFrom at e;unfold pushCells;split at e
  .rename_i d;rw[if_pos d];have sz:(h.push { cls:=.type "cell",data:=.cell none }).objs.size=h.objs.size+1:=Heap.size_push ..;rw[<-sz]at e;rcases vL r _ _ e with z |⟨f,g,i⟩
   .rw[q0m]at z;split at z
    .rename_i j;cases z;refine .inr ⟨be _,?_,⟨_,pushCells_keeps r _ _ _ (Heap.get?_push_size _ rfl),rfl⟩⟩;rw[eq_of_beq j,<-eq_of_beq d];exact q0g
    .exact .inl z
   .exact .inr ⟨by rw[sz]at f;lia,bG _ g,i⟩
  .rename_i d;rw[if_neg d];rcases vL r _ _ e with z |⟨f,g,i⟩
   .exact .inl z
   .exact .inr ⟨f,bG _ g,i⟩
theorem vM:∀a  n  b,(x,NameKind.cell)∈a->(cellsFrom n a b).lookup x=some c->n<=c
 | (y,k)::r,n,b,f,e=>by
  unfold cellsFrom at e
  by_cases d:(x,NameKind.cell)∈r
  .split at e
   .have:=vM r _ _ d e;lia
   .exact vM r _ _ d e
  .rcases q0d.mp f with z |z
   .cases z;rw[if_pos (by rfl),rN r _ _ d,q0m,beq_self_eq_true]at e;cases e;exact be _
   .exact absurd z d
theorem vN:∀a  n  b,((x,NameKind.cell)∈a\/(b.lookup x).isSome=true)->((cellsFrom n a b).lookup x).isSome=true
 |[],_,_,h=>by rcases h with h |h;cases h;exact h
 | (y,k)::r,n,b,h=>by
  unfold cellsFrom;split
  .rename_i c;refine vN r _ _ ?_;rcases h with h |h
   .rcases q0d.mp h with z |z
    .cases z;right;rw[q0m,beq_self_eq_true];rfl
    .exact .inl z
   .right;rw[q0m];split
    .rfl
    .exact h
  .rename_i c;refine vN r _ _ ?_;rcases h with h |h
   .rcases q0d.mp h with z |z
    .cases z;exact absurd rfl c
    .exact .inl z
   .exact .inr h
theorem vO{c:Addr}{lo:Nat}:∀i (n:Nat) (d:List (Str×Addr)),(∀x y c,lo<=c->d.lookup x=some c->d.lookup y=some c->x=y)->(∀x c,d.lookup x=some c->c<n)->lo<=c->(cellsFrom n i d).lookup x=some c->(cellsFrom n i d).lookup y=some c->x=y
 |[],_,_,h,_,l,g,f=>h _ _ _ l g f
 | (z,k)::r,n,d,h,hb,l,g,f=>by
  unfold cellsFrom at g f;split at g
  .rename_i j;rw[if_pos j]at f;refine vO r (n+1) ((z,n)::d) (fun x y c l g f=>?_) (fun x c e=>?_) l g f
   .rw[q0m]at g f;split at g<;>split at f
    .rename_i a _ b;rw[eq_of_beq a,eq_of_beq b]
    .cases g;exact absurd (hb _ _ f) (q0z _)
    .cases f;exact absurd (hb _ _ g) (q0z _)
    .exact h _ _ _ l g f
   .rw[q0m]at e;split at e
    .cases e;exact q1h _
    .exact q2i (hb _ _ e)
  .rename_i j;rw[if_neg j]at f;exact vO r n d h hb l g f
theorem LH
  (h:Q { scope,locals:=s.heap.objs.size,globals,cells:=cellsFrom (s.heap.objs.size+1) scope.names cl,qual,func:=none,code:=a.code,frame:=a.frame,builtins:=a.builtins } { s with heap:=pushCells (s.heap.push { cls:=.type "dict",data:=.dict #[] }) scope.names }) :
  wpAny M A (newFunctionEnv scope globals cl [] qual none .none (some a)) Q E s:=by
 simp only[newFunctionEnv,q2e,if_true];refine aH (wpAny_alloc ?_);refine aH (wpAny_layCells _ (fun name kind cells=>by cases b:kind==NameKind.cell<;>simp[b]) _ _ _ _ ?_);rw[show({ s with heap:=s.heap.push { cls:=.type "dict",data:=.dict #[] } }:Shared).heap.objs.size=s.heap.objs.size+1 from Heap.size_push ..];exact aH (bz (bz h))
abbrev bY(X:Cx)(scope:Scope)(N':List Str)(C:Addr)(fp:List Addr)(s₂:Shared)(H₂:Hp)(pl:List (Addr×Obj)):Cx where
 prog:=X.prog
 w:=X.w
 K:=X.K
 mg:=X.mg
 base:=X.base
 A:=X.A
 N:=N'
 s₀:=s₂
 H₀:=H₂
 env:=compEnvC scope (cellsFrom (C+1) scope.names (dG X.env scope.names [])) C X.env
 outer:=X.stack
 stack:=X.stack
 ex:=fp
 fn:=fun y=>scope.names.lookup y==some .cell
 calm:=X.calm
 pn:=X.pn++pl
 xe:=fun _ _=>False
structure ao (X:Cx) (scope:Scope) (own capN:List Str) (caps:List Nat):Prop where
 kind:scope.kind=.function
 one:∀y∈scope.names,scope.names.lookup y.1=some y.2
 free:∀y∈scope.names,y.2=.free->X.env.kindOf y.1=some .cell\/X.env.kindOf y.1=some .free
 loc:∀y∈scope.names,y.2=.local->scope.names.lookup y.1=some .local
 caps:caps.map (fun j=>X.N[j]?)=capN.map some
 capf:∀x∈capN,scope.names.lookup x=some .free
noncomputable def fW(own:List Str)(a:List Nat)(Y:St):St:=own.map (fun _=>none)++a.map (fun j=>(Y[j]?).getD none)
theorem ao.cells{caps:List Nat}(S:ao X scope own capN caps)(ok:X.Ok):∀y∈scope.names,y.2=.free->(X.env.cells.lookup y.1).isSome=true:=fun y a b=>by obtain⟨c,d⟩:=ok.has y.1 (S.free y a b);rw[d];rfl
theorem ao.cl{caps:List Nat}(S:ao X scope own capN caps)(ok:X.Ok)(h:(dG X.env scope.names []).lookup x=some c):X.env.cells.lookup x=some c:=
 vJ (S.cells ok) (fun _ e=>by simp at e) h
theorem LI{Y:St}{C:Addr}{fp:List Addr}(S:ao X scope own capN caps)(I:Inv X f Y H₂ B)
  (hf:∀b∈fp,hV X f H₂ b) (M:∀b∈fp,b<B.heap.objs.size) (t:B.heap.objs.size<=C) (O:∀b o,B.heap.get? b=some o->L.get? b=some o) (hn:L.Ns C m) (Q:∀x c,(cellsFrom (C+1) scope.names (dG X.env scope.names [])).lookup x=some c->(dG X.env scope.names []).lookup x=some c\/(C+1<=c/\L.IsCell c none)) :
  Inv (bY X scope (own++capN) C fp B H₂ f) [] (fW own caps Y) H₂ { B with heap:=L,toks:=tk }:=by
 have cl:=fun {x:Str}{c:Addr}=>S.cl (x:=x) (c:=c) I.ok;have lt:∀{x:Str}{c:Addr},X.env.cells.lookup x=some c->c<B.heap.objs.size:=fun e=>by obtain⟨v,q⟩:=I.cell _ _ e;exact q.lt
 have D:∀{x:Str}{c:Addr},X.env.cells.lookup x=some c->C+1<=c->False:=fun e z=>absurd (q0o (lt e) (q0W t (q1p z))) (q0z _);have a:∀{x:Str}{c:Addr},(cellsFrom (C+1) scope.names (dG X.env scope.names [])).lookup x=some c->X.env.cells.lookup x=some c\/(C+1<=c/\L.IsCell c none):=fun {x c} e=>(Q x c e).imp (fun z=>cl z) fun z=>z;have r:∀x,((relabel scope X.env).names.lookup x=some .cell\/(relabel scope X.env).names.lookup x=some .free)->scope.names.lookup x=some .free\/scope.names.lookup x=some .cell:=fun x H=>by
  cases e:scope.names.lookup x with
  |none=>have z:(relabel scope X.env).names.lookup x=none:=Ab (env:=X.env) e;rw[z]at H;rcases H with q |q<;>cases q
  |some k=>
   rcases vK (env:=X.env) e with z |⟨z,_⟩
   .have z':(relabel scope X.env).names.lookup x=some k:=z;rw[z']at H;rcases H with q |q
    .cases q;exact .inr rfl
    .cases q;exact .inl rfl
   .rw[z];exact .inl rfl
 have stk:∀b,b≠X.env.locals->b∉X.fs->b∉bO X.stack:=fun b J g z=>(q0d.mp (I.stkSub b z)).elim J g;refine⟨⟨I.ok.mod,S.kind,I.ok.glob,I.ok.blt,t,fun x y c J g=>?inj,fun x H=>?_,fun x c h e=>?cab,I.ok.hd,I.ok.frames,.inl rfl,fun b A=>⟨?_,fun x c h=>?exf⟩,
   I.bs,q0W I.ok.bsz I.sz,fun b o e A=>?_,fun b A=>stk b (hf b A).2.1 (hf b A).2.2.1,I.stack,I.stkFree⟩,
  rfl,I.bare,Un.kept O,⟨m,hn,fun i x v J g h3=>?_⟩,fun x c h=>?_,I.hok.fresh t,fun x c h=>?frc,fun p hp=>?_,I.hok.kept O,?_⟩
 case inj=>
  rcases a J with R |⟨R,_⟩<;>rcases a g with z2 |⟨z2,_⟩
  .exact I.ok.inj x y c R z2
  .exact(D R z2).elim
  .exact(D z2 R).elim
  .exact vO (lo:=C+1) scope.names (C+1) (dG X.env scope.names []) (fun x y c l e _=>(D (cl e) l).elim) (fun x c e=>Nat.lt_succ_of_le (q0W (q1v (lt (cl e))) t)) R J g
 case cab=>have e1:=eq_of_beq (show(scope.names.lookup x==some NameKind.cell)=true from h);have:=vM scope.names (C+1) (dG X.env scope.names []) (q0M e1) e;exact q0W t (q1p this)
 case exf=>
  rcases a h with z |⟨z,_⟩
  .exact(hf b A).2.2.2.2.1 x c z
  .exact Ne.symm (q0v (q0o (M b A) (q0W t (q1p z))))
 case frc=>
  rcases a h with z |⟨z,_⟩
  .exact I.freeC x c z
  .exact I.hok.fresh (q0W t (q1p z))
 .refine q0V.mp (vN scope.names (C+1) (dG X.env scope.names []) ?_);rcases r x H with q |q
  .exact .inr (rM (env:=X.env) (.inl (q0M q)))
  .exact .inl (q0M q)
 .exact q0v (q0o (M b A) t)
 .rcases(hf b A).2.2.2.1 with z |z
  .exact I.ok.noex b o e z
  .exact absurd (q0o (bE (I.ok.bs b o e).1) z) (q0z _)
 .
  have hi:own.length<=i:=by
   refine q1i fun a1=>?_;unfold fW at g;rw[q0H (by simpa using a1),q0s]at g;cases q:own[i]? with
   |none=>rw[q]at g;cases g
   |some y=>rw[q]at g;cases g
  have T:capN[i - own.length]? = some x:=by
   have:(own++capN)[i]? = some x:=J
   rwa [q0A hi]at this
  have U:(caps.map (fun j=>(Y[j]?).getD none))[i - own.length]? = some (some v):=by
   unfold fW at g
   rwa [q0A (by simpa using hi),q0h]at g
  rw[q0s]at U;obtain⟨j,hj,s⟩:=q0i.mp U;have hX:X.N[j]? = some x:=by have q:=congrArg (fun l=>l[i - own.length]?) S.caps;simp only[q0s,hj,T,q14]at q;exact q0n q
  have hY:Y[j]? = some (some v):=by
   cases q:Y[j]? with
   |none=>rw[q]at s;cases s
   |some z=>rw[q]at s;simp at s;rw[s]
  have E:=S.capf x (q0G T);have w:(x,NameKind.free)∈scope.names:=q0M E;have Z:=S.free _ w rfl;obtain⟨m',a3,hl⟩:=I.loc;obtain⟨u,ru,l⟩:=hl j x v hX hY (Z.elim (fun q=>.inr (.inl q)) fun q=>.inr (.inr q));refine⟨u,ru,.inr ⟨?_,?_⟩⟩
  .rcases vK (env:=X.env) E with z |⟨_,z⟩
   .exact .inr z
   .exact .inl z
  .rcases l with⟨l,_⟩ |⟨_,c,hc,G⟩
   .have l':X.env.kindOf x=some .local:=l;rcases Z with q |q<;>(rw[l']at q;cases q)
   .obtain⟨c',a0⟩:=q0V.mp (rM (env:=X.env) (acc:=[]) (.inl w));have:=cl a0;rw[hc]at this;cases this;obtain⟨o,ho,hd⟩:=G;have nc:(x,NameKind.cell)∉scope.names:=fun z=>by have:=S.one _ z;rw[E]at this;cases this
    exact⟨c,(rN scope.names (C+1) (dG X.env scope.names []) nc).trans a0,o,O c o ho,hd⟩
 .rcases a h with z |⟨_,z⟩
  .obtain⟨v,o,ho,hd⟩:=I.cell x c z;exact⟨v,o,O c o ho,hd⟩
  .exact⟨_,z⟩
 .have a2:p∈X.pn++f:=by simpa using hp
  obtain⟨e,n,ne,nf,d⟩:=I.pin p a2;exact⟨O _ _ e,n,q0v (q0o (bE e) t),stk p.1 ne nf,d⟩
 .unfold fW;have hl:=congrArg List.length S.caps;simp only[q0h]at hl;show(own.map (fun _=>(none:Option V))++caps.map (fun j=>(Y[j]?).getD none)).length=(own++capN).length;rw[q0u,q0u,q0h,q0h,hl]
def oV(X:Cx)(b:List Expr)(t:TT):Prop:=
 ∀(a:List (Addr×Obj)) (s:Shared) (Y:St) (H:Hp) (Q:Bool->Hp->Prop),Inv X a Y H s->t Y H Q->
  wpAny (model X.prog X.w) X.A (forIn b true fun c r=>if r=true then do let ok <-isTrue c X.env (eval c X.env);pure (ForInStep.yield ok) else pure (ForInStep.yield r)) (TP X a Y Q) X.xe s
def LJ:TT:=fun _ H Q=>Q true H
theorem LL:oV X [] LJ:=fun _ _ _ H _ I h=>wpAny_tests_nil ⟨H,I,h⟩
theorem LM(h:PT X c t):oV X [c] t:=fun a s Y H Q I q=>wpAny_tests_one (h a s Y H Q I q)
def jK(own:List Str)(d:List Nat)(k:TI)(g:TG)(l:TT)(n:TE):TE:=fun Y H Q=>k Y H fun J o=>∃W:Nat->Nat->List V->St->Hp->Prop,(∃m,W 0 m [] (fW own d Y) o)/\∀i m a f H,W i m a f H->
 (J.stop i H/\a.length<=sizeLine/\∀p,H p=none->Q (.ref p) (aI H p (.lst a)))\/
 (J.go i H/\∀x h,J.yld i H x h->g x f h fun e q=>l e q fun b j=>if b=true then n e j fun y r=>a.length<sizeLine/\∃c,c<m/\W (i+1) c (a++[y]) e r else ∃c,c<m/\W (i+1) c a e j)
theorem LN{Y:St}{RR:Value->Addr->Result->Shared->Prop}(S:ao X scope own capN caps)(hc:X.calm=true)(hi:PI X tg iter wi)
  (c6:∀C E s₂ H₂ pl,PG (bY X scope (own++capN) C E s₂ H₂ pl) tg g/\oV (bY X scope (own++capN) C E s₂ H₂ pl) ifs tc/\PE (bY X scope (own++capN) C E s₂ H₂ pl) elt te)
  (I:Inv X f Y H s) (h:jK own caps wi g tc te Y H Q)
  (c7:∀D C  s'  L  m,Inv X f Y L s'->hV X f L C->s'.heap.Ns C m->Q (.ref D) L->RR (.ref D) C (.ok .next) s') :
  wpAny (model X.prog X.w) X.A (eval iter X.env) (fun x s₁=>wpAny (model X.prog X.w) X.A (pyIter x) (fun it s₂=>wpAny (model X.prog X.w) X.A (newList []) (fun b4 s₃=>
   wpAny (model X.prog X.w) X.A (newFunctionEnv scope X.env.globals (dG X.env scope.names []) [] X.env.qual none .none (some X.env)) (fun a8 s₄=>
    codeAny (model X.prog X.w) X.A (.compStart (.ListComp elt [⟨tg,iter,ifs,0⟩] scope pos) 0 it b4 { a8 with scope:=relabel scope X.env }) (RR b4 a8.locals) s₄) X.xe s₃) X.xe s₂) X.xe s₁) X.xe s:=by
 refine aL (hi f s Y H _ I h) fun v s1 h1=>aL h1 fun d4 B h2=>?_;obtain⟨it,E,tn,J,U,e,Z,T,b1,f2,W,⟨m0,w0⟩,b5⟩:=h2;subst e;have a0:∀b∈E,b<B.heap.objs.size:=fun b t=>by obtain⟨o,e,_⟩:=T.obj _ _ b1 b t;exact bE e
 refine wpAny_newObj_type (LH ?_);dsimp only;generalize a4:B.heap.push { cls:=.type "list",dict:=none,data:=.seq ([]:List Value).toArray }=HH;have hC:HH.objs.size=B.heap.objs.size+1:=by rw[<-a4,Heap.size_push]
 have l:B.heap.objs.size<=HH.objs.size:=by rw[hC];exact q1t _
 have a5:B.heap.objs.size≠HH.objs.size:=by rw[hC];exact q0v (q1h _)
 have below:∀b,b<B.heap.objs.size->b≠HH.objs.size:=fun b t=>by rw[hC];exact q0v (q2i t)
 have b6:(HH.push { cls:=.type "dict",data:=.dict #[] }).objs.size=HH.objs.size+1:=Heap.size_push ..;have G:∀x c,(cellsFrom (HH.objs.size+1) scope.names (dG X.env scope.names [])).lookup x=some c->(dG X.env scope.names []).lookup x=some c\/(HH.objs.size+1<=c/\(pushCells (HH.push { cls:=.type "dict",data:=.dict #[] }) scope.names).IsCell c none):=fun x c e=>by rw[<-b6]at e ⊢;exact(vL scope.names _ _ e).imp (fun z=>z) fun b7=>by obtain⟨z1,_,z2⟩:=b7;exact⟨z1,z2⟩
 have a1:(pushCells (HH.push { cls:=.type "dict",data:=.dict #[] }) scope.names).Ns HH.objs.size (fun _=>none):=(Heap.Ns.new HH (.type "dict")).keeps (pushCells_keeps _ _);have old:∀b o,B.heap.get? b=some o->(pushCells (HH.push { cls:=.type "dict",data:=.dict #[] }) scope.names).get? b=some o:=fun b o e=>pushCells_keeps _ _ b o (bD _ (a4▸bD _ e));have a2:(pushCells (HH.push { cls:=.type "dict",data:=.dict #[] }) scope.names).get? B.heap.objs.size=some { cls:=.type "list",dict:=none,data:=.seq ([]:List Value).toArray }:=pushCells_keeps _ _ _ _ (bD _ (a4▸Heap.get?_push_size _ rfl));generalize pushCells (HH.push { cls:=.type "dict",data:=.dict #[] }) scope.names=h₁ at G a1 old a2 ⊢;generalize c8:HH.objs.size=C at a1 a5 l below G ⊢;generalize j:B.heap.objs.size=D at a2 a5 ⊢;clear a4 hC c8 b6 HH;obtain⟨hg,ht,he⟩:=c6 C E B U f;have Ic:Inv (bY X scope (own++capN) C E B U f) [] (fW own caps Y) U { B with heap:=h₁,toks:=B.toks }:=LI S Z f2 a0 (by rw[j];rw[j]at l;exact l) old a1 G;have a6:∀x c,(cellsFrom (C+1) scope.names (dG X.env scope.names [])).lookup x=some c->c≠D:=fun x c e z=>by
  rcases G x c e with e |⟨e,_⟩
  .obtain⟨v,q⟩:=Z.cell x c (S.cl Z.ok e);exact absurd q.lt (by rw[z,j];exact q0z _)
  .rw[j]at l;exact absurd (q2d l (q0o (q1h C) e)) (by rw[z];exact q0z _)
 have a7:D∉bO X.stack:=fun z=>by
  rcases q0d.mp (Z.stkSub D z) with q |q
  .exact absurd Z.lt (by rw[<-q,j];exact q0z _)
  .exact Z.nofs (by rw[j];exact be _) q
 have a3:∀p∈X.pn++f,p.1≠D:=fun p M z=>absurd (bE (Z.pin p M).1) (by rw[z,j];exact q0z _);have a9:∀{Y':St}{L:Hp}{s':Shared}{N:List Value}{k:Nat},Inv (bY X scope (own++capN) C E B U f) [] Y' L s'->s'.heap.get? D=some { cls:=.type "list",data:=.seq N.toArray k }->L D=none->
   Inv (bY X scope (own++capN) C E B U f) [(D,{ cls:=.type "list",data:=.seq N.toArray k })] Y' L s':=fun J e n=>J.pins_of fun p M=>by
  obtain rfl:=q0k.mp M;exact⟨e,n,a5,a7,fun v z=>by cases z⟩
 have b2:∀{L:Hp}{o:Obj},(∀b∈E,L b=none)->∀b∈E,hV (bY X scope (own++capN) C E B U f) [(D,o)] L b:=fun hn b t=>by
  obtain⟨f0,f1,c9,f3,f4,f5⟩:=f2 b t;refine⟨hn b t,q0v (q0o (a0 b t) (by rw[j];rw[j]at l;exact l)),fun z=>(q0d.mp (Z.stkSub b z)).elim f1 c9,.inl t,fun x c e=>?cl,fun p M=>?_⟩
  case cl=>
   rcases G x c e with e |⟨e,_⟩
   .exact f4 x c (S.cl Z.ok e)
   .exact Ne.symm (q0v (q0o (a0 b t) (q0W (by rw[j];rw[j]at l;exact l) (q1p e))))
  rcases q0b.mp M with M |M
  .exact f5 p M
  .obtain rfl:=q0k.mp M;intro z;have z':D=b:=z;exact absurd (a0 b t) (by rw[<-z',j];exact q0z _)
 have b0:codeAny (model X.prog X.w) X.A (.compLoop (.ListComp elt [⟨tg,iter,ifs,0⟩] scope pos) 0 (.ref it) (.ref D) (compEnvC scope (cellsFrom (C+1) scope.names (dG X.env scope.names [])) C X.env)) (RR (.ref D) C) { B with heap:=h₁,toks:=B.toks }:=by
  refine LG (fun n s'=>∃i ys N k Y' L,Inv (bY X scope (own++capN) C E B U f) [(D,{ cls:=.type "list",data:=.seq N.toArray k })] Y' L s'/\tn i s'.heap/\(∀b∈E,L b=none)/\bp ys N/\W i n ys Y' L) ?_ m0
   ⟨0,[],[],0,_,U,a9 Ic a2 (Z.hok.fresh (by rw[j];exact be _)),T.keep _ _ _ b1 fun b _ o e=>old b o e,fun b t=>(f2 b t).1,.nil,w0⟩
  rintro n s3 ⟨i,ys,N,k,Y3,H3,I3,b8,b9,r3,w3⟩;rcases b5 i n ys Y3 H3 w3 with⟨stop,hz,qn⟩ |⟨go,step⟩
  .refine aL (T.done (bY X scope (own++capN) C E B U f) rfl rfl rfl hc i _ s3 Y3 H3 _ I3 (b2 b9) b8 stop) fun r s4 c0=>?_;obtain⟨hr,O⟩:=c0;subst hr;obtain⟨eD,nD,_⟩:=O.pin (D,_) (bf _ (q0k.mpr rfl));have R:H3 D=none:=nD;have I5:Inv X f Y (aI H3 D (.lst ys)) s4:=by
    refine Z.call' (ch:=E) O.os ⟨O.base.keep,O.base.slot,fun b o e n hx=>?_,O.base.there,fun b xs e=>?_,fun b o u e=>?_,fun b ps e=>?_⟩ (fun b u e=>?_) O.bare fun b t=>⟨(f2 b t).2.2.2.1,(f2 b t).2.1,(f2 b t).2.2.2.2.1,(f2 b t).2.2.2.2.2⟩
    .rw[bn (by intro z;exact absurd (bE e) (by rw[z,j];exact q0z _))];exact O.base.free b o e n hx
    .have q:=O.base.tups b xs e;rw[bn (iJ q R)];exact q
    .have q:=O.base.frzs b o u e;rw[bn (iJ q R)];exact q
    .obtain⟨more,q⟩:=O.base.tbls b ps e;exact⟨more,by rw[bn (iJ q R)];exact q⟩
    .by_cases t:b=D
     .subst t;rw[cc]at e;cases e;exact⟨hz,N,k,r3,eD⟩
     .rw[bn t]at e;exact(O.hok b u e).stay (fun _ _ _ q=>q) (fun c q=>by rw[bn (iJ q R)];exact q) fun c xs q=>by rw[bn (iJ q R)];exact q
   obtain⟨m,hm,_⟩:=O.loc;exact c7 D C s4 _ m I5 (Z.fpOk (by rw[j];rw[j]at l;exact l) (by rw[bn (Ne.symm a5)];exact O.free)) hm (qn D R)
  .refine aL (T.item (bY X scope (own++capN) C E B U f) rfl rfl rfl hc i _ s3 Y3 H3 _ I3 (b2 b9) b8 go) fun r s4 c1=>?_;obtain⟨u,hr,h4⟩:=c1;subst hr;refine aL h4 fun _ s5 c2=>?_;obtain⟨x,H5,I5,r5,y5,b3,d0⟩:=c2;have d1:=I5.pinned (b2 d0) (T.obj _ _ b3);refine aL (hg _ s5 Y3 H5 x u _ d1 r5 (step x H5 y5)) fun _ s6 c3=>?_;obtain⟨Y6,H6,I6,q6⟩:=c3;refine aL (ht _ s6 Y6 H6 _ I6 q6) fun ok s7 c4=>?_;obtain⟨H7,I7,q7⟩:=c4;have dk:∀{Y8:St}{H8:Hp}{s8:Shared},Inv (bY X scope (own++capN) C E B U f) ([(D,{ cls:=.type "list",data:=.seq N.toArray k })]++oH E s5.heap) Y8 H8 s8->tn (i+1) s8.heap/\(∀b∈E,H8 b=none):=fun {Y8 H8 s8} I8=>by refine⟨T.keep _ _ _ b3 fun b t o e=>(I8.pin (b,o) (bf _ (bf _ (rC t e)))).1,fun b t=>?_⟩;obtain⟨o,e,d⟩:=T.obj _ _ b3 b t;exact(I8.pin (b,o) (bf _ (bf _ (rC t e)))).2.1
   cases ok with
   |false=>obtain⟨m',hm,w7⟩:=q7;obtain⟨t7,n7⟩:=dk I7;exact⟨m',hm,i+1,ys,N,k,Y6,H7,I7.unpinned,t7,n7,r3,w7⟩
   |true=>
    refine aL (he _ s7 Y6 H7 _ I7 q7) fun u8 s8 c5=>?_;obtain⟨y,H8,I8,r8,hz,m',hm,w8⟩:=c5;obtain⟨t8,n8⟩:=dk I8;have I9:=I8.unpinned;obtain⟨eD,nD,d2,d5,_⟩:=I9.pin (D,_) (bf _ (q0k.mpr rfl));have hl:=r3.length;refine call_meets F.slot_list_append ⟨_,eD,rfl⟩ F.entry_list_append (F.args_list_append_2 _ _) (PySem.list_append D N.toArray k u8 (by rw[q0p];lia)) ⟨eD,?_⟩;have q:=PySem.IsL.update eD (fun a=>a.push u8);have e2:N.toArray.push u8=(N++[u8]).toArray:=by simp
    rw[e2]at q;have keep:∀b o,b≠D->s8.heap.get? b=some o->(s8.heap.update D (Obj.mapSeq fun a=>a.push u8)).get? b=some o:=fun b o t e=>(Heap.get?_update_other s8.heap _ (Ne.symm t)).trans e;have d3:Inv (bY X scope (own++capN) C E B U f) [] Y6 H8 { s8 with heap:=s8.heap.update D (Obj.mapSeq fun a=>a.push u8) }:=by refine(I9.pins_of (pins':=[]) fun p M=>absurd M (by simp)).turned (t':=s8.toks) (it:=D) keep nD d2 (.inr (by rw[j];exact be _)) a6 fun p M=>?_;exact a3 p (by simpa using M)
    exact⟨m',hm,i+1,ys++[y],N++[u8],_,Y6,H8,a9 d3 q nD,T.keep _ _ _ t8 fun b t o e=>keep b o (by intro z;exact absurd (a0 b t) (by rw[z,j];exact q0z _)) e,n8,r3.append (.cons r8 .nil),w8⟩
 exact codeAny_compStart_list b0 (wpAny_noRaise (T.self _ 0 _ _ _ (T.keep _ _ _ b1 fun b _ o e=>old b o e) b0))
theorem oW(S:ao X scope own capN caps)(n:X.calm=true)(p:PI X tg iter wi)
  (a:∀C c d i k,PG (bY X scope (own++capN) C c d i k) tg g/\oV (bY X scope (own++capN) C c d i k) ifs tc/\PE (bY X scope (own++capN) C c d i k) elt te)
  (r:autoParam (∀x,foldedSetIterable iter X.env x=pure x) Zs._auto_1):PE X (.ListComp elt [⟨tg,iter,ifs,0⟩] scope pos) (jK own caps wi g tc te):=by
 intro l s Y H Q I h;rw[eval_ListComp];refine wpAny_comprehension_free (use:=none) rfl r (LF (S.cells I.ok)) S.kind S.loc ?_;refine LN S n p a I h fun D C t u m v f w q=>⟨m,w,fun z j=>?_⟩
 exact⟨.ref D,u,v.turned (t':=t.toks) (it:=C) (fun b o y e=>(j.2 b y).trans e) f.1 f.2.1 f.2.2.2.1 f.2.2.2.2.1 f.2.2.2.2.2,rfl,q⟩
noncomputable def cM:List PyData->Bool
 |[]=>true
 |.tuple _::_=>true
 |_::ds=>!ds.isEmpty&&cM ds
def nj(H:Hp)(a:Addr)(b:List V)(c:List PyData):Prop:=H a=some (.tup b)\/(∃o,H a=some (.frz o (.tup b)))/\cM c=true
theorem nj.mono(s:bP H c)(h:nj H a d f):nj c a d f:=h.imp (fun e=>s _ _ e) fun b=>by obtain⟨⟨o,e⟩,k⟩:=b;exact⟨⟨o,s _ _ e⟩,k⟩
theorem nj.rd(h:nj H a b c):Rd H a (.tup b):=h.imp id fun z=>z.1
mutual
inductive DV (H:Hp):V->PyData->Prop where
 |non:DV H .non .none
 |bl (b:Bool):DV H (.bl b) (.bool b)
 |int (i:Int):DV H (.int i) (.int i)
 |str (x:Str):DV H (.str x) (.str x)
 |lst {a:Addr}{xs:List V}{ds:List PyData}:H a=some (.lst xs)->aO H xs ds->DV H (.ref a) (.list ds)
 |tup {a:Addr}{xs:List V}{ds:List PyData}:nj H a xs ds->aO H xs ds->DV H (.ref a) (.tuple ds)
inductive aO (H:Hp):List V->List PyData->Prop where
 |nil:aO H [] []
 |cons {x:V}{xs:List V}{d:PyData}{ds:List PyData}:DV H x d->aO H xs ds->aO H (x::xs) (d::ds)
end
theorem DV.mono(s:bP H H'):∀{v d},DV H v d->DV H' v d:=fun h=>DV.rec (motive_1:=fun v d _=>DV H' v d) (motive_2:=fun vs c _=>aO H' vs c) .non .bl .int .str (fun h _ k=>.lst (s _ _ h) k) (fun h _ k=>.tup (h.mono s) k) .nil (fun _ _ a b=>.cons a b) h
theorem aO.mono(s:bP H H'):∀{vs c},aO H vs c->aO H' vs c:=fun h=>aO.rec (motive_1:=fun v d _=>DV H' v d) (motive_2:=fun vs c _=>aO H' vs c) .non .bl .int .str (fun h _ k=>.lst (s _ _ h) k) (fun h _ k=>.tup (h.mono s) k) .nil (fun _ _ a b=>.cons a b) h
theorem aO.length:∀{vs a},aO H vs a->vs.length=a.length:=by
 intro vs a
 induction a generalizing vs with
 |nil=>intro h;cases h;rfl
 |cons d a b=>intro h;cases h with
  |cons _ r=>exact congrArg (·+1) (b r)
theorem aO.append:∀{vs b a c},aO H vs a->aO H b c->aO H (vs++b) (a++c):=by
 intro vs b a c
 induction a generalizing vs with
 |nil=>intro h s;cases h;exact s
 |cons d a e=>intro h s;cases h with
  |cons h r=>exact .cons h (e r s)
theorem aO.get:∀{vs a}{i:Nat}{d},aO H vs a->a[i]? = some d->∃v,vs[i]? = some v/\DV H v d
 |_,_,_,_,.nil,e=>by simp at e
 |_,_,0,_,.cons h _,e=>by simp at e;subst e;exact⟨_,rfl,h⟩
 |_,_,i+1,d,.cons _ r,e=>by obtain⟨v,b,c⟩:=r.get (i:=i) (d:=d) (by simpa using e);exact⟨v,by simpa using b,c⟩
theorem bR(h:H a=none):bP H (aI H a o):=fun b u e=>by rw[bn (iJ e h)];exact e
theorem DV.tup_inv(h:DV H v (.tuple c)):∃a b,v=.ref a/\Rd H a (.tup b)/\aO H b c:=by cases h with |tup h r=>exact⟨_,_,rfl,h.rd,r⟩
theorem DV.tup_invK(h:DV H v (.tuple b))(d:cM b=false):∃a c,v=.ref a/\H a=some (.tup c)/\aO H c b:=by cases h with |tup h r=>exact⟨_,_,rfl,h.elim id (fun z=>by rw[d]at z;cases z.2),r⟩
theorem DV.lst_inv(h:DV H v (.list c)):∃a b,v=.ref a/\H a=some (.lst b)/\aO H b c:=by cases h with |lst h r=>exact⟨_,_,rfl,h,r⟩
theorem DV.int_inv(h:DV H v (.int i)):v=.int i:=by cases h;rfl
theorem DV.str_inv(h:DV H v (.str x)):v=.str x:=by cases h;rfl
theorem DV.bl_inv(h:DV H v (.bool b)):v=.bl b:=by cases h;rfl
theorem DV.non_inv(h:DV H v .none):v=.non:=by cases h;rfl
theorem Inv.reads{Y:St}(I:Inv X pins Y H s)(h:DV H v d):aV v u->∃as,Reads s.heap u d as:=
 DV.rec (motive_1:=fun v d _=>∀u,aV v u->∃as,Reads s.heap u d as) (motive_2:=fun vs p _=>∀a,bp vs a->∃as,ReadsAll s.heap a p as)
  (fun u r=>by cases r;exact⟨_,.none⟩) (fun b u r=>by cases r;exact⟨_,.bool b⟩) (fun i u r=>by obtain⟨t,rfl⟩:=r;exact⟨_,.int i t⟩) (fun x u r=>by obtain⟨t,rfl⟩:=r;exact⟨_,.str x t⟩)
  (fun h q k u r=>by
   cases r;obtain⟨_,f,n,g,e⟩:=I.hok _ _ h;obtain⟨as,z⟩:=k _ g;exact⟨_,reads_list_at e rfl rfl (by simpa using z)⟩)
  (fun h q k u r=>by
   cases r;obtain⟨_,f,g,o,e,c,n,d⟩:=h.rd.ok I.hok;obtain⟨as,z⟩:=k _ g;exact⟨_,reads_tuple_at e c d (by simpa using z)⟩)
  (fun a r=>by cases r;exact⟨_,.nil⟩)
  (fun h q j l a r=>by
   cases r with
   |cons r m=>
   obtain⟨as,z⟩:=j _ r;obtain⟨bs,z'⟩:=l _ m;exact⟨_,.cons z z'⟩) h u
def vP(neg:Bool):R2:=fun x y H Q=>∃d e,DV H x d/\DV H y e/\SeqAt.shaped d=true/\SeqAt.shaped e=true/\Q (.bl (PyData.eqv d e != neg)) H
theorem Ac(b:X.A.units+64<cLine):cn X (compareOp .Eq) (vP false):=by intro a s Y H x y v u Q I c f h;obtain⟨d,e,g,i,j,k,q⟩:=h;obtain⟨as,l⟩:=I.reads g c;obtain⟨bs,m⟩:=I.reads i f;exact eq_dataH l m j k b ⟨_,H,I,by show Value.bool (PyData.eqv d e)=Value.bool (PyData.eqv d e != false);rw[Bool.bne_false],q⟩
theorem LO(b:X.A.units+64<cLine):cn X (compareOp .NotEq) (vP true):=by intro a s Y H x y v u Q I c f h;obtain⟨d,e,g,i,j,k,q⟩:=h;obtain⟨as,l⟩:=I.reads g c;obtain⟨bs,m⟩:=I.reads i f;exact ne_dataH l m j k b ⟨_,H,I,by show Value.bool (!PyData.eqv d e)=Value.bool (PyData.eqv d e != true);rw[Bool.bne_true],q⟩
@[simp]noncomputable def vQ:PyData->String
 |.none=>"NoneType"
 |.bool _=>"bool"
 |.int _=>"int"
 |.str _=>"str"
 |.list _=>"list"
 |.tuple _=>"tuple"
 |.dict _=>"dict"
def LP:List V->Hp->VK->Prop:=fun a H Q=>∃x d n b,a=[x,.ty n]/\DV H x d/\(∀K:Frag,kitOne K (.type (vQ d)) (.type n)=some b)/\Q (.bl b) H
theorem LQ:fR X (.builtin "isinstance") LP:=by
 intro g s Y H k v Q I r h;obtain⟨x,d,n,b,rfl,hd,e,q⟩:=h;obtain⟨u,w,rfl,f,l⟩:=vals2 r;cases l;have fin:∀j,EP X g Y Q (.bool b) { s with toks:=j }:=fun j=>⟨.bl b,H,I.tok j,rfl,q⟩
 cases hd with
 |non=>exact oM I f .non (e _) fin
 |bl c=>exact oM I f (.bl c) (e _) fin
 |int i=>exact oM I f (.int i) (e _) fin
 |str z=>exact oM I f (.str z) (e _) fin
 |lst h r=>exact oM I f (.lst h) (e _) fin
 | @tup a k ds h r=>cases(show u=Value.ref a from f);obtain⟨_,_,_,p⟩:=h.rd.ok I.hok;obtain⟨o,m,t,_⟩:=p;exact kia_one PySem.W.kitx_tuple I.kIn ⟨o,m,t⟩ (e _) (fun z=>nomatch z) fin
theorem Inv.turnedNew{Y:St}{ch:List Addr}{a:Addr}(I:Inv X pins Y H s)(f:∀b∈ch,hV X pins H b)(k:∀b d,b∉ch->s.heap.get? b=some d->h'.get? b=some d)(p:s.heap.objs.size<=a)
  (there:∀b∈ch,∀d,s.heap.get? b=some d->∃l,h'.get? b=some l) (new:cw X.prog X.w (aI H a o) h' a o):Inv X pins Y (aI H a o) { s with heap:=h',toks:=t' }:=by
 have i:=I.hok.fresh p;have j:∀b u,H b=some u->b∉ch:=fun b u e z=>by rw[(f b z).1]at e;cases e
 refine I.step (g':=s.gens) (d':=s.drawn) (ch:=ch) (fun b h=>⟨(f b h).2.2.2.1,(f b h).2.1,(f b h).2.2.2.2.1,(f b h).2.2.2.2.2⟩) (fun b d _ _ g e _=>k b d g e) (fun b d _ _ g e _=>⟨d.slots,k b d g e⟩)
  (fun b d _ e n=>by rw[bn (q0v (q0o (bE e) p))];exact n) (fun b d g e=>⟨d,k b d g e⟩) (fun b x e=>bR i b _ e) (fun b d u e=>bR i b _ e) (fun b D e=>⟨#[],by rw[bR i b _ e];simp⟩) (fun m y=>?_) (fun b u e=>?_) I.bare
 .obtain⟨t,A,B,C,r⟩:=y;exact⟨t,A,B,k _ t (fun z=>(f _ z).2.1 rfl) C,r⟩
 .by_cases h:b=a
  .subst h;rw[cc]at e;cases e;exact new
  .rw[bn h]at e;refine(I.hok b u e).stay (fun c v g q=>k c v ?_ q) (fun c q=>bR i c _ q) fun c x q=>bR i c _ q;rcases g with z |z
   .rw[z];exact j b u e
   .exact j c _ z
end L2
namespace L2.L3
open PySem PySem.Spec PyProof.Rows
noncomputable def al(O:List Addr)(H:Hp):Hp:=fun b=>if b∈O then none else H b
theorem ie(h:H b=some o)(n:b∉O):al O H b=some o:=by unfold al;rw[if_neg n];exact h
theorem dH(h:al O H b=some o):H b=some o/\b∉O:=by
 unfold al at h
 by_cases e:b∈O
 .rw[if_pos e]at h;cases h
 .rw[if_neg e]at h;exact⟨h,e⟩
theorem gM(h:Rd (al O H) a u):Rd H a u/\a∉O:=by
 rcases h with h |⟨o,h⟩
 .obtain⟨e,n⟩:=dH h;exact⟨.inl e,n⟩
 .obtain⟨e,n⟩:=dH h;exact⟨.inr ⟨o,e⟩,n⟩
theorem kw:bP (al O H) H:=fun b o h=>(dH h).1
structure aK (O:List Addr) (H:Hp) (O':List Addr) (H':Hp):Prop where
 keep:∀b o,b∉O->H b=some o->H' b=some o
 new:∀a∈O',a∈O\/H a=none
theorem aK.refl:aK O H O H:=⟨fun _ _ _ h=>h,fun _ h=>.inl h⟩
theorem aK.trans(a:aK f H1 g H2)(b:aK g H2 i j):aK f H1 i j:=by
 have k:∀c o,c∉f->H1 c=some o->c∉g:=fun c o d e z=>(a.new c z).elim d fun n=>by rw[n]at e;cases e
 refine⟨fun c o d e=>b.keep c o (k c o d e) (a.keep c o d e),fun c h=>?_⟩
 by_cases d:c∈f
 .exact .inl d
 .refine .inr ?_;cases e:H1 c with
  |none=>rfl
  |some o=>
   rcases b.new c h with z |z
   .exact absurd z (k c o d e)
   .rw[a.keep c o d e]at z;cases z
theorem aK.same(s:bP H H'):aK O H O H':=⟨fun b o _ e=>s b o e,fun _ h=>.inl h⟩
theorem aK.hid(s:aK O H O' H'):bP (al O H) (al O' H'):=fun b o e=>by
 obtain⟨a,n⟩:=dH e;refine ie (s.keep b o n a) fun z=>?_;rcases s.new b z with q |q
 .exact n q
 .rw[q]at a;cases a
theorem oX(s:bP H H'):bP (al O H) (al O H'):=(aK.same s).hid
theorem rO(s:∀a∈O',a∈O):bP (al O H) (al O' H):=fun b o e=>by obtain⟨c,n⟩:=dH e;exact ie c fun z=>n (s b z)
set_option genInjectivity true in
inductive Fl where
 |d (x:PyData) |l (ds:List PyData) |m (tk:Bool) (kvs:List (PyData×PyData))
set_option genInjectivity true in
inductive Bx where
 |l (ds:List PyData) |m (tk:Bool) (kvs:List (PyData×PyData)) |o (C:Addr) (fs:List (Str×Fl)) |sd (fs:List (Str×Fl)) |ll (xs:List (List PyData)) |pr (C:Addr) (fs:List (Str×Fl)) (d:PyData) |oo (C:Addr) (fss:List (List (Str×Fl)))
set_option genInjectivity true in
inductive aa where
 |dat (d:PyData)
 |own (io:Bool) (b:Bx)
 |scr (ns:List Int)
 |exc (c:Str)
 |vw (b:Bx)
abbrev ai:=List (Option aa)
structure Fx where
 H₀:Hp
 A₀:List Addr
 O₀:List Addr
 I₀:Nat->Addr
def ig(K:Frag)(H:Hp)(a:Addr)(c:List Int):Prop:=c.length<=63/\((∃o,H a=some (.frz o (.lst (c.map V.int))))\/
 ∃(o:Obj) (b:Array Value) (n:Nat),K.lookup a=some o/\o.cls=.type "list"/\o.dict=none/\o.data=.seq b n/\b.size<=sizeLine/\bp (c.map V.int) b.toList)
theorem ig.sq{K}(h:ig K H a c):dE K H a (c.map V.int):=h.2.elim (fun b=>by obtain⟨o,e⟩:=b;exact .inl (.inr ⟨o,e⟩)) .inr
theorem ig.mono{K}(h:ig K H a d)(k:∀o u,H a=some (.frz o u)->c a=some (.frz o u)):ig K c a d:=⟨h.1,h.2.imp (fun b=>by obtain⟨o,e⟩:=b;exact⟨o,k _ _ e⟩) id⟩
def LR(K:Frag)(a:Addr)(c:Str)(h:Heap):Prop:=∃C o,nsIn K mainGlobals c=some (some (.ref C))/\h.get? a=some o/\o.cls=.ref C
noncomputable def gv:aR->PyData
 |.inl i=>.int i
 |.inr x=>.str x
def rP(a:List aR):PyData:=.tuple (a.map gv)
def ij(G H:Hp)(a:Addr):Bool->List (PyData×PyData)->Prop
 |false,b=>∃c:List (aR×V),H a=some (.dK c)/\Paired (fun(p:aR×V) (q:PyData×PyData)=>gv p.1=q.1/\DV G p.2 q.2) c b
 |true,b=>∃c:List (List aR×V),H a=some (.dT c)/\Paired (fun(p:List aR×V) (q:PyData×PyData)=>rP p.1=q.1/\DV G p.2 q.2) c b
def gw(G H:Hp)(v:V):Fl->List Addr->Prop
 |.d x,b=>b=[]/\DV G v x
 |.l ds,b=>∃a e,v=.ref a/\b=[a]/\H a=some (.lst e)/\aO G e ds
 |.m f c,b=>∃a,v=.ref a/\b=[a]/\ij G H a f c
inductive bd (G H:Hp):List (Str×V)->List (Str×Fl)->List (List Addr)->Prop where
 |nil:bd G H [] [] []
 |cons {n:Str}{v:V}{f:Fl}{fp:List Addr}{gs:List (Str×V)}{fs:List (Str×Fl)}{fps:List (List Addr)}:gw G H v f fp->bd G H gs fs fps->bd G H ((n,v)::gs) ((n,f)::fs) (fp::fps)
def rQ(G H:Hp)(b:Addr)(a:List PyData):Prop:=∃vs,H b=some (.lst vs)/\aO G vs a
def LS(G H:Hp)(C b:Addr)(fs:List (Str×Fl))(e:List Addr):Prop:=∃c d a,e=b::c::a.flatten/\H b=some (.ins C c d)/\H c=some (.own b)/\bd G H d fs a
inductive bK (G H:Hp) (C:Addr):List Addr->List (List (Str×Fl))->List (List Addr)->Prop where
 |nil:bK G H C [] [] []
 |cons {b:Addr}{fs:List (Str×Fl)}{fp:List Addr}{bs:List Addr}{fss:List (List (Str×Fl))}{fps:List (List Addr)}:LS G H C b fs fp->bK G H C bs fss fps->bK G H C (b::bs) (fs::fss) (fp::fps)
def fK(G H:Hp)(a:Addr):Bx->List Addr->Prop
 |.l ds,c=>c=[a]/\∃g,H a=some (.lst g)/\aO G g ds
 |.m k i,c=>c=[a]/\ij G H a k i
 |.o C fs,c=>∃f e b,c=a::f::b.flatten/\H a=some (.ins C f e)/\H f=some (.own a)/\bd G H e fs b
 |.sd fs,c=>∃e b,c=a::b.flatten/\H a=some (.dK (e.map fun p=>(Sum.inr p.1,p.2)))/\bd G H e fs b
 |.ll g,c=>∃bs:List Addr,c=a::bs/\H a=some (.lst (bs.map V.ref))/\Paired (rQ G H) bs g
 |.pr C fs d,c=>∃h v f e b,G a=some (.tup [.ref h,v])/\c=h::f::b.flatten/\H h=some (.ins C f e)/\H f=some (.own h)/\bd G H e fs b/\DV G v d
 |.oo C j,c=>∃bs b,c=a::b.flatten/\H a=some (.lst (bs.map V.ref))/\bK G H C bs j b
def Mv:HO->Prop
 |.lst _=>True
 |.dK _=>True
 |.dT _=>True
 |.ins _ _ _=>True
 |.own _=>True
 |_=>False
def em(K:Frag)(H:Hp)(O:List Addr)(v:V):aa->List Addr->Prop
 |.dat d,_=>DV (al O H) v d
 |.own _ b,e=>∃a,v=.ref a/\fK (al O H) H a b e
 |.scr ns,_=>∃a,v=.ref a/\ig K H a ns
 |.exc c,_=>∃a φ,v=.ref a/\al O H a=some (.ext φ)/\∀h,φ h->LR K a c h
 |.vw b,_=>∃a e,v=.ref a/\fK (al O H) (al O H) a b e
theorem ij.keep(h:ij G H a c b)(k:H' a=H a)(g:bP G G'):ij G' H' a c b:=by
 cases c with
 |false=>obtain⟨d,e,p⟩:=h;exact⟨d,k.trans e,Paired.mapP p fun _ _ z=>⟨z.1,DV.mono g z.2⟩⟩
 |true=>obtain⟨d,e,p⟩:=h;exact⟨d,k.trans e,Paired.mapP p fun _ _ z=>⟨z.1,DV.mono g z.2⟩⟩
theorem ij.live(h:ij G H a c b):∃o,H a=some o/\Mv o:=by
 cases c with
 |false=>obtain⟨d,e,p⟩:=h;exact⟨_,e,trivial⟩
 |true=>obtain⟨d,e,p⟩:=h;exact⟨_,e,trivial⟩
theorem gw.keep(h:gw G H v f fp)(k:∀c∈fp,H' c=H c)(g:bP G G'):gw G' H' v f fp:=by
 cases f with
 |d x=>exact⟨h.1,DV.mono g h.2⟩
 |l ds=>obtain⟨a,j,e,b,i,n⟩:=h;exact⟨a,j,e,b,(k a (by simp[b])).trans i,aO.mono g n⟩
 |m p o=>obtain⟨a,e,b,i⟩:=h;exact⟨a,e,b,i.keep (k a (by simp[b])) g⟩
theorem gw.live(h:gw G H v f fp):∀c∈fp,∃o,H c=some o/\Mv o:=by
 cases f with
 |d x=>obtain⟨rfl,_⟩:=h;intro c b;cases b
 |l ds=>obtain⟨a,j,g,rfl,e,k⟩:=h;intro c b;obtain rfl:=q0k.mp b;exact⟨_,e,trivial⟩
 |m n i=>obtain⟨a,g,rfl,e⟩:=h;intro c b;obtain rfl:=q0k.mp b;exact e.live
theorem bd.keep(h:bd G H f fs d)(k:∀c∈d.flatten,H' c=H c)(g:bP G G'):bd G' H' f fs d:=by
 induction h with
 |nil=>exact .nil
 |cons a b i=>exact .cons (a.keep (fun c e=>k c (by simp[e])) g) (i fun c e=>k c (by rw[q0e];exact bf _ e))
theorem bd.live(h:bd G H f fs e):∀c∈e.flatten,∃o,H c=some o/\Mv o:=by
 induction h with
 |nil=>intro c d;cases d
 |cons a b g=>
  intro c d;rw[q0e]at d;rcases q0b.mp d with d |d
  .exact a.live c d
  .exact g c d
theorem Lls.keep(h:Paired (rQ G H) bs f)(k:∀c∈bs,H' c=H c)(g:bP G G'):Paired (rQ G' H') bs f:=by
 induction h with
 |nil=>exact .nil
 |cons a b i=>obtain⟨vs,e,d⟩:=a;exact .cons ⟨vs,(k _ q0g).trans e,aO.mono g d⟩ (i fun c j=>k c (bG _ j))
theorem Lls.live(h:Paired (rQ G H) bs g):∀c∈bs,∃o,H c=some o/\Mv o:=by
 induction h with
 |nil=>intro c f;cases f
 |cons a b i=>
  intro c f;obtain⟨vs,e,d⟩:=a;rcases q0d.mp f with rfl |f
  .exact⟨_,e,trivial⟩
  .exact i c f
theorem bK.keep(h:bK G H C bs d b)(k:∀c∈b.flatten,H' c=H c)(g:bP G G'):bK G' H' C bs d b:=by
 induction h with
 |nil=>exact .nil
 |cons o _ j=>obtain⟨i,l,b,rfl,m,n,f⟩:=o;exact .cons ⟨i,l,b,rfl,(k _ (by simp)).trans m,(k i (by simp)).trans n,f.keep (fun c e=>k c (by simp[e])) g⟩ (j fun c e=>k c (by rw[q0e];exact bf _ e))
theorem bK.live(h:bK G H C bs e d):∀c∈d.flatten,∃o,H c=some o/\Mv o:=by
 induction h with
 |nil=>intro c b;cases b
 |cons o _ g=>
  obtain⟨k,l,d,rfl,i,j,f⟩:=o;intro c b;rw[q0e]at b;rcases q0b.mp b with b |b
  .rcases q0d.mp b with rfl |b
   .exact⟨_,i,trivial⟩
   .rcases q0d.mp b with rfl |b
    .exact⟨_,j,trivial⟩
    .exact f.live c b
  .exact g c b
theorem fK.keep(h:fK G H a b fp)(k:∀c∈fp,H' c=H c)(g:bP G G'):fK G' H' a b fp:=by
 cases b with
 |l ds=>obtain⟨rfl,s,e,d⟩:=h;exact⟨rfl,s,(k a (by simp)).trans e,aO.mono g d⟩
 |m z u=>obtain⟨rfl,d⟩:=h;exact⟨rfl,d.keep (k a (by simp)) g⟩
 |o C fs=>obtain⟨p,q,i,rfl,j,r,f⟩:=h;exact⟨p,q,i,rfl,(k a (by simp)).trans j,(k p (by simp)).trans r,f.keep (fun c n=>k c (by simp[n])) g⟩
 |sd fs=>obtain⟨q,i,rfl,j,f⟩:=h;exact⟨q,i,rfl,(k a (by simp)).trans j,f.keep (fun c n=>k c (by simp[n])) g⟩
 |ll s=>obtain⟨bs,rfl,j,f⟩:=h;exact⟨bs,rfl,(k a (by simp)).trans j,Lls.keep f (fun c n=>k c (by simp[n])) g⟩
 |pr C fs d=>obtain⟨t,v,p,q,i,w,rfl,j,r,f,x⟩:=h;exact⟨t,v,p,q,i,g _ _ w,rfl,(k t (by simp)).trans j,(k p (by simp)).trans r,f.keep (fun c n=>k c (by simp[n])) g,DV.mono g x⟩
 |oo C y=>obtain⟨bs,i,rfl,j,f⟩:=h;exact⟨bs,i,rfl,(k a (by simp)).trans j,bK.keep f (fun c n=>k c (bG _ n)) g⟩
theorem fK.live(h:fK G H a b fp):∀c∈fp,∃o,H c=some o/\Mv o:=by
 cases b with
 |l ds=>obtain⟨rfl,p,e,d⟩:=h;intro c g;obtain rfl:=q0k.mp g;exact⟨_,e,trivial⟩
 |m t q=>obtain⟨rfl,d⟩:=h;intro c g;obtain rfl:=q0k.mp g;exact d.live
 |o C fs=>
  obtain⟨r,n,j,rfl,i,k,f⟩:=h;intro c g;rcases q0d.mp g with rfl |g
  .exact⟨_,i,trivial⟩
  .rcases q0d.mp g with rfl |g
   .exact⟨_,k,trivial⟩
   .exact f.live c g
 |sd fs=>
  obtain⟨n,j,rfl,i,f⟩:=h;intro c g;rcases q0d.mp g with rfl |g
  .exact⟨_,i,trivial⟩
  .exact f.live c g
 |ll p=>
  obtain⟨bs,rfl,i,f⟩:=h;intro c g;rcases q0d.mp g with rfl |g
  .exact⟨_,i,trivial⟩
  .exact Lls.live f c g
 |pr C fs d=>
  obtain⟨u,v,r,n,j,w,rfl,i,k,f,x⟩:=h;intro c g;rcases q0d.mp g with rfl |g
  .exact⟨_,i,trivial⟩
  .rcases q0d.mp g with rfl |g
   .exact⟨_,k,trivial⟩
   .exact f.live c g
 |oo C s=>
  obtain⟨bs,j,rfl,i,f⟩:=h;intro c g;rcases q0d.mp g with rfl |g
  .exact⟨_,i,trivial⟩
  .exact bK.live f c g
theorem em.keep{K}(h:em K H O v c fp)(s:aK O H j H')(k:∀b∈fp,H' b=H b)(z:∀b o u,H b=some (.frz o u)->H' b=some (.frz o u)):em K H' j v c fp:=by
 cases c with
 |dat d=>exact DV.mono s.hid h
 |own io b=>obtain⟨a,e,q⟩:=h;exact⟨a,e,q.keep k s.hid⟩
 |scr ns=>obtain⟨a,f,q⟩:=h;exact⟨a,f,q.mono fun o u w=>z _ _ _ w⟩
 |exc c=>obtain⟨a,φ,f,g,q⟩:=h;exact⟨a,φ,f,s.hid _ _ g,q⟩
 |vw b=>obtain⟨a,i,f,q⟩:=h;exact⟨a,i,f,q.keep (fun c l=>by obtain⟨o,g,_⟩:=q.live c l;rw[g];exact s.hid _ _ g) s.hid⟩
structure bV (K:Frag) (F:Fx) (H:Hp) (Y:St) (U:ai) (W:List (List Addr)):Prop where
 at_:∀(i:Nat) (c:aa),U[i]? = some (some c)->∃v fp,Y[i]? = some (some v)/\W[i]? = some fp/\em K H (W.flatten++F.O₀) v c fp
 nd:(W.flatten++F.O₀).Nodup
 kept:∀b o,b∉F.A₀->F.H₀ b=some o->H b=some o
 new:∀a∈W.flatten,a∈F.A₀\/F.H₀ a=none
 live:∀a∈W.flatten++F.O₀,∃o,H a=some o/\Mv o
 len:U.length=Y.length
 lw:W.length=U.length
 io:∀(i:Nat) (b:Bx),U[i]? = some (some (.own true b))->Y[i]? = some (some (.ref (F.I₀ i)))
def aC(K:Frag)(F:Fx)(H:Hp)(Y:St)(U:ai)(O:List Addr):Prop:=∃W,bV K F H Y U W/\O=W.flatten++F.O₀
theorem iP{α:Type}{l:List α}{x y}(e:(l.set i x)[j]? = some y):(j=i/\y=x/\i<l.length)\/(j≠i/\l[j]? = some y):=by
 by_cases b:j=i
 .subst b;have a:j<l.length:=by
   have:=(q0a.mp e).1
   rwa [q0w]at this
  rw[q0q a]at e;exact .inl ⟨rfl,(q0n e).symm,a⟩
 .rw[q0r (Ne.symm b)]at e;exact .inr ⟨b,e⟩
theorem fX{α:Type}{W:List (List α)}{c}{a}(h:a∈(W.set i c).flatten):a∈c\/∃j l,j≠i/\W[j]? = some l/\a∈l:=by
 obtain⟨l,f,d⟩:=q15.mp h;obtain⟨j,g⟩:=q0J f;rcases iP g with⟨_,rfl,_⟩ |⟨b,e⟩
 .exact .inl d
 .exact .inr ⟨j,l,b,e,d⟩
theorem bS{α:Type}{W:List (List α)}{j:Nat}{l}{a}(h:W[j]? = some l)(b:a∈l):a∈W.flatten:=q15.mpr ⟨l,q0G h,b⟩
theorem LU{α:Type}{W:List (List α)}{b l}{a}(c:j≠i)(h:W[j]? = some l)(d:a∈l):a∈(W.set i b).flatten:=bS (j:=j) (by rw[q0r (Ne.symm c)];exact h) d
theorem Ad{α:Type}{W:List (List α)}{b}{a}(c:i<W.length)(d:a∈b):a∈(W.set i b).flatten:=bS (j:=i) (q0q c) d
theorem kz{α:Type}:∀{W:List (List α)}{i j:Nat}{l m}{a},W.flatten.Nodup->W[i]? = some l->W[j]? = some m->i≠j->a∈l->a∉m
 |[],_,_,_,_,_,_,h,_,_,_=>by simp at h
 |w::W,0,0,_,_,_,_,_,_,g,_=>absurd rfl g
 |w::W,0,j+1,l,m,a,nd,b,c,_,d=>fun f=>by
  have e:w=l:=by simpa using b
  subst e;rw[q0e]at nd;exact(q0f.mp nd).2.2 a d a (bS (j:=j) (by simpa using c) f) rfl
 |w::W,i+1,0,l,m,a,nd,b,c,_,d=>fun f=>by
  have e:w=m:=by simpa using c
  subst e;rw[q0e]at nd;exact(q0f.mp nd).2.2 a f a (bS (j:=i) (by simpa using b) d) rfl
 |w::W,i+1,j+1,l,m,a,nd,b,c,g,d=>kz (W:=W) (i:=i) (j:=j) (by rw[q0e]at nd;exact(q0f.mp nd).2.1) (by simpa using b) (by simpa using c) (by lia) d
theorem rR{α:Type}[DecidableEq α]:∀{W:List (List α)}{i}{fp O},(W.flatten++O).Nodup->fp.Nodup->(∀a∈fp,(∀j l,j≠i->W[j]? = some l->a∉l)/\a∉O)->((W.set i fp).flatten++O).Nodup
 |[],i,fp,O,h,_,_=>by simpa using h
 |w::W,0,fp,O,h,f,hd=>by
  rw[q0x,q0e,q0t];rw[q0e,q0t]at h;refine q0f.mpr ⟨f,(q0f.mp h).2.1,fun a d b c e=>?_⟩;subst e;rcases q0b.mp c with c |c
  .obtain⟨l,g,k⟩:=q15.mp c;obtain⟨j,m⟩:=q0J g;exact(hd a d).1 (j+1) l (by lia) (by simpa using m) k
  .exact(hd a d).2 c
 |w::W,i+1,fp,O,h,f,hd=>by
  rw[q0K,q0e,q0t];rw[q0e,q0t]at h;obtain⟨o,p,n⟩:=q0f.mp h;have q:=rR (W:=W) (i:=i) (fp:=fp) (O:=O) p f fun a d=>⟨fun j l m e=>(hd a d).1 (j+1) l (by lia) (by simpa using e),(hd a d).2⟩
  refine q0f.mpr ⟨o,q,fun a d b c e=>?_⟩;subst e;rcases q0b.mp c with c |c
  .rcases fX c with c |⟨j,l,m,e,g⟩
   .exact(hd a c).1 0 w (by lia) (by simp) d
   .exact n a d a (bj _ (bS e g)) rfl
  .exact n a d a (bf _ c) rfl
section
variable{K:Frag}{F:Fx}{H H':Hp}{Y:St}{U:ai}{O O':List Addr}{W:List (List Addr)}
theorem bV.nofrz(st:bV K F H Y U W)(h:b∈W.flatten++F.O₀):H b≠some (.frz o u):=fun z=>by obtain⟨a,e,m⟩:=st.live b h;rw[z]at e;cases e;exact m
theorem bV.put(st:bV K F H Y U W)(t:i<U.length)
  (keep:∀j l b,j≠i->W[j]? = some l->b∈l->H' b=H b) (f:∀b∈F.O₀,H' b=H b) (frz:∀b o,b∉W.flatten++F.O₀->H b=some o->H' b=some o)
  (G:fp.Nodup) (ap:∀a∈fp,(∀j l,j≠i->W[j]? = some l->a∉l)/\a∉F.O₀) (new:∀a∈fp,a∈W.flatten\/H a=none) (x:∀a∈fp,∃o,H' a=some o/\Mv o)
  (C:aK (W.flatten++F.O₀) H ((W.set i fp).flatten++F.O₀) H'->em K H' ((W.set i fp).flatten++F.O₀) v c fp) (y:∀b,c=.own true b->v=.ref (F.I₀ i)) :
  bV K F H' (Y.set i (some v)) (U.set i (some c)) (W.set i fp)/\aK (W.flatten++F.O₀) H ((W.set i fp).flatten++F.O₀) H':=by
 have k:aK (W.flatten++F.O₀) H ((W.set i fp).flatten++F.O₀) H':=⟨frz,fun a h=>by
  rcases q0b.mp h with h |h
  .rcases fX h with h |⟨j,l,_,e,n⟩
   .exact(new a h).imp (bj _) id
   .exact .inl (bj _ (bS e n))
  .exact .inl (bf _ h)⟩
 have D:∀b o u,H b=some (.frz o u)->H' b=some (.frz o u):=fun b o u e=>frz b _ (fun z=>st.nofrz z e) e;have A:i<W.length:=by rw[st.lw];exact t
 refine⟨⟨fun j d e=>?_,rR st.nd G ap,fun b o r e=>?_,fun a h=>?_,fun a h=>?_,by rw[q0w,q0w,st.len],by rw[q0w,q0w,st.lw],fun j b e=>?_⟩,k⟩
 .rcases iP e with⟨rfl,g,_⟩ |⟨m,g⟩
  .cases g;exact⟨v,fp,q0q (by rw[<-st.len];exact t),q0q A,C k⟩
  .obtain⟨w,l,s,p,E⟩:=st.at_ j d g;exact⟨w,l,by rw[q0r (Ne.symm m)];exact s,by rw[q0r (Ne.symm m)];exact p,E.keep k (fun b I=>keep j l b m p I) D⟩
 .have g:=st.kept b o r e
  by_cases B:b∈F.O₀
  .rw[f b B];exact g
  .refine frz b o (fun z=>?_) g;rcases q0b.mp z with z |z
   .rcases st.new b z with q |q
    .exact r q
    .rw[q]at e;cases e
   .exact B z
 .rcases fX h with h |⟨j,l,_,e,n⟩
  .rcases new a h with q |q
   .exact st.new a q
   .by_cases r:a∈F.A₀
    .exact .inl r
    .refine .inr ?_;cases e:F.H₀ a with
     |none=>rfl
     |some o=>rw[st.kept a o r e]at q;cases q
  .exact st.new a (bS e n)
 .rcases q0b.mp h with h |h
  .rcases fX h with h |⟨j,l,m,e,n⟩
   .exact x a h
   .obtain⟨o,s,p⟩:=st.live a (bj _ (bS e n));exact⟨o,by rw[keep j l a m e n];exact s,p⟩
  .obtain⟨o,s,p⟩:=st.live a (bf _ h);exact⟨o,by rw[f a h];exact s,p⟩
 .rcases iP e with⟨rfl,g,_⟩ |⟨m,g⟩
  .rw[q0q (by rw[<-st.len];exact t),y b (q0n g).symm]
  .rw[q0r (Ne.symm m)];exact st.io j b g
theorem bV.grow(st:bV K F H Y U W)(s:bP H H'):bV K F H' Y U W where
 at_:=fun i c e=>let⟨v,fp,h1,h2,h3⟩:=st.at_ i c e;⟨v,fp,h1,h2,h3.keep (.same s) (fun b hb=>by
  obtain⟨o,e1,_⟩:=st.live b (bj _ (bS h2 hb));rw[e1];exact s _ _ e1) fun b o u e=>s _ _ e⟩
 nd:=st.nd
 kept:=fun b o n e=>s b o (st.kept b o n e)
 new:=st.new
 live:=fun a h=>let⟨o,e,m⟩:=st.live a h;⟨o,s _ _ e,m⟩
 len:=st.len
 lw:=st.lw
 io:=st.io
theorem aC.grow(st:aC K F H Y U O)(s:bP H H'):aC K F H' Y U O:=let⟨W,h,e⟩:=st;⟨W,h.grow s,e⟩
theorem aC.nofree(st:aC K F H Y U O):∀p,H p=none->p∉O:=fun p a z=>by obtain⟨W,h,rfl⟩:=st;obtain⟨o,e,_⟩:=h.live p z;rw[a]at e;cases e
theorem aC.dat(st:aC K F H Y U O){i:Nat}(e:U[i]? = some (some (.dat d))):∃v,Y[i]? = some (some v)/\DV (al O H) v d:=by obtain⟨W,h,rfl⟩:=st;obtain⟨v,c,a,f,b⟩:=h.at_ i _ e;exact⟨v,a,b⟩
theorem aC.scr(st:aC K F H Y U O){i:Nat}(e:U[i]? = some (some (.scr b))):∃a,Y[i]? = some (some (.ref a))/\ig K H a b:=by obtain⟨W,h,rfl⟩:=st;obtain⟨v,f,c,g,a,rfl,d⟩:=h.at_ i _ e;exact⟨a,c,d⟩
theorem aC.set(st:aC K F H Y U O)(h:DV (al O H) v d):aC K F H (Y.set i (some v)) (U.set i (some (.dat d))) O:=by
 obtain⟨W,st,rfl⟩:=st;refine⟨W,⟨fun j c e=>?_,st.nd,st.kept,st.new,st.live,by rw[q0w,q0w,st.len],by rw[q0w,st.lw],fun j b e=>?_⟩,rfl⟩
 rotate_left
 .rcases iP e with⟨rfl,a,_⟩ |⟨g,a⟩
  .cases a
  .rw[q0r (Ne.symm g)];exact st.io j b a
 rcases iP e with⟨rfl,a,f⟩ |⟨g,a⟩
 .cases a;obtain⟨k,m⟩:∃k,W[j]? = some k:=⟨W[j]'(by rw[st.lw];exact f),q0j _⟩
  exact⟨v,k,q0q (by rw[<-st.len];exact f),m,h⟩
 .obtain⟨w,l,n,o,p⟩:=st.at_ j c a;exact⟨w,l,by rw[q0r (Ne.symm g)];exact n,o,p⟩
theorem aC.box(st:aC K F H Y U O)(e:U[i]? = some (some (.own io b))):∃a m,Y[i]? = some (some (.ref a))/\fK (al O H) H a b m/\(∀c∈m,c∈O)/\
  ∀H'  u  f,(∀c o,c∉m->H c=some o->H' c=some o)->f.Nodup->(∀c∈f,c∈m\/H c=none)->(∀G,(∀O',aK O H O' H'->G=al O' H'->(∀c∈f,c∈O')->bP (al O H) G/\fK G H' a u f))->
   ∃O',aC K F H' Y (U.set i (some (.own io u))) O'/\aK O H O' H'/\(∀c∈O',c∈f\/c∈O):=by
 obtain⟨W,st,rfl⟩:=st;obtain⟨v,m,w,n,a,rfl,I⟩:=st.at_ i _ e;have C:i<U.length:=(q0a.mp e).1;have x:i<W.length:=by rw[st.lw];exact C
 refine⟨a,m,w,I,fun c d=>bj _ (bS n d),fun H' u f keep R y S=>?_⟩;have r:W.flatten.Nodup:=(q0f.mp st.nd).1;have D:∀c∈m,c∉F.O₀:=fun c d z=>(q0f.mp st.nd).2.2 c (bS n d) c z rfl;have J:∀j l c,j≠i->W[j]? = some l->c∈l->H' c=H c:=fun j l c p k d=>by obtain⟨o,g,_⟩:=st.live c (bj _ (bS k d));rw[g];exact keep c o (fun z=>kz r k n p d z) g
 have L:∀c∈F.O₀,H' c=H c:=fun c d=>by obtain⟨o,g,_⟩:=st.live c (bf _ d);rw[g];exact keep c o (fun z=>D c z d) g
 have ap:∀c∈f,(∀j l,j≠i->W[j]? = some l->c∉l)/\c∉F.O₀:=fun c d=>by
  rcases y c d with q |q
  .exact⟨fun j l p k z=>kz r n k (Ne.symm p) q z,D c q⟩
  .refine⟨fun j l _ k z=>?_,fun z=>?_⟩
   .obtain⟨o,g,_⟩:=st.live c (bj _ (bS k z));rw[q]at g;cases g
   .obtain⟨o,g,_⟩:=st.live c (bf _ z);rw[q]at g;cases g
 have frz:∀c o,c∉W.flatten++F.O₀->H c=some o->H' c=some o:=fun c o d M=>keep c o (fun z=>d (bj _ (bS n z))) M;have A:aK (W.flatten++F.O₀) H ((W.set i f).flatten++F.O₀) H':=⟨frz,fun c h=>by
  rcases q0b.mp h with h |h
  .rcases fX h with h |⟨j,l,_,k,B⟩
   .exact(y c h).imp (fun z=>bj _ (bS n z)) id
   .exact .inl (bj _ (bS k B))
  .exact .inl (bf _ h)⟩
 have s:∀c∈f,c∈(W.set i f).flatten++F.O₀:=fun c d=>bj _ (Ad x d);have t:=(S _ _ A rfl s).2;obtain⟨E,N⟩:=st.put (H':=H') (i:=i) (v:=.ref a) (c:=.own io u) (fp:=f) C J L frz R ap (fun c d=>(y c d).imp (fun z=>bS n z) id) (fun c d=>t.live c d) (fun _=>⟨a,rfl,t⟩) (fun T z=>by cases z;have:=st.io i b e;rw[w]at this;exact(q0n (q0n this)));have Q:Y.set i (some (.ref a))=Y:=by
  apply q0U;intro j
  by_cases p:j=i
  .subst p;rw[q0q (q0a.mp w).1,w]
  .rw[q0r (Ne.symm p)]
 rw[Q]at E;refine⟨_,⟨_,E,rfl⟩,N,fun c d=>?_⟩;rcases q0b.mp d with d |d
 .rcases fX d with d |⟨j,l,_,k,B⟩
  .exact .inl d
  .exact .inr (bj _ (bS k B))
 .exact .inr (bf _ d)
theorem aC.freeze(st:aC K F H Y U O)(e:U[i]? = some (some (.own false (.l b)))) :
  ∃v O',Y[i]? = some (some v)/\aC K F H Y (U.set i (some (.dat (.list b)))) O'/\aK O H O' H/\DV (al O' H) v (.list b):=by
 obtain⟨W,st,rfl⟩:=st;obtain⟨v,y,f,m,a,rfl,rfl,A,q,r⟩:=st.at_ i _ e;have t:i<U.length:=(q0a.mp e).1;have g:W.flatten.Nodup:=(q0f.mp st.nd).1;have k:a∉(W.set i []).flatten++F.O₀:=fun z=>by
  rcases q0b.mp z with z |z
  .rcases fX z with z |⟨j,l,d,u,w⟩
   .cases z
   .exact kz g m u (Ne.symm d) q0g w
  .exact(q0f.mp st.nd).2.2 a (bS m q0g) a z rfl
 have n:aK (W.flatten++F.O₀) H ((W.set i []).flatten++F.O₀) H->DV (al ((W.set i []).flatten++F.O₀) H) (.ref a) (.list b):=fun s=>.lst (ie q k) (aO.mono s.hid r);obtain⟨o,p⟩:=st.put (H':=H) (i:=i) (v:=.ref a) (c:=.dat (.list b)) (fp:=[]) t (fun _ _ _ _ _ _=>rfl) (fun _ _=>rfl) (fun _ _ _ e=>e) q1O (fun a h=>by cases h) (fun a h=>by cases h) (fun a h=>by cases h) (fun s=>n s) (fun _ z=>by cases z);have x:Y.set i (some (.ref a))=Y:=by
  apply q0U;intro j
  by_cases d:j=i
  .subst d;rw[q0q (q0a.mp f).1,f]
  .rw[q0r (Ne.symm d)]
 rw[x]at o;exact⟨_,_,f,⟨_,o,rfl⟩,p,n p⟩
end
abbrev DT:=ai->(PyData->ai->Prop)->Prop
def Mn(t:DT):Prop:=∀U Q a,(∀d b,Q d b->a d b)->t U Q->t U a
def fq(K:Frag)(F:Fx)(t:DT):TE:=fun Y H Q=>∃U O,aC K F H Y U O/\t U fun d c=>∀v a b,aC K F a Y c b->aK O H b a->DV (al b a) v d->Q v a
structure DE (X:Cx) (F:Fx) (e:Expr) (t:DT):Prop where
 mn:Mn t
 pe:PE X e (fq X.K F t)
theorem _root_.L2.PE.imp(h:PE X e t)(k:∀Y H Q,t' Y H Q->t Y H Q):PE X e t':=fun a s Y H Q I q=>h a s Y H Q I (k Y H Q q)
theorem _root_.L2.PT.imp(h:PT X e t)(k:∀Y H Q,t' Y H Q->t Y H Q):PT X e t':=fun a s Y H Q I q=>h a s Y H Q I (k Y H Q q)
theorem _root_.L2.PS.imp(h:PS X e t)(k:∀D Y H,t' D Y H->t D Y H):PS X e t':=fun a s Y H D I q=>h a s Y H D I (k D Y H q)
theorem _root_.L2.PSs.imp(h:PSs X e t)(k:∀D Y H,t' D Y H->t D Y H):PSs X e t':=fun a s Y H D I q=>h a s Y H D I (k D Y H q)
def dC(d:PyData):DT:=fun U Q=>Q d U
def dV(i:Nat):DT:=fun U Q=>(∃d,U[i]? = some (some (.dat d))/\Q d U)\/∃c,U[i]? = some (some (.own false (.l c)))/\Q (.list c) (U.set i (some (.dat (.list c))))
theorem LV:Mn (dC d):=fun _ _ _ h q=>h _ _ q
theorem oY(h:PE X e (tC v))(hd:∀H,DV H v d):DE X F e (dC d):=
 ⟨LV,h.imp fun Y H Q c=>by obtain⟨U,O,st,q⟩:=c;exact q v H O st .refl (hd _)⟩
theorem aq:DE X F (.Constant (.int i) j pos) (dC (.int i)):=oY rr fun _=>.int i
theorem gO:DE X F (.Constant (.bool i) j pos) (dC (.bool i)):=oY IY fun _=>.bl i
theorem eN:DE X F (.Constant .none j pos) (dC .none):=oY zb fun _=>.non
theorem cj:DE X F (.Constant (.str x) j pos) (dC (.str x)):=oY zc fun _=>.str x
theorem Ae(i)(h:PE X (.Name x pos) (bQ i)):DE X F (.Name x pos) (dV i):=
 ⟨fun _ _ _ k q=>q.imp (fun c=>by obtain⟨d,e,q⟩:=c;exact⟨d,e,k _ _ q⟩) fun f=>by obtain⟨d,e,q⟩:=f;exact⟨d,e,k _ _ q⟩,h.imp fun Y H Q g=>by
  obtain⟨U,O,st,q⟩:=g;rcases q with⟨d,e,q⟩ |⟨ds,e,q⟩
  .obtain⟨v,j,l⟩:=st.dat e;exact⟨v,j,q v H O st .refl l⟩
  .obtain⟨v,m,j,l,n,o⟩:=st.freeze e;exact⟨v,j,q v H m l n o⟩⟩
abbrev D2:=PyData->PyData->(PyData->Prop)->Prop
def cY(f:D2)(ta tb:DT):DT:=fun U Q=>ta U fun x c=>tb c fun y g=>f x y fun d=>Q d g
structure ft (r:R2) (f:D2):Prop where
 mn:∀x y Q Q',(∀d,Q d->Q' d)->f x y Q->f x y Q'
 ok:∀(O:List Addr) (H:Hp) (u v:V) (x y:PyData) (Q:VK),(∀p,H p=none->p∉O)->DV (al O H) u x->DV (al O H) v y->f x y (fun d=>∀w H',bP H H'->DV (al O H') w d->Q w H')->r u v H Q
theorem rS(o:ft r f)(l:Mn ta)(E:Mn tb){K}:∀Y H Q,fq K F (cY f ta tb) Y H Q->oI r (fq K F ta) (fq K F tb) Y H Q:=fun Y H Q c=>by obtain⟨U,O,st,q⟩:=c;refine⟨U,O,st,l _ _ _ (fun x m n v1 G p h s t=>?_) q⟩;refine⟨m,p,h,E _ _ _ (fun y I u v z i g j A=>?_) n⟩;refine o.ok i z v1 v x y Q g.nofree (DV.mono j.hid t) A (o.mn _ _ _ _ (fun d B w C k D=>?_) u);exact B w C i (g.grow k) (s.trans (j.trans (.same k))) D
theorem oZ(o:ft r f)(c:Mn ta)(i:Mn tb):Mn (cY f ta tb):=fun _ _ _ k q=>c _ _ _ (fun _ _ d=>i _ _ _ (fun _ _ g=>o.mn _ _ _ _ (fun _ h=>k _ _ h) g) d) q
theorem lI(g:cn X (binaryOp op) r)(o:ft r f)(c:DE X F a ta)(d:DE X F b tb):DE X F (.BinOp a op b pos) (cY f ta tb):=
 ⟨oZ o c.mn d.mn,(Kd g c.pe d.pe).imp (rS o c.mn d.mn)⟩
theorem pc(g:cn X (compareOp op) r)(o:ft r f)(c:DE X F a ta)(d:DE X F b tb)(h:behindInMarks op b=false):DE X F (.Compare a [op] [b] pos) (cY f ta tb):=
 ⟨oZ o c.mn d.mn,(Kl g c.pe d.pe h).imp (rS o c.mn d.mn)⟩
theorem LW(g:jH X r)(o:ft r f)(c:DE X F a ta)(d:DE X F b tb)(h:lG b):DE X F (.Subscript a b pos) (cY f ta tb):=
 ⟨oZ o c.mn d.mn,(oO g c.pe d.pe h).imp (rS o c.mn d.mn)⟩
def fI(C:Int->Int->Prop)(g:Int->Int->PyData):D2:=fun x y Q=>∃i j,x=.int i/\y=.int j/\C i j/\Q (g i j)
theorem vR(hg:∀i j H,DV H (g i j) (g' i j)):ft (rI C g) (fI C g') where
 mn:=fun _ _ _ _ k zq1a=>by obtain⟨i,j,e1,e2,c,q⟩:=zq1a;exact⟨i,j,e1,e2,c,k _ q⟩
 ok:=fun O H u v x y Q hO h1 h2 zq2a=>by obtain⟨i,j,e1,e2,c,q⟩:=zq2a;subst e1 e2;exact⟨i,j,h1.int_inv,h2.int_inv,c,q _ H (fun _ _ h=>h) (hg i j _)⟩
theorem kA(hg:∀i j H,DV H (g i j) (g' i j)):ft (hZ g) (fI (fun _ _=>True) g') where
 mn:=fun _ _ _ _ k zq1a=>by obtain⟨i,j,e1,e2,c,q⟩:=zq1a;exact⟨i,j,e1,e2,c,k _ q⟩
 ok:=fun O H u v x y Q hO h1 h2 zq2a=>by obtain⟨i,j,e1,e2,_,q⟩:=zq2a;subst e1 e2;exact⟨i,j,h1.int_inv,h2.int_inv,q _ H (fun _ _ h=>h) (hg i j _)⟩
def pd(neg:Bool):D2:=fun x y Q=>SeqAt.shaped x=true/\SeqAt.shaped y=true/\Q (.bool (PyData.eqv x y != neg))
theorem vS:ft (vP neg) (pd neg) where
 mn:=fun _ _ _ _ k zq1a=>by obtain⟨e1,e2,q⟩:=zq1a;exact⟨e1,e2,k _ q⟩
 ok:=fun O H u v x y Q hO h1 h2 zq2a=>by obtain⟨e1,e2,q⟩:=zq2a;exact⟨x,y,DV.mono kw h1,DV.mono kw h2,e1,e2,q _ H (fun _ _ h=>h) (.bl _)⟩
@[simp]noncomputable def isNone:PyData->Bool
 |.none=>true
 |_=>false
def vT:D2:=fun x y Q=>y=.none/\Q (.bool (isNone x))
def vU:D2:=fun x y Q=>y=.none/\Q (.bool (!isNone x))
theorem Af(h:DV H v d):decide (v=.non)=isNone d:=by cases h<;>first |rfl |(exact decide_eq_false (fun z=>by cases z))
theorem LX:ft (fun x y H Q=>y=.non/\Q (.bl (decide (x=.non))) H) vT where
 mn:=fun _ _ _ _ k zq1a=>by obtain⟨e,q⟩:=zq1a;exact⟨e,k _ q⟩
 ok:=fun O H u v x y Q hO h1 h2 zq2a=>by obtain⟨e,q⟩:=zq2a;subst e;exact⟨h2.non_inv,by rw[Af h1];exact q _ H (fun _ _ h=>h) (.bl _)⟩
theorem Ag:ft (fun x y H Q=>y=.non/\Q (.bl (!decide (x=.non))) H) vU where
 mn:=fun _ _ _ _ k zq1a=>by obtain⟨e,q⟩:=zq1a;exact⟨e,k _ q⟩
 ok:=fun O H u v x y Q hO h1 h2 zq2a=>by obtain⟨e,q⟩:=zq2a;subst e;exact⟨h2.non_inv,by rw[Af h1];exact q _ H (fun _ _ h=>h) (.bl _)⟩
def Ah:D2:=fun x y Q=>∃c i d,x=.tuple c/\y=.int i/\bA c i=some d/\Q d
def Ai:D2:=fun x y Q=>∃c i d,x=.list c/\y=.int i/\bA c i=some d/\Q d
theorem vV(h:aO H vs c)(e:bA c i=some d):∃v,bA vs i=some v/\DV H v d:=by
 unfold bA at e ⊢;rw[h.length];cases q:cI c.length i with
 |none=>rw[q]at e;cases e
 |some j=>rw[q]at e;exact h.get e
theorem Aj{K}:ft (vE K) Ah where
 mn:=fun _ _ _ _ k zq1a=>by obtain⟨ds,i,d,e1,e2,e3,q⟩:=zq1a;exact⟨ds,i,d,e1,e2,e3,k _ q⟩
 ok:=fun O H u v x y Q hO h1 h2 zq2a=>by obtain⟨ds,i,d,e1,e2,e3,q⟩:=zq2a;subst e1 e2;obtain⟨a,xs,rfl,ha,hd⟩:=h1.tup_inv;obtain⟨w,ew,hw⟩:=vV hd e3;exact⟨a,xs,i,w,rfl,h2.int_inv,.inl (gM ha).1,ew,q w H (fun _ _ h=>h) hw⟩
theorem Ak{K}:ft (vD K) Ai where
 mn:=fun _ _ _ _ k zq1a=>by obtain⟨ds,i,d,e1,e2,e3,q⟩:=zq1a;exact⟨ds,i,d,e1,e2,e3,k _ q⟩
 ok:=fun O H u v x y Q hO h1 h2 zq2a=>by obtain⟨ds,i,d,e1,e2,e3,q⟩:=zq2a;subst e1 e2;obtain⟨a,xs,rfl,ha,hd⟩:=h1.lst_inv;obtain⟨w,ew,hw⟩:=vV hd e3;exact⟨a,xs,i,w,rfl,h2.int_inv,.of (dH ha).1,ew,q w H (fun _ _ h=>h) hw⟩
theorem kB(f:H p=none)(g:p∉O)(h:aO (al O H) c d):DV (al O (aI H p (.lst c))) (.ref p) (.list d):=
 .lst (ie cc g) (aO.mono (oX (bR f)) h)
theorem nk(f:H p=none)(g:p∉O)(h:aO (al O H) c d):DV (al O (aI H p (.tup c))) (.ref p) (.tuple d):=
 .tup (.inl (ie cc g)) (aO.mono (oX (bR f)) h)
def vW:D2:=fun x y Q=>∃d c,x=.list d/\y=.list c/\d.length+c.length<=sizeLine/\Q (.list (d++c))
theorem LY:ft zR vW where
 mn:=fun _ _ _ _ k zq1a=>by obtain⟨ds,es,e1,e2,e3,q⟩:=zq1a;exact⟨ds,es,e1,e2,e3,k _ q⟩
 ok:=fun O H u v x y Q hO h1 h2 zq2a=>by obtain⟨ds,es,e1,e2,e3,q⟩:=zq2a;subst e1 e2;obtain⟨a,xs,rfl,ha,hd⟩:=h1.lst_inv;obtain⟨b,ys,rfl,hb,he⟩:=h2.lst_inv;refine⟨a,b,xs,ys,rfl,rfl,(dH ha).1,(dH hb).1,by rw[hd.length,he.length];exact e3,fun p hp=>q _ _ (bR hp) (kB hp (hO p hp) (hd.append he))⟩
def vX:D2:=fun x y Q=>∃d c,x=.tuple d/\y=.tuple c/\d.length+c.length<=sizeLine/\Q (.tuple (d++c))
theorem kC{B:Prop}(h:if true=true then A else B):A:=by rw[if_pos rfl]at h;exact h
theorem kD{B:Prop}(h:if false=true then A else B):B:=by rw[if_neg q0C]at h;exact h
abbrev dI:=ai->(List PyData->ai->Prop)->Prop
def rT(t:dI):Prop:=∀U Q a,(∀d b,Q d b->a d b)->t U Q->t U a
def Al(K:Frag)(F:Fx)(t:dI):TA:=fun Y H Q=>∃U O,aC K F H Y U O/\t U fun d c=>∀vs a b,aC K F a Y c b->aK O H b a->aO (al b a) vs d->Q vs a
structure DA (X:Cx) (F:Fx) (es:List Expr) (t:dI):Prop where
 mn:rT t
 pa:PA X es (Al X.K F t)
theorem _root_.L2.PA.imp(h:PA X e t)(k:∀Y H Q,t' Y H Q->t Y H Q):PA X e t':=fun pos a s Y H Q I q=>h pos a s Y H Q I (k Y H Q q)
def LZ:dI:=fun U Q=>Q [] U
def Ma(ta:DT)(h:dI):dI:=fun U Q=>ta U fun d f=>h f fun i g=>Q (d::i) g
theorem Mb:DA X F [] LZ:=⟨fun _ _ _ k q=>k _ _ q,eM.imp fun Y H Q d=>by obtain⟨U,O,st,q⟩:=d;exact q [] H O st .refl .nil⟩
theorem Mc(g:DE X F e ta)(h:DA X F es tA)(o:autoParam (starEach (e::es) X.env=(false,eval e X.env)::starEach es X.env) Zq._auto_1):DA X F (e::es) (Ma ta tA):=
 ⟨fun _ _ _ k q=>g.mn _ _ _ (fun _ _ i=>h.mn _ _ _ (fun _ _ j=>k _ _ j) i) q,(dO g.pe h.pa o).imp fun Y H Q f=>by obtain⟨U,O,st,q⟩:=f;exact 
  ⟨U,O,st,g.mn _ _ _ (fun d p i v y r l s t=>⟨p,r,l,h.mn _ _ _ (fun A z j vs u w m n x=>j (v::vs) u w m (s.trans n) (.cons (DV.mono n.hid t) x)) i⟩) q⟩⟩
def Md(t:dI):DT:=fun U Q=>t U fun d f=>d.length<=sizeLine/\Q (.tuple d) f
def Me(t:dI):DT:=fun U Q=>t U fun d f=>d.length<=sizeLine/\Q (.list d) f
theorem Mf(h:DA X F es tA):DE X F (.Tuple es l pos) (Md tA):=
 ⟨fun _ _ _ k q=>h.mn _ _ _ (fun _ _ d=>⟨d.1,k _ _ d.2⟩) q,(vz h.pa).imp fun Y H Q f=>by obtain⟨U,O,st,q⟩:=f;exact 
  ⟨U,O,st,h.mn _ _ _ (fun s o d vs r m g n j=>⟨by rw[j.length];exact d.1,fun p i=>d.2 _ _ m (g.grow (bR i)) (n.trans (.same (bR i))) (nk i (g.nofree p i) j)⟩) q⟩⟩
theorem Mg(h:DA X F es tA):DE X F (.List es pos) (Me tA):=
 ⟨fun _ _ _ k q=>h.mn _ _ _ (fun _ _ d=>⟨d.1,k _ _ d.2⟩) q,(oN h.pa).imp fun Y H Q f=>by obtain⟨U,O,st,q⟩:=f;exact 
  ⟨U,O,st,h.mn _ _ _ (fun r n d vs o l g m j=>⟨by rw[j.length];exact d.1,fun p i=>d.2 _ _ l (g.grow (bR i)) (m.trans (.same (bR i))) (kB i (g.nofree p i) j)⟩) q⟩⟩
def Mh(ta:DT):DT:=fun U Q=>ta U fun d f=>∃i,d=.int i/\Q (.int (-i)) f
theorem Mi(j:DE X F a ta):DE X F (.UnaryOp .USub a pos) (Mh ta):=
 ⟨fun _ _ _ k q=>j.mn _ _ _ (fun _ _ f=>by obtain⟨i,e,q⟩:=f;exact⟨i,e,k _ _ q⟩) q,(zn zp j.pe).imp fun Y H Q g=>by obtain⟨U,O,st,q⟩:=g;exact 
  ⟨U,O,st,j.mn _ _ _ (fun d s h v m n l o p=>by obtain⟨i,e,r⟩:=h;subst e;exact⟨i,p.int_inv,r _ m n l o (.int _)⟩) q⟩⟩
def Mj(ta:DT):DT:=fun U Q=>ta U fun d f=>∃b,d=.bool b/\Q (.bool (!b)) f
theorem Ml(j:DE X F a ta):DE X F (.UnaryOp .Not a pos) (Mj ta):=
 ⟨fun _ _ _ k q=>j.mn _ _ _ (fun _ _ f=>by obtain⟨i,e,q⟩:=f;exact⟨i,e,k _ _ q⟩) q,(Jo j.pe).imp fun Y H Q g=>by obtain⟨U,O,st,q⟩:=g;exact 
  ⟨U,O,st,j.mn _ _ _ (fun d s h v m n l o p=>by obtain⟨i,e,r⟩:=h;subst e;exact⟨i,p.bl_inv,r _ m n l o (.bl _)⟩) q⟩⟩
def Mm(ta tb:DT):DT:=fun U Q=>ta U fun d f=>∃b,d=.bool b/\if b=true then tb f Q else Q (.bool false) f
def Mo(ta tb:DT):DT:=fun U Q=>ta U fun d f=>∃b,d=.bool b/\if b=true then Q (.bool true) f else tb f Q
theorem Mp(h:DE X F a ta):DE X F (.BoolOp op [a] pos) ta:=⟨h.mn,Jl h.pe⟩
theorem Mq(l:DE X F a ta)(n:DE X F (.BoolOp .And (b::rest) pos) tb):DE X F (.BoolOp .And (a::b::rest) pos) (Mm ta tb):=
 ⟨fun _ _ _ k q=>l.mn _ _ _ (fun _ _ f=>by obtain⟨i,e,q⟩:=f;exact⟨i,e,by cases i<;>first |exact k _ _ q |exact n.mn _ _ _ k q⟩) q,(Jm l.pe n.pe).imp fun Y H Q g=>by obtain⟨U,O,st,q⟩:=g;exact 
  ⟨U,O,st,l.mn _ _ _ (fun d s h v t o j p u=>by
   obtain⟨i,e,r⟩:=h;subst e;refine⟨i,u.bl_inv,?_⟩;cases i with
   |true=>exact ej ⟨s,o,j,n.mn _ _ _ (fun d C x w y z m A B=>x w y z m (p.trans A) B) (kC r)⟩
   |false=>exact ei (kD r _ t o j p (.bl _))) q⟩⟩
theorem Mr(l:DE X F a ta)(n:DE X F (.BoolOp .Or (b::rest) pos) tb):DE X F (.BoolOp .Or (a::b::rest) pos) (Mo ta tb):=
 ⟨fun _ _ _ k q=>l.mn _ _ _ (fun _ _ f=>by obtain⟨i,e,q⟩:=f;exact⟨i,e,by cases i<;>first |exact k _ _ q |exact n.mn _ _ _ k q⟩) q,(Jn l.pe n.pe).imp fun Y H Q g=>by obtain⟨U,O,st,q⟩:=g;exact 
  ⟨U,O,st,l.mn _ _ _ (fun d s h v t o j p u=>by
   obtain⟨i,e,r⟩:=h;subst e;refine⟨i,u.bl_inv,?_⟩;cases i with
   |false=>exact ei ⟨s,o,j,n.mn _ _ _ (fun d C x w y z m A B=>x w y z m (p.trans A) B) (kD r)⟩
   |true=>exact ej (kC r _ t o j p (.bl _))) q⟩⟩
def ph(p f:Int->Int->Bool)(ta tb tc:DT):DT:=fun U Q=>ta U fun x g=>tb g fun y d=>∃i j,x=.int i/\y=.int j/\if p i j=true then tc d (fun z h=>∃k,z=.int k/\Q (.bool (f j k)) h) else Q (.bool false) d
theorem Am(Z:cn X (compareOp op) (hZ fun i j=>.bl (p i j)))(s:cn X (compareOp f) (hZ fun i j=>.bl (M i j)))(t:DE X F a ta)(L:DE X F b tb)(A:DE X F c tc)
  (hm:lastMarks [op,f] [b,c]=false:=by with_unfolding_all rfl):DE X F (.Compare a [op,f] [b,c] pos) (ph p M ta tb tc):=
 ⟨fun _ _ _ k q=>t.mn _ _ _ (fun _ _ B=>L.mn _ _ _ (fun _ _ ⟨i,j,C,D,d⟩=>⟨i,j,C,D,by
   by_cases h:p i j=true
   .rw[if_pos h]at d ⊢;exact A.mn _ _ _ (fun _ _ g=>by obtain⟨l,e,E⟩:=g;exact⟨l,e,k _ _ E⟩) d
   .rw[if_neg h]at d ⊢;exact k _ _ d⟩) B) q,
  (Km Z s t.pe L.pe A.pe hm).imp fun Y H Q m=>by obtain⟨U,O,st,q⟩:=m;exact 
  ⟨U,O,st,t.mn _ _ _ (fun x U1 B v H1 O1 G N d1=>⟨U1,O1,G,L.mn _ _ _ (fun y U2 n w H2 R o I S=>by
   obtain⟨i,j,C,D,d⟩:=n;subst C D;refine⟨i,j,(DV.mono I.hid d1).int_inv,S.int_inv,p i j,rfl,?_⟩
   by_cases h:p i j=true
   .rw[if_pos h]at d ⊢;exact⟨U2,R,o,A.mn _ _ _ (fun z U3 r u H3 O3 J T d3=>by obtain⟨l,e,E⟩:=r;subst e;exact⟨j,l,(DV.mono T.hid S).int_inv,d3.int_inv,E _ H3 O3 J (N.trans (I.trans T)) (.bl _)⟩) d⟩
   .rw[if_neg h]at d ⊢;exact d _ H2 R o (N.trans I) (.bl _)) B⟩) q⟩⟩
abbrev cx:=ai->(Bool->ai->Prop)->Prop
def ik(t:cx):Prop:=∀U Q a,(∀d b,Q d b->a d b)->t U Q->t U a
def il(K:Frag)(F:Fx)(t:cx):TT:=fun Y H Q=>∃U O,aC K F H Y U O/\t U fun b d=>∀a c,aC K F a Y d c->aK O H c a->Q b a
structure DB (X:Cx) (F:Fx) (e:Expr) (t:cx):Prop where
 mn:ik t
 pt:PT X e (il X.K F t)
def fY(ta:DT):cx:=fun U Q=>ta U fun d f=>∃b,d=.bool b/\Q b f
theorem vY(h:Mn ta):ik (fY ta):=fun _ _ _ k q=>h _ _ _ (fun _ _ d=>by obtain⟨b,e,f⟩:=d;exact⟨b,e,k _ _ f⟩) q
theorem An{K}(h:Mn ta):∀Y H Q,il K F (fY ta) Y H Q->fq K F ta Y H fun x j=>∃k,x=.bl k/\Q k j:=fun Y H Q f=>by obtain⟨U,O,st,q⟩:=f;exact 
 ⟨U,O,st,h _ _ _ (fun d r g v l m i n o=>by obtain⟨b,e,p⟩:=g;subst e;exact⟨b,o.bl_inv,p l m i n⟩) q⟩
theorem cQ(h:DE X F e ta)(d:autoParam (∀whole,isTrue e X.env whole=(do let v <-whole;standAt e.pos;holding [v] (truthy v))) Zs._auto_1):DB X F e (fY ta):=⟨vY h.mn,(IZ h.pe d).imp (An h.mn)⟩
theorem kE(h:cn X (compareOp op) r)(o:ft r f)(d:DE X F a ta)(g:DE X F b tb)(i:behindInMarks op b=false):DB X F (.Compare a [op] [b] pos) (fY (cY f ta tb)):=
 ⟨vY (oZ o d.mn g.mn),(zw h d.pe g.pe i).imp fun Y H Q q=>rS o d.mn g.mn Y H _ (An (oZ o d.mn g.mn) Y H Q q)⟩
def Ms(t:cx):cx:=fun U Q=>t U fun b d=>Q (!b) d
theorem Mt(h:DB X F a tA):DB X F (.UnaryOp .Not a pos) (Ms tA):=⟨fun _ _ _ k q=>h.mn _ _ _ (fun _ _ q=>k _ _ q) q,(Jh h.pt).imp fun Y H Q d=>by obtain⟨U,O,st,q⟩:=d;exact⟨U,O,st,h.mn _ _ _ (fun b m g i j f l=>g i j f l) q⟩⟩
structure DW (X:Cx) (F:Fx) (e:Expr) (t:cx):Prop where
 mn:ik t
 pw:PW X e (il X.K F t)
theorem _root_.L2.PW.imp(h:PW X e t)(k:∀Y H Q,t' Y H Q->t Y H Q):PW X e t':=fun f d s Y H Q I q=>h f d s Y H Q I (k Y H Q q)
theorem DW.db(h:DW X F e t):DB X F e t:=⟨h.mn,h.pw.pt⟩
def Mu(t u:cx):cx:=fun U Q=>t U fun b d=>if b=true then u d Q else Q false d
def Mw(t u:cx):cx:=fun U Q=>t U fun b d=>if b=true then Q true d else u d Q
theorem Mx(h:DB X F a tA):DW X F (.BoolOp .And [a] pos) tA:=⟨h.mn,Jd h.pt⟩
theorem My(h:DB X F a tA):DW X F (.BoolOp .Or [a] pos) tA:=⟨h.mn,Je h.pt⟩
theorem Mz{tB:cx}(g:DB X F a tA)(i:DW X F (.BoolOp .And (b::rest) pos) tB):DW X F (.BoolOp .And (a::b::rest) pos) (Mu tA tB):=
 ⟨fun _ _ _ k q=>g.mn _ _ _ (fun b _ q=>by cases b<;>first |exact k _ _ q |exact i.mn _ _ _ k q) q,(Jf g.pt i.pw).imp fun Y H Q d=>by obtain⟨U,O,st,q⟩:=d;exact 
  ⟨U,O,st,g.mn _ _ _ (fun b n j o l f m=>by
   cases b with
   |true=>exact ej ⟨n,l,f,i.mn _ _ _ (fun b u p r s h t=>p r s h (m.trans t)) (kC j)⟩
   |false=>exact ei (kD j o l f m)) q⟩⟩
theorem MA{tB:cx}(g:DB X F a tA)(i:DW X F (.BoolOp .Or (b::rest) pos) tB):DW X F (.BoolOp .Or (a::b::rest) pos) (Mw tA tB):=
 ⟨fun _ _ _ k q=>g.mn _ _ _ (fun b _ q=>by cases b<;>first |exact k _ _ q |exact i.mn _ _ _ k q) q,(Jg g.pt i.pw).imp fun Y H Q d=>by obtain⟨U,O,st,q⟩:=d;exact 
  ⟨U,O,st,g.mn _ _ _ (fun b n j o l f m=>by
   cases b with
   |false=>exact ei ⟨n,l,f,i.mn _ _ _ (fun b u p r s h t=>p r s h (m.trans t)) (kD j)⟩
   |true=>exact ej (kC j o l f m)) q⟩⟩
def MB(t:cx)(ta tb:DT):DT:=fun U Q=>t U fun b d=>if b=true then ta d Q else tb d Q
theorem MC(i:DB X F c tA)(j:DE X F a ta)(r:DE X F b tb):DE X F (.IfExp c a b pos) (MB tA ta tb):=
 ⟨fun _ _ _ k q=>i.mn _ _ _ (fun b _ q=>by cases b<;>first |exact j.mn _ _ _ k q |exact r.mn _ _ _ k q) q,(ze i.pt j.pe r.pe).imp fun Y H Q g=>by obtain⟨U,O,st,q⟩:=g;exact 
  ⟨U,O,st,i.mn _ _ _ (fun b s t y u h w=>by
   cases b with
   |true=>exact ej ⟨s,u,h,j.mn _ _ _ (fun d x l v m n f o p=>l v m n f (w.trans o) p) (kC t)⟩
   |false=>exact ei ⟨s,u,h,r.mn _ _ _ (fun d x l v m n f o p=>l v m n f (w.trans o) p) (kD t)⟩) q⟩⟩
abbrev DN:=List PyData->(PyData->Prop)->Prop
structure iQ (r:List V->Hp->VK->Prop) (f:DN):Prop where
 mn:∀xs Q Q',(∀d,Q d->Q' d)->f xs Q->f xs Q'
 ok:∀(O:List Addr) (H:Hp) (vs:List V) (xs:List PyData) (Q:VK),(∀p,H p=none->p∉O)->aO (al O H) vs xs->f xs (fun d=>∀w H',bP H H'->DV (al O H') w d->Q w H')->r vs H Q
def pp(f:DN)(t:dI):DT:=fun U Q=>t U fun b a=>f b fun d=>Q d a
theorem Ao{K}(o:iQ r f)(h:rT tA):∀Y H Q,fq K F (pp f tA) Y H Q->vA r (Al K F tA) Y H Q:=fun Y H Q a=>by obtain⟨U,O,st,q⟩:=a;exact 
 ⟨U,O,st,h _ _ _ (fun t u i vs j c b k l=>o.ok c j vs t Q b.nofree l (o.mn _ _ _ (fun d m w n g s=>m w n c (b.grow g) (k.trans (.same g)) s) i)) q⟩
theorem Ap(o:iQ r f)(h:rT tA):Mn (pp f tA):=fun _ _ _ k q=>h _ _ _ (fun _ _ a=>o.mn _ _ _ (fun _ b=>k _ _ b) a) q
theorem jl{pos:Pos}{p:Pos}{id:String}(d:fR X (.builtin id) r)(o:iQ r f)(g:Gl X x)(h:X.mg x=none)(i:bootBuiltins x=some (.builtin id))(a:DA X F (e::es) tA)(j:autoParam (x≠"__name__") Zr._auto_1)(b:autoParam ((x==("__debug__":Str))=false) Zr._auto_1)
  (k:autoParam (starEach (e::es) X.env=(false,eval e X.env)::starEach es X.env) Zq._auto_1) (c:autoParam ((backTo pos (starEach es X.env)).any (·.1)=false) Zq._auto_1):DE X F (.Call (.Name x p) (e::es) [] pos) (pp f tA):=
 ⟨Ap o a.mn,(nh d g h i a.pa j b k c).imp (Ao o a.mn)⟩
theorem Aq{pos:Pos}{p:Pos}(d:fR X (.type T) r)(o:iQ r f)(g:Gl X x)(h:X.mg x=none)(i:bootBuiltins x=some (.type T))(a:DA X F (e::es) tA)(j:autoParam (x≠"__name__") Zr._auto_1)(b:autoParam ((x==("__debug__":Str))=false) Zr._auto_1)
  (k:autoParam (starEach (e::es) X.env=(false,eval e X.env)::starEach es X.env) Zq._auto_1) (c:autoParam ((backTo pos (starEach es X.env)).any (·.1)=false) Zq._auto_1):DE X F (.Call (.Name x p) (e::es) [] pos) (pp f tA):=
 ⟨Ap o a.mn,(vB d g h i a.pa j b k c).imp (Ao o a.mn)⟩
def Ar(n:String)(a:DT):DT:=fun U Q=>a U fun d c=>∃b,(∀K:Frag,kitOne K (.type (vQ d)) (.type n)=some b)/\Q (.bool b) c
theorem iR{pos:Pos}{p:Pos}(m:Gl X "isinstance")(n:X.mg "isinstance" = none)(h:DE X F e ta)(o:PE X (.Name x p2) (tC (.ty T)))
  (l:autoParam (starEach [e,.Name x p2] X.env=(false,eval e X.env)::starEach [.Name x p2] X.env) Zq._auto_1) (g:autoParam (starEach [.Name x p2] X.env=(false,eval (.Name x p2) X.env)::starEach [] X.env) Zq._auto_1) (i:autoParam ((backTo pos (starEach [.Name x p2] X.env)).any (·.1)=false) Zq._auto_1) :
  DE X F (.Call (.Name "isinstance" p) [e,.Name x p2] [] pos) (Ar T ta):=
 ⟨fun _ _ _ k q=>h.mn _ _ _ (fun _ _ a=>by obtain⟨b,e,q⟩:=a;exact⟨b,e,k _ _ q⟩) q,
  (nh LQ m n (show bootBuiltins "isinstance" = some (.builtin "isinstance") by decide +kernel) (dO h.pe (dO o eM g) l) (by decide) (by decide) l i).imp fun Y H Q c=>by obtain⟨U,O,st,q⟩:=c;exact 
  ⟨U,O,st,h.mn _ _ _ (fun d y f v r s j t u=>by obtain⟨b,e,w⟩:=f;exact⟨v,d,T,b,rfl,DV.mono kw u,e,w _ r s j t (.bl b)⟩) q⟩⟩
structure fL (g:Heap) (H:Hp) (h:Heap) (a:Addr) (C:Value) (fl:Option Value):Prop where
 gh:∀b o,g.get? b=some o->∃o',h.get? b=some o'
 lo:g.get? a=none
 un:H a=none
 ob:∃oe vs a0,h.get? a=some oe/\oe.cls=C/\oe.data=.fields vs/\vs[0]? = some a0/\
  ((fl=none/\vs[1]? = some .none)\/∃T oT ts f,fl=some f/\vs[1]? = some (.ref T)/\g.get? T=none/\H T=none/\T≠a/\h.get? T=some oT/\oT.data=.fields ts/\ts[3]? = some f)
structure Ch (g:Heap) (H:Hp) (fs:List Addr) (h h':Heap):Prop where
 keep:∀b o,h.get? b=some o->((∃o',g.get? b=some o')\/H b≠none)->b∉fs->h'.get? b=some o
 slot:∀b o,b∈fs->h.get? b=some o->∃sl,h'.get? b=some { o with slots:=sl }
 there:∀b o,h.get? b=some o->∃o',h'.get? b=some o'
theorem Ch.refl:Ch g H fs h h:=⟨fun _ _ e _ _=>e,fun b o _ e=>⟨o.slots,e⟩,fun b o e=>⟨o,e⟩⟩
theorem Ch.trans(x:Ch g H fs h h1)(y:Ch g H fs h1 h2):Ch g H fs h h2 where
 keep:=fun b o e q n=>y.keep b o (x.keep b o e q n) q n
 slot:=fun b o m e=>let⟨_,e1⟩:=x.slot b o m e;let⟨sl,e2⟩:=y.slot b _ m e1;⟨sl,e2⟩
 there:=fun b o e=>let⟨o1,e1⟩:=x.there b o e;y.there b o1 e1
theorem bH.some_of(k:bH P w H h)(e:h.get? b=none):H b=none:=by
 cases q:H b with
 |none=>rfl
 |some u=>
  exfalso;have x:=k b u q;have:∀(u:HO),cw P w H h b u->∃o,h.get? b=some o:=by
   intro u
   induction u with
   |lst z=>exact fun d=>by obtain⟨_,_,_,_,e⟩:=d;exact⟨_,e⟩
   |tup z=>exact fun g=>by obtain⟨_,_,_,o,e,_⟩:=g;exact⟨_,e⟩
   |dK t=>exact fun i=>by obtain⟨_,_,_,_,o,_,_,e,_⟩:=i;exact⟨_,e⟩
   |dT t=>exact fun j=>by obtain⟨_,_,_,_,o,_,_,e,_⟩:=j;exact⟨_,e⟩
   |set S n=>exact fun l=>by obtain⟨o,_,_,_,e,_⟩:=l;exact⟨_,e⟩
   |ins C A fs=>exact fun m=>by obtain⟨_,_,_,e,_⟩:=m;exact⟨_,e⟩
   |own y=>exact fun p=>by obtain⟨_,e⟩:=p;exact⟨_,e⟩
   |xd fs=>exact fun r=>by obtain⟨_,⟨_,_,_,e,_⟩,_⟩:=r;exact⟨_,e⟩
   |rng lo B=>exact fun s=>by obtain⟨_,_,_,e⟩:=s;exact⟨_,e⟩
   |frz ob u _=>exact fun a=>by obtain⟨e,_⟩:=a;exact⟨_,e⟩
   |tbl D=>exact fun e=>⟨_,e⟩
   |met f y=>exact fun e=>⟨_,e⟩
   |ext φ=>exact fun c=>by obtain⟨_,⟨_,e⟩,_⟩:=c;exact⟨_,e⟩
  obtain⟨o,v⟩:=this u x;rw[e]at v;cases v
theorem As{h :Heap}:∀{l},(∀b∈bO l,a.get? b=none)->h.FunFrames base l->h.FunFrames a l
 |[],_,_=>trivial
 |c::r,hb,⟨f,⟨L,o,d,_,g,hd⟩,i⟩=>by
  have e:bO (c::r)=L::bO r:=by unfold bO;rw[q00,d]
  exact⟨f,⟨L,o,d,hb L (by rw[e];exact q0g),g,hd⟩,As (fun b h=>hb b (by rw[e];exact bG _ h)) i⟩
theorem At{L:Addr}(v:A.frames=some (env::outer))(y:s.heap.FunFrames base (env::outer))(hf:env.frame=some L)(hk:∀b,s.heap.get? b=none->H b=none)
  (gh:∀b o,g.get? b=some o->∃i,s.heap.get? b=some i) (lo:g.get? a=none) (un:H a=none) (he:s.heap.get? a=some u) (hc:u.cls=C) (hd:u.data=.fields vs) (B:1<vs.size) (h0:vs[0]? = some a0)
  (h:∀f,Ch g H (bO (env::outer)) s.heap f->fL g H f a C (some (rawInt L))->Q () { s with heap:=f }) :
  wpAny M A (do let x <-frameOf env;let pl <-entryPlaceOf L d;let b <-EntryCells.newEntry head x .none (rawInt L) .none pl;setField (.ref a) 1 b) Q E s:=by
 refine wpAny_entryW (base:=PySem.W.hideAll s.heap (a::bO (env::outer))) v (As (fun b m=>q1W _ (bG _ m)) y) hf he (fun b o e=>PySem.W.of_hideAll _ e) (q1W _ q0g) hd B h0 fun f k=>?_;obtain⟨k1,k2,k3,k4⟩:=k;obtain⟨D,G,T,oT,O,R,⟨e2,I⟩,e3,e4,S,U,X,Y,e9⟩:=k3;have p:∀b o,b∈bO (env::outer)->s.heap.get? b=some o->∃p,f.get? b=some { o with slots:=p }:=fun b o m e=>by obtain⟨_,i,c,J⟩:=y.mem m;rw[e]at c;cases c;exact k4 b o e J
 have kp:∀b o,s.heap.get? b=some o->b≠a->b∉bO (env::outer)->f.get? b=some o:=fun b o e r t=>k1 b o (q10 _ e fun z=>(q0d.mp z).elim r t);have Z:g.get? T=none/\H T=none:=by
  cases q:s.heap.get? T with
  |some o=>
   exfalso
   by_cases j:T∈bO (env::outer)
   .obtain⟨_,i,c,J⟩:=y.mem j;rw[q]at c;cases c;obtain⟨N,l⟩:=p T o j q;rw[X]at l;cases l;exact J O Y
   .rw[q10 _ q (fun z=>(q0d.mp z).elim U j)]at S;cases S
  |none=>
   refine⟨?_,hk T q⟩;cases q2:g.get? T with
   |none=>rfl
   |some o=>obtain⟨i,c⟩:=gh T o q2;rw[q]at c;cases c
 have ch:Ch g H (bO (env::outer)) s.heap f:=⟨fun b o e q n=>kp b o e (fun z=>?_) n,fun b o m e=>p b o m e,fun b o e=>?_⟩
 .refine h f ch ⟨fun b o e=>?_,lo,un,D,G,a0,R,e2.trans hc,e3,I,.inr ⟨T,oT,O,_,rfl,e4,Z.1,Z.2,U,X,Y,e9⟩⟩;obtain⟨i,c⟩:=gh b o e;exact ch.there b i c
 .subst z;rcases q with⟨i,q⟩ |q
  .rw[lo]at q;cases q
  .exact q un
 .by_cases t:b∈bO (env::outer)
  .obtain⟨N,c⟩:=p b o t e;exact⟨_,c⟩
  .by_cases r:b=a
   .subst r;exact⟨_,R⟩
   .exact⟨o,kp b o e r t⟩
theorem ME{h:Heap}(i:h.FunFrames base l)(j:h.get? T=some d)(hd:d.data=.fields e):(h.update T f).FunFrames base l:=
 i.of_keeps fun b o c k=>⟨o,by rw[Heap.get?_update_other _ _ (fun z=>k e (by subst z;rw[j]at c;cases c;exact hd))];exact c,rfl⟩
theorem Au(j:h.get? T=some c)(hd:c.data=.fields i)(k:g.get? T=none)(l:H T=none)(d:T∉fs):Ch g H fs h (h.update T (Obj.mapFields f)):=by
 have self:(h.update T (Obj.mapFields f)).get? T=some (c.mapFields f):=Heap.get?_update_self _ j (Obj.isFreed_of_fields (Obj.data_mapFields hd f));refine⟨fun b o e q n=>?_,fun b o m e=>⟨o.slots,?_⟩,fun b o e=>?_⟩
 .rw[Heap.get?_update_other _ _ (fun z=>?_)]
  .exact e
  .subst z;rcases q with⟨p,q⟩ |q
   .rw[k]at q;cases q
   .exact q l
 .rw[Heap.get?_update_other _ _ (fun z=>d (by rw[z];exact m))];exact e
 .by_cases z:b=T
  .subst z;exact⟨_,self⟩
  .exact⟨o,by rw[Heap.get?_update_other _ _ (Ne.symm z)];exact e⟩
theorem Av{L:Addr}(l:A.frames=some (env::outer))(u:s.heap.FunFrames base (env::outer))(v:env.frame=some L)(O:∀b,s.heap.get? b=none->H b=none)(x:fL g H s.heap a C fl)
  (h:∀m,Ch g H (bO (env::outer)) s.heap m->fL g H m a C (some (rawInt L))->Q () { s with heap:=m }):wpAny M A (noteFrame (.ref a) env) Q E s:=by
 obtain⟨N,lo,un,R,vs,a0,n,y,hd,B,U⟩:=x;unfold noteFrame;simp only[v];rcases U with⟨_,j⟩ |⟨T,X,S,f,_,j,p,r,t,k,c,D⟩
 .refine aH (wpAny_field n hd j ?_);rw[if_neg (by decide)];exact At l u v O N lo un n y hd (q06.mp j).1 B h
 .refine aH (wpAny_field n hd j ?_);rw[if_pos (show(Value.ref T != Value.none)=true from by simp)];refine aH (wpAny_field k c D ?_)
  by_cases d:(f==rawInt L)=true
  .rw[if_pos d];have e:f=rawInt L:=by simpa using d
   subst e;exact bz (h s.heap .refl ⟨N,lo,un,R,vs,a0,n,y,hd,B,.inr ⟨T,X,S,_,rfl,j,p,r,t,k,c,D⟩⟩)
  .rw[if_neg d];refine aH (wpAny_setField k c (q06.mp D).1 ?_);have G:T∉bO (env::outer):=fun z=>by obtain⟨_,I,i,Y⟩:=u.mem z;rw[k]at i;cases i;exact Y S c
   have J:=Au (g:=g) (H:=H) (f:=(·.setIfInBounds 3 Value.none)) k c p r G;refine At (s:={ s with heap:=s.heap.update T (Obj.mapFields (·.setIfInBounds 3 Value.none)) }) l (ME u k c) v (fun b e=>?_) (fun b o e=>?_) lo un ?_ y hd (q06.mp j).1 B fun m ch Z=>h m (J.trans ch) Z
   .refine O b ?_;cases q:s.heap.get? b with
    |none=>rfl
    |some o=>obtain⟨I,i⟩:=J.there b o q;rw[show({ s with heap:=s.heap.update T (Obj.mapFields (·.setIfInBounds 3 Value.none)) }:Shared).heap=s.heap.update T (Obj.mapFields (·.setIfInBounds 3 Value.none)) from rfl]at e;rw[e]at i;cases i
   .obtain⟨I,i⟩:=N b o e;exact J.there b I i
   .show(s.heap.update T _).get? a=some R;rw[Heap.get?_update_other _ _ t];exact n
theorem vZ(m)(n:∀b∈fs,∃o,s.heap.get? b=some o/\∀vs,o.data≠.fields vs)(x:fL g H s.heap a C (some fv))
  (h:∀p,Ch g H fs s.heap p->fL g H p a C (some (m.elim Value.none fun f=>rawInt f))->Q () { s with heap:=p }):wpAny M A (setFlight (.ref a) m) Q E s:=by
 obtain⟨S,lo,un,y,vs,a0,r,B,hd,D,G⟩:=x;rcases G with⟨z,_⟩ |⟨T,U,I,f,_,t,d,i,j,l,c,J⟩
 .cases z
 .unfold setFlight;refine aH (wpAny_field r hd t ?_);rw[if_pos (show(Value.ref T != Value.none)=true from by simp)];have q:T∉fs:=fun z=>by obtain⟨o,u,N⟩:=n T z;rw[l]at u;cases u;exact N I c
  have k:=(q06.mp J).1;have v:=Au (g:=g) (H:=H) (f:=(·.setIfInBounds 3 (m.elim Value.none fun f=>rawInt f))) l c d i q;refine wpAny_setField l c k (h _ v ⟨fun b o e=>?_,lo,un,y,vs,a0,?_,B,hd,D,.inr ⟨T,_,_,_,rfl,t,d,i,j,Heap.get?_update_self _ l (Obj.isFreed_of_fields (Obj.data_mapFields c _)),Obj.data_mapFields c _,?_⟩⟩)
  .obtain⟨O,R⟩:=S b o e;exact v.there b O R
  .rw[Heap.get?_update_other _ _ j];exact r
  .simp[k]
theorem wa{h:Heap}(c:h.FunFrames base l):∀b∈bO l,∃o,h.get? b=some o/\∀vs,o.data≠.fields vs:=fun b d=>let⟨_,o,e,n⟩:=c.mem d;⟨o,e,n⟩
theorem Ch.frames(c:Ch g H fs h d)(f:∀b∈bO l,b∈fs)(j:h.FunFrames base l):d.FunFrames base l:=by
 induction l with
 |nil=>trivial
 |cons env r k=>
  obtain⟨m,⟨L,o,i,n,p,hd⟩,q⟩:=j;have e:bO (env::r)=L::bO r:=by unfold bO;rw[q00,i]
  obtain⟨v,t⟩:=c.slot L o (f L (by rw[e];exact q0g)) p;exact⟨m,⟨L,_,i,n,t,hd⟩,k (fun b u=>f b (by rw[e];exact bG _ u)) q⟩
theorem MG(c:A.frames=some (env::outer))(e:s.heap.FunFrames base (env::outer))(i:env.frame=some L)(j:∀b,s.heap.get? b=none->H b=none)(x:fL g H s.heap a C fl)
  (h:∀d,Ch g H (bO (env::outer)) s.heap d->fL g H d a C (some .none)->Q () { s with heap:=d }):wpAny M A (leaving env (.ref a)) Q E s:=by
 unfold leaving;refine aH (Av c e i j x fun k f l=>?_);refine vZ (s:={ s with heap:=k }) (fs:=bO (env::outer)) none (wa (f.frames (fun _ h=>h) e)) l fun m n o=>h m (f.trans n) o
structure lJ (X:Cx) (pins:List (Addr×Obj)) (g:Heap):Prop where
 s0:∀b o,X.s₀.heap.get? b=some o->b∉X.ex->∃o',g.get? b=some o'
 loc:∃o,g.get? X.env.locals=some o
 cell:∀x c,X.env.cells.lookup x=some c->∃o,g.get? c=some o
 pin:∀p∈X.pn++pins,∃o,g.get? p.1=some o
theorem _root_.L2.Inv.cov{Y:St}(I:Inv X pins Y H s):lJ X pins s.heap:=by
 refine⟨fun b o e n=>I.base.there b o e n,?_,fun x c e=>?_,fun p d=>⟨_,(I.pin p d).1⟩⟩
 .obtain⟨m,⟨o,f,h,a,_⟩,_⟩:=I.loc;exact⟨o,a⟩
 .obtain⟨v,o,a,_⟩:=I.cell x c e;exact⟨o,a⟩
theorem _root_.L2.Inv.stkIn{Y:St}(I:Inv X pins Y H s)(h:b∉bO X.stack):b∉X.fs:=by
 rcases I.ok.stk with e |⟨e,a⟩
 .rw[e]at h;exact h
 .rw[e]at h;unfold bO at h;rw[q00,a]at h;exact fun z=>h (bG _ z)
theorem _root_.L2.Inv.stkOut{Y:St}(I:Inv X pins Y H s)(h:b∉X.fs)(a:b≠X.env.locals):b∉bO X.stack:=fun z=>(q0d.mp (I.stkSub b z)).elim a h
theorem MI{h h':Heap}(k:∀o,h.get? a=some o->∃b,h'.get? a=some { o with slots:=b })(c:h.Ns a m):h'.Ns a m:=by obtain⟨o,d,e,f,hd,r⟩:=c;obtain⟨b,i⟩:=k o f;exact⟨_,d,e,i,hd,r⟩
theorem _root_.L2.Inv.ch{Y:St}(I:Inv X pins Y H s)(C:lJ X pins g)(c:Ch g H (bO X.stack) s.heap h'):Inv X pins Y H { s with heap:=h' }:=by
 have M:∀b o,s.heap.get? b=some o->H b≠none->h'.get? b=some o:=fun b o e n=>c.keep b o e (.inr n) fun z=>n (I.stkFree b z);have G:∀x a,X.env.cells.lookup x=some a->∀o,s.heap.get? a=some o->∃A,h'.get? a=some A/\A.data=o.data:=fun x a e o h=>by
  by_cases t:a∈bO X.stack
  .obtain⟨T,y⟩:=c.slot a o t h;exact⟨_,y,rfl⟩
  .exact⟨o,c.keep a o h (.inl (C.cell x a e)) t,rfl⟩
 refine⟨I.ok,I.os,I.bare,⟨fun b o e n B w=>?_,fun b o e n B w=>?_,fun b o e n w=>I.base.free b o e n w,fun b o e w=>?_,I.base.tups,I.base.frzs,I.base.tbls⟩,?_,fun x a e=>?_,I.free,I.freeC,fun p J=>?_,fun b u e=>?_,I.len⟩
 .have y:=I.base.keep b o e n B w;refine c.keep b o y (.inl (C.s0 b o e w)) (I.stkOut B fun z=>?_);have j:=I.ok.above;have f:b<X.s₀.heap.objs.size:=bE e;rw[z]at f;exact q0z _ (q0o f j)
 .obtain⟨T,y⟩:=I.base.slot b o e n B w
  by_cases t:b∈bO X.stack
  .obtain⟨E,N⟩:=c.slot b _ t y;exact⟨E,N⟩
  .exact absurd B (I.stkIn t)
 .obtain⟨O,y⟩:=I.base.there b o e w;exact c.there b O y
 .obtain⟨m,Q,R⟩:=I.loc;refine⟨m,MI (fun o h=>?_) Q,fun i x v j f D=>?_⟩
  .by_cases t:X.env.locals∈bO X.stack
   .exact c.slot _ o t h
   .exact⟨o.slots,c.keep _ o h (.inl C.loc) t⟩
  .obtain⟨u,r,l⟩:=R i x v j f D;refine⟨u,r,?_⟩;rcases l with l |⟨k,a,e,o,h,hd⟩
   .exact .inl l
   .obtain⟨A,j,f⟩:=G x a e o h;exact .inr ⟨k,a,e,A,j,f.trans hd⟩
 .obtain⟨v,o,h,hd⟩:=I.cell x a e;obtain⟨A,j,f⟩:=G x a e o h;exact⟨v,A,j,f.trans hd⟩
 .obtain⟨j,f,D,L,S⟩:=I.pin p J;exact⟨c.keep _ _ j (.inl (C.pin p J)) (I.stkOut L D),f,D,L,S⟩
 .refine(I.hok b u e).stay (fun d v hd q=>M d v q ?_) (fun _ q=>q) fun _ _ q=>q;rcases hd with rfl |hd
  .rw[e];exact fun z=>by cases z
  .rw[hd];exact fun z=>by cases z
def dt(P:Program)(w:World):iN:=fun b H s E e c=>∃a C d,e=.ref a/\c.os=s.os/\AllBare c.gens/\Un (bO b) [] H d s.heap c.heap/\bH P w d c.heap/\fL s.heap d c.heap a C (some .none)/\E C none d
structure MJ (X:Cx) (pins:List (Addr×Obj)) (Y:St) (H:Hp) (s:Shared) (e:Value) (c:Str):Prop where
 inv:Inv X pins Y H s
 ex:∃a C g fl,e=.ref a/\lJ X pins g/\fL g H s.heap a C fl/\X.mg c=some C
noncomputable def glob(x:Str):Option PyData:=if x="ANY_ZONE" then some (.tuple [.int 0,.tuple []]) else if x="NO_DEEDS" then some (.tuple []) else none
noncomputable def gx:HO->Bool
 |.tup _=>true
 |.frz _ (.tup _)=>true
 |_=>false
theorem Aw(h:gx u=true):¬ Mv u:=fun m=>by
 cases u with
 |tup _=>exact m
 |frz _ _=>exact m
 |_=>cases h
def pq(H:Hp):Hp:=fun b=>match H b with
 |some u=>if gx u=true then some u else none
 |none=>none
theorem Ax(h:pq H b=some o):gx o=true/\H b=some o:=by
 unfold pq at h;split at h
 .rename_i u e;split at h
  .rename_i t;cases h;exact⟨t,e⟩
  .cases h
 .cases h
theorem rV(t:gx u=true)(h:H b=some u):pq H b=some u:=by unfold pq;rw[h];exact if_pos t
def GH(mg:Str->Option Value)(H:Hp):Prop:=∀x d u,glob x=some d->mg x=some u->∃v,aV v u/\DV (pq H) v d
def GF(mg:Str->Option Value)(F:Fx):Prop:=GH mg fun b=>if b∈F.A₀ then none else F.H₀ b
theorem GH.mono(g:GH mg H)(k:∀b u,gx u=true->H b=some u->a b=some u):GH mg a:=fun x d u c f=>by obtain⟨v,r,h⟩:=g x d u c f;exact⟨v,r,DV.mono (fun b o e=>by obtain⟨t,i⟩:=Ax e;exact rV t (k b o t i)) h⟩
theorem GF.at{K}(g:GF mg F)(st:aC K F H Y U O):GH mg H:=GH.mono g fun b c t e=>by
 obtain⟨W,st,rfl⟩:=st;split at e
 .cases e
 .rename_i a;exact st.kept b _ a e
theorem GH.frame(g:GH mg H)(h:∀a∈A,∃o,H a=some o/\Mv o):GF mg ⟨H,A,O,io⟩:=GH.mono g fun b d t e=>by show(if b∈A then none else H b)=_;rw[if_neg,e];intro z;obtain⟨o,c,m⟩:=h b z;rw[e]at c;cases c;exact Aw t m
theorem GF.into{K}(g:GF mg F)(st:aC K F H Y U O):GF mg ⟨H,[],b,io⟩:=(g.at st).frame fun a h=>by cases h
def fc(X:Cx)(F:Fx)(E:Str->ai->Prop):Prop:=GF X.mg F/\∀(pins:List (Addr×Obj)) (Y:St) (H:Hp) (s:Shared) (e:Value) (c:Str) (U:ai) (O:List Addr),MJ X pins Y H s e c->aC X.K F H Y U O->E c U->X.xe e s
theorem fL.weak(x:fL g H h a C j)(k:∀b o,c.get? b=some o->∃d,g.get? b=some d):fL c H h a C j:=by
 have l:∀b,g.get? b=none->c.get? b=none:=fun b e=>by
  cases q:c.get? b with
  |none=>rfl
  |some o=>obtain⟨d,i⟩:=k b o q;rw[e]at i;cases i
 obtain⟨B,lo,un,m,vs,a0,n,p,hd,r,t⟩:=x;refine⟨fun b o e=>let⟨d,i⟩:=k b o e;B b d i,l a lo,un,m,vs,a0,n,p,hd,r,t.imp id ?_⟩;rintro⟨T,u,v,f,w,y,z,A⟩;exact⟨T,u,v,f,w,y,l T z,A⟩
theorem _root_.L2.Inv.flies{Y:St}(I:Inv X pins Y H s)(h:dt X.prog X.w X.stack H s E e f):∃a C c,e=.ref a/\Inv X pins Y c f/\lJ X pins s.heap/\fL s.heap c f.heap a C (some .none)/\E C none c:=by obtain⟨a,C,c,j,os,bare,un,hok,ex,q⟩:=h;obtain⟨k,g,d,t,i⟩:=f;obtain rfl:i = s.os:=os;exact⟨a,C,c,j,I.call (h':=k) (g':=g) (d':=d) (t':=t) (ch:=[]) un hok bare (fun b z=>absurd z (by simp)),I.cov,ex,q⟩
theorem MK{K}
  (u:GF mg F) (v:∀c C n x p y,mg c=some C->aC K F p x n y->m c n->E C none p):fc (ic (dt P w) P w K mg base N i d f j A h s H E) F m:=by
 refine⟨u,?_⟩;rintro r Y k B e c U O ⟨I,a,C,g,Q,D,t,ex,G⟩ st q;subst D;have L:(A.deeper (envOfC i d s.heap.objs.size f j)).frames=some (envOfC i d s.heap.objs.size f j::h):=I.ok.frames;have hb:∀b,B.heap.get? b=none->k b=none:=fun b z=>bH.some_of I.hok z;have stk:bO (envOfC i d s.heap.objs.size f j::h)=s.heap.objs.size::bO h:=rfl;refine MG (base:=base) L I.stack rfl hb ex fun R ch l=>?_;have J:=I.ch t ch;refine⟨a,C,k,rfl,J.os,J.bare,J.base,J.hok,l.weak fun b o M=>t.s0 b o M (by intro z;cases z),v c C U Y k O G st q⟩
noncomputable def Fx.plus(F:Fx)(a:List Addr):Fx:={ F with O₀:=a++F.O₀ }
theorem Fx.plus_plus{F:Fx}:(F.plus l).plus m=F.plus (m++l):=by unfold Fx.plus;simp
structure gy (K:Frag) (F:Fx) (H:Hp) (Y:St) (U:ai) (O:List Addr) (v:V) (c:aa) (fp:List Addr):Prop where
 st:aC K (F.plus fp) H Y U O
 at_:em K H O v c fp
 new:∀a∈fp,a∈F.A₀\/F.H₀ a=none
theorem iS(h:∀a∈O',a∈O):aK O H O' H:=⟨fun _ _ _ e=>e,fun a z=>.inl (h a z)⟩
theorem bV.less{K:Frag}(st:bV K F H Y U W)(d:b.H₀=F.H₀)(f:b.A₀=F.A₀)(g:b.I₀=F.I₀)(j:b.O₀.Sublist F.O₀):bV K b H Y U W:=by have sub:(W.flatten++b.O₀).Sublist (W.flatten++F.O₀):=q16 (q1M _) j;have mem:∀a∈W.flatten++b.O₀,a∈W.flatten++F.O₀:=fun a h=>sub.subset h;refine⟨fun i c e=>?_,st.nd.sublist sub,by rw[d,f];exact st.kept,by rw[d,f];exact st.new,fun a h=>st.live a (mem a h),st.len,st.lw,by rw[g];exact st.io⟩;obtain⟨v,fp,k,l,m⟩:=st.at_ i c e;exact⟨v,fp,k,l,m.keep (iS mem) (fun _ _=>rfl) (fun _ _ _ e=>e)⟩
theorem aC.unplus{K:Frag}(st:aC K (F.plus fp) H Y U O):∃O',aC K F H Y U O'/\aK O H O' H/\(∀a∈fp,a∉O'):=by
 obtain⟨W,st,rfl⟩:=st;have b:bV K F H Y U W:=st.less rfl rfl rfl (q2f _ _);refine⟨_,⟨W,b,rfl⟩,iS fun a h=>?_,fun a d z=>?_⟩
 .rcases q0b.mp h with h |h
  .exact bj _ h
  .exact bf _ (bf _ h)
 .have nd:(W.flatten++(fp++F.O₀)).Nodup:=st.nd;obtain⟨_,e,f⟩:=q0f.mp nd;rcases q0b.mp z with z |z
  .exact f a z a (bj _ d) rfl
  .exact(q0f.mp e).2.2 a d a z rfl
theorem gy.drop{K:Frag}(r:gy K F H Y U O v c fp):∃O',aC K F H Y U O'/\aK O H O' H:=let⟨O',a,b,_⟩:=r.st.unplus;⟨O',a,b⟩
@[simp]noncomputable def frz:aa->Option PyData
 |.dat d=>some d
 |.own _ (.l ds)=>some (.list ds)
 |_=>none
theorem gy.frz{K:Frag}(r:gy K F H Y U O v c fp)(e:frz c=some d):∃O',aC K F H Y U O'/\aK O H O' H/\DV (al O' H) v d:=by
 obtain⟨O',h,f,i⟩:=r.st.unplus;refine⟨O',h,f,?_⟩;have g:=r.at_;cases c with
 |dat x=>cases e;exact DV.mono f.hid g
 |scr ns=>cases e
 |exc c=>cases e
 |vw c=>cases e
 |own io b=>
  cases b with
  |l ds=>cases e;obtain⟨a,rfl,rfl,n,j,k⟩:=g;exact .lst (ie j (i a (by simp))) (aO.mono f.hid k)
  |m _ _=>cases e
  |o _ _=>cases e
  |sd _=>cases e
  |ll _=>cases e
  |pr _ _ _=>cases e
  |oo _ _=>cases e
theorem ML{K:Frag}(st:aC K F H Y U O)(h:DV (al O H) v d):gy K F H Y U O v (.dat d) []:=⟨st,h,fun a h=>by cases h⟩
theorem aC.put1{K:Frag}{io:Bool}(st:aC K (F.plus fp) H Y U O)(s:em K H O v c fp)(new:∀a∈fp,a∈F.A₀\/F.H₀ a=none)(n:i<U.length)(o:∀b,c=.own true b->v=.ref (F.I₀ i)) :
  ∃O',aC K F H (Y.set i (some v)) (U.set i (some c)) O'/\aK O H O' H:=by
 obtain⟨W,st,rfl⟩:=st;have nd:(W.flatten++(fp++F.O₀)).Nodup:=st.nd;obtain⟨t,u,r⟩:=q0f.mp nd;obtain⟨x,y,A⟩:=q0f.mp u;have p:i<W.length:=by rw[st.lw];exact n
 have sub:∀a∈(W.set i fp).flatten++F.O₀,a∈W.flatten++(fp++F.O₀):=fun a h=>by
  rcases q0b.mp h with h |h
  .rcases fX h with h |⟨j,l,_,e,q⟩
   .exact bf _ (bj _ h)
   .exact bj _ (bS e q)
  .exact bf _ (bf _ h)
 have f:=iS (H:=H) sub;refine⟨_,⟨W.set i fp,⟨fun j d e=>?_,rR (q0f.mpr ⟨t,y,fun a k b E=>r a k b (bf _ E)⟩) x fun a k=>⟨fun j l _ e z=>r a (bS e z) a (bj _ k) rfl,fun z=>A a k a z rfl⟩,st.kept,fun a h=>?_,fun a h=>st.live a (sub a h),by rw[q0w,q0w,st.len],by rw[q0w,q0w,st.lw],fun j b e=>?_⟩,rfl⟩,f⟩
 .rcases iP e with⟨rfl,g,_⟩ |⟨m,g⟩
  .cases g;exact⟨v,fp,q0q (by rw[<-st.len];exact n),q0q p,s.keep f (fun _ _=>rfl) (fun _ _ _ e=>e)⟩
  .obtain⟨w,l,B,C,D⟩:=st.at_ j d g;exact⟨w,l,by rw[q0r (Ne.symm m)];exact B,by rw[q0r (Ne.symm m)];exact C,D.keep f (fun _ _=>rfl) (fun _ _ _ e=>e)⟩
 .rcases fX h with h |⟨j,l,_,e,q⟩
  .exact new a h
  .exact st.new a (bS e q)
 .rcases iP e with⟨rfl,g,_⟩ |⟨m,g⟩
  .rw[q0q (by rw[<-st.len];exact n),o b (q0n g).symm]
  .rw[q0r (Ne.symm m)];exact st.io j b g
theorem aC.take{K:Frag}(st:aC K F H Y U O)(e:U[i]? = some (some (.own io b))):∃a fp O',Y[i]? = some (some (.ref a))/\aC K (F.plus fp) H Y (U.set i none) O'/\fK (al O' H) H a b fp/\aK O H O' H/\aK O' H O H/\(∀a∈fp,a∈F.A₀\/F.H₀ a=none)/\(io=true->a=F.I₀ i):=by
 obtain⟨W,st,rfl⟩:=st;obtain⟨v,fp,E,s,a,rfl,J⟩:=st.at_ i _ e;have L:i<U.length:=(q0a.mp e).1;have M:i<W.length:=by rw[st.lw];exact L
 obtain⟨G,N,Q⟩:=q0f.mp st.nd;have I:∀x∈(W.set i []).flatten++(fp++F.O₀),x∈W.flatten++F.O₀:=fun x h=>by
  rcases q0b.mp h with h |h
  .rcases fX h with h |⟨j,l,_,g,m⟩
   .cases h
   .exact bj _ (bS g m)
  .rcases q0b.mp h with h |h
   .exact bj _ (bS s h)
   .exact bf _ h
 have R:∀x∈W.flatten++F.O₀,x∈(W.set i []).flatten++(fp++F.O₀):=fun x h=>by
  rcases q0b.mp h with h |h
  .obtain⟨l,m,f⟩:=q15.mp h;obtain⟨j,n⟩:=q0J m
   by_cases t:j=i
   .subst t;rw[s]at n;cases n;exact bf _ (bj _ f)
   .exact bj _ (LU t n f)
  .exact bf _ (bf _ h)
 have u:fp.Nodup:=by
  have:∀{W:List (List Addr)}{i:Nat}{l:List Addr},W.flatten.Nodup->W[i]? = some l->l.Nodup:=fun {W i l} X m=>X.sublist (by
   have:=q0G m;exact q1o this)
  exact this G s
 have A:((W.set i []).flatten++(fp++F.O₀)).Nodup:=by
  have q:((W.set i []).flatten++([]++F.O₀)).Nodup:=rR (fp:=[]) (O:=F.O₀) st.nd q1O (fun a h=>by cases h);obtain⟨B,_,C⟩:=q0f.mp q;refine q0f.mpr ⟨B,q0f.mpr ⟨u,N,fun x f y o z=>Q x (bS s f) y o z⟩,fun x f y o z=>?_⟩;subst z;rcases q0b.mp o with o |o
  .rcases fX f with f |⟨j,l,n,g,m⟩
   .cases f
   .exact kz G s g (Ne.symm n) o m
  .exact C x f x o rfl
 have p:=iS (H:=H) I;have k:=iS (H:=H) R;refine⟨a,fp,_,E,⟨W.set i [],⟨fun j d g=>?_,A,st.kept,fun x h=>?_,fun x h=>st.live x (I x h),by rw[q0w,st.len],by rw[q0w,q0w,st.lw],fun j S g=>?_⟩,rfl⟩,J.keep (fun _ _=>rfl) p.hid,p,k,fun x f=>st.new x (bS s f),fun D=>?_⟩
 .rcases iP g with⟨rfl,r,_⟩ |⟨n,r⟩
  .cases r
  .obtain⟨w,l,B,T,C⟩:=st.at_ j d r;exact⟨w,l,B,by rw[q0r (Ne.symm n)];exact T,C.keep p (fun _ _=>rfl) (fun _ _ _ e=>e)⟩
 .rcases fX h with h |⟨j,l,_,g,m⟩
  .cases h
  .exact st.new x (bS g m)
 .rcases iP g with⟨rfl,r,_⟩ |⟨n,r⟩
  .cases r
  .exact st.io j S r
 .subst D;have:=st.io i b e;rw[E]at this;cases this;rfl
theorem aC.swap{K:Frag}{F:Fx}(st:aC K (F.plus L) H Y U O)(keep:∀b o,b∉L->H b=some o->H' b=some o)(J:L'.Nodup)(new:∀a∈L',a∈L\/H a=none)(x:∀a∈L,a∈F.A₀\/F.H₀ a=none)(l:∀a∈L',∃o,H' a=some o/\Mv o) :
  ∃O',aC K (F.plus L') H' Y U O'/\aK O H O' H'/\(∀a∈L',a∈O')/\(∀a∈O',a∈L'\/a∈O/\a∉L)/\∀a∈O,a∉L->a∈O':=by
 obtain⟨W,st,rfl⟩:=st;have m:(W.flatten++(L++F.O₀)).Nodup:=st.nd;obtain⟨y,A,r⟩:=q0f.mp m;obtain⟨M,B,C⟩:=q0f.mp A;have n:∀a∈W.flatten,a∉L:=fun a h z=>r a h a (bj _ z) rfl;have ol:∀a∈F.O₀,a∉L:=fun a h z=>C a z a h rfl;have j:∀a∈W.flatten++F.O₀,∃o,H a=some o/\Mv o:=fun a h=>st.live a (by
  rcases q0b.mp h with h |h
  .exact bj _ h
  .exact bf _ (bf _ h))
 have kp:∀a∈W.flatten++F.O₀,H' a=H a:=fun a h=>by obtain⟨o,e,_⟩:=j a h;rw[e];exact keep a o ((q0b.mp h).elim (n a) (ol a)) e
 have ap:∀a∈L',a∉W.flatten++F.O₀:=fun a h z=>by
  rcases new a h with q |q
  .rcases q0b.mp z with z |z
   .exact n a z q
   .exact ol a z q
  .obtain⟨o,e,_⟩:=j a z;rw[q]at e;cases e
 have f:aK (W.flatten++(L++F.O₀)) H (W.flatten++(L'++F.O₀)) H':=⟨fun b o d e=>keep b o (fun z=>d (bf _ (bj _ z))) e,fun a h=>by
  rcases q0b.mp h with h |h
  .exact .inl (bj _ h)
  .rcases q0b.mp h with h |h
   .exact(new a h).imp (fun z=>bf _ (bj _ z)) id
   .exact .inl (bf _ (bf _ h))⟩
 have D:∀b o u,H b=some (.frz o u)->H' b=some (.frz o u):=fun b o u e=>keep b _ (fun z=>st.nofrz (bf _ (bj _ z)) e) e;refine⟨_,⟨W,⟨fun i c e=>?_,?_,fun b o d e=>?_,st.new,fun a h=>?_,st.len,st.lw,st.io⟩,rfl⟩,f,fun a h=>bf _ (bj _ h),fun a h=>?_,fun a h E=>?_⟩
 .obtain⟨v,fp,G,s,I⟩:=st.at_ i c e;exact⟨v,fp,G,s,I.keep f (fun b d=>kp b (bj _ (bS s d))) D⟩
 .refine q0f.mpr ⟨y,q0f.mpr ⟨J,B,fun a k b d z=>?_⟩,fun a k b d z=>?_⟩
  .subst z;exact ap a k (bf _ d)
  .subst z;rcases q0b.mp d with d |d
   .exact ap a d (bj _ k)
   .exact r a k a (bf _ d) rfl
 .have g:=st.kept b o d e
  by_cases t:b∈L
  .rcases x b t with q |q
   .exact absurd q d
   .have w:F.H₀ b=some o:=e;rw[q]at w;cases w
  .exact keep b o t g
 .rcases q0b.mp h with h |h
  .obtain⟨o,g,p⟩:=j a (bj _ h);exact⟨o,by rw[kp a (bj _ h)];exact g,p⟩
  .rcases q0b.mp h with h |h
   .exact l a h
   .obtain⟨o,g,p⟩:=j a (bf _ h);exact⟨o,by rw[kp a (bf _ h)];exact g,p⟩
 .rcases q0b.mp h with h |h
  .exact .inr ⟨bj _ h,n a h⟩
  .rcases q0b.mp h with h |h
   .exact .inl h
   .exact .inr ⟨bf _ (bf _ h),ol a h⟩
 .rcases q0b.mp h with h |h
  .exact bj _ h
  .rcases q0b.mp h with h |h
   .exact absurd h E
   .exact bf _ (bf _ h)
abbrev im:=ai->(aa->ai->Prop)->Prop
def Ay(t:im):Prop:=∀U Q a,(∀c b,Q c b->a c b)->t U Q->t U a
def MM(K:Frag)(F:Fx)(t:im):TE:=fun Y H Q=>∃U O,aC K F H Y U O/\t U fun c d=>∀v a b e,gy K F a Y d b v c e->aK O H b a->Q v a
structure DO (X:Cx) (F:Fx) (e:Expr) (t:im):Prop where
 mn:Ay t
 pe:PE X e (MM X.K F t)
def MN(t:im):DT:=fun U Q=>t U fun c a=>∃d,frz c=some d/\Q d a
theorem DO.de(h:DO X F e to):DE X F e (MN to):=
 ⟨fun _ _ _ k q=>h.mn _ _ _ (fun _ _ a=>by obtain⟨d,e,q⟩:=a;exact⟨d,e,k _ _ q⟩) q,h.pe.imp fun Y H Q g=>by
 obtain⟨U,O,st,q⟩:=g;exact⟨U,O,st,h.mn _ _ _ (fun c n b v i o p r s=>by
  obtain⟨d,e,q⟩:=b;obtain⟨j,f,l,m⟩:=r.frz e;exact q v i j f (s.trans l) m) q⟩⟩
abbrev er:=PyData->ai->(ai->Prop)->Prop
def jL(K:Frag)(F:Fx)(t:er):TG:=fun v Y H Q=>∃U O d,aC K F H Y U O/\DV (al O H) v d/\t d U fun e=>∀b a c,aC K F a b e c->aK O H c a->Q b a
structure DG (X:Cx) (F:Fx) (tg:Expr) (t:er):Prop where
 mn:∀d U Q Q',(∀U',Q U'->Q' U')->t d U Q->t d U Q'
 pg:PG X tg (jL X.K F t)
abbrev kF:=List PyData->ai->(ai->Prop)->Prop
def MO(K:Frag)(F:Fx)(t:kF):jG:=fun vs Y H Q=>∃U O d,aC K F H Y U O/\aO (al O H) vs d/\t d U fun e=>∀b a c,aC K F a b e c->aK O H c a->Q b a
structure pu (X:Cx) (F:Fx) (tg:List Expr) (t:kF):Prop where
 mn:∀d U Q Q',(∀U',Q U'->Q' U')->t d U Q->t d U Q'
 pg:PGs X tg (MO X.K F t)
theorem _root_.L2.PG.imp(h:PG X e t)(k:∀v Y H Q,t' v Y H Q->t v Y H Q):PG X e t':=fun a s Y H v u Q I r q=>h a s Y H v u Q I r (k v Y H Q q)
theorem _root_.L2.PGs.imp(h:PGs X e t)(k:∀v Y H Q,t' v Y H Q->t v Y H Q):PGs X e t':=fun a s Y H v u Q I r q=>h a s Y H v u Q I r (k v Y H Q q)
def gN(i:Nat):er:=fun d U Q=>Q (U.set i (some (.dat d)))
theorem MP(h:PG X (.Name x pos) (vm i)):DG X F (.Name x pos) (gN i):=⟨fun _ _ _ _ k q=>k _ q,h.imp fun v Y H Q a=>by obtain⟨U,O,d,st,hd,q⟩:=a;exact q _ H O (st.set hd) .refl⟩
def MQ:kF:=fun a U Q=>a=[]/\Q U
def MR(t:er)(u:kF):kF:=fun b U Q=>∃d r,b=d::r/\t d U fun a=>u r a Q
theorem MS:pu X F [] MQ:=⟨fun _ _ _ _ k q=>⟨q.1,k _ q.2⟩,JF.imp fun vs Y H Q a=>by
 obtain⟨U,O,ds,st,hd,e,q⟩:=a;subst e;cases hd;exact⟨rfl,q _ H O st .refl⟩⟩
theorem MT(c:DG X F e t)(f:pu X F es ts)(l:autoParam ((assignEach (e::es) X.env).map (·.2)=assign e X.env::(assignEach es X.env).map (·.2)) Zq._auto_1):pu X F (e::es) (MR t ts):=
 ⟨fun _ _ _ _ k a=>by obtain⟨d,r,e,q⟩:=a;exact⟨d,r,e,c.mn _ _ _ _ (fun _ g=>f.mn _ _ _ _ k g) q⟩,(JG c.pg f.pg l).imp fun vs Y H Q b=>by
  obtain⟨U,O,ds,st,hd,d,r,e,q⟩:=b;subst e;cases hd with
  |cons hd m=>
   exact⟨_,_,rfl,U,O,d,st,hd,c.mn _ _ _ _ (fun n g y z o h j=>⟨n,o,r,h,aO.mono j.hid m,f.mn _ _ _ _ (fun A p s u v i w=>p s u v i (j.trans w)) g⟩) q⟩⟩
def MU(n:Nat)(t:kF):er:=fun d U Q=>∃a,d=.tuple a/\a.length=n/\t a U Q
theorem MV{pos:Pos}{k }(j:X.calm=true)(h:pu X F es ts)(m:autoParam ((assignEach es X.env).length=n) Zq._auto_1)(f:autoParam ((assignEach es X.env).findIdx? (·.1)=none) Zq._auto_1):DG X F (.Tuple es k pos) (MU n ts):=
 ⟨fun _ _ _ _ k b=>by obtain⟨g,e,l,q⟩:=b;exact⟨g,e,l,h.mn _ _ _ _ k q⟩,(JI j h.pg m f).imp fun v Y H Q c=>by
  obtain⟨U,O,d,st,hd,g,e,l,q⟩:=c;subst e;obtain⟨a,o,rfl,p,i⟩:=hd.tup_inv;exact⟨a,o,rfl,.inl (gM p).1,by rw[i.length];exact l,U,O,g,st,i,q⟩⟩
structure et where
 nx:ai->Prop
 rt:aa->ai->Prop
 bk:ai->Prop:=fun _=>False
 ct:ai->Prop:=fun _=>False
abbrev cZ:=et->ai->Prop
structure fZ (K:Frag) (F:Fx) (O:List Addr) (H:Hp) (D:fm) (DD:et):Prop where
 nx:∀Y' H' U' O',aC K F H' Y' U' O'->aK O H O' H'->DD.nx U'->D.nx Y' H'
 rt:∀v Y' H' c U' O' fp,gy K F H' Y' U' O' v c fp->aK O H O' H'->DD.rt c U'->D.rt v H'
 bk:∀Y' H' U' O',aC K F H' Y' U' O'->aK O H O' H'->DD.bk U'->D.bk Y' H'
 ct:∀Y' H' U' O',aC K F H' Y' U' O'->aK O H O' H'->DD.ct U'->D.ct Y' H'
theorem fZ.later{K}(f:fZ K F O H D e)(s:aK O H b d):fZ K F b d D e:=
 ⟨fun Y H U O st a q=>f.nx Y H U O st (s.trans a) q,fun v Y H c U O g r a q=>f.rt v Y H c U O g r (s.trans a) q,fun Y H U O st a q=>f.bk Y H U O st (s.trans a) q,fun Y H U O st a q=>f.ct Y H U O st (s.trans a) q⟩
def Az(K:Frag)(F:Fx)(t:cZ):TS:=fun D Y H=>∃U O a,aC K F H Y U O/\t a U/\fZ K F O H D a
def DS(X:Cx)(F:Fx)(s:Stmt)(t:cZ):Prop:=PS X s (Az X.K F t)
def gP(X:Cx)(F:Fx)(s:List Stmt)(t:cZ):Prop:=PSs X s (Az X.K F t)
def MW:cZ:=fun D U=>D.nx U
def MX(t u:cZ):cZ:=fun D U=>t { D with nx:=fun a=>u D a } U
theorem MY:gP X F [] MW:=Jt.imp fun D Y H a=>by obtain⟨U,O,b,st,q,f⟩:=a;exact f.nx Y H U O st .refl q
theorem MZ{st:Stmt}(c:DS X F st t)(d:gP X F rest u):gP X F (st::rest) (MX t u):=
 (Ju c d).imp fun D Y H a=>by obtain⟨U,O,g,s,q,f⟩:=a;exact⟨U,O,_,s,q,⟨fun l m h i b j k=>⟨h,i,g,b,k,f.later j⟩,f.rt,f.bk,f.ct⟩⟩
theorem Na{st:Stmt}(h:DS X F st t):gP X F [st] t:=Jv h
def wb(te:DT)(tg:er):cZ:=fun D U=>te U fun d a=>tg d a D.nx
theorem Nb{pos:Pos}(h:DE X F e te)(i:DG X F a tg)(j:autoParam (swapsWithSole [a] e pos.line X.env=pure false) Zq._auto_1)(k:autoParam (swappedStores [a] e X.env=pure none) Zq._auto_1)
  (l:autoParam ((assignEach [a] X.env).map (·.2)=[assign a X.env]) Zq._auto_1):DS X F (.Assign [a] e pos) (wb te tg):=
 (vn h.pe i.pg j k l).imp fun D Y H b=>by obtain⟨U,O,C,st,q,f⟩:=b;exact⟨U,O,st,h.mn _ _ _ (fun d m n v E o c p r=>⟨m,o,d,c,r,i.mn _ _ _ _ (fun s w y z A g B=>f.nx y z s A g (p.trans B) w) n⟩) q⟩
theorem Nc{pos:Pos}(h:X.N.Nodup)(j:X.N[i]? = some x)(k:Loc X.env.scope x)(g:DE X F e te)(l:autoParam (swapsWith e (some (.Name x a)) pos.line X.env=pure false) Zq._auto_1)
  (m:X.fn x=true\/X.env.scope.names.lookup x=some .local:=by first |exact .inl rfl |exact .inr rfl |assumption):DS X F (.Assign [.Name x a] e pos) (wb te (gN i)):=
 (zi h j k g.pe l m).imp fun D Y H b=>by obtain⟨U,O,w,st,q,f⟩:=b;exact⟨U,O,st,g.mn _ _ _ (fun d y n v o p c r s=>f.nx _ o _ p (c.set s) r n) q⟩
def Nd(te:DT):cZ:=fun D U=>te U fun d a=>D.rt (.dat d) a
theorem AA(c:DE X F e te):DS X F (.Return (some e) pos) (Nd te):=
 (vj c.pe).imp fun D Y H a=>by obtain⟨U,O,m,st,q,f⟩:=a;exact⟨U,O,st,c.mn _ _ _ (fun d g h v i j b k l=>f.rt v Y i (.dat d) g j [] (ML b l) k h) q⟩
def Nf(to:im):cZ:=fun D U=>to U fun c a=>D.rt c a
theorem Ng(b:DO X F e to):DS X F (.Return (some e) pos) (Nf to):=
 (vj b.pe).imp fun D Y H a=>by obtain⟨U,O,l,st,q,f⟩:=a;exact⟨U,O,st,b.mn _ _ _ (fun c d g v h i j r k=>f.rt v Y h c d i j r k g) q⟩
def Nh(i:Nat):cZ:=fun D U=>∃b,U[i]? = some (some (.own false b))/\D.rt (.own false b) (U.set i none)
theorem Ni(g:PE X (.Name x d) (bQ i)):DS X F (.Return (some (.Name x d)) pos) (Nh i):=
 (vj g).imp fun D Y H c=>by obtain⟨U,O,p,st,⟨b,e,q⟩,f⟩:=c;obtain⟨a,h,j,k,l,m,n,r,o,_⟩:=st.take e;exact⟨_,k,f.rt _ Y H (.own false b) _ j h ⟨l,⟨a,rfl,m⟩,o⟩ n q⟩
def Nj(i:Nat)(to:im):cZ:=fun D U=>to U fun c a=>i<a.length/\(∀b,c≠.own true b)/\D.nx (a.set i (some c))
theorem Nk{pos:Pos}(j:X.N.Nodup)(k:X.N[i]? = some x)(l:Loc X.env.scope x)(h:DO X F e to)(m:autoParam (swapsWith e (some (.Name x a)) pos.line X.env=pure false) Zq._auto_1)
  (n:X.fn x=true\/X.env.scope.names.lookup x=some .local:=by first |exact .inl rfl |exact .inr rfl |assumption):DS X F (.Assign [.Name x a] e pos) (Nj i to):=
 (zi j k l h.pe m n).imp fun D Y H o=>by
 obtain⟨U,O,E,st,q,f⟩:=o;exact⟨U,O,st,h.mn _ _ _ (fun c G d v p I J r s=>by
  obtain⟨w,y,A⟩:=d;obtain⟨B,g,C⟩:=aC.put1 (io:=true) r.st r.at_ r.new w (fun b z=>absurd z (y b));exact f.nx _ p _ B g (s.trans C) A) q⟩
def Nl(to:im):cZ:=fun D U=>to U fun _ a=>D.nx a
theorem Nm(b:DO X F e to)(d:autoParam (swapsWith e none pos.line X.env=pure false) Zq._auto_1):DS X F (.Expr e pos) (Nl to):=
 (vi b.pe d).imp fun D Y H g=>by
 obtain⟨U,O,k,st,q,f⟩:=g;exact⟨U,O,st,b.mn _ _ _ (fun c l h v m n o r i=>by
  obtain⟨p,a,j⟩:=r.drop;exact f.nx _ _ _ _ a (i.trans j) h) q⟩
def Nn(tc:cx)(t u:cZ):cZ:=fun D U=>tc U fun b a=>if b=true then t D a else u D a
theorem No(g:DB X F c tc)(m:gP X F a t)(o:gP X F b u):DS X F (.If c a b pos) (Nn tc t u):=
 (JB g.pt m o).imp fun D Y H n=>by
 obtain⟨U,O,h,st,q,f⟩:=n;exact⟨U,O,st,g.mn _ _ _ (fun b i j p k d l=>by
  cases b with
  |true=>exact ej ⟨i,k,h,d,kC j,f.later l⟩
  |false=>exact ei ⟨i,k,h,d,kD j,f.later l⟩) q⟩
def AB(i:Nat)(te:DT)(g:Int->Int->Int):cZ:=fun D U=>∃k,U[i]? = some (some (.dat (.int k)))/\te U fun d a=>∃l,d=.int l/\D.nx (a.set i (some (.dat (.int (g k l)))))
theorem Np(o:X.N.Nodup)(p:X.N[i]? = some x)(r:Loc X.env.scope x)(n:DE X F e te)(s:vl X op (zj g))(y:X.fn x=true\/X.env.scope.names.lookup x=some .local:=by first |exact .inl rfl |exact .inr rfl |assumption) :
  DS X F (.AugAssign (.Name x a) op e pos) (AB i te g):=
 (JL o p r n.pe s y).imp fun D Y H b=>by obtain⟨U,O,G,st,⟨k,z,q⟩,f⟩:=b;obtain⟨v,h,j⟩:=st.dat z;obtain rfl:=j.int_inv;exact⟨_,h,U,O,st,n.mn _ _ _ (fun d I c w J L m A B=>by obtain⟨l,C,E⟩:=c;subst C;exact⟨k,l,rfl,B.int_inv,f.nx _ _ _ _ (m.set (.int _)) A E⟩) q⟩
set_option genInjectivity true in
inductive wc where
 |rt (c:aa) (outs:List Bx) |ex (c:Str) (outs:List Bx) |bad
abbrev FM:=List aa->wc
inductive aS (K:Frag) (H:Hp) (O:List Addr):List V->List aa->List (List Addr)->Prop where
 |nil:aS K H O [] [] []
 |dat {v:V}{d:PyData}{vs:List V}{cs:List aa}{fps:List (List Addr)}:DV (al O H) v d->aS K H O vs cs fps->aS K H O (v::vs) (.dat d::cs) ([]::fps)
 |oth {v:V}{c:aa}{vs:List V}{cs:List aa}{fps:List (List Addr)}:(∀d,c≠.dat d)->(∀io b,c≠.own io b)->em K H O v c []->aS K H O vs cs fps->aS K H O (v::vs) (c::cs) ([]::fps)
 |own {a:Addr}{b:Bx}{fp:List Addr}{vs:List V}{cs:List aa}{fps:List (List Addr)}:fK (al O H) H a b fp->aS K H O vs cs fps->aS K H O (.ref a::vs) (.own true b::cs) (fp::fps)
inductive aZ (H:Hp) (O:List Addr):List V->List aa->List Bx->List (List Addr)->Prop where
 |nil:aZ H O [] [] [] []
 |skip {v:V}{c:aa}{vs:List V}{cs:List aa}{bs:List Bx}{fps:List (List Addr)}:(∀io b,c≠.own io b)->aZ H O vs cs bs fps->aZ H O (v::vs) (c::cs) bs fps
 |own {a:Addr}{io:Bool}{b b':Bx}{fp:List Addr}{vs:List V}{cs:List aa}{bs:List Bx}{fps:List (List Addr)}:fK (al O H) H a b' fp->aZ H O vs cs bs fps->aZ H O (.ref a::vs) (.own io b::cs) (b'::bs) (fp::fps)
structure jM (H H':Hp) (L L' O₀:List Addr):Prop where
 nd:(L'++O₀).Nodup
 live:∀a∈L',∃o,H' a=some o/\Mv o
 keep:∀b o,b∉L->H b=some o->H' b=some o
 new:∀a∈L',a∈L\/H a=none
def fu(K:Frag)(mg:Str->Option Value)(f:FM):Sp:=fun vs H Q E=>GH mg H/\∃(i:List aa) (d:List (List Addr)) (h:List Addr),aS K H (d.flatten++h) vs i d/\(d.flatten++h).Nodup/\(∀a∈d.flatten++h,∃o,H a=some o/\Mv o)/\
 match f i with
 |.rt c e=>∀v g j b,em K g (b.flatten++j++h) v c j->aZ g (b.flatten++j++h) vs i e b->jM H g d.flatten (b.flatten++j) h->Q v g
 |.ex c e=>∀C g b,mg c=some C->aZ g (b.flatten++h) vs i e b->jM H g d.flatten b.flatten h->E C none g
 |.bad=>False
theorem aS.len{K}(h:aS K H O vs c b):vs.length=c.length/\b.length=c.length:=by
 induction h with
 |nil=>exact⟨rfl,rfl⟩
 |dat _ _ a=>exact⟨congrArg Nat.succ a.1,congrArg Nat.succ a.2⟩
 |oth _ _ _ _ a=>exact⟨congrArg Nat.succ a.1,congrArg Nat.succ a.2⟩
 |own _ _ a=>exact⟨congrArg Nat.succ a.1,congrArg Nat.succ a.2⟩
theorem aS.get{K}(h:aS K H O vs d a):∀(i:Nat)  c,d[i]? = some c->∃v f,vs[i]? = some v/\a[i]? = some f/\em K H O v c f:=by
 induction h with
 |nil=>intro i c e;simp at e
 |dat h _ b=>
  intro i c e;cases i with
  |zero=>simp at e;subst e;exact⟨_,_,rfl,rfl,h⟩
  |succ i=>exact b i c (by simpa using e)
 |oth _ _ h _ b=>
  intro i c e;cases i with
  |zero=>simp at e;subst e;exact⟨_,_,rfl,rfl,h⟩
  |succ i=>exact b i c (by simpa using e)
 |own h _ b=>
  intro i c e;cases i with
  |zero=>simp at e;subst e;exact⟨_,_,rfl,rfl,⟨_,rfl,h⟩⟩
  |succ i=>exact b i c (by simpa using e)
theorem aS.mono{K}(h:aS K H O vs d a)(s:aK O H c H):aS K H c vs d a:=by
 induction h with
 |nil=>exact .nil
 |dat h _ b=>exact .dat (DV.mono s.hid h) b
 |oth f g h _ b=>exact .oth f g (h.keep s (fun _ _=>rfl) (fun _ _ _ e=>e)) b
 |own h _ b=>exact .own (h.keep (fun _ _=>rfl) s.hid) b
theorem aZ.mono(h:aZ H O vs d bs a)(s:aK O H c H):aZ H c vs d bs a:=by
 induction h with
 |nil=>exact .nil
 |skip e _ b=>exact .skip e b
 |own h _ b=>exact .own (h.keep (fun _ _=>rfl) s.hid) b
set_option genInjectivity true in
inductive fx where
 |nx (U:ai) |rt (c:aa) (U:ai) |bk (U:ai) |ct (U:ai) |ex (c:Str) (U:ai) |bad
abbrev SM:=ai->fx
def wpS(E:Str->ai->Prop)(m:SM):cZ:=fun D U=>match m U with
 |.nx a=>D.nx a
 |.rt c a=>D.rt c a
 |.bk a=>D.bk a
 |.ct a=>D.ct a
 |.ex c a=>E c a
 |.bad=>False
@[simp]noncomputable def dZ:List aa->ai->Option (List Bx)
 |[],_=>some []
 |.own _ _::a,some (.own true b)::U=>(dZ a U).map (b::·)
 |.own _ _::_,_=>none
 |_::a,_::U=>dZ a U
 |_::_,[]=>none
@[simp] def aW(n N:Nat)(m:SM):FM:=fun a=>if a.length=n then(match m (a.map some++List.replicate (N - n) none) with
 |.nx U=>(match dZ a U with |some o=>.rt (.dat .none) o |none=>.bad)
 |.rt c U=>(match dZ a U with |some o=>.rt c o |none=>.bad)
 |.ex c U=>(match dZ a U with |some o=>.ex c o |none=>.bad)
 |_=>.bad) else .bad
theorem we{α:Type}{l:List α}{x}{r}(h:l.drop k=x::r):l[k]? = some x/\l.drop (k+1)=r:=by
 constructor
 .rw[<-List.head?_drop,h];rfl
 .rw[<-q1l,h];rfl
theorem wg{K:Frag}(st:bV K F H Y U W):∀l  vs  k  g,vs.length=l.length->(∀(i:Nat) io b,l[i]? = some (.own io b)->vs[i]? = some (.ref (F.I₀ (k+i))))->dZ l (U.drop k)=some g->
  ∃j,aZ H (W.flatten++F.O₀) vs l g j/\j.flatten.Sublist (W.drop k).flatten
 |[],[],k,g,_,_,e=>by cases e;exact⟨[],.nil,by simp⟩
 |[],_::_,_,_,m,_,_=>by cases m
 |_::_,[],_,_,m,_,_=>by cases m
 |c::l,v::vs,k,g,m,hI,e=>by
  have p:vs.length=l.length:=q1R m;have t:∀(i:Nat) io b,l[i]? = some (.own io b)->vs[i]? = some (.ref (F.I₀ (k+1+i))):=fun i io b h=>by have:=hI (i+1) io b (by simpa using h);rw[show k+1+i=k+(i+1) by lia];simpa using this
  have y:(W.drop (k+1)).flatten.Sublist (W.drop k).flatten:=by
   cases A:W.drop k with
   |nil=>rw[show W.drop (k+1)=[] from by rw[<-q1l,A];rfl];exact q1M _
   |cons w r=>rw[(we A).2,q0e];exact q2f _ _
  cases hd:U.drop k with
  |nil=>
   rw[hd]at e;cases c with
   |own io b=>cases e
   |dat d=>cases e
   |scr n=>cases e
   |exc n=>cases e
   |vw n=>cases e
  |cons x r=>
   obtain⟨E,G⟩:=we hd;rw[hd]at e;have f:(∀io b,c≠.own io b)->dZ l r=some g->∃j,aZ H (W.flatten++F.O₀) (v::vs) (c::l) g j/\j.flatten.Sublist (W.drop k).flatten:=fun L M=>by obtain⟨j,o,s⟩:=wg st l vs (k+1) g p t (by rw[G];exact M);exact⟨j,.skip L o,s.trans y⟩
   cases c with
   |dat d=>exact f (fun _ _ z=>by cases z) e
   |scr n=>exact f (fun _ _ z=>by cases z) e
   |exc n=>exact f (fun _ _ z=>by cases z) e
   |vw n=>exact f (fun _ _ z=>by cases z) e
   |own io b=>
    cases x with
    |none=>cases e
    |some x=>
     cases x with
     |dat d=>cases e
     |scr n=>cases e
     |exc n=>cases e
     |vw n=>cases e
     |own B N=>
      cases B with
      |false=>cases e
      |true=>
       cases q:dZ l r with
       |none=>simp[dZ,q]at e
       |some O=>
        simp[dZ,q]at e;subst e;obtain⟨j,o,s⟩:=wg st l vs (k+1) O p t (by rw[G];exact q);obtain⟨u,Q,R,C,a,rfl,S⟩:=st.at_ k _ E;have I:=st.io k N E;rw[R]at I;have T:a=F.I₀ k:=by cases I;rfl
        have X:=hI 0 io b rfl;have D:v=.ref a:=by rw[T];simpa using X
        subst D;refine⟨Q::j,.own S o,?_⟩;cases A:W.drop k with
        |nil=>rw[<-List.head?_drop,A]at C;cases C
        |cons w wr=>obtain⟨J,Z⟩:=we A;rw[C]at J;cases J;rw[q0e,q0e];rw[Z]at s;exact q16 (q1M _) s
theorem rW{α:Type}(n):(List.replicate n ([]:List α)).flatten=[]:=by induction n with |zero=>rfl |succ n a=>rw[q1e,q0e,a];rfl
noncomputable def jN(N n:Nat)(a:List aa):ai:=a.map some++List.replicate (N - n) none
noncomputable def nn(vs:List V)(i:Nat):Addr:=match vs[i]? with
 |some (.ref a)=>a
 |_=>0
theorem Nq{K:Frag}(r:aS K H (g.flatten++q) vs j g)(z:(g.flatten++q).Nodup)(live:∀a∈g.flatten++q,∃o,H a=some o/\Mv o)(A:j.length<=N.length) :
  bV K ⟨H,g.flatten,q,nn vs⟩ H (start N vs) (jN N.length j.length j) (g++List.replicate (N.length - j.length) []):=by
 have p:(g++List.replicate (N.length - j.length) ([]:List Addr)).flatten=g.flatten:=by rw[q17,rW,q0B]
 obtain⟨u,y⟩:=r.len;have get:∀(i:Nat) c,(jN N.length j.length j)[i]? = some (some c)->j[i]? = some c:=fun i c e=>by
  unfold jN at e
  by_cases h:i<j.length
  .rw[q0H (by simpa using h),q0s]at e;obtain⟨d,l,n⟩:=q0i.mp e;cases n;exact l
  .rw[q0A (by simpa using q1i h),q1d]at e;split at e<;>cases e
 have put:∀(i:Nat) v,vs[i]? = some v->(start N vs)[i]? = some (some v):=fun i v e=>by unfold start;rw[q0H (by simpa using(q0a.mp e).1),q0s,e];rfl
 refine⟨fun i c e=>?_,by rw[p];exact z,fun _ _ _ h=>h,fun a h=>.inl (by rw[p]at h;exact h),by rw[p];exact live,?_,?_,fun i b e=>?_⟩
 .obtain⟨v,s,l,n,t⟩:=r.get i c (get i c e);exact⟨v,s,put i v l,by rw[q0H (q0a.mp n).1];exact n,by rw[p];exact t⟩
 .unfold jN start;rw[q0u,q0u,q0h,q0h,q03,q03,u]
 .unfold jN;rw[q0u,q0u,q0h,q03,q03,y]
 .obtain⟨v,s,l,n,a,rfl,t⟩:=r.get i _ (get i _ e);rw[put i _ l];show _=some (some (V.ref (nn vs i)));unfold nn;rw[l]
theorem aS.ios{K:Frag}(h:aS K H O vs d c):∀(i:Nat) io b,d[i]? = some (.own io b)->vs[i]? = some (.ref (nn vs (0+i))):=fun i io b e=>by obtain⟨v,j,g,_,a,rfl,_⟩:=h.get i _ e;rw[q1S];unfold nn;rw[g]
theorem wh{K:Frag}{st:Stmt}(Fn:ni K x qual st f fd)(S:ca N ps (cS st))(hN:ps.length<=N.length)
  (a0:∀B  A  u  s  H  E  F  Z,bh k (A.deeper (envOfC qual (cS st) s.heap.objs.size f B))->fc (ic (dt P w) P w K mg base N qual (cS st) f B A u s H E) F Z->
   gP (ic (dt P w) P w K mg base N qual (cS st) f B A u s H E) F (fo st) (wpS Z m)):bU P w K mg base (dt P w) (k+1) f fd ps (fu K mg (aW ps.length N.length m)):=by
 obtain⟨oc,od,kV,a4,pm,an,B,ct,a5,rfl,lk,a1⟩:=Fn.ex;have G:∀vs H Q E,fu K mg (aW ps.length N.length m) vs H Q E->vs.length=ps.length:=fun vs H Q E L=>by
  obtain⟨_,l,y,O₀,M,_,_,q⟩:=L;rw[M.len.1];unfold aW at q
  by_cases h:l.length=ps.length
  .exact h
  .rw[if_neg h]at q;exact q.elim
 refine KM lk a1 S G fun A u s H vs Q E hr O=>?_;have a6:=G vs H Q E O;obtain⟨gh,l,y,O₀,M,nd,live,q⟩:=O;obtain⟨l1,l2⟩:=M.len;have R:l.length=ps.length:=by lia
 let F:Fx:=⟨H,y.flatten,O₀,nn vs⟩
 have T:=Nq (N:=N) M nd live (by lia);have fin:∀{X:St}{j:Hp}{n:ai}{J:List Addr}{fp:List Addr}{g:List Bx},aC K (F.plus fp) j X n J->(∀a∈fp,a∈F.A₀\/F.H₀ a=none)->dZ l n = some g->∃d,aZ j (d.flatten++fp++O₀) vs l g d/\jM H j y.flatten (d.flatten++fp) O₀/\aK J j (d.flatten++fp++O₀) j:=by
  rintro X j n J fp g ⟨W,p,rfl⟩ a2 t;obtain⟨d,o,sb⟩:=wg p l vs 0 g l1 (fun i io b e=>M.ios i io b e) t;have Y:d.flatten.Sublist W.flatten:=sb;have sub:(d.flatten++fp++O₀).Sublist (W.flatten++(fp++O₀)):=by rw[q0t];exact q16 Y (q1M _)
  have D:aK (W.flatten++(fp++O₀)) j (d.flatten++fp++O₀) j:=iS fun a h=>sub.subset h;refine⟨d,o.mono D,⟨p.nd.sublist sub,fun a h=>p.live a (sub.subset (bj _ h)),fun b o hb e=>p.kept b o hb e,fun a h=>?_⟩,D⟩;rcases q0b.mp h with h |h
  .exact p.new a (Y.subset h)
  .exact a2 a h
 have a3:aW ps.length N.length m l=(match m (jN N.length ps.length l) with
  |.nx U=>(match dZ l U with |some o=>.rt (.dat .none) o |none=>.bad)
  |.rt c U=>(match dZ l U with |some o=>.rt c o |none=>.bad)
  |.ex c U=>(match dZ l U with |some o=>.ex c o |none=>.bad)
  |_=>.bad):=by unfold aW jN;rw[if_pos R]
 rw[a3]at q;rw[R]at T;let Z:Str->ai->Prop:=fun c n=>∃g,dZ l n = some g/\∀C j d,mg c=some C->aZ j (d.flatten++O₀) vs l g d->jM H j y.flatten d.flatten O₀->E C none j;refine⟨_,a0 B A u s H E F Z hr (MK (gh.frame fun a h=>live a (bj _ h)) fun c C n X j J I p ⟨g,t,k⟩=>?_),?_⟩
 .obtain⟨d,o,b,_⟩:=fin (fp:=[]) p (fun a h=>by cases h) t;rw[q0B]at o b;exact k C j d I o b
 .refine⟨jN N.length ps.length l,_,⟨fun n=>∃g,dZ l n = some g/\∀j d,aZ j (d.flatten++[]++O₀) vs l g d->jM H j y.flatten (d.flatten++[]) O₀->Q .non j,fun c n=>∃g,dZ l n = some g/\∀v j fp d,em K j (d.flatten++fp++O₀) v c fp->aZ j (d.flatten++fp++O₀) vs l g d->jM H j y.flatten (d.flatten++fp) O₀->Q v j,fun _=>False,fun _=>False⟩,⟨_,T,rfl⟩,?_,?_⟩
  .unfold wpS;cases I:m (jN N.length ps.length l) with
   |nx n=>
    rw[I]at q;cases t:dZ l n with
    |none=>simp[t]at q
    |some g=>simp only[t]at q;exact⟨g,t,fun j d o b=>q .non j [] d .non o b⟩
   |rt c n=>
    rw[I]at q;cases t:dZ l n with
    |none=>simp[t]at q
    |some g=>simp only[t]at q;exact⟨g,t,q⟩
   |ex c n=>
    rw[I]at q;cases t:dZ l n with
    |none=>simp[t]at q
    |some g=>simp only[t]at q;exact⟨g,t,q⟩
   |bk n=>rw[I]at q;exact q
   |ct n=>rw[I]at q;exact q
   |bad=>rw[I]at q;exact q
  .refine⟨fun X j n J p s' ⟨g,t,k⟩=>?_,fun v X j c n J fp r s' ⟨g,t,k⟩=>?_,fun _ _ _ _ _ _ z=>z.elim,fun _ _ _ _ _ _ z=>z.elim⟩
   .obtain⟨d,o,b,_⟩:=fin (fp:=[]) p (fun a h=>by cases h) t;exact k j d o b
   .obtain⟨d,o,b,D⟩:=fin r.st r.new t;exact k v j fp d (r.at_.keep D (fun _ _=>rfl) (fun _ _ _ e=>e)) o b
inductive AX where
 |d (x:PyData) |s (j:Nat)
inductive cT (Y:St) (G:Hp):List V->List AX->Prop where
 |nil:cT Y G [] []
 |d {v:V}{x:PyData}{vs:List V}{as:List AX}:DV G v x->cT Y G vs as->cT Y G (v::vs) (.d x::as)
 |s {v:V}{j:Nat}{vs:List V}{as:List AX}:Y[j]? = some (some v)->cT Y G vs as->cT Y G (v::vs) (.s j::as)
abbrev ip:=ai->(List AX->ai->Prop)->Prop
def AC(t:ip):Prop:=∀U Q a,(∀d b,Q d b->a d b)->t U Q->t U a
def Nr(K:Frag)(F:Fx)(t:ip):TA:=fun Y H Q=>∃U O,aC K F H Y U O/\t U fun as c=>∀vs a b,aC K F a Y c b->aK O H b a->cT Y (al b a) vs as->Q vs a
structure DX (X:Cx) (F:Fx) (es:List Expr) (t:ip):Prop where
 mn:AC t
 pa:PA X es (Nr X.K F t)
def Nt:ip:=fun U Q=>Q [] U
def Nu(te:DT)(t:ip):ip:=fun U Q=>te U fun d a=>t a fun as b=>Q (.d d::as) b
def Nv(j:Nat)(t:ip):ip:=fun U Q=>(∃c,U[j]? = some (some c))/\t U fun as a=>Q (.s j::as) a
theorem Nw:DX X F [] Nt:=⟨fun _ _ _ k q=>k _ _ q,eM.imp fun Y H Q a=>by obtain⟨U,O,st,q⟩:=a;exact q [] H O st .refl .nil⟩
theorem Nx(b:DE X F e te)(c:DX X F es tX)(m:autoParam (starEach (e::es) X.env=(false,eval e X.env)::starEach es X.env) Zq._auto_1):DX X F (e::es) (Nu te tX):=
 ⟨fun _ _ _ k q=>b.mn _ _ _ (fun _ _ f=>c.mn _ _ _ (fun _ _ g=>k _ _ g) f) q,(dO b.pe c.pa m).imp fun Y H Q a=>by obtain⟨U,O,st,q⟩:=a;exact 
  ⟨U,O,st,b.mn _ _ _ (fun d n f v y o h r s=>⟨n,o,h,c.mn _ _ _ (fun as z g vs t u i l w=>g (v::vs) t u i (r.trans l) (.d (DV.mono l.hid s) w)) f⟩) q⟩⟩
theorem Ny(l:PE X (.Name x p) (bQ j))(d:DX X F es tX)(m:autoParam (starEach (.Name x p::es) X.env=(false,eval (.Name x p) X.env)::starEach es X.env) Zq._auto_1):DX X F (.Name x p::es) (Nv j tX):=
 ⟨fun _ _ _ k a=>by obtain⟨h,q⟩:=a;exact⟨h,d.mn _ _ _ (fun _ _ f=>k _ _ f) q⟩,(dO l d.pa m).imp fun Y H Q b=>by
  obtain⟨U,O,st,⟨c,n⟩,q⟩:=b;obtain⟨W,h,rfl⟩:=id st;obtain⟨v,w,i,y,z⟩:=h.at_ j c n;exact⟨v,i,U,_,st,d.mn _ _ _ (fun as A f vs o r g t u=>f (v::vs) o r g t (.s i u)) q⟩⟩
@[simp]noncomputable def gQ(U:ai):List AX->Option (List aa×List (Nat×Bool))
 |[]=>some ([],[])
 |.d x::as=>(match gQ U as with |some (e,a)=>some (.dat x::e,a) |none=>none)
 |.s j::as=>(match gQ U as with
  |some (e,a)=>(match U[j]? with
   |some (some (.own io b))=>if a.any (fun p=>p.1==j) then none else some (.own true b::e,(j,io)::a)
   |some (some c)=>some (c::e,a)
   |_=>none)
  |none=>none)
@[simp]noncomputable def gz:List (Nat×Bool)->ai->ai
 |[],U=>U
 |(j,_)::r,U=>(gz r U).set j none
@[simp]noncomputable def dk:List (Nat×Bool)->List Bx->ai->ai
 |(j,io)::r,b::bs,U=>dk r bs (U.set j (some (.own io b)))
 |_,_,U=>U
theorem AD:(gz a U).length=U.length:=by
 induction a with
 |nil=>rfl
 |cons p r b=>obtain⟨j,io⟩:=p;rw[gz,q0w,b]
theorem Nz(h:∀p∈a,p.1≠i):(gz a U)[i]? = U[i]?:=by
 induction a with
 |nil=>rfl
 |cons p r b=>obtain⟨j,io⟩:=p;rw[gz,q0r (h (j,io) q0g),b fun q c=>h q (bG _ c)]
inductive fy (Y:St) (F:Fx) (n:Nat):List V->List aa->List (Nat×Bool)->Prop where
 |nil:fy Y F n [] [] []
 |skip {v:V}{c:aa}{vs:List V}{cs:List aa}{js:List (Nat×Bool)}:(∀io b,c≠.own io b)->fy Y F n vs cs js->fy Y F n (v::vs) (c::cs) js
 |own {a:Addr}{io:Bool}{b:Bx}{j:Nat}{vs:List V}{cs:List aa}{js:List (Nat×Bool)}:Y[j]? = some (some (.ref a))->(io=true->a=F.I₀ j)->j<n->fy Y F n vs cs js->fy Y F n (.ref a::vs) (.own true b::cs) ((j,io)::js)
section
variable{K:Frag}{F:Fx}{H H':Hp}{Y:St}{U:ai}{O O':List Addr}
theorem wj(st:aC K F H Y U O):∀as  vs  r  t,gQ U as=some (r,t)->cT Y (al O H) vs as->
  ∃f O',aC K (F.plus f.flatten) H Y (gz t U) O'/\aS K H O' vs r f/\aK O H O' H/\aK O' H O H/\(∀a∈f.flatten,a∈F.A₀\/F.H₀ a=none)/\fy Y F U.length vs r t
 |[],vs,r,t,e,h=>by cases e;cases h;refine⟨[],O,st,.nil,.refl,.refl,?_,.nil⟩;intro a h;cases h
 |.d x::as,vs,r,t,e,h=>by
  cases h with
  |d w G=>
   unfold gQ at e;cases q:gQ U as with
   |none=>rw[q]at e;cases e
   |some p=>obtain⟨k,g⟩:=p;rw[q]at e;simp only[q0N,Prod.mk.injEq]at e;obtain⟨Z,e2⟩:=e;obtain⟨f,O',l,o,m,B,C,D⟩:=wj st as _ k g q G;subst Z e2;exact⟨[]::f,O',l,.dat (DV.mono m.hid w) o,m,B,C,.skip (fun _ _ z=>by cases z) D⟩
 |.s j::as,vs,r,t,e,h=>by
  cases h with
  | @s v _ vs _ w G=>
   unfold gQ at e;cases q:gQ U as with
   |none=>rw[q]at e;cases e
   |some p=>
    obtain⟨k,g⟩:=p;rw[q]at e;obtain⟨f,O',l,o,m,B,C,D⟩:=wj st as _ k g q G;cases u:U[j]? with
    |none=>rw[u]at e;cases e
    |some oc=>
     cases oc with
     |none=>rw[u]at e;cases e
     |some c=>
      rw[u]at e;obtain⟨W,I,J⟩:=id st;obtain⟨E,a0,Q,h2,y⟩:=I.at_ j c u;rw[w]at Q;have L:E = v:=by cases Q;rfl
      subst L;rw[<-J]at y;have other:(∀io b,c≠.own io b)->∃f O',aC K (F.plus f.flatten) H Y (gz g U) O'/\aS K H O' (E::vs) (c::k) f/\aK O H O' H/\aK O' H O H/\(∀a∈f.flatten,a∈F.A₀\/F.H₀ a=none)/\fy Y F U.length (E::vs) (c::k) g:=fun R=>by
       refine⟨[]::f,O',l,?_,m,B,C,.skip R D⟩;cases c with
       |dat d=>exact .dat (DV.mono m.hid y) o
       |own io b=>exact absurd rfl (R io b)
       |scr ns=>exact .oth (fun _ z=>by cases z) (fun _ _ z=>by cases z) (em.keep (c:=.scr ns) (fp:=[]) y m (fun _ _=>rfl) (fun _ _ _ e=>e)) o
       |exc n=>exact .oth (fun _ z=>by cases z) (fun _ _ z=>by cases z) (em.keep (c:=.exc n) (fp:=[]) y m (fun _ _=>rfl) (fun _ _ _ e=>e)) o
       |vw n=>exact .oth (fun _ z=>by cases z) (fun _ _ z=>by cases z) (em.keep (c:=.vw n) (fp:=[]) y m (fun _ _=>rfl) (fun _ _ _ e=>e)) o
      cases c with
      |dat d=>simp only[q0N,Prod.mk.injEq]at e;rw[<-e.1,<-e.2];exact other (fun _ _ z=>by cases z)
      |scr ns=>simp only[q0N,Prod.mk.injEq]at e;rw[<-e.1,<-e.2];exact other (fun _ _ z=>by cases z)
      |exc n=>simp only[q0N,Prod.mk.injEq]at e;rw[<-e.1,<-e.2];exact other (fun _ _ z=>by cases z)
      |vw n=>simp only[q0N,Prod.mk.injEq]at e;rw[<-e.1,<-e.2];exact other (fun _ _ z=>by cases z)
      |own io b=>
       by_cases M:g.any (fun p=>p.1==j)=true
       .simp only[if_pos M]at e;cases e
       .simp only[if_neg M,q0N,Prod.mk.injEq]at e;rw[<-e.1,<-e.2];have N:∀p∈g,p.1≠j:=fun p hp z=>M (List.any_eq_true.mpr ⟨p,hp,by simp[z]⟩);obtain⟨a,fp,O2,S,T,t3,X,t5,t6,t7⟩:=l.take (i:=j) (io:=io) (b:=b) (by rw[Nz N];exact u);rw[w]at S;have L:E = .ref a:=by cases S;rfl
        subst L;rw[Fx.plus_plus]at T;refine⟨fp::f,O2,T,.own t3 (o.mono X),m.trans X,t5.trans B,fun x A=>?_,.own w t7 (q0a.mp u).1 D⟩;rcases q0b.mp A with A |A
        .exact t6 x A
        .exact C x A
theorem AE(t:fy Y F n vs m o):∀{d e U O},U.length=n->aC K (F.plus (e.flatten++fp)) H Y U O->aZ H O vs m d e->(∀a∈e.flatten,a∈F.A₀\/F.H₀ a=none)->
  ∃O',aC K (F.plus fp) H Y (dk o d U) O'/\aK O H O' H:=by
 induction t with
 |nil=>intro d e U O h st f k;cases f;exact⟨O,st,.refl⟩
 |skip g _ p=>
  intro d e U O h st f k;cases f with
  |skip _ f=>exact p h st f k
  |own _ _=>exact absurd rfl (g _ _)
 | @own a io b j vs m o u A B t p=>
  intro d e U O h st f k;cases f with
  |skip g _=>exact absurd rfl (g _ _)
  | @own _ _ _ C f1 _ _ bs D hb f=>
   have q:aC K ((F.plus (D.flatten++fp)).plus f1) H Y U O:=by rw[Fx.plus_plus,<-q0t];exact st
   obtain⟨J,l,w⟩:=aC.put1 (io:=true) (c:=.own io C) (v:=.ref a) (i:=j) q ⟨a,rfl,hb⟩ (fun x r=>k x (by rw[q0e];exact bj _ r)) (by rw[h];exact B) (fun b z=>by cases z;rw[A rfl];rfl);have E:Y.set j (some (.ref a))=Y:=by
    apply q0U;intro i
    by_cases y:i=j
    .subst y;rw[q0q (q0a.mp u).1,u]
    .rw[q0r (Ne.symm y)]
   rw[E]at l;obtain⟨G,s,I⟩:=p (by rw[q0w];exact h) l (f.mono w) (fun x r=>k x (by rw[q0e];exact bf _ r));exact⟨G,s,w.trans I⟩
end
def gR(f:FM)(E:Str->ai->Prop)(Q:aa->ai->Prop)(as:List AX)(U:ai):Prop:=match gQ U as with
 |some (d,b)=>(match f d with
  |.rt c a=>Q c (dk b a (gz b U))
  |.ex c a=>E c (dk b a (gz b U))
  |.bad=>False)
 |none=>False
def wl(f:FM)(E:Str->ai->Prop)(t:ip):im:=fun U Q=>t U fun as a=>gR f E Q as a
theorem NA(h:∀c d,Q c d->b c d)(q:gR f E Q as U):gR f E b as U:=by
 unfold gR at q ⊢;split
 .rename_i i j e;rw[e]at q;simp only at q;split
  .rename_i a;rw[a]at q;exact h _ _ q
  .rename_i a;rw[a]at q;exact q
  .rename_i a;rw[a]at q;exact q
 .rename_i e;rw[e]at q;exact q
theorem rX{Y:St}(hx:fc X F E)(G:bU X.prog X.w X.K X.mg X.base (dt X.prog X.w) k g fd ps (fu X.K X.mg f))(hr:bh k X.A)(hb:gL X.K fd ps [])
  (I:Inv X m Y H s) (r:bp vs us) (st:aC X.K F H Y U O) (ax:cT Y (al O H) vs as) (q:gR f E QC as U) (hQ:∀c L,QC c L->∀v b S M,gy X.K F b Y L S v c M->aK O H S b->Q v b) :
  wpAny (model X.prog X.w) X.A (call (.ref g) us) (EP X m Y Q) X.xe s:=by
 unfold gR at q;cases hc:gQ U as with
 |none=>rw[hc]at q;exact q.elim
 |some p=>
  obtain⟨cs,js⟩:=p;rw[hc]at q;simp only at q;obtain⟨i,O2,T,ar,s1,a6,nw,ja⟩:=wj st as vs cs js hc ax;obtain⟨W,y,Z⟩:=id T;have a2:(W.flatten++(i.flatten++F.O₀)).Nodup:=y.nd;have l:∀a,a∈O2↔a∈i.flatten++(W.flatten++F.O₀):=fun a=>by
   rw[Z];show a∈W.flatten++(i.flatten++F.O₀)↔_;simp only[q0b];constructor
   .rintro(h |h |h)<;>simp[h]
   .rintro(h |h |h)<;>simp[h]
  have perm:(i.flatten++(W.flatten++F.O₀)).Perm (W.flatten++(i.flatten++F.O₀)):=by rw[<-q0t,<-q0t];exact q2w _ List.perm_append_comm
  have a0:(i.flatten++(W.flatten++F.O₀)).Nodup:=perm.nodup_iff.mpr a2;have a3:aK O2 H (i.flatten++(W.flatten++F.O₀)) H:=iS fun a h=>(l a).mpr h;have N:∀(b:Hp) (n:List Addr) (a:Addr),(a∈n++(W.flatten++F.O₀))->a∈n\/(a∈O2/\a∉i.flatten):=fun b n a h=>by
   rcases q0b.mp h with h |h
   .exact .inl h
   .refine .inr ⟨(l a).mpr (bf _ h),fun z=>?_⟩;exact(q0f.mp a0).2.2 a z a h rfl
  have j:∀(b:Hp) (n:List Addr),jM H b i.flatten n (W.flatten++F.O₀)->∃B,aC X.K (F.plus n) b Y (gz js U) B/\aK O2 H B b/\∀a,a∈B↔a∈n++(W.flatten++F.O₀):=fun b n t=>by
   obtain⟨B,t1,t2,t3,t4,t5⟩:=T.swap (H':=b) (L':=n) t.keep (q0f.mp t.nd).1 t.new nw t.live;refine⟨B,t1,t2,fun a=>⟨fun h=>?_,fun h=>?_⟩⟩
   .rcases t4 a h with z |⟨z1,z2⟩
    .exact bj _ z
    .rcases q0b.mp ((l a).mp z1) with z |z
     .exact absurd z z2
     .exact bf _ z
   .rcases N b n a h with z |⟨z1,z2⟩
    .exact t3 a z
    .exact t5 a z1 z2
  have r2:bp (vs++[]) (us++[]):=by rw[q0B,q0B];exact r
  let EX:XK:=fun C _ b=>∃c L S,X.mg c=some C/\aC X.K F b Y L S/\E c L;have sp:fu X.K X.mg f vs H Q EX:=by
   refine⟨hx.1.at st,cs,i,W.flatten++F.O₀,ar.mono a3,a0,fun a h=>?_,?_⟩
   .exact y.live a (by have:=(l a).mpr h;rw[Z]at this;exact this)
   .cases hf:f cs with
    |bad=>rw[hf]at q;exact q
    |rt c a1=>
     rw[hf]at q;simp only at q ⊢;intro v b M d a4 R t;obtain⟨B,t1,t2,t3⟩:=j b (d.flatten++M) t;have D:aK (d.flatten++M++(W.flatten++F.O₀)) b B b:=iS fun a h=>(t3 a).mp h;have J:∀a∈d.flatten++M,a∈F.A₀\/F.H₀ a=none:=fun a h=>by
      rcases t.new a h with z |z
      .exact nw a z
      .by_cases hA:a∈F.A₀
       .exact .inl hA
       .refine .inr ?_;cases e:F.H₀ a with
        |none=>rfl
        |some o=>have:=y.kept a o hA e;rw[z]at this;cases this
     have lj:(gz js U).length=U.length:=AD;obtain⟨O4,u1,u2⟩:=AE (fp:=M) ja lj t1 (R.mono D) fun a h=>J a (bj _ h);exact hQ c _ q v b O4 M ⟨u1,a4.keep (D.trans u2) (fun _ _=>rfl) (fun _ _ _ e=>e),fun a h=>J a (bf _ h)⟩ (s1.trans (t2.trans u2))
    |ex c a1=>
     rw[hf]at q;simp only at q ⊢;intro C b d hm R t;obtain⟨B,t1,t2,t3⟩:=j b d.flatten t;have D:aK (d.flatten++(W.flatten++F.O₀)) b B b:=iS fun a h=>(t3 a).mp h;have J:∀a∈d.flatten,a∈F.A₀\/F.H₀ a=none:=fun a h=>by
      rcases t.new a h with z |z
      .exact nw a z
      .by_cases hA:a∈F.A₀
       .exact .inl hA
       .refine .inr ?_;cases e:F.H₀ a with
        |none=>rfl
        |some o=>have:=y.kept a o hA e;rw[z]at this;cases this
     have lj:(gz js U).length=U.length:=AD;obtain⟨O4,u1,u2⟩:=AE (fp:=[]) ja lj (by rw[q0B];exact t1) (R.mono D) J;exact⟨c,_,O4,hm,u1,q⟩
  have hl:(us++[]).length=ps.length:=by rw[q0B,<-r.length];exact G.len _ _ _ _ sp
  refine wpAny_call (codeAny_mono (G.run X.A X.stack s H ⟨us,[]⟩ us vs Q EX hr I.env0 (by have:=hb s us I.kIn hl;rw[q0B]at this;exact this) r sp) fun r s' hq=>?_);cases r with
  |error e=>obtain⟨a,C,b,e1,I',cv,ex,c,L,S,hm,a5,hE⟩:=I.flies hq;exact hx.2 m Y b s' e c L S ⟨I',a,C,s.heap,_,e1,cv,ex,hm⟩ a5 hE
  |ok fl=>
   cases fl with
   |ret u=>exact I.after hq
   |next=>exact False.elim hq
   |brk=>exact False.elim hq
   |cont=>exact False.elim hq
theorem NB{pos:Pos}{p:Pos}(N:fc X F E)(G:bU X.prog X.w X.K X.mg X.base (dt X.prog X.w) k g fd ps (fu X.K X.mg f))(R:bh k X.A)(S:Gl X x)(T:X.mg x=some (.ref g))(Z:keepIn X.K (.ref g)=true)(hb:gL X.K fd ps [])
  (t:DX X F (e::es) tX) (u:autoParam ((x==("__debug__":Str))=false) Zr._auto_1) (he:autoParam (starEach (e::es) X.env=(false,eval e X.env)::starEach es X.env) Zq._auto_1) (y:autoParam ((backTo pos (starEach es X.env)).any (·.1)=false) Zq._auto_1) :
  DO X F (.Call (.Name x p) (e::es) [] pos) (wl f E tX):=by
 refine⟨fun U Q Q' k q=>t.mn _ _ _ (fun as b i=>NA k i) q,fun j s Y H Q I l=>?_⟩;obtain⟨U,O,st,q⟩:=l;refine wpAny_Call_Name_kw (mZ I S T ?_ u);refine q1D (h₀:=X.base) I.ok.mod.kin Z (aL (t.pa pos j s Y H (fun vs m=>∃as b d,aC X.K F m Y b d/\aK O H d m/\cT Y (al d m) vs as/\gR f E (fun c J=>∀v n o z,gy X.K F n Y J o v c z->aK O H o n->Q v n) as b) I ⟨U,O,st,t.mn _ _ _ (fun as b i vs m d a L B=>⟨as,b,d,a,L,B,i⟩) q⟩) fun us L M=>⟨by obtain⟨_,_,C,_⟩:=M;exact C.kIn,?_⟩) he y;obtain⟨vs,m,C,r,as,b,d,a,D,B,i⟩:=M;exact rX N G R hb C r a B i fun c J h v n o z res s2=>h v n o z res (D.trans s2)
def jO(H:Hp)(O:List Addr):Prop:=∀a∈O,∃o,H a=some o/\Mv o
theorem jO.nofree(h:jO H O):∀p,H p=none->p∉O:=fun p a z=>by obtain⟨o,e,_⟩:=h p z;rw[a]at e;cases e
theorem aC.live{K}(st:aC K F H Y U O):jO H O:=by obtain⟨W,h,rfl⟩:=st;exact h.live
abbrev dJ:=ai->(List PyData->ai->Prop)->Prop
def Wk(O:List Addr)(H:Hp)(J:It)(c:List PyData):Prop:=∀e b,aK O H e b->jO b e->
 (∀i d,c[i]? = some d->J.go i b/\∀x a,J.yld i b x a->bP b a/\DV (al e a) x d)/\J.stop c.length b
def nq(K:Frag)(F:Fx)(s:dJ):TI:=fun Y H R=>∃U O,aC K F H Y U O/\s U fun b d=>∀J a c,aC K F a Y d c->aK O H c a->Wk c a J b->R J a
structure DI (X:Cx) (F:Fx) (tg iter:Expr) (s:dJ):Prop where
 mn:∀U Q Q',(∀d U',Q d U'->Q' d U')->s U Q->s U Q'
 pi:PI X tg iter (nq X.K F s)
theorem _root_.L2.PI.imp(h:PI X b e t)(k:∀Y H Q,t' Y H Q->t Y H Q):PI X b e t':=fun a s Y H Q I q=>h a s Y H Q I (k Y H Q q)
def iL(te:DT):dJ:=fun U Q=>te U fun d f=>∃c,d=.list c/\Q c f
def iT(te:DT):dJ:=fun U Q=>te U fun d f=>∃c,d=.tuple c/\Q c f
theorem NC{K}(m:al O H a=some (.lst c))(hd:aO (al O H) c l):Wk O H (vo K a) l:=fun w y s ok=>by obtain⟨n,o⟩:=dH m;have g:=s.keep a _ o n;have j:=aO.mono s.hid hd;refine⟨fun i d e=>?_,⟨c,.of g,by rw[hd.length];exact be _⟩⟩;obtain⟨v,k,q⟩:=j.get e;refine⟨⟨c,v,.of g,k⟩,fun x r f=>?_⟩;obtain⟨t,u⟩:=f;subst t;have:=u c (.of g);rw[k]at this;cases this;exact⟨fun _ _ h=>h,q⟩
theorem ND{K}(q:Rd (al O H) a (.tup c))(hd:aO (al O H) c n):Wk O H (rB K a) n:=fun A r s ok=>by
 obtain⟨t,l⟩:=gM q;have j:Rd r a (.tup c):=t.imp (fun e=>s.keep a _ l e) fun f=>by obtain⟨o,e⟩:=f;exact⟨o,s.keep a _ l e⟩
 have k:=aO.mono s.hid hd;refine⟨fun i d e=>?_,⟨c,.inl j,by rw[hd.length];exact be _⟩⟩;obtain⟨v,m,u⟩:=k.get e;refine⟨⟨c,v,.inl j,m⟩,fun x w g=>?_⟩;obtain⟨y,z⟩:=g;subst y;have:=z c (.inl j);rw[m]at this;cases this;exact⟨fun _ _ h=>h,u⟩
theorem NE(h:DE X F e te):DI X F tg e (iL te):=
 ⟨fun _ _ _ k q=>h.mn _ _ _ (fun _ _ c=>by obtain⟨l,e,q⟩:=c;exact⟨l,e,k _ _ q⟩) q,(JU h.pe).imp fun Y H R f=>by obtain⟨U,O,st,q⟩:=f;exact 
  ⟨U,O,st,h.mn _ _ _ (fun d u g v m n i o r=>by
   obtain⟨l,e,s⟩:=g;subst e;obtain⟨a,t,rfl,j,hd⟩:=r.lst_inv;exact⟨a,rfl,⟨t,.of (dH j).1⟩,s _ m n i o (NC j hd)⟩) q⟩⟩
theorem NF(h:DE X F e te):DI X F tg e (iT te):=
 ⟨fun _ _ _ k q=>h.mn _ _ _ (fun _ _ c=>by obtain⟨l,e,q⟩:=c;exact⟨l,e,k _ _ q⟩) q,(zl h.pe).imp fun Y H R f=>by obtain⟨U,O,st,q⟩:=f;exact 
  ⟨U,O,st,h.mn _ _ _ (fun d u g v m n i o r=>by
   obtain⟨l,e,s⟩:=g;subst e;obtain⟨a,t,rfl,j,hd⟩:=r.tup_inv;exact⟨a,rfl,⟨t,.inl (gM j).1⟩,s _ m n i o (ND j hd)⟩) q⟩⟩
noncomputable def intsFrom(lo:Int)(n:Nat):List PyData:=(List.range n).map fun(i:Nat)=>PyData.int (lo+i)
theorem rY(lo n):(intsFrom lo n).length=n:=by unfold intsFrom;rw[q0h,q2j]
theorem AF{lo}:Wk O H (oG lo n) (intsFrom lo n):=fun r t s ok=>by refine⟨fun i d e=>?_,by show n<=(intsFrom lo n).length;rw[rY];exact be _⟩;unfold intsFrom at e;rw[q0s]at e;obtain⟨j,k,l⟩:=q0i.mp e;obtain⟨c,g⟩:=q0a.mp k;rw[q2j]at c;rw[List.getElem_range]at g;subst g l;exact⟨c,fun x m f=>by obtain⟨o,q⟩:=f;subst o q;exact⟨fun _ _ h=>h,.int _⟩⟩
def AG(t:dI):dJ:=fun U Q=>t U fun d c=>∃j:Int,d=[.int j]/\-(2 ^ 62)<=j/\j<2 ^ 62/\Q (intsFrom 0 j.toNat) c
theorem nr(n:Gl X "range")(o:X.mg "range" = none)(h:DA X F [a] tA)(s:autoParam (starEach [a] X.env=[(false,eval a X.env)]) Zq._auto_1):DI X F tg (.Call (.Name "range" p) [a] [] pos) (AG tA):=
 ⟨fun _ _ _ k q=>h.mn _ _ _ (fun _ _ c=>by obtain⟨j,e,i,l,q⟩:=c;exact⟨j,e,i,l,k _ _ q⟩) q,(JX n o h.pa s).imp fun Y H R f=>by obtain⟨U,O,st,q⟩:=f;exact 
  ⟨U,O,st,h.mn _ _ _ (fun z y g vs t u m v w=>by
   obtain⟨j,e,i,l,x⟩:=g;subst e;cases w with
   |cons d r=>
    cases r;obtain rfl:=d.int_inv;exact⟨j,rfl,i,l,x _ t u m v AF⟩) q⟩⟩
noncomputable def numbered(c:List PyData):List PyData:=c.mapIdx fun i d=>PyData.tuple [.int i,d]
def NG(s:dJ)(g:er)(c:cZ):cZ:=fun D U=>s U fun a e=>∃b:Nat->ai->Prop,b 0 e/\(∀i d U,a[i]? = some d->b i U->g d U fun f=>c { D with nx:=b (i+1),ct:=b (i+1),bk:=D.nx } f)/\∀U,b a.length U->D.nx U
theorem NH(hp:PassesOwn (model X.prog X.w) X.A X.env X.xe)(hc:X.calm=true)(hi:DI X F tg iter s)(hg:DG X F tg g)(hb:gP X F body tb)(hs:autoParam (∀x,foldedSetIterable iter X.env x=pure x) Zs._auto_1):DS X F (.For tg iter body [] pos) (NG s g tb):=
 (Kb hp hc hi.pi hg.pg hb hs).imp fun D Y H y=>by
  obtain⟨U,O,DD,st,q,f⟩:=y;refine⟨U,O,st,hi.mn _ _ _ (fun a U1 z J M B Q R wk=>?_) q⟩;obtain⟨N,i0,step,fin⟩:=z;refine⟨fun i m S C=>∃l u,aC X.K F C S l u/\aK B M u C/\N i l/\i<=a.length/\m=a.length - i,⟨a.length,U1,B,Q,.refl,i0,q0T _,rfl⟩,?_⟩;rintro i m S C ⟨l,u,n,T,iv,a3,rfl⟩;obtain⟨w1,w2⟩:=wk u C T n.live
  by_cases o:i<a.length
  .obtain⟨go,yld⟩:=w1 i a[i] (q0j o);refine .inr ⟨go,fun Y2 E=>∃c p,aC X.K F E Y2 c p/\aK B M p E/\N (i+1) c,fun Y2 E G=>by obtain⟨c,p,Z,s2,a0⟩:=G;exact⟨a.length - (i+1),by lia,c,p,Z,s2,a0,o,rfl⟩,fun x E hy=>?_⟩;obtain⟨sm,dv⟩:=yld x E hy;refine⟨l,u,a[i],n.grow sm,dv,hg.mn _ _ _ _ (fun c q2 Y3 H3 O3 a1 s3=>?_) (step i a[i] l (q0j o) iv)⟩;have r:aK B M O3 H3:=T.trans ((aK.same sm).trans s3);have I:∀t h j k,aC X.K F h t j k->aK O3 H3 k h->N (i+1) j->∃c p,aC X.K F h t c p/\aK B M p h/\N (i+1) c:=fun t h j k b s4 L=>⟨j,k,b,r.trans s4,L⟩
   exact⟨c,O3,_,a1,q2,⟨I,fun v t h d j k a2 b s4 L=>f.rt v t h d j k a2 b (R.trans (r.trans s4)) L,fun t h j k b s4 L=>f.nx t h j k b (R.trans (r.trans s4)) L,I⟩⟩
  .have e:i=a.length:=by lia
   subst e;exact .inl ⟨w2,f.nx S C l u n (R.trans T) (fin l iv)⟩
def NJ(c:cx)(f:cZ):cZ:=fun D U=>∃(d:ai->Prop) (μ:ai->Nat),d U/\∀U,d U->c U fun b e=>if b=true then f { D with nx:=fun a=>d a/\μ a<μ U,ct:=fun a=>d a/\μ a<μ U,bk:=D.nx } e else D.nx e
theorem NK(Q:PassesOwn (model X.prog X.w) X.A X.env X.xe)(I:DB X F c tc)(hb:gP X F body tb):DS X F (.While c body [] pos) (NJ tc tb):=
 (JO Q I.pt hb).imp fun D Y H n=>by
  obtain⟨U,O,DD,st,⟨s,μ,R,step⟩,f⟩:=n;refine⟨fun m J y=>∃g t,aC X.K F y J g t/\aK O H t y/\s g/\m=μ g,⟨μ U,U,O,st,.refl,R,rfl⟩,?_⟩;rintro m J y ⟨g,t,z,u,S,rfl⟩;refine⟨g,t,z,I.mn _ _ _ (fun b T L Z M o x=>?_) (step g S)⟩;cases b with
  |false=>exact ei (f.nx _ _ _ _ o (u.trans x) (kD L))
  |true=>
   refine ej ⟨fun N B=>∃e k,aC X.K F B N e k/\aK O H k B/\s e/\μ e<μ g,fun N B p=>by obtain⟨e,k,C,s2,E,lt⟩:=p;exact⟨μ e,lt,e,k,C,s2,E,rfl⟩,?_⟩;have q:∀l h i j,aC X.K F h l i j->aK M Z j h->(s i/\μ i<μ g)->∃e k,aC X.K F h l e k/\aK O H k h/\s e/\μ e<μ g:=fun l h i j a s4 r=>⟨i,j,a,u.trans (x.trans s4),r⟩
   exact⟨T,M,_,o,kC L,⟨q,fun v l h d i j G a s4 r=>f.rt v l h d i j G a (u.trans (x.trans s4)) r,fun l h i j a s4 r=>f.nx l h i j a (u.trans (x.trans s4)) r,q⟩⟩
@[simp]noncomputable def pA:Option (Option aa)->Option aa
 |some (some (.dat d))=>some (.dat d)
 |some (some (.scr ns))=>some (.scr ns)
 |some (some (.vw b))=>some (.vw b)
 |_=>none
def fz(own:List Str)(a:List Nat)(U:ai):ai:=own.map (fun _=>none)++a.map fun j=>pA U[j]?
def rZ(own:List Str)(f:List Nat)(s:dJ)(g:er)(l:cx)(m:DT):DT:=fun U Q=>s U fun c j=>∃e:Nat->List PyData->ai->Prop,e 0 [] (fz own f j)/\
 (∀i d a h,c[i]? = some d->e i a h->g d h fun n=>l n fun b k=>if b=true then m k fun y o=>a.length<sizeLine/\e (i+1) (a++[y]) o else e (i+1) a k)/\
 ∀a h,e c.length a h->a.length<=sizeLine/\Q (.list a) j
def jP(s:dJ):Prop:=∀U Q a,(∀d b,Q d b->a d b)->s U Q->s U a
theorem NL(e:jP s):Mn (rZ own caps s g tc te):=fun _ _ _ k q=>e _ _ _ (fun _ _ a=>by obtain⟨f,i,j,b⟩:=a;exact⟨f,i,j,fun c d h=>⟨(b c d h).1,k _ _ (b c d h).2⟩⟩) q
theorem wm{P:aa->V->Prop}(d:∀j∈caps,∀c,f j=some c->∃v,Y[j]? = some (some v)/\P c v){i:Nat}(e:(own.map (fun _=>none)++caps.map f)[i]? = some (some c)):∃v,(fW own caps Y)[i]? = some (some v)/\P c v:=by
 unfold fW
 by_cases a:i<own.length
 .rw[q0H (by simpa using a),q0s]at e;cases h:own[i]? with
  |none=>rw[h]at e;cases e
  |some y=>rw[h]at e;cases e
 .rw[q0A (by simpa using q1i a),q0h,q0s]at e;rw[q0A (by simpa using q1i a),q0h,q0s];obtain⟨j,b,k⟩:=q0i.mp e;obtain⟨v,l,m⟩:=d j (q0G b) c k;rw[b];exact⟨v,by show some ((Y[j]?).getD none)=_;rw[l];rfl,m⟩
abbrev se(K:Frag)(H:Hp)(O:List Addr)(c:aa)(v:V):Prop:=(∀io b,c≠.own io b)/\em K H O v c []
theorem AH{K:Frag}(h:aC K F m Y f n)(j:Nat)(c)(a:pA f[j]? = some c):∃v,Y[j]? = some (some v)/\se K m n c v:=by
 obtain⟨W,i,rfl⟩:=id h;cases e:f[j]? with
 |none=>rw[e]at a;cases a
 |some o=>
  cases o with
  |none=>rw[e]at a;cases a
  |some p=>
   rw[e]at a;obtain⟨v,q,k,_,l⟩:=i.at_ j p e;cases p with
   |dat d=>cases a;exact⟨v,k,(fun _ _ z=>by cases z),l⟩
   |scr ns=>cases a;exact⟨v,k,(fun _ _ z=>by cases z),l⟩
   |own _ _=>cases a
   |exc _=>cases a
   |vw b=>cases a;exact⟨v,k,(fun _ _ z=>by cases z),l⟩
theorem AI{K:Frag}(l:∀j∈caps,∀c,f j=some c->∃v,Y[j]? = some (some v)/\se K d L c v)(q:L.Nodup)(m:jO d L):aC K ⟨d,[],L,fun _=>0⟩ d (fW own caps Y) (own.map (fun _=>none)++caps.map f) L:=by
 have k:(List.replicate (own.map (fun _=>none)++caps.map f).length ([]:List Addr)).flatten++L=L:=by rw[rW];rfl
 refine⟨List.replicate (own.map (fun _=>none)++caps.map f).length [],⟨fun i c e=>?_,by show(_++L).Nodup;rw[k];exact q,fun _ _ _ h=>h,fun a h=>?_,by show jO d (_++L);rw[k];exact m,by unfold fW;simp,by simp,fun i b e=>?_⟩,k.symm⟩
 .obtain⟨v,o,_,p⟩:=wm l e;refine⟨v,[],o,?_,by show em K d (_++L) v c [];rw[k];exact p⟩;rw[q1d,if_pos (q0a.mp e).1]
 .rw[rW]at h;cases h
 .obtain⟨_,_,n,_⟩:=wm l e;exact absurd rfl (n true b)
abbrev pB(K:Frag)(f:Fx)(a:List PyData)(h:Nat->List PyData->ai->Prop):Nat->Nat->List V->St->Hp->Prop:=fun i m j k b=>∃c d e,aC K f b k c d/\h i e c/\aO (al d b) j e/\i<=a.length/\m=a.length - i
theorem wn{K:Frag}{r:Fx->Prop}(w:r h)(R:∀d U Q L,(∀c,Q c->L c)->g d U Q->g d U L)(S:ik tc)(T:Mn te)
  (step:∀i d e c,a[i]? = some d->k i e c->g d c fun z=>tc z fun b m=>if b=true then te m fun y A=>e.length<sizeLine/\k (i+1) (e++[y]) A else k (i+1) e m)
  (j) (C:aC K h B M c t) (X:k i l c) (Y:aO (al t B) e l) (o:bP B n) (Z:DV (al t n) x a[i]) :
  ∃f,r f/\jL K f g x M n fun u n=>∃f,r f/\il K f tc u n fun b D=>if b=true then ∃f,r f/\fq K f te u D fun y E=>e.length<sizeLine/\∃p,p<a.length - i/\pB K h a k (i+1) p (e++[y]) u E else ∃p,p<a.length - i/\pB K h a k (i+1) p e u D:=by
 refine⟨h,w,c,t,a[i],C.grow o,Z,R _ _ _ _ (fun z q2 Y3 D O3 G s3=>?_) (step i a[i] l c (q0j j) X)⟩;refine⟨h,w,z,O3,G,S _ _ _ (fun b m N E H q s4=>?_) q2⟩;have I:aO (al H E) e l:=aO.mono s4.hid (aO.mono s3.hid (aO.mono (oX o) Y));cases b with
 |false=>exact ei ⟨a.length - (i+1),by lia,m,H,l,q,kD N,I,j,rfl⟩
 |true=>refine ej ⟨h,w,m,H,q,T _ _ _ (fun y A O v H5 O5 J s5 dy=>?_) (kC N)⟩;exact⟨by rw[I.length];exact O.1,a.length - (i+1),by lia,A,O5,l++[y],J,O.2,(aO.mono s5.hid I).append (.cons dy .nil),j,rfl⟩
theorem wo{K:Frag}{M:Fx->Prop}(hP:∀A Y B C O2,aC K F A Y B C->M ⟨A,[],O2,fun _=>0⟩)(hs:jP s)(hg:∀d U Q Q',(∀r,Q r->Q' r)->g d U Q->g d U Q')(ht:ik tc)(he:Mn te):∀Y  H  Q,(∃U O,aC K F H Y U O/\s U fun f B=>∃u:Nat->List PyData->ai->Prop,u 0 [] (fz own caps B)/\
   (∀i d l r,f[i]? = some d->u i l r->g d r fun U2=>tc U2 fun b U3=>if b=true then te U3 fun y U4=>l.length<sizeLine/\u (i+1) (l++[y]) U4 else u (i+1) l U3)/\
   ∀l r,u f.length l r->l.length<=sizeLine/\∀n D vs p,aC K F n Y B D->aK O H D n->aO (al D n) vs l->n p=none->Q (.ref p) (aI n p (.lst vs)))->
  jK own caps (nq K F s) (fun v Y H Q=>∃t,M t/\jL K t g v Y H Q) (fun Y H Q=>∃t,M t/\il K t tc Y H Q) (fun Y H Q=>∃t,M t/\fq K t te Y H Q) Y H Q:=fun Y H Q E=>by
 obtain⟨U,O,st,q⟩:=E;refine⟨U,O,st,hs _ _ _ (fun f B G J A C k s1 wk=>?_) q⟩;obtain⟨u,i0,step,fin⟩:=G;obtain⟨W,N,R⟩:=id k;refine⟨pB K ⟨A,[],C,fun _=>0⟩ f u,⟨f.length,fz own caps B,C,[],AI (fun j _ c h=>AH k j c h) (by rw[R];exact N.nd) k.live,i0,.nil,q0T _,rfl⟩,?_⟩;rintro i m l Y' n ⟨r,D,ds,w,iv,S,hi,rfl⟩;obtain⟨W',h',I⟩:=id w;have T:bP A n:=fun b o e=>h'.kept b o (by simp) e;have X:aK C A D n:=⟨fun b o _ e=>T b o e,fun a h=>by
  rw[I]at h;rcases q0b.mp h with h |h
  .exact(h'.new a h).elim (fun z=>absurd z (by simp)) .inr
  .exact .inl h⟩
 obtain⟨w1,w2⟩:=wk D n X w.live
 by_cases L:i<f.length
 .obtain⟨go,yld⟩:=w1 i f[i] (q0j L);refine .inr ⟨go,fun x H2 hy=>?_⟩;obtain⟨Z,dx⟩:=yld x H2 hy;exact wn (hP _ _ _ _ _ k) hg ht he step L w iv S Z dx
 .obtain rfl:i=f.length:=by lia
  obtain⟨hz,q⟩:=fin ds r iv;exact .inl ⟨w2,by rw[S.length];exact hz,fun p hp=>q n C l p (k.grow T) (s1.trans (.same T)) (aO.mono (rO fun a h=>by rw[I];exact bf _ h) S) hp⟩
theorem NM{K:Frag}{i:Fx->Prop}(t:∀k Y l u w,aC K F k Y l u->i ⟨k,[],w,fun _=>0⟩)(m:jP s)(x:∀d U Q n,(∀c,Q c->n c)->g d U Q->g d U n)(y:ik tc)(A:Mn te):∀Y H Q,fq K F (rZ own caps s g tc te) Y H Q->
  jK own caps (nq K F s) (fun v Y H Q=>∃a,i a/\jL K a g v Y H Q) (fun Y H Q=>∃a,i a/\il K a tc Y H Q) (fun Y H Q=>∃a,i a/\fq K a te Y H Q) Y H Q:=fun Y H Q z=>by
 obtain⟨U,O,st,q⟩:=z;refine wo t m x y A Y H Q ⟨U,O,st,m _ _ _ (fun B l z=>?_) q⟩;obtain⟨C,D,step,fin⟩:=z;exact⟨C,D,step,fun r c h=>⟨(fin r c h).1,fun J E vs p f G I j=>(fin r c h).2 (.ref p) _ E (f.grow fun b o e=>bR j _ _ e) (G.trans (.same fun b o e=>bR j _ _ e)) (kB j (f.nofree p j) I)⟩⟩
def nt(X:Cx)(F:Fx)(a:List Expr)(t:cx):Prop:=ik t/\oV X a (il X.K F t)
def NN:cx:=fun U Q=>Q true U
theorem NO:nt X F [] NN:=⟨fun _ _ _ k q=>k _ _ q,fun a s Y H Q I b=>by obtain⟨U,O,st,q⟩:=b;exact LL a s Y H Q I (q H O st .refl)⟩
theorem NP(h:DB X F c t):nt X F [c] t:=⟨h.mn,LM h.pt⟩
theorem NQ(k:GF X.mg F)(S:ao X scope own capN caps)(l:X.calm=true)(j:DI X F tg iter s)
  (c:∀C d e f h b,GF X.mg b->DG (bY X scope (own++capN) C d e f h) b tg g/\nt (bY X scope (own++capN) C d e f h) b ifs tc/\DE (bY X scope (own++capN) C d e f h) b elt te)
  (m:autoParam (∀x,foldedSetIterable iter X.env x=pure x) Zs._auto_1):DE X F (.ListComp elt [⟨tg,iter,ifs,0⟩] scope pos) (rZ own caps s g tc te):=by
 have t:Fx:=F;obtain⟨n,o,p⟩:=c 0 [] (PySem.start X.prog).1 (fun _=>none) [] F k;refine⟨NL j.mn,(oW S l j.pi (fun C d e f h=>⟨fun a s Y H v u Q I r ⟨b,i,q⟩=>(c C d e f h b i).1.pg a s Y H v u Q I r q,fun a s Y H Q I ⟨b,i,q⟩=>(c C d e f h b i).2.1.2 a s Y H Q I q,fun a s Y H Q I ⟨b,i,q⟩=>(c C d e f h b i).2.2.pe a s Y H Q I q⟩) m).imp (NM (fun _ _ _ _ _ st=>k.into st) j.mn n.mn o.1 p.mn)⟩
end L2.L3
namespace L2
open PySem PySem.Spec PyProof.Rows
theorem Inv.track{Y:St}(I:Inv X pins Y H s)(f:hV X pins H a)(new:cw X.prog X.w (aI H a o) s.heap a o):Inv X pins Y (aI H a o) s:=by
 have g:=f.1;refine I.step (h':=s.heap) (g':=s.gens) (d':=s.drawn) (t':=s.toks) (ch:=[a]) (fun b h=>by obtain rfl:=q0k.mp h;exact⟨f.2.2.2.1,f.2.1,f.2.2.2.2.1,f.2.2.2.2.2⟩) (fun b d _ _ _ e _=>e) (fun b d _ _ _ e _=>⟨d.slots,e⟩)
  (fun b d i _ n=>by rw[bn (fun z=>i (by simp[z]))];exact n) (fun b d _ e=>⟨d,e⟩) (fun b j e=>bR g b _ e) (fun b d u e=>bR g b _ e) (fun b l e=>⟨#[],by rw[bR g b _ e];simp⟩) (fun m k=>k) (fun b u e=>?_) I.bare
 by_cases h:b=a
 .subst h;rw[cc]at e;cases e;exact new
 .rw[bn h]at e;exact(I.hok b u e).stay (fun _ _ _ q=>q) (fun c q=>bR g c _ q) fun c j q=>bR g c _ q
theorem NR(E:X.calm=true):fR X (.builtin "all") (fun p H Q=>∃(l:Addr) (bs:List Bool),p=[.ref l]/\H l=some (.lst (bs.map V.bl))/\Q (.bl (bs.all id)) H):=by
 intro y s Y H p U Q I r h;obtain⟨l,bs,rfl,G,q⟩:=h;obtain⟨u,rfl,ru⟩:=vals1 r;cases ru;obtain⟨z,d,n,B,e⟩:=I.hok _ _ G;have L:s.heap.IsList l d.toArray:=⟨_,e,rfl,_,rfl⟩
 have f:l<s.heap.objs.size:=bE e;have len:=B.length;rw[q0h]at len;refine call_all_walk (wpAny_pyIter_list L ?_);refine⟨s.heap.objs.size,_,_,_,_,_,fun i=>bs.getD i true,rfl,Walks.list (A:=X.A.in1) (show X.A.in1.handled=none from I.ok.hd E) s.heap.objs.size l (q0v f) d.toArray,⟨⟨_,Heap.get?_push_size _ rfl,rfl,rfl⟩,L.push _⟩,?_,fun Z tk J=>?_⟩
 .intro i v M N E' O k;have g:d[i]? = some v:=by simpa using O
  have f:i<bs.length:=by rw[len];exact(q0a.mp g).1
  obtain⟨w,C,m⟩:=B.get (i:=i) (x:=.bl bs[i]) (by rw[q0s,q0j f];rfl);rw[g]at C;cases C;cases m;refine wpAny_truthy_bool ?_;have:bs.getD i true=bs[i]:=by simp[List.getD,f]
  have k:N (bs.getD i true) M:=k;rw[this]at k;exact k
 .have R:(List.range d.toArray.size).all (fun i=>bs.getD i true)=bs.all id:=by
   rw[q0p,<-len];rw[q2z,q01,q01];constructor
   .intro h b T;obtain⟨i,g,rfl⟩:=List.getElem_of_mem T;have:=h i (q2c.mpr g);simpa[List.getD,g] using this
   .intro h i g;have j:=q2c.mp g;have:=h bs[i] (q1r j);simpa[List.getD,j] using this
  rw[R];exact⟨.bl (bs.all id),H,I.kept fun b o D=>J b o (fun S=>absurd (bE D) (by rw[q0k.mp S];exact q0z _)) (bD _ D),rfl,q⟩
end L2
namespace L2.L3
open PySem PySem.Spec PyProof.Rows
def AJ:DN:=fun b Q=>∃a,(b=[.list a]\/b=[.tuple a])/\Q (.int a.length)
theorem nu{K}:iQ (fun xs H Q=>∃p ys,xs=[.ref p]/\(dE K H p ys\/dg K H p ys)/\Q (.int ys.length) H) AJ where
 mn:=fun _ _ _ k zq1a=>by obtain⟨ds,e,q⟩:=zq1a;exact⟨ds,e,k _ q⟩
 ok:=fun O H vs xs Q hO hd zq2a=>by
  obtain⟨ds,e,q⟩:=zq2a;rcases e with rfl |rfl
  .cases hd with
   |cons d r=>cases r;obtain⟨a,ys,rfl,ha,hy⟩:=d.lst_inv;exact⟨a,ys,rfl,.inl (.of (dH ha).1),by rw[hy.length];exact q _ H (fun _ _ h=>h) (.int _)⟩
  .cases hd with
   |cons d r=>cases r;obtain⟨a,ys,rfl,ha,hy⟩:=d.tup_inv;exact⟨a,ys,rfl,.inr (.inl (gM ha).1),by rw[hy.length];exact q _ H (fun _ _ h=>h) (.int _)⟩
theorem lK(h:aO H vs [a,b]):∃x y,vs=[x,y]/\DV H x a/\DV H y b:=by cases h with |cons d r=>cases r with |cons c r=>cases r;exact⟨_,_,rfl,d,c⟩
theorem gS(h:aO H vs [a]):∃x,vs=[x]/\DV H x a:=by cases h with |cons d r=>cases r;exact⟨_,rfl,d⟩
def AK:DN:=fun a Q=>∃i j:Int,a=[.int i,.int j]/\rD i j/\Q (.tuple [.int (i / j),.int (i % j)])
theorem NS:iQ (fun xs H Q=>∃i j,xs=[.int i,.int j]/\rD i j/\∀p,H p=none->Q (.ref p) (aI H p (.tup [.int (i / j),.int (i % j)]))) AK where
 mn:=fun _ _ _ k zq1a=>by obtain⟨i,j,e,c,q⟩:=zq1a;exact⟨i,j,e,c,k _ q⟩
 ok:=fun O H vs xs Q hO hd zq2a=>by obtain⟨i,j,e,c,q⟩:=zq2a;subst e;obtain⟨x,y,rfl,h1,h2⟩:=lK hd;exact⟨i,j,by rw[h1.int_inv,h2.int_inv],c,fun p hp=>q _ _ (bR hp) (nk hp (hO p hp) (.cons (.int _) (.cons (.int _) .nil)))⟩
def AL:DN:=fun b Q=>(∃a,b=[.list a]/\Q (.tuple a))\/∃a,b=[.tuple a]/\Q (.tuple a)
theorem NT{K}:iQ (fun xs H Q=>∃p ys,xs=[.ref p]/\((dE K H p ys/\∀l,H l=none->Q (.ref l) (aI H l (.tup ys)))\/(dg K H p ys/\Q (.ref p) H))) AL where
 mn:=fun _ _ _ k q=>q.imp (fun zq1a=>by obtain⟨i,e,q⟩:=zq1a;exact⟨i,e,k _ q⟩) fun zq2a=>by obtain⟨i,e,q⟩:=zq2a;exact⟨i,e,k _ q⟩
 ok:=fun O H vs xs Q hO hd q=>by
  rcases q with⟨ds,e,q⟩ |⟨ds,e,q⟩
  .subst e;obtain⟨x,rfl,h1⟩:=gS hd;obtain⟨a,ys,rfl,ha,hy⟩:=h1.lst_inv;exact⟨a,ys,rfl,.inl ⟨.of (dH ha).1,fun p hp=>q _ _ (bR hp) (nk hp (hO p hp) hy)⟩⟩
  .subst e;obtain⟨x,rfl,h1⟩:=gS hd;obtain⟨a,ys,e,ha,hy⟩:=h1.tup_inv;subst e;exact⟨a,ys,rfl,.inr ⟨.inl (gM ha).1,q _ H (fun _ _ h=>h) h1⟩⟩
def AM:DN:=fun a Q=>∃bs:List Bool,a=[.list (bs.map .bool)]/\Q (.bool (bs.all id))
theorem wq:∀{bs:List Bool}{vs},aO H vs (bs.map PyData.bool)->vs=bs.map V.bl
 |[],_,h=>by cases h;rfl
 |b::r,_,h=>by
  cases h with
  |cons d q=>rw[d.bl_inv,wq q];rfl
theorem NU:iQ (fun xs H Q=>∃(l:Addr) (bs:List Bool),xs=[.ref l]/\H l=some (.lst (bs.map V.bl))/\Q (.bl (bs.all id)) H) AM where
 mn:=fun _ _ _ k zq1a=>by obtain⟨bs,e,q⟩:=zq1a;exact⟨bs,e,k _ q⟩
 ok:=fun O H vs xs Q hO hd zq2a=>by obtain⟨bs,e,q⟩:=zq2a;subst e;obtain⟨x,rfl,h1⟩:=gS hd;obtain⟨a,ys,rfl,ha,hy⟩:=h1.lst_inv;exact⟨a,bs,rfl,by rw[(dH ha).1,wq hy],q _ H (fun _ _ h=>h) (.bl _)⟩
def AN(i:Nat):DT:=fun U Q=>∃d,U[i]? = some (some (.scr d))/\(d.length<=63->Q (.int d.length) U)
theorem AO{F:Fx}{pos:Pos}{p:Pos}(n:Gl X "len")(o:X.mg "len" = none)(h:PE X (.Name x p1) (bQ i))(l:autoParam (starEach [.Name x p1] X.env=(false,eval (.Name x p1) X.env)::starEach [] X.env) Zq._auto_1)(g:autoParam ((backTo pos (starEach [] X.env)).any (·.1)=false) Zq._auto_1) :
  DE X F (.Call (.Name "len" p) [.Name x p1] [] pos) (AN i):=
 ⟨fun _ _ _ k d=>by obtain⟨j,e,q⟩:=d;exact⟨j,e,fun h=>k _ _ (q h)⟩,(nh ku n o q1b (dO h eM l) (by decide) (by decide) l g).imp fun Y H Q f=>by
  obtain⟨U,O,st,j,e,q⟩:=f;obtain⟨s,r,m⟩:=st.scr e;refine⟨_,r,s,j.map V.int,rfl,.inl m.sq,?_⟩;rw[q0h];exact q m.1 _ H O st .refl (.int _)⟩
def AQ(i:Nat)(te:DT):DT:=fun U Q=>∃f,U[i]? = some (some (.scr f))/\te U fun d g=>∃k n,d=.int k/\bA f k=some n/\Q (.int n) g
theorem NW{g:α->β}{l}{n}(h:bA l k=some n):bA (l.map g) k=some (g n):=by
 unfold bA at h ⊢;rw[q0h];cases q:cI l.length k with
 |none=>rw[q]at h;cases h
 |some j=>rw[q]at h;show(l.map g)[j]? = some (g n);rw[q0s];have h:l[j]? = some n:=h;rw[h];rfl
theorem AR(h:PE X (.Name x p1) (bQ i))(s:DE X F e te)(t:lG e):DE X F (.Subscript (.Name x p1) e pos) (AQ i te):=
 ⟨fun _ _ _ k f=>by obtain⟨r,e,q⟩:=f;exact⟨r,e,s.mn _ _ _ (fun _ _ g=>by obtain⟨G,n,v,y,q⟩:=g;exact⟨G,n,v,y,k _ _ q⟩) q⟩,(oO oP h s.pe t).imp fun Y H Q j=>by
  obtain⟨U,O,st,r,e,q⟩:=j;obtain⟨E,I,t⟩:=st.scr e;refine⟨_,I,U,O,st,s.mn _ _ _ (fun d N l w C J A D L=>?_) q⟩;obtain⟨k,n,v,y,M⟩:=l;subst v;have B:ig X.K C E r:=t.mono fun o u q=>D.keep _ _ (fun z=>by obtain⟨R,e,m⟩:=st.live _ z;rw[q]at e;cases e;exact m) q;exact⟨E,r.map V.int,k,.int n,rfl,L.int_inv,B.sq,NW y,M _ C J A D (.int _)⟩⟩
def NX(K:Frag):R2:=fun x y H Q=>∃a b d,x=.ref a/\y=.ref b/\dE K H a (d.map V.int)/\H b=some (.lst [])/\Q (.bl (decide (d=[]))) H
theorem AS:∀{d:List Int}{f},bp (d.map V.int) f->∃as,ReadsAll h f (d.map PyData.int) as
 |[],_,r=>by cases r;exact⟨_,.nil⟩
 |n::d,_,r=>by
  cases r with
  |cons g r=>obtain⟨t,rfl⟩:=g;obtain⟨as,q⟩:=AS r;exact⟨_,.cons (.int n t) q⟩
theorem NY(l:X.A.units+64<cLine):cn X (compareOp .Eq) (NX X.K):=by
 intro g s Y H x y v u Q I m t h;obtain⟨a,b,d,rfl,rfl,w,z,q⟩:=h;cases m;cases t;obtain⟨B,C,⟨o,n,e,D,_,E⟩,N⟩:=I.list w;obtain⟨_,j,O,f,G⟩:=I.hok _ _ z;cases f;obtain⟨as,J⟩:=AS (h:=s.heap) C;have L:PyData.eqv (.list (d.map .int)) (.list [])=decide (d=[]):=by cases d<;>rfl
 refine eq_dataH (reads_list_at e D E (by simpa using J)) (reads_list_at (xs:=[]) G rfl rfl .nil) ?_ (by decide) l (by rw[L];exact⟨.bl _,H,I,rfl,q⟩);unfold SeqAt.shaped;have M:PyData.canLay0 (.list (d.map .int))=true:=by
  have:∀d:List Int,PyData.canLayAll0 (d.map .int)=true:=fun d=>by
   induction d with
   |nil=>rfl
   |cons n r k=>rw[q0c];simp only[PyData.canLayAll0,PyData.canLay0,k,Bool.and_self]
  simp only[PyData.canLay0,this]
 have dp:PyData.depth (.list (d.map .int))<=64:=by
  have:∀d:List Int,PyData.depthAll (d.map .int)<=1:=fun d=>by
   induction d with
   |nil=>simp[PyData.depthAll]
   |cons n r k=>rw[q0c];simp only[PyData.depthAll,PyData.depth];lia
  have:=this d;simp only[PyData.depth];lia
 rw[M,Bool.true_and];exact decide_eq_true dp
def AU(i:Nat):cx:=fun U Q=>∃d,U[i]? = some (some (.scr d))/\Q (decide (d=[])) U
theorem Oa(m:X.A.units+64<cLine)(h:PE X (.Name x p1) (bQ i)):DB X F (.Compare (.Name x p1) [.Eq] [.List [] l] pos) (AU i):=
 ⟨fun _ _ _ k d=>by obtain⟨j,e,q⟩:=d;exact⟨j,e,k _ _ q⟩,(zw (NY m) h (oN eM) (bq _)).imp fun Y H Q f=>by
  obtain⟨U,O,st,j,e,q⟩:=f;obtain⟨r,n,o⟩:=st.scr e;refine⟨_,n,q0T _,fun p g=>⟨r,p,j,rfl,rfl,(bR g).seq o.sq,cc,_,rfl,q _ O (st.grow (bR g)) (.same (bR g))⟩⟩⟩
structure FD (K:Frag) (mg:Str->Option Value) (x:Str) (st:Stmt) (ps:List Str) (g:Addr) (fd:FuncData):Prop where
 fn:ni K x x st g fd
 mgf:mg x=some (.ref g)
 b:gL K fd ps []
section
variable{X:Cx}{scope:Scope}{own capN:List Str}{caps:List Nat}
theorem ao.of(h1:autoParam (scope.kind=.function) Zq._auto_1)(h2:autoParam ((scope.names.all fun y=>scope.names.lookup y.1==some y.2)=true) Zq._auto_1)
  (h3:autoParam ((scope.names.all fun y=>y.2 != .free||(X.env.kindOf y.1==some .cell||X.env.kindOf y.1==some .free))=true) Zq._auto_1)
  (h4:autoParam ((scope.names.all fun y=>y.2 != .local||scope.names.lookup y.1==some .local)=true) Zq._auto_1) (h5:autoParam (caps.map (fun j=>X.N[j]?)=capN.map some) Zq._auto_1)
  (h6:autoParam ((capN.all fun x=>scope.names.lookup x==some .free)=true) Zq._auto_1):ao X scope own capN caps where
 kind:=h1
 one:=fun y hy=>eq_of_beq (q01.mp h2 y hy)
 free:=fun y hy e=>by
  have:=q01.mp h3 y hy;rw[e]at this;rw[q18]at this;rcases this with z |z
  .exact absurd z (by decide)
  .rw[q18]at z;exact z.imp (fun z=>eq_of_beq z) fun z=>eq_of_beq z
 loc:=fun y hy e=>by
  have:=q01.mp h4 y hy;rw[e]at this;rw[q18]at this;rcases this with z |z
  .exact absurd z (by decide)
  .exact eq_of_beq z
 caps:=h5
 capf:=fun x hx=>eq_of_beq (q01.mp h6 x hx)
end
abbrev qI(g:Int->Int->Int):D2:=fI (fun _ _=>True) fun i j=>.int (g i j)
abbrev qB(g:Int->Int->Bool):D2:=fI (fun _ _=>True) fun i j=>.bool (g i j)
theorem Ob(d:DE X F a ta)(f:DE X F b tb):DE X F (.BinOp a .Add b pos) (cY (qI fun i j=>i+j) ta tb):=lI Ke (kA fun _ _ _=>.int _) d f
theorem Oc(d:DE X F a ta)(f:DE X F b tb):DE X F (.BinOp a .Sub b pos) (cY (qI fun i j=>i - j) ta tb):=lI Kf (kA fun _ _ _=>.int _) d f
theorem Od(d:DE X F a ta)(f:DE X F b tb):DE X F (.BinOp a .Mult b pos) (cY (fI oJ fun i j=>.int (i * j)) ta tb):=lI Kg (vR fun _ _ _=>.int _) d f
theorem Oe(d:DE X F a ta)(f:DE X F b tb):DE X F (.BinOp a .Mod b pos) (cY (fI (fun _ j=>0<j) fun i j=>.int (i % j)) ta tb):=lI Kh (vR fun _ _ _=>.int _) d f
theorem Of(d:DE X F a ta)(f:DE X F b tb):DE X F (.BinOp a .Add b pos) (cY vW ta tb):=lI Lh LY d f
theorem Og(d:DE X F a ta)(f:DE X F b tb):DE X F (.Compare a [.Lt] [b] pos) (cY (qB fun i j=>decide (i<j)) ta tb):=pc vv (kA fun _ _ _=>.bl _) d f (bq _)
theorem Oh(d:DE X F a ta)(f:DE X F b tb):DE X F (.Compare a [.LtE] [b] pos) (cY (qB fun i j=>decide (i<=j)) ta tb):=pc oK (kA fun _ _ _=>.bl _) d f (bq _)
theorem Oi(d:DE X F a ta)(f:DE X F b tb):DE X F (.Compare a [.Gt] [b] pos) (cY (qB fun i j=>decide (j<i)) ta tb):=pc zr (kA fun _ _ _=>.bl _) d f (bq _)
theorem Oj(d:DE X F a ta)(f:DE X F b tb):DB X F (.Compare a [.Lt] [b] pos) (fY (cY (qB fun i j=>decide (i<j)) ta tb)):=kE vv (kA fun _ _ _=>.bl _) d f (bq _)
theorem Ol(d:DE X F a ta)(f:DE X F b tb):DB X F (.Compare a [.LtE] [b] pos) (fY (cY (qB fun i j=>decide (i<=j)) ta tb)):=kE oK (kA fun _ _ _=>.bl _) d f (bq _)
theorem Om(d:DE X F a ta)(f:DE X F b tb):DB X F (.Compare a [.Gt] [b] pos) (fY (cY (qB fun i j=>decide (j<i)) ta tb)):=kE zr (kA fun _ _ _=>.bl _) d f (bq _)
theorem Oo(d:X.A.units+64<cLine)(f:DE X F a ta)(g:DE X F b tb):DE X F (.Compare a [.Eq] [b] pos) (cY (pd false) ta tb):=pc (Ac d) vS f g (bq _)
theorem Op(d:X.A.units+64<cLine)(f:DE X F a ta)(g:DE X F b tb):DB X F (.Compare a [.Eq] [b] pos) (fY (cY (pd false) ta tb)):=kE (Ac d) vS f g (bq _)
theorem Oq(d:X.A.units+64<cLine)(f:DE X F a ta)(g:DE X F b tb):DB X F (.Compare a [.NotEq] [b] pos) (fY (cY (pd true) ta tb)):=kE (LO d) vS f g (bq _)
theorem Ot(d:DE X F a ta)(f:DE X F b tb):DB X F (.Compare a [.Is] [b] pos) (fY (cY vT ta tb)):=kE Kk LX d f (bq _)
theorem Ou(d:DE X F a ta)(f:DE X F b tb):DB X F (.Compare a [.IsNot] [b] pos) (fY (cY vU ta tb)):=kE zt Ag d f (bq _)
theorem Ov(d:DE X F a ta)(h:DE X F b tb)(f:DE X F c tc)(g:lastMarks [.LtE,.LtE] [b,c]=false:=by with_unfolding_all rfl):DE X F (.Compare a [.LtE,.LtE] [b,c] pos) (ph (fun i j=>decide (i<=j)) (fun i j=>decide (i<=j)) ta tb tc):=Am oK oK d h f g
theorem ec(d:Gl X x)(f:X.mg x=some (.int i t))(hd:autoParam ((x==("__debug__":Str))=false) Zr._auto_1):DE X F (.Name x pos) (dC (.int i)):=oY (v:=.int i) (oF d f ⟨t,rfl⟩ hd) fun _=>.int i
mutual
theorem AV:∀(d:PyData),d.canLay0=true->PyData.eqv d d=true
 |.none,_=>rfl
 |.bool b,_=>by simp[PyData.eqv]
 |.int i,_=>by simp[PyData.eqv]
 |.str s,_=>by simp[PyData.eqv]
 |.list xs,h=>by rw[PyData.eqv];exact wt xs (by simpa[PyData.canLay0] using h)
 |.tuple xs,h=>by rw[PyData.eqv];exact wt xs (by simpa[PyData.canLay0] using h)
 |.dict kvs,h=>by simp[PyData.canLay0]at h
theorem wt:∀(ds:List PyData),PyData.canLayAll0 ds=true->PyData.eqvAll ds ds=true
 |[],_=>rfl
 |x::xs,h=>by simp only[PyData.canLayAll0,q0S]at h;rw[PyData.eqvAll,AV x h.1,wt xs h.2];rfl
theorem AW(h:SeqAt.shaped d=true):PyData.eqv d d=true:=AV d (SeqAt.canLay_of_shaped h)
end
end L2.L3
namespace L2
open PySem PySem.Spec PyProof.Rows
def AY(K:Frag):R2:=fun x y H Q=>∃a b c d,x=.ref a/\y=.ref b/\dg K H a c/\dg K H b d/\c.length+d.length<=sizeLine/\
 (c=[]->Q (.ref b) H)/\(c≠[]->d=[]->Q (.ref a) H)/\(c≠[]->d≠[]->∀p,H p=none->Q (.ref p) (aI H p (.tup (c++d))))
theorem Ow:cn X (binaryOp .Add) (AY X.K):=by
 intro c s Y H x y v u Q I m o h;obtain⟨a,b,p,z,rfl,rfl,q,hb,A,B,C,D⟩:=h
 by_cases i:p=[]
 .subst i;cases m;cases o;obtain⟨j,E,G,_⟩:=I.tuple q;obtain⟨d,N,J,_⟩:=I.tuple hb;have L:j=[]:=E.nil_iff.mpr rfl;subst L;obtain⟨⟨cls,dd,data,sl⟩,r,t,n,hd⟩:=id G;obtain⟨⟨w,k,data2,l⟩,e,f,M,g⟩:=id J;simp only at t hd f g;subst t hd f g;exact concat_meets ⟨_,r,rfl⟩ ⟨_,e,rfl⟩ noFill_tuple_add seq_tuple_add q1L q1C (q1w _ _)
   (tuple_addW0 a b [].toArray d.toArray n M dd k sl l rfl) ⟨r,e,.ref b,H,I,rfl,B rfl⟩
 .exact KU c s Y H _ _ v u Q I m o ⟨a,b,p,z,rfl,rfl,q,hb,i,A,C i,D i⟩
end L2
namespace L2.L3
open PySem PySem.Spec PyProof.Rows
theorem Ox{K}:ft (AY K) vX where
 mn:=fun _ _ _ _ k zq1a=>by obtain⟨ds,es,e1,e2,e3,q⟩:=zq1a;exact⟨ds,es,e1,e2,e3,k _ q⟩
 ok:=fun O H u v x y Q hO h1 h2 zq2a=>by
  obtain⟨ds,es,e1,e2,e3,q⟩:=zq2a;subst e1 e2;obtain⟨a,xs,rfl,ha,hd⟩:=id h1.tup_inv;obtain⟨b,ys,rfl,hb,he⟩:=id h2.tup_inv;refine⟨a,b,xs,ys,rfl,rfl,.inl (gM ha).1,.inl (gM hb).1,by rw[hd.length,he.length];exact e3,fun z=>?_,fun _ z=>?_,fun _ _ p hp=>q _ _ (bR hp) (nk hp (hO p hp) (hd.append he))⟩
  .subst z;cases hd;exact q _ H (fun _ _ h=>h) h2
  .subst z;cases he;rw[q0B]at q;exact q _ H (fun _ _ h=>h) h1
theorem Oy(c:DE X F a ta)(d:DE X F b tb):DE X F (.BinOp a .Add b pos) (cY vX ta tb):=lI Ow Ox c d
theorem Oz(c:DE X F a ta)(d:DE X F b tb):DE X F (.BinOp a .Pow b pos) (cY (fI vu fun i j=>.int (i ^ j.toNat)) ta tb):=lI Ki (vR fun _ _ _=>.int _) c d
def OA:cZ:=fun D U=>D.bk U
theorem OB:DS X F (.Break pos) OA:=Jx.imp fun D Y H a=>by obtain⟨U,O,b,st,q,f⟩:=a;exact f.bk Y H U O st .refl q
set_option genInjectivity true in
inductive gc (α:Type) where
 |ok (a:α) (U:ai) |ex (c:Str) (U:ai) |bad
@[simp]noncomputable def gc.bind{α β:Type}(o:gc α)(k:α->ai->gc β):gc β:=match o with
 |.ok a U=>k a U
 |.ex c U=>.ex c U
 |.bad=>.bad
@[simp]noncomputable def lift{α:Type}(o:Option α)(U:ai):gc α:=match o with
 |some a=>.ok a U
 |none=>.bad
abbrev XM(α:Type):=ai->gc α
def wp{α:Type}(E:Str->ai->Prop)(m:XM α):ai->(α->ai->Prop)->Prop:=fun U Q=>match m U with
 |.ok a b=>Q a b
 |.ex c b=>E c b
 |.bad=>False
theorem az:∀U (Q e:α->ai->Prop),(∀d b,Q d b->e d b)->wp E m U Q->wp E m U e:=fun U Q e k q=>by
 unfold wp at q ⊢;generalize m U=o at q ⊢;cases o with
 |ok a b=>exact k _ _ q
 |ex c b=>exact q
 |bad=>exact q
theorem bu{k:α->XM β}(h:wp E (fun U=>(m U).bind k) U Q):wp E m U fun a b=>wp E (k a) b Q:=by
 unfold wp at h ⊢;unfold gc.bind at h;simp only at h;generalize m U=o at h ⊢;cases o with
 |ok a b=>exact h
 |ex c b=>exact h
 |bad=>exact h
theorem cJ{o:Option α}(h:wp E (lift o) U Q):∃a,o=some a/\Q a U:=by
 unfold wp lift at h;cases o with
 |some a=>exact⟨a,rfl,h⟩
 |none=>exact h.elim
theorem DE.imp(h:DE X F e t)(f:Mn t')(k:∀U Q,t' U Q->t U Q):DE X F e t':=⟨f,h.pe.imp fun Y H Q d=>by obtain⟨U,O,st,q⟩:=d;exact⟨U,O,st,k U _ q⟩⟩
theorem DO.imp(h:DO X F e t)(f:Ay t')(k:∀U Q,t' U Q->t U Q):DO X F e t':=⟨f,h.pe.imp fun Y H Q d=>by obtain⟨U,O,st,q⟩:=d;exact⟨U,O,st,k U _ q⟩⟩
theorem DA.imp(h:DA X F es t)(f:rT t')(k:∀U Q,t' U Q->t U Q):DA X F es t':=⟨f,h.pa.imp fun Y H Q d=>by obtain⟨U,O,st,q⟩:=d;exact⟨U,O,st,k U _ q⟩⟩
theorem DX.imp(h:DX X F es t)(f:AC t')(k:∀U Q,t' U Q->t U Q):DX X F es t':=⟨f,h.pa.imp fun Y H Q d=>by obtain⟨U,O,st,q⟩:=d;exact⟨U,O,st,k U _ q⟩⟩
theorem DB.imp(h:DB X F e t)(f:ik t')(k:∀U Q,t' U Q->t U Q):DB X F e t':=⟨f,h.pt.imp fun Y H Q d=>by obtain⟨U,O,st,q⟩:=d;exact⟨U,O,st,k U _ q⟩⟩
theorem DW.imp(h:DW X F e t)(f:ik t')(k:∀U Q,t' U Q->t U Q):DW X F e t':=⟨f,h.pw.imp fun Y H Q d=>by obtain⟨U,O,st,q⟩:=d;exact⟨U,O,st,k U _ q⟩⟩
theorem gP.imp(h:gP X F d t)(k:∀D U,t' D U->t D U):gP X F d t':=PSs.imp h fun D Y H g=>by obtain⟨U,O,i,st,q,f⟩:=g;exact⟨U,O,i,st,k i U q,f⟩
theorem DS.imp(h:DS X F s t)(k:∀D U,t' D U->t D U):DS X F s t':=PS.imp h fun D Y H d=>by obtain⟨U,O,g,st,q,f⟩:=d;exact⟨U,O,g,st,k g U q,f⟩
abbrev FE(X:Cx)(F:Fx)(E:Str->ai->Prop)(e:Expr)(m:XM PyData):Prop:=DE X F e (wp E m)
abbrev FO(X:Cx)(F:Fx)(E:Str->ai->Prop)(e:Expr)(m:XM aa):Prop:=DO X F e (wp E m)
abbrev FB(X:Cx)(F:Fx)(E:Str->ai->Prop)(e:Expr)(m:XM Bool):Prop:=DB X F e (wp E m)
abbrev FW(X:Cx)(F:Fx)(E:Str->ai->Prop)(e:Expr)(m:XM Bool):Prop:=DW X F e (wp E m)
abbrev FA(X:Cx)(F:Fx)(E:Str->ai->Prop)(es:List Expr)(m:XM (List PyData)):Prop:=DA X F es (wp E m)
abbrev FX(X:Cx)(F:Fx)(E:Str->ai->Prop)(es:List Expr)(m:XM (List AX)):Prop:=DX X F es (wp E m)
abbrev FI(X:Cx)(F:Fx)(E:Str->ai->Prop)(d iter:Expr)(m:XM (List PyData)):Prop:=DI X F d iter (wp E m)
abbrev GM:=PyData->ai->Option ai
def eO(g:GM):er:=fun d U Q=>match g d U with
 |some f=>Q f
 |none=>False
abbrev FG(X:Cx)(F:Fx)(d:Expr)(g:GM):Prop:=DG X F d (eO g)
abbrev FS(X:Cx)(F:Fx)(E:Str->ai->Prop)(s:Stmt)(m:SM):Prop:=DS X F s (wpS E m)
abbrev iq(X:Cx)(F:Fx)(E:Str->ai->Prop)(s:List Stmt)(m:SM):Prop:=gP X F s (wpS E m)
@[simp]noncomputable def xC(d:PyData):XM PyData:=fun U=>.ok d U
@[simp]noncomputable def xV(i:Nat):XM PyData:=fun U=>match U[i]? with
 |some (some (.dat d))=>.ok d U
 |some (some (.own false (.l ds)))=>.ok (.list ds) (U.set i (some (.dat (.list ds))))
 |_=>.bad
theorem ae(h:DE X F e (dC d)):FE X F E e (xC d):=h.imp az fun _ _ q=>q
theorem OC(h:DE X F e (dV i)):FE X F E e (xV i):=h.imp az fun U Q q=>by
 unfold wp xV at q;unfold dV;cases h:U[i]? with
 |none=>rw[h]at q;exact q.elim
 |some o=>
  rw[h]at q;cases o with
  |none=>exact q.elim
  |some c=>
   cases c with
   |dat d=>exact .inl ⟨d,rfl,q⟩
   |scr n=>exact q.elim
   |exc n=>exact q.elim
   |vw n=>exact q.elim
   |own io f=>
    cases io with
    |true=>exact q.elim
    |false=>
     cases f with
     |l ds=>exact .inr ⟨ds,rfl,q⟩
     |m _ _=>exact q.elim
     |o _ _=>exact q.elim
     |sd _=>exact q.elim
     |ll _=>exact q.elim
     |pr _ _ _=>exact q.elim
     |oo _ _=>exact q.elim
@[simp] def aj(g:PyData->PyData->Option PyData)(a b:XM PyData):XM PyData:=fun U=>(a U).bind fun x d=>(b d).bind fun y=>lift (g x y)
def F2(f:D2)(g:PyData->PyData->Option PyData):Prop:=∀x y d Q,g x y=some d->Q d->f x y Q
theorem gT(k:F2 f g)(h:DE X F e (cY f (wp E i) (wp E j))):FE X F E e (aj g i j):=h.imp az fun U Q q=>by refine az _ _ _ (fun x p l=>?_) (bu q);refine az _ _ _ (fun y r m=>?_) (bu l);obtain⟨d,n,o⟩:=cJ m;exact k x y d _ n o
@[simp] def aQ(m:XM PyData):XM Bool:=fun U=>(m U).bind fun d=>lift (match d with |.bool b=>some b |_=>none)
theorem wu(q:wp E (aQ m) U Q):fY (wp E m) U Q:=az _ _ _ (fun d i g=>by
 obtain⟨b,f,h⟩:=cJ g;cases d with
 |bool j=>cases f;exact⟨_,rfl,h⟩
 |_=>cases f) (bu q)
theorem kG(k:F2 f g)(h:DB X F e (fY (cY f (wp E i) (wp E j)))):FB X F E e (aQ (aj g i j)):=h.imp az fun U Q q=>by have l:=wu q;refine az _ _ _ (fun x r m=>?_) (bu l);refine az _ _ _ (fun y s n=>?_) (bu m);obtain⟨d,o,p⟩:=cJ n;exact k x y d _ o p
theorem cR(h:DB X F e (fY (wp E m))):FB X F E e (aQ m):=h.imp az fun U Q q=>wu q
@[simp]noncomputable def gI(g:Int->Int->PyData):PyData->PyData->Option PyData:=fun x y=>match x,y with
 |.int i,.int j=>some (g i j)
 |_,_=>none
@[simp]noncomputable def pC(C:Int->Int->Bool)(g:Int->Int->PyData):PyData->PyData->Option PyData:=fun x y=>match x,y with
 |.int i,.int j=>if C i j=true then some (g i j) else none
 |_,_=>none
theorem kH:F2 (fI (fun _ _=>True) g) (gI g):=fun x y d Q e q=>by
 unfold gI at e;split at e
 .cases e;exact⟨_,_,rfl,rfl,trivial,q⟩
 .cases e
theorem wv(h:∀i j,C i j=true->P i j):F2 (fI P g) (pC C g):=fun x y d Q e q=>by
 unfold pC at e;split at e
 .split at e
  .rename_i f;cases e;exact⟨_,_,rfl,rfl,h _ _ f,q⟩
  .cases e
 .cases e
noncomputable def lL(i j:Int):Bool:=(decide (-(2 ^ 64)<i)&&decide (i<2 ^ 64))||(decide (-(2 ^ 64)<j)&&decide (j<2 ^ 64))
noncomputable def ww(_ j:Int):Bool:=decide (0<j)&&decide (j<1073741824)
noncomputable def nv(_ j:Int):Bool:=decide (0<j)
noncomputable def sf(i j:Int):Bool:=decide (0<=j)&&decide (j<=1000000)&&decide (i.natAbs<2 ^ 64)
theorem OD(i j)(h:lL i j=true):oJ i j:=by unfold lL at h;simp only[q18,q0S,decide_eq_true_eq]at h;exact h
theorem OE(i j)(h:ww i j=true):rD i j:=by unfold ww at h;simp only[q0S,decide_eq_true_eq]at h;exact h
theorem OF(i j)(h:nv i j=true):0<j:=by unfold nv at h;simpa using h
theorem OG(i j)(h:sf i j=true):vu i j:=by unfold sf at h;simp only[q0S,decide_eq_true_eq]at h;exact⟨h.1.1,h.1.2,h.2⟩
noncomputable def aT(neg:Bool):PyData->PyData->Option PyData:=fun x y=>if (SeqAt.shaped x&&SeqAt.shaped y)=true then some (.bool (PyData.eqv x y != neg)) else none
theorem wx:F2 (pd neg) (aT neg):=fun x y d Q e q=>by
 unfold aT at e;split at e
 .rename_i h;cases e;exact⟨(Bool.and_eq_true_iff.mp h).1,(Bool.and_eq_true_iff.mp h).2,q⟩
 .cases e
@[simp] def lM:PyData->PyData->Option PyData:=fun x y=>match y with |.none=>some (.bool (isNone x)) |_=>none
@[simp] def gU:PyData->PyData->Option PyData:=fun x y=>match y with |.none=>some (.bool (!isNone x)) |_=>none
theorem OH:F2 vT lM:=fun x y d Q e q=>by
 unfold lM at e;split at e
 .cases e;exact⟨rfl,q⟩
 .cases e
theorem AZ:F2 vU gU:=fun x y d Q e q=>by
 unfold gU at e;split at e
 .cases e;exact⟨rfl,q⟩
 .cases e
@[simp]noncomputable def pD:PyData->PyData->Option PyData:=fun x y=>match x,y with
 |.list ds,.list es=>if ds.length+es.length<=sizeLine then some (.list (ds++es)) else none
 |_,_=>none
@[simp]noncomputable def sg:PyData->PyData->Option PyData:=fun x y=>match x,y with
 |.tuple ds,.tuple es=>if ds.length+es.length<=sizeLine then some (.tuple (ds++es)) else none
 |_,_=>none
theorem OI:F2 vW pD:=fun x y d Q e q=>by
 unfold pD at e;split at e
 .split at e
  .rename_i h;cases e;exact⟨_,_,rfl,rfl,h,q⟩
  .cases e
 .cases e
theorem OJ:F2 vX sg:=fun x y d Q e q=>by
 unfold sg at e;split at e
 .split at e
  .rename_i h;cases e;exact⟨_,_,rfl,rfl,h,q⟩
  .cases e
 .cases e
@[simp] def pE(a:XM PyData):XM PyData:=fun U=>(a U).bind fun d=>lift (match d with |.int i=>some (.int (-i)) |_=>none)
theorem sh(h:FE X F E a f):FE X F E (.UnaryOp .USub a pos) (pE f):=(Mi h).imp az fun U Q q=>az _ _ _ (fun d l j=>by
 obtain⟨y,g,k⟩:=cJ j;cases d with
 |int i=>cases g;exact⟨i,rfl,k⟩
 |_=>cases g) (bu q)
@[simp] def Ba(a:XM PyData):XM PyData:=fun U=>(a U).bind fun d=>lift (match d with |.bool b=>some (.bool (!b)) |_=>none)
theorem OL(h:FE X F E a f):FE X F E (.UnaryOp .Not a pos) (Ba f):=(Ml h).imp az fun U Q q=>az _ _ _ (fun d k i=>by
 obtain⟨y,g,j⟩:=cJ i;cases d with
 |bool b=>cases g;exact⟨b,rfl,j⟩
 |_=>cases g) (bu q)
@[simp]noncomputable def Bb(b:XM PyData)(d:PyData):XM PyData:=fun f=>match d with
 |.bool true=>b f
 |.bool false=>.ok (.bool false) f
 |_=>.bad
@[simp]noncomputable def Bc(b:XM PyData)(d:PyData):XM PyData:=fun f=>match d with
 |.bool true=>.ok (.bool true) f
 |.bool false=>b f
 |_=>.bad
@[simp] def ed(a b:XM PyData):XM PyData:=fun U=>(a U).bind (Bb b)
@[simp] def Be(a b:XM PyData):XM PyData:=fun U=>(a U).bind (Bc b)
theorem eu(i:FE X F E a h)(j:FE X F E (.BoolOp .And (b::rest) pos) f):FE X F E (.BoolOp .And (a::b::rest) pos) (ed h f):=(Mq i j).imp az fun U Q q=>az _ _ _ (fun d l g=>by
 cases d with
 |bool b=>cases b with
  |true=>exact⟨true,rfl,ej g⟩
  |false=>exact⟨false,rfl,ei g⟩
 |_=>exact g.elim) (bu (k:=Bb f) q)
theorem OM(i:FE X F E a h)(j:FE X F E (.BoolOp .Or (b::rest) pos) f):FE X F E (.BoolOp .Or (a::b::rest) pos) (Be h f):=(Mr i j).imp az fun U Q q=>az _ _ _ (fun d l g=>by
 cases d with
 |bool b=>cases b with
  |true=>exact⟨true,rfl,ej g⟩
  |false=>exact⟨false,rfl,ei g⟩
 |_=>exact g.elim) (bu (k:=Bc f) q)
theorem gA(h:FE X F E a d):FE X F E (.BoolOp op [a] pos) d:=Mp h
@[simp] def ny(p f:Int->Int->Bool)(a b c:XM PyData):XM PyData:=fun U=>(a U).bind fun x g=>(b g).bind fun y d=>match x,y with
 |.int i,.int j=>if p i j=true then(c d).bind (fun z=>lift (match z with |.int k=>some (.bool (f j k)) |_=>none)) else .ok (.bool false) d
 |_,_=>.bad
theorem ON(h:DE X F e (ph p l (wp E o) (wp E r) (wp E n))):FE X F E e (ny p l o r n):=h.imp az fun U Q q=>by
 refine az _ _ _ (fun x w t=>?_) (bu q);refine az _ _ _ (fun y A f=>?_) (bu t);unfold wp at f;cases x with
 |int i=>cases y with
  |int j=>
   refine⟨i,j,rfl,rfl,?_⟩
   by_cases g:p i j=true
   .simp only[if_pos g]at f;rw[if_pos g];refine az _ _ _ (fun z B u=>?_) (bu (m:=n) (k:=fun z=>lift (match z with |.int k=>some (PyData.bool (l j k)) |_=>none)) f);obtain⟨d,s,v⟩:=cJ u;cases z with
    |int k=>cases s;exact⟨k,rfl,v⟩
    |_=>cases s
   .simp only[if_neg g]at f;rw[if_neg g];exact f
  |_=>exact f.elim
 |_=>exact f.elim
@[simp] def dP(a:XM Bool):XM Bool:=fun U=>(a U).bind fun b d=>.ok (!b) d
theorem ee(h:FB X F E a f):FB X F E (.UnaryOp .Not a pos) (dP f):=(Mt h).imp az fun U Q q=>az _ _ _ (fun d g i=>i) (bu (k:=fun b g=>.ok (!b) g) q)
@[simp] def wy(a b:XM Bool):XM Bool:=fun U=>(a U).bind fun x d=>if x=true then b d else .ok false d
@[simp] def jQ(a b:XM Bool):XM Bool:=fun U=>(a U).bind fun x d=>if x=true then .ok true d else b d
theorem Bf(h:FB X F E a d):FW X F E (.BoolOp .And [a] pos) d:=Mx h
theorem kI(h:FB X F E a d):FW X F E (.BoolOp .Or [a] pos) d:=My h
theorem Bg(j:FB X F E a h)(l:FW X F E (.BoolOp .And (b::rest) pos) f):FW X F E (.BoolOp .And (a::b::rest) pos) (wy h f):=(Mz j l).imp az fun U Q q=>az _ _ _ (fun d g i=>by
 cases d with
 |true=>exact ej i
 |false=>exact ei i) (bu (k:=fun x g=>if x=true then f g else .ok false g) q)
theorem kJ(j:FB X F E a h)(l:FW X F E (.BoolOp .Or (b::rest) pos) f):FW X F E (.BoolOp .Or (a::b::rest) pos) (jQ h f):=(MA j l).imp az fun U Q q=>az _ _ _ (fun d g i=>by
 cases d with
 |true=>exact ej i
 |false=>exact ei i) (bu (k:=fun x g=>if x=true then .ok true g else f g) q)
theorem jn(h:FW X F E e d):FB X F E e d:=h.db
@[simp] def si{α:Type}(t:XM Bool)(a b:XM α):XM α:=fun U=>(t U).bind fun x d=>if x=true then a d else b d
theorem wz{mt}(j:FB X F E c mt)(l:FE X F E a f)(m:FE X F E b g):FE X F E (.IfExp c a b pos) (si mt f g):=(MC j l m).imp az fun U Q q=>az _ _ _ (fun d h i=>by
 cases d with
 |true=>exact ej i
 |false=>exact ei i) (bu (k:=fun x h=>if x=true then f h else g h) q)
@[simp]noncomputable def aP:XM (List PyData):=fun U=>.ok [] U
@[simp] def av(a:XM PyData)(r:XM (List PyData)):XM (List PyData):=fun U=>(a U).bind fun d f=>(r f).bind fun h g=>.ok (d::h) g
theorem bb:FA X F E [] aP:=Mb.imp az fun _ _ q=>q
theorem OO(l:FE X F E e i)(m:FA X F E es h)(n:autoParam (starEach (e::es) X.env=(false,eval e X.env)::starEach es X.env) Zq._auto_1):FA X F E (e::es) (av i h):=(Mc l m n).imp az fun U Q q=>az _ _ _ (fun d j o=>az _ _ _ (fun g f p=>p) (bu (k:=fun g f=>.ok (d::g) f) o)) (bu (k:=fun d j=>(h j).bind fun g f=>.ok (d::g) f) q)
@[simp] def cm(a:XM (List PyData)):XM PyData:=fun U=>(a U).bind fun d=>lift (if d.length<=sizeLine then some (.tuple d) else none)
@[simp] def lN(a:XM (List PyData)):XM PyData:=fun U=>(a U).bind fun d=>lift (if d.length<=sizeLine then some (.list d) else none)
theorem cp(h:FA X F E es g):FE X F E (.Tuple es i pos) (cm g):=(Mf h).imp az fun U Q q=>az _ _ _ (fun m l j=>by
 obtain⟨d,f,k⟩:=cJ j;split at f
 .rename_i h;cases f;exact⟨h,k⟩
 .cases f) (bu q)
theorem nz(h:FA X F E es g):FE X F E (.List es pos) (lN g):=(Mg h).imp az fun U Q q=>az _ _ _ (fun l k i=>by
 obtain⟨d,f,j⟩:=cJ i;split at f
 .rename_i h;cases f;exact⟨h,j⟩
 .cases f) (bu q)
@[simp] def eP(g:List PyData->Option PyData)(a:XM (List PyData)):XM PyData:=fun U=>(a U).bind fun d=>lift (g d)
def FN(f:DN)(g:List PyData->Option PyData):Prop:=∀h d Q,g h=some d->Q d->f h Q
theorem ir(j:FN f g)(h:DE X F e (pp f (wp E i))):FE X F E e (eP g i):=h.imp az fun U Q q=>az _ _ _ (fun n o k=>by
 obtain⟨d,l,m⟩:=cJ k;exact j n d _ l m) (bu q)
@[simp]noncomputable def gB:List PyData->Option PyData:=fun d=>match d with
 |[.list ds]=>some (.int ds.length)
 |[.tuple ds]=>some (.int ds.length)
 |_=>none
theorem nA:FN AJ gB:=fun f d Q e q=>by
 unfold gB at e;split at e
 .cases e;exact⟨_,.inl rfl,q⟩
 .cases e;exact⟨_,.inr rfl,q⟩
 .cases e
@[simp] def wA:List PyData->Option PyData:=fun d=>match d with
 |[.int i,.int j]=>if ww i j=true then some (.tuple [.int (i / j),.int (i % j)]) else none
 |_=>none
theorem OP:FN AK wA:=fun f d Q e q=>by
 unfold wA at e;split at e
 .split at e
  .rename_i h;cases e;exact⟨_,_,rfl,OE _ _ h,q⟩
  .cases e
 .cases e
@[simp]noncomputable def wB:List PyData->Option PyData:=fun d=>match d with
 |[.list ds]=>some (.tuple ds)
 |[.tuple ds]=>some (.tuple ds)
 |_=>none
theorem OQ:FN AL wB:=fun f d Q e q=>by
 unfold wB at e;split at e
 .cases e;exact .inl ⟨_,rfl,q⟩
 .cases e;exact .inr ⟨_,rfl,q⟩
 .cases e
noncomputable def bools?:List PyData->Option (List Bool)
 |[]=>some []
 |.bool i::r=>(bools? r).map (i::·)
 |_::_=>none
theorem wC:∀{g f},bools? g=some f->g=f.map .bool
 |[],_,e=>by cases e;rfl
 |d::r,f,e=>by
  cases d with
  |bool i=>
   cases q:bools? r with
   |none=>simp[bools?,q]at e
   |some l=>simp[bools?,q]at e;subst e;rw[wC q];rfl
  |_=>cases e
def nB:List PyData->Option PyData:=fun d=>match d with
 |[.list ds]=>(bools? ds).map fun bs=>.bool (bs.all id)
 |_=>none
theorem OR:FN AM nB:=fun h d Q e q=>by
 unfold nB at e;split at e
 .obtain⟨bs,f,g⟩:=q0i.mp e;rw[wC f];subst g;exact⟨bs,rfl,q⟩
 .cases e
@[simp]noncomputable def sj(i:Nat):XM PyData:=fun U=>match U[i]? with
 |some (some (.scr ns))=>if ns.length<=63 then .ok (.int ns.length) U else .bad
 |_=>.bad
@[simp] def sk(i:Nat)(a:XM PyData):XM PyData:=fun U=>match U[i]? with
 |some (some (.scr ns))=>(a U).bind fun d=>lift (match d with |.int k=>(bA ns k).map .int |_=>none)
 |_=>.bad
@[simp]noncomputable def wD(i:Nat):XM Bool:=fun U=>match U[i]? with
 |some (some (.scr ns))=>.ok (decide (ns=[])) U
 |_=>.bad
theorem Bh(h:DE X F e (AN i)):FE X F E e (sj i):=h.imp az fun U Q q=>by
 unfold wp sj at q;cases h:U[i]? with
 |none=>rw[h]at q;exact q.elim
 |some o=>
  rw[h]at q;cases o with
  |none=>exact q.elim
  |some c=>
   cases c with
   |scr ns=>
    simp only at q
    by_cases d:ns.length<=63
    .rw[if_pos d]at q;exact⟨ns,h,fun _=>q⟩
    .rw[if_neg d]at q;exact q.elim
   |_=>exact q.elim
theorem Bi(h:DE X F e (AQ i (wp E f))):FE X F E e (sk i f):=h.imp az fun U Q q=>by
 unfold wp sk at q;cases h:U[i]? with
 |none=>rw[h]at q;exact q.elim
 |some o=>
  rw[h]at q;cases o with
  |none=>exact q.elim
  |some c=>
   cases c with
   |scr ns=>
    refine⟨ns,h,az _ _ _ (fun d s j=>?_) (bu (m:=f) (k:=fun d=>lift (match d with |.int k=>(bA ns k).map PyData.int |_=>none)) q)⟩;obtain⟨y,g,l⟩:=cJ j;cases d with
    |int k=>obtain⟨n,p,r⟩:=q0i.mp g;subst r;exact⟨k,n,rfl,p,l⟩
    |_=>cases g
   |_=>exact q.elim
theorem OS(h:DB X F e (AU i)):FB X F E e (wD i):=h.imp az fun U Q q=>by
 unfold wp wD at q;cases h:U[i]? with
 |none=>rw[h]at q;exact q.elim
 |some o=>
  rw[h]at q;cases o with
  |none=>exact q.elim
  |some c=>
   cases c with
   |scr ns=>exact⟨ns,h,q⟩
   |_=>exact q.elim
@[simp]noncomputable def ay(i:Nat):GM:=fun d U=>some (U.set i (some (.dat d)))
theorem OT(h:DG X F e (gN i)):FG X F e (ay i):=⟨fun d U Q g k q=>k _ q,h.pg.imp fun v Y H Q f=>by obtain⟨U,O,d,st,hd,q⟩:=f;exact⟨U,O,d,st,hd,q⟩⟩
abbrev jR:=List PyData->ai->Option ai
def nC(g:jR):kF:=fun d U Q=>match g d U with
 |some f=>Q f
 |none=>False
abbrev sr(X:Cx)(F:Fx)(d:List Expr)(g:jR):Prop:=pu X F d (nC g)
@[simp]noncomputable def fe:jR:=fun d U=>match d with |[]=>some U |_=>none
@[simp] def bC(t:GM)(u:jR):jR:=fun g U=>match g with |d::r=>(t d U).bind fun f=>u r f |[]=>none
theorem OU:∀d U  Q f,(∀h,Q h->f h)->eO g d U Q->eO g d U f:=fun d U Q f k q=>by
 unfold eO at q ⊢;generalize g d U=o at q ⊢;cases o with
 |some h=>exact k _ q
 |none=>exact q
theorem Bj:∀d U  Q f,(∀h,Q h->f h)->nC g d U Q->nC g d U f:=fun d U Q f k q=>by
 unfold nC at q ⊢;generalize g d U=o at q ⊢;cases o with
 |some h=>exact k _ q
 |none=>exact q
theorem lO:sr X F [] fe:=⟨Bj,MS.pg.imp fun v Y H Q f=>by
 obtain⟨U,O,d,st,hd,q⟩:=f;exact⟨U,O,d,st,hd,by
 unfold nC fe at q;cases d with
 |nil=>exact⟨rfl,q⟩
 |cons _ _=>exact q.elim⟩⟩
theorem ey(i:FG X F e g)(j:sr X F es f)(k:autoParam ((assignEach (e::es) X.env).map (·.2)=assign e X.env::(assignEach es X.env).map (·.2)) Zq._auto_1):sr X F (e::es) (bC g f):=⟨Bj,(MT i j k).pg.imp fun v Y H Q l=>by
 obtain⟨U,O,d,st,hd,q⟩:=l;exact⟨U,O,d,st,hd,by
 unfold nC bC at q;cases d with
 |nil=>exact q.elim
 |cons d r=>
  refine⟨d,r,rfl,?_⟩;unfold eO;simp only at q;cases h:g d U with
  |none=>rw[h]at q;exact q
  |some m=>rw[h]at q;exact q⟩⟩
@[simp]noncomputable def du(n:Nat)(t:jR):GM:=fun d U=>match d with |.tuple ds=>if ds.length=n then t ds U else none |_=>none
theorem lP{pos:Pos}{k }(j:X.calm=true)(h:sr X F es i)(l:autoParam ((assignEach es X.env).length=n) Zq._auto_1)(f:autoParam ((assignEach es X.env).findIdx? (·.1)=none) Zq._auto_1):FG X F (.Tuple es k pos) (du n i):=⟨OU,(MV j h l f).pg.imp fun v Y H Q m=>by
 obtain⟨U,O,d,st,hd,q⟩:=m;exact⟨U,O,d,st,hd,by
 unfold eO du at q;cases d with
 |tuple ds=>
  simp only at q
  by_cases g:ds.length=n
  .rw[if_pos g]at q;exact⟨ds,rfl,g,q⟩
  .rw[if_neg g]at q;exact q.elim
 |_=>exact q.elim⟩⟩
@[simp]noncomputable def aD:XM (List AX):=fun U=>.ok [] U
@[simp] def af(a:XM PyData)(r:XM (List AX)):XM (List AX):=fun U=>(a U).bind fun d f=>(r f).bind fun as g=>.ok (.d d::as) g
@[simp] def cK(j:Nat)(r:XM (List AX)):XM (List AX):=fun U=>match U[j]? with
 |some (some _)=>(r U).bind fun as d=>.ok (.s j::as) d
 |_=>.bad
theorem aE:FX X F E [] aD:=Nw.imp az fun _ _ q=>q
theorem OV(j:FE X F E e g)(l:FX X F E es h)(n:autoParam (starEach (e::es) X.env=(false,eval e X.env)::starEach es X.env) Zq._auto_1):FX X F E (e::es) (af g h):=(Nx j l n).imp az fun U Q q=>az _ _ _ (fun d i o=>az _ _ _ (fun r f p=>p) (bu (k:=fun as f=>gc.ok (AX.d d::as) f) o)) (bu (m:=g) (k:=fun d i=>(h i).bind fun as f=>gc.ok (AX.d d::as) f) q)
theorem OW(g:PE X (.Name x p) (bQ j))(i:FX X F E es d)(l:autoParam (starEach (.Name x p::es) X.env=(false,eval (.Name x p) X.env)::starEach es X.env) Zq._auto_1):FX X F E (.Name x p::es) (cK j d):=(Ny g i l).imp az fun U Q q=>by
 unfold wp cK at q;cases h:U[j]? with
 |none=>rw[h]at q;exact q.elim
 |some o=>
  rw[h]at q;cases o with
  |none=>exact q.elim
  |some c=>exact⟨⟨c,h⟩,az _ _ _ (fun as f n=>n) (bu (m:=d) (k:=fun as f=>gc.ok (AX.s j::as) f) (show wp E (fun U=>(d U).bind fun as f=>gc.ok (AX.s j::as) f) U Q from q))⟩
@[simp] def jS(f:FM)(as:List AX):XM aa:=fun U=>match gQ U as with
 |some (h,g)=>(match f h with
  |.rt c d=>.ok c (dk g d (gz g U))
  |.ex c d=>.ex c (dk g d (gz g U))
  |.bad=>.bad)
 |none=>.bad
@[simp] def aF(f:FM)(a:XM (List AX)):XM aa:=fun U=>(a U).bind (jS f)
theorem OX(h:DO X F e (wl g E (wp E j))):FO X F E e (aF g j):=h.imp az fun U Q q=>az _ _ _ (fun as m d=>by
 unfold wp jS at d;unfold gR;cases l:gQ m as with
 |none=>rw[l]at d;exact d
 |some p=>
  obtain⟨n,o⟩:=p;rw[l]at d;simp only at d ⊢;cases i:g n with
  |rt c f=>rw[i]at d;exact d
  |ex c f=>rw[i]at d;exact d
  |bad=>rw[i]at d;exact d) (bu (k:=jS g) q)
@[simp] def aX(a:XM aa):XM PyData:=fun U=>(a U).bind fun c=>lift (frz c)
theorem aY(h:FO X F E e d):FE X F E e (aX d):=h.de.imp az fun U Q q=>az _ _ _ (fun c g f=>cJ f) (bu q)
@[simp]noncomputable def bt:SM:=fun U=>.nx U
@[simp]noncomputable def au(m k:SM):SM:=fun U=>match m U with
 |.nx d=>k d
 |o=>o
theorem bv:iq X F E [] bt:=MY.imp fun _ _ q=>q
theorem gd{st:Stmt}(d:FS X F E st m)(f:iq X F E rest k):iq X F E (st::rest) (au m k):=(MZ d f).imp fun D U q=>by
 show wpS E m _ U;unfold wpS au at q;unfold wpS;generalize m U=o at q ⊢;cases o with
 |nx g=>exact q
 |_=>exact q
theorem cf{st:Stmt}(h:FS X F E st m):iq X F E [st] m:=Na h
@[simp]noncomputable def dz{α:Type}(o:gc α)(k:α->ai->fx):fx:=match o with
 |.ok a U=>k a U
 |.ex c U=>.ex c U
 |.bad=>.bad
theorem fA{m}{k:α->SM}(q:wpS E (fun U=>dz (m U) k) D U):wp E m U fun a d=>wpS E (k a) D d:=by
 unfold wpS dz at q;unfold wp;simp only at q;generalize m U=o at q ⊢;cases o with
 |ok a d=>exact q
 |ex c d=>exact q
 |bad=>exact q
@[simp]noncomputable def wE(o:Option ai):fx:=match o with
 |some U=>.nx U
 |none=>.bad
@[simp] def bN(m:XM PyData)(g:GM):SM:=fun U=>dz (m U) fun d f=>wE (g d f)
theorem Bk(q:wpS E (bN m g) D U):wb (wp E m) (eO g) D U:=az _ _ _ (fun d h f=>by
 unfold wpS wE at f;unfold eO;simp only at f;generalize g d h=o at f ⊢;cases o with
 |some i=>exact f
 |none=>exact f) (fA (k:=fun d h=>wE (g d h)) q)
theorem OY{pos:Pos}(f:FE X F E e m)(h:FG X F d g)(i:autoParam (swapsWithSole [d] e pos.line X.env=pure false) Zq._auto_1)(j:autoParam (swappedStores [d] e X.env=pure none) Zq._auto_1)
  (k:autoParam ((assignEach [d] X.env).map (·.2)=[assign d X.env]) Zq._auto_1):FS X F E (.Assign [d] e pos) (bN m g):=(Nb f h i j k).imp fun D U q=>Bk q
theorem Bl{pos:Pos}(f:X.N.Nodup)(g:X.N[i]? = some x)(h:Loc X.env.scope x)(j:FE X F E e m)(k:autoParam (swapsWith e (some (.Name x d)) pos.line X.env=pure false) Zq._auto_1)
  (l:X.fn x=true\/X.env.scope.names.lookup x=some .local:=by first |exact .inl rfl |exact .inr rfl |assumption):FS X F E (.Assign [.Name x d] e pos) (bN m (ay i)):=(Nc f g h j k l).imp fun D U q=>Bk q
@[simp]noncomputable def wF(i:Nat)(c:aa):SM:=fun d=>if i<d.length then(match c with |.own true _=>.bad |c=>.nx (d.set i (some c))) else .bad
@[simp] def ef(i:Nat)(m:XM aa):SM:=fun U=>dz (m U) (wF i)
theorem OZ{pos:Pos}(j:X.N.Nodup)(l:X.N[i]? = some x)(n:Loc X.env.scope x)(o:FO X F E e m)(p:autoParam (swapsWith e (some (.Name x g)) pos.line X.env=pure false) Zq._auto_1)
  (r:X.fn x=true\/X.env.scope.names.lookup x=some .local:=by first |exact .inl rfl |exact .inr rfl |assumption):FS X F E (.Assign [.Name x g] e pos) (ef i m):=(Nk j l n o p r).imp fun D U q=>az _ _ _ (fun c s f=>by
 unfold wpS wF at f
 by_cases h:i<s.length
 .simp only[if_pos h]at f;cases c with
  |own io b=>cases io with
   |true=>exact f.elim
   |false=>exact⟨h,(fun _ z=>by cases z),f⟩
  |dat d=>exact⟨h,(fun _ z=>by cases z),f⟩
  |scr d=>exact⟨h,(fun _ z=>by cases z),f⟩
  |exc d=>exact⟨h,(fun _ z=>by cases z),f⟩
  |vw d=>exact⟨h,(fun _ z=>by cases z),f⟩
 .simp only[if_neg h]at f) (fA (k:=wF i) q)
@[simp] def bF(m:XM PyData):SM:=fun U=>dz (m U) fun d f=>.rt (.dat d) f
@[simp] def cE(m:XM aa):SM:=fun U=>dz (m U) fun c d=>.rt c d
@[simp] def cq(m:XM aa):SM:=fun U=>dz (m U) fun _ d=>.nx d
theorem Bm(g:FE X F E e m):FS X F E (.Return (some e) pos) (bF m):=(AA g).imp fun D U q=>az _ _ _ (fun c f h=>h) (fA (k:=fun d f=>.rt (.dat d) f) q)
theorem Bn(g:FO X F E e m):FS X F E (.Return (some e) pos) (cE m):=(Ng g).imp fun D U q=>az _ _ _ (fun c f h=>h) (fA (k:=fun d f=>.rt d f) q)
theorem Bo(f:FO X F E e m)(g:autoParam (swapsWith e none pos.line X.env=pure false) Zq._auto_1):FS X F E (.Expr e pos) (cq m):=(Nm f g).imp fun D U q=>az _ _ _ (fun c d h=>h) (fA (k:=fun _ d=>.nx d) q)
@[simp]noncomputable def kK(i:Nat):SM:=fun U=>match U[i]? with
 |some (some (.own false b))=>.rt (.own false b) (U.set i none)
 |some (some (.dat d))=>.rt (.dat d) U
 |_=>.bad
@[simp] def bo(t:XM Bool)(a b:SM):SM:=fun U=>dz (t U) fun x d=>if x=true then a d else b d
theorem Bp{mt}(m:FB X F E d mt)(n:iq X F E j f)(o:iq X F E l g):FS X F E (.If d j l pos) (bo mt f g):=(No m n o).imp fun D U q=>az _ _ _ (fun x h i=>by
 cases x with
 |true=>exact ej i
 |false=>exact ei i) (fA (k:=fun x h=>if x=true then f h else g h) q)
@[simp]noncomputable def wG:SM:=fun U=>.bk U
theorem Bq:FS X F E (.Break pos) wG:=OB.imp fun _ _ q=>q
@[simp] def wH(i:Nat)(m:XM PyData)(g:Int->Int->Int):SM:=fun U=>match U[i]? with
 |some (some (.dat (.int k)))=>dz (m U) fun d f=>(match d with |.int l=>.nx (f.set i (some (.dat (.int (g k l))))) |_=>.bad)
 |_=>.bad
noncomputable def cy(d n:String):Option Bool:=if d=n then some true else
 if d="bool"/\n="int" then some true else
 if (d="int"\/d="bool"\/d="str"\/d="list"\/d="tuple"\/d="NoneType")/\(n="int"\/n="bool"\/n="str"\/n="list"\/n="tuple") then some false else none
theorem Pa(h:cy d n=some b)(K):kitOne K (.type d) (.type n)=some b:=by
 unfold cy at h;split at h
 .rename_i e;cases h;subst e;unfold kitOne;rw[if_pos (by simp)]
 .split at h
  .rename_i e;cases h;obtain⟨rfl,rfl⟩:=e;rfl
  .rename_i a c;split at h
   .rename_i e;cases h;obtain⟨f,g⟩:=e;rcases f with rfl |rfl |rfl |rfl |rfl |rfl<;>rcases g with rfl |rfl |rfl |rfl |rfl<;>first |rfl |(exact absurd rfl a) |(exact absurd ⟨rfl,rfl⟩ c)
   .cases h
@[simp] def iu(n:String)(a:XM PyData):XM PyData:=fun U=>(a U).bind fun d=>lift ((cy (vQ d) n).map .bool)
theorem iU(h:DE X F e (Ar n (wp E f))):FE X F E e (iu n f):=h.imp az fun U Q q=>az _ _ _ (fun d m g=>by
 obtain⟨y,i,j⟩:=cJ g;obtain⟨b,k,l⟩:=q0i.mp i;subst l;exact⟨b,Pa k,j⟩) (bu q)
theorem Pb(m:PE X (.Name x l) (bQ i)):FS X F E (.Return (some (.Name x l)) pos) (kK i):=fun g s Y H D I j=>by
 obtain⟨U,O,p,k,q,f⟩:=j;unfold wpS kK at q;cases h:U[i]? with
 |none=>rw[h]at q;exact q.elim
 |some o=>
  rw[h]at q;cases o with
  |none=>exact q.elim
  |some c=>
   cases c with
   |own io b=>cases io with
    |true=>exact q.elim
    |false=>exact Ni m g s Y H D I ⟨U,O,p,k,⟨b,h,q⟩,f⟩
   |dat d=>exact AA (Ae i m) g s Y H D I ⟨U,O,p,k,.inl ⟨d,h,q⟩,f⟩
   |scr n=>exact q.elim
   |exc n=>exact q.elim
   |vw n=>exact q.elim
theorem Pc{st:Stmt}{op:Operator}{pos':Pos}(h:DS X F st (AB i (wp E m) g)):FS X F E st (wH i m g):=h.imp fun D U q=>by
 unfold wpS wH at q;cases h:U[i]? with
 |none=>rw[h]at q;exact q.elim
 |some o=>
  rw[h]at q;cases o with
  |none=>exact q.elim
  |some c=>
   cases c with
   |dat d=>cases d with
    |int k=>
     refine⟨k,h,az _ _ _ (fun d f j=>?_) (fA (m:=m) (k:=fun d f=>(match d with |.int l=>fx.nx (f.set i (some (.dat (.int (g k l))))) |_=>.bad)) (show wpS E (fun U=>dz (m U) fun d f=>(match d with |.int l=>fx.nx (f.set i (some (.dat (.int (g k l))))) |_=>.bad)) D U from q))⟩;unfold wpS at j;cases d with
     |int l=>exact⟨l,rfl,j⟩
     |_=>exact j.elim
    |_=>exact q.elim
   |_=>exact q.elim
noncomputable def br(g:GM)(b:SM):List PyData->SM
 |[],U=>.nx U
 |d::r,U=>(match g d U with
  |some h=>(match b h with
   |.nx f=>br g b r f
   |.ct f=>br g b r f
   |.bk f=>.nx f
   |o=>o)
  |none=>.bad)
@[simp] def eE(s:XM (List PyData))(g:GM)(b:SM):SM:=fun U=>dz (s U) (br g b)
theorem wI(t:PassesOwn (model X.prog X.w) X.A X.env X.xe)(u:X.calm=true)(f:FI X F E n iter s)(v:FG X F n g)(G:iq X F E body l)(y:autoParam (∀x,foldedSetIterable iter X.env x=pure x) Zs._auto_1):FS X F E (.For n iter body [] pos) (eE s g l):=
 (NH t u f v G y).imp fun D U q=>az _ _ _ (fun j p z=>by
  refine⟨fun i U=>wpS E (br g l (j.drop i)) D U,z,fun i d U hd f=>?_,fun U h=>?_⟩
  .have e:j.drop i=d::j.drop (i+1):=by obtain⟨r,B⟩:=q0a.mp hd;rw[<-B];exact q0D r
   simp only[e]at f;unfold wpS br at f;unfold eO;generalize g d U=o at f ⊢;cases o with
   |none=>exact f
   |some p=>
    show wpS E l _ p;simp only at f;unfold wpS;generalize l p=C at f ⊢;cases C with
    |nx m=>exact f
    |ct m=>exact f
    |bk m=>exact f
    |rt c m=>exact f
    |ex c m=>exact f
    |bad=>exact f
  .simp only[q1s]at h;exact h) (fA (k:=br g l) q)
def gV(c:XM Bool)(b:SM):Nat->SM
 |0,_=>.bad
 |n+1,U=>dz (c U) fun t f=>if t=true then(match b f with
   |.nx d=>gV c b n d
   |.ct d=>gV c b n d
   |.bk d=>.nx d
   |o=>o) else .nx f
theorem iV{p:Nat->Prop}:(∃k,p k)->∃k,p k/\∀j,p j->k<=j:=by
 rintro⟨k,d⟩
 induction k using Nat.strongRecOn with
 |_ k f=>
  by_cases h:∃j,j<k/\p j
  .obtain⟨j,g,i⟩:=h;exact f j g i
  .exact⟨k,d,fun j l=>q1i fun z=>h ⟨j,z,l⟩⟩
theorem Pd(z:PassesOwn (model X.prog X.w) X.A X.env X.xe)(B:FB X F E l i)(G:iq X F E body g):FS X F E (.While l body [] pos) (gV i g n):=
 (NK z B G).imp fun D U q=>by
  classical
  let ok:Nat->ai->Prop:=fun k U=>wpS E (gV i g k) D U;let p:ai->Prop:=fun U=>∃k,ok k U;let μ:ai->Nat:=fun U=>if h:p U then(iV h).choose else 0
  have v:∀U,p U->ok (μ U) U/\∀j,ok j U->μ U<=j:=fun U h=>by rw[show μ U=(iV h).choose from dif_pos h];exact(iV h).choose_spec
  refine⟨p,μ,⟨n,q⟩,fun U H=>?_⟩;have r:ok (μ U) U:=(v U H).1;cases y:μ U with
  |zero=>rw[y]at r;exact r.elim
  |succ k=>
   rw[y]at r;have less:∀d,ok k d->p d/\μ d<k+1:=fun d u=>⟨⟨k,u⟩,Nat.lt_succ_of_le ((v d ⟨k,u⟩).2 k u)⟩
   refine az _ _ _ (fun t s f=>?_) (fA (m:=i) (k:=fun t s=>if t=true then(match g s with |.nx d=>gV i g k d |.ct d=>gV i g k d |.bk d=>.nx d |o=>o) else .nx s) r);cases t with
   |false=>exact ei f
   |true=>
    refine ej ?_;unfold wpS at f ⊢;simp only[if_true]at f;generalize g s=C at f ⊢;cases C with
    |nx d=>exact less d f
    |ct d=>exact less d f
    |bk d=>exact f
    |rt c d=>exact f
    |ex c d=>exact f
    |bad=>exact f
@[simp] def iw(a:XM PyData):XM (List PyData):=fun U=>(a U).bind fun d=>lift (match d with |.list ds=>some ds |_=>none)
@[simp] def pF(a:XM PyData):XM (List PyData):=fun U=>(a U).bind fun d=>lift (match d with |.tuple ds=>some ds |_=>none)
theorem DI.imp(h:DI X F g iter t)(l:∀U Q i,(∀d j,Q d j->i d j)->t' U Q->t' U i)(k:∀U Q,t' U Q->t U Q):DI X F g iter t':=⟨l,h.pi.imp fun Y H Q f=>by obtain⟨U,O,st,q⟩:=f;exact⟨U,O,st,k U _ q⟩⟩
theorem iW(h:FE X F E e f):FI X F E i e (iw f):=(NE h).imp az fun U Q q=>az _ _ _ (fun d l j=>by
 obtain⟨y,g,k⟩:=cJ j;cases d with
 |list ds=>cases g;exact⟨_,rfl,k⟩
 |_=>cases g) (bu q)
theorem su(h:FE X F E e f):FI X F E i e (pF f):=(NF h).imp az fun U Q q=>az _ _ _ (fun d l j=>by
 obtain⟨y,g,k⟩:=cJ j;cases d with
 |tuple ds=>cases g;exact⟨_,rfl,k⟩
 |_=>cases g) (bu q)
@[simp] def eQ(g:List PyData->Option (List PyData))(a:XM (List PyData)):XM (List PyData):=fun U=>(a U).bind fun d=>lift (g d)
@[simp] def bL:List PyData->Option (List PyData):=fun d=>match d with
 |[.int j]=>if (decide (-(2 ^ 62)<=j)&&decide (j<2 ^ 62))=true then some (intsFrom 0 j.toNat) else none
 |_=>none
theorem nE(h:DI X F f e (AG (wp E g))):FI X F E f e (eQ bL g):=h.imp az fun U Q q=>az _ _ _ (fun l k i=>by
 obtain⟨y,d,j⟩:=cJ i;unfold bL at d;split at d
 .split at d
  .rename_i h;cases d;simp only[q0S,decide_eq_true_eq]at h;exact⟨_,rfl,h.1,h.2,j⟩
  .cases d
 .cases d) (bu q)
noncomputable def bW(g:GM)(t:XM Bool)(m:XM PyData):List PyData->List PyData->ai->Option (List PyData)
 |[],f,_=>some f
 |d::r,f,U=>(match g d U with
  |some i=>(match t i with
   |.ok true h=>(match m h with
    |.ok y j=>if f.length<sizeLine then bW g t m r (f++[y]) j else none
    |_=>none)
   |.ok false h=>bW g t m r f h
   |_=>none)
  |none=>none)
@[simp] def iy(own:Nat)(d:List Nat)(U:ai):ai:=List.replicate own none++d.map fun j=>pA U[j]?
@[simp] def Br(own:Nat)(d:List Nat)(g:GM)(t:XM Bool)(m:XM PyData)(f:List PyData):XM PyData:=fun h=>lift ((bW g t m f [] (iy own d h)).bind fun i=>if i.length<=sizeLine then some (.list i) else none) h
@[simp] def nF(own:Nat)(d:List Nat)(s:XM (List PyData))(g:GM)(t:XM Bool)(m:XM PyData):XM PyData:=fun U=>(s U).bind (Br own d g t m)
abbrev dA:Str->ai->Prop:=fun _ _=>False
theorem Pe(q:wp E (nF own.length j s g t m) U Q):rZ own j (wp E s) (eO g) (wp dA t) (wp dA m) U Q:=az _ _ _ (fun l r G=>by
 obtain⟨y,H,A⟩:=cJ (o:=(bW g t m l [] (iy own.length j r)).bind fun p=>if p.length<=sizeLine then some (PyData.list p) else none) (U:=r) (E:=E) (Q:=Q) G;obtain⟨n,I,u⟩:=q0X.mp H;have B:n.length<=sizeLine/\y=.list n:=by
  split at u
  .rename_i h;cases u;exact⟨h,rfl⟩
  .cases u
 have J:fz own j r=iy own.length j r:=by unfold fz iy;rw[q1E]
 refine⟨fun i p U=>bW g t m (l.drop i) p U=some n,by rw[J];exact I,fun i d p U hd f=>?_,fun p U h=>?_⟩
 .have e:l.drop i=d::l.drop (i+1):=by obtain⟨v,L⟩:=q0a.mp hd;rw[<-L];exact q0D v
  simp only[e]at f;unfold bW at f;unfold eO;cases C:g d U with
  |none=>rw[C]at f;cases f
  |some M=>
   rw[C]at f;simp only at f ⊢;unfold wp;cases w:t M with
   |ex c D=>rw[w]at f;cases f
   |bad=>rw[w]at f;cases f
   |ok b D=>
    rw[w]at f;cases b with
    |false=>exact ei f
    |true=>
     refine ej ?_;simp only at f ⊢;cases z:m D with
     |ex c N=>rw[z]at f;cases f
     |bad=>rw[z]at f;cases f
     |ok O N=>
      rw[z]at f;simp only at f ⊢;split at f
      .rename_i h;exact⟨h,f⟩
      .cases f
 .simp only[q1s]at h;have:p=n:=by unfold bW at h;exact q0n h
  subst this;rw[B.2]at A;exact⟨B.1,A⟩) (bu (k:=Br own.length j g t m) q)
abbrev lQ(X:Cx)(F:Fx)(E:Str->ai->Prop)(d:List Expr)(m:XM Bool):Prop:=nt X F d (wp E m)
noncomputable def dB:XM Bool:=fun U=>.ok true U
theorem nG:lQ X F E [] dB:=⟨az,fun d s Y H Q I f=>by obtain⟨U,O,st,q⟩:=f;exact NO.2 d s Y H Q I ⟨U,O,st,q⟩⟩
theorem wJ(h:FB X F E c d):lQ X F E [c] d:=NP h
theorem sv(w:GF X.mg F)(S:ao X d own f h)(y:X.calm=true)(z:own.length=n)(A:FI X F E l iter s)
  (o:∀C p r u v k,GF X.mg k->FG (bY X d (own++f) C p r u v) k l g/\lQ (bY X d (own++f) C p r u v) k dA j t/\FE (bY X d (own++f) C p r u v) k dA i m)
  (B:autoParam (∀x,foldedSetIterable iter X.env x=pure x) Zs._auto_1):FE X F E (.ListComp i [⟨l,iter,j,0⟩] d pos) (nF n h s g t m):=by
 subst z;exact(NQ w S y A o B).imp az fun U Q q=>Pe q
theorem aC.fresh{K:Frag}(st:aC K F H Y U O)(c:H p=none)(d:Mv o):∃O',aC K (F.plus [p]) (aI H p o) Y U O'/\aK O H O' (aI H p o):=by obtain⟨O',f,g,_⟩:=aC.swap (L:=[]) (L':=[p]) (H':=aI H p o) (F:=F) st (fun b u _ e=>bR c b u e) (by simp) (fun a h=>.inr (by obtain rfl:=q0k.mp h;exact c)) (fun a h=>by cases h) (fun a h=>by obtain rfl:=q0k.mp h;exact⟨o,cc,d⟩);exact⟨O',f,g⟩
theorem aC.new1{K:Frag}(st:aC K F H Y U O)(c:H p=none):∀a∈[p],a∈F.A₀\/F.H₀ a=none:=fun a h=>by
 obtain rfl:=q0k.mp h
 by_cases b:a∈F.A₀
 .exact .inl b
 .refine .inr ?_;cases e:F.H₀ a with
  |none=>rfl
  |some o=>obtain⟨W,h,_⟩:=st;have:=h.kept a o b e;rw[c]at this;cases this
def Pf(t:dI):im:=fun U Q=>t U fun d f=>d.length<=sizeLine/\Q (.own false (.l d)) f
theorem Pg(h:DA X F es j):DO X F (.List es pos) (Pf j):=
 ⟨fun _ _ _ k q=>h.mn _ _ _ (fun _ _ d=>⟨d.1,k _ _ d.2⟩) q,(oN h.pa).imp fun Y H Q f=>by obtain⟨U,O,st,q⟩:=f;exact 
  ⟨U,O,st,h.mn _ _ _ (fun w t d vs u v g r l=>⟨by rw[l.length];exact d.1,fun p m=>by
   obtain⟨s,i,n⟩:=g.fresh (o:=.lst vs) m trivial;exact d.2 _ _ s [p] ⟨i,⟨p,rfl,rfl,vs,cc,aO.mono n.hid l⟩,g.new1 m⟩ (r.trans n)⟩) q⟩⟩
@[simp] def iz(a:XM (List PyData)):XM aa:=fun U=>(a U).bind fun d=>lift (if d.length<=sizeLine then some (.own false (.l d)) else none)
theorem jT(h:FA X F E es g):FO X F E (.List es pos) (iz g):=(Pg h).imp az fun U Q q=>az _ _ _ (fun l k i=>by
 obtain⟨d,f,j⟩:=cJ i;split at f
 .rename_i h;cases f;exact⟨h,j⟩
 .cases f) (bu q)
@[simp]noncomputable def wK(i:Nat)(d:PyData):SM:=fun f=>match f[i]? with
 |some (some (.own io (.l ds)))=>if ds.length<sizeLine then .nx (f.set i (some (.own io (.l (ds++[d]))))) else .bad
 |_=>.bad
@[simp] def gW(i:Nat)(m:XM PyData):SM:=fun U=>match U[i]? with
 |some (some (.own _ (.l _)))=>dz (m U) (wK i)
 |_=>.bad
theorem Bt{pos:Pos}(R:PE X (.Name x r) (bQ i))(S:FE X F E e m)(z:autoParam (swapsWith (.Call (.Attribute (.Name x r) "append" apos) [e] [] g) none pos.line X.env=pure false) Zq._auto_1)
  (n:autoParam (attributeBase (.Name x r) "append" X.env (eval (.Name x r) X.env)=eval (.Name x r) X.env) Zq._auto_1)
  (t:autoParam (((backTo g (starEach [e] X.env)).all (fun x=>!x.1)&&(backToKw g (keywordEach [] X.env)).all (fun x=>x.1.isSome)&&decide (([e]:List Expr).length+([]:List Keyword).length+(if ([]:List Keyword).isEmpty then 0 else 1)<30))=true) Zq._auto_1)
  (p:autoParam ((apos.endLine==g.line)=true) Zq._auto_1) (Q:autoParam (starEach [e] X.env=(false,eval e X.env)::starEach [] X.env) Zq._auto_1) (j:autoParam ((backTo g (starEach [] X.env)).any (·.1)=false) Zq._auto_1) :
  FS X F E (.Expr (.Call (.Attribute (.Name x r) "append" apos) [e] [] g) pos) (gW i m):=
 (vi (vG q1F q2k q2l zQ R (dO S.pe eM Q) n t p Q j) z).imp fun D Y H u=>by
  obtain⟨U,O,DD,st,q,f⟩:=u;unfold wpS gW at q;cases A:U[i]? with
  |none=>rw[A]at q;exact q.elim
  |some o=>
   rw[A]at q;cases o with
   |none=>exact q.elim
   |some T=>
    cases T with
    |dat d=>exact q.elim
    |scr d=>exact q.elim
    |exc d=>exact q.elim
    |vw d=>exact q.elim
    |own Z b0=>
     cases b0 with
     |m _ _=>exact q.elim
     |o _ _=>exact q.elim
     |sd _=>exact q.elim
     |ll _=>exact q.elim
     |pr _ _ _=>exact q.elim
     |oo _ _=>exact q.elim
     |l a0=>
      obtain⟨a,fp,v,⟨_,xs,hH,_⟩,_,_⟩:=st.box A;refine⟨_,v,.inl ⟨rfl,xs,.of hH⟩,U,O,st,az _ _ _ (fun d U1 h w H1 O1 B s1 d1=>?_) (fA (m:=m) (k:=wK i) q)⟩;unfold wpS wK at h;cases C:U1[i]? with
      |none=>rw[C]at h;exact h.elim
      |some o=>
       rw[C]at h;cases o with
       |none=>exact h.elim
       |some c1=>
        cases c1 with
        |dat d=>exact h.elim
        |scr d=>exact h.elim
        |exc d=>exact h.elim
        |vw d=>exact h.elim
        |own a2 b1=>
         cases b1 with
         |m _ _=>exact h.elim
         |o _ _=>exact h.elim
         |sd _=>exact h.elim
         |ll _=>exact h.elim
         |pr _ _ _=>exact h.elim
         |oo _ _=>exact h.elim
         |l ds=>
          simp only at h;obtain⟨a1,a3,y,⟨e1,I,J,hd⟩,hO,up⟩:=B.box C;rw[v]at y;cases y;subst e1
          by_cases L:ds.length<sizeLine
          .rw[if_pos L]at h;refine⟨a,I,w,rfl,rfl,J,by rw[hd.length];exact L,?_⟩;obtain⟨O2,M,s2,_⟩:=up (aI H1 a (.lst (I++[w]))) (.l (ds++[d])) [a] (fun c o N e=>by rw[bn (by simpa using N)];exact e) (by simp) (fun c N=>.inl N) (fun G O' s hG _=>by
            subst hG;exact⟨s.hid,rfl,I++[w],cc,(aO.mono s.hid hd).append (.cons (DV.mono s.hid d1) .nil)⟩)
           exact f.nx _ _ _ _ M (s1.trans s2) h
          .rw[if_neg L]at h;exact h.elim
@[simp]noncomputable def Ph:aa->Option PyData
 |.dat (.list ds)=>some (.int ds.length)
 |.dat (.tuple ds)=>some (.int ds.length)
 |.own _ (.l ds)=>some (.int ds.length)
 |_=>none
@[simp] def sx(i:Nat):XM PyData:=fun U=>match U[i]? with
 |some (some c)=>lift (Ph c) U
 |_=>.bad
theorem Bu{F:Fx}{E:Str->ai->Prop}{pos:Pos}{p }(u:Gl X "len")(w:X.mg "len" = none)(h:PE X (.Name x k) (bQ i))(t:autoParam (starEach [.Name x k] X.env=(false,eval (.Name x k) X.env)::starEach [] X.env) Zq._auto_1)(r:autoParam ((backTo pos (starEach [] X.env)).any (·.1)=false) Zq._auto_1) :
  FE X F E (.Call (.Name "len" p) [.Name x k] [] pos) (sx i):=
 ⟨az,(nh ku u w q1b (dO h eM t) (by decide) (by decide) t r).imp fun Y H Q f=>by
  obtain⟨U,O,st,q⟩:=f;unfold wp sx at q;cases m:U[i]? with
  |none=>rw[m]at q;exact q.elim
  |some o=>
   rw[m]at q;cases o with
   |none=>exact q.elim
   |some y=>
    unfold lift at q;cases y with
    |scr d=>exact q.elim
    |exc d=>exact q.elim
    |vw d=>exact q.elim
    |dat d=>
     obtain⟨v,n,hd⟩:=st.dat m;cases d with
     |list ds=>obtain⟨a,g,rfl,s,j⟩:=hd.lst_inv;exact⟨_,n,a,g,rfl,.inl (.of (dH s).1),by rw[j.length];exact q _ H O st .refl (.int _)⟩
     |tuple ds=>obtain⟨a,g,rfl,s,j⟩:=hd.tup_inv;exact⟨_,n,a,g,rfl,.inr (.inl (gM s).1),by rw[j.length];exact q _ H O st .refl (.int _)⟩
     |_=>exact q.elim
    |own io b=>
     cases b with
     |l ds=>obtain⟨a,A,n,⟨_,g,z,j⟩,_,_⟩:=st.box m;exact⟨_,n,a,g,rfl,.inl (.of z),by rw[j.length];exact q _ H O st .refl (.int _)⟩
     |_=>exact q.elim⟩
noncomputable def fM:PyData->Option aR
 |.int i=>some (.inl i)
 |.str x=>some (.inr x)
 |_=>none
def iA:List PyData->Option (List aR)
 |[]=>some []
 |d::r=>(match fM d,iA r with |some k,some l=>some (k::l) |_,_=>none)
def dQ:Bool->PyData->Option (List aR)
 |false,d=>(fM d).map fun k=>[k]
 |true,.tuple ds=>iA ds
 |true,_=>none
abbrev eg:=List (PyData×PyData)
def dm(a:Bool):eg->List aR->Option PyData
 |[],_=>none
 |p::r,k=>if dQ a p.1=some k then some p.2 else dm a r k
def iX(a:Bool)(k:List aR)(v:PyData):eg->eg
 |[]=>[]
 |p::r=>(if dQ a p.1=some k then(p.1,v) else p)::iX a k v r
def fB(b:Bool)(a:eg)(d:PyData)(k:List aR)(v:PyData):eg:=if (dm b a k).isSome=true then iX b k v a else a++[(d,v)]
theorem wL(h:DV G v d)(e:fM d=some k):v=kV k:=by
 cases d with
 |int i=>cases e;exact h.int_inv
 |str x=>cases e;exact h.str_inv
 |_=>cases e
theorem wM:fM (gv k)=some k:=by cases k<;>rfl
theorem Bv(e:fM d=some k):d=gv k:=by
 cases d with
 |int i=>cases e;rfl
 |str x=>cases e;rfl
 |_=>cases e
theorem Bw:∀{a},iA (a.map gv)=some a
 |[]=>rfl
 |k::r=>by show(match fM (gv k),iA (r.map gv) with |some k,some l=>some (k::l) |_,_=>none)=_;rw[wM,Bw]
theorem sy:∀{f a},iA f=some a->f=a.map gv
 |[],a,e=>by cases e;rfl
 |d::r,a,e=>by
  unfold iA at e;cases b:fM d with
  |none=>rw[b]at e;cases e
  |some k=>
   cases c:iA r with
   |none=>rw[b,c]at e;cases e
   |some l=>rw[b,c]at e;cases e;rw[Bv b,sy c];rfl
theorem By:∀{vs}{a:List aR},aO G vs (a.map gv)->vs=a.map kV:=by
 intro vs a
 induction a generalizing vs with
 |nil=>intro h;cases h;rfl
 |cons k r b=>intro h;cases h with
  |cons c d=>rw[wL c wM,b d];rfl
theorem wN[DecidableEq κ]{R:κ->PyData->Prop}{G}{g}{inj:κ->List aR}(i:∀k d,R k d->dQ g d=some (inj k))(j:∀a b,inj a=inj b->a=b) :
  ∀{f}{c:eg} k,Paired (fun(p:κ×V) (q:PyData×PyData)=>R p.1 q.1/\DV G p.2 q.2) f c->(fU f k=none/\dm g c (inj k)=none)\/∃v d,fU f k=some v/\dm g c (inj k)=some d/\DV G v d:=by
 intro f c k h
 induction h with
 |nil=>exact .inl ⟨rfl,rfl⟩
 | @cons p q r s h t l=>
  by_cases e:p.1=k
  .refine .inr ⟨p.2,q.2,rG e,?_,h.2⟩;unfold dm;rw[if_pos (by rw[i _ _ h.1,e])]
  .rw[rH e];unfold dm;rw[if_neg (by rw[i _ _ h.1];exact fun z=>e (j _ _ (q0n z)))];exact l
theorem Pj[DecidableEq κ]{R:κ->PyData->Prop}{G}{i}{inj:κ->List aR}(j:∀k d,R k d->dQ i d=some (inj k))(l:∀a b,inj a=inj b->a=b){v}{x}(m:DV G v x) :
  ∀{f}{c:eg} k,Paired (fun(p:κ×V) (q:PyData×PyData)=>R p.1 q.1/\DV G p.2 q.2) f c->Paired (fun(p:κ×V) (q:PyData×PyData)=>R p.1 q.1/\DV G p.2 q.2) (f.map fun g=>if g.1=k then(g.1,v) else g) (iX i (inj k) x c):=by
 intro f c k h
 induction h with
 |nil=>exact .nil
 | @cons p q r s h t n=>
  refine .cons ?_ n;dsimp only
  by_cases e:p.1=k
  .rw[if_pos e,if_pos (by rw[j _ _ h.1,e])];exact⟨h.1,m⟩
  .rw[if_neg e,if_neg (by rw[j _ _ h.1];exact fun z=>e (l _ _ (q0n z)))];exact h
theorem Pk:∀{a b}{c:List α}{vs},Paired R a b->Paired R c vs->Paired R (a++c) (b++vs):=by
 intro a b c vs h s
 induction h with
 |nil=>exact s
 |cons h _ d=>exact .cons h d
theorem Bz[DecidableEq κ]{R:κ->PyData->Prop}{G}{g}{inj:κ->List aR}(i:∀k d,R k d->dQ g d=some (inj k))(j:∀a b,inj a=inj b->a=b){v}{x d}(l:DV G v x)
  {m}{c:eg}{k}(hd:R k d) (h:Paired (fun(p:κ×V) (q:PyData×PyData)=>R p.1 q.1/\DV G p.2 q.2) m c):Paired (fun(p:κ×V) (q:PyData×PyData)=>R p.1 q.1/\DV G p.2 q.2) (fJ m k v) (fB g c d (inj k) x):=by
 rcases wN i j k h with⟨e,f⟩ |⟨n,o,e,f,_⟩
 .rw[Lm v e];unfold fB;rw[f,if_neg (by simp)];exact Pk h (.cons ⟨hd,l⟩ .nil)
 .unfold fB;rw[f,if_pos (by rfl)];unfold fJ;rw[if_pos (by rw[rJ,e];rfl)];exact Pj i j l k h
theorem eR:∀k  d,gv k=d->dQ false d=some [k]:=fun k d e=>by subst e;show(fM (gv k)).map _=_;rw[wM];rfl
theorem BA:∀(a b:aR),[a]=[b]->a=b:=fun a b e=>by cases e;rfl
theorem nH:∀k  d,rP k=d->dQ true d=some k:=fun k d e=>by subst e;exact Bw
@[simp] def gC(a:Bool)(d:PyData):Option (List aR):=match d with
 |.tuple []=>none
 |d=>dQ a d
theorem BB(e:gC a d=some k):dQ a d=some k/\d≠.tuple []:=by
 unfold gC at e;split at e
 .cases e
 .rename_i h;exact⟨e,h⟩
theorem wO:∀{ds k},iA ds=some k->ds≠[]->cM ds=false
 |[],_,_,h=>absurd rfl h
 |[d],k,e,_=>by cases d<;>first |rfl |(simp[iA,fM]at e)
 |d::f::r,k,e,_=>by
  unfold iA at e;split at e
  .rename_i g l a b;have c:=wO (ds:=f::r) b (by simp);cases d<;>first |(exact(by simpa[cM] using c)) |(exfalso;simp[fM]at a)
  .cases e
theorem wP{kvs:eg}(h:ij G H a tk kvs)(j:bP G H)(g:DV G y d)(e:gC tk d=some k):∃o,iO H a y o/\((o=none/\dm tk kvs k=none)\/∃v x,o=some v/\dm tk kvs k=some x/\DV G v x):=by
 obtain⟨e,c⟩:=BB e;cases tk with
 |false=>obtain⟨l,f,pr⟩:=h;obtain⟨m,n,p⟩:=q0i.mp e;subst p;obtain rfl:=wL g n;exact⟨_,.k f,wN eR BA m pr⟩
 |true=>
  obtain⟨l,f,pr⟩:=h;cases d with
  |tuple ds=>obtain⟨b,q,rfl,hb,i⟩:=g.tup_invK (wO e fun z=>c (by rw[z]));rw[sy e]at i;rw[By i]at hb;exact⟨_,.t f (j _ _ hb),wN (inj:=id) nH (fun _ _ z=>z) k pr⟩
  |_=>cases e
theorem BC{kvs:eg}(h:ij G H a tk kvs)(p:bP G H)(i:DV G y d)(j:DV G v x)(e:gC tk d=some k)(l:kvs.length<sizeLine) :
  ∃o,lH H a y v (aI H a o)/\Mv o/\∀c,bP G c->ij c (aI H a o) a tk (fB tk kvs d k x):=by
 obtain⟨e,f⟩:=BB e;cases tk with
 |false=>obtain⟨q,g,pr⟩:=h;obtain⟨u,m,r⟩:=q0i.mp e;subst r;obtain rfl:=wL i m;refine⟨_,.k g (by rw[Paired.length pr];exact l),trivial,fun c s=>⟨_,cc,Bz eR BA (DV.mono s j) (Bv m).symm (Paired.mapP pr fun _ _ z=>⟨z.1,DV.mono s z.2⟩)⟩⟩
 |true=>
  obtain⟨q,g,pr⟩:=h;cases d with
  |tuple ds=>obtain⟨b,w,rfl,hb,n⟩:=i.tup_invK (wO e fun z=>f (by rw[z]));rw[sy e]at n;rw[By n]at hb;exact⟨_,.t g (p _ _ hb) (by rw[Paired.length pr];exact l),trivial,fun c s=>⟨_,cc,Bz (inj:=id) nH (fun _ _ z=>z) (DV.mono s j) (show rP k=_ by unfold rP;rw[<-sy e]) (Paired.mapP pr fun _ _ z=>⟨z.1,DV.mono s z.2⟩)⟩⟩
  |_=>cases e
theorem Pl{kvs:eg}(h:ij G H a tk kvs):vI H a:=by
 cases tk with
 |false=>obtain⟨b,c,_⟩:=h;exact .inl ⟨b,.of c⟩
 |true=>obtain⟨b,c,_⟩:=h;exact .inr ⟨b,.of c⟩
noncomputable def eF(U:ai)(i:Nat):Option (Bool×Bool×eg):=match U[i]? with
 |some (some (.own io (.m b a)))=>some (io,b,a)
 |_=>none
theorem nI(h:eF U i=some (io,b,a)):U[i]? = some (some (.own io (.m b a))):=by
 unfold eF at h;split at h
 .rename_i e;cases h;exact e
 .cases h
noncomputable def lR(d:Bool):XM aa:=fun U=>.ok (.own false (.m d [])) U
theorem wQ(i):FO X F E (.Dict [] [] pos) (lR i):=by
 refine⟨az,?_⟩;cases i with
 |false=>refine Lz.imp ?_;rintro Y H Q ⟨U,O,st,q⟩ p f;obtain⟨g,d,h⟩:=st.fresh (o:=.dK []) f trivial;exact q _ _ g [p] ⟨d,⟨p,rfl,rfl,[],cc,.nil⟩,st.new1 f⟩ h
 |true=>refine zZ.imp ?_;rintro Y H Q ⟨U,O,st,q⟩ p f;obtain⟨g,d,h⟩:=st.fresh (o:=.dT []) f trivial;exact q _ _ g [p] ⟨d,⟨p,rfl,rfl,[],cc,.nil⟩,st.new1 f⟩ h
def sA(i:Nat)(d:PyData):XM PyData:=fun U=>lift (match eF U i with
 |some (_,g,f)=>(gC g d).bind fun k=>dm g f k
 |none=>none) U
def sB(i:Nat)(m:XM PyData):XM PyData:=fun U=>match eF U i with
 |some _=>(m U).bind (sA i)
 |none=>.bad
theorem Pn{X:Cx}(st:aC X.K F H Y U O)(q:wp E (sA i d) U Q)(n:DV (al O H) w d) :
  ∃v,Y[i]? = some (some v)/\∃a u y,v=.ref a/\iO H a w (some u)/\DV (al O H) u y/\Q y U:=by
 obtain⟨y,h,s⟩:=cJ (o:=match eF U i with |some (_,l,f)=>(gC l d).bind fun k=>dm l f k |none=>none) (U:=U) (E:=E) (Q:=Q) q;cases m:eF U i with
 |none=>rw[m]at h;cases h
 |some p=>
  obtain⟨io,l,f⟩:=p;rw[m]at h;obtain⟨k,t,j⟩:=q0X.mp h;obtain⟨a,B,z,⟨_,hd⟩,_,_⟩:=st.box (nI m);obtain⟨o,g,r⟩:=wP hd kw n t;rcases r with⟨rfl,e⟩ |⟨v,x,rfl,e,A⟩
  .rw[e]at j;cases j
  .rw[e]at j;cases j;exact⟨_,z,a,v,_,rfl,g,A,s⟩
theorem Po(o:X.A.units+1<cLine)(r:PE X (.Name x l) (bQ i))(s:FE X F E e m)(t:oU e:=by intro _ _;rfl):FE X F E (.Subscript (.Name x l) e pos) (sB i m):=
 ⟨az,(zX o r s.pe t).imp fun Y H Q f=>by
  obtain⟨U,O,st,q⟩:=f;unfold wp sB at q;cases j:eF U i with
  |none=>rw[j]at q;exact q.elim
  |some p=>
   rw[j]at q;obtain⟨io,R,z⟩:=p;obtain⟨Z,S,g,_,_,_⟩:=st.box (nI j);refine⟨_,g,U,O,st,az _ _ _ (fun d T B w C D h G I=>?_) (bu (m:=m) (k:=sA i) q)⟩;obtain⟨v,n,a,u,y,J,L,M,N⟩:=Pn h B I;rw[g]at n;cases n;exact⟨a,u,J,L,N u C D h G M⟩⟩
def pG(i:Nat)(d y:PyData):XM PyData:=fun U=>lift (match eF U i with
 |some (_,g,f)=>(gC g d).map fun k=>(dm g f k).getD y
 |none=>none) U
def nJ(i:Nat)(m n:XM PyData):XM PyData:=fun U=>match eF U i with
 |some _=>(m U).bind fun d f=>(n f).bind fun y=>pG i d y
 |none=>.bad
theorem BD(hu:X.A.units+1<cLine)(hv:PE X (.Name x G) (bQ i))(he:FE X F E e m)(hf:FE X F E f n)(mm:M2 X (.Name x G) "get" apos e f h:=by exact⟨rfl,rfl,rfl,rfl⟩):FE X F E (.Call (.Attribute (.Name x G) "get" apos) [e,f] [] h) (nJ i m n):=
 ⟨az,(LD hu hv he.pe hf.pe mm).imp fun Y H Q s=>by
  obtain⟨U,O,st,q⟩:=s;unfold wp nJ at q;cases I:eF U i with
  |none=>rw[I]at q;exact q.elim
  |some p=>
   rw[I]at q;obtain⟨io,J,t⟩:=p;obtain⟨a0,fp,u,⟨_,L⟩,_,_⟩:=st.box (nI I);refine⟨_,u,a0,rfl,Pl L,U,O,st,az _ _ _ (fun d M q1 w H1 O1 N T d1=>?_) (bu (m:=m) (k:=fun d M=>(n M).bind fun y=>pG i d y) q)⟩;refine⟨M,O1,N,az _ _ _ (fun y R q2 z Z O2 j S d2=>?_) (bu (m:=n) (k:=fun y=>pG i d y) q1)⟩;obtain⟨r,C,D⟩:=cJ (o:=match eF R i with |some (_,J,t)=>(gC J d).map fun k=>(dm J t k).getD y |none=>none) (U:=R) (E:=E) q2;cases l:eF R i with
   |none=>rw[l]at C;cases C
   |some p=>
    obtain⟨a2,a3,a1⟩:=p;rw[l]at C;obtain⟨k,e2,e3⟩:=q0i.mp C;subst e3;obtain⟨a,a4,B,⟨_,hd⟩,_,_⟩:=j.box (nI l);rw[u]at B;cases B;obtain⟨o,g,r⟩:=wP hd kw (DV.mono S.hid d1) e2;refine⟨o,g,?_⟩;rcases r with⟨rfl,e⟩ |⟨v,x,rfl,e,hx⟩
    .rw[e]at D;exact D _ Z O2 j (T.trans S) d2
    .rw[e]at D;exact D _ Z O2 j (T.trans S) hx⟩
def nK(i:Nat)(y d:PyData):SM:=fun U=>match eF U i with
 |some (io,g,f)=>(match gC g d with
  |some k=>if f.length<sizeLine then .nx (U.set i (some (.own io (.m g (fB g f d k y))))) else .bad
  |none=>.bad)
 |none=>.bad
def nL(i:Nat)(mk:XM PyData)(y:PyData):SM:=fun U=>match eF U i with
 |some _=>dz (mk U) (nK i y)
 |none=>.bad
def lS(i:Nat)(mk d:XM PyData):SM:=fun U=>dz (d U) (nL i mk)
theorem Pp(Z:X.A.units+1<cLine)(hv:PE X (.Name x I) (bQ i))(t:FE X F E e mk)(hf:FE X F E f C)(hs:autoParam (swapsWith f (some (.Subscript (.Name x I) e j)) pos.line X.env=pure false) Zq._auto_1) :
  FS X F E (.Assign [.Subscript (.Name x I) e j] f pos) (lS i mk C):=
 (zY Z hv t.pe hf.pe hs).imp fun D Y H zz=>by
 obtain⟨U,O,DD,st,q,f⟩:=zz;exact⟨U,O,st,az _ _ _ (fun y R u vy H1 O1 v s1 d1=>by
  unfold wpS nL at u;cases J:eF R i with
  |none=>rw[J]at u;exact u.elim
  |some p=>
   rw[J]at u;obtain⟨io,tk,a1⟩:=p;obtain⟨T,fp,z,_,_,_⟩:=v.box (nI J);refine⟨_,z,R,O1,v,az _ _ _ (fun d U2 h w H2 O2 L S d2=>?_) (fA (m:=mk) (k:=nK i y) u)⟩;unfold wpS nK at h;cases n:eF U2 i with
   |none=>rw[n]at h;exact h.elim
   |some p=>
    rw[n]at h;obtain⟨a2,r,l⟩:=p;simp only at h;cases t:gC r d with
    |none=>rw[t]at h;exact h.elim
    |some k=>
     rw[t]at h;simp only at h
     by_cases M:l.length<sizeLine
     .rw[if_pos M]at h;obtain⟨a,a3,B,⟨e2,hd⟩,_,up⟩:=L.box (nI n);rw[z]at B;cases B;subst e2;obtain⟨o,g,C,hp⟩:=BC hd kw d2 (DV.mono S.hid d1) t M;refine⟨_,_,rfl,g,?_⟩;obtain⟨O3,N,s3,_⟩:=up (aI H2 T o) (.m r (fB r l d k y)) [T] (fun c o Q e=>by rw[bn (by simpa using Q)];exact e) (by simp) (fun c Q=>.inl Q) (fun G O' s hG _=>by
       subst hG;exact⟨s.hid,rfl,hp _ s.hid⟩)
      exact f.nx _ _ _ _ N (s1.trans (S.trans s3)) h
     .rw[if_neg M]at h;exact h.elim) (fA (m:=C) (k:=nL i mk) q)⟩
noncomputable abbrev pH:List Value:=[.type "ValueError",.type "Exception",.type "BaseException",.type "object"]
def wR(h:Heap)(C:Addr):Prop:=∃c N e q bs a f sub g b m k0 i j k l d,h.get? C=some (excClassObj e q C N bs c a f sub g b m k0 i j k l "ValueError.__new__")/\h.Ns N d/\d "__init__" = none/\OwnTail h pH c
theorem wS{K}(X:K.In h)(e:excIn K C pH "ValueError.__new__" = true):wR h C:=by
 unfold excIn at e;split at e
 .rename_i j k m n;split at e
  .rename_i I o p q r s J t d a;have f:=e;simp only[q0S,beq_iff_eq]at f;obtain⟨⟨⟨⟨⟨u,v⟩,g⟩,w⟩,b⟩,i⟩:=f;obtain⟨x,y,L,z,A,B,D,E,G,c,H⟩:=k;obtain⟨l⟩:=m;simp at g d a b i;subst u v g d a;exact⟨o,z,x,A,y,B,D,E,G,c,j,p,q,r,s,t,_,X _ _ n,.of_isNs (PySem.W.isNs_of_in X b),PySem.W.nsMap_none_of_in X b i,PySem.W.tail_of_in X w⟩
  .cases e
 .cases e
structure EC (K:Frag) (mg:Str->Option Value) (c:Str) (C:Addr):Prop where
 mg:mg c=some (.ref C)
 ns:nsIn K mainGlobals c=some (some (.ref C))
 ex:excIn K C pH "ValueError.__new__" = true
@[simp]noncomputable def fC(c:Str):SM:=fun U=>.ex c U
theorem _root_.L2.Inv.madeX{Y:St}(I:Inv X a Y H s)(m:Heap.MadeExcOf s.heap c e C d):Inv X a Y H { s with heap:=c }/\lJ X a s.heap/\fL s.heap H c e C none:=by have hb:∀b,s.heap.get? b=none->H b=none:=fun b z=>bH.some_of I.hok z;obtain⟨t,f,g,h⟩:=m.there;refine⟨I.ch I.cov ⟨fun b o q _ _=>m.keeps b o q,fun b o _ q=>⟨o.slots,m.keeps b o q⟩,fun b o q=>⟨o,m.keeps b o q⟩⟩,I.cov,⟨fun b o q=>⟨o,m.keeps b o q⟩,m.new,hb e m.new,_,_,_,f,rfl,rfl,rfl,.inl ⟨rfl,rfl⟩⟩⟩
theorem fN{i}{j}{np a pos l}(x:fc X F E)(y:X.A.handled=none)(z:Gl X c)(n:EC X.K X.mg c C)(o:autoParam ((c==("__debug__":Str))=false) Zr._auto_1)
  (p:autoParam (starEach [.Constant (.str i) j l] X.env=(false,eval (.Constant (.str i) j l) X.env)::starEach [] X.env) Zq._auto_1) :
  FS X F E (.Raise (some (.Call (.Name c np) [.Constant (.str i) j l] [] a)) none pos) (fC c):=fun b s Y H D I d=>by
 obtain⟨U,O,DD,st,q,f⟩:=d;obtain⟨B,N,G,J,bs,g,L,sub,M,t,dd,k0,Q,R,S,Z,mN,hC,hN,u,T⟩:=wS I.ok.mod.kin n.ex;refine wpAny_Raise_call_subU (C:=C) (nm:=G) (q:=J) (N:=N) (bs:=bs) (bm:=B) (hdct:=g) (sn:=L) (sub:=sub) (ab:=M) (col:=t) (dd:=dd) (k0:=k0) (k1:=Q) (k2:=R) (k3:=S) (k5:=Z) (mN:=mN)
  q2a (by decide) q2a (T.hasType (by decide)) y (by rw[p];rfl) u (mZ I z n.mg ⟨rfl,?_⟩ o)
 have pa:PA X [.Constant (.str i) j l] _:=dO (zc (X:=X)) eM p;have w:=pa a b s Y H (fun vs v=>vs.length=1/\v=H) I (by exact⟨rfl,rfl⟩);rw[p]at w ⊢;refine Calls.evalArgs_plain (aL w fun us s2 h=>?_);obtain⟨vs,v,k,r,h1,h2⟩:=h;subst h2;refine⟨rfl,by show us.length<=_;rw[<-r.length,h1];decide,k.bk _ _ hC,hN.keeps k.bk,T.keeps k.bk,fun h' e m=>?_⟩;obtain⟨I2,cv,ex⟩:=k.madeX m;exact x.2 b Y _ _ _ c U O ⟨I2,e,.ref C,s2.heap,none,rfl,cv,ex,n.mg⟩ st q
noncomputable def sC(K:Frag)(C D:Addr):Bool:=match K.lookup C with
 |some ⟨_,_,.cls a,_⟩=>a.mro.contains (.ref D)
 |_=>false
noncomputable def BE(K:Frag)(C:Addr):Bool:=findIn K (.ref C) "__getattribute__"==some (some (.builtin "BaseException.__getattribute__"))&&findIn K (.ref C) "__class__"==some (some (.builtin "object.__class__"))&&findIn K (.ref C) "__getattr__"==some none &&
 PySem.W.mroIn K C (.type "BaseException")==some true&&PySem.W.mroIn K C (.type "object")==some true
def BF(K:Frag)(D:Addr)(l:List Str):Bool:=l.all fun c=>match nsIn K mainGlobals c with
 |some (some (.ref C))=>excIn K C pH "ValueError.__new__"&&sC K C D&&BE K C&&(kitOne K (.ref C) (.type "ValueError")==some true)&&l.all fun d=>match nsIn K mainGlobals d with
  |some (some (.ref a))=>kitOne K (.ref C) (.ref a)==some (c==d)
  |_=>false
 |_=>false
structure XT (K:Frag) (mg:Str->Option Value) (l:List Str) (D:Addr):Prop where
 top:EC K mg "DueError" D
 tab:BF K D l=true
 mgs:∀c C,nsIn K mainGlobals c=some (some (.ref C))->mg c=some (.ref C)
theorem XT.at_{K}(x:XT K mg l D)(h:c∈l):∃C,EC K mg c C/\sC K C D=true/\BE K C=true/\kitOne K (.ref C) (.type "ValueError")=some true/\
  ∀d∈l,∃a,mg d=some (.ref a)/\nsIn K mainGlobals d=some (some (.ref a))/\kitOne K (.ref C) (.ref a)=some (c==d):=by
 have t:=q01.mp x.tab c h;split at t
 .rename_i C e;simp only[q0S]at t;obtain⟨⟨⟨⟨f,g⟩,i⟩,j⟩,k⟩:=t;refine⟨C,⟨x.mgs c C e,e,f⟩,g,i,by simpa using j,fun d hd=>?_⟩;have u:=q01.mp k d hd;split at u
  .rename_i a b;exact⟨a,x.mgs d a b,b,by simpa using u⟩
  .cases u
 .cases t
theorem Pq{K}
  (X:K.In h) (e:sC K C D=true) (n:h.get? C=some (excClassObj f q C N bs d b g sub i c p k0 j k l m a)):(Value.ref C::d).contains (.ref D)=true:=by
 unfold sC at e;split at e
 .rename_i o;have:=X _ _ o;rw[n]at this;cases this;exact e
 .cases e
theorem Pr{os}
  (H:wR h C) (xd:wR h D) (I:∀{o q N bs k a p sub r i G k0 s u v w c},h.get? C=some (excClassObj o q C N bs k a p sub r i G k0 s u v w c)->(Value.ref C::k).contains (.ref D)=true)
  (J:h.get? e=some n) (j:n.cls=.ref C) (L:Q true ⟨h,g,d,t,os⟩):wpAny M A (excMatches (.ref e) (.ref D)) Q E ⟨h,g,d,t,os⟩:=by
 obtain⟨k,N,o,q,bs,a,p,sub,r,i,G,k0,s,u,v,w,mN,x,_,_,_⟩:=H;obtain⟨l,N',O,q',R,m,S,y,T,z,U,Y,Z,a0,a1,a2,a3,B,_,_,T'⟩:=xd;have cB:(Value.ref D::l).contains (.type "BaseException")=true:=by rw[List.contains_cons,T'.hasType (X:="BaseException") (b:=true) (by decide),Bool.or_true]
 have cC:=I x;have f:=tc_notTuple;unfold excMatches
 repeat (first |(with_reducible refine wpAny_loadPart_at J ?_;rw[j]) |with_reducible refine wpAny_loadPart_at B ?_ |(with_reducible refine wpAny_isSubtype_exc B ?_;rw[cB]) |(with_reducible refine wpAny_isSubtype_exc x ?_;rw[cC]) |wp_step)
 exact L
noncomputable abbrev lT(X:Cx)(A:Around)(b:Bool)(a:List (Addr×Obj))(c:Value->Shared->Prop):Cx:={ X with A:=A,calm:=b,pn:=a,xe:=c }
theorem _root_.L2.Inv.re{Y:St}(I:Inv X pins Y H s)(A b xe)(a:A.frames=X.A.frames)(d:b=true->A.handled=none):Inv (lT X A b (X.pn++pins) xe) [] Y H s:=
 ⟨⟨I.ok.mod,I.ok.kind,I.ok.glob,I.ok.blt,I.ok.above,I.ok.inj,I.ok.has,I.ok.cab,d,a.trans I.ok.frames,I.ok.stk,I.ok.exf,I.ok.bs,I.ok.bsz,I.ok.noex,I.ok.exfs,I.ok.funs,I.ok.frf⟩,I.os,I.bare,I.base,I.loc,I.cell,I.free,I.freeC,fun p c=>I.pin p (by simpa using c),I.hok,I.len⟩
theorem _root_.L2.Inv.unre{Y:St}(ok:X.Ok)(I:Inv (lT X A b (X.pn++pins) xe) pins' Y H s):Inv X pins Y H s:=
 ⟨ok,I.os,I.bare,I.base,I.loc,I.cell,I.free,I.freeC,fun p a=>I.pin p (bj _ a),I.hok,I.len⟩
theorem sD(ok:X.Ok)(h:SP (lT X A b (X.pn++pins) xe) pins' D f d):SP X pins D f d:=by
 cases f with
 |next=>obtain⟨a,c,I,q⟩:=h;exact⟨a,c,I.unre ok,q⟩
 |brk=>obtain⟨a,c,I,q⟩:=h;exact⟨a,c,I.unre ok,q⟩
 |cont=>obtain⟨a,c,I,q⟩:=h;exact⟨a,c,I.unre ok,q⟩
 |ret u=>obtain⟨v,a,c,I,r,q⟩:=h;exact⟨v,a,c,I.unre ok,r,q⟩
noncomputable def Fx.here(F:Fx)(H:Hp)(L:List Addr):Fx:=⟨H,L,F.O₀,F.I₀⟩
theorem bV.here{K:Frag}(st:bV K F H Y U W):bV K (F.here H W.flatten) H Y U W:=⟨st.at_,st.nd,fun _ _ _ e=>e,fun _ h=>.inl h,st.live,st.len,st.lw,st.io⟩
theorem wT{K:Frag}(st:bV K F H Y U W)(h:a∈W.flatten\/H a=none):a∈F.A₀\/F.H₀ a=none:=by
 rcases h with h |h
 .exact st.new a h
 .by_cases b:a∈F.A₀
  .exact .inl b
  .refine .inr ?_;cases e:F.H₀ a with
   |none=>rfl
   |some o=>have:=st.kept a o b e;rw[h]at this;cases this
theorem dL{K:Frag}(st:bV K F H Y U W)(c:aC K ((F.here H W.flatten).plus fp) H' Y' U' O'):aC K (F.plus fp) H' Y' U' O':=by
 obtain⟨f,h,e⟩:=c;refine⟨f,⟨h.at_,h.nd,fun b o d e=>h.kept b o (fun z=>?_) (st.kept b o d e),fun a g=>(by have q:=wT st (h.new a g);exact q),h.live,h.len,h.lw,h.io⟩,e⟩;rcases st.new b z with q |q
 .exact d q
 .rw[show F.H₀ b=some o from e]at q;cases q
theorem Ps{K:Frag}{F:Fx}{W:List (List Addr)}(c:aC K (F.here H W.flatten) H' Y' U' O'):aK (W.flatten++F.O₀) H O' H':=by
 obtain⟨g,h,rfl⟩:=c;refine⟨fun b o f e=>h.kept b o (fun z=>f (bj _ z)) e,fun a d=>?_⟩;rcases q0b.mp d with z |z
 .exact(h.new a z).imp (bj _) id
 .exact .inl (bf _ z)
theorem fZ.here{K:Frag}(st:bV K F H Y U W)(f:fZ K F O H D e):fZ K (F.here H W.flatten) O H D e:=
 ⟨fun Y' H' U' O' d b q=>f.nx Y' H' U' O' (dL (fp:=[]) st d) b q,fun v Y' H' c U' O' g r b q=>f.rt v Y' H' c U' O' g ⟨dL st r.st,r.at_,fun a h=>wT st (r.new a h)⟩ b q,
  fun Y' H' U' O' d b q=>f.bk Y' H' U' O' (dL (fp:=[]) st d) b q,fun Y' H' U' O' d b q=>f.ct Y' H' U' O' (dL (fp:=[]) st d) b q⟩
noncomputable def sE(l:List Str)(b e:SM):SM:=fun U=>match b U with
 |.ex c f=>if c∈l then(match e f with |.rt d a=>.rt d a |_=>.bad) else .bad
 |o=>o
theorem Pt{X:Cx}{np }{p}{Y:St}
  (t:XT X.K X.mg l D) (R:Gl X "DueError") (j:X.stack=X.env::X.outer) (u:X.env.frame=some X.env.locals) (S:c∈l) (J:Inv X d Y H s) (T:lJ X d g) (ex:fL g H s.heap a C O) (U:X.mg c=some C)
  (h:∀v,Inv X d Y H v->fL g H v.heap a C (some .none)->codeAny (model X.prog X.w) (X.A.mark (some (.ref a))) (.handlers (.ref a) [.ExceptHandler none p (G::i) e] X.env) (fun r m=>match r with
     |.ok f=>(match p with
      |none=>Q f m
      |some n=>wpAny (model X.prog X.w) X.A (do bindName X.env n .none;unbindBehindTheSuite X.env n e) (fun _ y=>Q f y) k m)
     |.error x=>cameBackBy (model X.prog X.w) X.A X.env k x m) v) :
  wpAny (model X.prog X.w) X.A (noteFrame (.ref a) X.env) (fun _ m=>wpAny (model X.prog X.w) X.A (setFlight (.ref a) none) (fun _ y=>wpAny (model X.prog X.w) X.A (handleBy (.ref a) X.env [.ExceptHandler (some (.Name "DueError" np)) p (G::i) e]) Q k y) k m) k s:=by
 have Z:X.A.frames=some (X.env::X.outer):=by rw[J.ok.frames,j]
 have stk:s.heap.FunFrames X.base (X.env::X.outer):=by have:=J.stack;rw[j]at this;exact this
 have hb:∀b,s.heap.get? b=none->H b=none:=fun b z=>bH.some_of J.hok z;refine Av (base:=X.base) Z stk u hb ex fun h1 I x1=>?_;refine vZ (s:={ s with heap:=h1 }) (fs:=bO (X.env::X.outer)) none (wa (I.frames (fun _ h=>h) stk)) x1 fun h2 c2 L=>?_;have o:Inv X d Y H { s with heap:=h2 }:=J.ch T (by rw[j];exact I.trans c2);refine wpAny_handleBy_cons (codeAny_handlers_test ?_) (by intro q;cases q);have J3:=o.re (X.A.mark (some (.ref a))) false X.xe rfl (fun z=>by cases z);refine mZ (X:=lT X (X.A.mark (some (.ref a))) false (X.pn++d) X.xe) J3 R t.top.mg ?_ (by decide);obtain⟨M,N,hu,_⟩:=t.at_ S;have eC:C=.ref M:=q0n (U.symm.trans N.mg);obtain⟨oe,vs,a0,he,B,_⟩:=L.ob;refine Pr (C:=M) (wS o.kIn N.ex) (wS o.kIn t.top.ex) (fun hC=>Pq o.kIn hu hC) he (B.trans eC) ?_;exact h _ o L
theorem Pu(xt:XT X.K X.mg l D)(hg:Gl X "DueError")(m:X.stack=X.env::X.outer)(a0:X.env.frame=some X.env.locals)
  (hG:GF X.mg F) (hb:∀t pn Q y,fc (lT X X.A X.calm pn Q) t y->PassesOwn (model X.prog X.w) X.A X.env Q->iq (lT X X.A X.calm pn Q) t y body R)
  (hs:∀t e pn Q,GF X.mg t->iq (lT X (X.A.mark (some e)) false pn Q) t dA (b₀::j) S) :
  FS X F E (.Try body [.ExceptHandler (some (.Name "DueError" np)) none (b₀::j) n] [] [] pos) (sE l R S):=fun b s Y H D' I B=>by
 obtain⟨U,O,T,st,q,f⟩:=B;obtain⟨W,k,rfl⟩:=id st;have G:GF X.mg (F.here H W.flatten):=(hG.at st).frame fun a h=>k.live a (bj _ h);let y:Str->ai->Prop:=fun c Z=>c∈l/\∃d i,S Z = .rt d i/\T.rt d i;have q1:wpS y R T U:=by
  unfold wpS sE at q;unfold wpS;generalize R U=o at q ⊢;cases o with
  |ex c Z=>
   simp only at q
   by_cases L:c∈l
   .rw[if_pos L]at q;refine⟨L,?_⟩;generalize S Z = o2 at q ⊢;cases o2 with
    |rt d i=>exact⟨d,i,rfl,q⟩
    |_=>exact q.elim
   .rw[if_neg L]at q;exact q.elim
  |_=>exact q
 refine wpAny_Try_except ?_;refine aL (hb (F.here H W.flatten) (X.pn++b) _ y ?_ PassesOwn.looking [] s Y H D' (I.re X.A X.calm _ rfl I.ok.hd) ⟨U,_,T,⟨W,k.here,rfl⟩,q1,f.here k⟩) fun fw s1 h=>?_
 .refine⟨G,?_⟩;rintro a1 Y' H' s' e c Z O' ⟨J1,a,C,g,fl,e1,cv,ex,hm⟩ M ⟨L,d,i,a2,hd⟩;subst e1;have J:Inv X b Y' H' s':=J1.unre I.ok;have N:lJ X b g:=⟨cv.s0,cv.loc,cv.cell,fun p hp=>cv.pin p (bj _ hp)⟩
  refine Pt xt hg m a0 L J N ex hm fun s3 J3 x3=>codeAny_handlers_suite ?_;have stk:s3.heap.FunFrames X.base (X.env::X.outer):=by have:=J3.stack;rw[m]at this;exact this
  refine vZ (s:=s3) (fs:=bO (X.env::X.outer)) none (wa stk) x3 fun h4 c4 x4=>?_;have J4:Inv X b Y' H' { s3 with heap:=h4 }:=J3.ch N (by rw[m];exact c4);have step:aK (W.flatten++F.O₀) H O' H':=Ps M;refine aL (hs (F.here H W.flatten) (.ref a) (X.pn++b) _ G [] _ _ _ ⟨fun _ _=>False,D'.rt,fun _ _=>False,fun _ _=>False⟩ (J4.re (X.A.mark (some (.ref a))) false _ rfl (fun z=>by cases z)) ⟨_,O',⟨fun _=>False,fun d i=>T.rt d i,fun _=>False,fun _=>False⟩,M,?_,?_⟩) fun fw s6 h6=>?_
  .unfold wpS;rw[a2];exact hd
  .refine⟨fun _ _ _ _ _ _ z=>z.elim,fun v Y2 H2 c2 U2 O2 fp r s2 qq=>?_,fun _ _ _ _ _ _ z=>z.elim,fun _ _ _ _ _ _ z=>z.elim⟩;exact f.rt v Y2 H2 c2 _ O2 fp ⟨dL k r.st,r.at_,fun x hx=>wT k (r.new x hx)⟩ (step.trans s2) qq
  .cases fw with
   |next=>obtain⟨_,_,_,z⟩:=h6;exact z.elim
   |brk=>obtain⟨_,_,_,z⟩:=h6;exact z.elim
   |cont=>obtain⟨_,_,_,z⟩:=h6;exact z.elim
   |ret u=>obtain⟨v,Y7,H7,J8,r8,q8⟩:=h6;exact⟨v,_,H7,J8.unre I.ok,r8,q8⟩
 .cases fw with
  |next=>exact wpAny_execs_nil (sD I.ok h)
  |brk=>exact sD I.ok h
  |cont=>exact sD I.ok h
  |ret u=>exact sD I.ok h
noncomputable def pI:Value->V
 |.bool b=>.bl b
 |.int i _=>.int i
 |.str x _=>.str x
 |_=>.non
theorem BG(r:aV v z)(f:jI v=true):pI z=v:=by
 cases v with
 |non=>cases r;rfl
 |bl b=>cases r;rfl
 |int i=>obtain⟨t,rfl⟩:=r;rfl
 |str i=>obtain⟨t,rfl⟩:=r;rfl
 |_=>cases f
theorem Pw(e:aV y u)(f:jI y=true):∀{c a},bp c a->c.all jI=true->(∀z∈a,SeqAt.EqAt A s z u (jJ (pI z) y))/\a.map pI=c:=by
 intro c a h
 induction h with
 |nil=>exact fun _=>⟨(fun _ h=>by cases h),rfl⟩
 |cons h _ g=>
  intro b;rw[q2J,q0S]at b;obtain⟨i,j⟩:=g b.2;refine⟨fun z d=>?_,?_⟩
  .rcases q0d.mp d with rfl |d
   .rw[BG h b.1];exact La h e b.1 f
   .exact i z d
  .rw[q0c,j,BG h b.1]
def BH:V->List V->Hp->VK->Prop:=fun x vs H Q=>∃l d y,x=.ref l/\vs=[y]/\H l=some (.lst d)/\d.all jI=true/\jI y=true/\Q (.int (d.countP fun z=>jJ z y:Nat)) H
theorem Px:vC X "list.count" BH:=by
 intro f s Y H x vs v B Q I g i h;obtain⟨l,j,y,rfl,rfl,k,m,o,q⟩:=h;cases g;obtain⟨u,rfl,ru⟩:=i.one;obtain⟨z,d,n,r,C,e⟩:=I.lstM k;obtain⟨p,t⟩:=Pw (A:=X.A.in1) (s:=s) ru o r m;refine call_meets F.slot_list_count ⟨_,e,rfl⟩ F.entry_list_count (F.args_list_count_2 _ _) (SeqAt.list_countAt l d.toArray n none #[] u fun z=>jJ (pI z) y) ⟨e,fun z w=>p z (by simpa using w),?_⟩;refine⟨.int _,H,I.tok _,⟨_,rfl⟩,?_⟩;have:d.countP (fun z=>jJ (pI z) y)=j.countP fun z=>jJ z y:=by rw[<-t,List.countP_map];rfl
 rw[this];exact q
@[simp]noncomputable def BI:aa->Option (List PyData)
 |.dat (.list ds)=>some ds
 |.own _ (.l ds)=>some ds
 |_=>none
@[simp] def iY(U:ai)(i:Nat):Option (List PyData):=match U[i]? with
 |some (some c)=>BI c
 |_=>none
theorem wU{K}(st:aC K F H Y U O)(h:iY U i=some j):∃p vs,Y[i]? = some (some (.ref p))/\H p=some (.lst vs)/\aO (al O H) vs j:=by
 unfold iY at h;split at h
 .rename_i c e;unfold BI at h;split at h
  .cases h;obtain⟨v,d,hd⟩:=st.dat e;obtain⟨p,f,rfl,k,g⟩:=hd.lst_inv;exact⟨p,f,d,(dH k).1,g⟩
  .cases h;obtain⟨p,m,d,⟨_,f,l,g⟩,_⟩:=st.box e;exact⟨p,f,d,l,g⟩
  .cases h
 .cases h
@[simp]noncomputable def pJ:PyData->Option V
 |.none=>some .non
 |.bool b=>some (.bl b)
 |.int i=>some (.int i)
 |.str x=>some (.str x)
 |_=>none
@[simp] def lU:List PyData->Option (List V)
 |[]=>some []
 |d::r=>(match pJ d,lU r with |some v,some l=>some (v::l) |_,_=>none)
theorem BJ(h:DV G v d)(e:pJ d=some w):v=w/\jI v=true:=by
 cases d with
 |none=>cases e;rw[h.non_inv];exact⟨rfl,rfl⟩
 |bool b=>cases e;rw[h.bl_inv];exact⟨rfl,rfl⟩
 |int b=>cases e;rw[h.int_inv];exact⟨rfl,rfl⟩
 |str b=>cases e;rw[h.str_inv];exact⟨rfl,rfl⟩
 |_=>cases e
theorem Py:∀{vs g f},aO G vs f->lU f=some g->vs=g/\vs.all jI=true:=by
 intro vs g f
 induction f generalizing vs g with
 |nil=>intro h e;cases h;cases e;exact⟨rfl,rfl⟩
 |cons d f k=>
  intro h e;cases h with
  |cons h t=>
  unfold lU at e;cases i:pJ d with
  |none=>rw[i]at e;cases e
  |some w=>
   cases j:lU f with
   |none=>rw[i,j]at e;cases e
   |some l=>rw[i,j]at e;cases e;obtain⟨m,f1⟩:=BJ h i;obtain⟨n,f2⟩:=k t j;exact⟨by rw[m,n],by rw[q2J,f1,f2];rfl⟩
@[simp] def kL(f:List PyData)(y:PyData):Option PyData:=match lU f,pJ y with
 |some d,some w=>some (.int (d.countP fun z=>jJ z w:Nat))
 |_,_=>none
@[simp] def BK(g:List PyData->PyData->Option PyData)(i:Nat)(d:PyData):XM PyData:=fun U=>lift (match iY U i with
 |some ds=>g ds d
 |none=>none) U
@[simp] def wV(g:List PyData->PyData->Option PyData)(i:Nat)(m:XM PyData):XM PyData:=fun U=>match iY U i with
 |some _=>(m U).bind (BK g i)
 |none=>.bad
theorem Pz{apos f}{id}(slot:Slot "list" J id)(L:typeOf (.builtin id)=pure (.type "method_descriptor"))(hm:vC X id r)
  (hg:∀G l xs I y d z H Q,H l=some (.lst xs)->aO G xs I->DV G y d->g I d=some z->(∀u,DV G u z->Q u H)->r (.ref l) [y] H Q)
  (hv:PE X (.Name x s) (bQ i)) (he:FE X F E e m)
  (j:autoParam (attributeBase (.Name x s) J X.env (eval (.Name x s) X.env)=eval (.Name x s) X.env) Zq._auto_1)
  (t:autoParam (((backTo f (starEach [e] X.env)).all (fun x=>!x.1)&&(backToKw f (keywordEach [] X.env)).all (fun x=>x.1.isSome)&&decide (([e]:List Expr).length+([]:List Keyword).length+(if ([]:List Keyword).isEmpty then 0 else 1)<30))=true) Zq._auto_1)
  (n:autoParam ((apos.endLine==f.line)=true) Zq._auto_1) (hs:autoParam (starEach [e] X.env=(false,eval e X.env)::starEach [] X.env) Zq._auto_1) (h:autoParam ((backTo f (starEach [] X.env)).any (·.1)=false) Zq._auto_1) :
  FE X F E (.Call (.Attribute (.Name x s) J apos) [e] [] f) (wV g i m):=
 ⟨az,(vG q1F slot L hm hv (dO he.pe eM hs) j t n hs h).imp fun Y H Q v=>by
  obtain⟨U,O,st,q⟩:=v;unfold wp wV at q;cases M:iY U i with
  |none=>rw[M]at q;exact q.elim
  |some a1=>
   rw[M]at q;obtain⟨p,N,A,R,_⟩:=wU st M;refine⟨_,A,.inl ⟨rfl,N,.of R⟩,U,O,st,az _ _ _ (fun d S q1 w H1 O1 B s1 d1=>?_) (bu (m:=m) (k:=BK g i) q)⟩;obtain⟨z,D,q2⟩:=cJ (o:=match iY S i with |some I=>g I d |none=>none) (U:=S) (E:=E) q1;cases T:iY S i with
   |none=>rw[T]at D;cases D
   |some a2=>
    rw[T]at D;obtain⟨p',a3,C,Z,a0⟩:=wU B T;rw[A]at C;cases C;exact hg _ _ _ _ _ _ _ _ _ Z a0 d1 D fun u hu=>q2 u H1 O1 B s1 hu⟩
theorem PB:∀G l f g y d z H Q,H l=some (.lst f)->aO G f g->DV G y d->kL g d=some z->(∀u,DV G u z->Q u H)->BH (.ref l) [y] H Q:=fun G l f g y d z H Q h i j e q=>by
 unfold kL at e;split at e
 .rename_i n w k m;cases e;obtain⟨rfl,f1⟩:=Py i k;obtain⟨rfl,f2⟩:=BJ j m;exact⟨l,f,y,rfl,rfl,h,f1,f2,q _ (.int _)⟩
 .cases e
@[simp]noncomputable def pK(U:ai)(i:Nat):Option (Bool×List PyData):=match U[i]? with
 |some (some (.own io (.l ds)))=>some (io,ds)
 |_=>none
theorem PC(h:pK U i=some (io,d)):U[i]? = some (some (.own io (.l d))):=by
 unfold pK at h;split at h
 .rename_i e;cases h;exact e
 .cases h
@[simp] def eI:=gI fun i j=>.int (i+j)
@[simp] def ji:=gI fun i j=>.int (i - j)
@[simp] def jU:=pC lL fun i j=>.int (i * j)
@[simp] def jo:=pC nv fun i j=>.int (i % j)
@[simp] def jq:=gI fun i j=>.bool (decide (i<j))
@[simp] def lV:=gI fun i j=>.bool (decide (i<=j))
@[simp] def kM:=gI fun i j=>.bool (decide (j<i))
theorem eS(d:FE X F E a ma)(f:FE X F E b mb):FE X F E (.BinOp a .Add b pos) (aj eI ma mb):=gT kH (Ob d f)
theorem lW(d:FE X F E a ma)(f:FE X F E b mb):FE X F E (.BinOp a .Sub b pos) (aj ji ma mb):=gT kH (Oc d f)
theorem pL(d:FE X F E a ma)(f:FE X F E b mb):FE X F E (.BinOp a .Mult b pos) (aj jU ma mb):=gT (wv OD) (Od d f)
theorem nM(d:FE X F E a ma)(f:FE X F E b mb):FE X F E (.BinOp a .Mod b pos) (aj jo ma mb):=gT (wv OF) (Oe d f)
theorem BL(d:FE X F E a ma)(f:FE X F E b mb):FE X F E (.BinOp a .Add b pos) (aj pD ma mb):=gT OI (Of d f)
theorem PD(d:FE X F E a ma)(f:FE X F E b mb):FE X F E (.BinOp a .Add b pos) (aj sg ma mb):=gT OJ (Oy d f)
theorem PH(d:FE X F E a ma)(f:FE X F E b mb):FE X F E (.Compare a [.Lt] [b] pos) (aj jq ma mb):=gT kH (Og d f)
theorem PJ(d:FE X F E a ma)(f:FE X F E b mb):FE X F E (.Compare a [.LtE] [b] pos) (aj lV ma mb):=gT kH (Oh d f)
theorem PL(d:FE X F E a ma)(f:FE X F E b mb):FE X F E (.Compare a [.Gt] [b] pos) (aj kM ma mb):=gT kH (Oi d f)
theorem lZ(d:FE X F E a ma)(f:FE X F E b mb):FB X F E (.Compare a [.Lt] [b] pos) (aQ (aj jq ma mb)):=kG kH (Oj d f)
theorem sF(d:FE X F E a ma)(f:FE X F E b mb):FB X F E (.Compare a [.LtE] [b] pos) (aQ (aj lV ma mb)):=kG kH (Ol d f)
theorem pM(d:FE X F E a ma)(f:FE X F E b mb):FB X F E (.Compare a [.Gt] [b] pos) (aQ (aj kM ma mb)):=kG kH (Om d f)
theorem nN(d:X.A.units+64<cLine)(f:FE X F E a ma)(g:FE X F E b mb):FE X F E (.Compare a [.Eq] [b] pos) (aj (aT false) ma mb):=gT wx (Oo d f g)
theorem eT(d:X.A.units+64<cLine)(f:FE X F E a ma)(g:FE X F E b mb):FB X F E (.Compare a [.Eq] [b] pos) (aQ (aj (aT false) ma mb)):=kG wx (Op d f g)
theorem pN(d:X.A.units+64<cLine)(f:FE X F E a ma)(g:FE X F E b mb):FB X F E (.Compare a [.NotEq] [b] pos) (aQ (aj (aT true) ma mb)):=kG wx (Oq d f g)
theorem wW(d:FE X F E a ma)(f:FE X F E b mb):FE X F E (.Compare a [.IsNot] [b] pos) (aj gU ma mb):=gT AZ (pc zt Ag d f (bq _))
theorem wX(d:FE X F E a ma)(f:FE X F E b mb):FB X F E (.Compare a [.Is] [b] pos) (aQ (aj lM ma mb)):=kG OH (Ot d f)
theorem sG(d:FE X F E a ma)(f:FE X F E b mb):FB X F E (.Compare a [.IsNot] [b] pos) (aQ (aj gU ma mb)):=kG AZ (Ou d f)
theorem PM(d:FE X F E a ma)(h:FE X F E b mb)(f:FE X F E c mc)(g:lastMarks [.LtE,.LtE] [b,c]=false:=by with_unfolding_all rfl):FE X F E (.Compare a [.LtE,.LtE] [b,c] pos) (ny (fun i j=>decide (i<=j)) (fun i j=>decide (i<=j)) ma mb mc):=ON (Ov d h f g)
@[simp] def aM:PyData->PyData->Option PyData:=fun x y=>match x,y with
 |.tuple ds,.int i=>bA ds i
 |.list ds,.int i=>bA ds i
 |_,_=>none
def BM:D2:=fun x y Q=>Ah x y Q\/Ai x y Q
theorem PN{K}:ft (fun x y H Q=>vE K x y H Q\/vD K x y H Q) BM where
 mn:=fun x y Q Q' k h=>h.imp (Aj (K:=K).mn x y Q Q' k) (Ak (K:=K).mn x y Q Q' k)
 ok:=fun O H u v x y Q hO h1 h2 h=>h.imp (Aj.ok O H u v x y Q hO h1 h2) (Ak.ok O H u v x y Q hO h1 h2)
theorem PO:F2 BM aM:=fun x y d Q e q=>by
 unfold aM at e;split at e
 .exact .inl ⟨_,_,_,rfl,rfl,e,q⟩
 .exact .inr ⟨_,_,_,rfl,rfl,e,q⟩
 .cases e
theorem aU(d:FE X F E a ma)(g:FE X F E b mb)(f:lG b:=by intro _ _;rfl):FE X F E (.Subscript a b pos) (aj aM ma mb):=gT PO (LW (jH.or KW oP) PN d g f)
noncomputable def wY:Expr->Bool
 |.Starred ..=>true
 |_=>false
theorem wZ(h:wY e=false):starEach (e::b) a=(false,eval e a)::starEach b a:=by cases e<;>first |rfl |cases h
theorem aB(g:FE X F E e d)(h:FA X F E es f)(i:autoParam (wY e=false) Zq._auto_1):FA X F E (e::es) (av d f):=OO g h (wZ i)
theorem ag(g:FE X F E e d)(h:FX X F E es f)(i:autoParam (wY e=false) Zq._auto_1):FX X F E (e::es) (af d f):=OV g h (wZ i)
theorem cU(f:PE X (.Name x p) (bQ j))(g:FX X F E es d):FX X F E (.Name x p::es) (cK j d):=OW f g (wZ rfl)
@[simp] def BN:=pC sf fun i j=>.int (i ^ j.toNat)
theorem PP(d:FE X F E a ma)(f:FE X F E b mb):FE X F E (.BinOp a .Pow b pos) (aj BN ma mb):=gT (wv OG) (Oz d f)
def BO:DN:=fun d Q=>∃i j:Int,d=[.int i,.int j]/\Q (.int (min i j))
theorem PQ:iQ (fun xs H Q=>∃i j,xs=[.int i,.int j]/\Q (.int (if j<i then j else i)) H) BO where
 mn:=fun _ _ _ k zq1a=>by obtain⟨i,j,e,q⟩:=zq1a;exact⟨i,j,e,k _ q⟩
 ok:=fun O H vs xs Q hO hd zq2a=>by
  obtain⟨i,j,e,q⟩:=zq2a;subst e;obtain⟨x,y,rfl,h1,h2⟩:=lK hd;have e:(if j<i then j else i)=min i j:=by split<;>lia
  exact⟨i,j,by rw[h1.int_inv,h2.int_inv],by rw[e];exact q _ H (fun _ _ h=>h) (.int _)⟩
@[simp]noncomputable def xa:List PyData->Option PyData:=fun d=>match d with
 |[.int i,.int j]=>some (.int (min i j))
 |_=>none
theorem PR:FN BO xa:=fun f d Q e q=>by
 unfold xa at e;split at e
 .cases e;exact⟨_,_,rfl,q⟩
 .cases e
def BP(t:dI):dJ:=fun U Q=>t U fun f d=>∃i j:Int,f=[.int i,.int j]/\(-(2 ^ 62)<=i/\i<2 ^ 62/\-(2 ^ 62)<=j/\j<2 ^ 62)/\Q (intsFrom i (j - i).toNat) d
theorem PU{pos:Pos}{r}{p}(s:Gl X "range")(t:X.mg "range" = none)(l:DA X F [a,b] o)(u:autoParam (starEach [a,b] X.env=[(false,eval a X.env),(false,eval b X.env)]) Zq._auto_1)(m:autoParam (starEach [b] X.env=[(false,eval b X.env)]) Zq._auto_1):DI X F r (.Call (.Name "range" p) [a,b] [] pos) (BP o):=
 ⟨fun _ _ _ k q=>l.mn _ _ _ (fun _ _ d=>by obtain⟨i,j,e,h,q⟩:=d;exact⟨i,j,e,h,k _ _ q⟩) q,(JY s t l.pa u m).imp fun Y H R f=>by obtain⟨U,O,st,q⟩:=f;exact 
  ⟨U,O,st,l.mn _ _ _ (fun I G g vs v w n z A=>by
   obtain⟨i,j,e,h,B⟩:=g;subst e;obtain⟨x,y,rfl,C,D⟩:=lK A;obtain rfl:=C.int_inv;obtain rfl:=D.int_inv;exact⟨i,j,rfl,h,B _ v w n z AF⟩) q⟩⟩
@[simp] def iZ:List PyData->Option (List PyData):=fun d=>match d with
 |[.int i,.int j]=>if (decide (-(2 ^ 62)<=i)&&decide (i<2 ^ 62)&&decide (-(2 ^ 62)<=j)&&decide (j<2 ^ 62))=true then some (intsFrom i (j - i).toNat) else none
 |_=>none
theorem PV(h:DI X F f e (BP (wp E ma))):FI X F E f e (eQ iZ ma):=h.imp az fun U Q q=>az _ _ _ (fun k j g=>by
 obtain⟨y,d,i⟩:=cJ g;unfold iZ at d;split at d
 .split at d
  .rename_i h;cases d;simp only[q0S,decide_eq_true_eq]at h;exact⟨_,_,rfl,⟨h.1.1.1,h.1.1.2,h.1.2,h.2⟩,i⟩
  .cases d
 .cases d) (bu q)
@[simp]noncomputable def pO{α:Type}:XM α:=fun _=>.bad
theorem BQ:FO X F E e pO:=⟨az,fun _ _ _ _ _ _ d=>by obtain⟨_,_,_,q⟩:=d;exact q.elim⟩
def BR:DN:=fun f Q=>(∃d,f=[.list d]/\Q (.list d))\/∃d,f=[.tuple d]/\Q (.list d)
theorem PX{K}:iQ (fun xs H Q=>∃p ys,xs=[.ref p]/\(dE K H p ys\/dg K H p ys)/\∀l,H l=none->Q (.ref l) (aI H l (.lst ys))) BR where
 mn:=fun _ _ _ k q=>q.imp (fun zq1a=>by obtain⟨i,e,q⟩:=zq1a;exact⟨i,e,k _ q⟩) fun zq2a=>by obtain⟨i,e,q⟩:=zq2a;exact⟨i,e,k _ q⟩
 ok:=fun O H vs xs Q hO hd q=>by
  rcases q with⟨ds,e,q⟩ |⟨ds,e,q⟩
  .subst e;obtain⟨x,rfl,h1⟩:=gS hd;obtain⟨a,ys,rfl,ha,hy⟩:=h1.lst_inv;exact⟨a,ys,rfl,.inl (.of (dH ha).1),fun p hp=>q _ _ (bR hp) (kB hp (hO p hp) hy)⟩
  .subst e;obtain⟨x,rfl,h1⟩:=gS hd;obtain⟨a,ys,rfl,ha,hy⟩:=h1.tup_inv;exact⟨a,ys,rfl,.inr (.inl (gM ha).1),fun p hp=>q _ _ (bR hp) (kB hp (hO p hp) hy)⟩
@[simp]noncomputable def xb:List PyData->Option PyData:=fun d=>match d with
 |[.list ds]=>some (.list ds)
 |[.tuple ds]=>some (.list ds)
 |_=>none
theorem PY:FN BR xb:=fun f d Q e q=>by
 unfold xb at e;split at e
 .cases e;exact .inl ⟨_,rfl,q⟩
 .cases e;exact .inr ⟨_,rfl,q⟩
 .cases e
theorem PZ:eval (.Call (.Subscript a b p) args f pos) d=(do
  callWith pos (<-eval (.Subscript a b p) d) [] (backTo pos (starEach args d)) (backToKw pos (keywordEach f d))):=rfl
theorem Qa(q:wp E (aF g ma) U Q):wl g E (wp E ma) U Q:=az _ _ _ (fun as j d=>by
 unfold wp jS at d;unfold gR;cases i:gQ j as with
 |none=>rw[i]at d;exact d
 |some p=>
  obtain⟨l,m⟩:=p;rw[i]at d;simp only at d ⊢;cases h:g l with
  |rt c f=>rw[h]at d;exact d
  |ex c f=>rw[h]at d;exact d
  |bad=>rw[h]at d;exact d) (bu (k:=jS g) q)
theorem BS(i:Gl X x)(j:X.mg x=some (.ref g))(d:autoParam ((x==("__debug__":Str))=false) Zr._auto_1):PE X (.Name x p) (fun Y H Q=>Q (.ref g) H):=
 fun f s Y H Q I h=>mZ I i j ⟨.ref g,H,I,rfl,h⟩ d
@[simp] def eh(f g:FM)(ma:XM (List AX))(d:PyData):XM aa:=match d with
 |.int 0=>aF f ma
 |.int 1=>aF g ma
 |_=>pO
@[simp] def xc(f g:FM)(d:XM PyData)(ma:XM (List AX)):XM aa:=fun U=>(d U).bind (eh f g ma)
theorem BT{Y:St}(M:fc X F E)(G:bU X.prog X.w X.K X.mg X.base (dt X.prog X.w) k g1 fd1 ps1 (fu X.K X.mg f1))(N:bh k X.A)(R:keepIn X.K (.ref g1)=true)(hb:gL X.K fd1 ps1 [])
  (D:FX X F E (e::es) mX) (S:starEach (e::es) X.env=(false,eval e X.env)::starEach es X.env) (p:(backTo pos (starEach es X.env)).any (·.1)=false)
  (I:Inv X d Y H s) (st:aC X.K F H Y U O) (q:wp E (aF f1 mX) U Q) (T:∀c n,Q c n->∀v j o t,gy X.K F j Y n o v c t->aK O H o j->C v j) :
  wpAny (model X.prog X.w) X.A (callWith pos (.ref g1) [] (backTo pos (starEach (e::es) X.env)) (backToKw pos (keywordEach [] X.env))) (EP X d Y C) X.xe s:=by
 have Z:=Qa q;refine q1D (h₀:=X.base) I.ok.mod.kin R (aL (D.pa pos d s Y H (fun vs l=>∃as m g,aC X.K F l Y m g/\aK O H g l/\cT Y (al g l) vs as/\gR f1 E Q as m) I ⟨U,O,st,D.mn _ _ _ (fun as m u vs l g f J y=>⟨as,m,g,f,J,y,u⟩) Z⟩) fun us J L=>⟨by obtain⟨_,_,z,_⟩:=L;exact z.kIn,?_⟩) S p;obtain⟨vs,l,z,r,as,m,g,f,B,y,u⟩:=L;exact rX M G N hb z r f y u fun c n h v j o t res s2=>T c n h v j o t res (B.trans s2)
theorem BU{pos:Pos}{p1:Pos}{p2:Pos}{lp:Pos}{sp:Pos}(hx:fc X F E)(G1:bU X.prog X.w X.K X.mg X.base (dt X.prog X.w) k g1 fd1 ps1 (fu X.K X.mg f1))(L:bh k X.A)(M:Gl X x1)(N:X.mg x1=some (.ref g1))(eR:keepIn X.K (.ref g1)=true)(R:gL X.K fd1 ps1 [])
  (G2:bU X.prog X.w X.K X.mg X.base (dt X.prog X.w) k' g2 fd2 ps2 (fu X.K X.mg f2)) (S:bh k' X.A) (T:Gl X x2) (Z:X.mg x2=some (.ref g2)) (nH:keepIn X.K (.ref g2)=true) (a0:gL X.K fd2 ps2 [])
  (hi:FE X F E i mi) (ha:FX X F E (e::es) mX) (hs:lG i:=by intro _ _;rfl) (a1:autoParam ((x1==("__debug__":Str))=false) Zr._auto_1) (a2:autoParam ((x2==("__debug__":Str))=false) Zr._auto_1)
  (he:autoParam (starEach (e::es) X.env=(false,eval e X.env)::starEach es X.env) Zq._auto_1) (z:autoParam ((backTo pos (starEach es X.env)).any (·.1)=false) Zq._auto_1)
  (a3:autoParam (starEach [.Name x1 p1,.Name x2 p2] X.env=(false,eval (.Name x1 p1) X.env)::starEach [.Name x2 p2] X.env) Zq._auto_1) (a4:autoParam (starEach [.Name x2 p2] X.env=(false,eval (.Name x2 p2) X.env)::starEach [] X.env) Zq._auto_1) :
  FO X F E (.Call (.Subscript (.List [.Name x1 p1,.Name x2 p2] lp) i sp) (e::es) [] pos) (xc f1 f2 mi mX):=by
 refine⟨az,fun B s Y H Q I C=>?_⟩;obtain⟨U,O,st,q⟩:=C;rw[PZ];refine aH ?_;have pl:=oN (pos:=lp) (dO (BS (p:=p1) M N a1) (dO (BS (p:=p2) T Z a2) eM a4) a3);refine aL ((oO (pos:=sp) oP pl hi.pe hs) B s Y H (fun v t=>∃n o,aC X.K F t Y n o/\aK O H o t/\((v=.ref g1/\wp E (aF f1 mX) n (fun c D=>∀v f m r,gy X.K F f Y D m v c r->aK O H m f->Q v f))\/(v=.ref g2/\wp E (aF f2 mX) n (fun c D=>∀v f m r,gy X.K F f Y D m v c r->aK O H m f->Q v f)))) I ?_) fun u s1 ⟨v,t,I1,r1,n,o,g,G,l⟩=>?_
 .refine⟨show 2<=sizeLine by decide,fun p hp=>⟨U,O,st.grow (bR hp),az _ _ _ (fun d n l w t o g s1 d1=>?_) (bu (k:=eh f1 f2 mX) q)⟩⟩;have J:t p=some (.lst [.ref g1,.ref g2]):=by
   have h0:al O (aI H p (.lst [.ref g1,.ref g2])) p=some (.lst [.ref g1,.ref g2]):=by unfold al;rw[if_neg (st.nofree p hp),cc]
   exact(dH (s1.hid _ _ h0)).1
  have y:aK O H o t:=(aK.same (bR hp)).trans s1;cases d with
  |int j=>
   have:=d1.int_inv;subst this
   by_cases e0:j=0
   .subst e0;exact⟨p,_,0,.ref g1,rfl,rfl,.of J,rfl,n,o,g,y,.inl ⟨rfl,l⟩⟩
   .by_cases e1:j=1
    .subst e1;exact⟨p,_,1,.ref g2,rfl,rfl,.of J,rfl,n,o,g,y,.inr ⟨rfl,l⟩⟩
    .have eb:eh f1 f2 mX (.int j)=pO:=by
      unfold eh;split
      .rename_i h;cases h;exact absurd rfl e0
      .rename_i h;cases h;exact absurd rfl e1
      .rfl
     rw[eb]at l;exact l.elim
  |_=>exact l.elim
 .rcases l with⟨rfl,l⟩ |⟨rfl,l⟩
  .cases r1;exact BT hx G1 L eR R ha he z I1 g l fun c D h v f m r res y=>h v f m r res (G.trans y)
  .cases r1;exact BT hx G2 S nH a0 ha he z I1 g l fun c D h v f m r res y=>h v f m r res (G.trans y)
noncomputable def bI(f:Str)(v:Fl):List (Str×Fl)->List (Str×Fl)
 |[]=>[(f,v)]
 |(g,x)::r=>if g=f then(g,v)::r else(g,x)::bI f v r
noncomputable def gX:Option Fl->Bool
 |none=>true
 |some (.d _)=>true
 |_=>false
def bX(C:Addr)(U:ai)(i:Nat):Option (Bool×List (Str×Fl)):=match U[i]? with
 |some (some (.own io (.o a fs)))=>if a = C then some (io,fs) else none
 |_=>none
theorem jr(h:bX C U i=some (io,fs)):U[i]? = some (some (.own io (.o C fs))):=by
 unfold bX at h;split at h
 .rename_i e;split at h
  .rename_i a;cases h;rw[e,a]
  .cases h
 .cases h
theorem pP(h:bd G H b fs a)(f):(b.lookup f=none/\fs.lookup f=none)\/∃v x c,b.lookup f=some v/\fs.lookup f=some x/\gw G H v x c/\c∈a:=by
 induction h with
 |nil=>exact .inl ⟨rfl,rfl⟩
 | @cons n v x c b fs a g s i=>
  by_cases e:f=n
  .subst e;exact .inr ⟨v,x,c,by simp[List.lookup],by simp[List.lookup],g,q0g⟩
  .have j:(f==n)=false:=by simpa using e
   rw[q0m,q0m,j];rcases i with q |⟨k,l,d,m,o,p,r⟩
   .exact .inl q
   .exact .inr ⟨k,l,d,m,o,p,bG _ r⟩
theorem BV{α:Type}:∀{W:List (List α)}{i:Nat}{l},W.flatten.Nodup->W[i]? = some l->l.Nodup
 |w::W,0,l,nd,h=>by simp only[q2p,q0N]at h;subst h;rw[q0e]at nd;exact(q0f.mp nd).1
 |w::W,i+1,l,nd,h=>by rw[q0e]at nd;exact BV (q0f.mp nd).2.1 (by simpa using h)
theorem aC.boxN{K}(st:aC K F H Y U O)(e:U[i]? = some (some (.own io b))):∃a n,Y[i]? = some (some (.ref a))/\fK (al O H) H a b n/\(∀c∈n,c∈O)/\n.Nodup/\
  ∀g  x  f,(∀c o,c∉n->H c=some o->g c=some o)->f.Nodup->(∀c∈f,c∈n\/H c=none)->(∀G,(∀r,aK O H r g->G=al r g->(∀c∈f,c∈r)->bP (al O H) G/\fK G g a x f))->
   ∃r,aC K F g Y (U.set i (some (.own io x))) r/\aK O H r g/\(∀c∈r,c∈f\/c∈O):=by
 obtain⟨W,st,rfl⟩:=st;obtain⟨v,n,y,p,a,rfl,L⟩:=st.at_ i _ e;have E:i<U.length:=(q0a.mp e).1;have A:i<W.length:=by rw[st.lw];exact E
 refine⟨a,n,y,L,fun c d=>bj _ (bS p d),(BV (q0f.mp st.nd).1 p),fun g x f keep T B X=>?_⟩;have t:W.flatten.Nodup:=(q0f.mp st.nd).1;have I:∀c∈n,c∉F.O₀:=fun c d z=>(q0f.mp st.nd).2.2 c (bS p d) c z rfl;have M:∀j l c,j≠i->W[j]? = some l->c∈l->g c=H c:=fun j l c s m d=>by obtain⟨o,k,_⟩:=st.live c (bj _ (bS m d));rw[k];exact keep c o (fun z=>kz t m p s d z) k
 have N:∀c∈F.O₀,g c=H c:=fun c d=>by obtain⟨o,k,_⟩:=st.live c (bf _ d);rw[k];exact keep c o (fun z=>I c z d) k
 have ap:∀c∈f,(∀j l,j≠i->W[j]? = some l->c∉l)/\c∉F.O₀:=fun c d=>by
  rcases B c d with q |q
  .exact⟨fun j l s m z=>kz t p m (Ne.symm s) q z,I c q⟩
  .refine⟨fun j l _ m z=>?_,fun z=>?_⟩
   .obtain⟨o,k,_⟩:=st.live c (bj _ (bS m z));rw[q]at k;cases k
   .obtain⟨o,k,_⟩:=st.live c (bf _ z);rw[q]at k;cases k
 have frz:∀c o,c∉W.flatten++F.O₀->H c=some o->g c=some o:=fun c o d Q=>keep c o (fun z=>d (bj _ (bS p z))) Q;have C:aK (W.flatten++F.O₀) H ((W.set i f).flatten++F.O₀) g:=⟨frz,fun c h=>by
  rcases q0b.mp h with h |h
  .rcases fX h with h |⟨j,l,_,m,D⟩
   .exact(B c h).imp (fun z=>bj _ (bS p z)) id
   .exact .inl (bj _ (bS m D))
  .exact .inl (bf _ h)⟩
 have u:∀c∈f,c∈(W.set i f).flatten++F.O₀:=fun c d=>bj _ (Ad A d);have w:=(X _ _ C rfl u).2;obtain⟨J,R⟩:=st.put (H':=g) (i:=i) (v:=.ref a) (c:=.own io x) (fp:=f) E M N frz T ap (fun c d=>(B c d).imp (fun z=>bS p z) id) (fun c d=>w.live c d) (fun _=>⟨a,rfl,w⟩) (fun Z z=>by cases z;have:=st.io i b e;rw[y]at this;exact(q0n (q0n this)));have S:Y.set i (some (.ref a))=Y:=by
  apply q0U;intro j
  by_cases s:j=i
  .subst s;rw[q0q (q0a.mp y).1,y]
  .rw[q0r (Ne.symm s)]
 rw[S]at J;refine⟨_,⟨_,J,rfl⟩,R,fun c d=>?_⟩;rcases q0b.mp d with d |d
 .rcases fX d with d |⟨j,l,_,m,D⟩
  .exact .inl d
  .exact .inr (bj _ (bS m D))
 .exact .inr (bf _ d)
theorem bd.len(h:bd G H b fs a):b.length=fs.length:=by
 induction h with
 |nil=>rfl
 |cons _ _ c=>simp[c]
theorem bd.putD(h:bd G H s fs a)(i:gX (fs.lookup f)=true)(hd:DV r v d)(g:bP G r)(k:∀c∈a.flatten,p c=H c) :
  bd r p (cH f v s) (bI f (.d d) fs) (if (fs.lookup f).isSome=true then a else a++[[]]):=by
 induction h with
 |nil=>exact .cons ⟨rfl,hd⟩ .nil
 | @cons n w x I s fs a u A B=>
  unfold cH bI
  by_cases e:n=f
  .subst e;have C:List.lookup n ((n,x)::fs)=some x:=by simp[List.lookup]
   rw[C]at i ⊢;rw[if_pos rfl,if_pos rfl];have t:=A.keep (H':=p) (fun c j=>k c (by simp only[q0e,q0b];exact .inr j)) g;cases x with
   |d y=>obtain⟨rfl,_⟩:=u;exact .cons ⟨rfl,hd⟩ t
   |l ds=>cases i
   |m J D=>cases i
  .have E:(f==n)=false:=by simpa using fun z=>e z.symm
   rw[q0m,E]at i ⊢;rw[if_neg e,if_neg e];have o:=u.keep (H':=p) (fun c j=>k c (by simp only[q0e,q0b];exact .inl j)) g;have b:=B i fun c j=>k c (by simp only[q0e,q0b];exact .inr j);simp only at b ⊢;split
   .rename_i q;rw[if_pos q]at b;exact .cons o b
   .rename_i q;rw[if_neg q]at b;exact .cons o b
def cg(C:Addr)(i:Nat)(f:Str):XM PyData:=fun U=>match bX C U i with
 |some (_,fs)=>(match fs.lookup f with
  |some (.d d)=>.ok d U
  |_=>.bad)
 |none=>.bad
theorem cV(cl:di X.K C)(o:cP X.K C f)(r:PE X (.Name x p1) (bQ i))(G:autoParam (attributeBase (.Name x p1) f X.env (eval (.Name x p1) X.env)=eval (.Name x p1) X.env) Zq._auto_1):FE X F E (.Attribute (.Name x p1) f pos) (cg C i f):=
 ⟨az,(ng r G).imp fun Y H Q g=>by
  obtain⟨U,O,st,q⟩:=g;unfold wp cg at q;cases h:bX C U i with
  |none=>rw[h]at q;exact q.elim
  |some p=>
   obtain⟨io,fs⟩:=p;rw[h]at q;simp only at q;obtain⟨I,J,j,⟨s,t,u,L,w,M,z⟩,_,_⟩:=st.box (jr h);rcases pP z f with⟨n,k⟩ |⟨v,y,A,n,k,B,_⟩
   .rw[k]at q;exact q.elim
   .rw[k]at q;cases y with
    |d d=>exact⟨_,j,I,C,s,t,v,rfl,w,cl,o,n,q v H O st (.refl ..) B.2⟩
    |l ds=>exact q.elim
    |m N D=>exact q.elim⟩
def gY(C:Addr)(i:Nat)(f:Str)(d:PyData):SM:=fun U=>match bX C U i with
 |some (io,fs)=>if fs.length<1000/\gX (fs.lookup f)=true then .nx (U.set i (some (.own io (.o C (bI f (.d d) fs))))) else .bad
 |none=>.bad
def dq(C:Addr)(i:Nat)(f:Str)(m:XM PyData):SM:=fun U=>dz (m U) (gY C i f)
theorem BW(cl:di X.K C)(M:cP X.K C f)(N:PE X (.Name x p1) (bQ i))(Q:FE X F E e m)(R:autoParam (swapsWith e (some (.Attribute (.Name x p1) f h)) pos.line X.env=pure false) Zq._auto_1):FS X F E (.Assign [.Attribute (.Name x p1) f h] e pos) (dq C i f m):=
 (rF N Q.pe R).imp fun D Y H S=>by
 obtain⟨U,O,DD,st,q,T⟩:=S;exact⟨U,O,st,az _ _ _ (fun d Z g J H1 O1 t s1 d1=>by
  unfold wpS gY at g;cases u:bX C Z i with
  |none=>rw[u]at g;exact g.elim
  |some p=>
   obtain⟨io,fs⟩:=p;rw[u]at g;simp only at g
   by_cases j:fs.length<1000/\gX (fs.lookup f)=true
   .rw[if_pos j]at g;obtain⟨r,fp,v,⟨n,y,l,e1,e2,e3,L⟩,hO,nd,up⟩:=t.boxN (jr u);subst e1;obtain⟨A,_⟩:n≠r/\True:=⟨fun z=>by subst z;simp at nd,trivial⟩
    refine⟨_,v,r,C,n,y,rfl,e2,cl,M,by rw[L.len];exact j.1,?_⟩;obtain⟨O3,B,s3,_⟩:=up (aI H1 r (.ins C n (cH f J y))) (.o C (bI f (.d d) fs)) (r::n::l.flatten) (fun c o I e=>by rw[bn (fun z=>I (by simp[z]))];exact e) nd (fun c j=>.inl j) (fun G O' s hG _=>by
     subst hG;refine⟨s.hid,n,cH f J y,if (fs.lookup f).isSome=true then l else l++[[]],?_,cc,by rw[bn A];exact e3,?_⟩
     .split
      .rfl
      .simp
     .refine L.putD j.2 (DV.mono s.hid d1) s.hid fun c j=>bn (fun z=>?_);subst z;exact absurd j (by
       have:=(q0Q.mp nd).1;exact fun w=>this (bG _ w)))
    exact T.nx _ _ _ _ B (s1.trans s3) g
   .rw[if_neg j]at g;exact g.elim) (fA (m:=m) (k:=gY C i f) q)⟩
theorem BX(a:wp E (jS f as) d Q):gR f E Q as d:=by
 unfold wp jS at a;unfold gR;cases j:gQ d as with
 |none=>rw[j]at a;exact a
 |some p=>
  obtain⟨l,n⟩:=p;rw[j]at a;simp only at a ⊢;cases h:f l with
  |rt c b=>rw[h]at a;exact a
  |ex c b=>rw[h]at a;exact a
  |bad=>rw[h]at a;exact a
def dS(f:FM)(i:Nat)(as:List AX):XM aa:=jS f (.s i::as)
def ck(C:Addr)(i:Nat)(m:Str)(f:FM)(mX:XM (List AX)):XM aa:=fun U=>match bX C U i with
 |some (_,fs)=>if fs.lookup m=none then(mX U).bind (dS f i) else .bad
 |none=>.bad
theorem Qb{pos:Pos}{apos:Pos}{pl}(hx:fc X F E)(cl:di X.K C)(hm:iM X.K C m g)(G:bU X.prog X.w X.K X.mg X.base (dt X.prog X.w) k g fd ps (fu X.K X.mg f))(hr:bh k X.A)(hb:gL X.K fd ps [])(hv:PE X (.Name x p1) (bQ i))(ha:FX X F E (e::es) mX)
  (L:autoParam (starEach (e::es) X.env=(false,eval e X.env)::starEach es X.env) Zq._auto_1) (M:autoParam ((backTo pos (starEach es X.env)).any (·.1)=false) Zq._auto_1)
  (ht:autoParam (eval (.Call (.Attribute (.Name x p1) m apos) (e::es) [] pos) X.env=(do
   let ov <-eval (.Name x p1) X.env
   standAt apos.atName
   let(f,first) <-holding [ov] (getMethod ov m pl)
   callWith pos f first (backTo pos (starEach (e::es) X.env)) (backToKw pos (keywordEach [] X.env)))) Zq._auto_1) :
  FO X F E (.Call (.Attribute (.Name x p1) m apos) (e::es) [] pos) (ck C i m f mX):=by
 refine⟨az,fun a s Y H Q I l=>?_⟩;obtain⟨U,O,st,q⟩:=l;unfold wp ck at q;cases N:bX C U i with
 |none=>rw[N]at q;exact q.elim
 |some p=>
  obtain⟨io,fs⟩:=p;rw[N]at q;simp only at q
  by_cases R:fs.lookup m=none
  .rw[if_pos R]at q;obtain⟨d,D,n,⟨dx,gs,a2,e1,e2,e3,e4⟩,_,_⟩:=st.box (jr N);have hg:gs.lookup m=none:=by
    rcases pP e4 m with⟨l1,_⟩ |⟨_,_,_,_,l2,_⟩
    .exact l1
    .rw[R]at l2;cases l2
   refine q2A (pl:=pl) (aL (hv a s Y H (fun v o=>v=.ref d/\o=H) I ⟨_,n,rfl,rfl⟩) fun u S t=>?_) ht;obtain⟨v,o,I1,rx,ex,eH⟩:=t;subst ex eH;obtain rfl:u=Value.ref d:=rx;refine zC I1 e2 cl hm hg ?_;have q':=bu (E:=E) (m:=mX) (k:=dS f i) (U:=U) q;refine q1D (first:=[.ref d]) (h₀:=X.base) I.ok.mod.kin hm.kp (aL (ha.pa pos a S Y o (fun vs y=>∃as z j,aC X.K F y Y z j/\aK O o j y/\cT Y (al j y) vs as/\gR f E (fun c U'=>∀v B J D,gy X.K F B Y U' J v c D->aK O o J B->Q v B) (.s i::as) z) I1 ⟨U,O,st,ha.mn _ _ _ (fun as z T vs y j b S Z=>⟨as,z,j,b,S,Z,BX T⟩) q'⟩) fun us s2 zz=>⟨by obtain⟨_,_,I2,_⟩:=zz;exact I2.kIn,?_⟩) L M;obtain⟨vs,y,I2,r,as,z,j,b,a1,Z,T⟩:=zz;exact rX hx G hr hb I2 (vs:=V.ref d::vs) (us:=Value.ref d::us) (.cons (show aV (.ref d) (.ref d) from rfl) r) b (cT.s n Z) T fun c U' h v B J D res s2=>h v B J D res (a1.trans s2)
  .rw[if_neg R]at q;exact q.elim
def dU(C:Addr)(i:Nat)(m:Str)(f:FM):XM aa:=fun U=>match bX C U i with
 |some (_,fs)=>if fs.lookup m=none then jS f [.s i] U else .bad
 |none=>.bad
theorem Qc(J:fc X F E)(cl:di X.K C)(t:iM X.K C m g)(G:bU X.prog X.w X.K X.mg X.base (dt X.prog X.w) k g fd ps (fu X.K X.mg f))(L:bh k X.A)(hb:gL X.K fd ps [])(M:PE X (.Name x p1) (bQ i))
  (N:autoParam (eval (.Call (.Attribute (.Name x p1) m apos) [] [] pos) X.env=(do
   let y <-eval (.Name x p1) X.env
   standAt apos.atName
   let(f,first) <-holding [y] (getMethod y m pl)
   callWith pos f first (backTo pos (starEach [] X.env)) (backToKw pos (keywordEach [] X.env)))) Zq._auto_1) :
  FO X F E (.Call (.Attribute (.Name x p1) m apos) [] [] pos) (dU C i m f):=by
 refine⟨az,fun b s Y H Q I d=>?_⟩;obtain⟨U,O,st,q⟩:=d;unfold wp dU at q;cases n:bX C U i with
 |none=>rw[n]at q;exact q.elim
 |some p=>
  obtain⟨io,fs⟩:=p;rw[n]at q;simp only at q
  by_cases o:fs.lookup m=none
  .rw[if_pos o]at q;obtain⟨a,z,j,⟨dx,R,S,e1,T,e3,Z⟩,_,_⟩:=st.box (jr n);have hg:R.lookup m=none:=by
    rcases pP Z m with⟨l1,_⟩ |⟨_,_,_,_,B,_⟩
    .exact l1
    .rw[o]at B;cases B
   refine q2A (pl:=pl) (aL (M b s Y H (fun v D=>v=.ref a/\D=H) I ⟨_,j,rfl,rfl⟩) fun u s1 l=>?_) N;obtain⟨v,D,r,rx,ex,eH⟩:=l;subst ex eH;obtain rfl:u=Value.ref a:=rx;refine zC r T cl t hg ?_;refine PySem.W.callWith_K0 (first:=[.ref a]) r.kIn t.kp ?_;exact rX (vs:=[V.ref a]) (us:=[Value.ref a]) (as:=[.s i]) J G L hb r (.cons (show aV (.ref a) (.ref a) from rfl) .nil) st (cT.s j .nil) (BX q) fun c U' h v H' O' z res s2=>h v H' O' z res s2
  .rw[if_neg o]at q;exact q.elim
noncomputable def me(C:Addr)(f:FM)(a:List PyData):XM aa:=fun U=>match f (.own true (.o C [])::a.map .dat) with
 |.rt (.dat .none) [b]=>.ok (.own false b) U
 |.ex c _=>.ex c U
 |_=>.bad
def mh(C:Addr)(f:FM)(a:XM (List PyData)):XM aa:=fun U=>(a U).bind (me C f)
theorem Qd{K}:∀{vs a},aO (al O H) vs a->aS K H O vs (a.map .dat) (a.map fun _=>[]):=by
 intro vs a
 induction a generalizing vs with
 |nil=>intro h;cases h;exact .nil
 |cons d a b=>intro h;cases h with
  |cons h t=>exact .dat h (b t)
theorem Qe{a:Addr}{b:Bx}:∀{j:List PyData}{vs}{bs}{c},aZ H O vs (j.map aa.dat) bs c->bs=[]/\c=[]:=by
 intro j
 induction j with
 |nil=>intro vs bs c h;cases h;exact⟨rfl,rfl⟩
 |cons d j l=>intro vs bs c h;cases h with
  |skip _ h=>exact l h
theorem xf{α β:Type}:∀l:List α,(l.map fun _=>([]:List β)).flatten=[]
 |[]=>rfl
 |_::r=>by simp[xf r]
theorem xg{pos:Pos}{p:Pos}(hx:fc X F E)(M:Mk X.K C g)(G:bU X.prog X.w X.K X.mg X.base (dt X.prog X.w) k g fd ps (fu X.K X.mg f))(hr:bh (k+1) X.A)(hg:Gl X x)(hm:X.mg x=some (.ref C))(hb:gL X.K fd ps [])(l:FA X F E (e::es) mA)
  (b4:autoParam ((x==("__debug__":Str))=false) Zr._auto_1) (he:autoParam (starEach (e::es) X.env=(false,eval e X.env)::starEach es X.env) Zq._auto_1) (b5:autoParam ((backTo pos (starEach es X.env)).any (·.1)=false) Zq._auto_1) :
  FO X F E (.Call (.Name x p) (e::es) [] pos) (mh C f mA):=by
 refine⟨az,fun a0 s Y H Q I a8=>?_⟩;obtain⟨U,O,st,q⟩:=a8;refine wpAny_Call_Name_kw (mZ I hg hm ?_ b4);have q':=bu (E:=E) (m:=mA) (k:=me C f) (U:=U) q;refine q1D (h₀:=X.base) I.ok.mod.kin M.kp (aL (l.pa pos a0 s Y H (fun vs y=>∃T U1 t,aC X.K F y Y U1 t/\aK O H t y/\aO (al t y) vs T/\wp E (me C f T) U1 (fun c U'=>∀v n O' fp,gy X.K F n Y U' O' v c fp->aK O H O' n->Q v n)) I ⟨U,O,st,l.mn _ _ _ (fun T U1 D vs y t J L dv=>⟨T,U1,t,J,L,dv,D⟩) q'⟩) fun us L zz=>⟨by obtain⟨_,_,I1,_⟩:=zz;exact I1.kIn,?_⟩) he b5;obtain⟨vs,y,I1,r,T,U1,t,J,b6,dv,D⟩:=zz;let EX:XK:=fun C _ n=>∃c U' O',X.mg c=some C/\aC X.K F n Y U' O'/\E c U';have h:∀x j,y x=none->y j=none->j≠x->fu X.K X.mg f (.ref x::vs) (aI (aI y j (.own x)) x (.ins C j [])) (fun v H2=>v=.non/\Q (.ref x) H2) EX:=fun x j h1 h2 a1=>by
  obtain⟨W,a2,a9⟩:=id J;have a3:∀a∈t,∃o,y a=some o/\Mv o:=fun a h=>a2.live a (by rw[<-a9];exact h);have nx:x∉t:=fun z=>by obtain⟨o,e,_⟩:=a3 x z;rw[h1]at e;cases e
  have b7:j∉t:=fun z=>by obtain⟨o,e,_⟩:=a3 j z;rw[h2]at e;cases e
  have a4:t.Nodup:=by rw[a9];exact a2.nd
  have up:∀b o,y b=some o->aI (aI y j (.own x)) x (.ins C j []) b=some o:=fun b o e=>by rw[bn (fun z=>by subst z;rw[h1]at e;cases e),bn (fun z=>by subst z;rw[h2]at e;cases e)];exact e
  have fl:(([x,j]::T.map fun _=>([]:List Addr)).flatten++t)=x::j::t:=by rw[q0e,xf];rfl
  have hid:bP (al t y) (al (x::j::t) (aI (aI y j (.own x)) x (.ins C j []))):=fun b o e=>by
   obtain⟨Z,n1⟩:=dH e;refine ie (up b o Z) fun z=>?_;rcases q0d.mp z with z |z
   .subst z;rw[h1]at Z;cases Z
   .rcases q0d.mp z with z |z
    .subst z;rw[h2]at Z;cases Z
    .exact n1 z
  refine⟨(hx.1.at J).mono fun b u _ e=>up b u e,.own true (.o C [])::T.map .dat,[x,j]::T.map fun _=>[],t,?_,?_,?_,?_⟩
  .rw[fl];exact .own ⟨j,[],[],rfl,cc,by rw[bn a1,cc],.nil⟩ (Qd (aO.mono hid dv))
  .rw[fl];refine q0Q.mpr ⟨fun z=>?_,q0Q.mpr ⟨b7,a4⟩⟩;rcases q0d.mp z with z |z
   .exact a1 z.symm
   .exact nx z
  .rw[fl];intro a l;rcases q0d.mp l with rfl |l
   .exact⟨.ins C j [],cc,trivial⟩
   .rcases q0d.mp l with rfl |l
    .exact⟨.own x,by rw[bn a1,cc],trivial⟩
    .obtain⟨o,Z,e2⟩:=a3 a l;exact⟨o,up a o Z,e2⟩
  .unfold wp me at D;have hL:([x,j]::T.map fun _=>([]:List Addr)).flatten=[x,j]:=by rw[q0e,xf];rfl
   have b0:aC X.K (F.plus []) y Y U1 t:=J;have lift:∀(n:Hp) (L':List Addr),jM (aI (aI y j (.own x)) x (.ins C j [])) n [x,j] L' t->∃S,aC X.K (F.plus L') n Y U1 S/\aK t y S n/\(∀a∈L',a∈S)/\(∀a∈S,a∈L'\/a∈t)/\∀a∈L',a∈F.A₀\/F.H₀ a=none:=fun n L' B=>by
    have new1:∀a∈L',y a=none:=fun a l=>by
     rcases B.new a l with z |z
     .simp only[q0d,q1j,or_false]at z;rcases z with rfl |rfl
      .exact h1
      .exact h2
     .cases e:y a with
      |none=>rfl
      |some o=>rw[up a o e]at z;cases z
    obtain⟨S,t1,t2,t3,t4,_⟩:=b0.swap (L':=L') (H':=n) (fun b o _ e=>B.keep b o (fun z=>by
     simp only[q0d,q1j,or_false]at z;rcases z with rfl |rfl
     .rw[h1]at e;cases e
     .rw[h2]at e;cases e) (up b o e)) (q0f.mp B.nd).1 (fun a l=>.inr (new1 a l)) (fun a h=>by cases h) B.live
    refine⟨S,t1,t2,t3,fun a l=>(t4 a l).imp id (·.1),fun a l=>?_⟩
    by_cases hA:a∈F.A₀
    .exact .inl hA
    .refine .inr ?_;cases e:F.H₀ a with
     |none=>rfl
     |some o=>have:=a2.kept a o hA e;rw[new1 a l]at this;cases this
   cases hf:f (.own true (.o C [])::T.map .dat) with
   |bad=>rw[hf]at D;exact D
   |ex c N=>rw[hf]at D;intro C' n b1 a5 b2 B;rw[hL]at B;obtain⟨S,t1,t2,t3,t4,t5⟩:=lift n [] ⟨a4,fun a h=>(by cases h),B.keep,fun a h=>(by cases h)⟩;exact⟨c,U1,S,a5,t1,D⟩
   |rt c N=>
    rw[hf]at D;intro v n fp b1 b8 b2 B;rw[hL]at B;obtain⟨b',rfl,rfl⟩:∃b',c=.dat .none/\N=[b']:=by
     cases c with
     |dat d=>cases d with
      |none=>cases N with
       |nil=>exact D.elim
       |cons b r=>cases r with
        |nil=>exact⟨b,rfl,rfl⟩
        |cons _ _=>exact D.elim
      |_=>exact D.elim
     |_=>exact D.elim
    .
     have hv:v=.non:=DV.non_inv b8;cases b2 with
     |skip b9 _=>exact absurd rfl (b9 _ _)
     | @own _ _ _ _ a6 _ _ _ c2 b3 a7=>
      obtain⟨_,rfl⟩:=Qe (a:=0) (b:=b') a7;refine⟨hv,?_⟩;simp only[q0e,q2q,q0B]at b3 B;have c0:jM (aI (aI y j (.own x)) x (.ins C j [])) n [x,j] a6 t:=⟨by
       have n1:=B.nd;rw[q0t]at n1;obtain⟨m1,m2,m3⟩:=q0f.mp n1;exact q0f.mpr ⟨m1,a4,fun a l b hb=>m3 a l b (bf _ hb)⟩,fun a l=>B.live a (bj _ l),B.keep,fun a l=>B.new a (bj _ l)⟩
      obtain⟨S,t1,t2,t3,t4,t5⟩:=lift n a6 c0;refine D (.ref x) n S a6 ⟨t1,⟨x,rfl,b3.keep (fun _ _=>rfl) (rO fun a l=>?_)⟩,t5⟩ (b6.trans t2);rcases t4 a l with z |z
      .exact bj _ (bj _ z)
      .exact bf _ z
 have hq:=h (L.heap.objs.size+1) L.heap.objs.size (I1.hok.fresh (q1t _)) (I1.hok.fresh (be _)) (q0v (q1h _));have I2:=Inv.made (C:=C) I1;have r2:bp (V.ref (L.heap.objs.size+1)::vs) (Value.ref (L.heap.objs.size+1)::us):=.cons rfl r;have hl:(Value.ref (L.heap.objs.size+1)::us++[]).length=ps.length:=by have e:=r2.length;rw[G.len _ _ _ _ hq]at e;rw[q0B];exact e.symm
 refine wpAny_call (Ku (f:=g) I1.kIn M.makes M.init (beq_iff_eq.mp M.fn) (codeAny_mono (G.run _ X.stack _ _ ⟨Value.ref (L.heap.objs.size+1)::us,[]⟩ (Value.ref (L.heap.objs.size+1)::us) _ _ EX (hr.make C us [])
  (I2.env0.make C us []) (by have:=hb _ (Value.ref (L.heap.objs.size+1)::us) I2.kIn hl;rw[q0B]at this;exact this) r2 hq) fun r s' R=>?_))
 cases r with
 |error e=>obtain⟨a,C',n,Z,I',cv,ex,c,U',O',a5,c1,hE⟩:=I2.flies R;exact hx.2 a0 Y n s' e c U' O' ⟨I',a,C',_,_,Z,cv,ex,a5⟩ c1 hE
 |ok fl=>
  cases fl with
  |ret u=>obtain⟨v,n,I3,rv,ev,q3⟩:=I2.after R;subst ev;exact⟨rv,⟨V.ref (L.heap.objs.size+1),n,I3,rfl,q3⟩⟩
  |next=>exact False.elim R
  |brk=>exact False.elim R
  |cont=>exact False.elim R
noncomputable def xh:Fl->Bool
 |.d _=>false
 |_=>true
theorem Qf(h:gw G H v x f)(g:xh x=true):∃b,v=.ref b/\f=[b]:=by
 cases x with
 |d _=>cases g
 |l ds=>obtain⟨a,j,c,e,_⟩:=h;exact⟨a,c,e⟩
 |m k i=>obtain⟨a,c,e,_⟩:=h;exact⟨a,c,e⟩
theorem Qg(A:xh x=true):∀{m fs a},bd G H m fs a->fs.lookup f=some x->a.flatten.Nodup->
  ∃b,m.lookup f=some (.ref b)/\gw G H (.ref b) x [b]/\b∈a.flatten/\∀j l  o,bP G j->(∀c∈a.flatten,c≠b->l c=H c)->gw j l (.ref b) o [b]->bd j l m (bI f o fs) a:=by
 intro m fs a h
 induction h with
 |nil=>intro p;cases p
 | @cons n v y M m fs a q B C=>
  intro p w;rw[q0e]at w;obtain⟨N,D,s⟩:=q0f.mp w
  by_cases e:f=n
  .subst e;have E:y=x:=by simpa[List.lookup] using p
   subst E;obtain⟨b,rfl,rfl⟩:=Qf q A;refine⟨b,by simp[List.lookup],q,by simp,fun j l o g k d=>?_⟩;unfold bI;rw[if_pos rfl];refine .cons d (B.keep (fun c i=>k c (by rw[q0e];exact bf _ i) fun z=>?_) g);exact s b (by simp) c i z.symm
  .have t:(f==n)=false:=by simpa using e
   rw[q0m,t]at p;obtain⟨b,I,J,u,L⟩:=C p D;refine⟨b,by rw[q0m,t];exact I,J,by rw[q0e];exact bf _ u,fun j l o g k d=>?_⟩;unfold bI;rw[if_neg (fun z=>e z.symm)];refine .cons (q.keep (fun c i=>k c (by rw[q0e];exact bj _ i) fun z=>?_) g) (L j l o g (fun c i r=>k c (by rw[q0e];exact bf _ i) r) d);exact s c i b u z
theorem aC.fldUp{K}(st:aC K F H Y U O)(w:bX C U i=some (io,fs))(lk:fs.lookup f=some x)(y:xh x=true) :
  ∃a d h b,Y[i]? = some (some (.ref a))/\H a=some (.ins C d h)/\h.lookup f=some (.ref b)/\gw (al O H) H (.ref b) x [b]/\
   ∀g  j,Mv g->(∀G,bP (al O H) G->gw G (aI H b g) (.ref b) j [b])->∃k,aC K F (aI H b g) Y (U.set i (some (.own io (.o C (bI f j fs))))) k/\aK O H k (aI H b g):=by
 obtain⟨a,X,n,⟨d,h,l,A,v,B,D⟩,Z,nd,up⟩:=st.boxN (jr w);subst A;have m:=nd;rw[q0Q,q0Q]at m;obtain⟨E,p,I⟩:=m;obtain⟨b,J,L,q,M⟩:=Qg y D lk I;have N:a≠b:=fun z=>E (by rw[z];exact bG _ q);have Q:d≠b:=fun z=>p (by rw[z];exact q);refine⟨a,d,h,b,n,v,J,L,fun g j hM R=>?_⟩;obtain⟨k,r,S,_⟩:=up (aI H b g) (.o C (bI f j fs)) (a::d::l.flatten) (fun c o t e=>by rw[bn (fun z=>t (by rw[z];exact bG _ (bG _ q)))];exact e) nd (fun c t=>.inl t) (fun G k s T _=>by
  subst T;exact⟨s.hid,d,h,l,rfl,by rw[bn N];exact v,by rw[bn Q];exact B,M _ _ j s.hid (fun c _ u=>bn u) (R _ s.hid)⟩)
 exact⟨k,r,S⟩
def sH(C:Addr)(i:Nat)(f:Str)(d:PyData):SM:=fun U=>match bX C U i with
 |some (io,fs)=>(match fs.lookup f with
  |some (.l ds)=>if ds.length<sizeLine then .nx (U.set i (some (.own io (.o C (bI f (.l (ds++[d])) fs))))) else .bad
  |_=>.bad)
 |none=>.bad
noncomputable def fO(U:ai)(j:Nat):Option PyData:=match U[j]? with
 |some (some (.dat d))=>some d
 |_=>none
theorem pQ(h:fO U j=some d):U[j]? = some (some (.dat d)):=by
 unfold fO at h;split at h
 .rename_i e;cases h;exact e
 .cases h
def pR(C:Addr)(i:Nat)(f:Str)(j:Nat):SM:=fun U=>match fO U j with
 |some d=>sH C i f d U
 |none=>.bad
theorem Qh{F:Fx}{E:Str->ai->Prop}{pos:Pos}{apos:Pos}{cpos:Pos}{fpos:Pos}(cl:di X.K C)(S:cP X.K C f)(T:PE X (.Name x p1) (bQ i))(Z:PE X (.Name y k) (bQ j))(hb:autoParam (attributeBase (.Name x p1) f X.env (eval (.Name x p1) X.env)=eval (.Name x p1) X.env) Zq._auto_1)
  (B:autoParam (swapsWith (.Call (.Attribute (.Attribute (.Name x p1) f fpos) "append" apos) [.Name y k] [] cpos) none pos.line X.env=pure false) Zq._auto_1)
  (n:autoParam (attributeBase (.Attribute (.Name x p1) f fpos) "append" X.env (eval (.Attribute (.Name x p1) f fpos) X.env)=eval (.Attribute (.Name x p1) f fpos) X.env) Zq._auto_1)
  (t:autoParam (((backTo cpos (starEach [.Name y k] X.env)).all (fun x=>!x.1)&&(backToKw cpos (keywordEach [] X.env)).all (fun x=>x.1.isSome)&&decide (([.Name y k]:List Expr).length+([]:List Keyword).length+(if ([]:List Keyword).isEmpty then 0 else 1)<30))=true) Zq._auto_1)
  (o:autoParam ((apos.endLine==cpos.line)=true) Zq._auto_1) (Q:autoParam (starEach [.Name y k] X.env=(false,eval (.Name y k) X.env)::starEach [] X.env) Zq._auto_1) (h:autoParam ((backTo cpos (starEach [] X.env)).any (·.1)=false) Zq._auto_1) :
  FS X F E (.Expr (.Call (.Attribute (.Attribute (.Name x p1) f fpos) "append" apos) [.Name y k] [] cpos) pos) (pR C i f j):=
 (vi (vG q1F q2k q2l zQ (ng T hb) (dO Z eM Q) n t o Q h) B).imp fun D Y H u=>by
  obtain⟨U,O,DD,st,q,fD⟩:=u;unfold wpS pR at q;cases r:fO U j with
  |none=>rw[r]at q;exact q.elim
  |some d=>
   have hd:=pQ r;rw[r]at q;simp only at q;unfold sH at q;cases I:bX C U i with
   |none=>rw[I]at q;exact q.elim
   |some p=>
    obtain⟨io,fs⟩:=p;rw[I]at q;simp only at q;cases s:fs.lookup f with
    |none=>rw[s]at q;exact q.elim
    |some z=>
     rw[s]at q;cases z with
     |d _=>exact q.elim
     |m _ _=>exact q.elim
     |l ds=>
      simp only at q
      by_cases J:ds.length<sizeLine
      .rw[if_pos J]at q;obtain⟨a0,dx,gs,b0,L,e2,q1,⟨b1,A,eb,_,R,v⟩,up⟩:=st.fldUp I s rfl;cases eb;obtain⟨w,hw,M⟩:=st.dat hd;obtain⟨O2,N,s2⟩:=up (.lst (A++[w])) (.l (ds++[d])) trivial (fun G g=>⟨b0,A++[w],rfl,rfl,cc,(aO.mono g v).append (.cons (DV.mono g M) .nil)⟩);exact⟨_,L,a0,C,dx,gs,.ref b0,rfl,e2,cl,S,q1,.inl ⟨rfl,A,.of R⟩,w,hw,b0,A,w,rfl,rfl,R,by rw[v.length];exact J,fD.nx _ _ _ _ N s2 q⟩
      .rw[if_neg J]at q;exact q.elim
def pS(C:Addr)(i:Nat)(f:Str)(j l:Nat)(v:PyData):SM:=fun U=>match bX C U i,fO U j,fO U l with
 |some (io,fs),some y,some z=>(match fs.lookup f,gC true (.tuple [y,z]) with
  |some (.m true d),some k=>if d.length<sizeLine then .nx (U.set i (some (.own io (.o C (bI f (.m true (fB true d (.tuple [y,z]) k v)) fs))))) else .bad
  |_,_=>.bad)
 |_,_,_=>.bad
def sI(C:Addr)(i:Nat)(f:Str)(j l:Nat)(m:XM PyData):SM:=fun U=>dz (m U) (pS C i f j l)
theorem Qi{pos:Pos}{fpos:Pos}{p4 r}{kx}(hu:X.A.units+1<cLine)(cl:di X.K C)(na:cP X.K C f)(hv:PE X (.Name x p1) (bQ i))(hy:PE X (.Name y B) (bQ j))(hz:PE X (.Name z s) (bQ l))(he:FE X F E e m)(hb:autoParam (attributeBase (.Name x p1) f X.env (eval (.Name x p1) X.env)=eval (.Name x p1) X.env) Zq._auto_1)
  (h1:autoParam (starEach [.Name y B,.Name z s] X.env=(false,eval (.Name y B) X.env)::starEach [.Name z s] X.env) Zq._auto_1) (h2:autoParam (starEach [.Name z s] X.env=(false,eval (.Name z s) X.env)::starEach [] X.env) Zq._auto_1)
  (hs:autoParam (swapsWith e (some (.Subscript (.Attribute (.Name x p1) f fpos) (.Tuple [.Name y B,.Name z s] kx p4) r)) pos.line X.env=pure false) Zq._auto_1) :
  FS X F E (.Assign [.Subscript (.Attribute (.Name x p1) f fpos) (.Tuple [.Name y B,.Name z s] kx p4) r] e pos) (sI C i f j l m):=
 (zY hu (ng hv hb) (vz (dO hy (dO hz eM h2) h1)) he.pe hs).imp fun D Y H zz=>by
 obtain⟨U,O,DD,st,q,fD⟩:=zz;exact⟨U,O,st,az _ _ _ (fun v Q h vy H1 O1 n s1 d1=>by
  unfold wpS pS at h;cases w:bX C Q i with
  |none=>rw[w]at h;exact h.elim
  |some p=>
   obtain⟨io,fs⟩:=p;cases M:fO Q j with
   |none=>rw[w,M]at h;exact h.elim
   |some y0=>
    cases R:fO Q l with
    |none=>rw[w,M,R]at h;exact h.elim
    |some z0=>
     rw[w,M,R]at h;simp only at h;cases o:fs.lookup f with
     |none=>rw[o]at h;exact h.elim
     |some t=>
      rw[o]at h;cases t with
      |d _=>exact h.elim
      |l _=>exact h.elim
      |m tk I=>
       cases tk with
       |false=>exact h.elim
       |true=>
        cases S:gC true (.tuple [y0,z0]) with
        |none=>rw[S]at h;exact h.elim
        |some k=>
         rw[S]at h;simp only at h
         by_cases u:I.length<sizeLine
         .rw[if_pos u]at h;obtain⟨a0,dx,gs,b0,J,e2,l1,_,_⟩:=n.fldUp w o rfl;obtain⟨w1,T,Z⟩:=n.dat (pQ M);obtain⟨w2,a2,a3⟩:=n.dat (pQ R);refine⟨_,J,a0,C,dx,gs,.ref b0,rfl,e2,cl,na,l1,w1,T,w2,a2,show 2<=sizeLine by decide,fun p hp=>?_⟩;have N:bP H1 (aI H1 p (.tup [w1,w2])):=bR hp;have a4:=n.grow N;have hd:=oX (O:=O1) N;obtain⟨a1,a6,a7,b1,L,e3,l2,⟨b2,eb,_,dic⟩,up⟩:=a4.fldUp w o rfl;rw[J]at L;cases L;rw[N _ _ e2]at e3;cases e3;rw[l1]at l2;cases l2;cases eb;obtain⟨o',g1,mv,g2⟩:=BC dic kw (nk hp (n.nofree p hp) (.cons Z (.cons a3 .nil))) (DV.mono hd d1) S u;obtain⟨O3,a5,s3⟩:=up o' (.m true (fB true I (.tuple [y0,z0]) k v)) mv (fun G g=>⟨b0,rfl,rfl,g2 G g⟩);exact⟨b0,_,rfl,g1,fD.nx _ _ _ _ a5 (s1.trans ((aK.same N).trans s3)) h⟩
         .rw[if_neg u]at h;exact h.elim) (fA (m:=m) (k:=pS C i f j l) q)⟩
def pT(C:Addr)(i:Nat)(f:Str)(j:Nat):XM PyData:=fun U=>match bX C U i,fO U j with
 |some (_,fs),some (.int k)=>(match fs.lookup f with
  |some (.l ds)=>lift (bA ds k) U
  |some (.d (.list ds))=>lift (bA ds k) U
  |some (.d (.tuple ds))=>.bad
  |_=>.bad)
 |_,_=>.bad
theorem BY(h:aO G l g)(e:bA g k=some d):∃v,bA l k=some v/\DV G v d:=by
 unfold bA at e ⊢;rw[h.length];cases n:cI g.length k with
 |none=>rw[n]at e;cases e
 |some j=>rw[n]at e;exact h.get e
theorem Qj{F:Fx}{E:Str->ai->Prop}{pos:Pos}{fpos:Pos}(cl:di X.K C)(na:cP X.K C f)(hv:PE X (.Name x p1) (bQ i))(hy:PE X (.Name y A) (bQ j))(hb:autoParam (attributeBase (.Name x p1) f X.env (eval (.Name x p1) X.env)=eval (.Name x p1) X.env) Zq._auto_1)(hs:lG (.Name y A):=by intro _ _;rfl) :
  FE X F E (.Subscript (.Attribute (.Name x p1) f fpos) (.Name y A) pos) (pT C i f j):=
 ⟨az,(oO oP (ng hv hb) hy hs).imp fun Y H Q r=>by
  obtain⟨U,O,st,q⟩:=r;unfold wp pT at q;cases s:bX C U i with
  |none=>rw[s]at q;exact q.elim
  |some p=>
   obtain⟨io,fs⟩:=p;cases B:fO U j with
   |none=>rw[s,B]at q;exact q.elim
   |some y0=>
    rw[s,B]at q;cases y0 with
    |int k=>
     simp only at q;obtain⟨w,hw,dw⟩:=st.dat (pQ B);obtain rfl:=dw.int_inv;cases g:fs.lookup f with
     |none=>rw[g]at q;exact q.elim
     |some t=>
      rw[g]at q;cases t with
      |m _ _=>exact q.elim
      |l ds=>obtain⟨Z,D,G,b0,h,I,J,⟨L,M,eb,_,N,n⟩,_⟩:=st.fldUp s g rfl;cases eb;obtain⟨d,z,R⟩:=cJ (o:=bA ds k) (U:=U) (E:=E) q;obtain⟨v,S,T⟩:=BY n z;exact⟨_,h,Z,C,D,G,.ref b0,rfl,I,cl,na,J,_,hw,b0,M,k,v,rfl,rfl,.of N,S,R v H O st .refl T⟩
      |d x0=>
       cases x0 with
       |list ds=>
        obtain⟨Z,fp,h,⟨D,G,a1,z,I,e3,e4⟩,_,_⟩:=st.box (jr s);rcases pP e4 f with⟨_,u⟩ |⟨v,y1,a2,J,u,l3,_⟩
        .rw[g]at u;cases u
        .rw[g]at u;cases u;obtain⟨L,M,rfl,N,n⟩:=l3.2.lst_inv;obtain⟨d,z,R⟩:=cJ (o:=bA ds k) (U:=U) (E:=E) q;obtain⟨v,S,T⟩:=BY n z;exact⟨_,h,Z,C,D,G,.ref L,rfl,I,cl,na,J,_,hw,L,M,k,v,rfl,rfl,.of (dH N).1,S,R v H O st .refl T⟩
       |_=>exact q.elim
    |_=>exact q.elim⟩
def pU(C:Addr)(i:Nat)(f:Str)(j:Nat)(v:PyData):SM:=fun U=>match bX C U i,fO U j with
 |some (io,fs),some (.int k)=>(match fs.lookup f with
  |some (.l ds)=>(match cI ds.length k with
   |some n=>.nx (U.set i (some (.own io (.o C (bI f (.l (ds.set n v)) fs)))))
   |none=>.bad)
  |_=>.bad)
 |_,_=>.bad
def sJ(C:Addr)(i:Nat)(f:Str)(j:Nat)(m:XM PyData):SM:=fun U=>dz (m U) (pU C i f j)
theorem xi(hd:DV G v d):∀{g j} n,aO G g j->aO G (g.set n v) (j.set n d)
 |_,_,_,.nil=>.nil
 |_,_,0,.cons _ t=>.cons hd t
 |_,_,n+1,.cons h t=>.cons h (xi hd n t)
theorem Qk{pos:Pos}{fpos:Pos}{h}(cl:di X.K C)(Z:cP X.K C f)(hv:PE X (.Name x p1) (bQ i))(hy:PE X (.Name y r) (bQ j))(he:FE X F E e m)(hb:autoParam (attributeBase (.Name x p1) f X.env (eval (.Name x p1) X.env)=eval (.Name x p1) X.env) Zq._auto_1)
  (hs:autoParam (swapsWithSole [.Subscript (.Attribute (.Name x p1) f fpos) (.Name y r) h] e pos.line X.env=pure false) Zq._auto_1) (hw:autoParam (swappedStores [.Subscript (.Attribute (.Name x p1) f fpos) (.Name y r) h] e X.env=pure none) Zq._auto_1)
  (h1:autoParam ((assignEach [.Subscript (.Attribute (.Name x p1) f fpos) (.Name y r) h] X.env).map (·.2)=[assign (.Subscript (.Attribute (.Name x p1) f fpos) (.Name y r) h) X.env]) Zq._auto_1)
  (hq:autoParam (∀v,assign (.Subscript (.Attribute (.Name x p1) f fpos) (.Name y r) h) X.env v=(do
   let A <-holding [v] (eval (.Attribute (.Name x p1) f fpos) X.env);let I <-holding [v,A] (eval (.Name y r) X.env)
   standAt h
   holding [v,A,I] (setItem A I v)
   release [v,A,I] [])) Zs._auto_1) :
  FS X F E (.Assign [.Subscript (.Attribute (.Name x p1) f fpos) (.Name y r) h] e pos) (sJ C i f j m):=
 (vn he.pe (zg (ng hv hb) hy zO hq) hs hw h1).imp fun D Y H zz=>by
 obtain⟨U,O,DD,st,q,fD⟩:=zz;exact⟨U,O,st,az _ _ _ (fun v S o T H1 O1 u s1 d1=>by
  unfold wpS pU at o;cases B:bX C S i with
  |none=>rw[B]at o;exact o.elim
  |some p=>
   obtain⟨io,fs⟩:=p;cases J:fO S j with
   |none=>rw[B,J]at o;exact o.elim
   |some y0=>
    rw[B,J]at o;cases y0 with
    |int k=>
     simp only at o;cases s:fs.lookup f with
     |none=>rw[s]at o;exact o.elim
     |some t=>
      rw[s]at o;cases t with
      |d _=>exact o.elim
      |m _ _=>exact o.elim
      |l ds=>
       simp only at o;cases L:cI ds.length k with
       |none=>rw[L]at o;exact o.elim
       |some n=>rw[L]at o;obtain⟨w,M,dw⟩:=u.dat (pQ J);obtain rfl:=dw.int_inv;obtain⟨a0,dx,gs,b0,N,e2,l1,⟨b1,Q,eb,_,hH,z⟩,up⟩:=u.fldUp B s rfl;cases eb;obtain⟨O2,R,s2⟩:=up (.lst (Q.set n T)) (.l (ds.set n v)) trivial (fun G g=>⟨b0,Q.set n T,rfl,rfl,cc,xi (DV.mono g d1) n (aO.mono g z)⟩);exact⟨_,N,a0,C,dx,gs,.ref b0,rfl,e2,cl,Z,l1,_,M,b0,Q,k,n,rfl,rfl,hH,by rw[z.length];exact L,fD.nx _ _ _ _ R (s1.trans s2) o⟩
    |_=>exact o.elim) (fA (m:=m) (k:=pU C i f j) q)⟩
def sK(C:Addr)(i:Nat)(f:Str)(n:Int):SM:=fun U=>match bX C U i with
 |some (io,fs)=>(match fs.lookup f with
  |some (.d (.int v))=>if fs.length<1000 then .nx (U.set i (some (.own io (.o C (bI f (.d (.int (v+n))) fs))))) else .bad
  |_=>.bad)
 |none=>.bad
theorem Ql(cl:di X.K C)(Z:cP X.K C f)(hv:PE X (.Name x p1) (bQ i))(he:PE X e (fun Y H Q=>Q (.int n) H)):FS X F E (.AugAssign (.Attribute (.Name x p1) f k) .Add e pos) (sK C i f n):=
 (KA hv he KC).imp fun D Y H r=>by
  obtain⟨U,O,DD,st,q,fD⟩:=r;unfold wpS sK at q;cases B:bX C U i with
  |none=>rw[B]at q;exact q.elim
  |some p=>
   obtain⟨io,fs⟩:=p;rw[B]at q;simp only at q;cases g:fs.lookup f with
   |none=>rw[g]at q;exact q.elim
   |some t=>
    rw[g]at q;cases t with
    |l _=>exact q.elim
    |m _ _=>exact q.elim
    |d x0=>
     cases x0 with
     |int v0=>
      simp only at q
      by_cases I:fs.length<1000
      .rw[if_pos I]at q;obtain⟨A,fp,J,⟨j,y,h,e1,T,e3,L⟩,hO,nd,up⟩:=st.boxN (jr B);subst e1;have M:j≠A:=fun z=>by subst z;simp at nd
       rcases pP L f with⟨_,u⟩ |⟨v,y1,a1,l1,u,l3,_⟩
       .rw[g]at u;cases u
       .rw[g]at u;cases u;obtain rfl:=l3.2.int_inv;obtain⟨O3,N,s3,_⟩:=up (aI H A (.ins C j (cH f (.int (v0+n)) y))) (.o C (bI f (.d (.int (v0+n))) fs)) (A::j::h.flatten) (fun c o R e=>by rw[bn (fun z=>R (by simp[z]))];exact e) nd (fun c S=>.inl S) (fun G O' s hG _=>by
         subst hG;refine⟨s.hid,j,cH f (.int (v0+n)) y,if (fs.lookup f).isSome=true then h else h++[[]],?_,cc,by rw[bn M];exact e3,?_⟩
         .split
          .rfl
          .simp
         .refine L.putD (by rw[g];rfl) (.int _) s.hid fun c S=>bn (fun z=>?_);subst z;exact absurd S (fun w=>(q0Q.mp nd).1 (bG _ w)))
        exact⟨_,J,A,C,j,y,_,rfl,T,cl,Z,l1,v0,n,rfl,rfl,j,y,T,by rw[L.len];exact I,fD.nx _ _ _ _ N s3 q⟩
      .rw[if_neg I]at q;exact q.elim
     |_=>exact q.elim
theorem Qm:∀{b fs a},bd G H b fs a->fs.lookup f=none->bP G d->(∀c∈a.flatten,i c=H c)->gw d i (.ref p) y [p]->bd d i (cH f (.ref p) b) (bI f y fs) (a++[[p]]):=by
 intro b fs a h
 induction h with
 |nil=>exact fun _ _ _ h=>.cons h .nil
 | @cons n v z r b fs a m s o=>
  intro j g k h
  by_cases e:f=n
  .subst e;simp[List.lookup]at j
  .have q:(f==n)=false:=by simpa using e
   rw[q0m,q]at j;unfold cH bI;rw[if_neg (fun z=>e z.symm),if_neg (fun z=>e z.symm)];exact .cons (m.keep (fun c l=>k c (by rw[q0e];exact bj _ l)) g) (o j g (fun c l=>k c (by rw[q0e];exact bf _ l)) h)
theorem aC.fldNew{K}(st:aC K F H Y U O)(D:bX C U i=some (io,fs))(lk:fs.lookup f=none) :
  ∃a d g,Y[i]? = some (some (.ref a))/\H a=some (.ins C d g)/\g.length=fs.length/\
   ∀p  h  y,H p=none->Mv h->(∀G,bP (al O H) G->gw G (aI (aI H p h) a (.ins C d (cH f (.ref p) g))) (.ref p) y [p])->aI H p h a=some (.ins C d g)/\∃l,aC K F (aI (aI H p h) a (.ins C d (cH f (.ref p) g))) Y (U.set i (some (.own io (.o C (bI f y fs))))) l/\aK O H l (aI (aI H p h) a (.ins C d (cH f (.ref p) g))):=by
 obtain⟨a,T,n,⟨d,g,j,E,q,v,w⟩,I,nd,up⟩:=st.boxN (jr D);subst E;have m:=nd;rw[q0Q,q0Q]at m;obtain⟨r,t,J⟩:=m;have ad:d≠a:=fun z=>r (by rw[z];exact q0g);refine⟨a,d,g,n,q,w.len,fun p h y k X L=>?_⟩;have pa:a≠p:=fun z=>by subst z;rw[q]at k;cases k
 have A:d≠p:=fun z=>by subst z;rw[v]at k;cases k
 have M:=st.live;have B:p∉j.flatten:=fun z=>by exact absurd (I p (bG _ (bG _ z))) (st.nofree p k)
 refine⟨by rw[bn pa];exact q,?_⟩;obtain⟨l,u,N,_⟩:=up (aI (aI H p h) a (.ins C d (cH f (.ref p) g))) (.o C (bI f y fs)) (a::d::(j++[[p]]).flatten) (fun c o b e=>by
   rw[bn (fun z=>b (by simp[z])),bn (fun z=>by subst z;rw[k]at e;cases e)];exact e) (by
   rw[q17];simp only[q0e,q2q,q0B];refine q0Q.mpr ⟨fun z=>?_,q0Q.mpr ⟨fun z=>?_,q0f.mpr ⟨J,by simp,fun x Q y R=>?_⟩⟩⟩
   .rcases q0d.mp z with z |z
    .exact ad z.symm
    .rcases q0b.mp z with z |z
     .exact r (bG _ z)
     .exact pa (q0k.mp z)
   .rcases q0b.mp z with z |z
    .exact t z
    .exact A (q0k.mp z)
   .rw[q0k.mp R];exact fun z=>B (by rw[<-z];exact Q)) (fun c b=>by
   rw[q17]at b;simp only[q0e,q2q,q0B]at b;rcases q0d.mp b with rfl |b
   .exact .inl q0g
   .rcases q0d.mp b with rfl |b
    .exact .inl (by simp)
    .rcases q0b.mp b with b |b
     .exact .inl (bG _ (bG _ b))
     .exact .inr (by rw[q0k.mp b];exact k)) (fun G l s S _=>by
  subst S;refine⟨s.hid,d,cH f (.ref p) g,j++[[p]],rfl,cc,by rw[bn ad,bn A];exact v,Qm w lk s.hid (fun c b=>?_) (L _ s.hid)⟩;rw[bn (fun z=>r (by rw[<-z];exact bG _ b)),bn (fun z=>B (by rw[<-z];exact b))])
 exact⟨l,u,N⟩
def mj(C:Addr)(i:Nat)(f:Str)(y:Fl):SM:=fun U=>match bX C U i with
 |some (io,fs)=>if fs.lookup f=none/\fs.length<1000 then .nx (U.set i (some (.own io (.o C (bI f y fs))))) else .bad
 |none=>.bad
theorem Qn(cl:di X.K C)(s:cP X.K C f)(t:PE X (.Name x p1) (bQ i))(u:autoParam (swapsWith (.List [] p2) (some (.Attribute (.Name x p1) f pos')) pos.line X.env=pure false) Zq._auto_1):FS X F E (.Assign [.Attribute (.Name x p1) f pos'] (.List [] p2) pos) (mj C i f (.l [])):=
 (rF t (oN eM) u).imp fun D Y H d=>by
  obtain⟨U,O,M,st,q,v⟩:=d;unfold wpS mj at q;cases j:bX C U i with
  |none=>rw[j]at q;exact q.elim
  |some p=>
   obtain⟨io,fs⟩:=p;rw[j]at q;simp only at q
   by_cases h:fs.lookup f=none/\fs.length<1000
   .rw[if_pos h]at q;obtain⟨r,w,y,k,A,B,I⟩:=st.fldNew j h.1;refine⟨q0T _,fun p n=>?_⟩;have pa:r≠p:=fun z=>by subst z;rw[A]at n;cases n
    obtain⟨J,N,o,L⟩:=I p (.lst []) (.l []) n trivial (fun G g=>⟨p,[],rfl,rfl,by rw[bn (fun z=>pa z.symm),cc],.nil⟩);exact⟨_,k,r,C,w,y,rfl,J,cl,s,by rw[B];exact h.2,v.nx _ _ _ _ o L q⟩
   .rw[if_neg h]at q;exact q.elim
theorem Qo(cl:di X.K C)(r:cP X.K C f)(s:PE X (.Name x p1) (bQ i))(t:autoParam (swapsWith (.Dict [] [] p2) (some (.Attribute (.Name x p1) f pos')) pos.line X.env=pure false) Zq._auto_1):FS X F E (.Assign [.Attribute (.Name x p1) f pos'] (.Dict [] [] p2) pos) (mj C i f (.m true [])):=
 (rF s zZ t).imp fun D Y H d=>by
  obtain⟨U,O,L,st,q,u⟩:=d;unfold wpS mj at q;cases j:bX C U i with
  |none=>rw[j]at q;exact q.elim
  |some p=>
   obtain⟨io,fs⟩:=p;rw[j]at q;simp only at q
   by_cases h:fs.lookup f=none/\fs.length<1000
   .rw[if_pos h]at q;obtain⟨o,v,w,k,y,A,B⟩:=st.fldNew j h.1;intro p l;have pa:o≠p:=fun z=>by subst z;rw[y]at l;cases l
    obtain⟨I,M,n,J⟩:=B p (.dT []) (.m true []) l trivial (fun G g=>⟨p,rfl,rfl,[],by rw[bn (fun z=>pa z.symm),cc],.nil⟩);exact⟨_,k,o,C,v,w,rfl,I,cl,r,by rw[A];exact h.2,u.nx _ _ _ _ n J q⟩
   .rw[if_neg h]at q;exact q.elim
end L2.L3
namespace L2
open PySem
theorem BZ(a d):argsOk "min" ⟨[a],[("default",d)]⟩:=by unfold argsOk;kernel_rfl
theorem Ca{s:Shared}{id}(k:builtinKind id=none)(l:plainId id=true)(n:entryFor table id=some b)(m:argsOk id ⟨args,d⟩)
  (i:wpAny (model prog w) A.in1 (b ⟨args,d⟩) (fun fin a=>match fin with
   |.done f=>(match (Except.ok f:Result) with |.ok (.ret v)=>Q v a |.ok _=>False |.error e=>E e a)
   |.again j=>j.quiet=true/\codeAny (model prog w) A j (fun r a=>match r with |.ok (.ret v)=>Q v a |.ok _=>False |.error e=>E e a) a) E s):wpAny (model prog w) A (call (.builtin id) args d) Q E s:=by
 refine wpAny_call (codeAny_call_builtin l n ?_);simp only[checkBuiltinCall,k];cases c:Manifest.signature? id with
 |none=>exact bz i
 |some g=>
  have h:Bind.checkArgs id g ⟨args,d⟩=pure ():=by simpa only[argsOk,c] using m
  simp only[h];exact bz i
theorem Qp(q:A.handled=none)(m:s.heap.IsList l #[])(r:∀f,(∀b o,s.heap.get? b=some o->f.get? b=some o)->Q d { s with heap:=f }) :
  wpAny (model prog w) A (call (.builtin "min") [.ref l] [("default",d)]) Q E s:=by
 refine Ca F.kind_min F.plain_min F.entry_min (BZ _ _) ?_;show wpAny _ A.in1 (Builtin.Builtins.bindParams "min" ["key","default"] 0 ⟨[],[("default",d)]⟩ >>= _) _ _ s;refine aH (wpAny_of_eq (show Builtin.Builtins.bindParams "min" ["key","default"] 0 ⟨[],[("default",d)]⟩=pure [none,some d] from rfl) ?_);refine aH (bz ?_);refine aH (wpAny_pyIter_list m ?_);refine aH (wpAny_newObj_type ?_);have a:(toString "min"++toString ".loop":String)="min.loop":=by decide
 rw[a];obtain⟨ol,g,h,nl,j⟩:=id m;generalize n:(s.heap.push { cls:=.type "list_iterator",data:=.fields #[.ref l,.int 0 0] })=c;have t:c.get? s.heap.objs.size=some { cls:=.type "list_iterator",data:=.fields #[.ref l,.int 0 0] }:=by rw[<-n];exact Heap.get?_push_size _ rfl
 have p:∀b o,s.heap.get? b=some o->c.get? b=some o:=fun b o e=>by rw[<-n];exact bD _ e
 refine bz ⟨plainId_quiet F.plain_min_loop _,?_⟩;refine codeAny_builtin F.entry_min_loop ?_;rw[Around.under_plainId F.plain_min_loop _];have u:(c.push { cls:=.type "list",data:=.seq #[] }).get? c.objs.size=some { cls:=.type "list",data:=.seq #[] }:=Heap.get?_push_size _ rfl;show wpAny _ A.in1 (seqItems? (.ref c.objs.size) >>= _) _ _ _;refine aH (wpAny_seqItems u rfl ?_);show wpAny _ A.in1 (tryCatch (pyNext (.ref s.heap.objs.size)) _ >>= _) _ _ _;refine aH (wpAny_tryCatch (wpAny_pyNext_list_end (i:=0) (l:=l) (items:=#[]) q ⟨_,bD _ t,rfl,rfl⟩ ⟨ol,bD _ (p _ _ g),h,nl,j⟩ rfl fun f k=>?_));refine aH (wpAny_rule (bz ?_));exact r f fun b o e=>k b o (q0v (bE e)) (bD _ (p b o e))
theorem Qq(hit:s.heap.IsTupleIter it t i)(e:s.heap.IsTuple t items)(f:items[i]? = some x)
  (g:∀b,b.IsTupleIter it t (i+1)->Heap.SameBut it s.heap b->Q x { s with heap:=b }):wpAny (model prog w) A (Builtin.SmallTypes.nextOf (.ref it)) Q E s:=by
 obtain⟨o,a,h,hd⟩:=id hit;obtain⟨ol,c,_,nl,d⟩:=e;unfold Builtin.SmallTypes.nextOf;refine aH (wpAny_callSpecial?_slot (name:=Str.ofString "__next__") hit.typeIs F.slot_tuple_iterator_next (wpAny_call_entry F.slot_tuple_iterator_next hit.typeIs F.entry_tuple_iterator_next ?_ (F.args_tuple_iterator_next_1 _)));show wpAny _ _ (field (.ref it) 0 >>= _) _ _ s;refine aH (wpAny_field a hd (x:=.ref t) rfl ?_);show wpAny _ _ (if (Value.ref t==Value.none)=true then _ else _) _ _ s;rw[if_neg (by exact q0C)];show wpAny _ _ (field (.ref it) 1 >>= _) _ _ s;refine aH (wpAny_field a hd (x:=.int i 0) rfl ?_);show wpAny _ _ (seqItems? (.ref t) >>= _) _ _ s;refine aH (wpAny_seqItems c d ?_);simp only[q1N,f];refine aH (wpAny_setField a hd (by simp) (bz ⟨x,rfl,bz (g _ ⟨_,Heap.get?_update_self _ a (Obj.isFreed_of_fields (Obj.data_mapFields hd _)),(Obj.cls_mapFields ..).trans h,?_⟩ (Heap.SameBut.update ..))⟩));rw[Obj.data_mapFields hd];simp[rawInt]
theorem Qr(g:A.handled=none)(hit:s.heap.IsTupleIter it t i)(h:s.heap.IsTuple t items)(j:items[i]? = none)
  (k:∀b e,Heap.ExtBut it s.heap b->(∃o,b.get? e=some o/\o.cls=.type "StopIteration")->E (.ref e) { s with heap:=b }):wpAny (model prog w) A (Builtin.SmallTypes.nextOf (.ref it)) Q E s:=by
 obtain⟨o,c,l,hd⟩:=id hit;obtain⟨ol,d,_,nl,f⟩:=h;unfold Builtin.SmallTypes.nextOf;refine aH (wpAny_callSpecial?_slot (name:=Str.ofString "__next__") hit.typeIs F.slot_tuple_iterator_next (wpAny_call_entry F.slot_tuple_iterator_next hit.typeIs F.entry_tuple_iterator_next ?_ (F.args_tuple_iterator_next_1 _)));show wpAny _ _ (field (.ref it) 0 >>= _) _ _ s;refine aH (wpAny_field c hd (x:=.ref t) rfl ?_);show wpAny _ _ (if (Value.ref t==Value.none)=true then _ else _) _ _ s;rw[if_neg (by exact q0C)];show wpAny _ _ (field (.ref it) 1 >>= _) _ _ s;refine aH (wpAny_field c hd (x:=.int i 0) rfl ?_);show wpAny _ _ (seqItems? (.ref t) >>= _) _ _ s;refine aH (wpAny_seqItems d f ?_);simp only[q1N,j];refine aH (wpAny_rule (aH (wpAny_setField c hd (by simp) ?_)));show wpAny _ _ (newExc (.type "StopIteration") [] >>= _) _ _ _;refine aH ?_;simp only[newExc,newTuple];refine aH (wpAny_newObj_type ?_ (by size_fits));refine aH (m:=firstArgMember _ _) (wpAny_of_eq (a:=Value.none) (by first |rfl |(simp only[firstArgMember];rfl)) ?_);refine wpAny_newObj_type ?_ (by size_fits);simp only[raiseNew];refine aH (wpAny_handled ?_)
 first |rw[show A.in1.handled=none from g] |rw[g]
 exact aH (bz (wpAny_throw (k _ _ (((Heap.SameBut.update ..).extBut.push _).push _) ⟨_,Heap.get?_push_size _ rfl,rfl⟩)))
theorem Cb(hh:A.handled=none)(it l)(hne:l≠it)(items):Draws prog w A it [it,l] items.size (fun i v=>items[i]? = some v) (fun i h=>h.IsTupleIter it l i/\h.IsTuple l items) where
 live:=fun _ _ st=>let⟨o,ho,_⟩:=st.1;⟨o,ho⟩
 frame:=fun _ _ _ st hk=>⟨let⟨o,ho,r⟩:=st.1;⟨o,hk it (by simp) o ho,r⟩,let⟨o,ho,r⟩:=st.2;⟨o,hk l (by simp) o ho,r⟩⟩
 item:=fun i s Q E hi st hQ=>Qq st.1 st.2 (x:=items[i]) (by simp[hi]) fun h' hit' hs'=>hQ _ h' s.toks (by simp[hi]) ⟨hit',st.2.extBut hs'.extBut hne⟩ hs'
 done:=fun s Q E st hE=>Qr hh st.1 st.2 (by simp) hE
end L2
namespace L2.L3
open PySem PySem.Spec PyProof.Rows
def Cc(O:List Addr)(H:Hp)(J:It)(c:List PyData):Prop:=∀e a,aK O H e a->bP H a->jO a e->
 (∀i d,c[i]? = some d->J.go i a/\∀x b,J.yld i a x b->bP a b/\DV (al e b) x d)/\J.stop c.length a
theorem Wk.S(h:Wk O H J a):Cc O H J a:=fun b c s _ ok=>h b c s ok
def xj(K:Frag)(F:Fx)(s:dJ):TI:=fun Y H R=>∃U O,aC K F H Y U O/\s U fun b d=>∀J a c,aC K F a Y d c->aK O H c a->Cc c a J b->R J a
structure xk (X:Cx) (F:Fx) (tg iter:Expr) (s:dJ):Prop where
 mn:jP s
 pi:PI X tg iter (xj X.K F s)
theorem DI.S(h:DI X F e iter s):xk X F e iter s:=⟨h.mn,h.pi.imp fun Y H R d=>by obtain⟨U,O,st,q⟩:=d;exact⟨U,O,st,h.mn _ _ _ (fun f j k J g i a b c=>k J g i a b c.S) q⟩⟩
@[simp]noncomputable def xl:Option (Option aa)->Option aa
 |some (some (.own _ b))=>some (.vw b)
 |some (some (.exc _))=>none
 |some o=>o
 |none=>none
def sL(own:List Str)(a:List Nat)(U:ai):ai:=own.map (fun _=>none)++a.map fun j=>xl U[j]?
mutual
@[simp]noncomputable def jV:PyData->Bool
 |.int _=>true
 |.bool _=>true
 |.none=>true
 |.str _=>true
 |.tuple ds=>ml ds
 |.list _=>false
 |.dict _=>false
@[simp]noncomputable def ml:List PyData->Bool
 |[]=>true
 |d::ds=>jV d&&ml ds
end
theorem Cd:∀a,a.all jV=ml a
 |[]=>rfl
 |d::a=>by rw[q2J,Cd a,ml]
theorem Qs(k:∀a u,¬ Mv u->G a=some u->j a=some u):∀{vs g},aO G vs g->ml g=true->aO j vs g:=fun h=>aO.rec (motive_1:=fun v d _=>jV d=true->DV j v d) (motive_2:=fun vs g _=>ml g=true->aO j vs g) (fun _=>.non) (fun b _=>.bl b) (fun i _=>.int i) (fun x _=>.str x) (fun _ _ _ f=>by cases f) (fun h _ c f=>.tup (h.imp (fun e=>k _ _ id e) fun⟨⟨o,e⟩,z⟩=>⟨⟨o,k _ _ id e⟩,z⟩) (c (by simpa[jV] using f))) (fun _=>.nil) (fun _ _ a b f=>by
  rw[ml,q0S]at f;exact .cons (a f.1) (b f.2)) h
theorem Qt(k:∀a u,¬ Mv u->G a=some u->c a=some u)(h:aO G vs b)(f:b.all jV=true):aO c vs b:=Qs k h (by rw[<-Cd];exact f)
def pV(own:List Str)(f:List Nat)(s:dJ)(g:er)(l:cx)(m:DT):DT:=fun U Q=>s U fun c j=>∃e:Nat->List PyData->ai->Prop,e 0 [] (sL own f j)/\
 (∀i d a h,c[i]? = some d->e i a h->g d h fun n=>l n fun b k=>if b=true then m k fun y o=>a.length<sizeLine/\e (i+1) (a++[y]) o else e (i+1) a k)/\
 ∀a h,e c.length a h->a.length<=sizeLine/\a.all jV=true/\Q (.list a) j
theorem Ce(e:jP s):Mn (pV own caps s g tc te):=fun _ _ _ k q=>e _ _ _ (fun _ _ a=>by obtain⟨f,i,j,b⟩:=a;exact⟨f,i,j,fun c d h=>⟨(b c d h).1,(b c d h).2.1,k _ _ (b c d h).2.2⟩⟩) q
theorem Qu{K:Frag}{Z:Fx->Prop}(hP:∀k Y D f O2,aC K F k Y D f->Z ⟨k,[],O2,fun _=>0⟩)(hs:jP s)(hg:∀d U Q Q',(∀U',Q U'->Q' U')->g d U Q->g d U Q')(ht:ik tc)(he:Mn te):∀Y H Q,(∃U O,aC K F H Y U O/\pV own caps s g tc te U fun d D=>∀X,d=.list X->∀p  t  vs  f,aC K F t Y D f->aK O H f t->t p=none->aO (al f t) vs X->Q (.ref p) (aI t p (.lst vs)))->
  jK own caps (xj K F s) (fun v Y H Q=>∃B,Z B/\jL K B g v Y H Q) (fun Y H Q=>∃B,Z B/\il K B tc Y H Q) (fun Y H Q=>∃B,Z B/\fq K B te Y H Q) Y H Q:=fun Y H Q I=>by
 obtain⟨U,O,st,q⟩:=I;refine⟨U,O,st,hs _ _ _ (fun n D L J k f r s1 wk=>?_) q⟩;obtain⟨Iv,i0,step,fin⟩:=L;obtain⟨W,M,N⟩:=id r;let V:List Addr:=(caps.map fun j=>(W[j]?).getD []).flatten;let E:List Addr:=f.filter fun a=>decide (a∉V);have sub:∀a∈E,a∈f:=fun a h=>(q1A.mp h).1;have a0:E.Nodup:=by
  have:f.Nodup:=by rw[N];exact M.nd
  exact this.filter _
 have a1:∀j∈caps,∀l,W[j]? = some l->∀a∈l,a∉E:=fun j hj l hl a ha z=>by have h1:=(q1A.mp z).2;simp only[decide_eq_true_eq]at h1;exact h1 (q15.mpr ⟨l,q0R.mpr ⟨j,hj,by rw[hl];rfl⟩,ha⟩)
 have R:∀j∈caps,∀c,xl D[j]? = some c->∃v,Y[j]? = some (some v)/\se K k E c v:=fun j hj c w=>by
  cases h3:D[j]? with
  |none=>rw[h3]at w;cases w
  |some o=>
   cases o with
   |none=>rw[h3]at w;cases w
   |some c'=>
    rw[h3]at w;obtain⟨v,fp,C,e0,S⟩:=M.at_ j c' h3;rw[<-N]at S;have y:aK f k E k:=iS sub;cases c' with
    |dat d=>cases w;exact⟨v,C,(fun _ _ z=>by cases z),em.keep (c:=.dat d) (fp:=[]) S y (fun _ _=>rfl) fun _ _ _ e=>e⟩
    |scr ns=>cases w;exact⟨v,C,(fun _ _ z=>by cases z),em.keep (c:=.scr ns) (fp:=[]) S y (fun _ _=>rfl) fun _ _ _ e=>e⟩
    |exc _=>cases w
    |vw b=>cases w;exact⟨v,C,(fun _ _ z=>by cases z),em.keep (c:=.vw b) (fp:=[]) S y (fun _ _=>rfl) fun _ _ _ e=>e⟩
    |own io b=>cases w;obtain⟨a,ev,q2⟩:=S;refine⟨v,C,(fun _ _ z=>by cases z),a,fp,ev,q2.keep (fun c hc=>?_) y.hid⟩;obtain⟨o,eo,_⟩:=q2.live c hc;rw[eo];exact ie eo (a1 j hj fp e0 c hc)
 refine⟨pB K ⟨k,[],E,fun _=>0⟩ n Iv,⟨n.length,sL own caps D,E,[],AI R a0 fun a ha=>r.live a (sub a ha),i0,.nil,q0T _,rfl⟩,?_⟩
 .rintro i m ys Y' t ⟨U',O',X,A,iv,dv,hi,rfl⟩;have G:bP k t:=fun b o e=>by obtain⟨W',h',_⟩:=id A;exact h'.kept b o (by simp) e
  have a2:aK f k O' t:=⟨fun b o _ e=>G b o e,fun a h=>by
   obtain⟨W',h',rfl⟩:=id A;rcases q0b.mp h with h |h
   .exact(h'.new a h).elim (fun z=>absurd z (by simp)) .inr
   .exact .inl (sub a h)⟩
  obtain⟨w1,w2⟩:=wk O' t a2 G A.live
  by_cases T:i<n.length
  .obtain⟨go,yld⟩:=w1 i n[i] (q0j T);refine .inr ⟨go,fun x H2 hy=>?_⟩;obtain⟨a3,dx⟩:=yld x H2 hy;exact wn (hP _ _ _ _ _ r) hg ht he step T A iv dv a3 dx
  .have e:i=n.length:=by lia
   subst e;obtain⟨hz,a4,q⟩:=fin X U' iv;refine .inl ⟨w2,by rw[dv.length];exact hz,fun p hp=>?_⟩;have a5:k p=none:=by
    cases e:k p with
    |none=>rfl
    |some o=>rw[G p o e]at hp;cases hp
   exact q X rfl p t _ f (r.grow G) (s1.trans (.same G)) hp (Qt (fun a u nm e=>by
    obtain⟨C,_⟩:=dH e;refine ie C fun z=>?_;obtain⟨o,eo,mo⟩:=r.live a z;rw[G a o eo]at C;cases C;exact nm mo) dv a4)
theorem Qv{K:Frag}{f:Fx->Prop}(o:∀j Y k i r,aC K F j Y k i->f ⟨j,[],r,fun _=>0⟩)(l:jP s)(t:∀d U Q m,(∀n,Q n->m n)->g d U Q->g d U m)(u:ik tc)(w:Mn te):∀Y H Q,fq K F (pV own caps s g tc te) Y H Q->
  jK own caps (xj K F s) (fun v Y H Q=>∃a,f a/\jL K a g v Y H Q) (fun Y H Q=>∃a,f a/\il K a tc Y H Q) (fun Y H Q=>∃a,f a/\fq K a te Y H Q) Y H Q:=fun Y H Q b=>by
 obtain⟨U,O,st,q⟩:=b;exact Qu o l t u w Y H Q ⟨U,O,st,Ce l _ _ _ (fun d k x B e p A vs i c y h z=>by
  subst e;exact x _ _ i (c.grow (bR h)) (y.trans (.same (bR h))) (kB h (c.nofree p h) z)) q⟩
theorem Qw(n:GF X.mg F)(S:ao X scope own capN caps)(o:X.calm=true)(m:xk X F tg iter s)
  (c:∀C d e f h b,GF X.mg b->DG (bY X scope (own++capN) C d e f h) b tg g/\nt (bY X scope (own++capN) C d e f h) b ifs tc/\DE (bY X scope (own++capN) C d e f h) b elt te)
  (p:autoParam (∀x,foldedSetIterable iter X.env x=pure x) Zs._auto_1):DE X F (.ListComp elt [⟨tg,iter,ifs,0⟩] scope pos) (pV own caps s g tc te):=by
 obtain⟨t,w,y⟩:=c 0 [] (PySem.start X.prog).1 (fun _=>none) [] F n;refine⟨Ce m.mn,(oW S o m.pi (fun C d e f h=>⟨fun a s Y H v u Q I r i=>by obtain⟨b,j,q⟩:=i;exact(c C d e f h b j).1.pg a s Y H v u Q I r q,fun a s Y H Q I k=>by obtain⟨b,j,q⟩:=k;exact(c C d e f h b j).2.1.2 a s Y H Q I q,fun a s Y H Q I l=>by obtain⟨b,j,q⟩:=l;exact(c C d e f h b j).2.2.pe a s Y H Q I q⟩) p).imp (Qv (fun _ _ _ _ _ st=>n.into st) m.mn t.mn w.1 y.mn)⟩
@[simp] def sM(own:Nat)(a:List Nat)(U:ai):ai:=List.replicate own none++a.map fun j=>xl U[j]?
@[simp] def Cf(own:Nat)(a:List Nat)(g:GM)(t:XM Bool)(m:XM PyData)(b:List PyData):XM PyData:=fun d=>lift ((bW g t m b [] (sM own a d)).bind fun c=>if c.length<=sizeLine/\c.all jV=true then some (.list c) else none) d
@[simp] def xm(own:Nat)(a:List Nat)(s:XM (List PyData))(g:GM)(t:XM Bool)(m:XM PyData):XM PyData:=fun U=>(s U).bind (Cf own a g t m)
theorem Qx(q:wp E (xm own.length f s g t m) U Q):pV own f (wp E s) (eO g) (wp dA t) (wp dA m) U Q:=az _ _ _ (fun l p C=>by
 obtain⟨y,D,z⟩:=cJ (o:=(bW g t m l [] (sM own.length f p)).bind fun n=>if n.length<=sizeLine/\n.all jV=true then some (PyData.list n) else none) (U:=p) (E:=E) (Q:=Q) C;obtain⟨j,G,r⟩:=q0X.mp D;have u:(j.length<=sizeLine/\j.all jV=true)/\y=.list j:=by
  split at r
  .rename_i h;cases r;exact⟨h,rfl⟩
  .cases r
 have H:sL own f p=sM own.length f p:=by unfold sL sM;rw[q1E]
 refine⟨fun i n U=>bW g t m (l.drop i) n U=some j,by rw[H];exact G,fun i d n U hd a=>?_,fun n U h=>?_⟩
 .have e:l.drop i=d::l.drop (i+1):=by obtain⟨v,I⟩:=q0a.mp hd;rw[<-I];exact q0D v
  simp only[e]at a;unfold bW at a;unfold eO;cases A:g d U with
  |none=>rw[A]at a;cases a
  |some J=>
   rw[A]at a;simp only at a ⊢;unfold wp;cases w:t J with
   |ex c B=>rw[w]at a;cases a
   |bad=>rw[w]at a;cases a
   |ok b B=>
    rw[w]at a;cases b with
    |false=>exact ei a
    |true=>
     refine ej ?_;simp only at a ⊢;cases x:m B with
     |ex c L=>rw[x]at a;cases a
     |bad=>rw[x]at a;cases a
     |ok M L=>
      rw[x]at a;simp only at a ⊢;split at a
      .rename_i h;exact⟨h,a⟩
      .cases a
 .simp only[q1s]at h;have:n=j:=by unfold bW at h;exact q0n h
  subst this;rw[u.2]at z;exact⟨u.1.1,u.1.2,z⟩) (bu (k:=Cf own.length f g t m) q)
theorem DE.imp'(h:DE X F e t)(b:Mn t')(k:∀U Q,t' U Q->t U Q):DE X F e t':=⟨b,h.pe.imp fun Y H Q a=>by obtain⟨U,O,st,q⟩:=a;exact⟨U,O,st,k U _ q⟩⟩
theorem Qy(p:GF X.mg F)(S:ao X a own b c)(r:X.calm=true)(u:own.length=n)(v:xk X F h iter (wp E s))
  (i:∀C j k l o f,GF X.mg f->FG (bY X a (own++b) C j k l o) f h g/\lQ (bY X a (own++b) C j k l o) f dA e t/\FE (bY X a (own++b) C j k l o) f dA d m)
  (w:autoParam (∀x,foldedSetIterable iter X.env x=pure x) Zs._auto_1):FE X F E (.ListComp d [⟨h,iter,e,0⟩] a pos) (xm n c s g t m):=by
 subst u;exact DE.imp' (Qw p S r v i w) az fun U Q q=>Qx q
theorem aC.view{K}(st:aC K F H Y U O){i:Nat}(e:U[i]? = some (some (.vw b))):∃a d,Y[i]? = some (some (.ref a))/\fK (al O H) (al O H) a b d:=by obtain⟨W,h,rfl⟩:=st;obtain⟨v,d,f,j,a,c,rfl,g⟩:=h.at_ i _ e;exact⟨a,c,f,g⟩
theorem Cg{P:List PyData->ai->Prop}(q:wp E s U fun f l=>∃j,bW g t m f [] (iy own.length k l)=some j/\j.length<=sizeLine/\P j l) :
  wp E s U fun f l=>∃n:Nat->List PyData->ai->Prop,n 0 [] (fz own k l)/\
   (∀i d j u,f[i]? = some d->n i j u->eO g d u fun v=>wp dA t v fun b o=>if b=true then wp dA m o fun y w=>j.length<sizeLine/\n (i+1) (j++[y]) w else n (i+1) j o)/\
   ∀j u,n f.length j u->j.length<=sizeLine/\P j l:=az _ _ _ (fun f l p=>by
 obtain⟨r,C,D,G⟩:=p;have H:fz own k l=iy own.length k l:=by unfold fz iy;rw[q1E]
 refine⟨fun i j U=>bW g t m (f.drop i) j U=some r,by rw[H];exact C,fun i d j U hd a=>?_,fun j U h=>?_⟩
 .have e:f.drop i=d::f.drop (i+1):=by obtain⟨x,I⟩:=q0a.mp hd;rw[<-I];exact q0D x
  simp only[e]at a;unfold bW at a;unfold eO;cases B:g d U with
  |none=>rw[B]at a;cases a
  |some v=>
   rw[B]at a;simp only at a ⊢;unfold wp;cases z:t v with
   |ex c o=>rw[z]at a;cases a
   |bad=>rw[z]at a;cases a
   |ok b o=>
    rw[z]at a;cases b with
    |false=>exact ei a
    |true=>
     refine ej ?_;simp only at a ⊢;cases A:m o with
     |ex c w=>rw[A]at a;cases a
     |bad=>rw[A]at a;cases a
     |ok J w=>
      rw[A]at a;simp only at a ⊢;split at a
      .rename_i h;exact⟨h,a⟩
      .cases a
 .simp only[q1s]at h;have:j=r:=by unfold bW at h;exact q0n h
  subst this;exact⟨D,G⟩) q
def sN(C:Addr)(i:Nat)(f:Str)(own:Nat)(a:List Nat)(g:GM)(t:XM Bool)(m:XM PyData)(b:List PyData):SM:=fun U=>match bW g t m b [] (iy own a U),bX C U i with
 |some c,some (io,fs)=>if c.length<=sizeLine/\fs.lookup f=none/\fs.length<1000 then .nx (U.set i (some (.own io (.o C (bI f (.l c) fs))))) else .bad
 |_,_=>.bad
def xn(C:Addr)(i:Nat)(f:Str)(own:Nat)(a:List Nat)(s:XM (List PyData))(g:GM)(t:XM Bool)(m:XM PyData):SM:=fun U=>dz (s U) (sN C i f own a g t m)
theorem Qz{y}(cl:di X.K C)(na:cP X.K C f)(hv:PE X (.Name x p1) (bQ i))(hG:GF X.mg F)(S:ao X a own capN caps)(hc:X.calm=true)(hn:own.length=n)(hi:FI X F E N iter s)
  (o:∀C A B J M b,GF X.mg b->FG (bY X a (own++capN) C A B J M) b N g/\lQ (bY X a (own++capN) C A B J M) b dA j t/\FE (bY X a (own++capN) C A B J M) b dA h m)
  (a3:autoParam (swapsWith (.ListComp h [⟨N,iter,j,0⟩] a pos) (some (.Attribute (.Name x p1) f w)) y.line X.env=pure false) Zq._auto_1)
  (hs:autoParam (∀x,foldedSetIterable iter X.env x=pure x) Zs._auto_1):FS X F E (.Assign [.Attribute (.Name x p1) f w] (.ListComp h [⟨N,iter,j,0⟩] a pos) y) (xn C i f n caps s g t m):=by
 subst hn;obtain⟨hg,ht,he⟩:=o 0 [] (PySem.start X.prog).1 (fun _=>none) [] F hG;have pe:PE X (.ListComp h [⟨N,iter,j,0⟩] a pos) (jK own caps (nq X.K F (wp E s)) (fun v Y H Q=>∃b,GF X.mg b/\jL X.K b (eO g) v Y H Q) (fun Y H Q=>∃b,GF X.mg b/\il X.K b (wp dA t) Y H Q) (fun Y H Q=>∃b,GF X.mg b/\fq X.K b (wp dA m) Y H Q)):=oW S hc hi.pi (fun C A B J M=>⟨fun c s Y H v u Q I r R=>by obtain⟨b,T,q⟩:=R;exact(o C A B J M b T).1.pg c s Y H v u Q I r q,fun c s Y H Q I Z=>by obtain⟨b,T,q⟩:=Z;exact(o C A B J M b T).2.1.2 c s Y H Q I q,fun c s Y H Q I a1=>by obtain⟨b,T,q⟩:=a1;exact(o C A B J M b T).2.2.pe c s Y H Q I q⟩) hs;refine(rF hv pe a3).imp fun D Y H a2=>?_;obtain⟨U,O,DD,st,q,fD⟩:=a2;refine wo (fun _ _ _ _ _ st=>hG.into st) hi.mn hg.mn ht.1 he.mn Y H _ ⟨U,O,st,Cg (az _ _ _ (fun a4 U1 e=>?_) (fA (m:=s) (k:=sN C i f own.length caps g t m) q))⟩;unfold wpS sN at e;cases L:bW g t m a4 [] (iy own.length caps U1) with
 |none=>rw[L]at e;exact e.elim
 |some ys=>
  cases ho:bX C U1 i with
  |none=>rw[L,ho]at e;exact e.elim
  |some p=>
   obtain⟨io,fs⟩:=p;rw[L,ho]at e;simp only at e
   by_cases d:ys.length<=sizeLine/\fs.lookup f=none/\fs.length<1000
   .rw[if_pos d]at e;refine⟨ys,rfl,d.1,fun H' O' vs p a5 s' dv hp=>?_⟩;obtain⟨a0,dx,gs,a6,e2,hl,nw⟩:=a5.fldNew ho d.2.1;have pa:a0≠p:=fun z=>by subst z;rw[e2]at hp;cases hp
    obtain⟨h1,O3,a7,s3⟩:=nw p (.lst vs) (.l ys) hp trivial (fun G gg=>⟨p,vs,rfl,rfl,by rw[bn (fun z=>pa z.symm),cc],aO.mono gg dv⟩);exact⟨_,a6,a0,C,dx,gs,rfl,h1,cl,na,by rw[hl];exact d.2.2,fD.nx _ _ _ _ a7 (s'.trans s3) e⟩
   .rw[if_neg d]at e;exact e.elim
end L2.L3
namespace L2
open PySem PyProof.Rows
def xo(h:Heap)(a:List Value)(rows:List (List Int)):Prop:=a.length=rows.length/\∀(i:Nat) (v:Value),a[i]? = some v->∃(T:Addr) (items:Array Value) (r:List Int),v=.ref T/\IsTup h T items/\rows[i]? = some r/\IntsAre items.toList r
abbrev iB(rows:List (List Int)):Nat->Nat->Bool:=fun i j=>HT.lexLt (rows.getD i []) (rows.getD j [])
section
variable{prog:Program}{w:World}{A:Around}{R:Result->Shared->Prop}{E:Value->Shared->Prop}{s:Shared}{h0:Heap}{I l S:Addr}{its:Array Value}{rows:List (List Int)}{d:Value}
theorem QA(g:A.units<cLine)(a:xo h0 its.toList rows)(f:∀b o,h0.get? b=some o->s.heap.get? b=some o)(h:its[i]? = some u)(k:its[j]? = some v)(q:Q (.bool (iB rows i j)) s):wpAny (model prog w) A (richCompare .Lt u v) Q E s:=by
 obtain⟨T,m,r,rfl,n,p,t⟩:=a.2 i u (by simpa using h);obtain⟨c,y,z,rfl,B,C,D⟩:=a.2 j v (by simpa using k);have G:rows.getD i []=r:=by rw[q0Y,p];rfl
 have H:rows.getD j []=z:=by rw[q0Y,C];rfl
 unfold iB at q;rw[G,H]at q;have J:IsTup s.heap T m:=let⟨o,e,x⟩:=n;⟨o,f _ _ e,x⟩;have L:IsTup s.heap c y:=let⟨o,e,x⟩:=B;⟨o,f _ _ e,x⟩;exact(HT.lt_tupInts J L t D g q:wpAny (model prog w) A (compareOp .Lt (.ref T) (.ref c)) Q E s)
theorem QB(T:A.handled=none)(U:A.in1.units<cLine)(X:xo h0 its.toList rows)(L:h0.IsList l its)(hI:h0.objs.size<=I)(Y:h0.objs.size<=S)(q:I≠S) :
  ∀k j  s  n  c,its.size - (j+1)=k->j+1<=its.size->(∀b o,h0.get? b=some o->s.heap.get? b=some o)->s.heap.IsListIter I l (j+1)->its[argBest (iB rows) j]? = some n->
  s.heap.get? S=some { cls:=.type "list",dict:=none,data:=.seq #[n,n] c,slots:=#[] }->
  (∀v u y,its[argBest (iB rows) (its.size - 1)]? = some v->(∀b o,h0.get? b=some o->u.get? b=some o)->R (.ok (.ret v)) { s with heap:=u,toks:=y })->
  codeAny (model prog w) A (.builtin "min.loop" ⟨[.ref I,.none,.ref S],[("default",d)]⟩) R s:=by
 have a:(toString "min"++toString ".loop":String)="min.loop":=by decide
 have M:∀{b:Addr}{o:Obj},h0.get? b=some o->b≠I:=fun e z=>by subst z;exact absurd (bE e) (Nat.not_lt.mpr hI)
 have N:∀{b:Addr}{o:Obj},h0.get? b=some o->S≠b:=fun e z=>by subst z;exact absurd (bE e) (Nat.not_lt.mpr Y)
 intro k
 induction k with
 |zero=>
  intro j s n c Z hj C hit G f D;have H:j+1=its.size:=by lia
  refine codeAny_builtin F.entry_min_loop ?_;rw[Around.under_plainId F.plain_min_loop _];show wpAny _ A.in1 (seqItems? (.ref S) >>= _) _ _ s;refine aH (wpAny_seqItems f rfl ?_);show wpAny _ A.in1 (tryCatch (pyNext (.ref I)) _ >>= _) _ _ s;refine aH (wpAny_tryCatch (wpAny_pyNext_list_end T hit (L.at fun o e=>C _ _ e) (by simp;lia) fun O g=>?_));have h:=g S _ (Ne.symm q) f;show wpAny _ A.in1 (updateSeq S (fun _=>#[]) >>= _) _ _ _;refine aH (wpAny_updateSeq h rfl (aH (wpAny_letGo (bz ?_))));refine D n _ _ (by rw[<-H];exact G) fun b o e=>?_;exact(Heap.get?_update_other _ _ (N e)).trans (g _ _ (M e) (C _ _ e))
 |succ k Q=>
  intro j s n c Z hj C hit G f D;have m:j+1<its.size:=by lia
  refine codeAny_builtin F.entry_min_loop ?_;rw[Around.under_plainId F.plain_min_loop _];show wpAny _ A.in1 (seqItems? (.ref S) >>= _) _ _ s;refine aH (wpAny_seqItems f rfl ?_);show wpAny _ A.in1 (tryCatch (pyNext (.ref I)) _ >>= _) _ _ s;refine aH (wpAny_tryCatch (wpAny_pyNext_list_item hit (L.at fun o e=>C _ _ e) (x:=its[j+1]) (by simp[m]) fun O p g=>?_));have h:=g.extBut S _ (Ne.symm q) f;have r:∀b o,h0.get? b=some o->O.get? b=some o:=fun b o e=>g.extBut _ _ (M e) (C _ _ e);show wpAny _ A.in1 (tryCatch (holding [its[j+1],its[j+1]] (richCompare .Lt its[j+1] n >>= _)) _ >>= _) _ _ _;refine aH (wpAny_tryCatch (wpAny_holding (aH (QA (i:=j+1) (j:=argBest (iB rows) j) U X r (by simp[m]) G ?_))));refine aH (wpAny_holding (wpAny_truthy_bool ?_));refine aH (wpAny_letGo (bz ?_));cases B:iB rows (j+1) (argBest (iB rows) j) with
  |true=>simp only[if_true];refine aH (wpAny_updateSeq h rfl (aH (wpAny_letGo ?_)));rw[a];refine bz ⟨plainId_quiet F.plain_min_loop _,Q (j+1) _ its[j+1] _ (by lia) m (fun b o e=>(Heap.get?_update_other _ _ (N e)).trans (r _ _ e)) (p.at fun o e=>(Heap.get?_update_other _ _ (Ne.symm q)).trans e) (by simp only[argBest,B,if_true];simp[m]) (Heap.get?_update_self _ h rfl) fun v u y J t=>D v u y J t⟩
  |false=>simp only[q0L,if_false];refine aH (wpAny_letGo ?_);rw[a];exact bz ⟨plainId_quiet F.plain_min_loop _,Q (j+1) _ n c (by lia) m r p (by simp only[argBest,B,q0L,if_false];exact G) h fun v u y J t=>D v u y J t⟩
theorem QD(u:A.handled=none)(y:A.in1.units<cLine)(k:s.heap.IsList l its)(B:xo s.heap its.toList rows)(m:0<its.size)(C:∀v j n,its[argBest (iB rows) (its.size - 1)]? = some v->(∀b o,s.heap.get? b=some o->j.get? b=some o)->Q v { s with heap:=j,toks:=n }) :
  wpAny (model prog w) A (call (.builtin "min") [.ref l] [("default",d)]) Q E s:=by
 refine Ca F.kind_min F.plain_min F.entry_min (BZ _ _) ?_;show wpAny _ A.in1 (Builtin.Builtins.bindParams "min" ["key","default"] 0 ⟨[],[("default",d)]⟩ >>= _) _ _ s;refine aH (wpAny_of_eq (show Builtin.Builtins.bindParams "min" ["key","default"] 0 ⟨[],[("default",d)]⟩=pure [none,some d] from rfl) ?_);refine aH (bz ?_);refine aH (wpAny_pyIter_list k ?_);refine aH (wpAny_newObj_type ?_);have a:(toString "min"++toString ".loop":String)="min.loop":=by decide
 rw[a];generalize p:(s.heap.push { cls:=.type "list_iterator",data:=.fields #[.ref l,.int 0 0] })=c;have D:c.get? s.heap.objs.size=some { cls:=.type "list_iterator",data:=.fields #[.ref l,.int 0 0] }:=by rw[<-p];exact Heap.get?_push_size _ rfl
 have G:∀b o,s.heap.get? b=some o->c.get? b=some o:=fun b o e=>by rw[<-p];exact bD _ e
 have q:c.objs.size=s.heap.objs.size+1:=by rw[<-p,Heap.size_push]
 refine bz ⟨plainId_quiet F.plain_min_loop _,?_⟩;refine codeAny_builtin F.entry_min_loop ?_;rw[Around.under_plainId F.plain_min_loop _];have r:(c.push { cls:=.type "list",data:=.seq #[] }).get? c.objs.size=some { cls:=.type "list",data:=.seq #[] }:=Heap.get?_push_size _ rfl;have t:∀b o,s.heap.get? b=some o->(c.push { cls:=.type "list",data:=.seq #[] }).get? b=some o:=fun b o e=>bD _ (G b o e);show wpAny _ A.in1 (seqItems? (.ref c.objs.size) >>= _) _ _ _;refine aH (wpAny_seqItems r rfl ?_);show wpAny _ A.in1 (tryCatch (pyNext (.ref s.heap.objs.size)) _ >>= _) _ _ _;refine aH (wpAny_tryCatch (wpAny_pyNext_list_item (i:=0) (l:=l) (items:=its) (x:=its[0]) ⟨_,bD _ D,rfl,rfl⟩ (k.at fun o e=>t _ _ e) (by simp[m]) fun H f g=>?_));have ne:s.heap.objs.size≠c.objs.size:=by rw[q];exact q0v (q1h _)
 have h:=g.extBut _ _ (Ne.symm ne) r;have J:∀b o,s.heap.get? b=some o->H.get? b=some o:=fun b o e=>g.extBut _ _ (q0v (bE e)) (t _ _ e);show wpAny _ A.in1 (updateSeq c.objs.size (fun _=>#[its[0],its[0]]) >>= _) _ _ _;refine aH (wpAny_updateSeq h rfl ?_);rw[a];refine bz ⟨plainId_quiet F.plain_min_loop _,QB (h0:=s.heap) (its:=its) (rows:=rows) u y B k (be _) (by rw[q];exact q1t _) ne _ 0 _ its[0] _ rfl m (fun b o e=>(Heap.get?_update_other _ _ (fun z=>by subst z;exact absurd (bE e) (by rw[q];exact Nat.not_lt.mpr (q1t _)))).trans (J _ _ e)) (f.at fun o e=>(Heap.get?_update_other _ _ (Ne.symm ne)).trans e) (by simp[argBest,m]) (Heap.get?_update_self _ h rfl) fun v j n L M=>C v j n L M⟩
end
end L2
namespace L2.L3
open PySem PySem.Spec PyProof.Rows
noncomputable def gf:List PyData->Option (List Int)
 |[]=>some []
 |.int i::r=>(gf r).map (i::·)
 |_=>none
def jt:List PyData->Option (List (List Int))
 |[]=>some []
 |.tuple ds::r=>(match gf ds,jt r with |some x,some y=>some (x::y) |_,_=>none)
 |_=>none
theorem xp:∀{b a},gf b=some a->b=a.map PyData.int
 |[],a,h=>by cases h;rfl
 |.int i::r,a,h=>by unfold gf at h;obtain⟨m,c,d⟩:=q0i.mp h;subst d;rw[xp c];rfl
 |.none::_,_,h=>by cases h
 |.bool _::_,_,h=>by cases h
 |.str _::_,_,h=>by cases h
 |.list _::_,_,h=>by cases h
 |.tuple _::_,_,h=>by cases h
 |.dict _::_,_,h=>by cases h
theorem xq:∀{d a},jt d=some a->d=a.map fun r=>PyData.tuple (r.map PyData.int)
 |[],a,h=>by cases h;rfl
 |.tuple l::r,a,h=>by
  unfold jt at h;cases b:gf l with
  |none=>rw[b]at h;cases h
  |some x=>
   cases c:jt r with
   |none=>rw[b,c]at h;cases h
   |some y=>rw[b,c]at h;cases h;rw[xq c,xp b];rfl
 |.none::_,_,h=>by cases h
 |.bool _::_,_,h=>by cases h
 |.str _::_,_,h=>by cases h
 |.list _::_,_,h=>by cases h
 |.int _::_,_,h=>by cases h
 |.dict _::_,_,h=>by cases h
theorem xr:∀{vs}{a:List Int},aO H vs (a.map PyData.int)->vs=a.map V.int
 |_,[],.nil=>rfl
 |_,n::a,.cons h t=>by rw[h.int_inv,xr t];rfl
theorem ints_are:∀{a b},bp (a.map V.int) b->IntsAre b a
 |[],_,.nil=>.nil
 |n::a,_,.cons r t=>by obtain⟨c,rfl⟩:=r;exact .cons n c (ints_are t)
def fP:List (List Int)->List Int->List Int
 |[],b=>b
 |r::a,b=>fP a (if HT.lexLt r b=true then r else b)
theorem Ci(rows:List (List Int)):∀k j,j+1+k=rows.length->fP (rows.drop (j+1)) (rows.getD (argBest (iB rows) j) [])=rows.getD (argBest (iB rows) (rows.length - 1)) []
 |0,j,h=>by have e:rows.drop (j+1)=[]:=q1m (by lia);rw[e,fP,show rows.length - 1=j by lia]
 |k+1,j,h=>by
  have a:j+1<rows.length:=by lia
  rw[q0D a,fP,<-Ci rows k (j+1) (by lia)]
  congr 1
  have b:rows.getD (j+1) []=rows[j+1]:=by rw[q0Y,q0j a];rfl
  simp only[argBest];unfold iB;rw[b];split
  .exact b.symm
  .rfl
theorem QE{A:Around}(a:A.units+1<cLine):A.in1.units<cLine:=by
 have:A.in1.units<=A.units+1:=by first |exact be _ |exact q1t _
 exact q2d this a
def kN(i:Nat):XM PyData:=fun U=>match pK U i with
 |some (_,ds)=>(match jt ds with
  |some []=>.ok .none U
  |some (r::a)=>.ok (.tuple ((fP a r).map PyData.int)) U
  |none=>.bad)
 |none=>.bad
theorem QF{F:Fx}{E:Str->ai->Prop}{pos:Pos}{p:Pos}{kp:Pos}{kpos:Pos}{S}(hu:X.A.units+1<cLine)(hc:X.calm=true)(hg:Gl X "min")(C:X.mg "min" = none)(Z:PE X (.Name x p1) (bQ i))
  (a0:autoParam (starEach [.Name x p1] X.env=(false,eval (.Name x p1) X.env)::starEach [] X.env) Zq._auto_1)
  (he:autoParam (backTo pos (starEach [.Name x p1] X.env)=(false,eval (.Name x p1) X.env)::backTo pos (starEach [] X.env)) Zq._auto_1)
  (f:autoParam ((backTo pos (starEach [.Name x p1] X.env)).any (·.1)=false) Zq._auto_1)
  (D:autoParam ((backToKw pos (keywordEach [⟨some "default",.Constant .none S kp,kpos⟩] X.env)).all (·.1.isSome)=true) Zq._auto_1)
  (a1:autoParam ((backToKw pos (keywordEach [⟨some "default",.Constant .none S kp,kpos⟩] X.env)).any (·.1.isNone)=false) Zq._auto_1)
  (hn:autoParam ((backToKw pos (keywordEach [⟨some "default",.Constant .none S kp,kpos⟩] X.env)).filterMap (·.1)=[("default":Str)]) Zq._auto_1) :
  FE X F E (.Call (.Name "min" p) [.Name x p1] [⟨some "default",.Constant .none S kp,kpos⟩] pos) (kN i):=by
 refine⟨az,fun h s Y H Q I G=>?_⟩;obtain⟨U,O,st,q⟩:=G;unfold wp kN at q;cases ho:pK U i with
 |none=>rw[ho]at q;exact q.elim
 |some pr=>
  obtain⟨io,ds⟩:=pr;rw[ho]at q;simp only at q;cases hr:jt ds with
  |none=>rw[hr]at q;exact q.elim
  |some rows=>
   rw[hr]at q;obtain⟨a,fp,a2,⟨_,xs,hH,hd⟩,_,_⟩:=st.box (PC ho);refine wpAny_Call_Name_kw (kt I hg C PyProof.Rows.boot_min ?_ (by decide) (by decide));refine PyProof.Rows.callWith_kw ?_ he f D a1;refine aL ((dO Z eM a0) pos h s Y H (fun vs H1=>vs=[.ref a]/\H1=H) I ⟨_,a2,rfl,rfl⟩) fun us s1 J=>?_;obtain⟨vs,H1,I1,r1,t,y⟩:=J;subst t y;obtain⟨u,rfl,ru⟩:=vals1 r1;cases ru;refine aL ((KJ (nm:=some "default") (kpos:=kpos) zb KH) pos h s1 Y H1 (fun vs m=>vs=[.non]/\m=H1) I1 ⟨rfl,rfl⟩) fun us s2 M=>?_;obtain⟨vs,m,z,r2,t,y⟩:=M;subst t y;obtain⟨u,rfl,ru⟩:=vals1 r2;cases ru;rw[hn];obtain⟨z1,g,n1,rv,g1⟩:=z.hok _ _ hH;have n:=xq hr;have L:s2.heap.IsList a g.toArray:=⟨_,g1,rfl,_,rfl⟩
   cases rows with
   |nil=>subst n;cases hd;cases rv;simp only at q;refine Qp (l:=a) (d:=.none) (z.ok.hd hc) L fun h' j=>?_;exact⟨.non,m,z.kept (t':=s2.toks) j,rfl,q _ m O st .refl .non⟩
   |cons r e=>
    simp only at q;have c:g.length=(r::e).length:=by rw[<-rv.length,hd.length,n,q0h]
    have item:∀(k:Nat) (v:Value),g[k]? = some v->∃(T:Addr) (o:List Int) (b:List Value) (B:V),v=.ref T/\IsTup s2.heap T b.toArray/\(r::e)[k]? = some o/\IntsAre b o/\aV B v/\DV (al O m) B (.tuple (o.map PyData.int)):=fun k v j=>by
     have N:k<(r::e).length:=by rw[<-c];exact(q0a.mp j).1
     have a3:ds[k]? = some (.tuple (((r::e)[k]).map PyData.int)):=by rw[n,q0s,q0j N];rfl
     obtain⟨B,a4,R⟩:=hd.get a3;obtain⟨w,hw,a5⟩:=rv.get a4;rw[j]at hw;cases hw;obtain⟨T,ys,rfl,hT,hy⟩:=R.tup_inv;obtain⟨_,b,rj,pj⟩:=(gM hT).1.ok z.hok;rw[xr hy]at rj;cases a5;exact⟨T,_,b,.ref T,rfl,pj,q0j N,ints_are rj,rfl,R⟩
    refine QD (l:=a) (its:=g.toArray) (rows:=r::e) (d:=.none) (z.ok.hd hc) (QE hu) L ⟨c,fun k v j=>by
     obtain⟨T,o,b,B,t,y,e3,e4,_,_⟩:=item k v j;exact⟨T,b.toArray,o,t,y,e3,e4⟩⟩ (by simp only[q0p];rw[c];simp) fun v h' tk Z j=>?_
    simp only[q0p,q2B]at Z;obtain⟨T,o,b,B,t,y,e3,e4,e5,e6⟩:=item _ v Z;have C:=Ci (r::e) e.length 0 (by simp;lia);have a6:(r::e).getD (argBest (iB (r::e)) 0) []=r:=by simp[argBest]
    rw[a6]at C;change fP e r=_ at C;rw[c]at e3;have:o=fP e r:=by rw[C,q0Y,e3];rfl
    subst this;exact⟨B,m,z.kept (t':=tk) j,e5,q _ m O st .refl e6⟩
structure MD (K:Frag) (C:Addr) (m qual:Str) (st:Stmt) (ps:List Str) (g:Addr) (fd:FuncData):Prop where
 fn:ni K m qual st g fd
 mt:iM K C m g
 b:gL K fd ps []
theorem bi{N P}{a}(b:autoParam (a.kind=.function) Zq._auto_1)(c:autoParam (a.isCoroutine=false) Zq._auto_1)(d:autoParam (a.isGenerator=false) Zq._auto_1)(e:N.Nodup:=by decide +kernel)(f:autoParam (N.take P.length=P) Zq._auto_1)(g:∀x∈P,a.names.lookup x=some .local\/a.names.lookup x=some .cell:=by decide +kernel)(h:∀y∈a.names,y.2≠.free:=by decide +kernel):ca N P a:=⟨b,c,d,e,f,g,h⟩
theorem fv{X:Cx}{F:Fx}{E:Str->ai->Prop}{pos:Pos}(i)(b:autoParam (X.N[i]? = some x) Zq._auto_1)(c:kr X.env.scope x:=by first |exact Or.inl rfl |exact Or.inr (Or.inl rfl) |exact Or.inr (Or.inr rfl))(hd:autoParam ((x==("__debug__":Str))=false) Zr._auto_1)(a:autoParam ((x==("__classdict__":Str))=false) Zr._auto_1):FE X F E (.Name x pos) (xV i):=OC (Ae i (pv i b c hd a))
theorem QG{X:Cx}{F:Fx}{pos:Pos}(i)(a:X.N.Nodup)(b:autoParam (X.N[i]? = some x) Zq._auto_1)(c:Loc X.env.scope x:=by first |exact Or.inl rfl |exact Or.inr rfl)(d:X.fn x=true\/X.env.scope.names.lookup x=some .local:=by first |exact .inl rfl |exact .inr rfl |assumption):FG X F (.Name x pos) (ay i):=OT (MP (JC a b c d))
theorem nO{pos:Pos}{p:Pos}{st:Stmt}(d:fc X F E)(G:bU X.prog X.w X.K X.mg X.base (dt X.prog X.w) k g fd ps (fu X.K X.mg f))(D:FD X.K X.mg x st ps g fd)(h:bh j X.A)(l:FX X F E (e::es) mX)(n:autoParam (k<=j) Zr._auto_1)(o:autoParam (Gl X x) Zq._auto_1)(a:autoParam ((x==("__debug__":Str))=false) Zr._auto_1)
  (r:autoParam (starEach (e::es) X.env=(false,eval e X.env)::starEach es X.env) Zq._auto_1) (c:autoParam ((backTo pos (starEach es X.env)).any (·.1)=false) Zq._auto_1):FO X F E (.Call (.Name x p) (e::es) [] pos) (aF f mX):=OX (NB d G (h.mono n) o D.mgf D.fn.kp D.b l a r c)
end L2.L3
namespace L2.TS
open PySem PyProof.Rows
section
variable{α:Type}{le:α->α->Bool}
theorem sO:∀{xs},(∀x∈xs,le x b=true)->List.merge (xs++as) (b::bs) le=xs++List.merge as (b::bs) le
 |[],_=>rfl
 |x::xs,h=>by rw[q07,q0P,if_pos (h x q0g),sO fun y a=>h y (bG _ a)];rfl
theorem xu:∀{ys},(∀y∈ys,le a y=false)->List.merge (a::as) (ys++bs) le=ys++List.merge (a::as) bs le
 |[],_=>rfl
 |y::ys,h=>by rw[q07,q0P,if_neg (by rw[h y q0g];exact q0C),xu fun z b=>h z (bG _ b)];rfl
theorem xv(h:∀y∈bs,∀x∈b,le x y=false):List.merge b bs le=bs++b:=by
 cases b with
 |nil=>simp
 |cons x b=>have:=xu (le:=le) (as:=b) (bs:=[]) (a:=x) (ys:=bs) fun y c=>h y c x q0g;rw[q0B,q2r]at this;exact this
theorem QH(h:∀x∈as,∀y∈a,le x y=true):List.merge as a le=as++a:=by
 cases a with
 |nil=>simp
 |cons y a=>have:=sO (le:=le) (as:=[]) (bs:=a) (b:=y) (xs:=as) fun x c=>h x c y q0g;simpa using this
theorem xw:∀as bs,(∀y∈bs,∀x∈c,le x y=false)->List.merge (as++c) bs le=List.merge as bs le++c
 |[],bs,h=>by simpa using xv h
 |a::as,[],h=>by simp
 |a::as,b::bs,h=>by
  rw[q07,q0P,q0P];split
  .rw[xw as (b::bs) h];rfl
  .rw[<-q07,xw (a::as) bs fun y d=>h y (bG _ d)];rfl
termination_by as bs=>as.length+bs.length
theorem sP:∀as bs,(∀x∈as,∀y∈c,le x y=true)->List.merge as (bs++c) le=List.merge as bs le++c
 |as,[],h=>by simpa using QH h
 |[],b::bs,h=>by simp
 |a::as,b::bs,h=>by
  rw[q07,q0P,q0P];split
  .rw[<-q07,sP as (b::bs) fun x d=>h x (bG _ d)];rfl
  .rw[sP (a::as) bs h];rfl
termination_by as bs=>as.length+bs.length
end
noncomputable def cW:Bool->Keyed->Array Keyed->Nat->Nat->Nat->StateT SortSt Sem (Option Nat):=sortPriv% PySem.Builtin.gallop
noncomputable def nP(lf:Bool)(a:Keyed)(b:Array Keyed)(bs i:Nat):StateT SortSt Sem (Option Bool):=do
 let x <-elem' b (bs+i)
 if lf then lt' x a else return (<-lt' a x).map (!·)
def sQ(lf:Bool)(ky:Keyed)(ar:Array Keyed)(bs n l0 h0:Nat):StateT SortSt Sem (Option Nat):=do
 let mut lo:=l0;let mut hi:=h0
 for _ in [0:n] do
  if lo≥hi then break
  let m:=lo+(hi - lo) / 2
  let some mo <-nP lf ky ar bs m |return none
  if mo then lo:=m+1 else hi:=m
 return some hi
theorem QI(lf ky ar bs n hn):cW lf ky ar bs n hn=(do
 let mut la:=0;let mut of:=1
 let some rt <-nP lf ky ar bs hn |return none
 if rt then
  for _ in [0:n] do
   if of≥n - hn then break
   let some mo <-nP lf ky ar bs (hn+of) |return none
   if !mo then break
   la:=of
   of:=2 * of+1
  sQ lf ky ar bs n (hn+la+1) (hn+min of (n - hn))
 else
  for _ in [0:n] do
   if of≥hn+1 then break
   let some fd <-nP lf ky ar bs (hn - of) |return none
   if fd then break
   la:=of
   of:=2 * of+1
  sQ lf ky ar bs n (hn+1 - min of (hn+1)) (hn - la)):=rfl
def eJ(prog:Program)(w:World)(A:Around)(E:Value->Shared->Prop)(s:Shared)(le:Keyed->Keyed->Bool)(κ:SortKind)(S:Keyed->Prop):Prop:=
 ∀x y,S x->S y->∀(Q:Option Bool->SortSt->Prop) (st:SortSt),kindOf st=κ->Q (some (!le y x)) st->wpS (model prog w) A E s (lt' x y) Q st
theorem dM{st}(h:a[i]? = some x)(q:Q x st):wpS (model prog w) A E s (elem' a i) Q st:=by rw[elem'_eq,h];exact ba q
noncomputable def dW(le:Keyed->Keyed->Bool)(lf:Bool)(a x:Keyed):Bool:=if lf then !le a x else le x a
theorem sR(b:eJ prog w A E s le κ S){st}(d:kindOf st=κ)(g:c[bs+i]? = some x)(e:S x)(f:S a)
  (q:Q (some (dW le lf a x)) st):wpS (model prog w) A E s (nP lf a c bs i) Q st:=by
 unfold nP;refine aN (dM g ?_);cases lf with
 |true=>exact b x a e f Q st d q
 |false=>exact aN (b a x f e _ st d (ba (by simpa[dW] using q)))
theorem Cj{p:Nat->Bool}{st:SortSt}(t:eJ prog w A E s le κ S)(u:kindOf st=κ)(v:S ky)(q:∀i,i<n->∃x,ar[bs+i]? = some x/\S x/\dW le lf ky x=p i)(mono:∀i j,i<=j->j<n->p j=true->p i=true)
  (h:∀k,k<=n->(∀i,i<k->p i=true)->(∀i,k<=i->i<n->p i=false)->Q (some k) st) (r:o<=l) (y:l<=n) (z:∀i,i<o->p i=true) (B:∀i,l<=i->i<n->p i=false) :
  wpS (model prog w) A E s (sQ lf ky ar bs n o l) Q st:=by
 unfold sQ;dsimp only;refine aN (wpS_mono (wpS_forRange (I:=fun x c a=>a = st/\∃lo b,c=(none,lo,b)/\lo<=b/\b<=n/\b - lo<=n - x/\(∀i,i<lo->p i=true)/\(∀i,b<=i->i<n->p i=false))
  (Q:=fun c a=>a = st/\∃k,c=(none,k,k)/\k<=n/\(∀i,i<k->p i=true)/\(∀i,k<=i->i<n->p i=false)) ?_ ?_ ⟨rfl,o,l,rfl,r,y,by lia,z,B⟩) ?_)
 .rintro x c a _ R ⟨rfl,lo,b,rfl,C,d,D,f,g⟩;dsimp only
  by_cases m:lo≥b
  .rw[if_pos m];have:lo=b:=by lia
   subst this;exact ba ⟨rfl,lo,rfl,d,f,g⟩
  .rw[if_neg m];obtain⟨x,G,H,J⟩:=q (lo+(b - lo) / 2) (by lia);refine aN (sR t u G H v ?_);rw[J];cases e:p (lo+(b - lo) / 2) with
   |true=>exact ba ⟨rfl,_,_,rfl,by lia,d,by lia,fun i L=>mono i _ (by lia) (by lia) e,g⟩
   |false=>
    refine ba ⟨rfl,_,_,rfl,by lia,by lia,by lia,f,fun i M N=>?_⟩;cases O:p i with
    |false=>rfl
    |true=>rw[mono _ i M N O]at e;cases e
 .rintro c a ⟨rfl,lo,b,rfl,C,d,D,f,g⟩;have:lo=b:=by lia
  subst this;exact⟨rfl,lo,rfl,d,f,g⟩
 .rintro c a ⟨rfl,k,rfl,d,f,g⟩;exact ba (h k d f g)
theorem QJ{p:Nat->Bool}{st:SortSt}(r:eJ prog w A E s le κ S)(t:kindOf st=κ)(u:S ky)(l:∀i,i<n->∃x,ar[bs+i]? = some x/\S x/\dW le lf ky x=p i)(mono:∀i j,i<=j->j<n->p j=true->p i=true)
  (h:∀k,k<=n->(∀i,i<k->p i=true)->(∀i,k<=i->i<n->p i=false)->Q (some k) st) (H:b<n) :
  wpS (model prog w) A E s (cW lf ky ar bs n b) Q st:=by
 rw[QI];have o:∀i j,i<=j->j<n->p i=false->p j=false:=fun i j C v e=>by
  cases J:p j with
  |false=>rfl
  |true=>rw[mono i j C v J]at e;cases e
 obtain⟨x,y,z,B⟩:=l b H;refine aN (sR r t y z u ?_);rw[B];dsimp only;cases e:p b with
 |true=>
  rw[if_pos rfl];refine aN (wpS_mono (wpS_forRange (I:=fun x c a=>a = st/\∃la of,c=(none,la,of)/\la<of/\x+1<=of/\b+la<n/\p (b+la)=true)
   (Q:=fun c a=>a = st/\∃la of,c=(none,la,of)/\la<of/\b+la<n/\p (b+la)=true/\(n - b<=of\/(b+of<n/\p (b+of)=false))) ?_ ?_ ⟨rfl,0,1,rfl,by lia,by lia,by lia,e⟩) ?_)
  .rintro x c a _ L ⟨rfl,la,of,rfl,m,D,g,f⟩;dsimp only
   by_cases d:of≥n - b
   .rw[if_pos d];exact ba ⟨rfl,la,of,rfl,m,g,f,.inl d⟩
   .rw[if_neg d];obtain⟨x,y,z,B⟩:=l (b+of) (by lia);refine aN (sR r t y z u ?_);rw[B];cases e:p (b+of) with
    |true=>exact ba ⟨rfl,of,_,rfl,by lia,by lia,by lia,e⟩
    |false=>exact ba ⟨rfl,la,of,rfl,m,g,f,.inr ⟨by lia,e⟩⟩
  .rintro c a ⟨rfl,la,of,rfl,m,D,g,f⟩;exact⟨rfl,la,of,rfl,m,g,f,.inl (by lia)⟩
  .rintro c a ⟨rfl,la,of,rfl,m,g,f,q⟩;dsimp only;refine Cj r t u l mono h (by lia) (by lia) (fun i M=>mono i _ (by lia) g f) (fun i C v=>?_);rcases q with q |⟨q,G⟩
   .omega
   .exact o _ i (by lia) v G
 |false=>
  rw[if_neg q0C];refine aN (wpS_mono (wpS_forRange (I:=fun x c a=>a = st/\∃la of,c=(none,la,of)/\la<of/\x+1<=of/\la<=b/\p (b - la)=false)
   (Q:=fun c a=>a = st/\∃la of,c=(none,la,of)/\la<of/\la<=b/\p (b - la)=false/\(b+1<=of\/(of<=b/\p (b - of)=true))) ?_ ?_ ⟨rfl,0,1,rfl,by lia,by lia,by lia,e⟩) ?_)
  .rintro x c a _ L ⟨rfl,la,of,rfl,m,D,g,f⟩;dsimp only
   by_cases d:of≥b+1
   .rw[if_pos d];exact ba ⟨rfl,la,of,rfl,m,g,f,.inl d⟩
   .rw[if_neg d];obtain⟨x,y,z,B⟩:=l (b - of) (by lia);refine aN (sR r t y z u ?_);rw[B];cases e:p (b - of) with
    |false=>exact ba ⟨rfl,of,_,rfl,by lia,by lia,by lia,e⟩
    |true=>exact ba ⟨rfl,la,of,rfl,m,g,f,.inr ⟨by lia,e⟩⟩
  .rintro c a ⟨rfl,la,of,rfl,m,D,g,f⟩;exact⟨rfl,la,of,rfl,m,g,f,.inl (by lia)⟩
  .rintro c a ⟨rfl,la,of,rfl,m,g,f,q⟩;dsimp only;refine Cj r t u l mono h (by lia) (by lia) (fun i M=>?_) (fun i C v=>o _ i C v f);rcases q with q |⟨q,G⟩
   .omega
   .exact mono i _ (by lia) (by lia) G
theorem nQ{st:SortSt}(g:eJ prog w A E s le κ S)(f:∀x y z,le x y=true->le y z=true->le x z=true)(l:kindOf st=κ)(m:S ky)(o:∀(i:Nat)  x,ar[i]? = some x->S x)(r:bs+n<=ar.size)
  (t:∀i j  x y,bs<=i->i<=j->j<bs+n->ar[i]? = some x->ar[j]? = some y->le x y=true)
  (h:∀k,k<=n->(∀i,i<k->∀x,ar[bs+i]? = some x->dW le lf ky x=true)->(∀i,k<=i->i<n->∀x,ar[bs+i]? = some x->dW le lf ky x=false)->Q (some k) st) (u:a<n) :
  wpS (model prog w) A E s (cW lf ky ar bs n a) Q st:=by
 refine QJ (p:=fun i=>match ar[bs+i]? with |some x=>dW le lf ky x |none=>false) g l m (fun i b=>?_) (fun i j v I e=>?_) (fun k eR B C=>h k eR (fun i b x e=>?_) (fun i D G x e=>?_)) u
 .have e:ar[bs+i]? = some (ar[bs+i]'(by lia)):=getElem?_pos _ _ (by lia);exact⟨_,e,o _ _ e,by simp only[e]⟩
 .have c:ar[bs+i]? = some (ar[bs+i]'(by lia)):=getElem?_pos _ _ (by lia);have d:ar[bs+j]? = some (ar[bs+j]'(by lia)):=getElem?_pos _ _ (by lia);have q:=t _ _ _ _ (by lia) (by lia) (by lia) c d;simp only[c,d]at e ⊢;cases lf with
  |false=>exact f _ _ _ q e
  |true=>
   simp only[dW,if_true,q2m]at e ⊢;cases H:le ky (ar[bs+i]'(by lia)) with
   |false=>rfl
   |true=>rw[f _ _ _ H q]at e;cases e
 .have:=B i b;simp only[e]at this;exact this
 .have:=C i D G;simp only[e]at this;exact this
noncomputable def eU:Nat->StateT SortSt Sem Unit:=sortPriv% PySem.Builtin.setMinGallop
theorem sS(g):eU g=modify fun s=>SortSt.mk' (kindOf s) (arrOf s) (pendingOf s) g (failedOf s):=rfl
noncomputable def jW:Array Keyed->Array Keyed->StateT SortSt Sem (Array Keyed):=sortPriv% PySem.Builtin.mergeLo
abbrev jb:=Option (Array Keyed)×Array Keyed×Nat×Nat×Nat×Nat×Nat
abbrev pW:=Option (Array Keyed)×Array Keyed×Nat×Nat×Nat×Nat
noncomputable def dn(a b o:Array Keyed)(c d:Nat):Array Keyed:=o++a.extract c a.size++b.extract d b.size
noncomputable def la(a b o:Array Keyed)(c d:Nat):Array Keyed:=o++b.extract d b.size++a.extract c a.size
def pX(a b:Array Keyed)(mg ac d:Nat)(o:Array Keyed)(c e:Nat):StateT SortSt Sem (ForInStep jb):=do
 let x <-elem' a c
 if c+1+1==a.size then pure (.done (some (la a b (o.push x) (c+1) e),o.push x,c+1,e,mg,ac,d))
 else if ac<7&&d<7 then pure (.done (none,o.push x,c+1,e,mg,ac,d)) else pure (.yield (none,o.push x,c+1,e,mg,ac,d))
def pY(a b:Array Keyed)(mg ac e:Nat)(o:Array Keyed)(d c:Nat):StateT SortSt Sem (ForInStep jb):=do
 let y <-elem' b c
 if c+1==b.size then pure (.done (some (dn a b (o.push y) d (c+1)),o.push y,d,c+1,mg,ac,e))
 else
  let x <-elem' a d
  match <-cW true x b (c+1) (b.size - (c+1)) 0 with
  |some k=>
   if k>0 then
    if c+1+k==b.size then pure (.done (some (dn a b (o.push y++b.extract (c+1) (c+1+k)) d (c+1+k)),o.push y++b.extract (c+1) (c+1+k),d,c+1+k,mg,ac,k))
    else pX a b mg ac k (o.push y++b.extract (c+1) (c+1+k)) d (c+1+k)
   else pX a b mg ac k (o.push y) d (c+1)
  |_=>pure (.done (some (dn a b (o.push y) d (c+1)),o.push y,d,c+1,mg,ac,e))
def pZ(a b:Array Keyed)(ac e:Nat)(o:Array Keyed)(c d mg:Nat):StateT SortSt Sem (ForInStep jb):=do
 eU mg
 let y <-elem' b d
 match <-cW false y a c (a.size - c) 0 with
 |some k=>
  if k>0 then
   if c+k+1==a.size then pure (.done (some (la a b (o++a.extract c (c+k)) (c+k) d),o++a.extract c (c+k),c+k,d,mg,k,e))
   else if c+k==a.size then pure (.done (some (dn a b (o++a.extract c (c+k)) (c+k) d),o++a.extract c (c+k),c+k,d,mg,k,e))
   else pY a b mg k e (o++a.extract c (c+k)) (c+k) d
  else pY a b mg k e o c d
 |_=>pure (.done (some (dn a b o c d),o,c,d,mg,ac,e))
def sT(a b:Array Keyed)(c:jb):StateT SortSt Sem (ForInStep jb):=
 if c.2.2.2.2.1>1 then pZ a b c.2.2.2.2.2.1 c.2.2.2.2.2.2 c.2.1 c.2.2.1 c.2.2.2.1 (c.2.2.2.2.1 - 1) else pZ a b c.2.2.2.2.2.1 c.2.2.2.2.2.2 c.2.1 c.2.2.1 c.2.2.2.1 c.2.2.2.2.1
def sU(a b:Array Keyed)(mg:Nat)(c:pW):StateT SortSt Sem (ForInStep pW):=do
 let y <-elem' b c.2.2.2.1;let x <-elem' a c.2.2.1
 match <-lt' y x with
 |some d=>
  if d then do
   let y <-elem' b c.2.2.2.1
   if c.2.2.2.1+1==b.size then pure (.done (some (dn a b (c.2.1.push y) c.2.2.1 (c.2.2.2.1+1)),c.2.1.push y,c.2.2.1,c.2.2.2.1+1,0,c.2.2.2.2.2+1))
   else if c.2.2.2.2.2+1≥mg then pure (.done (none,c.2.1.push y,c.2.2.1,c.2.2.2.1+1,0,c.2.2.2.2.2+1)) else pure (.yield (none,c.2.1.push y,c.2.2.1,c.2.2.2.1+1,0,c.2.2.2.2.2+1))
  else do
   let x <-elem' a c.2.2.1
   if c.2.2.1+1+1==a.size then pure (.done (some (la a b (c.2.1.push x) (c.2.2.1+1) c.2.2.2.1),c.2.1.push x,c.2.2.1+1,c.2.2.2.1,c.2.2.2.2.1+1,0))
   else if c.2.2.2.2.1+1≥mg then pure (.done (none,c.2.1.push x,c.2.2.1+1,c.2.2.2.1,c.2.2.2.2.1+1,0)) else pure (.yield (none,c.2.1.push x,c.2.2.1+1,c.2.2.2.1,c.2.2.2.2.1+1,0))
 |_=>pure (.done (some (dn a b c.2.1 c.2.2.1 c.2.2.2.1),c.2.1,c.2.2.1,c.2.2.2.1,c.2.2.2.2.1,c.2.2.2.2.2))
abbrev sV:=Option (Array Keyed)×Array Keyed×Nat×Nat×Nat
def sW(a b:Array Keyed)(c:sV):StateT SortSt Sem (ForInStep sV):=do
 let d <-forIn [:a.size+b.size] ((none,c.2.1,c.2.2.1,c.2.2.2.1,0,0):pW) fun _ d=>sU a b c.2.2.2.2 d
 match d.1 with
 |some r=>pure (.done (some r,d.2.1,d.2.2.1,d.2.2.2.1,c.2.2.2.2))
 |none=>
  rule "list.sort.gallop"
  let e <-forIn [:a.size+b.size] ((none,d.2.1,d.2.2.1,d.2.2.2.1,c.2.2.2.2+1,d.2.2.2.2.1,d.2.2.2.2.2):jb) fun _ e=>sT a b e
  match e.1 with
  |some r=>pure (.done (some r,e.2.1,e.2.2.1,e.2.2.2.1,e.2.2.2.2.1))
  |none=>
   eU (e.2.2.2.2.1+1)
   pure (.yield (none,e.2.1,e.2.2.1,e.2.2.2.1,e.2.2.2.2.1+1))
theorem fb{r:Std.Legacy.Range}{x}{f g}{k a:β->StateT SortSt Sem γ}(h:∀i c,f i c=g i c)(b:∀c,k c=a c):(forIn r x f >>= k)=(forIn r x g >>= a):=by have e:f=g:=funext fun i=>funext fun c=>h i c;have d:k=a:=funext b;rw[e,d]
theorem gD[Decidable p]{α:Type}{x a y b:α}(c:x=a)(d:y=b):(if p then x else y)=if p then a else b:=by rw[c,d]
theorem QK(a b):jW a b=(do
 rule "list.sort.merge-lo"
 let tt:=a.size+b.size;let dn (o:Array Keyed) (ia ib:Nat):=o++a.extract ia a.size++b.extract ib b.size;let la (o:Array Keyed) (ia ib:Nat):=o++b.extract ib b.size++a.extract ia a.size;let mut o:Array Keyed:=#[<-elem' b 0];let mut ia:=0;let mut ib:=1
 if ib==b.size then return dn o ia ib
 if ia+1==a.size then return la o ia ib
 let mut mg:=gallopOf (<-get)
 for _ in [0:tt] do
  let mut ac:=0;let mut bc:=0
  for _ in [0:tt] do
   let some bw <-lt' (<-elem' b ib) (<-elem' a ia) |return dn o ia ib
   if bw then
    o:=o.push (<-elem' b ib);ib:=ib+1;bc:=bc+1;ac:=0
    if ib==b.size then return dn o ia ib
    if bc≥mg then break
   else
    o:=o.push (<-elem' a ia);ia:=ia+1;ac:=ac+1;bc:=0
    if ia+1==a.size then return la o ia ib
    if ac≥mg then break
  rule "list.sort.gallop"
  mg:=mg+1
  for _ in [0:tt] do
   if mg>1 then mg:=mg - 1
   eU mg
   let some k <-cW false (<-elem' b ib) a ia (a.size - ia) 0 |return dn o ia ib
   ac:=k
   if k>0 then
    o:=o++a.extract ia (ia+k);ia:=ia+k
    if ia+1==a.size then return la o ia ib
    if ia==a.size then return dn o ia ib
   o:=o.push (<-elem' b ib);ib:=ib+1
   if ib==b.size then return dn o ia ib
   let some k <-cW true (<-elem' a ia) b ib (b.size - ib) 0 |return dn o ia ib
   bc:=k
   if k>0 then
    o:=o++b.extract ib (ib+k);ib:=ib+k
    if ib==b.size then return dn o ia ib
   o:=o.push (<-elem' a ia);ia:=ia+1
   if ia+1==a.size then return la o ia ib
   if ac<7&&bc<7 then break
  mg:=mg+1
  eU mg
 unsupported "internal:list.sort.merge-bound"):=rfl
theorem QL(a b):jW a b=(do
 rule "list.sort.merge-lo"
 let y <-elem' b 0
 if 1==b.size then return dn a b #[y] 0 1
 if 0+1==a.size then return la a b #[y] 0 1
 let g <-get;let c <-forIn [:a.size+b.size] ((none,#[y],0,1,gallopOf g):sV) fun _ c=>sW a b c
 match c.1 with
 |some r=>pure r
 |none=>unsupported "internal:list.sort.merge-bound"):=by
 rw[QK];refine bJ fun _=>?_;dsimp only;refine bJ fun y=>?_;unfold dn la;refine congrArg _ (congrArg _ (bJ fun g=>?_));refine fb (fun _ c=>?_) fun c=>?_
 .unfold sW;refine fb (fun _ d=>?_) fun d=>?_
  .unfold sU dn la;refine bJ fun _=>bJ fun _=>bJ fun q=>?_;cases q<;>rfl
  .obtain⟨r,d⟩:=d;cases r with
   |some r=>rfl
   |none=>
    dsimp only;refine bJ fun _=>fb (fun _ e=>?_) fun e=>?_
    .unfold sT pZ dn la;refine gD ?_ ?_ <;>
     .refine bJ fun _=>bJ fun _=>bJ fun q=>?_;cases q with
      |none=>rfl
      |some k=>
       refine gD (gD rfl (gD rfl ?_)) ?_ <;>
       .unfold pY pX dn la;refine bJ fun _=>gD rfl (bJ fun _=>bJ fun q=>?_);cases q<;>rfl
    .obtain⟨r,e⟩:=e;cases r<;>rfl
 .obtain⟨r,c⟩:=c;cases r<;>rfl
theorem jX{α:Type}{l:List α}{x}(h:l[i]? = some x):l.drop i=x::l.drop (i+1):=by obtain⟨a,b⟩:=q0a.mp h;rw[q0D a,b]
theorem drop_take{α:Type}(l:List α)(i k):l.drop i=(l.drop i).take k++l.drop (i+k):=by rw[<-q1l];exact(q05 k (l.drop i)).symm
theorem iD{α:Type}(a:Array α)(i j):(a.extract i j).toList=(a.toList.drop i).take (j - i):=by simp[List.extract_eq_take_drop]
theorem cN{α:Type}{a:Array α}{i:Nat}:a[i]? = a.toList[i]?:=by simp
def JJ(le:Keyed->Keyed->Bool)(a b:Array Keyed)(o:Array Keyed)(c d:Nat):Prop:=o.toList++List.merge (a.toList.drop c) (b.toList.drop d) le=List.merge a.toList b.toList le
theorem JJ.pb(h:JJ le a b o ia ib)(c:a[ia]? = some x)(d:b[ib]? = some y)(e:le x y=false):JJ le a b (o.push y) ia (ib+1):=by unfold JJ at h ⊢;rw[cN]at c d;rw[<-h,jX c,jX d,q0P,if_neg (by rw[e];exact q0C)];simp
theorem JJ.pa(h:JJ le a b o ia ib)(c:a[ia]? = some x)(d:b[ib]? = some y)(e:le x y=true):JJ le a b (o.push x) (ia+1) ib:=by unfold JJ at h ⊢;rw[cN]at c d;rw[<-h,jX c,jX d,q0P,if_pos e];simp
theorem qa{l:List Keyed}(h:x∈(l.drop i).take k):∃j,j<k/\l[i+j]? = some x:=by
 obtain⟨j,c⟩:=q0J h;rw[q1G]at c;split at c
 .rename_i q;rw[q1H]at c;exact⟨j,q,c⟩
 .cases c
theorem JJ.ga(h:JJ le a b o ia ib)(c:b[ib]? = some y)(e:∀i,i<k->∀x,a[ia+i]? = some x->le x y=true):JJ le a b (o++a.extract ia (ia+k)) (ia+k) ib:=by unfold JJ at h ⊢;rw[cN]at c;rw[<-h,drop_take a.toList ia k,jX c,sO (fun x d=>by obtain⟨j,f,q⟩:=qa d;exact e j f x (by rw[cN];exact q))];simp only[q02,iD,q0t,q0O]
theorem JJ.gb(h:JJ le a b o ia ib)(c:a[ia]? = some x)(e:∀i,i<k->∀y,b[ib+i]? = some y->le x y=false):JJ le a b (o++b.extract ib (ib+k)) ia (ib+k):=by unfold JJ at h ⊢;rw[cN]at c;rw[<-h,drop_take b.toList ib k,jX c,xu (fun y d=>by obtain⟨j,f,q⟩:=qa d;exact e j f y (by rw[cN];exact q))];simp only[q02,iD,q0t,q0O]
theorem JJ.dn(h:JJ le a b o ia ib)(e:b.size<=ib):(dn a b o ia ib).toList=List.merge a.toList b.toList le:=by
 unfold JJ at h;unfold TS.dn;rw[<-h,show b.toList.drop ib=[] from q1m (by simpa using e),q2r];have c:(b.extract ib b.size).toList=[]:=by rw[iD,show b.size - ib=0 by lia,q2G]
 have d:(a.extract ia a.size).toList=a.toList.drop ia:=by rw[iD,q0Z (by simp)]
 simp only[q02,c,d,q0B]
theorem JJ.la(h:JJ le a b o ia ib)(e:∀i  x y,i+1=a.size->a[i]? = some x->y∈b.toList->le x y=false)(f:ia+1=a.size):(la a b o ia ib).toList=List.merge a.toList b.toList le:=by
 unfold JJ at h;unfold TS.la;have d:a[ia]? = some (a[ia]'(by lia)):=getElem?_pos _ _ (by lia);have c:=d;rw[cN]at c;rw[<-h,jX c,q1m (by simp;lia),xv (fun y g z j=>by obtain rfl:=q0k.mp j;exact e ia _ y f d (List.mem_of_mem_drop g))];have l:(b.extract ib b.size).toList=b.toList.drop ib:=by rw[iD,q0Z (by simp)]
 have m:(a.extract ia a.size).toList=[a[ia]'(by lia)]:=by rw[iD,jX c,show a.size - ia=1 by lia];rfl
 simp only[q02,l,m,q0t]
structure Sm (st st':SortSt):Prop where
 kind:kindOf st' = kindOf st
 arr:arrOf st' = arrOf st
 pend:pendingOf st' = pendingOf st
 failed:failedOf st' = failedOf st
theorem Sm.refl{st}:Sm st st:=⟨rfl,rfl,rfl,rfl⟩
theorem Sm.mg{st }(h:Sm st a)(g):Sm st (SortSt.mk' (kindOf a) (arrOf a) (pendingOf a) g (failedOf a)):=⟨h.kind,h.arr,h.pend,h.failed⟩
section
variable{prog:Program}{w:World}{A:Around}{E:Value->Shared->Prop}{s:Shared}{le:Keyed->Keyed->Bool}{κ:SortKind}{S:Keyed->Prop}{a b:Array Keyed}{st0:SortSt}
structure MH (le:Keyed->Keyed->Bool) (S:Keyed->Prop) (a b:Array Keyed):Prop where
 tr:∀x y z,le x y=true->le y z=true->le x z=true
 sa:∀(i j:Nat) (x y:Keyed),i<=j->a[i]? = some x->a[j]? = some y->le x y=true
 sb:∀(i j:Nat) (x y:Keyed),i<=j->b[i]? = some x->b[j]? = some y->le x y=true
 Sa:∀(i:Nat) (x:Keyed),a[i]? = some x->S x
 Sb:∀(i:Nat) (x:Keyed),b[i]? = some x->S x
 a0:0<a.size
 b0:0<b.size
 first:∀x y:Keyed,a[0]? = some x->b[0]? = some y->le x y=false
 last:∀(i:Nat) (x y:Keyed),i+1=a.size->a[i]? = some x->y∈b.toList->le x y=false
theorem at_{α:Type}{c:Array α}(h:i<c.size):∃x,c[i]? = some x:=⟨c[i],q2g h⟩
def Gd(le:Keyed->Keyed->Bool)(a b o:Array Keyed)(c d:Nat):Prop:=JJ le a b o c d/\c+1<a.size/\d<b.size
def GR(le:Keyed->Keyed->Bool)(a b:Array Keyed)(m:Nat):ForInStep jb->Prop
 |.done (some r,_)=>r.toList=List.merge a.toList b.toList le
 |.done (none,o,c,d,_)=>Gd le a b o c d/\m<=c+d
 |.yield (none,o,c,d,_)=>Gd le a b o c d/\m<=c+d
 |.yield (some _,_)=>False
variable(M:MH le S a b)
include M
theorem Ck{st}(h:JJ le a b o c d)(q:c+1<a.size)(p:d<b.size)(t:m<=c+d)
  (j:a[c]? = some x) (n:b[d]? = some y) (e:le x y=true) (f:∀r,GR le a b m r->Q r st):wpS (model prog w) A E s (pX a b mg ac l o c d) Q st:=by
 unfold pX;refine aN (dM j ?_);have k:=h.pa j n e
 by_cases i:c+1+1=a.size
 .rw[if_pos (by simpa using i)];exact ba (f _ (k.la M.last i))
 .rw[if_neg (by simpa using i)];have g:Gd le a b (o.push x) (c+1) d/\m<=c+1+d:=⟨⟨k,by lia,p⟩,by lia⟩
  split
  .exact ba (f _ g)
  .exact ba (f _ g)
theorem Cm(J:eJ prog w A E s le κ S){st}(N:kindOf st=κ)(h:JJ le a b o l d)(B:l+1<a.size)(T:d<b.size)(R:m<=l+d)
  (g:a[l]? = some x) (C:b[d]? = some y) (e:le x y=false) (n:∀r,GR le a b m r->Q r st):wpS (model prog w) A E s (pY a b mg ac L o l d) Q st:=by
 unfold pY;refine aN (dM C ?_);have p:=h.pb g C e
 by_cases D:d+1=b.size
 .rw[if_pos (by simpa using D)];exact ba (n _ (p.dn (by lia)))
 .rw[if_neg (by simpa using D)];refine aN (dM g (aN (nQ J M.tr N (M.Sa _ _ g) M.Sb (by lia) (fun i j u v _ t _=>M.sb i j u v t) (fun k eR g1 g2=>?_) (by lia))));dsimp only;have G:=p.gb (k:=k) g fun i O z f=>by have:=g1 i O z f;simpa[dW] using this
  have H:∀z:Keyed,k<b.size - (d+1)->b[d+1+k]? = some z->le x z=true:=fun z q f=>by have:=g2 k (be _) q z f;simpa[dW] using this
  by_cases k0:k>0
  .rw[if_pos k0]
   by_cases I:d+1+k=b.size
   .rw[if_pos (by simpa using I)];exact ba (n _ (G.dn (by lia)))
   .rw[if_neg (by simpa using I)];obtain⟨z,f⟩:=at_ (c:=b) (i:=d+1+k) (by lia);exact Ck M G B (by lia) (by lia) g f (H z (by lia) f) n
  .rw[if_neg k0];have:k=0:=by lia
   subst this;obtain⟨z,f⟩:=at_ (c:=b) (i:=d+1) (by lia);exact Ck M p B (by lia) (by lia) g f (H z (by lia) f) n
theorem Co(x:eJ prog w A E s le κ S){st}(L:Sm st0 st)(N:kindOf st0=κ)(h:JJ le a b o d t)(O:d+1<a.size)(G:t<b.size)(R:m<=d+t)
  (B:∀r n,Sm st0 n->GR le a b m r->Q r n):wpS (model prog w) A E s (pZ a b ac J o d t mg) Q st:=by
 unfold pZ;rw[sS];obtain⟨y,l⟩:=at_ G;refine aN (wpS_modify (aN (dM l ?_)));have f:=L.mg mg;generalize SortSt.mk' (kindOf st) (arrOf st) (pendingOf st) mg (failedOf st)=C at f ⊢;have eR:kindOf C=κ:=f.kind.trans N;refine aN (nQ x M.tr eR (M.Sb _ _ l) M.Sa (by lia) (fun i j u v _ D _=>M.sa i j u v D) (fun k nH g1 g2=>?_) (by lia));dsimp only;have H:=h.ga (k:=k) l fun i T z e=>by have:=g1 i T z e;simpa[dW] using this
 have I:∀z:Keyed,k<a.size - d->a[d+k]? = some z->le z y=false:=fun z q e=>by have:=g2 k (be _) q z e;simpa[dW] using this
 have U:d+k<a.size:=by
  rcases Nat.lt_or_ge (d+k) a.size with q |q
  .exact q
  .obtain⟨z,e⟩:=at_ (c:=a) (i:=a.size - 1) (by lia);have X:=M.last (a.size - 1) z y (by lia) e (by rw[cN]at l;exact q0G l);have p:=g1 (a.size - 1 - d) (by lia) z (by rw[show d+(a.size - 1 - d)=a.size - 1 by lia];exact e);simp[dW,X]at p
 by_cases k0:k>0
 .rw[if_pos k0]
  by_cases p:d+k+1=a.size
  .rw[if_pos (by simpa using p)];exact ba (B _ _ f (H.la M.last p))
  .rw[if_neg (by simpa using p),if_neg (by simp;lia)];obtain⟨z,e⟩:=at_ (c:=a) (i:=d+k) (by lia);exact Cm M x eR H (by lia) G (by lia) e l (I z (by lia) e) fun r g=>B r _ f g
 .rw[if_neg k0];have:k=0:=by lia
  subst this;obtain⟨z,e⟩:=at_ (c:=a) (i:=d) (by lia);exact Cm M x eR h O G R e l (I z (by lia) e) fun r g=>B r _ f g
theorem QM(f:eJ prog w A E s le κ S){st}(g:Sm st0 st)(i:kindOf st0=κ)(h:Gd le a b o d e/\m<=d+e)
  (j:∀r c,Sm st0 c->GR le a b m r->Q r c):wpS (model prog w) A E s (sT a b (none,o,d,e,mg,ac,k)) Q st:=by
 unfold sT;dsimp only;split
 .exact Co M f g i h.1.1 h.1.2.1 h.1.2.2 h.2 j
 .exact Co M f g i h.1.1 h.1.2.1 h.1.2.2 h.2 j
def FR(le:Keyed->Keyed->Bool)(a b:Array Keyed)(m:Nat):pW->Prop
 |(some r,_)=>r.toList=List.merge a.toList b.toList le
 |(none,o,c,d,_)=>Gd le a b o c d/\m<=c+d
theorem QN(v:eJ prog w A E s le κ S){st}(B:kindOf st=κ)(h:Gd le a b o k n)(C:m<=k+n+1)
  (hd:∀c,FR le a b m c->Q (.done c) st) (r:∀t d f p q,Gd le a b t d f->m<=d+f->Q (.yield (none,t,d,f,p,q)) st):wpS (model prog w) A E s (sU a b mg (none,o,k,n,ac,z)) Q st:=by
 unfold sU;dsimp only;obtain⟨h,u,hb⟩:=h;obtain⟨y,l⟩:=at_ hb;obtain⟨x,ex⟩:=at_ (c:=a) (i:=k) (by lia);refine aN (dM l (aN (dM ex (aN (v y x (M.Sb _ _ l) (M.Sa _ _ ex) _ st B ?_)))));dsimp only;cases e:le x y with
 |false=>
  simp only[q2H,if_true];have g:=h.pb ex l e;refine aN (dM l ?_)
  by_cases j:n+1=b.size
  .rw[if_pos (by simpa using j)];exact ba (hd _ (g.dn (by lia)))
  .rw[if_neg (by simpa using j)];split
   .exact ba (hd _ ⟨⟨g,u,by lia⟩,by lia⟩)
   .exact ba (r _ _ _ _ _ ⟨g,u,by lia⟩ (by lia))
 |true=>
  simp only[q1Y,q0L,if_false];have g:=h.pa ex l e;refine aN (dM ex ?_)
  by_cases j:k+1+1=a.size
  .rw[if_pos (by simpa using j)];exact ba (hd _ (g.la M.last j))
  .rw[if_neg (by simpa using j)];split
   .exact ba (hd _ ⟨⟨g,by lia,hb⟩,by lia⟩)
   .exact ba (r _ _ _ _ _ ⟨g,by lia,hb⟩ (by lia))
theorem QO(C:eJ prog w A E s le κ S){st}(v:Sm st0 st)(D:kindOf st0=κ)(h:Gd le a b o e f)(N:m<=e+f)
  (hd:∀r c d,Sm st0 d->r.toList=List.merge a.toList b.toList le->Q (.done (some r,c)) d) (H:∀u k l y d,Sm st0 d->Gd le a b u k l->m+1<=k+l->Q (.yield (none,u,k,l,y)) d) :
  wpS (model prog w) A E s (sW a b (none,o,e,f,mg)) Q st:=by
 unfold sW;dsimp only;have eR:kindOf st=κ:=v.kind.trans D;refine aN (wpS_mono (wpS_forRange (I:=fun x c d=>d = st/\∃o e f ac j,c=(none,o,e,f,ac,j)/\Gd le a b o e f/\m+x<=e+f)
  (Q:=fun c d=>d = st/\FR le a b (m+1) c) ?_ ?_ ⟨rfl,o,e,f,0,0,rfl,h,by lia⟩) ?_)
 .rintro x c d _ J ⟨rfl,o,e,f,ac,j,rfl,g,q⟩;refine QN M C (m:=m+x+1) eR g (by lia) (fun c n=>⟨rfl,?_⟩) (fun u k l z B L O=>⟨rfl,u,k,l,z,B,rfl,L,by lia⟩);obtain⟨_ |r,c⟩:=c
  .exact⟨n.1,by have:=n.2;lia⟩
  .exact n
 .rintro c d ⟨rfl,o,e,f,ac,j,rfl,g,q⟩;have:=g.2;lia
 .rintro⟨_ |r,c⟩ d ⟨rfl,n⟩
  .obtain⟨o,e,f,ac,j⟩:=c;dsimp only;refine aN (wpS_lift (wpAny_rule ⟨rfl,?_⟩));refine aN (wpS_mono (wpS_forRange (I:=fun _ c d=>Sm st0 d/\∃o e f mg ac j,c=(none,o,e,f,mg,ac,j)/\Gd le a b o e f/\m+1<=e+f)
    (Q:=fun c d=>Sm st0 d/\GR le a b (m+1) (.done c)) ?_ ?_ ⟨v,o,e,f,_,ac,j,rfl,n⟩) ?_)
   .rintro x c d _ J ⟨i,o,e,f,mg,ac,j,rfl,g⟩;refine QM M C i D g fun r G p t=>?_
    match r,t with
    |.done c,t=>exact⟨p,t⟩
    |.yield (none,o,e,f,mg,ac,j),t=>exact⟨p,o,e,f,mg,ac,j,rfl,t⟩
    |.yield (some _,_),t=>exact t.elim
   .rintro c d ⟨i,o,e,f,mg,ac,j,rfl,g⟩;exact⟨i,g⟩
   .rintro⟨_ |r,c⟩ d ⟨i,n⟩
    .obtain⟨o,e,f,mg,ac,j⟩:=c;dsimp only;rw[sS];exact aN (wpS_modify (ba (H _ _ _ _ _ (i.mg _) n.1 n.2)))
    .exact ba (hd _ _ _ i n)
  .exact ba (hd _ _ _ v n)
theorem QP(C:eJ prog w A E s le κ S)(D:kindOf st0=κ)(h:∀r d,Sm st0 d->r.toList=List.merge a.toList b.toList le->Q r d):wpS (model prog w) A E s (jW a b) Q st0:=by
 rw[QL];refine aN (wpS_lift (wpAny_rule ⟨rfl,?_⟩));obtain⟨y,m⟩:=at_ M.b0;obtain⟨x,n⟩:=at_ M.a0;refine aN (dM m ?_);have G:JJ le a b #[] 0 0:=by simp[JJ]
 have p:JJ le a b #[y] 0 1:=G.pb n m (M.first x y n m);have b0:=M.b0;have a0:=M.a0
 by_cases B:1=b.size
 .rw[if_pos (by simpa using B)];exact ba (h _ _ .refl (p.dn (by lia)))
 .rw[if_neg (by simpa using B)]
  by_cases t:0+1=a.size
  .rw[if_pos (by simpa using t)];exact ba (h _ _ .refl (p.la M.last t))
  .rw[if_neg (by simpa using t)];refine aN (wpS_get ?_);refine aN (wpS_mono (wpS_forRange (I:=fun x c d=>Sm st0 d/\∃o j k mg,c=(none,o,j,k,mg)/\Gd le a b o j k/\x+1<=j+k)
    (Q:=fun c d=>Sm st0 d/\∃r H,c=(some r,H)/\r.toList=List.merge a.toList b.toList le) ?_ ?_ ⟨.refl,#[y],0,1,_,rfl,⟨p,by lia,by lia⟩,by lia⟩) ?_)
   .rintro x c d _ n ⟨i,o,j,k,mg,rfl,g,q⟩;exact QO M C i D g q (fun r c l f e=>⟨f,r,c,rfl,e⟩) fun J u v z l f L N=>⟨f,J,u,v,z,rfl,L,N⟩
   .rintro c d ⟨i,o,j,k,mg,rfl,g,q⟩;have:=g.2;lia
   .rintro c d ⟨i,r,c,rfl,e⟩;exact ba (h _ _ i e)
end
noncomputable def jY:Array Keyed->Array Keyed->StateT SortSt Sem (Array Keyed):=sortPriv% PySem.Builtin.mergeHi
noncomputable def dh(a b o:Array Keyed)(c d:Nat):Array Keyed:=a.extract 0 c++b.extract 0 d++o.reverse
noncomputable def fh(a b o:Array Keyed)(c d:Nat):Array Keyed:=b.extract 0 d++a.extract 0 c++o.reverse
abbrev jc:=Option (Array Keyed)×Nat×Nat×Array Keyed×Nat×Nat×Nat
abbrev qb:=Option (Array Keyed)×Nat×Nat×Array Keyed×Nat×Nat
abbrev sX:=Option (Array Keyed)×Nat×Nat×Array Keyed×Nat
def qc(a b:Array Keyed)(mg ac d:Nat)(c:Nat)(e:Nat)(o:Array Keyed):StateT SortSt Sem (ForInStep jc):=do
 let x <-elem' a (c - 1)
 if c - 1==0 then pure (.done (some (dh a b (o.push x) (c - 1) e),c - 1,e,o.push x,mg,ac,d))
 else if ac<7&&d<7 then pure (.done (none,c - 1,e,o.push x,mg,ac,d)) else pure (.yield (none,c - 1,e,o.push x,mg,ac,d))
def qd(a b:Array Keyed)(mg ac e:Nat)(c d:Nat)(o:Array Keyed):StateT SortSt Sem (ForInStep jc):=do
 let y <-elem' b (c - 1)
 if c - 1==1 then pure (.done (some (fh a b (o.push y) d (c - 1)),d,c - 1,o.push y,mg,ac,e))
 else
  let x <-elem' a (d - 1)
  match <-cW true x b 0 (c - 1) (c - 1 - 1) with
  |some p=>
   if c - 1 - p>0 then
    if p==1 then pure (.done (some (fh a b (o.push y++(b.extract p (c - 1)).reverse) d p),d,p,o.push y++(b.extract p (c - 1)).reverse,mg,ac,c - 1 - p))
    else if p==0 then pure (.done (some (dh a b (o.push y++(b.extract p (c - 1)).reverse) d p),d,p,o.push y++(b.extract p (c - 1)).reverse,mg,ac,c - 1 - p))
    else qc a b mg ac (c - 1 - p) d p (o.push y++(b.extract p (c - 1)).reverse)
   else qc a b mg ac (c - 1 - p) d (c - 1) (o.push y)
  |_=>pure (.done (some (dh a b (o.push y) d (c - 1)),d,c - 1,o.push y,mg,ac,e))
def qe(a b:Array Keyed)(ac e:Nat)(c d:Nat)(o:Array Keyed)(mg:Nat):StateT SortSt Sem (ForInStep jc):=do
 eU mg
 let y <-elem' b (d - 1)
 match <-cW false y a 0 c (c - 1) with
 |some p=>
  if c - p>0 then
   if p==0 then pure (.done (some (dh a b (o++(a.extract p c).reverse) p d),p,d,o++(a.extract p c).reverse,mg,c - p,e))
   else qd a b mg (c - p) e d p (o++(a.extract p c).reverse)
  else qd a b mg (c - p) e d c o
 |_=>pure (.done (some (dh a b o c d),c,d,o,mg,ac,e))
def sY(a b:Array Keyed)(c:jc):StateT SortSt Sem (ForInStep jc):=
 if c.2.2.2.2.1>1 then qe a b c.2.2.2.2.2.1 c.2.2.2.2.2.2 c.2.1 c.2.2.1 c.2.2.2.1 (c.2.2.2.2.1 - 1) else qe a b c.2.2.2.2.2.1 c.2.2.2.2.2.2 c.2.1 c.2.2.1 c.2.2.2.1 c.2.2.2.2.1
def sZ(a b:Array Keyed)(mg:Nat)(c:qb):StateT SortSt Sem (ForInStep qb):=do
 let y <-elem' b (c.2.2.1 - 1);let x <-elem' a (c.2.1 - 1)
 match <-lt' y x with
 |some d=>
  if d then do
   let x <-elem' a (c.2.1 - 1)
   if c.2.1 - 1==0 then pure (.done (some (dh a b (c.2.2.2.1.push x) (c.2.1 - 1) c.2.2.1),c.2.1 - 1,c.2.2.1,c.2.2.2.1.push x,c.2.2.2.2.1+1,0))
   else if c.2.2.2.2.1+1≥mg then pure (.done (none,c.2.1 - 1,c.2.2.1,c.2.2.2.1.push x,c.2.2.2.2.1+1,0)) else pure (.yield (none,c.2.1 - 1,c.2.2.1,c.2.2.2.1.push x,c.2.2.2.2.1+1,0))
  else do
   let y <-elem' b (c.2.2.1 - 1)
   if c.2.2.1 - 1==1 then pure (.done (some (fh a b (c.2.2.2.1.push y) c.2.1 (c.2.2.1 - 1)),c.2.1,c.2.2.1 - 1,c.2.2.2.1.push y,0,c.2.2.2.2.2+1))
   else if c.2.2.2.2.2+1≥mg then pure (.done (none,c.2.1,c.2.2.1 - 1,c.2.2.2.1.push y,0,c.2.2.2.2.2+1)) else pure (.yield (none,c.2.1,c.2.2.1 - 1,c.2.2.2.1.push y,0,c.2.2.2.2.2+1))
 |_=>pure (.done (some (dh a b c.2.2.2.1 c.2.1 c.2.2.1),c.2.1,c.2.2.1,c.2.2.2.1,c.2.2.2.2.1,c.2.2.2.2.2))
def tf(a b:Array Keyed)(c:sX):StateT SortSt Sem (ForInStep sX):=do
 let d <-forIn [:a.size+b.size] ((none,c.2.1,c.2.2.1,c.2.2.2.1,0,0):qb) fun _ d=>sZ a b c.2.2.2.2 d
 match d.1 with
 |some r=>pure (.done (some r,d.2.1,d.2.2.1,d.2.2.2.1,c.2.2.2.2))
 |none=>
  rule "list.sort.gallop"
  let e <-forIn [:a.size+b.size] ((none,d.2.1,d.2.2.1,d.2.2.2.1,c.2.2.2.2+1,d.2.2.2.2.1,d.2.2.2.2.2):jc) fun _ e=>sY a b e
  match e.1 with
  |some r=>pure (.done (some r,e.2.1,e.2.2.1,e.2.2.2.1,e.2.2.2.2.1))
  |none=>
   eU (e.2.2.2.2.1+1)
   pure (.yield (none,e.2.1,e.2.2.1,e.2.2.2.1,e.2.2.2.2.1+1))
theorem QQ(a b):jY a b=(do
 rule "list.sort.merge-hi"
 let tt:=a.size+b.size;let dn (o:Array Keyed) (na nb:Nat):=a.extract 0 na++b.extract 0 nb++o.reverse;let la (o:Array Keyed) (na nb:Nat):=b.extract 0 nb++a.extract 0 na++o.reverse;let mut na:=a.size - 1;let mut nb:=b.size;let mut o:Array Keyed:=#[<-elem' a na]
 if na==0 then return dn o na nb
 if nb==1 then return la o na nb
 let mut mg:=gallopOf (<-get)
 for _ in [0:tt] do
  let mut ac:=0;let mut bc:=0
  for _ in [0:tt] do
   let some aw <-lt' (<-elem' b (nb - 1)) (<-elem' a (na - 1)) |return dn o na nb
   if aw then
    na:=na - 1;o:=o.push (<-elem' a na);ac:=ac+1;bc:=0
    if na==0 then return dn o na nb
    if ac≥mg then break
   else
    nb:=nb - 1;o:=o.push (<-elem' b nb);bc:=bc+1;ac:=0
    if nb==1 then return la o na nb
    if bc≥mg then break
  rule "list.sort.gallop"
  mg:=mg+1
  for _ in [0:tt] do
   if mg>1 then mg:=mg - 1
   eU mg
   let some p <-cW false (<-elem' b (nb - 1)) a 0 na (na - 1) |return dn o na nb
   let k:=na - p
   ac:=k
   if k>0 then
    o:=o++(a.extract p na).reverse;na:=p
    if na==0 then return dn o na nb
   nb:=nb - 1;o:=o.push (<-elem' b nb)
   if nb==1 then return la o na nb
   let some p <-cW true (<-elem' a (na - 1)) b 0 nb (nb - 1) |return dn o na nb
   let k:=nb - p
   bc:=k
   if k>0 then
    o:=o++(b.extract p nb).reverse;nb:=p
    if nb==1 then return la o na nb
    if nb==0 then return dn o na nb
   na:=na - 1;o:=o.push (<-elem' a na)
   if na==0 then return dn o na nb
   if ac<7&&bc<7 then break
  mg:=mg+1
  eU mg
 unsupported "internal:list.sort.merge-bound"):=rfl
theorem QR(a b):jY a b=(do
 rule "list.sort.merge-hi"
 let x <-elem' a (a.size - 1)
 if a.size - 1==0 then return dh a b #[x] (a.size - 1) b.size
 if b.size==1 then return fh a b #[x] (a.size - 1) b.size
 let g <-get;let c <-forIn [:a.size+b.size] ((none,a.size - 1,b.size,#[x],gallopOf g):sX) fun _ c=>tf a b c
 match c.1 with
 |some r=>pure r
 |none=>unsupported "internal:list.sort.merge-bound"):=by
 rw[QQ];refine bJ fun _=>?_;dsimp only;refine bJ fun y=>?_;unfold dh fh;refine congrArg _ (congrArg _ (bJ fun g=>?_));refine fb (fun _ c=>?_) fun c=>?_
 .unfold tf;refine fb (fun _ d=>?_) fun d=>?_
  .unfold sZ dh fh;refine bJ fun _=>bJ fun _=>bJ fun q=>?_;cases q<;>rfl
  .obtain⟨r,d⟩:=d;cases r with
   |some r=>rfl
   |none=>
    dsimp only;refine bJ fun _=>fb (fun _ e=>?_) fun e=>?_
    .unfold sY qe dh;refine gD ?_ ?_ <;>
     .refine bJ fun _=>bJ fun _=>bJ fun q=>?_;cases q with
      |none=>rfl
      |some k=>
       refine gD (gD rfl ?_) ?_ <;>
       .unfold qd qc dh fh;refine bJ fun _=>gD rfl (bJ fun _=>bJ fun q=>?_);cases q<;>rfl
    .obtain⟨r,e⟩:=e;cases r<;>rfl
 .obtain⟨r,c⟩:=c;cases r<;>rfl
def HH(le:Keyed->Keyed->Bool)(a b:Array Keyed)(o:Array Keyed)(c d:Nat):Prop:=List.merge (a.toList.take c) (b.toList.take d) le++o.toList.reverse=List.merge a.toList b.toList le
theorem QS{α:Type}{l:List α}{x}(h:l[i]? = some x):l.take (i+1)=l.take i++[x]:=by obtain⟨a,b⟩:=q0a.mp h;rw[List.take_succ,q0j a,b];rfl
theorem take_take{α:Type}(l:List α)(h:p<=n):l.take n=l.take p++(l.drop p).take (n - p):=by have:l.take n=(l.take n).take p++(l.take n).drop p:=(q05 p (l.take n)).symm;rw[List.take_take,q2C h,List.drop_take]at this;exact this
theorem nR{l:List Keyed}(h:x∈l.take n):∃j,j<n/\l[j]? = some x:=by have:=qa (l:=l) (i:=0) (k:=n) (x:=x) (by simpa using h);simpa using this
theorem HH.ga(M:MH le S a b)(h:HH le a b o na (nb+1))(d:p<=na)(f:b[nb]? = some y)(e:∀i,p<=i->i<na->∀x,a[i]? = some x->le x y=false):HH le a b (o++(a.extract p na).reverse) p (nb+1):=by
 unfold HH at h ⊢;rw[take_take a.toList d,xw _ _ (fun z g x k=>?_)]at h
 .rw[<-h];simp[iD]
 .obtain⟨j,n,q⟩:=qa k;obtain⟨i,s,r⟩:=nR g;have c:=e (p+j) (by lia) (by lia) x (by rw[cN];exact q);have l:=M.sb i nb z y (by lia) (by rw[cN];exact r) f;cases m:le x z with
  |false=>rfl
  |true=>rw[M.tr _ _ _ m l]at c;cases c
theorem HH.gb(M:MH le S a b)(h:HH le a b o (na+1) nb)(c:p<=nb)(d:a[na]? = some x)(e:∀i,p<=i->i<nb->∀y,b[i]? = some y->le x y=true):HH le a b (o++(b.extract p nb).reverse) (na+1) p:=by
 unfold HH at h ⊢;rw[take_take b.toList c,sP _ _ (fun z f y g=>?_)]at h
 .rw[<-h];simp[iD]
 .obtain⟨j,m,q⟩:=qa g;obtain⟨i,n,r⟩:=nR f;have k:=e (p+j) (by lia) (by lia) y (by rw[cN];exact q);have l:=M.sa i na z x (by lia) (by rw[cN];exact r) d;exact M.tr _ _ _ l k
theorem Cp{α:Type}{a:Array α}{x}(h:a[i]? = some x)(o):o++(a.extract i (i+1)).reverse=o.push x:=by apply Array.toList_inj.mp;rw[cN]at h;simp only[q02,q1X,iD,q0O,jX h,Array.toList_push];rfl
theorem HH.pa(M:MH le S a b)(h:HH le a b o (na+1) (nb+1))(c:a[na]? = some x)(f:b[nb]? = some y)(e:le x y=false):HH le a b (o.push x) na (nb+1):=by
 have k0:∀(i:Nat),na<=i->i<na+1->∀z,a[i]? = some z->le z y=false:=fun i g j z d=>by
  obtain rfl:i=na:=by lia
  rw[c]at d;cases d;exact e
 have:=h.ga M (p:=na) (by lia) f k0
 rwa [Cp c]at this
theorem HH.pb(M:MH le S a b)(h:HH le a b o (na+1) (nb+1))(f:a[na]? = some x)(c:b[nb]? = some y)(e:le x y=true):HH le a b (o.push y) (na+1) nb:=by
 have k0:∀(i:Nat),nb<=i->i<nb+1->∀z,b[i]? = some z->le x z=true:=fun i g j z d=>by
  obtain rfl:i=nb:=by lia
  rw[c]at d;cases d;exact e
 have:=h.gb M (p:=nb) (by lia) f k0
 rwa [Cp c]at this
theorem qf{α:Type}(a:Array α)(n):(a.extract 0 n).toList=a.toList.take n:=by rw[iD];simp
theorem HH.dh(h:HH le a b o 0 nb):(dh a b o 0 nb).toList=List.merge a.toList b.toList le:=by unfold HH at h;unfold TS.dh;rw[<-h];simp only[q02,qf,q1X,q2G,q0I,List.nil_merge]
theorem HH.fh(M:MH le S a b)(h:HH le a b o na 1):(fh a b o na 1).toList=List.merge a.toList b.toList le:=by
 unfold HH at h;unfold TS.fh;rw[<-h,xv (fun y f x g=>?_)]
 .simp only[q02,qf,q1X]
 .obtain⟨j,m,q⟩:=nR g;obtain⟨i,n,r⟩:=nR f;obtain rfl:i=0:=by lia
  obtain⟨d,c⟩:=at_ M.a0;have e:=M.first d y c (by rw[cN];exact r)
  have k:=M.sa 0 j d x (by lia) c (by rw[cN];exact q);cases l:le x y with
  |false=>rfl
  |true=>rw[M.tr _ _ _ k l]at e;cases e
section
variable{prog:Program}{w:World}{A:Around}{E:Value->Shared->Prop}{s:Shared}{le:Keyed->Keyed->Bool}{κ:SortKind}{S:Keyed->Prop}{a b:Array Keyed}{st0:SortSt}
def Hd(le:Keyed->Keyed->Bool)(a b o:Array Keyed)(c d:Nat):Prop:=HH le a b o c d/\0<c/\c<=a.size/\1<d/\d<=b.size
def HR(le:Keyed->Keyed->Bool)(a b:Array Keyed)(m:Nat):ForInStep jc->Prop
 |.done (some r,_)=>r.toList=List.merge a.toList b.toList le
 |.done (none,c,d,o,_)=>Hd le a b o c d/\c+d<=m
 |.yield (none,c,d,o,_)=>Hd le a b o c d/\c+d<=m
 |.yield (some _,_)=>False
variable(M:MH le S a b)
include M
theorem Cq{st}(h:HH le a b o (c+1) (d+1))(q:c+1<=a.size)(n:0<d)(u:d+1<=b.size)(t:c+1+(d+1)<=m)
  (i:a[c]? = some x) (p:b[d]? = some y) (e:le x y=false) (f:∀r,HR le a b m r->Q r st):wpS (model prog w) A E s (qc a b mg ac l (c+1) (d+1) o) Q st:=by
 unfold qc;simp only[q1I];refine aN (dM i ?_);have j:=h.pa M i p e
 by_cases k:c=0
 .subst k;rw[if_pos (by rfl)];exact ba (f _ j.dh)
 .rw[if_neg (by simpa using k)];have g:Hd le a b (o.push x) c (d+1)/\c+(d+1)<=m:=⟨⟨j,by lia,by lia,by lia,by lia⟩,by lia⟩
  split
  .exact ba (f _ g)
  .exact ba (f _ g)
theorem Cr(R:eJ prog w A E s le κ S){st}(U:kindOf st=κ)(h:HH le a b o (k+1) (d+1))(H:k+1<=a.size)(X:0<d)(hb:d+1<=b.size)(hm:k+1+(d+1)<=m)
  (g:a[k]? = some x) (I:b[d]? = some y) (e:le x y=true) (B:∀r,HR le a b m r->Q r st):wpS (model prog w) A E s (qd a b mg ac T (d+1) (k+1) o) Q st:=by
 unfold qd;simp only[q1I];refine aN (dM I ?_);have C:=h.pb M g I e
 by_cases J:d=1
 .subst J;rw[if_pos (by rfl)];exact ba (B _ (C.fh M))
 .rw[if_neg (by simpa using J)];refine aN (dM g (aN (nQ R M.tr U (M.Sa _ _ g) M.Sb (by lia) (fun i j u v _ D _=>M.sb i j u v D) (fun p Y g1 g2=>?_) (by lia))));simp only[q1S]at g1 g2;dsimp only;have L:=C.gb M Y g fun i Z q2 z f=>by have:=g2 i Z q2 z f;simpa[dW] using this
  have N:∀(i:Nat) (z:Keyed),i<p->b[i]? = some z->le x z=false:=fun i z q f=>by have:=g1 i q z f;simpa[dW] using this
  have a1:0<p:=by
   rcases Nat.eq_zero_or_pos p with q |q
   .subst q;obtain⟨O,l⟩:=at_ M.a0;obtain⟨G,n⟩:=at_ M.b0;have t:=M.first O G l n
    have e3:=g2 0 (be _) (by lia) G n;have e4:le x G=true:=by simpa[dW] using e3
    have e5:=M.tr _ _ _ (M.sa 0 k O x (by lia) l g) e4;rw[e5]at t;cases t
   .exact q
  obtain⟨q,rfl⟩:∃q,p=q+1:=⟨p - 1,by lia⟩
  obtain⟨z,f⟩:=at_ (c:=b) (i:=q) (by lia)
  by_cases k0:d - (q+1)>0
  .rw[if_pos k0]
   by_cases t:q+1=1
   .rw[if_pos (by simpa using t)];obtain rfl:q=0:=by lia
    exact ba (B _ (L.fh M))
   .rw[if_neg (by simpa using t),if_neg (by simp)];exact Cq M L H (by lia) (by lia) (by lia) g f (N q z (by lia) f) B
  .rw[if_neg k0];obtain rfl:d=q+1:=by lia
   exact Cq M C H (by lia) (by lia) (by lia) g f (N q z (by lia) f) B
theorem Cs(t:eJ prog w A E s le κ S){st}(J:Sm st0 st)(L:kindOf st0=κ)(h:Hd le a b o f k/\f+k<=m)
  (x:∀r l,Sm st0 l->HR le a b m r->Q r l):wpS (model prog w) A E s (qe a b ac I f k o mg) Q st:=by
 obtain⟨⟨h,N,X,O,hb⟩,Y⟩:=h;obtain⟨k,rfl⟩:∃q,k=q+1:=⟨k - 1,by lia⟩
 unfold qe;rw[sS];obtain⟨y,n⟩:=at_ (c:=b) (i:=k) (by lia);refine aN (wpS_modify (aN (dM n ?_)));have d:=J.mg mg;generalize SortSt.mk' (kindOf st) (arrOf st) (pendingOf st) mg (failedOf st)=B at d ⊢;have eR:kindOf B=κ:=d.kind.trans L;refine aN (nQ t M.tr eR (M.Sb _ _ n) M.Sa (by lia) (fun i j u v _ C _=>M.sa i j u v C) (fun p R g1 g2=>?_) (by lia));simp only[q1S]at g1 g2;dsimp only;have D:=h.ga M R n fun i T U z e=>by have:=g2 i T U z e;simpa[dW] using this
 have G:∀(i:Nat) (z:Keyed),i<p->a[i]? = some z->le z y=true:=fun i z q e=>by have:=g1 i q z e;simpa[dW] using this
 by_cases k0:f - p>0
 .rw[if_pos k0]
  by_cases H:p=0
  .subst H;rw[if_pos (by rfl)];exact ba (x _ _ d D.dh)
  .rw[if_neg (by simpa using H)];obtain⟨q,rfl⟩:∃q,p=q+1:=⟨p - 1,by lia⟩
   obtain⟨z,e⟩:=at_ (c:=a) (i:=q) (by lia);exact Cr M t eR D (by lia) (by lia) hb (by lia) e n (G q z (by lia) e) fun r g=>x r _ d g
 .rw[if_neg k0];obtain rfl:f=p:=by lia
  obtain⟨q,rfl⟩:∃q,f=q+1:=⟨f - 1,by lia⟩
  obtain⟨z,e⟩:=at_ (c:=a) (i:=q) (by lia);exact Cr M t eR h (by lia) (by lia) hb (by lia) e n (G q z (by lia) e) fun r g=>x r _ d g
theorem QT(f:eJ prog w A E s le κ S){st}(g:Sm st0 st)(i:kindOf st0=κ)(h:Hd le a b o d e/\d+e<=m)
  (j:∀r c,Sm st0 c->HR le a b m r->Q r c):wpS (model prog w) A E s (sY a b (none,d,e,o,mg,ac,k)) Q st:=by
 unfold sY;dsimp only;split
 .exact Cs M f g i h j
 .exact Cs M f g i h j
def Ct(le:Keyed->Keyed->Bool)(a b:Array Keyed)(m:Nat):qb->Prop
 |(some r,_)=>r.toList=List.merge a.toList b.toList le
 |(none,c,d,o,_)=>Hd le a b o c d/\c+d<=m
theorem QU(v:eJ prog w A E s le κ S){st}(B:kindOf st=κ)(h:Hd le a b o d f)(G:d+f<=m+1)
  (hd:∀c,Ct le a b m c->Q (.done c) st) (t:∀u g j p r,Hd le a b u g j->g+j<=m->Q (.yield (none,g,j,u,p,r)) st):wpS (model prog w) A E s (sZ a b mg (none,d,f,o,ac,z)) Q st:=by
 unfold sZ;obtain⟨h,C,H,D,hb⟩:=h;obtain⟨f,rfl⟩:∃q,f=q+1:=⟨f - 1,by lia⟩
 obtain⟨d,rfl⟩:∃q,d=q+1:=⟨d - 1,by lia⟩
 simp only[q1I];obtain⟨y,l⟩:=at_ (c:=b) (i:=f) (by lia);obtain⟨x,ex⟩:=at_ (c:=a) (i:=d) (by lia);refine aN (dM l (aN (dM ex (aN (v y x (M.Sb _ _ l) (M.Sa _ _ ex) _ st B ?_)))));dsimp only;cases e:le x y with
 |false=>
  simp only[q2H,if_true];have k:=h.pa M ex l e;refine aN (dM ex ?_)
  by_cases n:d=0
  .subst n;rw[if_pos (by rfl)];exact ba (hd _ k.dh)
  .rw[if_neg (by simpa using n)];split
   .exact ba (hd _ ⟨⟨k,by lia,by lia,by lia,by lia⟩,by lia⟩)
   .exact ba (t _ _ _ _ _ ⟨k,by lia,by lia,by lia,by lia⟩ (by lia))
 |true=>
  simp only[q1Y,q0L,if_false];have k:=h.pb M ex l e;refine aN (dM l ?_)
  by_cases n:f=1
  .subst n;rw[if_pos (by rfl)];exact ba (hd _ (k.fh M))
  .rw[if_neg (by simpa using n)];split
   .exact ba (hd _ ⟨⟨k,by lia,by lia,by lia,by lia⟩,by lia⟩)
   .exact ba (t _ _ _ _ _ ⟨k,by lia,by lia,by lia,by lia⟩ (by lia))
theorem QV(G:eJ prog w A E s le κ S){st}(v:Sm st0 st)(H:kindOf st0=κ)(h:Hd le a b o e f)(T:e+f<=m)
  (hd:∀r c d,Sm st0 d->r.toList=List.merge a.toList b.toList le->Q (.done (some r,c)) d) (N:∀u n p y d,Sm st0 d->Hd le a b u n p->n+p+1<=m->Q (.yield (none,n,p,u,y)) d) :
  wpS (model prog w) A E s (tf a b (none,e,f,o,mg)) Q st:=by
 unfold tf;dsimp only;have eR:kindOf st=κ:=v.kind.trans H;have b0:=M.b0;have O:1<=m:=by have:=h.2.1;lia
 refine aN (wpS_mono (wpS_forRange (I:=fun x c d=>d = st/\∃o e f ac j,c=(none,e,f,o,ac,j)/\Hd le a b o e f/\e+f+x<=m)
  (Q:=fun c d=>d = st/\Ct le a b (m - 1) c) ?_ ?_ ⟨rfl,o,e,f,0,0,rfl,h,by lia⟩) ?_)
 .rintro x c d _ R ⟨rfl,o,e,f,ac,j,rfl,g,q⟩;have U:=g.2;refine QU M G (m:=m - x - 1) eR g (by lia) (fun c k=>⟨rfl,?_⟩) (fun u z B C D J X=>⟨rfl,u,z,B,C,D,rfl,J,by have:=J.2;lia⟩);obtain⟨_ |r,c⟩:=c
  .exact⟨k.1,by have:=k.2;lia⟩
  .exact k
 .rintro c d ⟨rfl,o,e,f,ac,j,rfl,g,q⟩;exact⟨rfl,g,by lia⟩
 .rintro⟨_ |r,c⟩ d ⟨rfl,k⟩
  .obtain⟨e,f,o,ac,j⟩:=c;dsimp only;refine aN (wpS_lift (wpAny_rule ⟨rfl,?_⟩));refine aN (wpS_mono (wpS_forRange (I:=fun _ c d=>Sm st0 d/\∃o e f mg ac j,c=(none,e,f,o,mg,ac,j)/\Hd le a b o e f/\e+f<=m - 1)
    (Q:=fun c d=>Sm st0 d/\HR le a b (m - 1) (.done c)) ?_ ?_ ⟨v,o,e,f,_,ac,j,rfl,k⟩) ?_)
   .rintro x c d _ R ⟨i,o,e,f,mg,ac,j,rfl,g⟩;refine QT M G i H g fun r L l t=>?_
    match r,t with
    |.done c,t=>exact⟨l,t⟩
    |.yield (none,e,f,o,mg,ac,j),t=>exact⟨l,o,e,f,mg,ac,j,rfl,t⟩
    |.yield (some _,_),t=>exact t.elim
   .rintro c d ⟨i,o,e,f,mg,ac,j,rfl,g⟩;exact⟨i,g⟩
   .rintro⟨_ |r,c⟩ d ⟨i,k⟩
    .obtain⟨e,f,o,mg,ac,j⟩:=c;dsimp only;rw[sS];exact aN (wpS_modify (ba (N _ _ _ _ _ (i.mg _) k.1 (by have:=k.2;lia))))
    .exact ba (hd _ _ _ i k)
  .exact ba (hd _ _ _ v k)
theorem QW(N:eJ prog w A E s le κ S)(O:kindOf st0=κ)(h:∀r d,Sm st0 d->r.toList=List.merge a.toList b.toList le->Q r d):wpS (model prog w) A E s (jY a b) Q st0:=by
 rw[QR];refine aN (wpS_lift (wpAny_rule ⟨rfl,?_⟩));have b0:=M.b0;have a0:=M.a0;obtain⟨k,v⟩:∃k,a.size=k+1:=⟨a.size - 1,by lia⟩
 obtain⟨l,z⟩:∃l,b.size=l+1:=⟨b.size - 1,by lia⟩
 obtain⟨x,u⟩:=at_ (c:=a) (i:=k) (by lia);obtain⟨y,B⟩:=at_ (c:=b) (i:=l) (by lia);rw[v,z];simp only[q1I];refine aN (dM u ?_);have R:HH le a b #[] (k+1) (l+1):=by unfold HH;rw[q0Z (by simp;lia),q0Z (by simp;lia)];simp
 have C:HH le a b #[x] k (l+1):=R.pa M u B (M.last k x y (by lia) u (by rw[cN]at B;exact q0G B))
 by_cases J:k=0
 .subst J;rw[if_pos (by rfl)];exact ba (h _ _ .refl C.dh)
 .rw[if_neg (by simpa using J)]
  by_cases L:l=0
  .subst L;rw[if_pos (by rfl)];exact ba (h _ _ .refl (C.fh M))
  .rw[if_neg (by simpa using L)];refine aN (wpS_get ?_);refine aN (wpS_mono (wpS_forRange (I:=fun x c d=>Sm st0 d/\∃o n p mg,c=(none,n,p,o,mg)/\Hd le a b o n p/\n+p+x+1<=a.size+b.size)
    (Q:=fun c d=>Sm st0 d/\∃r T,c=(some r,T)/\r.toList=List.merge a.toList b.toList le) ?_ ?_ ⟨.refl,#[x],k,l+1,_,rfl,⟨C,by lia,by lia,by lia,by lia⟩,by lia⟩) ?_)
   .rintro x c d _ u ⟨j,o,n,p,mg,rfl,g,q⟩;refine QV M N (m:=a.size+b.size - x - 1) j O g (by lia) (fun r c t f e=>⟨f,r,c,rfl,e⟩) fun U D G H t f X Y=>⟨f,U,D,G,H,rfl,X,by lia⟩
   .rintro c d ⟨j,o,n,p,mg,rfl,g,q⟩;have:=g.2;lia
   .rintro c d ⟨j,r,c,rfl,e⟩;exact ba (h _ _ j e)
end
abbrev CA:=Option (Option Nat)×Nat
abbrev CD:=Option (Option Nat)×Nat×Nat
noncomputable def qg(lo a b:Nat):StateT SortSt Sem CA:=forIn [a:b] ((none,a):CA) fun _ c=>do
 let q <-ltAt' (lo+c.2) (lo+c.2 - 1)
 match q with
 |some d=>if d=true then pure (.done (none,c.2)) else pure (.yield (none,c.2+1))
 |_=>pure (.done (some none,c.2))
def mu(lo n a:Nat):StateT SortSt Sem (Option Nat):=do
 reverseSlice' lo (lo+n)
 let c <-qg lo n a
 match c.1 with
 |some r=>pure r
 |none=>pure (some c.2)
noncomputable def xx(lo n a:Nat):StateT SortSt Sem CD:=forIn [n:a] ((none,n,0):CD) fun _ c=>do
 let q <-ltAt' (lo+c.2.1) (lo+c.2.1 - 1)
 match q with
 |some b=>
  if b=true then
   if c.2.2>0 then do
    reverseSlice' (lo+c.2.1 - (c.2.2+1)) (lo+c.2.1)
    pure (.yield (none,c.2.1+1,0))
   else pure (.yield (none,c.2.1+1,0))
  else do
   let q <-ltAt' (lo+c.2.1 - 1) (lo+c.2.1)
   match q with
   |some d=>if d=true then pure (.done (none,c.2.1,c.2.2)) else pure (.yield (none,c.2.1+1,c.2.2+1))
   |_=>pure (.done (some none,c.2.1,c.2.2))
 |_=>pure (.done (some none,c.2.1,c.2.2))
def nS(lo n a:Nat):StateT SortSt Sem (Option Nat):=do
 liftM (rule "list.sort.descending-run")
 let c <-xx lo (n+1) a
 match c.1 with
 |some r=>pure r
 |none=>
  if c.2.2>0 then do
   reverseSlice' (lo+c.2.1 - (c.2.2+1)) (lo+c.2.1)
   mu lo c.2.1 a
  else mu lo c.2.1 a
theorem QX(lo a):countRun' lo a=(do
  let c <-qg lo 1 a
  match c.1 with
  |some r=>pure r
  |none=>
   if (c.2==a)=true then pure (some c.2)
   else if c.2>1 then do
    let q <-ltAt' lo (lo+c.2 - 1)
    match q with
    |some b=>if b=true then pure (some c.2) else do
      reverseSlice' lo (lo+c.2)
      nS lo c.2 a
    |_=>pure none
   else nS lo c.2 a):=by
 rw[countRun'_eq];have g:∀n:Nat,mu lo n a=(do
   reverseSlice' lo (lo+n)
   let c <-qg lo n a
   match c.1 with
   |some r=>pure r
   |none=>pure (some c.2)):=fun _=>rfl
 refine bJ fun c=>?_;obtain⟨_ |r,n⟩:=c
 .dsimp only;refine gD rfl (gD (bJ fun q=>?_) ?_)
  .cases q with
   |none=>rfl
   |some b=>
    refine gD rfl (bJ fun _=>?_);unfold nS;refine bJ fun _=>bJ fun d=>?_;obtain⟨_ |r,m,f⟩:=d
    .dsimp only;unfold mu;refine gD (bJ fun _=>bJ fun _=>bJ fun e=>?_) (bJ fun _=>bJ fun e=>?_)<;>(obtain⟨_ |r,e⟩:=e<;>rfl)
    .rfl
  .unfold nS;refine bJ fun _=>bJ fun d=>?_;obtain⟨_ |r,m,f⟩:=d
   .dsimp only;unfold mu;refine gD (bJ fun _=>bJ fun _=>bJ fun e=>?_) (bJ fun _=>bJ fun e=>?_)<;>(obtain⟨_ |r,e⟩:=e<;>rfl)
   .rfl
 .rfl
structure Bs (κ:SortKind) (S:Keyed->Prop) (lo:Nat) (st0 st:SortSt):Prop where
 perm:(arrOf st).Perm (arrOf st0)
 kind:kindOf st=κ
 failed:failedOf st=none
 pend:pendingOf st=pendingOf st0
 keep:∀k,k<lo->(arrOf st)[k]? = (arrOf st0)[k]?
 mem:∀x∈(arrOf st0).toList,S x
noncomputable abbrev el(a:Array Keyed)(i:Nat):Keyed:=a.getD i (Value.none,Value.none)
theorem xy(h:a[i]? = some x):el a i=x:=by rw[el,q0y,h];rfl
def Cn(R:Keyed->Keyed->Prop)(f:Nat->Keyed)(n:Nat):Prop:=∀i j,i<=j->j<n->R (f i) (f j)
theorem Cn.up(c:∀x y z,R x y->R y z->R x z)(rf:∀x,R x x)(h:Cn R f n)(d:1<=n)(e:R (f (n - 1)) (f n)):Cn R f (n+1):=fun i j a b=>by
 rcases q1a (q2n b) with q |rfl
 .exact h i j a q
 .rcases q1a a with q |rfl
  .exact c _ _ _ (h i (j - 1) (by lia) (by lia)) e
  .exact rf _
theorem Cn.one(rf:∀x,R x x):Cn R f 1:=fun i j a b=>by
 obtain rfl:i=j:=by lia
 exact rf _
theorem xz(h:j<=a.size)(k):el (mirror a i j ((j - i) / 2)) k=el a (if i<=k/\k<j then i+j - 1 - k else k):=by rw[el,el,q0y,q0y,getElem?_mirror_all h];split<;>rfl
section
variable{prog:Program}{w:World}{A:Around}{E:Value->Shared->Prop}{s:Shared}{le:Keyed->Keyed->Bool}{κ:SortKind}{S:Keyed->Prop}{lo:Nat}{st0 st:SortSt}
theorem Bs.size(h:Bs κ S lo st0 st):(arrOf st).size=(arrOf st0).size:=h.perm.size_eq
theorem Bs.at(h:Bs κ S lo st0 st)(b:i<(arrOf st0).size):(arrOf st)[i]? = some (el (arrOf st) i)/\S (el (arrOf st) i):=by obtain⟨x,a⟩:=at_ (c:=arrOf st) (i:=i) (by rw[h.size];exact b);rw[xy a];refine⟨a,h.mem x ((q1k.mp h.perm).mem_iff.mp ?_)⟩;rw[cN]at a;exact q0G a
theorem Bs.setArr(h:Bs κ S lo st0 st)(b:a.Perm (arrOf st))(c:∀k,k<lo->a[k]? = (arrOf st)[k]?):Bs κ S lo st0 (setArr st a):=
 ⟨b.trans h.perm,h.kind,h.failed,h.pend,fun k q=>(c k q).trans (h.keep k q),h.mem⟩
theorem Bs.rev(h:Bs κ S lo st0 st)(b:lo<=i)(a:j<=(arrOf st).size):Bs κ S lo st0 (PyProof.Rows.setArr st (mirror (arrOf st) i j ((j - i) / 2))):=
 h.setArr (mirror_perm _ _ _ _) fun k c=>by rw[getElem?_mirror_all a,if_neg (by lia)]
theorem qh(a:eJ prog w A E s le κ S)(hB:Bs κ S lo st0 st)(b:i<(arrOf st0).size)(c:j<(arrOf st0).size)
  (h:Q (some (!le (el (arrOf st) j) (el (arrOf st) i))) st):wpS (model prog w) A E s (ltAt' i j) Q st:=by
 obtain⟨d,e⟩:=hB.at b;obtain⟨f,g⟩:=hB.at c;rw[ltAt'_eq];refine aN (wpS_get ?_);exact aN (dM d (aN (dM f (a _ _ e g Q st hB.kind h))))
theorem ti(h:Q () (setArr st (mirror (arrOf st) i j ((j - i) / 2)))):wpS (model prog w) A E s (reverseSlice' i j) Q st:=by rw[reverseSlice'_eq];exact wpS_modify h
abbrev bZ(a:Array Keyed)(lo i:Nat):Keyed:=el a (lo+i)
abbrev gi(le:Keyed->Keyed->Bool)(c:Array Keyed)(lo n:Nat):Prop:=Cn (fun a b=>le a b=true) (bZ c lo) n
abbrev gE(le:Keyed->Keyed->Bool)(c:Array Keyed)(lo n:Nat):Prop:=Cn (fun a b=>le b a=true) (bZ c lo) n
theorem gi.old(h:gi le a lo n)(i j x y)(b:i<=j)(c:j<n)(d:a[lo+i]? = some x)(e:a[lo+j]? = some y):le x y=true:=by
 have:=h i j b c
 rwa [bZ,bZ,xy d,xy e]at this
variable(hL:eJ prog w A E s le κ S)(tr:∀x y z,le x y=true->le y z=true->le x z=true)(tt:∀x y,(le x y||le y x)=true)
include tt in
theorem kO(x:Keyed):le x x=true:=by simpa using tt x x
include tt in
theorem xA{x y:Keyed}(h:le x y=false):le y x=true:=by have:=tt x y;rw[h]at this;simpa using this
include tr tt in
theorem gE.up{c:Array Keyed}{n:Nat}(h:gE le c lo n)(d:1<=n)(e:le (bZ c lo n) (bZ c lo (n - 1))=true):gE le c lo (n+1):=
 Cn.up (R:=fun a b=>le b a=true) (fun _ _ _ a b=>tr _ _ _ b a) (kO tt) h d e
include hL tr tt
theorem Cu(m:lo+g<=(arrOf st0).size)(o:1<=a)(i:a<=g)(hB:Bs κ S lo st0 st)(k:gi le (arrOf st) lo a)
  (h:∀n,a<=n->n<=g->gi le (arrOf st) lo n->(n<g->le (bZ (arrOf st) lo (n - 1)) (bZ (arrOf st) lo n)=false)->Q (none,n) st) :
  wpS (model prog w) A E s (qg lo a g) Q st:=by
 unfold qg;refine wpS_forRange (I:=fun x c d=>d = st/\c=(none,x)/\gi le (arrOf st) lo x) ?_ ?_ ⟨rfl,rfl,k⟩
 .rintro x c d j l ⟨rfl,rfl,f⟩;dsimp only;refine aN (qh hL hB (by lia) (by lia) ?_);rw[q1q (by lia)];cases e:le (bZ (arrOf d) lo (x - 1)) (bZ (arrOf d) lo x)
  .exact ba (h x j (by lia) f fun _=>e)
  .exact ba ⟨rfl,rfl,Cn.up (R:=fun a b=>le a b=true) tr (kO tt) f (by lia) e⟩
 .rintro c d ⟨rfl,rfl,f⟩;rw[Nat.max_eq_right i]at f ⊢;exact h g i (be _) f fun z=>absurd z (q0z _)
theorem Cv(k:lo+d<=(arrOf st0).size)(l:1<=n)(e:n<=d)(hB:Bs κ S lo st0 st)(o:gE le (arrOf st) lo n)
  (h:∀m a,Bs κ S lo st0 a->1<=m->m<=d->gi le (arrOf a) lo m->Q (some m) a):wpS (model prog w) A E s (mu lo n d) Q st:=by
 unfold mu;have b:lo+n<=(arrOf st).size:=by rw[hB.size];lia
 have c:=hB.rev (be _) b;refine aN (ti (aN (Cu hL tr tt k l e c (fun i j p r=>?_) fun m q f g _=>ba (h m _ c (by lia) f g))));show le (el (mirror (arrOf st) lo (lo+n) ((lo+n - lo) / 2)) _) (el (mirror (arrOf st) lo (lo+n) ((lo+n - lo) / 2)) _)=true;rw[xz b,xz b,if_pos (by lia),if_pos (by lia),show lo+(lo+n) - 1 - (lo+i)=lo+(n - 1 - i) by lia,show lo+(lo+n) - 1 - (lo+j)=lo+(n - 1 - j) by lia];exact o _ _ (by lia) (by lia)
def qi(le:Keyed->Keyed->Bool)(b:Array Keyed)(lo a m:Nat):Prop:=∀i j,a<=i->i<m->a<=j->j<m->le (bZ b lo i) (bZ b lo j)=true
omit hL tr tt in
theorem gE.mir{c:Array Keyed}{a b m:Nat}(d:lo+b<=c.size)(h:b<=m)(e:gE le c lo m)(f:qi le c lo a b):gE le (mirror c (lo+a) (lo+b) ((lo+b - (lo+a)) / 2)) lo m:=fun i j g k=>by
 have t:∀i,bZ (mirror c (lo+a) (lo+b) ((lo+b - (lo+a)) / 2)) lo i=bZ c lo (if a<=i/\i<b then a+b - 1 - i else i):=fun i=>by
  rw[bZ,xz d]
  congr 1
  split<;>split<;>lia
 rw[t,t]
 by_cases q:(if a<=i/\i<b then a+b - 1 - i else i)<=if a<=j/\j<b then a+b - 1 - j else j
 .exact e _ _ q (by split<;>lia)
 .refine f _ _ ?_ ?_ ?_ ?_<;>(revert q;split<;>split<;>lia)
theorem QY(L:lo+g<=(arrOf st0).size)(M:1<=n)(k:n<=g)(hB:Bs κ S lo st0 st)(H:gE le (arrOf st) lo n)
  (h:∀m q a,Bs κ S lo st0 a->n<=m->m<=g->gE le (arrOf a) lo m->q+1<=m->qi le (arrOf a) lo (m - (q+1)) m->Q (none,m,q) a):wpS (model prog w) A E s (xx lo n g) Q st:=by
 unfold xx;have one:∀(v:Array Keyed) (m:Nat),qi le v lo (m - (0+1)) m:=fun v m i j y B C D=>by
  obtain rfl:i=j:=by lia
  exact kO tt _
 refine wpS_forRange (I:=fun x c a=>∃q,c=(none,x,q)/\Bs κ S lo st0 a/\gE le (arrOf a) lo x/\q+1<=x/\qi le (arrOf a) lo (x - (q+1)) x) ?_ ?_ ⟨0,rfl,hB,H,by lia,one _ _⟩
 .rintro x c a u J ⟨q,rfl,b,d,o,f⟩;dsimp only;have p:lo+x<=(arrOf a).size:=by rw[b.size];lia
  refine aN (qh hL b (by lia) (by lia) ?_);rw[q1q (by lia)];cases e:le (bZ (arrOf a) lo (x - 1)) (bZ (arrOf a) lo x)
  .have r:=d.up tr tt (by lia) (xA tt e);simp only[q2H,if_true]
   by_cases t:q>0
   .rw[if_pos t,q1q o];exact aN (ti (ba ⟨0,rfl,b.rev (by lia) p,r.mir p (by lia) f,by lia,one _ _⟩))
   .rw[if_neg t];exact ba ⟨0,rfl,b,r,by lia,one _ _⟩
  .simp only[q1Y,q0L,if_false];refine aN (qh hL b (by lia) (by lia) ?_);cases G:le (bZ (arrOf a) lo x) (bZ (arrOf a) lo (x - 1))
   .exact ba (h x q a b u (by lia) d o f)
   .refine ba ⟨q+1,rfl,b,d.up tr tt (by lia) G,by lia,fun i j y B C D=>?_⟩;have l:∀i,x+1 - (q+1+1)<=i->i<x+1->le (bZ (arrOf a) lo i) (bZ (arrOf a) lo (x - 1))=true/\le (bZ (arrOf a) lo (x - 1)) (bZ (arrOf a) lo i)=true:=fun i N O=>by
     by_cases z:i=x
     .subst z;exact⟨G,e⟩
     .exact⟨f _ _ (by lia) (by lia) (by lia) (by lia),f _ _ (by lia) (by lia) (by lia) (by lia)⟩
    exact tr _ _ _ (l i y B).1 (l j C D).2
 .rintro c a ⟨q,rfl,b,d,o,f⟩;rw[Nat.max_eq_right k]at d o f ⊢;exact h g q a b k (be _) d o f
theorem Cw(i:lo+g<=(arrOf st0).size)(j:n+1<=g)(hB:Bs κ S lo st0 st)(k:gE le (arrOf st) lo (n+1))
  (h:∀m a,Bs κ S lo st0 a->1<=m->m<=g->gi le (arrOf a) lo m->Q (some m) a):wpS (model prog w) A E s (nS lo n g) Q st:=by
 unfold nS;refine aN (wpS_lift (wpAny_rule ⟨rfl,?_⟩));refine aN (QY hL tr tt i (by lia) j hB k fun m q a b l c d o p=>?_);dsimp only;have e:lo+m<=(arrOf a).size:=by rw[b.size];lia
 by_cases f:q>0
 .rw[if_pos f,q1q o];exact aN (ti (Cv hL tr tt i (by lia) c (b.rev (by lia) e) (d.mir e (be _) p) h))
 .rw[if_neg f];exact Cv hL tr tt i (by lia) c b d h
theorem QZ(r:lo+g<=(arrOf st0).size)(x:1<=g)(hB:Bs κ S lo st0 st)
  (h:∀m f,Bs κ S lo st0 f->1<=m->m<=g->gi le (arrOf f) lo m->Q (some m) f):wpS (model prog w) A E s (countRun' lo g) Q st:=by
 rw[QX];refine aN (Cu hL tr tt r (be 1) x hB (Cn.one (R:=fun a b=>le a b=true) (kO tt)) fun n c k d t=>?_);dsimp only
 by_cases l:n=g
 .rw[if_pos (by simpa using l)];exact ba (h n st hB c k d)
 .rw[if_neg (by simpa using l)];have o:=xA tt (t (by lia));have p:lo+n<=(arrOf st).size:=by rw[hB.size];lia
  by_cases q:n>1
  .rw[if_pos q];refine aN (qh hL hB (by lia) (by lia) ?_);rw[q1q c];cases e:le (bZ (arrOf st) lo (n - 1)) (bZ (arrOf st) lo 0)
   .exact ba (h n st hB c k d)
   .simp only[q1Y,q0L,if_false];have v:qi le (arrOf st) lo 0 n:=fun i j _ y _ u=>tr _ _ _ (d i (n - 1) (by lia) (by lia)) (tr _ _ _ e (d 0 j (by lia) u));refine aN (ti (Cw hL tr tt r (by lia) (hB.rev (be _) p) ?_ h));exact gE.mir (a:=0) p (by lia) (gE.up tr tt (fun i j y u=>v j i (by lia) u (by lia) (by lia)) c o) v
  .rw[if_neg q];obtain rfl:n=1:=by lia
   exact Cw hL tr tt r (by lia) hB (gE.up tr tt (Cn.one (R:=fun a b=>le b a=true) (kO tt)) (be _) o) h
theorem Ra(T:lo+n<=(arrOf st0).size)(R:ok<=n)(hB:Bs κ S lo st0 st)(H:gi le (arrOf st) lo ok)
  (h:∀b,Bs κ S lo st0 b->gi le (arrOf b) lo n->Q true b):wpS (model prog w) A E s (binarySort' lo n ok) Q st:=by
 rw[binarySort'_eq];refine aN (wpS_mono (wpS_forRange (I:=fun k c b=>c=(none,())/\Bs κ S lo st0 b/\gi le (arrOf b) lo (min k n))
  (Q:=fun c b=>c=(none,())/\Bs κ S lo st0 b/\gi le (arrOf b) lo n) ?_ ?_ ?_) ?_)
 .rintro k c b J o ⟨rfl,f,d⟩;rw[q2C (q1v o)]at d;dsimp only;refine aN (wpS_mono (wpS_forRange (I:=fun x c a=>a = b/\∃l r,c=(none,l,r)/\l<=r/\r<=k/\r - l<=k - x/\
    (∀i<l,le (bZ (arrOf b) lo i) (bZ (arrOf b) lo k)=true)/\∀i,r<=i->i<k->le (bZ (arrOf b) lo k) (bZ (arrOf b) lo i)=true)
   (Q:=fun c a=>a = b/\∃l r,c=(none,l,r)/\l<=k/\(∀i<l,le (bZ (arrOf b) lo i) (bZ (arrOf b) lo k)=true)/\∀i,l<=i->i<k->le (bZ (arrOf b) lo k) (bZ (arrOf b) lo i)=true) ?_ ?_ ?_) ?_)
  .rintro x c a _ L ⟨rfl,l,r,rfl,t,u,M,g,m⟩;dsimp only
   by_cases p:l≥r
   .rw[if_pos p];exact ba ⟨rfl,l,r,rfl,by lia,g,fun i v=>m i (by lia)⟩
   .rw[if_neg p];refine aN (qh hL f (by lia) (by lia) ?_);cases e:le (bZ (arrOf a) lo ((l+r) / 2)) (bZ (arrOf a) lo k)
    .exact ba ⟨rfl,l,(l+r) / 2,rfl,by lia,by lia,by lia,g,fun i q C=>tr _ _ _ (xA tt e) (d _ _ q C)⟩
    .exact ba ⟨rfl,(l+r) / 2+1,r,rfl,by lia,by lia,by lia,fun i q=>tr _ _ _ (d i _ (by lia) (by lia)) e,m⟩
  .rintro c a ⟨rfl,l,r,rfl,t,u,M,g,m⟩;exact⟨rfl,l,r,rfl,by lia,g,fun i v=>m i (by lia)⟩
  .exact⟨rfl,0,k,rfl,by lia,by lia,by lia,fun i v=>by lia,fun i q C=>by lia⟩
  .rintro c a ⟨rfl,l,r,rfl,N,g,m⟩;show wpS _ _ _ _ (do moveDown' (lo+k) (lo+l);pure (ForInStep.yield (none,()))) _ _;rw[moveDown'_eq];have z:lo+k<(arrOf a).size:=by rw[f.size];lia
   have gb:=fun j=>getElem?_bubble (xs:=arrOf a) z (lo+k - (lo+l)) (by lia) j;have D:∀i,bZ (bubble (arrOf a) (lo+k) (lo+k - (lo+l))) lo i=bZ (arrOf a) lo (if i=l then k else if l<i/\i<=k then i - 1 else i):=fun i=>by
    have e:el (bubble (arrOf a) (lo+k) (lo+k - (lo+l))) (lo+i)=el (arrOf a) (if lo+i=lo+k - (lo+k - (lo+l)) then lo+k else if lo+k - (lo+k - (lo+l))<lo+i/\lo+i<=lo+k then lo+i - 1 else lo+i):=by
     rw[el,el,q0y,q0y,gb];split
     .rfl
     .split<;>rfl
    rw[bZ,e]
    congr 1
    repeat' split
    all_goals lia
   refine aN (wpS_modify (ba ⟨rfl,f.setArr (bubble_perm _ _ _) (fun j G=>by rw[gb,if_neg (by lia),if_neg (by lia)]),?_⟩));rw[q2C o];intro i j v G;show le (bZ (bubble (arrOf a) (lo+k) (lo+k - (lo+l))) lo i) (bZ (bubble (arrOf a) (lo+k) (lo+k - (lo+l))) lo j)=true;rw[D,D]
   by_cases x:i=l<;>by_cases y:j=l
   .rw[if_pos x,if_pos y];exact kO tt _
   .rw[if_pos x,if_neg y,if_pos (by lia)];exact m _ (by lia) (by lia)
   .rw[if_neg x,if_pos y,if_neg (by lia)];exact g _ (by lia)
   .rw[if_neg x,if_neg y];split<;>split<;>exact d _ _ (by lia) (by lia)
 .rintro c b ⟨O,f,d⟩;refine⟨O,f,?_⟩
  rwa [show min (max (max ok 1) n) n=n by lia]at d
 .refine⟨rfl,hB,fun i j B G=>?_⟩
  by_cases q:ok=0
  .obtain rfl:i=j:=by lia
   exact kO tt _
  .exact H i j B (by lia)
 .rintro c b ⟨rfl,f,d⟩;exact ba (h b f d)
end
theorem Cy(c):∀m  t (arr:Array Keyed),c+t+m.length<=arr.size->((m.zipIdx t).foldl (fun(a:Array Keyed) (q:Keyed×Nat)=>a.setIfInBounds (c+q.2) q.1) arr).toList=arr.toList.take (c+t)++(m++arr.toList.drop (c+t+m.length))
 |[],t,arr,h=>by simp
 |x::m,t,arr,h=>by
  rw[List.zipIdx_cons,q2D,Cy c m (t+1) _ (by rw[Array.size_setIfInBounds];simp at h;lia)];simp only[q2b];have b:c+t<arr.toList.length:=by simp at h ⊢;lia
  rw[show c+(t+1)=c+t+1 by lia,QS (l:=arr.toList.set (c+t) x) (x:=x) (by rw[q0q b]),List.take_set_of_le (be _),List.drop_set_of_lt (by lia)];rw[show c+t+(x::m).length=c+t+1+m.length by simp;lia];simp
theorem Rb(i):mergeAt' i=(do
 let t <-get
 let(some (sa,na,pw),some (sb,nb,_)):=((pendingOf t)[i]?,(pendingOf t)[i+1]?) |unsupported "internal:list.sort.pending"
 set (setPending t (((pendingOf t).setIfInBounds i (sa,na+nb,pw)).eraseIdxIfInBounds (i+1)))
 let some k <-cW false (<-elem' (arrOf t) sb) (arrOf t) sa na 0 |return false
 let(sa,na):=(sa+k,na - k)
 if na==0 then return true
 let some nb <-cW true (<-elem' (arrOf t) (sa+na - 1)) (arrOf t) sb nb (nb - 1) |return false
 if nb==0 then return true
 let x:=(arrOf t).extract sa sb;let y:=(arrOf t).extract sb (sb+nb);let r <-if na<=nb then jW x y else jY x y
 modify fun u=>setArr u (r.toList.zipIdx.foldl (fun a (p,j)=>a.setIfInBounds (sa+j) p) (arrOf u))
 return (failedOf (<-get)).isNone):=rfl
theorem Rc{st }(h:Q ⟨⟩ a):wpS (model b w) A E s (set a:StateT SortSt Sem PUnit) Q st:=by unfold wpS;have e:(set a:StateT SortSt Sem PUnit).run st=pure (⟨⟩,a):=rfl;rw[e];exact bz ⟨rfl,h⟩
theorem qj{le:Keyed->Keyed->Bool}(rf:∀x,le x x=true){l:List Keyed}(h:l.Pairwise (fun x y=>le x y=true)){j:Nat}(a:i<=j)(b:l[i]? = some x)(c:l[j]? = some y):le x y=true:=by
 obtain⟨d,rfl⟩:=q0a.mp b;obtain⟨e,rfl⟩:=q0a.mp c;rcases Nat.lt_or_ge i j with q |q
 .exact q2h.mp h i j d e q
 .obtain rfl:i=j:=by lia
  exact rf _
section
variable{prog:Program}{w:World}{A:Around}{E:Value->Shared->Prop}{s:Shared}{le:Keyed->Keyed->Bool}{κ:SortKind}{S:Keyed->Prop}{st:SortSt}
variable(hL:eJ prog w A E s le κ S)(tr:∀x y z,le x y=true->le y z=true->le x z=true)(tt:∀x y,(le x y||le y x)=true)
include hL tr tt
theorem Re{pv}(hk:kindOf st=κ)(hf:failedOf st=none)(hS:∀x∈(arrOf st).toList,S x)
  (h1:(pendingOf st)[i]? = some (L.length,b.length,pw)) (h2:(pendingOf st)[i+1]? = some (L.length+b.length,d.length,pv)) (G:(arrOf st).toList=L++(b++(d++R)))
  (a0:0<b.length) (b0:0<d.length) (sa:b.Pairwise fun x y=>le x y=true) (sb:d.Pairwise fun x y=>le x y=true)
  (h:∀n,kindOf n = κ->failedOf n = none->pendingOf n = ((pendingOf st).setIfInBounds i (L.length,b.length+d.length,pw)).eraseIdxIfInBounds (i+1)->(arrOf n).toList=L++(List.merge b d le++R)->Q true n) :
  wpS (model prog w) A E s (mergeAt' i) Q st:=by
 rw[Rb];refine aN (wpS_get ?_);rw[h1,h2];dsimp only;have rf:=kO (le:=le) tt;have o:∀j,j<b.length->(arrOf st)[L.length+j]? = b[j]?:=fun j p=>by rw[cN,G,q0A (by lia),q0O,q0H p]
 have z:∀j,j<d.length->(arrOf st)[L.length+b.length+j]? = d[j]?:=fun j p=>by rw[cN,G,q0A (by lia),q0A (by lia),show L.length+b.length+j - L.length - b.length=j by lia,q0H p]
 have X:∀(j:Nat) (x:Keyed),(arrOf st)[j]? = some x->S x:=fun j x c=>hS x (by rw[cN]at c;exact q0G c);have sz:(arrOf st).size=L.length+(b.length+(d.length+R.length)):=by rw[<-q0E,G];simp
 generalize C:setPending st (((pendingOf st).setIfInBounds i (L.length,b.length+d.length,pw)).eraseIdxIfInBounds (i+1))=m;have J:kindOf m=κ:=by rw[<-C];exact hk
 have f1:failedOf m=none:=by rw[<-C];exact hf
 have p1:pendingOf m=((pendingOf st).setIfInBounds i (L.length,b.length+d.length,pw)).eraseIdxIfInBounds (i+1):=by rw[<-C]
 have N:arrOf m=arrOf st:=by rw[<-C]
 refine aN (Rc ?_);obtain⟨y0,a4,eB⟩:∃y t,d=y::t:=by cases d with
  |nil=>simp at b0
  |cons y t=>exact⟨y,t,rfl⟩
 have Y:(arrOf st)[L.length+b.length]? = some y0:=by have:=z 0 b0;rw[eB]at this;simpa using this
 refine aN (dM Y (aN (nQ hL tr J (X _ _ Y) X (by lia) (fun i j x y H O Z c g=>?_) (fun k nH g1 g2=>?_) a0)))
 .obtain⟨i',rfl⟩:∃i',i=L.length+i':=⟨i - L.length,by lia⟩
  obtain⟨j',rfl⟩:∃j',j=L.length+j':=⟨j - L.length,by lia⟩
  rw[o _ (by lia)]at c g;exact qj rf sa (by lia) c g
 have eA:b.take k++b.drop k=b:=q05 k b;have fr:List.merge b d le=b.take k++List.merge (b.drop k) d le:=by
  rw[eB]
  conv=>lhs;rw[<-eA]
  refine sO fun x c=>?_;obtain⟨j,p,q⟩:=nR c;have:=g1 j p x (by rw[o j (by lia)];exact q);simpa[dW] using this
 dsimp only
 by_cases e1:b.length - k=0
 .rw[if_pos (by simpa using e1)];refine ba (h m J f1 p1 ?_);rw[N,G,fr,q1m (by lia),q0Z (by lia),List.nil_merge,q0t]
 rw[if_neg (by simpa using e1)];obtain⟨x1,T⟩:∃x,b[b.length - 1]? = some x:=⟨_,q0j (by lia)⟩
 have a1:(arrOf st)[L.length+k+(b.length - k) - 1]? = some x1:=by rw[show L.length+k+(b.length - k) - 1=L.length+(b.length - 1) by lia,o _ (by lia)];exact T
 refine aN (dM a1 (aN (nQ hL tr J (X _ _ a1) X (by lia) (fun i j x y H O Z c g=>?_) (fun e a5 g3 g4=>?_) (by lia))))
 .obtain⟨i',rfl⟩:∃i',i=L.length+b.length+i':=⟨i - (L.length+b.length),by lia⟩
  obtain⟨j',rfl⟩:∃j',j=L.length+b.length+j':=⟨j - (L.length+b.length),by lia⟩
  rw[z _ (by lia)]at c g;exact qj rf sb (by lia) c g
 have eC:d.take e++d.drop e=d:=q05 e d;have bk:List.merge (b.drop k) d le=List.merge (b.drop k) (d.take e) le++d.drop e:=by
  conv=>lhs;rw[<-eC]
  refine sP _ _ fun x c y g=>?_;obtain⟨j,p⟩:=q0J c;rw[q1H]at p;obtain⟨l,hl⟩:=q0J g;rw[q1H]at hl;have a2:e+l<d.length:=(q0a.mp hl).1;have a6:k+j<b.length:=(q0a.mp p).1;have H:=qj rf sa (i:=k+j) (j:=b.length - 1) (by lia) p T;have O:=g4 (e+l) (by lia) a2 y (by rw[z _ a2];exact hl);exact tr _ _ _ H (by simpa[dW] using O)
 dsimp only
 by_cases e2:e=0
 .rw[if_pos (by simpa using e2)];refine ba (h m J f1 p1 ?_);subst e2;rw[N,G,fr,bk];simp only[q2G,List.drop_zero,q2r];rw[<-q0t (b.take k),eA,q0t]
 rw[if_neg (by simpa using e2)];have tX:((arrOf st).extract (L.length+k) (L.length+b.length)).toList=b.drop k:=by rw[iD,G,<-q1l,q1P,q1U (by lia),show L.length+b.length - (L.length+k)=(b.drop k).length by simp;lia,List.take_left]
 have tY:((arrOf st).extract (L.length+b.length) (L.length+b.length+e)).toList=d.take e:=by rw[iD,G,<-q1l,q1P,q1P,q0O,q1V (by lia)]
 have lX:((arrOf st).extract (L.length+k) (L.length+b.length)).size=b.length - k:=by rw[<-q0E,tX];simp
 have lY:((arrOf st).extract (L.length+b.length) (L.length+b.length+e)).size=e:=by rw[<-q0E,tY];simp;lia
 have B:∀(j:Nat) (x:Keyed),((arrOf st).extract (L.length+k) (L.length+b.length))[j]? = some x->b[k+j]? = some x:=fun j x c=>by rw[cN,tX,q1H]at c;exact c
 have D:∀(j:Nat) (x:Keyed),((arrOf st).extract (L.length+b.length) (L.length+b.length+e))[j]? = some x->j<e/\d[j]? = some x:=fun j x c=>by
  rw[cN,tY,q1G]at c;split at c
  .exact⟨by assumption,c⟩
  .cases c
 have M:MH le S ((arrOf st).extract (L.length+k) (L.length+b.length)) ((arrOf st).extract (L.length+b.length) (L.length+b.length+e)):={
  tr:=tr
  sa:=fun i j x y a3 c g=>qj rf sa (by lia) (B i x c) (B j y g)
  sb:=fun i j x y a3 c g=>qj rf sb a3 (D i x c).2 (D j y g).2
  Sa:=fun i x c=>by have q:=B i x c;exact X (L.length+(k+i)) x (by rw[o _ (q0a.mp q).1];exact q)
  Sb:=fun i x c=>by have q:=(D i x c).2;exact X (L.length+b.length+i) x (by rw[z _ (q0a.mp q).1];exact q)
  a0:=by lia
  b0:=by lia
  first:=fun x y c g=>by have H:=B 0 x c;have O:=(D 0 y g).2;rw[eB]at O;have Z:=g2 k (be _) (by lia) x (by rw[o k (by lia)];exact H);simp only[q2p,q0N]at O;rw[<-O];simpa[dW] using Z
  last:=fun i x y hi c g=>by
   have H:=B i x c;rw[show k+i=b.length - 1 by lia,T]at H;cases H;rw[tY]at g;obtain⟨j,p,q⟩:=nR g;have Z:=g3 j p y (by rw[z j (by lia)];exact q);simpa[dW] using Z }
 have fin:∀(r:Array Keyed) (f:SortSt),Sm m f->r.toList=List.merge ((arrOf st).extract (L.length+k) (L.length+b.length)).toList ((arrOf st).extract (L.length+b.length) (L.length+b.length+e)).toList le->
   wpS (model prog w) A E s (do
    modify fun u=>setArr u (List.foldl (fun(a:Array Keyed) (x:Keyed×Nat)=>a.setIfInBounds (L.length+k+x.snd) x.fst) (arrOf u) r.toList.zipIdx)
    let v <-get
    pure (failedOf v).isNone) Q f:=fun r f I U=>by
  refine aN (wpS_modify (aN (wpS_get ?_)));rw[tX,tY]at U;have f2:failedOf f=none:=I.failed.trans f1;show wpS _ _ _ _ (pure (failedOf f).isNone) Q _;rw[f2];refine ba (h _ (I.kind.trans J) f2 (I.pend.trans p1) ?_);show(List.foldl (fun(a:Array Keyed) (x:Keyed×Nat)=>a.setIfInBounds (L.length+k+x.snd) x.fst) (arrOf f) r.toList.zipIdx).toList=_;have hl:r.toList.length=b.length - k+e:=by rw[U,List.length_merge];simp;lia
  rw[I.arr,N,Cy (L.length+k) r.toList 0 (arrOf st) (by lia),hl,Nat.add_zero,G,fr,bk,U];have t1:(L++(b++(d++R))).take (L.length+k)=L++b.take k:=by rw[List.take_append,q0Z (by lia),q0O,q1V (by lia)]
  have t2:(L++(b++(d++R))).drop (L.length+k+(b.length - k+e))=d.drop e++R:=by rw[show L.length+k+(b.length - k+e)=L.length+(b.length+e) by lia,<-q1l,q1P,<-q1l,q1P,q1U (by lia)]
  rw[t1,t2];simp only[q0t]
 split
 .exact aN (QP M hL J fun r f I U=>fin r f I U)
 .exact aN (QW M hL J fun r f I U=>fin r f I U)
end
def Rn(le:Keyed->Keyed->Bool):Nat->List (Nat×Nat×Nat)->List (List Keyed)->Prop
 |_,[],[]=>True
 |lo,p::a,r::b=>p.1=lo/\p.2.1=r.length/\0<r.length/\r.Pairwise (fun x y=>le x y=true)/\Rn le (lo+r.length) a b
 |_,_,_=>False
section
variable{le:Keyed->Keyed->Bool}
theorem Rn.len:∀{lo a b},Rn le lo a b->a.length=b.length
 |_,[],[],_=>rfl
 |_,_::_,_::_,h=>by simp[Rn.len h.2.2.2.2]
 |_,[],_::_,h=>h.elim
 |_,_::_,[],h=>h.elim
theorem Rn.few:∀{lo b a},Rn le lo b a->a.length<=a.flatten.length
 |_,[],[],_=>by simp
 |_,_::_,r::a,h=>by have:=Rn.few h.2.2.2.2;have:=h.2.2.1;simp;simp at *;lia
 |_,[],_::_,h=>h.elim
 |_,_::_,[],h=>h.elim
theorem Rn.split:∀{P Q lo a},Rn le lo (P++Q) a->∃b R2,a=b++R2/\Rn le lo P b/\Rn le (lo+b.flatten.length) Q R2
 |[],Q,lo,a,h=>⟨[],a,rfl,trivial,h⟩
 |p::P,Q,lo,r::a,h=>by obtain⟨b,R2,e,c,d⟩:=Rn.split h.2.2.2.2;refine⟨r::b,R2,by rw[e];rfl,⟨h.1,h.2.1,h.2.2.1,h.2.2.2.1,c⟩,?_⟩;rw[q0e,q0u,<-q2K];exact d
 |p::P,Q,lo,[],h=>h.elim
theorem Rn.join:∀{P Q lo a R2},Rn le lo P a->Rn le (lo+a.flatten.length) Q R2->Rn le lo (P++Q) (a++R2)
 |[],Q,lo,[],R2,_,h=>by simpa using h
 |p::P,Q,lo,r::a,R2,h,b=>⟨h.1,h.2.1,h.2.2.1,h.2.2.2.1,h.2.2.2.2.join (by rw[q0e,q0u,<-q2K]at b;exact b)⟩
 |[],_,_,_::_,_,h,_=>h.elim
 |_::_,_,_,[],_,h,_=>h.elim
theorem Rn.pw(c:∀p,(f p).1=p.1/\(f p).2.1=p.2.1):∀{a lo i b},Rn le lo a b->Rn le lo (a.modify i f) b
 |[],_,_,[],h=>by simp[Rn]
 |p::a,lo,0,r::b,h=>by simpa[List.modify,Rn,c] using h
 |p::a,lo,i+1,r::b,h=>by rw[List.modify_succ_cons];exact⟨h.1,h.2.1,h.2.2.1,h.2.2.2.1,h.2.2.2.2.pw c⟩
 |[],_,_,_::_,h=>h.elim
 |_::_,_,_,[],h=>h.elim
structure IV (le:Keyed->Keyed->Bool) (κ:SortKind) (a₀:List Keyed) (st:SortSt) (rs:List (List Keyed)) (rest:List Keyed):Prop where
 kind:kindOf st=κ
 failed:failedOf st=none
 perm:(arrOf st).toList.Perm a₀
 arr:(arrOf st).toList=rs.flatten++rest
 runs:Rn le 0 (pendingOf st).toList rs
variable{prog:Program}{w:World}{A:Around}{E:Value->Shared->Prop}{s:Shared}{κ:SortKind}{a₀:List Keyed}{st:SortSt}
variable(hL:eJ prog w A E s le κ (·∈a₀))(tr:∀x y z,le x y=true->le y z=true->le x z=true)(tt:∀x y,(le x y||le y x)=true)
include hL tr tt
theorem Cz(v:IV le κ a₀ st u rest)(J:i+1<(pendingOf st).size)
  (h:∀a g,IV le κ a₀ a g rest->g.flatten.length=u.flatten.length->(pendingOf a).size+1=(pendingOf st).size->Q true a):wpS (model prog w) A E s (mergeAt' i) Q st:=by
 obtain⟨P,l,m,n,e,o⟩:∃P l m n,(pendingOf st).toList=P++l::m::n/\P.length=i:=by
  have L:i+1<(pendingOf st).toList.length:=by simpa using J
  refine⟨(pendingOf st).toList.take i,(pendingOf st).toList[i]'(by lia),(pendingOf st).toList[i+1],(pendingOf st).toList.drop (i+2),?_,by rw[List.length_take];lia⟩;rw[<-q0D L,<-q0D (by lia),q05]
 have y:=v.runs;rw[e]at y;obtain⟨j,R2,d,M,c⟩:=y.split
 match R2,c,d with
 |b::f::z,c,d=>
  obtain⟨N,O,k⟩:=l;obtain⟨R,S,p⟩:=m;obtain⟨q,B,T,C,r,D,U,G,X⟩:=c;dsimp only at q B r D;simp only[q1S]at q r;subst q B r D;have H:(arrOf st).toList=j.flatten++(b++(f++(z.flatten++rest))):=by rw[v.arr,d];simp
  have g1:(pendingOf st)[i]? = some (j.flatten.length,b.length,k):=by rw[cN,e,<-o];simp
  have g2:(pendingOf st)[i+1]? = some (j.flatten.length+b.length,f.length,p):=by rw[cN,e,<-o];simp
  refine Re hL tr tt v.kind v.failed (fun x Y=>v.perm.mem_iff.mp Y) g1 g2 H T U C G fun a Z f' p' I=>?_;have pl:(pendingOf a).toList=P++(j.flatten.length,b.length+f.length,k)::n:=by rw[p',Array.toList_eraseIdxIfInBounds,q2b,e,<-o,List.set_append_right _ _ (be _),List.eraseIdx_append_of_length_le (by lia)];simp
  have t:(List.merge b f le).length=b.length+f.length:=List.length_merge _ _ _;refine h a (j++List.merge b f le::z) ⟨Z,f',?_,?_,?_⟩ ?_ ?_
  .refine List.Perm.trans ?_ v.perm;rw[I,H];refine List.Perm.append_left _ ?_;rw[<-q0t b];exact q2w _ (List.merge_perm_append le)
  .rw[I];simp
  .rw[pl];refine M.join ⟨by simp,by simp[t],by lia,List.pairwise_merge tr tt _ _ C G,?_⟩;rw[t,<-q2K,q1S];simpa using X
  .rw[d];simp[t];lia
  .have l1:=congrArg List.length pl;have l2:=congrArg List.length e;simp at l1 l2;lia
 |[],c,d=>exact c.elim
 |[_],c,d=>exact c.2.2.2.2.elim
theorem CB{Q:ForInStep (Option Unit×Nat)->SortSt->Prop}{lo }(v:IV le κ a₀ st d rest)(a:d.flatten.length=lo)(g:1<=n)(e:n<=rest.length)(f:(rest.take n).Pairwise fun x y=>le x y=true)
  (h:∀b c,IV le κ a₀ b c (rest.drop n)->c.flatten.length=lo+n->Q (.yield (none,lo+n)) b) :
  wpS (model prog w) A E s (do
   modify fun s=>setPending s ((pendingOf s).push (lo,n,0))
   pure (ForInStep.yield (none,lo+n))) Q st:=by
 refine aN (wpS_modify (ba (h _ (d++[rest.take n]) ⟨v.kind,v.failed,v.perm,?_,?_⟩ ?_)))
 .show(arrOf st).toList=_;rw[v.arr];simp
 .show Rn le 0 ((pendingOf st).push (lo,n,0)).toList _;rw[Array.toList_push];refine v.runs.join ⟨by simp[a],by simp;lia,by simp;lia,f,trivial⟩
 .simp[a];lia
theorem CC{lo }(v:IV le κ a₀ st j rest)(d:j.flatten.length=lo)(z:1<=n)(u:n<=rest.length)(B:(rest.take n).Pairwise fun x y=>le x y=true)
  (h:∀a l,IV le κ a₀ a l (rest.drop n)->l.flatten.length=lo+n->Q (.yield (none,lo+n)) a) :
  ∀m,m=(do
   let g <-get
   match (pendingOf g).back? with
   |some (o,k,_)=>do
    let c <-forIn [:sz] ((none,()):Option Unit×Unit) fun _ _=>do
     let g <-get
     match if (pendingOf g).size>1 then(pendingOf g)[(pendingOf g).size - 2]? else none with
     |some (_,_,t)=>
      if t<=power' sz (2 * o+k) (2 * o+k+k+n) sz then pure (ForInStep.done (none,()))
      else do
       let b <-mergeAt' ((pendingOf g).size - 2)
       if (!b)=true then pure (ForInStep.done (some (),())) else pure (ForInStep.yield (none,()))
     |_=>pure (ForInStep.done (none,()))
    match c.fst with
    |some r=>pure (ForInStep.done (some r,lo))
    |none=>do
     modify fun s=>setPending s ((pendingOf s).modify ((pendingOf s).size - 1) fun x=>(x.fst,x.2.fst,power' sz (2 * o+k) (2 * o+k+k+n) sz))
     modify fun s=>setPending s ((pendingOf s).push (lo,n,0))
     pure (ForInStep.yield (none,lo+n))
   |_=>do
    modify fun s=>setPending s ((pendingOf s).push (lo,n,0))
    pure (ForInStep.yield (none,lo+n)))->wpS (model prog w) A E s m Q st:=by
 rintro m rfl;refine aN (wpS_get ?_);cases e:(pendingOf st).back? with
 |none=>exact CB hL tr tt v d z u B h
 |some p=>
  obtain⟨o,k,J⟩:=p;dsimp only;refine aN (wpS_mono (wpS_forRange (I:=fun _ c a=>c=(none,())/\∃j,IV le κ a₀ a j rest/\j.flatten.length=lo)
   (Q:=fun c a=>c=(none,())/\∃j,IV le κ a₀ a j rest/\j.flatten.length=lo) ?_ (fun c a q=>q) ⟨rfl,j,v,d⟩) ?_)
  .rintro x c a _ _ ⟨rfl,j,v,d⟩;refine aN (wpS_get ?_)
   by_cases C:(pendingOf a).size>1
   .rw[if_pos C];obtain⟨⟨L,M,N⟩,G⟩:=at_ (c:=pendingOf a) (i:=(pendingOf a).size - 2) (by lia);rw[G];dsimp only;split
    .exact ba ⟨rfl,j,v,d⟩
    .exact aN (Cz hL tr tt v (by lia) fun D l H O R=>ba ⟨rfl,l,H,by lia⟩)
   .rw[if_neg C];exact ba ⟨rfl,j,v,d⟩
  .rintro c a ⟨rfl,j,v,d⟩;dsimp only;refine aN (wpS_modify (CB hL tr tt ⟨v.kind,v.failed,v.perm,v.arr,?_⟩ d z u B h));show Rn le 0 ((pendingOf a).modify _ _).toList _;rw[Array.toList_modify];exact v.runs.pw (f:=fun x=>(x.fst,x.2.fst,power' sz (2 * o+k) (2 * o+k+k+n) sz)) fun p=>⟨rfl,rfl⟩
theorem Rf(hk:kindOf st=κ)(hf:failedOf st=none)(hp:pendingOf st = #[])(U:(arrOf st).toList=a₀)
  (h:∀a,failedOf a = none->(arrOf a).toList.Perm a₀->(arrOf a).toList.Pairwise (fun x y=>le x y=true)->Q () a):wpS (model prog w) A E s sortRuns' Q st:=by
 rw[sortRuns'_eq];refine aN (wpS_get ?_);dsimp only;generalize a2:minRun' (arrOf st).size (arrOf st).size 0=mr;generalize X:(arrOf st).size=sz;have Y:a₀.length=sz:=by rw[<-U,<-X];simp
 refine aN (wpS_mono (wpS_forRange (I:=fun x c a=>∃lo l rest,c=(none,lo)/\IV le κ a₀ a l rest/\l.flatten.length=lo/\x<=lo)
  (Q:=fun c a=>∃lo l rest,c=(none,lo)/\IV le κ a₀ a l rest/\l.flatten.length=lo/\sz<=lo) ?_ ?_ ⟨0,[],a₀,rfl,⟨hk,hf,by rw[U],by rw[U];rfl,by rw[hp];trivial⟩,rfl,q0T _⟩) ?_)
 .rintro x c t _ Z ⟨lo,l,rest,rfl,v,u,a0⟩;dsimp only
  by_cases D:lo≥sz
  .rw[if_pos D];exact ba ⟨lo,l,rest,rfl,v,u,D⟩
  .rw[if_neg D];have H:(arrOf t).size=sz:=by rw[<-q0E,v.perm.length_eq,Y]
   have B1:Bs κ (·∈a₀) lo t t:=⟨Array.Perm.refl _,v.kind,v.failed,rfl,fun _ _=>rfl,fun x Z=>v.perm.mem_iff.mp Z⟩
   have dk:∀(f:SortSt) (m:Nat),Bs κ (·∈a₀) lo t f->gi le (arrOf f) lo m->m<=sz - lo->∃d,IV le κ a₀ f l d/\d.length=sz - lo/\(d.take m).Pairwise fun x y=>le x y=true:=fun f m C N hm=>by
    have J:(arrOf f).size=sz:=C.size.trans H;have tk:(arrOf f).toList.take lo=l.flatten:=by
     have:(arrOf f).toList.take lo=(arrOf t).toList.take lo:=by
      apply q0U;intro k;rw[q1G,q1G];split
      .rename_i q;have:=C.keep k q;rwa [cN,cN]at this
      .rfl
     rw[this,v.arr,<-u,List.take_left]
    refine⟨(arrOf f).toList.drop lo,⟨C.kind,C.failed,(q1k.mp C.perm).trans v.perm,?_,by rw[C.pend];exact v.runs⟩,by simp[J],?_⟩
    .conv=>lhs;rw[<-q05 lo (arrOf f).toList,tk]
    .rw[q2h];intro i j hi hj a3;simp at hi hj;refine gi.old N i j _ _ (by lia) (by lia) ?_ ?_
     .rw[cN,List.getElem_take,List.getElem_drop,q0j]
     .rw[cN,List.getElem_take,List.getElem_drop,q0j]
   refine aN (QZ hL tr tt (by lia) (by lia) B1 fun m f C a4 a5 N=>?_);dsimp only;have fin:∀(B:SortSt) (n:Nat),Bs κ (·∈a₀) lo t B->gi le (arrOf B) lo n->1<=n->n<=sz - lo->∀z o,(∃d:List Keyed,d.length=sz - lo/\IV le κ a₀ z o (d.drop n))->o.flatten.length=lo+n->∃L l rest,((none,lo+n):Option Unit×Nat)=(none,L)/\IV le κ a₀ z l rest/\l.flatten.length=L/\x+1<=L:=fun B n B3 s3 n1 n2 z o O R=>by obtain⟨r2,_,v4⟩:=O;exact⟨lo+n,o,_,rfl,v4,R,by lia⟩
   by_cases S:m<mr
   .rw[if_pos S];refine aN (wpS_lift (wpAny_rule ⟨rfl,?_⟩));refine aN (Ra hL tr tt (by lia) (by lia) C N fun B B3 s3=>?_);simp only[q1Y,q0L,if_false];obtain⟨d,v3,l3,p3⟩:=dk B _ B3 s3 (by lia);refine CC (sz:=sz) hL tr tt v3 u (by lia) (by lia) p3 (fun z o v4 R=>?_) _ ?_
    rotate_left
    .refine bJ fun g=>?_;cases(pendingOf g).back? with
     |none=>rfl
     |some p=>
      refine fb (fun _ _=>bJ fun g=>?_) fun c=>?_
      .cases(if (pendingOf g).size>1 then(pendingOf g)[(pendingOf g).size - 2]? else none)<;>rfl
      .obtain⟨_ |r,c⟩:=c<;>rfl
    exact fin B _ B3 s3 (by lia) (by lia) z o ⟨d,l3,v4⟩ R
   .rw[if_neg S];obtain⟨d,v3,l3,p3⟩:=dk f _ C N (by lia);refine CC (sz:=sz) hL tr tt v3 u (by lia) (by lia) p3 (fun z o v4 R=>?_) _ ?_
    rotate_left
    .refine bJ fun g=>?_;cases(pendingOf g).back? with
     |none=>rfl
     |some p=>
      refine fb (fun _ _=>bJ fun g=>?_) fun c=>?_
      .cases(if (pendingOf g).size>1 then(pendingOf g)[(pendingOf g).size - 2]? else none)<;>rfl
      .obtain⟨_ |r,c⟩:=c<;>rfl
    exact fin f _ C N (by lia) (by lia) z o ⟨d,l3,v4⟩ R
 .rintro c a ⟨lo,l,rest,rfl,v,u,a0⟩;exact⟨lo,l,rest,rfl,v,u,by lia⟩
 .rintro c t ⟨lo,l,rest,rfl,v,u,D⟩;dsimp only;have M:rest=[]:=by have T:=congrArg List.length v.arr;rw[v.perm.length_eq,q0u]at T;exact List.eq_nil_of_length_eq_zero (by lia)
  subst M;have pl:(pendingOf t).size<=sz:=by have T:=congrArg List.length v.arr;rw[v.perm.length_eq,q0u]at T;have:=v.runs.few;have G:=v.runs.len;rw[q0E]at G;simp only[q0F]at T;lia
  refine aN (wpS_mono (wpS_forRange (I:=fun x c a=>c=(none,())/\(∃l,IV le κ a₀ a l [])/\(pendingOf a).size<=max 1 (sz - x))
   (Q:=fun c a=>c=(none,())/\(∃l,IV le κ a₀ a l [])/\(pendingOf a).size<=1) ?_ ?_ ⟨rfl,⟨l,v⟩,by lia⟩) ?_)
  .rintro x c a _ Z ⟨rfl,⟨l,v⟩,hm⟩;refine aN (wpS_get ?_)
   by_cases h1:(pendingOf a).size<=1
   .rw[if_pos h1];exact ba ⟨rfl,⟨l,v⟩,h1⟩
   .rw[if_neg h1];refine aN (Cz hL tr tt v ?_ fun a1 o v' e1 e2=>ba ⟨rfl,⟨o,v'⟩,by lia⟩);have pk:∀(b:Bool) (i n:Nat),i+1<n->(if b=true then i - 1 else i)+1<n:=fun b i n h=>by cases b<;>simp<;>lia
    exact pk _ _ _ (by lia)
  .rintro c a ⟨rfl,v,hm⟩;exact⟨rfl,v,by lia⟩
  .rintro c a ⟨rfl,⟨l,v⟩,hm⟩;refine ba (h a v.failed v.perm ?_);rw[v.arr,q0B];have G:=v.runs.len;rw[q0E]at G
   match l,v.runs,G with
   |[],_,_=>exact .nil
   |[r],q,G=>have e:∃p,(pendingOf a).toList=[p]:=List.length_eq_one_iff.mp (by rw[q0E];simpa using G);obtain⟨p,e⟩:=e;rw[e]at q;simpa using q.2.2.2.1
   |_::_::_,_,G=>simp at G;lia
end
theorem xB:∀a,HT.lexLt a a=false
 |[]=>rfl
 |x::a=>by rw[HT.lexLt_cons,if_pos rfl];exact xB a
theorem tm:∀{c d f},HT.lexLt c d=true->HT.lexLt d f=true->HT.lexLt c f=true
 |[],[],_,h,_=>by cases h
 |[],y::d,[],_,h=>by cases h
 |[],_::_,_::_,_,_=>rfl
 |x::c,[],_,h,_=>by cases h
 |x::c,y::d,[],_,h=>by cases h
 |x::c,y::d,z::f,b,a=>by
  rw[HT.lexLt_cons]at b a ⊢
  by_cases g:x=y
  .subst g;rw[if_pos rfl]at b
   by_cases e:x=z
   .subst e;rw[if_pos rfl]at a ⊢;exact tm b a
   .rw[if_neg e]at a ⊢;exact a
  .rw[if_neg g]at b
   by_cases e:y=z
   .subst e;rw[if_neg g];exact b
   .rw[if_neg e]at a;have i:=of_decide_eq_true b;have j:=of_decide_eq_true a;rw[if_neg (by lia)];exact decide_eq_true (by lia)
theorem xD:∀{c d},HT.lexLt c d=false->HT.lexLt d c=false->c=d
 |[],[],_,_=>rfl
 |[],_::_,h,_=>by cases h
 |_::_,[],_,h=>by cases h
 |x::c,y::d,a,b=>by
  rw[HT.lexLt_cons]at a b
  by_cases e:x=y
  .subst e;rw[if_pos rfl]at a b;rw[xD a b]
  .rw[if_neg e]at a;rw[if_neg (Ne.symm e)]at b;have f:=of_decide_eq_false a;have g:=of_decide_eq_false b;lia
def lexLe(a b:List Int):Bool:=!HT.lexLt b a
theorem lexLe_tr(a c d)(g:lexLe a c=true)(b:lexLe c d=true):lexLe a d=true:=by
 unfold lexLe at *;simp only[q2m]at *;cases e:HT.lexLt d a with
 |false=>rfl
 |true=>
  cases f:HT.lexLt a c with
  |true=>rw[tm e f]at b;cases b
  |false=>rw[xD f g]at e;rw[e]at b;cases b
theorem lexLe_tt(a b):(lexLe a b||lexLe b a)=true:=by
 unfold lexLe;cases e:HT.lexLt b a with
 |false=>rfl
 |true=>
  cases c:HT.lexLt a b with
  |false=>rfl
  |true=>have:=tm e c;rw[xB]at this;cases this
theorem Rg(c:lexLe a b=true)(d:lexLe b a=true):a=b:=by unfold lexLe at *;simp only[q2m]at *;exact xD d c
def sortR(rows:List (List Int)):List (List Int):=rows.mergeSort lexLe
theorem sortR_of(d:c.Perm rows)(e:c.Pairwise fun x y=>lexLe x y=true):c=sortR rows:=
 q1x (fun a b _ _ p q=>Rg p q) e (q1f lexLe_tr lexLe_tt rows) (d.trans (q1u rows lexLe).symm)
theorem sortR_perm(rows):(sortR rows).Perm rows:=q1u rows lexLe
end L2.TS
namespace L2.TS
open PySem PyProof.Rows PySem.W
section
variable{N:Nat}{c:Nat->Nat->Bool}{s:Shared}{cmp:Nat->Nat->(Bool->Shared->Prop)->Shared->Prop}
def Ch(R:Nat->Nat->Prop)(p:Array Nat)(n:Nat):Prop:=∀i j,i<=j->j<n->R (p.getD i 0) (p.getD j 0)
abbrev Le(c:Nat->Nat->Bool)(x y:Nat):Prop:=c y x=false
abbrev Ge(c:Nat->Nat->Bool)(x y:Nat):Prop:=c x y=false
theorem tp(h:j<=p.size)(k):(kas_rev p i j).getD k 0=p.getD (if i<=k/\k<j then i+j - 1 - k else k) 0:=by unfold kas_rev;rw[q0y,q0y,getElem?_mirror_all h];split<;>rfl
structure xE (N:Nat) (c:Nat->Nat->Bool) (s:Shared) (cmp:Nat->Nat->(Bool->Shared->Prop)->Shared->Prop):Prop where
 tr:∀{x y z},c y x=false->c z y=false->c z x=false
 as:∀{x y},c x y=true->c y x=false
 ask:∀i j C,i<N->j<N->C (c i j) s->cmp i j C s
variable(O:xE N c s cmp){p:Array Nat}{α:Type}
include O
theorem xE.rf(x):c x x=false:=by
 cases h:c x x
 .rfl
 .exact h.symm.trans (O.as h)
theorem Ch.up(h:Ch (Le c) p n)(d:1<=n)(e:c (p.getD n 0) (p.getD (n - 1) 0)=false):Ch (Le c) p (n+1):=fun i j a b=>by
 rcases q1a (q2n b) with q |rfl
 .exact h i j a q
 .rcases q1a a with q |rfl
  .exact O.tr (h i (j - 1) (by lia) (by lia)) e
  .exact O.rf _
theorem Ch.dn(h:Ch (Ge c) p n)(d:1<=n)(e:c (p.getD (n - 1) 0) (p.getD n 0)=false):Ch (Ge c) p (n+1):=fun i j a b=>by
 rcases q1a (q2n b) with q |rfl
 .exact h i j a q
 .rcases q1a a with q |rfl
  .exact O.tr e (h i (j - 1) (by lia) (by lia))
  .exact O.rf _
omit O in
theorem ju{i:Nat}(h:p.Perm (List.range N).toArray)(a:i<N):p.getD i 0<N:=by
 have z:p.size=N:=by have:=h.size_eq;simpa using this
 have m:p[i]∈p:=Array.getElem_mem (by lia);have:=h.mem_iff.mp m;rw[q0y,q2g (by lia)];simpa using this
abbrev Pm(N:Nat)(p:Array Nat):Prop:=p.Perm (List.range N).toArray
omit O in
theorem Pm.size(h:Pm N p):p.size=N:=by have:=h.size_eq;simpa using this
omit O in
theorem Pm.rev(h:Pm N p)(i j:Nat):Pm N (kas_rev p i j):=(mirror_perm _ _ _ _).trans h
theorem xF(i:Pm N p):∀f n,1<=n->n+f<=N->Ch (Le c) p n->(∀m,n<=m->m<=n+f->Ch (Le c) p m->(m<n+f->c (p.getD m 0) (p.getD (m - 1) 0)=true)->Q m s)->(kas_asc p f n).kasWp cmp Q s
 |0,n,_,_,h,q=>q n (be _) (be _) h fun h=>absurd h (q0z _)
 |f+1,n,j,k,h,q=>by
  refine O.ask _ _ _ (ju i (by lia)) (ju i (by lia)) ?_;cases e:c (p.getD n 0) (p.getD (n - 1) 0)
  .exact xF i f (n+1) (by lia) (by lia) (h.up O j e) fun m a b d g=>q m (by lia) (by lia) d fun h=>g (by lia)
  .exact q n (be _) (by lia) h fun _=>e
def qk(c:Nat->Nat->Bool)(p:Array Nat)(a n:Nat):Prop:=∀i j,a<=i->i<n->a<=j->j<n->c (p.getD i 0) (p.getD j 0)=false
omit O in
theorem Ch.mir{a n m:Nat}(b:n<=p.size)(d:n<=m)(h:Ch (Ge c) p m)(k:qk c p a n):Ch (Ge c) (kas_rev p a n) m:=fun i j e f=>by
 show c _ _=false;rw[tp b,tp b]
 by_cases q:(if a<=i/\i<n then a+n - 1 - i else i)<=if a<=j/\j<n then a+n - 1 - j else j
 .exact h _ _ q (by split<;>lia)
 .refine k _ _ ?_ ?_ ?_ ?_<;>(revert q;split<;>split<;>lia)
theorem tq:∀f n q  p,Pm N p->q+1<=n->n+f<=N->Ch (Ge c) p n->qk c p (n - (q+1)) n->(∀b m r,Pm N b->r+1<=m->m<=N->Ch (Ge c) b m->qk c b (m - (r+1)) m->Q (b,m,r) s)->(kas_desc f p n q).kasWp cmp Q s
 |0,n,q,p,a,d,o,h,k,g=>g p n q a d o h k
 |f+1,n,q,p,a,d,o,h,k,g=>by
  have one:∀b:Array Nat,qk c b (n+1 - (0+1)) (n+1):=fun b i j _ _ _ _=>by
   obtain rfl:i=j:=by lia
   exact O.rf _
  refine O.ask _ _ _ (ju a (by lia)) (ju a (by lia)) ?_;cases e:c (p.getD n 0) (p.getD (n - 1) 0)
  .refine O.ask _ _ _ (ju a (by lia)) (ju a (by lia)) ?_;cases t:c (p.getD (n - 1) 0) (p.getD n 0)
   .refine tq f (n+1) (q+1) p a (by lia) (by lia) (h.dn O (by lia) t) (fun i j v w x y=>?_) g;have l:c (p.getD i 0) (p.getD (n - 1) 0)=false:=by
     by_cases z:i=n
     .rw[z];exact e
     .exact k _ _ (by lia) (by lia) (by lia) (by lia)
    refine O.tr ?_ l
    by_cases z:j=n
    .rw[z];exact t
    .exact k _ _ (by lia) (by lia) (by lia) (by lia)
   .exact g p n q a d (by lia) h k
  .have u:=h.dn O (by lia) (O.as e);show(if q>0 then kas_desc f (kas_rev p (n - (q+1)) n) (n+1) 0 else kas_desc f p (n+1) 0).kasWp cmp Q s;split
   .exact tq f (n+1) 0 _ (a.rev _ _) (by lia) (by lia) (u.mir (by rw[a.size];lia) (by lia) k) (one _) g
   .exact tq f (n+1) 0 p a (by lia) (by lia) u (one _) g
theorem CF(a:Pm N p)(d:1<=n)(f:n<=N)(h:Ch (Ge c) p n)(g:∀m b,1<=m->m<=N->Pm N b->Ch (Le c) b m->Q (m,b) s):(kas_tail3 n N p).kasWp cmp Q s:=by unfold kas_tail3;rw[KasT.kasWp_bind];refine xF O (a.rev _ _) (N - n) n d (by lia) (fun i j k l=>?_) fun m o q e _=>g m _ (by lia) (by lia) (a.rev _ _) e;show c _ _=false;rw[tp (by rw[a.size];lia),tp (by rw[a.size];lia),if_pos (by lia),if_pos (by lia)];exact h _ _ (by lia) (by lia)
theorem CG(f:Pm N p)(l:n+1<=N)(h:Ch (Ge c) p (n+1))(g:∀m b,1<=m->m<=N->Pm N b->Ch (Le c) b m->Q (m,b) s):(kas_descPart n N p).kasWp cmp Q s:=by
 unfold kas_descPart;rw[KasT.kasWp_bind];refine tq O (N - (n+1)) (n+1) 0 p f (by lia) (by lia) h (fun i j _ _ _ _=>?_) fun b m r a o d e k=>?_
 .obtain rfl:i=j:=by lia
  exact O.rf _
 .dsimp only;split
  .exact CF O (a.rev _ _) (by lia) d (e.mir (by rw[a.size];lia) (be _) k) g
  .exact CF O a (by lia) d e g
theorem Rh(a:Pm N p)(t:1<=N)(g:∀m d,1<=m->m<=N->Pm N d->Ch (Le c) d m->Q (m,d) s):(kas_count N p).kasWp cmp Q s:=by
 unfold kas_count;rw[KasT.kasWp_bind];refine xF O a (N - 1) 1 (be _) (by lia) (fun i j _ _=>?_) fun n b u h e=>?_
 .obtain rfl:i=j:=by lia
  exact O.rf _
 .split
  .exact g n p b (by lia) a h
  .rename_i ne;have f:n<N:=Nat.lt_of_le_of_ne (by lia) fun z=>ne (by simp[z]);have e:=O.as (e (by lia));split
   .refine O.ask _ _ _ (ju a (by lia)) (ju a (by lia)) ?_;cases o:c (p.getD 0 0) (p.getD (n - 1) 0)
    .have k:qk c p 0 n:=fun i j _ q _ v=>O.tr (O.tr (h j (n - 1) (by lia) (by lia)) o) (h 0 i (by lia) q);refine CG O (a.rev _ _) f (Ch.mir (by rw[a.size];lia) (by lia) (Ch.dn O (fun i j r l=>k i j (by lia) (by lia) (by lia) l) b e) k) g
    .exact g n p b (by lia) a h
   .obtain rfl:n=1:=by lia
    refine CG O a f (Ch.dn O (fun i j r l=>?_) b e) g;obtain rfl:i=j:=by lia
    exact O.rf _
theorem xG(j:Pm N p)(m:k<N)(h:Ch (Le c) p k)(g:∀l,l<=k->(∀i<l,Le c (p.getD i 0) (p.getD k 0))->(∀i,l<=i->i<k->Le c (p.getD k 0) (p.getD i 0))->Q l s) :
  ∀f l r,l<=r->r<=k->r - l<=f->(∀i<l,Le c (p.getD i 0) (p.getD k 0))->(∀i,r<=i->i<k->Le c (p.getD k 0) (p.getD i 0))->(kas_place p k f l r).kasWp cmp Q s
 |0,l,r,q,o,d,a,b=>g l (by lia) a fun i n=>b i (by lia)
 |f+1,l,r,q,o,d,a,b=>by
  unfold kas_place;split
  .exact g l (by lia) a fun i n=>b i (by lia)
  .refine O.ask _ _ _ (ju j m) (ju j (by lia)) ?_;cases e:c (p.getD k 0) (p.getD ((l+r) / 2) 0)
   .refine xG j m h g f _ r (by lia) o (by lia) (fun i u=>?_) b;exact O.tr (h i _ (by lia) (by lia)) e
   .refine xG j m h g f l _ (by lia) (by lia) (by lia) a fun i n t=>?_;exact O.tr (O.as e) (h _ i n t)
theorem CH(g:∀m,Pm N m->Ch (Le c) m N->Q m s):∀f k  p,Pm N p->Ch (Le c) p k->k+f=N->(kas_bin f p k).kasWp cmp Q s
 |0,k,p,d,h,e=>g p d (by rwa [<-e])
 |f+1,k,p,d,h,e=>by
  unfold kas_bin;rw[KasT.kasWp_bind];refine xG O d (by lia) h (fun l lk a b=>?_) k 0 k (q0T _) (be _) (be _) (fun _ h=>absurd h (Nat.not_lt_zero _)) fun i a b=>absurd a (by lia);have at_:∀i,(bubble p k (k - l)).getD i 0=p.getD (if i=l then k else if l<i/\i<=k then i - 1 else i) 0:=fun i=>by
   rw[q0y,q0y,getElem?_bubble (by rw[d.size];lia) (k - l) (by lia),show k - (k - l)=l by lia];split
   .rfl
   .split<;>rfl
  refine CH g f (k+1) _ ((bubble_perm _ _ _).trans d) (fun i j n o=>?_) (by lia);show c _ _=false;rw[at_,at_]
  by_cases x:i=l<;>by_cases y:j=l
  .rw[if_pos x,if_pos y];exact O.rf _
  .rw[if_pos x,if_neg y,if_pos (by lia)];exact b _ (by lia) (by lia)
  .rw[if_neg x,if_pos y,if_neg (by lia)];exact a _ (by lia)
  .rw[if_neg x,if_neg y];split<;>split<;>exact h _ _ (by lia) (by lia)
theorem Ri(b:1<=N)(g:∀p,Pm N p->Ch (Le c) p N->Q p s):(kas_sort N).kasWp cmp Q s:=by
 unfold kas_sort;rw[KasT.kasWp_bind];refine Rh O (Array.Perm.refl _) b fun m p d e a h=>?_;dsimp only;split
 .exact CH O g _ _ p a (by rw[Nat.max_eq_left d];exact h) (by lia)
 .obtain rfl:m=N:=by lia
  exact g p a h
end
end L2.TS
namespace L2.TS
open PySem PyProof.Rows
abbrev mw(a:Value->List Int):Keyed->Keyed->Bool:=fun x y=>lexLe (a x.1) (a y.1)
def RunsOk(n:Nat):Prop:=2<=n->∀(b:Program) (w:World) (A:Around) (E:Value->Shared->Prop) (s:Shared) (c:Value->List Int) (κ:SortKind) (vs:List Value) (Q:SortSt->Prop),vs.length=n->
 (∀x∈vs,∀y∈vs,∀(E:Value->Shared->Prop) (Q:Bool->Shared->Prop),Q (HT.lexLt (c x) (c y)) s->wpAny (model b w) A (keyLt' κ x y) Q E s)->
 (∀a,failedOf a = none->(arrOf a).toList.Perm (pairsOf vs).toList->(arrOf a).toList.Pairwise (fun x y=>mw c x y=true)->Q a)->wpAny (model b w) A ((sortRuns').run (SortSt.mk' κ (vs.toArray.zip vs.toArray) #[] 7 none)) (fun r d=>d = s/\Q r.2) E s
theorem Rj(n):RunsOk n:=fun _ d w A E s a κ vs Q i f h=>by
 refine Rf (le:=mw a) (κ:=κ) (a₀:=(pairsOf vs).toList) (Q:=fun _ st=>Q st) (fun x y b c Q st g q=>?_) (fun x y z p q=>lexLe_tr _ _ _ p q) (fun x y=>lexLe_tt _ _) rfl rfl rfl rfl h;rw[pairsOf_toList]at b c;rw[lt'_eq];refine aN (wpS_get ?_);rw[g];refine aN (wpS_lift (wpAny_attempt (f x.1 (mem_zip_self b).2 y.1 (mem_zip_self c).2 _ _ ⟨rfl,?_⟩)));refine ba ?_;have e:(!mw a y x)=HT.lexLt (a x.1) (a y.1):=by unfold mw lexLe;simp
 rw[e]at q;exact q
theorem runs_few(r:n<64):RunsOk n:=fun t l w A E s c κ vs Q u v h=>by
 subst u;have O:xE vs.length (fun i j=>HT.lexLt (c (vs.getD i .none)) (c (vs.getD j .none))) s (W.kas_ask l w A κ vs):=⟨fun {x y z} a b=>?_,fun {x y} a=>?_,fun i j C d k q=>?_⟩
 .refine W.kat_run (Q:=fun st o=>o = s/\Q st) (G:=fun p o=>o = s/\Pm vs.length p/\Ch (Le fun i j=>HT.lexLt (c (vs.getD i .none)) (c (vs.getD j .none))) p vs.length) rfl t r ?_ (Ri O (by lia) fun p a b=>⟨rfl,a,b⟩);rintro p st o z e f ⟨rfl,B,D⟩;have m:=(q1k.mp B).map (W.kas_item (pairsOf vs));rw[<-q2s,<-q2s,<-pairsOf_size vs,W.kas_range]at m;refine⟨rfl,h st f (by rw[e];exact m) ?_⟩;rw[e,q2s,q1c,q2h];intro i j d k H;have:=D i j (by lia) (by simpa[z] using k);rw[q0E]at d k;rw[show vs.toArray.zip vs.toArray=pairsOf vs from rfl,W.kas_item_eq,W.kas_item_eq];simpa[mw,lexLe,d,k] using this
 .simpa[lexLe] using lexLe_tr (c (vs.getD x .none)) (c (vs.getD y .none)) (c (vs.getD z .none)) (by simpa[lexLe] using a) (by simpa[lexLe] using b)
 .cases e:HT.lexLt (c (vs.getD y .none)) (c (vs.getD x .none))
  .rfl
  .exact absurd (tm a e) (by rw[xB];simp)
 .have g:∀i,i<vs.length->vs.getD i Value.none∈vs:=fun i d=>by simp[d]
  exact v _ (g i d) _ (g j k) _ _ q
structure mx (prog:Program) (w:World) (h0:Heap) (vs:List Value) (rk:Value->List Int) (κ:SortKind):Prop where
 kind:∀(A:Around) (E:Value->Shared->Prop) (s:Shared) (Q:SortKind->Shared->Prop),(∀b o,h0.get? b=some o->s.heap.get? b=some o)->2<=vs.length->Q κ s->wpAny (model prog w) A (keyKind' vs.toArray) Q E s
 lt:∀(A:Around) (E:Value->Shared->Prop) (s:Shared) (Q:Bool->Shared->Prop) (x y:Value),(∀b o,h0.get? b=some o->s.heap.get? b=some o)->x∈vs->y∈vs->Q (HT.lexLt (rk x) (rk y)) s->wpAny (model prog w) A (keyLt' κ x y) Q E s
theorem xH(qX:s.heap.get? a=some (seqObj "list" vs.toArray n))(t:vs.length<=sizeLine)(R:RunsOk vs.length)(k:mx prog w j vs rk κ)(z:∀b o,j.get? b=some o->b≠a/\s.heap.get? b=some o)
  (h:∀g:List Value,g.Perm vs->g.Pairwise (fun x y=>lexLe (rk x) (rk y)=true)->P (.done (.ret .none)) { s with heap:=sortedHeap s.heap a vs g.toArray }) :
  wpAny (model prog w) A (Builtin.«list.sort» ⟨[.ref a],[]⟩) P E s:=by
 rw[list_sort_plain];have la:a<s.heap.objs.size:=bE qX;refine aH (listItems_at qX rfl (aH (listUpdate_at qX rfl ?_ (by simpa using t) (q0T _))));obtain⟨u,kf⟩:∃u,(s.heap.update a (Obj.mapSeq fun _=>#[])).get? a=some (seqObj "list" #[] u):=⟨_,get?_update_seq qX fun _=>#[]⟩
 refine aH (seqEpoch_at kf rfl (aH (wpAny_newTuple ?_ (by simpa using t))));refine aH (wpAny_newList ?_ (q0T _));refine wpAny_holding ?_;have up:∀{b:Addr}{o:Obj},(s.heap.update a (Obj.mapSeq fun _=>#[])).get? b=some o->(((s.heap.update a (Obj.mapSeq fun _=>#[])).push (seqObj "tuple" vs.toArray 0)).push (seqObj "list" #[] 0)).get? b=some o:=fun e=>bD _ (bD _ e);have d:=up kf;have kp:∀b o,j.get? b=some o->(((s.heap.update a (Obj.mapSeq fun _=>#[])).push (seqObj "tuple" vs.toArray 0)).push (seqObj "list" #[] 0)).get? b=some o:=fun b o e=>up (by rw[Heap.get?_update_ne _ _ _ _ (z b o e).1];exact(z b o e).2);show wpAny (model prog w) A _ P E { s with heap:=((s.heap.update a (Obj.mapSeq fun _=>#[])).push (seqObj "tuple" vs.toArray 0)).push (seqObj "list" #[] 0) };dsimp only;have sz:vs.toArray.size=vs.length:=by simp
 have fin:∀c:SortSt,(arrOf c).toList.Perm (pairsOf vs).toList->(arrOf c).toList.Pairwise (fun x y=>mw rk x y=true)->P (.done (.ret .none)) { s with heap:=sortedHeap s.heap a vs ((arrOf c).map (·.2)) }:=fun c i l=>by
  have v:∀p∈(arrOf c).toList,p.1=p.2:=fun p B=>by have:=i.mem_iff.mp B;rw[pairsOf_toList]at this;exact(mem_zip_self this).1
  have e:(arrOf c).map (·.2)=((arrOf c).toList.map (·.2)).toArray:=by apply Array.toList_inj.mp;simp
  rw[e];refine h _ ?_ ?_
  .have:=i.map (·.2)
   rwa [pairsOf_toList,List.map_snd_zip (be _)]at this
  .rw[q1c];refine q1y (fun {x y} m r q=>?_) l;rw[<-v x m,<-v y r];exact q
 by_cases f:vs.toArray.size<2
 .rw[if_pos f,if_pos f];refine aH (bz ?_);rw[StateT.run_pure];refine aH (bz ?_);dsimp only;refine aH (seqEpoch_at d rfl (aH (listUpdate_at d rfl ?_ (q0T _) (by
   have:((pairsOf vs).map (·.2)).size<=sizeLine+1:=by rw[Array.size_map,pairsOf_size];lia
   exact this))))
  simp only[bne_self_eq_false,q0L,if_false];refine bz (fin (SortSt.mk' general' (vs.toArray.zip vs.toArray) #[] 7 none) (List.Perm.refl _) ?_);show(pairsOf vs).toList.Pairwise _;rw[pairsOf_toList]
  match vs,sz,f with
  |[],_,_=>exact .nil
  |[_],_,_=>exact List.pairwise_singleton _ _
  |_::_::_,_,f=>simp at f;lia
 .rw[if_neg f,if_neg f];refine aH (k.kind _ _ _ _ kp (by lia) ?_);refine aH (wpAny_mono (R (by lia) prog w _ _ _ rk κ vs (fun c=>failedOf c = none/\(arrOf c).toList.Perm (pairsOf vs).toList/\(arrOf c).toList.Pairwise (fun x y=>mw rk x y=true))
   rfl (fun x m y r E Q q=>k.lt _ _ _ _ x y kp m r q) fun c C D G=>⟨C,D,G⟩) ?_ fun _ _ e=>e)
  rintro⟨⟨⟩,c⟩ J ⟨rfl,H,i,l⟩;dsimp only;refine aH (seqEpoch_at d rfl (aH (listUpdate_at d rfl ?_ (q0T _) (by
   have I:=i.length_eq;simp only[q0E,pairsOf_size]at I;have:((arrOf c).map (·.2)).size<=sizeLine+1:=by rw[Array.size_map];lia
   exact this))))
  rw[H];simp only[bne_self_eq_false,q0L,if_false];exact bz (fin c i l)
theorem Rk{s:Shared}(r:s.heap.IsList l vs.toArray)(d:vs.length<=sizeLine)(R:RunsOk vs.length)(k:mx prog w s.heap vs rk κ)
  (h:∀(a:List Value)  f  n,a.Perm vs->a.Pairwise (fun x y=>lexLe (rk x) (rk y)=true)->(∀b o,s.heap.get? b=some o->f.get? b=some o)->f.get? (s.heap.objs.size+1)=some (seqObj "list" a.toArray n)->Q (.ref (s.heap.objs.size+1)) { s with heap:=f }) :
  wpAny (model prog w) A (call (.builtin "sorted") [.ref l]) Q E s:=by
 refine Calls.call_function_entry kind_sorted plain_sorted entry_sorted (args_sorted1 _) ?_;unfold Builtin.«sorted»;refine aH (m:=checkCount "sorted" 1 1 _) (bz ?_);refine aH (collect_list r (aH (wpAny_newList ?_ d)) d);generalize j:(s.heap.push (seqObj "list" #[] 0)).update s.heap.objs.size (Obj.mapSeq (·++vs.toArray))=g;have p:g.objs.size=s.heap.objs.size+1:=by rw[<-j,Heap.size_update,size_push']
 have t:∀b o,s.heap.get? b=some o->g.get? b=some o:=fun b o e=>by have c:b<s.heap.objs.size:=bE e;rw[<-j,Heap.get?_update_ne _ _ _ _ (q0v c),Heap.get?_push_ne _ _ _ (q0v c)];exact e
 have gH:(g.push (seqObj "list" vs.toArray 0)).get? (s.heap.objs.size+1)=some (seqObj "list" vs.toArray 0):=by rw[<-p];exact Heap.get?_push_size _ rfl
 show wpAny _ _ _ _ _ { s with heap:=g.push (seqObj "list" vs.toArray 0) };rw[p];have hb:∀b o,s.heap.get? b=some o->b≠s.heap.objs.size+1/\(g.push (seqObj "list" vs.toArray 0)).get? b=some o:=fun b o e=>⟨q0v (q2i (bE e)),bD _ (t b o e)⟩
 refine aH (wpAny_holding (wpAny_call_entry slot_list_sort ⟨_,gH,rfl⟩ entry_list_sort (xH gH d R k hb fun a u v=>⟨_,rfl,?_⟩) (args_list_sort _)));refine bz ⟨_,rfl,?_⟩;obtain⟨i,kf⟩:∃i,((g.push (seqObj "list" vs.toArray 0)).update (s.heap.objs.size+1) (Obj.mapSeq fun _=>#[])).get? (s.heap.objs.size+1)=some (seqObj "list" #[] i):=⟨_,get?_update_seq gH fun _=>#[]⟩
 have oz:(((((g.push (seqObj "list" vs.toArray 0)).update (s.heap.objs.size+1) (Obj.mapSeq fun _=>#[])).push (seqObj "tuple" vs.toArray 0)).push (seqObj "list" #[] 0))).get? (s.heap.objs.size+1)=some (seqObj "list" #[] i):=bD _ (bD _ kf);refine h a _ _ u v (fun b o e=>?_) (get?_update_seq oz fun _=>a.toArray);have q:=hb b o e;unfold sortedHeap;rw[Heap.get?_update_ne _ _ _ _ q.1];refine bD _ (bD _ ?_);rw[Heap.get?_update_ne _ _ _ _ q.1];exact q.2
noncomputable def rkH(h:Heap):Value->List Int
 |.int n _=>[n]
 |.ref a=>(match h.get? a with
  |some o=>(match o.data with
   |.seq b _=>b.toList.map numOf
   |_=>[])
  |none=>[])
 |_=>[]
theorem kok_ints(hv:∀v∈vs,∃n t,v=.int n t):mx prog w h0 vs (rkH h0) oneType' where
 kind:=fun A E s Q _ h2 q=>by
  have hI:=intsAre_map vs hv
  match vs,hI,h2 with
  |v1::v2::r,hI,_=>rw[keyKind_ints hI];exact bz q
  |[_],_,h2=>simp at h2
  |[],_,h2=>simp at h2
 lt:=fun A E s Q x y _ hx hy q=>by
  obtain⟨a,t,rfl⟩:=hv x hx;obtain⟨b,u,rfl⟩:=hv y hy;rw[keyLt'_oneType];refine oneLt_int ?_;have e:HT.lexLt (rkH h0 (.int a t)) (rkH h0 (.int b u))=decide (a<b):=by
   show HT.lexLt [a] [b]=_;rw[HT.lexLt_cons];split
   .rename_i z;subst z;rw[HT.lexLt_nil_nil];symm;exact decide_eq_false (by lia)
   .rfl
  rw[e]at q;exact q
def jv(h:Heap)(v:Value):Prop:=∃(a:Addr) (b:Array Value) (c:List Int),v=.ref a/\IsTup h a b/\IntsAre b.toList c/\c≠[]
theorem jv.rnk(t:jv h v):∃(a:Addr) (b:Array Value) (c:List Int),v=.ref a/\IsTup h a b/\IntsAre b.toList c/\c≠[]/\rkH h v=c:=by obtain⟨a,b,c,rfl,d,e,f⟩:=t;refine⟨a,b,c,rfl,d,e,f,?_⟩;obtain⟨o,g,j,n,i⟩:=d;unfold rkH;simp only[g,i];exact e.nums
theorem CI:∀{a c g d} i,IntsAre a g->IntsAre c d->Q (HT.lexLt g d) s->W.KatLex prog w A b (decide (a.length<c.length)) Q (a.zip c) i s
 |_,_,_,_,i,.nil,.nil,q=>W.kat_nil q
 |_,_,_,_,i,.nil,.cons m t h,q=>W.kat_nil (by exact q)
 |_,_,_,_,i,.cons n t h,.nil,q=>W.kat_nil (by exact q)
 |_,_,_,_,i,.cons (vs:=vs) n t h,.cons (vs:=f) m u j,q=>by
  rw[q1B];refine W.kat_cons (wpAny_eqBool_int ?_);rw[HT.lexLt_cons]at q;have el:decide ((Value.int n t::vs).length<(Value.int m u::f).length)=decide (vs.length<f.length):=by simp
  rw[el];refine W.kat_go (fun e=>W.kat_yes ?_) fun e=>W.kat_no ?_
  .rw[if_pos (by simpa using e)]at q;exact CI (i+1) h j q
  .rw[if_neg (by simpa using e)]at q;cases b&&i==0 with
   |true=>exact oneLt_int q
   |false=>exact W.kat_one _ _ (lt_int q)
theorem CJ:∀{vs},(∀v∈vs,jv h v)->∃fs,W.KatTups h vs fs/\fs.length=vs.length/\∀f∈fs,∃n t,f=Value.int n t
 |[],_=>⟨[],.nil,rfl,fun _ h=>by cases h⟩
 |v::vs,d=>by
  obtain⟨fs,g,i,j⟩:=CJ (vs:=vs) fun u k=>d u (bG _ k);obtain⟨a,b,ns,rfl,⟨o,p,q,n,x⟩,e,y⟩:=d v q0g;obtain⟨m,t,r,z⟩:∃m t r,b.toList=Value.int m t::r:=by
   generalize b.toList=l at e;cases e with
   |nil=>exact absurd rfl y
   |cons n t h=>exact⟨n,t,_,rfl⟩
  refine⟨.int m t::fs,.cons p q x (f:=.int m t) (by rw[cN,z];rfl) g,by simp[i],fun f c=>?_⟩;rcases q0d.mp c with rfl |c
  .exact⟨m,t,rfl⟩
  .exact j f c
theorem jv.mono(k:∀b o,h.get? b=some o->d.get? b=some o)(t:jv h v):jv d v:=
 let⟨a,c,ns,e,⟨o,f,g⟩,i,j⟩:=t;⟨a,c,ns,e,⟨o,k _ _ f,g⟩,i,j⟩
theorem kok_tups(hv:∀v∈vs,jv h0 v):mx prog w h0 vs (rkH h0) (tuples' true) where
 kind:=fun A E s Q kp h2 q=>by obtain⟨fs,h1,h3,h4⟩:=CJ (h:=s.heap) (vs:=vs) fun v hv'=>(hv v hv').mono kp;refine W.kat_kind (T:=.type "int") h1 (by lia) (fun f hf=>?_) (by decide) q;obtain⟨n,t,rfl⟩:=h4 f hf;exact .now
 lt:=fun A E s Q x y kp hx hy q=>by obtain⟨a,its,ns,rfl,⟨o,e1,e2,k,e3⟩,t2,t3,r1⟩:=(hv x hx).rnk;obtain⟨b,jts,ms,rfl,⟨o',e1',e2',k',e3'⟩,t2',t3',r2⟩:=(hv y hy).rnk;rw[r1,r2]at q;refine W.kat_lt (kp _ _ e1) e3 (kp _ _ e1') e3' ?_;have:=CI (prog:=prog) (w:=w) (A:=A) (s:=s) (b:=true) (Q:=Q) 0 t2 t2' q;simpa using this
theorem Rl{α β:Type}{f:α->β}{l m}(h:l.Perm m):∀{ts},m=ts.map f->∃a:List α,a.Perm ts/\a.map f=l:=by
 induction h with
 |nil=>
  intro ts e;cases ts with
  |nil=>exact⟨[],.nil,rfl⟩
  |cons _ _=>cases e
 |cons x _ i=>
  intro ts e;cases ts with
  |nil=>cases e
  |cons t ts=>simp only[q0c,q2E]at e;obtain⟨a,b,c⟩:=i e.2;exact⟨t::a,b.cons t,by rw[q0c,c,e.1]⟩
 |swap x y l=>
  intro ts e
  match ts,e with
  |[],e=>cases e
  |[_],e=>cases e
  |t::u::ts,e=>simp only[q0c,q2E]at e;exact⟨u::t::ts,.swap t u ts,by simp[e.1,e.2.1,e.2.2]⟩
 |trans _ _ d g=>intro ts e;obtain⟨o,b,c⟩:=g e;obtain⟨j,k,n⟩:=d c.symm;exact⟨j,k.trans b,n⟩
theorem Paired.zipAll:∀{a:List α}{b},Paired R a b->∀p∈a.zip b,R p.1 p.2:=by
 intro a b h
 induction h with
 |nil=>exact fun p h=>by cases h
 |cons r _ c=>
  intro p h;rw[q1B]at h;rcases q0d.mp h with rfl |h
  .exact r
  .exact c p h
theorem Paired.ofZip:∀{a:List (α×β)},(∀p∈a,R p.1 p.2)->Paired R (a.map (·.1)) (a.map (·.2))
 |[],_=>.nil
 |z::a,h=>.cons (h z q0g) (Paired.ofZip fun p b=>h p (bG _ b))
def RowV(K:Frag)(H:Hp):Bool->V->List Int->Prop
 |false,v,r=>∃i,v=.int i/\r=[i]
 |true,v,r=>∃a,v=.ref a/\dg K H a (r.map V.int)/\r≠[]
def rSortedP(P:Nat->Prop)(K:Frag):List V->Hp->VK->Prop:=fun d H Q=>∃p a rows b,P a.length/\d=[.ref p]/\dE K H p a/\Paired (RowV K H b) a rows/\
 ∀(l:Addr) (c:List (V×List Int)),H l=none->c.Perm (a.zip rows)->c.map (·.2)=sortR rows->Q (.ref l) (aI H l (.lst (c.map (·.1))))
theorem Rm(R:∀n,P n->RunsOk n):fR X (.builtin "sorted") (rSortedP P X.K):=by
 intro U s Y H xs us Q I r h;obtain⟨p,B,rows,b,hP,rfl,hq,hr,q⟩:=h;obtain⟨u,rfl,rx⟩:=vals1 r;cases rx;obtain⟨C,M,pl,hz⟩:=I.list hq;have D:=M.length;have key:∀(y:V) (v:Value) (row:List Int),aV y v->RowV X.K H b y row->rkH s.heap v=row/\(b=true->jv s.heap v)/\(b=false->∃n t,v=.int n t):=fun y v row rel Z=>by
  cases b with
  |false=>obtain⟨i,rfl,rfl⟩:=Z;obtain⟨t,rfl⟩:=rel;exact⟨rfl,(fun z=>by cases z),fun _=>⟨i,t,rfl⟩⟩
  |true=>
   obtain⟨a,rfl,sq,ne⟩:=Z;cases rel;obtain⟨E,rj,tj,_⟩:=I.tuple sq;have ia:IntsAre E row:=L3.ints_are rj;have T:jv s.heap (.ref a):=⟨a,E.toArray,row,rfl,tj,by simpa using ia,ne⟩
   obtain⟨a',a0,a1,L,⟨o,q1,q2,n,q3⟩,e3,e4,e5⟩:=T.rnk;refine⟨?_,fun _=>T,fun z=>by cases z⟩;obtain⟨o',G,p2,n',p3⟩:=tj;unfold rkH;simp only[G,p3];exact ia.nums
 have all:∀{B:List V}{vs:List Value}{rows:List (List Int)},bp B vs->Paired (RowV X.K H b) B rows->vs.map (rkH s.heap)=rows/\∀v∈vs,(b=true->jv s.heap v)/\(b=false->∃n t,v=.int n t):=by
  intro B vs rows h1
  induction h1 generalizing rows with
  |nil=>intro N;cases N;exact⟨rfl,fun _ h=>by cases h⟩
  |cons a _ ih=>
   intro N;cases N with
   |cons c d=>
    obtain⟨L,e2⟩:=ih d;have k:=key _ _ _ a c;refine⟨by rw[q0c,L,k.1],fun v m=>?_⟩;rcases q0d.mp m with rfl |m
    .exact k.2
    .exact e2 v m
 obtain⟨J,j⟩:=all M hr;have x:∃κ,mx X.prog X.w s.heap C (rkH s.heap) κ:=by
  cases b with
  |false=>exact⟨_,kok_ints fun v m=>(j v m).2 rfl⟩
  |true=>exact⟨_,kok_tups fun v m=>(j v m).1 rfl⟩
 obtain⟨κ,x⟩:=x;refine Rk (rk:=rkH s.heap) pl.isList (by lia) (R _ (by rw[<-D];exact hP)) x fun A h' n G p2 kp e=>?_;obtain⟨g,t1,t2⟩:=Rl (f:=fun t:V×Value=>t.2) G (ts:=B.zip C) (by rw[List.map_snd_zip (by lia)]);have rel:∀t∈g,aV t.1 t.2:=fun t ht=>Paired.zipAll M t (t1.mem_iff.mp ht);have l:bp (g.map (·.1)) A:=by
  have:=Paired.ofZip (R:=aV) rel
  rwa [t2]at this
 have lz:(g.map (·.1)).length<=sizeLine:=by rw[l.length,G.length_eq];lia
 have O:(g.map fun t=>(t.1,rkH s.heap t.2)).Perm (B.zip rows):=by
  have:=t1.map fun t:V×Value=>(t.1,rkH s.heap t.2)
  refine this.trans (.of_eq ?_);rw[<-J,List.zip_map_right];rfl
 have S:(g.map fun t=>(t.1,rkH s.heap t.2)).map (·.2)=sortR rows:=by
  have L:(g.map fun t=>(t.1,rkH s.heap t.2)).map (·.2)=A.map (rkH s.heap):=by rw[<-t2];simp
  rw[L];refine sortR_of ?_ ?_
  .rw[<-J];exact G.map _
  .rw[q1c];exact p2
 have fin:=q (s.heap.objs.size+1) _ (I.hok.fresh (q1t _)) O S;have e3:(g.map fun t=>(t.1,rkH s.heap t.2)).map (·.1)=g.map (·.1):=by simp
 rw[e3]at fin;exact⟨.ref (s.heap.objs.size+1),_,I.laid (t':=s.toks) kp (q1t _) (show cw X.prog X.w _ h' _ (.lst (g.map (·.1))) from⟨lz,A,n,l,e⟩),rfl,fin⟩
abbrev Rp:=rSortedP fun _=>True
theorem call_sorted:fR X (.builtin "sorted") (Rp X.K):=Rm fun n _=>Rj n
end L2.TS
namespace L2.L3
open PySem PySem.Spec PyProof.Rows
noncomputable def jw(c:List Int):List Int:=c.mergeSort fun a b=>decide (a<=b)
def my(a:List PyData):Option (List PyData):=match gf a with
 |some ns=>some ((jw ns).map PyData.int)
 |none=>(match jt a with
  |some rows=>if rows.all (fun r=>!r.isEmpty)=true then some ((TS.sortR rows).map fun r=>.tuple (r.map PyData.int)) else none
  |none=>none)
def xI:List PyData->Option PyData:=fun a=>match a with
 |[.list ds]=>(my ds).map PyData.list
 |_=>none
theorem Rq(d):(TS.sortR (d.map fun n=>[n])).map (fun r=>r.headD 0)=jw d:=by
 have p:=(TS.sortR_perm (d.map fun n=>[n])).map (fun r=>r.headD 0);have e:(d.map fun n=>[n]).map (fun r=>r.headD 0)=d:=by rw[q1z];exact(q1g fun n _=>rfl).trans (List.map_id d)
 rw[e]at p;refine q1x (le:=fun a b=>decide (a<=b)=true) (fun a b _ _ f g=>by simp at f g;lia) ?_ (q1f (fun a b c f g=>by simp at *;lia) (fun a b=>by simp;lia) d) (p.trans (q1u _ _).symm);rw[q1c];have q:(TS.sortR (d.map fun n=>[n])).Pairwise (fun x y=>TS.lexLe x y=true):=q1f TS.lexLe_tr TS.lexLe_tt _;refine q1y (fun {x y} i j h=>?_) q;obtain⟨a,_,rfl⟩:=q0R.mp ((TS.sortR_perm _).mem_iff.mp i);obtain⟨b,_,rfl⟩:=q0R.mp ((TS.sortR_perm _).mem_iff.mp j);refine decide_eq_true (show a<=b from ?_);unfold TS.lexLe at h;rw[HT.lexLt_cons]at h
 by_cases e:b=a
 .exact Int.le_of_eq e.symm
 .rw[if_neg e]at h
  by_cases k:b<a
  .simp[k]at h
  .omega
theorem Rr:∀{c}{rows:List (List Int)},aO G c (rows.map mk)->Paired (fun y r=>DV G y (mk r)) c rows:=by
 intro c rows
 induction rows generalizing c with
 |nil=>intro h;cases h;exact .nil
 |cons r rows d=>intro h;cases h with
  |cons a b=>exact .cons a (d b)
theorem Rs:∀{b}{rows:List (List Int)},Paired (fun y r=>DV G y (mk r)) b rows->aO G b (rows.map mk):=by
 intro b rows h
 induction h with
 |nil=>exact .nil
 |cons a _ c=>exact .cons a c
end L2.L3
namespace L2
open PySem PySem.Spec PyProof.Rows
open AutoSeq1 (wpAny_loadPart')
theorem Rt(l a n e)(o) :
  Meets (Builtin.«enumerate.__new__» ⟨[.type "enumerate",.ref l],[]⟩) (fun _ R s=>s.heap.get? l=some { cls:=.type "tuple",dict:=e,data:=.seq a n,slots:=o }/\
   R (.ok (.ret (.ref (s.heap.push { cls:=.type "tuple_iterator",data:=.fields #[.ref l,.int 0 0] }).objs.size)))
    { s with heap:=(s.heap.push { cls:=.type "tuple_iterator",data:=.fields #[.ref l,.int 0 0] }).push { cls:=.type "enumerate",data:=.fields #[.none,.bool false,.ref s.heap.objs.size,rawInt 0,.none,.none] } }):=
 .of_wp fun j w A R s h=>by
  obtain⟨k,g,d,m,os⟩:=s;obtain⟨b,h⟩:=h;have i:=sub_enumerate;have f:Heap.IsTuple (Shared.heap ⟨k,g,d,m,os⟩) l a:=⟨_,b,rfl,n,rfl⟩
  wp_walk using wpAny_loadPart' b
  refine wpAny_stack_any fun st=>bz ?_;split
  .rename_i c _ _ _ _ _;cases(c==Value.type "enumerate")
   .wp_walk using wpAny_loadPart' b,wpAny_pyIter_tuple f
    exact⟨_,rfl,h⟩
   .wp_walk using wpAny_loadPart' b,wpAny_pyIter_tuple f
    exact⟨_,rfl,h⟩
  .wp_walk using wpAny_loadPart' b,wpAny_pyIter_tuple f
   exact⟨_,rfl,h⟩
theorem Ru{s:Shared}(q:s.heap.IsTuple l a)
  (h:∀f,IsEnum f (s.heap.objs.size+1) s.heap.objs.size 0 .none->f.IsTupleIter s.heap.objs.size l 0->(∀b o,s.heap.get? b=some o->f.get? b=some o)->Q (.ref (s.heap.objs.size+1)) { s with heap:=f }) :
  wpAny (model d w) A (call (.type "enumerate") [.ref l]) Q E s:=by
 obtain⟨⟨c,i,r,sl⟩,t,j,n,hd⟩:=q
 replace j:c=.type "tuple":=j
 replace hd:r=.seq a n:=hd
 subst j hd;refine callType_new F.called_enumerate (by decide) (F.typeCall_enumerate_1 _) (F.newCall_enumerate_1 _) (fun obj=>F.args_object_init_2 obj _) F.entry_enumerate_new
  (Rt l a n i sl) ⟨t,?_⟩
 generalize k:s.heap.push { cls:=.type "tuple_iterator",data:=.fields #[.ref l,.int 0 0] }=g;have m:g.objs.size=s.heap.objs.size+1:=by rw[<-k];exact Heap.size_push ..
 have u:g.get? s.heap.objs.size=some { cls:=.type "tuple_iterator",data:=.fields #[.ref l,.int 0 0] }:=by rw[<-k];exact Heap.get?_push_size _ rfl
 have v:∀b o,s.heap.get? b=some o->g.get? b=some o:=fun b o e=>by rw[<-k];exact bD _ e
 show _/\_;rw[m];have p:IsEnum (g.push { cls:=.type "enumerate",data:=.fields #[.none,.bool false,.ref s.heap.objs.size,rawInt 0,.none,.none] }) (s.heap.objs.size+1) s.heap.objs.size 0 .none:=by have:=Heap.get?_push_size g (o:={ cls:=.type "enumerate",data:=.fields #[.none,.bool false,.ref s.heap.objs.size,rawInt 0,.none,.none] }) rfl;rw[m]at this;exact this
 exact⟨⟨_,p,rfl⟩,h _ p ⟨_,bD _ u,rfl,rfl⟩ fun b o x=>bD _ (v b o x)⟩
def CL(K:Frag)(a:Addr):It:=
 ⟨fun i H=>∃b x,dg K H a b/\b[i]? = some x,fun i H v c=>∃T x,v=.ref T/\H T=none/\c = aI H T (.tup [.int i,x])/\∀b,dg K H a b->b[i]? = some x,fun i H=>∃b,dg K H a b/\b.length=i⟩
theorem Rv{K}(a e it)(hne:e≠it):gK P w K (.Tuple elts kk tpos) (CL K a) [e,it] e (fun i h=>(∃old,IsEnum h e it i old)/\h.IsTupleIter it a i) where
 mem:=by simp
 obj:=fun i h st b hb=>by
  obtain⟨⟨old,he⟩,o,e1,c,d⟩:=st;rcases q0d.mp hb with rfl |hb
  .exact⟨_,he,fun v z=>by cases z⟩
  .obtain rfl:=q0k.mp hb;exact⟨o,e1,fun v z=>by rw[d]at z;cases z⟩
 keep:=fun i h h' st k=>⟨st.1.elim fun old he=>⟨old,k e (by simp) _ he⟩,(let⟨o,e',r⟩:=st.2;⟨o,k it (by simp) o e',r⟩)⟩
 item:=by
  intro X hP hw hK hc i pins s Y H E I hf st hg;subst hP hw hK;obtain⟨⟨old,he⟩,hit⟩:=st;obtain⟨xs,x,hq,hx⟩:=hg;obtain⟨its,rv,p,hz⟩:=I.tuple hq;obtain⟨u,hu,ru⟩:=rv.get hx;have hh:X.A.in1.handled=none:=I.ok.hd hc;have hae:a≠e:=fun q=>by obtain⟨o,e1,e2,_⟩:=p;rw[q]at e1;rw[he]at e1;cases e1;exact absurd (show Value.type "enumerate" = Value.type "tuple" from e2) (by decide)
  have hai:a≠it:=fun q=>by obtain⟨o,e1,e2,_⟩:=p;obtain⟨o',e1',c',_⟩:=hit;rw[q]at e1;rw[e1']at e1;cases e1;rw[c']at e2;exact absurd e2 (by decide)
  refine wpAny_pyNext_enum_itemD (Cb hh it a hai its.toArray) he ⟨hit,p⟩ (by simpa using(q0a.mp hu).1) hne (by simp only[q0d,q1j,or_false,not_or];exact⟨hne,Ne.symm hae⟩) fun x' h' tk ex ho hi' hT hsz hk=>⟨_,rfl,?_⟩
  obtain rfl:x' = u:=by have:its.toArray[i]? = some x':=ex;rw[q2B,hu]at this;exact(q0n this).symm
  refine wpAny_letOwnedTupleGo_enum (s:={ s with heap:=h',toks:=tk+1 }) ho fun h2 he2 hs2=>?_;have hel:s.heap.objs.size≠e:=Nat.ne_of_gt (bE he);have k2:∀b ob,b∉[e,it]->s.heap.get? b=some ob->h2.get? b=some ob:=fun b ob hb q=>by simp only[q0d,q1j,or_false,not_or]at hb;exact(hs2.2 b hb.1).trans (hk b ob hb.1 hb.2 q)
  have it2:h2.IsTupleIter it a (i+1):=let⟨o,e1,r⟩:=hi'.1;⟨o,(hs2.2 it (Ne.symm hne)).trans e1,r⟩;have I1:Inv X pins Y (aI H s.heap.objs.size (.tup [.int i,x])) { s with heap:=h2,toks:=tk+1 }:=by
   refine I.turnedNew (ch:=[e,it]) hf k2 (be _) (fun b hb ob q=>?_) ?_
   .rcases q0d.mp hb with rfl |hb
    .exact⟨_,he2⟩
    .obtain rfl:=q0k.mp hb;obtain⟨o,e1,_⟩:=it2;exact⟨o,e1⟩
   .exact⟨by show 2<=sizeLine;decide,[.int i tk,x'],.cons ⟨_,rfl⟩ (.cons ru .nil),⟨_,(hs2.2 _ hel).trans hT,rfl,_,rfl⟩⟩
  refine⟨.ref s.heap.objs.size,_,I1,rfl,⟨_,x,rfl,I.hok.fresh (be _),rfl,fun ys hy=>by rw[I.tuple_inj hy hq];exact hx⟩,⟨⟨_,by simpa using he2⟩,it2⟩,fun b hb=>?_⟩;have hb':b<s.heap.objs.size:=by
   rcases q0d.mp hb with rfl |hb
   .exact bE he
   .obtain rfl:=q0k.mp hb;obtain⟨o,e1,_⟩:=hit;exact bE e1
  rw[bn (q0v hb')];exact(hf b hb).1
 done:=by
  intro X hP hw hK hc i pins s Y H E I hf st hg;subst hP hw hK;obtain⟨⟨old,he⟩,hit⟩:=st;obtain⟨xs,hq,rfl⟩:=hg;obtain⟨its,rv,p,hz⟩:=I.tuple hq;obtain⟨f0,f1,f2,f3,f4,f5⟩:=hf it (by simp);have hh:X.A.in1.handled=none:=I.ok.hd hc;have hai:a≠it:=fun q=>by obtain⟨o,e1,e2,_⟩:=p;obtain⟨o',e1',c',_⟩:=hit;rw[q]at e1;rw[e1']at e1;cases e1;rw[c']at e2;exact absurd e2 (by decide)
  refine wpAny_pyNext_enum_endD (Cb hh it a hai its.toArray) he ⟨?_,p⟩ fun h' eb=>⟨rfl,I.turned (t':=s.toks) (fun b o hb e=>eb b o hb e) f0 f1 f3 f4 f5⟩
  have:its.toArray.size=xs.length:=by rw[q0p,rv.length]
  rw[this];exact hit
 self:=fun _ _ _ _ _ st h=>st.1.elim fun _ he=>wpAny_pyIter_enum he h
def Rw(K:Frag)(c:TA):TI:=fun Y H R=>c Y H fun vs b=>∃a d,vs=[.ref a]/\dg K b a d/\R (CL K a) b
theorem Rx(m:Gl X "enumerate")(n:X.mg "enumerate" = none)(o:PA X [a] j)(r:autoParam (starEach [a] X.env=[(false,eval a X.env)]) Zq._auto_1):PI X (.Tuple elts kk tpos) (.Call (.Name "enumerate" p) [a] [] pos) (Rw X.K j):=by
 intro d s Y H R I h;refine Call_ (kt I m n (show bootBuiltins "enumerate" = some (.type "enumerate") by decide +kernel) (PyProof.Rows.callWith_type1 (aL (o pos d s Y H _ I h) fun C c e=>?_) r rfl));obtain⟨vs,t,g,v,w⟩:=e;obtain⟨l,D,rfl,x,q⟩:=w;obtain⟨u,rfl,ru⟩:=vals1 v;cases ru;obtain⟨y,E,p,G⟩:=g.tuple x;refine Ru p fun z k A B=>?_;refine wpAny_pyIter_enum (s:={ c with heap:=z }) k ?_;refine⟨c.heap.objs.size+1,[c.heap.objs.size+1,c.heap.objs.size],_,_,t,rfl,g.kept (t':=c.toks) B,Rv l _ _ (Nat.succ_ne_self _),⟨⟨_,k⟩,A⟩,fun b i=>?_,q⟩;have f:c.heap.objs.size<=b:=by
  rcases q0d.mp i with rfl |i
  .exact q1t _
  .obtain rfl:=q0k.mp i;exact be _
 exact g.fpOk f (g.hok.fresh f)
end L2
namespace L2.L3
open PySem PySem.Spec PyProof.Rows
def CN(t:dI):dJ:=fun U Q=>t U fun d c=>∃b,d=[.tuple b]/\Q (numbered b) c
theorem Ry(J:Gl X "enumerate")(L:X.mg "enumerate" = none)(w:DA X F [a] tA)(M:autoParam (starEach [a] X.env=[(false,eval a X.env)]) Zq._auto_1):DI X F (.Tuple b I c) (.Call (.Name "enumerate" p) [a] [] pos) (CN tA):=
 ⟨fun _ _ _ k q=>w.mn _ _ _ (fun _ _ f=>by obtain⟨j,e,q⟩:=f;exact⟨j,e,k _ _ q⟩) q,(Rx J L w.pa M).imp fun Y H R g=>by obtain⟨U,O,st,q⟩:=g;exact 
  ⟨U,O,st,w.mn _ _ _ (fun ds U1 h vs N Q z S Z=>by
   obtain⟨es,e,A⟩:=h;subst e;cases Z with
   |cons d r=>
    cases r;obtain⟨a,l,rfl,hx,hd⟩:=d.tup_inv;obtain⟨m,n⟩:=gM hx;refine⟨a,l,rfl,.inl m,A _ N Q z S fun O' H' s ok=>?_⟩;have B:Rd H' a (.tup l):=m.imp (fun e=>s.keep a _ n e) fun t=>by obtain⟨o,e⟩:=t;exact⟨o,s.keep a _ n e⟩
    have C:=aO.mono s.hid hd;refine⟨fun i d e=>?_,⟨l,.inl B,by unfold numbered;rw[List.length_mapIdx,hd.length]⟩⟩;unfold numbered at e;rw[List.getElem?_mapIdx]at e;obtain⟨d0,e1,e2⟩:=q0i.mp e;subst e2;obtain⟨v,G,dv⟩:=C.get e1;refine⟨⟨l,v,.inl B,G⟩,fun x a0 u=>?_⟩;obtain⟨T,y,A,D,q3,q4⟩:=u;subst A q3;have:=q4 l (.inl B);rw[G]at this;cases this;exact⟨bR D,nk D (ok.nofree T D) (.cons (.int _) (.cons dv .nil))⟩) q⟩⟩
@[simp] def xJ:List PyData->Option (List PyData):=fun b=>match b with
 |[.tuple ds]=>some (numbered ds)
 |_=>none
theorem Rz(h:DI X F c e (CN (wp E d))):FI X F E c e (eQ xJ d):=h.imp az fun U Q q=>az _ _ _ (fun j i f=>by
 obtain⟨y,b,g⟩:=cJ f;unfold xJ at b;split at b
 .cases b;exact⟨_,rfl,g⟩
 .cases b) (bu q)
noncomputable def gj(U:ai)(i:Nat):Option (Bool×eg):=match U[i]? with
 |some (some (.own _ (.m b a)))=>some (b,a)
 |some (some (.vw (.m b a)))=>some (b,a)
 |_=>none
theorem aC.dic{K}(st:aC K F H Y U O)(e:gj U i=some (d,b)):∃a,Y[i]? = some (some (.ref a))/\ij (al O H) H a d b:=by
 unfold gj at e;split at e
 .rename_i h;cases e;obtain⟨a,g,c,⟨_,hd⟩,_,_⟩:=st.box h;exact⟨a,c,hd⟩
 .rename_i h;cases e;obtain⟨a,g,c,⟨_,hd⟩⟩:=st.view h;refine⟨a,c,hd.keep ?_ fun _ _ z=>z⟩;obtain⟨o,f,_⟩:=hd.live;rw[f,(dH f).1]
 .cases e
def xK(i:Nat)(d:PyData):XM PyData:=fun U=>lift (match gj U i with
 |some (g,f)=>(gC g d).bind fun k=>dm g f k
 |none=>none) U
def ql(i:Nat)(m:XM PyData):XM PyData:=fun U=>match gj U i with
 |some _=>(m U).bind (xK i)
 |none=>.bad
theorem CO(I:X.A.units+1<cLine)(J:PE X (.Name x D) (bQ i))(L:FE X F E e m)(M:oU e:=by intro _ _;rfl):FE X F E (.Subscript (.Name x D) e pos) (ql i m):=
 ⟨az,(zX I J L.pe M).imp fun Y H Q h=>by
  obtain⟨U,O,st,q⟩:=h;unfold wp ql at q;cases z:gj U i with
  |none=>rw[z]at q;exact q.elim
  |some p=>
   rw[z]at q;obtain⟨B,j⟩:=p;obtain⟨a0,l,_⟩:=st.dic z;refine⟨_,l,U,O,st,az _ _ _ (fun d C N w R S n T Z=>?_) (bu (m:=m) (k:=xK i) q)⟩;obtain⟨y,t,q2⟩:=cJ (o:=match gj C i with |some (B,j)=>(gC B d).bind fun k=>dm B j k |none=>none) (U:=C) (E:=E) N;cases f:gj C i with
   |none=>rw[f]at t;cases t
   |some p=>
    obtain⟨a1,G⟩:=p;rw[f]at t;obtain⟨k,e2,u⟩:=q0X.mp t;obtain⟨a,s,hd⟩:=n.dic f;rw[l]at s;cases s;obtain⟨o,g,r⟩:=wP hd kw Z e2;rcases r with⟨rfl,e⟩ |⟨v,x,rfl,e,hx⟩
    .rw[e]at u;cases u
    .rw[e]at u;cases u;exact⟨a0,v,rfl,g,q2 v R S n T hx⟩⟩
theorem RA(N:cn X (compareOp op) (hZ fun i j=>.bl (p i j)))(f:cn X (compareOp d) (hZ fun i j=>.bl (r i j)))(s:DE X F a J)(I:DE X F b L)(t:DE X F c M)
  (R:lastMarks [op,d] [b,c]=false:=by with_unfolding_all rfl):DB X F (.Compare a [op,d] [b,c] pos) (fY (ph p r J L M)):=by
 have he:=Am (pos:=pos) N f s I t R;refine⟨vY he.mn,(Kn N f s.pe I.pe t.pe R).imp fun Y H Q g=>?_⟩;obtain⟨U,O,st,q⟩:=g;refine⟨U,O,st,s.mn _ _ _ (fun x U1 q1 v H1 O1 A S d1=>⟨U1,O1,A,I.mn _ _ _ (fun y U2 k w H2 T m B Z=>?_) q1⟩) q⟩;obtain⟨i,j,e1,e2,o⟩:=k;subst e1 e2;refine⟨i,j,(DV.mono B.hid d1).int_inv,Z.int_inv,p i j,rfl,?_⟩
 by_cases h:p i j=true
 .rw[if_pos h]at o ⊢;exact⟨U2,T,m,t.mn _ _ _ (fun z U3 n u H3 O3 C s3 d3=>by obtain⟨l,e,b',D,G⟩:=n;subst e;exact⟨j,l,(DV.mono s3.hid Z).int_inv,d3.int_inv,r j l,rfl,by cases D;exact G H3 O3 C (S.trans (B.trans s3))⟩) o⟩
 .rw[if_neg h]at o ⊢;obtain⟨b',D,G⟩:=o;cases D;exact⟨false,rfl,G H2 T m (S.trans B)⟩
theorem RB(q:wp E (ny p h ma mb mc) U Q):ph p h (wp E ma) (wp E mb) (wp E mc) U Q:=by
 refine az _ _ _ (fun x s n=>?_) (bu q);refine az _ _ _ (fun y t f=>?_) (bu n);unfold wp at f;cases x with
 |int i=>cases y with
  |int j=>
   refine⟨i,j,rfl,rfl,?_⟩
   by_cases g:p i j=true
   .simp only[if_pos g]at f;rw[if_pos g];refine az _ _ _ (fun z u o=>?_) (bu (m:=mc) (k:=fun z=>lift (match z with |.int k=>some (PyData.bool (h j k)) |_=>none)) f);obtain⟨d,l,r⟩:=cJ o;cases z with
    |int k=>cases l;exact⟨k,rfl,r⟩
    |_=>cases l
   .simp only[if_neg g]at f;rw[if_neg g];exact f
  |_=>exact f.elim
 |_=>exact f.elim
theorem RC(d:FE X F E a ma)(h:FE X F E b mb)(f:FE X F E c mc)(g:lastMarks [.LtE,.Lt] [b,c]=false:=by with_unfolding_all rfl):FB X F E (.Compare a [.LtE,.Lt] [b,c] pos) (aQ (ny (fun i j=>decide (i<=j)) (fun i j=>decide (i<j)) ma mb mc)):=
 (RA oK vv d h f g).imp az fun U Q q=>RB (wu q)
end L2.L3
namespace L2.TS
open PySem PyProof.Rows PySem.W
theorem sorted_src(K:KdlSrc prog w T r d n P OK)(G:A.handled=none)(B:OK s.heap)(C:n<=sizeLine)(R:RunsOk n)
  (h:∀i  p  vs,(∀b o,s.heap.get? b=some o->i.get? b=some o)->vs.length=n->(∀j  v,vs[j]? = some v->P j v)->∃l κ,mx prog w i vs l κ/\
   ∀(c:List Value)  t  m,c.Perm vs->c.Pairwise (fun x y=>lexLe (l x) (l y)=true)->(∀b o,i.get? b=some o->t.get? b=some o)->t.get? i.objs.size=some (seqObj "list" c.toArray m)->Q (.ref i.objs.size) { s with heap:=t,toks:=p }) :
  wpAny (model prog w) A (call (.builtin "sorted") [.ref r]) Q E s:=by
 refine Calls.call_function_entry kind_sorted plain_sorted entry_sorted (args_sorted1 _) ?_;unfold Builtin.«sorted»;refine aH (m:=checkCount "sorted" 1 1 _) (bz ?_);refine aH (kdu_collect (A:=A.in1) K G B C fun g p a H f=>?_);have u:a.toList.length=n:=by rw[q0E];exact f.1
 have D:a.toList.length<=sizeLine:=by rw[u];exact C
 obtain⟨l,κ,k,fin⟩:=h g p a.toList H u fun j v e=>f.2 j v (by rw[<-Array.getElem?_toList];exact e);refine aH (wpAny_newList ?_ D);have gH:(g.push (seqObj "list" a.toList.toArray 0)).get? g.objs.size=some (seqObj "list" a.toList.toArray 0):=Heap.get?_push_size _ rfl;have hb:∀b o,g.get? b=some o->b≠g.objs.size/\(g.push (seqObj "list" a.toList.toArray 0)).get? b=some o:=fun b o e=>⟨q0v (bE e),bD _ e⟩
 refine aH (wpAny_holding (wpAny_call_entry slot_list_sort ⟨_,gH,rfl⟩ entry_list_sort (xH gH D (by rw[u];exact R) k hb fun c I J=>⟨_,rfl,?_⟩) (args_list_sort _)));refine bz ⟨_,rfl,?_⟩;obtain⟨z,kf⟩:∃z,((g.push (seqObj "list" a.toList.toArray 0)).update g.objs.size (Obj.mapSeq fun _=>#[])).get? g.objs.size=some (seqObj "list" #[] z):=⟨_,get?_update_seq gH fun _=>#[]⟩
 have oz:((((g.push (seqObj "list" a.toList.toArray 0)).update g.objs.size (Obj.mapSeq fun _=>#[])).push (seqObj "tuple" a.toList.toArray 0)).push (seqObj "list" #[] 0)).get? g.objs.size=some (seqObj "list" #[] z):=bD _ (bD _ kf);refine fin c _ _ I J (fun b o e=>?_) (get?_update_seq oz fun _=>c.toArray);have q:=hb b o e;unfold sortedHeap;rw[Heap.get?_update_ne _ _ _ _ q.1];refine bD _ (bD _ ?_);rw[Heap.get?_update_ne _ _ _ _ q.1];exact q.2
end L2.TS
namespace L2.L3
open PySem PySem.Spec PyProof.Rows PySem.W
theorem CP:∀{a vs},KV a vs->∀{j:Nat}{k:κ}{y},vs[j]? = some (k,y)->∃v,a[j]? = some (k,v)
 |_,_,.nil,_,_,_,e=>by simp at e
 |_,_,.cons h t,0,k,y,e=>by simp at e;subst e;obtain⟨b,_⟩:=h;exact⟨_,by simp;exact Prod.ext b rfl⟩
 |_,_,.cons h t,j+1,k,y,e=>by obtain⟨v,c⟩:=CP t (j:=j) (by simpa using e);exact⟨v,by simpa using c⟩
def RD(P:Nat->Prop):List V->Hp->VK->Prop:=fun c H Q=>∃p a b,P b.length/\c=[.ref p]/\H p=some (.dK a)/\a.map (·.1)=b.map Sum.inl/\∀l,H l=none->Q (.ref l) (aI H l (.lst ((jw b).map V.int)))
theorem RE(R:∀n,P n->TS.RunsOk n)(hc:X.calm=true):fR X (.builtin "sorted") (RD P):=by
 intro C s Y H xs us Q I r h;obtain⟨p,kvs,ns,L,rfl,hq,hk,q⟩:=h;obtain⟨u,rfl,rx⟩:=vals1 r;cases rx;obtain⟨hz,lo,vs,kv,hD⟩:=vH I.hok hq;obtain⟨ep,M⟩:=hD.dictAt;have hl:=Paired.length kv;have N:ns.length=kvs.length:=by have:=congrArg List.length hk;simpa using this.symm
 refine TS.sorted_src (kdl_dict (knd:=fk X.prog X.w) (kvs:=vs) (ep:=ep) lo) (I.ok.hd hc) M (by lia) (by rw[<-hl,<-N];exact R _ L) fun A O d kp a1 hP=>?_;have f:∀(j:Nat) (v:Value),d[j]? = some v->∃n t,ns[j]? = some n/\v=.int n t:=fun j v e=>by
  obtain⟨k,y,B,h3⟩:=hP j v e;obtain⟨v',T⟩:=CP kv B;have e1:(kvs.map (·.1))[j]? = some k:=by rw[q0s,T];rfl
  rw[hk,q0s]at e1;obtain⟨n,U,D⟩:=q0i.mp e1;subst D;rcases iI (show ko (.inl n) v=true from h3) with⟨n',t,e3,rfl⟩ |⟨z,t,e3,rfl⟩
  .cases e3;exact⟨n,t,U,rfl⟩
  .cases e3
 have nums:d.map numOf=ns:=by
  apply q0U;intro j;rw[q0s];cases e:d[j]? with
  |none=>have:d.length<=j:=q1Z.mp e;rw[q2F (by lia)];rfl
  |some v=>obtain⟨n,t,U,rfl⟩:=f j v e;rw[U];rfl
 have G:∀v∈d,∃n t,v=.int n t:=fun v G=>by obtain⟨j,hj⟩:=q0J G;obtain⟨n,t,_,rfl⟩:=f j v hj;exact⟨n,t,rfl⟩
 refine⟨_,_,TS.kok_ints (h0:=A) G,fun g B m p1 p2 a0 D=>?_⟩;have o:∀v∈g,∃n t,v=.int n t:=fun v h=>G v (p1.mem_iff.mp h);have so:g.map numOf=jw ns:=by
  refine q1x (le:=fun a b=>decide (a<=b)=true) (fun a b _ _ A B=>by simp at A B;lia) ?_ (q1f (fun a b c A B=>by simp at *;lia) (fun a b=>by simp;lia) ns) (((p1.map numOf).trans (.of_eq nums)).trans (q1u _ _).symm);rw[q1c];refine q1y (fun {x y} hx hy h=>?_) p2;obtain⟨a,t,rfl⟩:=o x hx;obtain⟨b,u,rfl⟩:=o y hy;refine decide_eq_true (show a<=b from ?_);have J:TS.lexLe [a] [b]=true:=h;unfold TS.lexLe at J;rw[HT.lexLt_cons]at J
  by_cases e:b=a
  .exact Int.le_of_eq e.symm
  .rw[if_neg e]at J
   by_cases D:b<a
   .simp[D]at J
   .omega
 have rel:bp ((jw ns).map V.int) g:=by
  rw[<-so];have:∀l:List Value,(∀v∈l,∃n t,v=Value.int n t)->bp ((l.map numOf).map V.int) l:=fun l=>by
   induction l with
   |nil=>intro _;exact .nil
   |cons v l ih=>intro h;obtain⟨n,t,rfl⟩:=h v q0g;exact .cons ⟨t,rfl⟩ (ih fun u hu=>h u (bG _ hu))
  exact this g o
 have I1:Inv X C Y H { s with heap:=A,toks:=O }:=I.kept (t':=O) kp;have lz:((jw ns).map V.int).length<=sizeLine:=by rw[rel.length,p1.length_eq];lia
 exact⟨.ref A.objs.size,_,I1.laid (t':=O) a0 (be _) (show cw X.prog X.w _ B _ (.lst ((jw ns).map V.int)) from⟨lz,g,m,rel,D⟩),rfl,q _ (I1.hok.fresh (be _))⟩
theorem CQ:∀{g}{b:eg}{G}{c},Paired (fun(p:aR×V) (q:PyData×PyData)=>gv p.1=q.1/\DV G p.2 q.2) g b->gf (b.map (·.1))=some c->g.map (·.1)=c.map Sum.inl
 |_,_,_,c,.nil,e=>by cases e;rfl
 |_,_,_,c,.cons (a:=p) h t,e=>by
  obtain⟨d,_⟩:=h;cases f:p.1 with
  |inl n=>rw[f]at d;rw[q0c,<-d]at e;obtain⟨m,j,k⟩:=q0i.mp (show(gf _).map (n::·)=some c from e);subst k;rw[q0c,f,CQ t j];rfl
  |inr z=>rw[f]at d;rw[q0c,<-d]at e;cases e
theorem CS{K}(st:aC K F H Y U O)(e:gj U i=some (false,b)):∃a c,Y[i]? = some (some (.ref a))/\H a=some (.dK c)/\Paired (fun(p:aR×V) (q:PyData×PyData)=>gv p.1=q.1/\DV (al O H) p.2 q.2) c b:=
 let⟨a,d,c,f,g⟩:=st.dic e;⟨a,c,d,f,g⟩
theorem xL:∀a:List Int,aO G (a.map V.int) (a.map PyData.int)
 |[]=>.nil
 |n::a=>.cons (.int n) (xL a)
def qm(i:Nat):XM PyData:=fun U=>lift (match gj U i with
 |some (false,a)=>(gf (a.map (·.1))).bind fun b=>if b.length<64 then some (.list ((jw b).map PyData.int)) else none
 |_=>none) U
theorem RF{F:Fx}{E:Str->ai->Prop}{pos:Pos}{p:Pos}(o:X.calm=true)(r:Gl X "sorted")(b:X.mg "sorted" = none)(s:PE X (.Name x p1) (bQ i))(m:autoParam (starEach [.Name x p1] X.env=(false,eval (.Name x p1) X.env)::starEach [] X.env) Zq._auto_1)(j:autoParam ((backTo pos (starEach [] X.env)).any (·.1)=false) Zq._auto_1) :
  FE X F E (.Call (.Name "sorted" p) [.Name x p1] [] pos) (qm i):=
 ⟨az,(nh (RE (P:=fun n=>n<64) (fun n h=>TS.runs_few h) o) r b (show bootBuiltins "sorted" = some (.builtin "sorted") by decide +kernel) (dO s eM m) (by decide) (by decide) m j).imp fun Y H Q d=>by
  obtain⟨U,O,st,q⟩:=d;obtain⟨y,c,t⟩:=cJ q;cases b:gj U i with
  |none=>rw[b]at c;cases c
  |some pr=>
   obtain⟨u,v⟩:=pr;cases u with
   |true=>rw[b]at c;cases c
   |false=>
    rw[b]at c;obtain⟨k,w,f⟩:=q0X.mp c;have e:k.length<64:=by
     by_cases q:k.length<64
     .exact q
     .rw[if_neg q]at f;cases f
    rw[if_pos e]at f;cases f;obtain⟨a,z,A,B,C⟩:=CS st b;exact⟨_,A,a,z,k,e,rfl,B,CQ C w,fun l g=>t _ _ O (st.grow (bR g)) (.same (bR g)) (kB g (st.nofree l g) (xL _))⟩⟩
end L2.L3
namespace L2.L3
open PySem PySem.Spec PyProof.Rows
noncomputable def gk(a:List Str):List PyData:=a.map PyData.str
def qo(K:Frag)(g:Addr)(b:List Str):Prop:=
 ∃(o:Obj) (a:Array Value) (n:Nat),K.lookup g=some o/\o.cls=.type "tuple"/\o.data=.seq a n/\a.size<=sizeLine/\bp (b.map V.str) a.toList
theorem qo.sq{K}(h:qo K g a)(H):dg K H g (a.map V.str):=.inr h
theorem RG{K}(h:qo K g ws):Wk O H (rB K g) (gk ws):=fun m c s ok=>by
 refine⟨fun i d e=>?_,⟨_,h.sq c,by simp[gk]⟩⟩;unfold gk at e;rw[q0s]at e;obtain⟨y,j,rfl⟩:=q0i.mp e;have f:(ws.map V.str)[i]? = some (.str y):=by rw[q0s,j];rfl
 refine⟨⟨_,_,h.sq c,f⟩,fun x b a=>?_⟩;obtain⟨k,l⟩:=a;subst k;have:=l _ (h.sq b);rw[f]at this;cases this;exact⟨fun _ _ h=>h,.str _⟩
@[simp]noncomputable def iC(a:List PyData):XM (List PyData):=fun U=>.ok a U
theorem RH(b:Gl X x)(c:X.mg x=some (.ref g))(h:qo X.K g ws)(hd:autoParam ((x==("__debug__":Str))=false) Zr._auto_1):FI X F E tg (.Name x pos) (iC (gk ws)):=
 ⟨az,(zl (oF (v:=.ref g) b c rfl hd)).imp fun Y H R a=>by obtain⟨U,O,st,q⟩:=a;exact⟨g,rfl,⟨_,h.sq H⟩,q _ H O st (.refl ..) (RG h)⟩⟩
def CT(X:Cx)(d:Addr)(b:List (Str×Int)):Prop:=(d==sysModules)=false/\∃(a:List (Str×Value)) (c:Nat),
 (∀h:Heap,X.K.In h->h.DictAt (strKind X.prog X.w) d a c)/\a.map (·.1)=b.map (·.1)/\∀k n,b.lookup k=some n->∃t,valueAt a k=some (.int n t)
noncomputable def nT(ws:List Str):It:=⟨fun i _=>i<ws.length,fun i H x a=>a = H/\∃k,ws[i]? = some k/\x=.str k,fun i _=>ws.length<=i⟩
theorem RI{K}(it)(hD:∀h,K.In h->h.DictAt (strKind P w) d kvs ep) :
  gK P w K tg (nT (kvs.map (·.1))) [it] it (fun i h=>h.IsKeyIter it d i kvs.length ep) where
 mem:=by simp
 obj:=fun i h st b hb=>by
  have e:b=it:=by simpa using hb
  subst e;obtain⟨o,e,c,dd⟩:=st;exact⟨o,e,fun v z=>by rw[dd]at z;cases z⟩
 keep:=fun i h h' st k=>by obtain⟨o,e,c,dd⟩:=st;exact⟨o,k it (by simp) o e,c,dd⟩
 item:=by
  intro X hP hw hK hc i pins s Y H E I hf st hg;subst hP hw hK;have hi:i<kvs.length:=by simpa[nT] using hg
  obtain⟨⟨k,x⟩,hx⟩:∃p,kvs[i]? = some p:=⟨kvs[i],by simp[hi]⟩
  obtain⟨f0,f1,f2,f3,f4,f5⟩:=hf it (by simp);refine wpAny_pyNext_dict_item st (hD _ I.kIn) hx fun key h' hkey hit' sb=>?_;obtain⟨t,rfl⟩:=Value.isStrOf_shape hkey;have I1:Inv X pins Y H { s with heap:=h' }:=I.turned (t':=s.toks) (fun b o hb e=>(sb.2 b hb).trans e) f0 f1 f3 f4 f5;obtain⟨o,e,c,dd⟩:=id hit';exact⟨_,rfl,rA (s:={ s with heap:=h' }) e c dd (by decide) ⟨.str k,H,I1,⟨t,rfl⟩,⟨rfl,k,by simp[hx],rfl⟩,hit',fun b hb=>(hf b hb).1⟩⟩
 done:=by
  intro X hP hw hK hc i pins s Y H E I hf st hg;subst hP hw hK;have hi:kvs.length<=i:=by simpa[nT] using hg
  obtain⟨f0,f1,f2,f3,f4,f5⟩:=hf it (by simp);exact wpAny_pyNext_dict_end (I.ok.hd hc) st (hD _ I.kIn) (by simp;lia) fun h' eb=>⟨rfl,I.turned (t':=s.toks) (fun b o hb e=>eb b o hb e) f0 f1 f3 f4 f5⟩
 self:=fun _ _ _ _ _ st h=>wpAny_pyIter_keyiter st h
theorem RJ:Wk O H (nT ws) (gk ws):=fun l m s ok=>by refine⟨fun i d e=>?_,by simp[nT,gk]⟩;unfold gk at e;rw[q0s]at e;obtain⟨y,a,rfl⟩:=q0i.mp e;refine⟨(q0a.mp a).1,fun x c ⟨f,k,b,j⟩=>?_⟩;subst f j;rw[a]at b;cases b;exact⟨fun _ _ h=>h,.str _⟩
theorem RK(n:(d==sysModules)=false)(p:Gl X x)(q:X.mg x=some (.ref d))(l:∀h,X.K.In h->h.DictAt (strKind X.prog X.w) d a m)(hd:autoParam ((x==("__debug__":Str))=false) Zr._auto_1) :
  PI X tg (.Name x pos) (fun _ H R=>R (nT (a.map (·.1))) H):=by
 intro c s Y H R I h;refine aL (oF (v:=.ref d) p q rfl hd c s Y H (fun v k=>v=.ref d/\k=H) I ⟨rfl,rfl⟩) fun v i f=>?_;obtain⟨y,k,j,r,t,u⟩:=f;subst t u;cases r;refine wpAny_pyIter_dict n (l _ j.kIn) ?_;refine⟨i.heap.objs.size,[i.heap.objs.size],_,_,k,rfl,j.kept (t':=i.toks) fun b o e=>bD _ e,RI _ l,⟨_,Heap.get?_push_size _ rfl,rfl,rfl⟩,fun b z=>?_,h⟩;have e:b=i.heap.objs.size:=by simpa using z
 subst e;exact j.fpOk (be _) (j.hok.fresh (be _))
theorem RL(b:Gl X x)(c:X.mg x=some (.ref d))(f:CT X d kd)(hd:autoParam ((x==("__debug__":Str))=false) Zr._auto_1):FI X F E tg (.Name x pos) (iC (gk (kd.map (·.1)))):=by obtain⟨h,i,l,j,k,_⟩:=f;refine⟨az,(RK h b c j hd).imp fun Y H R a=>?_⟩;obtain⟨U,O,st,q⟩:=a;rw[k];exact q _ H O st (.refl ..) RJ
noncomputable def xM(a:List (Str×Int)):PyData->Option PyData
 |.str k=>(a.lookup k).map PyData.int
 |_=>none
@[simp] def CU(a:List (Str×Int))(m:XM PyData):XM PyData:=fun U=>(m U).bind fun d=>lift (xM a d)
theorem RM{pos:Pos}{p1:Pos}(B:Gl X x)(C:X.mg x=some (.ref d))(D:CT X d kd)(G:FE X F E e m)(J:oU e:=by intro _ _;rfl)(hd:autoParam ((x==("__debug__":Str))=false) Zr._auto_1):FE X F E (.Subscript (.Name x p1) e pos) (CU kd m):=by
 obtain⟨L,M,ep,N,h2,R⟩:=D;refine⟨az,fun a s Y H Q I b=>?_⟩;obtain⟨U,O,st,q⟩:=b;refine zW PySem.F.slot_dict_getitem.lookup J (aL (oF (v:=.ref d) B C rfl hd a s Y H (fun v i=>v=.ref d/\i=H) I ⟨rfl,rfl⟩) fun u S c=>?_);obtain⟨y,i,T,Z,j,q2⟩:=c;subst j q2;cases Z;refine aL (G.pe a S Y i (fun v f=>∃k n,v=.str k/\kd.lookup k=some n/\Q (.int n) f) T ⟨U,O,st,az _ _ _ (fun o U1 j w f O2 l p d2=>?_) (bu q)⟩) fun iv p ⟨z,f,A,rz,k,n,ez,el,qz⟩=>?_
 .obtain⟨r,h,q3⟩:=cJ j;unfold xM at h;split at h
  .rename_i k;obtain⟨n,e2,e3⟩:=q0i.mp h;subst e3;cases d2;exact⟨k,n,rfl,e2,q3 _ f O2 l p (.int _)⟩
  .cases h
 .subst ez;obtain⟨t,rfl⟩:=(show ∃t,iv=Value.str k t from rz)
  have o:=N _ A.kIn;obtain⟨t',hv⟩:=R k n el;refine⟨o.dictOf.typeIs,wpAny_getItem_of (knd:=strKind X.prog X.w) (k:=k) ?_ o.dictOf.mapOf hv ⟨.int n,f,A.tok _,⟨t',rfl⟩,qz⟩⟩;show Value.isStrOf k (.str k t)=true;simp[Value.isStrOf]
theorem GH.get(g:GH mg H)(ok:jO H O)(f:glob x=some d)(h:mg x=some u):∃v,aV v u/\DV (al O H) v d:=by obtain⟨v,r,i⟩:=g x d u f h;refine⟨v,r,DV.mono (fun b o e=>?_) i⟩;obtain⟨t,a⟩:=Ax e;refine ie a fun z=>?_;obtain⟨o,c,m⟩:=ok b z;rw[a]at c;cases c;exact Aw t m
theorem CV(f:GF X.mg F)(g:Gl X x)(e:X.mg x=some u)(hd:glob x=some d)(c:autoParam ((x==("__debug__":Str))=false) Zr._auto_1):FE X F E (.Name x pos) (xC d):=
 ⟨az,fun a s Y H Q I b=>by
  obtain⟨U,O,st,q⟩:=b;obtain⟨v,r,h⟩:=(f.at st).get st.live hd e;exact oF g e r c a s Y H Q I (q v H O st (.refl ..) h)⟩
end L2.L3
namespace L2.L3
open PySem
theorem RN:glob "ANY_ZONE" = some (.tuple [.int 0,.tuple []]):=by unfold glob;rw[if_pos rfl]
theorem RO:glob "NO_DEEDS" = some (.tuple []):=by unfold glob;rw[if_neg (by decide +kernel),if_pos rfl]
end L2.L3
namespace L2.L3
open PySem PySem.Spec PyProof.Rows
def RP(H:Hp):Prop:=∀b u,H b=some u->∃o v a n,u=.frz o v/\o.data=.seq a n
theorem RQ{K:Frag}(Q:K.In s₁.heap)(l:s₁.heap.Ns mainGlobals mg)(J:s₁.heap.Ns builtinsNs mb)(E:∀y:Str,y≠"__name__"->mb y=bootBuiltins y)(p:s₁.heap.NoLimit)(R:s₁.gens = #[])(S:bh k callerA)
  (F:∀base,K.In base->base.Ns mainGlobals mg->bU P w K mg base CX k fa fd [x] sp) (f:∀s  u,BindsTo s fd ⟨[u],[]⟩ [(x,u)])
  (L:RP H) (T:∀b u,H b=some u->K.lookup b=none) (j:bH P w H s₁.heap) (G:sp [.ref a] H (fun v _=>v=.bl true) fun _ _ _=>False) (I:∀e g,CX [] H s₁ (fun _ _ _=>False) e g->False) :
  codeAny (model P w) callerA (.call (.ref fa) ⟨[.ref a],[]⟩) (fun r g=>r=.ok (.ret (.bool true))/\OldK s₁.heap g.heap/\g.os=s₁.os/\AllBare g.gens) s₁:=by
 have i:∀{b:Addr}{o:Obj}{B:Array DictEntry}{C:Nat},s₁.heap.get? b=some o->o.data=.dict B C->H b=none:=fun {b o B C} e d=>by
  cases q:H b with
  |none=>rfl
  |some u=>obtain⟨U,v,X,n,rfl,M⟩:=L b u q;obtain⟨N,_⟩:=j b _ q;rw[e]at N;cases N;rw[d]at M;cases M
 have c:∀{b:Addr}{m:Str->Option Value},s₁.heap.Ns b m->(kq s₁.heap H).Ns b m:=fun t=>by obtain⟨o,B,C,e,d,r⟩:=t;exact⟨o,B,C,yZ e (i e d),d,r⟩
 have O:K.In (kq s₁.heap H):=fun b o e=>by
  refine yZ (Q b o e) ?_;cases q:H b with
  |none=>rfl
  |some u=>rw[T b u q]at e;cases e
 have Y:Mod K mg (kq s₁.heap H):=⟨O,c l,⟨mb,c J,E⟩,let⟨Z,D,h2⟩:=p;⟨Z,c D,h2⟩⟩
 have e0:fT P w K mg (kq s₁.heap H) callerA [] s₁ H:=⟨rfl,Y,fun b o e=>IT e,Nat.le_of_eq (IS _ _),trivial,fun b J=>absurd (show b∈([]:List Addr) from J) (by simp),j,.of_eq R⟩
 refine codeAny_mono ((F _ O (c l)).run callerA [] s₁ H ⟨[.ref a],[]⟩ [.ref a] [.ref a] _ _ S e0 (f s₁ (.ref a)) (.cons rfl .nil) G) fun r g h=>?_;rcases r with e |fl
 .exact(I e g h).elim
 .cases fl with
  |ret u=>
   obtain⟨v,H',os,bare,un,A,r',q⟩:=h;obtain rfl:v=.bl true:=q;obtain rfl:u=Value.bool true:=r';refine⟨rfl,OldK.of_keep fun b o e=>?_,os,bare⟩;cases q:H b with
   |none=>exact un.keep b o e q (fun z=>absurd (show b∈([]:List Addr) from z) (by simp)) (by simp)
   |some u=>obtain⟨U,v,_,_,rfl,_⟩:=L b u q;have D:=(j b _ q).1;rw[e]at D;cases D;exact(A b _ (un.frzs b _ _ q)).1
  |next=>exact False.elim h
  |brk=>exact False.elim h
  |cont=>exact False.elim h
structure jZ (K':Frag) (h:Heap) (b:Addr) (u:HO):Prop where
 ex:∃(o:Obj) (xs:List V) (its:Array Value) (n:Nat),u=.frz o (.tup xs)/\h.get? b=some o/\o.cls=.type "tuple"/\o.data=.seq its n/\xs.length<=sizeLine/\bp xs its.toList
 out:K'.lookup b=none
def xN(K:Frag)(mg:Str->Option Value):Sp:=fun vs H Q _=>GH mg H/\∃a c,vs=[.ref a]/\ig K H a c/\∀b,Q (.bl true) b
theorem RS{l:PySem.W.OpenLaw}{K:Params->Frag}{CX:World->iN}
  (hn:l.most=some 63) (R:d.params.defaults=[]) (hr:bh k callerA) (hY:∀w  h,YP w h->(K w.params).In h)
  (F:∀w  mg  C  h,(K w.params).In h->h.Ns mainGlobals mg->mg d.name=some (.ref C)->
   ∃(fd:FuncData) (m:Frag) (p:Hp),(∀s  u,BindsTo s fd ⟨[u],[]⟩ [(x,u)])/\m.In h/\(∀b u,p b=some u->jZ m h b u)/\GH mg p/\
    ∀base,m.In base->base.Ns mainGlobals mg->bU l.prog w m mg base (CX w) k C fd [x] (xN m mg))
  (S:∀w  H  s  e  y,CX w [] H s (fun _ _ _=>False) e y->False) :
  PySem.W.WalkO q v XP YP l.row.toRowW d [] (fun f vs=>PySem.call f vs):=by
 refine Att.attach_call hn R fun w s₀ M mg mb C o pm cd a0 a vs Z G Y9 ho hd a1 U i j t hg=>?_;obtain⟨fd,m,p,hb,KX,N,gh,hF⟩:=F w mg C _ (hY w _ Y9) G.T.g U;have rv:=Ll j;have D:=j.length;have sz:63<sizeLine:=by decide
 have na:p a=none:=by
  cases e:p a with
  |none=>rfl
  |some u=>
   obtain⟨o,xs,A,n,_,E,I,_⟩:=(N a u e).ex;rw[i]at E;cases E;injection I with I
   exact absurd I (by decide)
 have core:∀L:Option HO,(∀u,L=some u->u=.frz { cls:=.type "list",data:=.seq vs.toArray } (.lst (Z.map V.int))/\m.lookup a=none)->(∀H:Hp,H a=L->ig m H a Z)->
   codeAny (model l.prog w) callerA (.call (.ref C) ⟨[.ref a],[]⟩) (fun r y=>r=.ok (.ret (.bool true))/\OldK M.heap y.heap/\y.os=M.os/\AllBare y.gens) M:=by
  intro L B J;let H:Hp:=fun b=>if b=a then L else p b
  have O:H a=L:=if_pos rfl;have Q:∀b,b≠a->H b=p b:=fun b hb=>if_neg hb;have sub:∀b u,p b=some u->H b=some u:=fun b u e=>by rw[Q b (fun z=>by rw[z,na]at e;cases e)];exact e
  refine RQ (H:=H) KX G.T.g G.T.b G.T.builtins G.T.nolimit hg hr hF hb ?_ ?_ ?_ ⟨gh.mono fun b u _ e=>sub b u e,a,Z,rfl,J H O,fun _=>rfl⟩ fun e y h=>S w H M e y h
  .intro b u e
   by_cases c:b=a
   .subst c;rw[O]at e;obtain⟨rfl,_⟩:=B u e;exact⟨_,_,_,_,rfl,rfl⟩
   .rw[Q b c]at e;obtain⟨o,xs,A,n,rfl,_,_,X,_⟩:=(N b u e).ex;exact⟨_,_,_,_,rfl,X⟩
  .intro b u e
   by_cases c:b=a
   .subst c;rw[O]at e;exact(B u e).2
   .rw[Q b c]at e;exact(N b u e).out
  .intro b u e
   by_cases c:b=a
   .subst c;rw[O]at e;obtain⟨rfl,_⟩:=B u e;exact⟨i,by rw[q0h];lia,vs,_,rv,i⟩
   .rw[Q b c]at e;obtain⟨o,xs,A,n,rfl,E,I,X,h4,h5⟩:=(N b u e).ex;exact⟨E,h4,A.toList,h5,o,E,I,n,by simpa using X⟩
 cases Y:m.lookup a with
 |some oo=>have e:=KX a oo Y;rw[i]at e;cases e;exact core none (fun u e=>by cases e) fun H hH=>⟨t,.inr ⟨_,vs.toArray,_,Y,rfl,rfl,rfl,by rw[q0p,D];lia,by simpa using rv⟩⟩
 |none=>exact core (some _) (fun u e=>by cases e;exact⟨rfl,Y⟩) fun H hH=>⟨t,.inl ⟨_,hH⟩⟩
noncomputable def aA(a:List Addr)(K:Frag):Frag:=K.filter fun p=>!a.contains p.1
theorem RT{K}(X:K.In h)(c:∀b o,(aA a K).lookup b=some o->K.lookup b=some o):(aA a K).In h:=fun b o e=>X b o (c b o e)
theorem tu:∀{K b o},(aA d K).lookup b=some o->K.lookup b=some o/\b∉d
 |[],b,o,e=>by cases e
 | (c,u)::K,b,o,e=>by
  unfold aA at e;rw[q2t]at e
  by_cases a:d.contains c=true
  .rw[if_neg (by rw[a];simp)]at e;obtain⟨g,f⟩:=tu (K:=K) e;refine⟨?_,f⟩;rw[q0m];have:(b==c)=false:=by
    cases hb:b==c with
    |false=>rfl
    |true=>
     have:b=c:=by simpa using hb
     subst this;exact absurd (by simpa using a) f
   rw[this];exact g
  .rw[if_pos (by simpa using a)]at e;rw[q0m]at e ⊢;cases hb:b==c with
   |true=>
    rw[hb]at e;have:b=c:=by simpa using hb
    subst this;exact⟨e,by simpa using a⟩
   |false=>rw[hb]at e;exact tu (K:=K) e
theorem RU{K}(X:K.In h)(m:K.lookup g1=some ⟨.type "tuple",f,.seq #[.int 0 t,.ref g2] i,k⟩)
  (n:K.lookup g2=some ⟨.type "tuple",g,.seq #[] j,l⟩) (p:K.lookup g3=some ⟨.type "tuple",E,.seq #[] G,H⟩) (J:mg "ANY_ZONE" = some (.ref g1)) (L:mg "NO_DEEDS" = some (.ref g3)) :
  ∃a,(∀b u,a b=some u->jZ (aA [g1,g2,g3] K) h b u)/\GH mg a:=by
 have sz:63<sizeLine:=by decide
 have r:g2≠g1:=fun z=>by rw[z,m]at n;cases n
 have s:g3≠g1:=fun z=>by rw[z,m]at p;cases p
 have out:∀b,b∈[g1,g2,g3]->(aA [g1,g2,g3] K).lookup b=none:=fun b M=>by
  cases e:(aA [g1,g2,g3] K).lookup b with
  |none=>rfl
  |some o=>exact absurd M (tu e).2
 let a:Hp:=fun b=>if b=g1 then some (.frz ⟨.type "tuple",f,.seq #[.int 0 t,.ref g2] i,k⟩ (.tup [.int 0,.ref g2])) else if b=g2 then some (.frz ⟨.type "tuple",g,.seq #[] j,l⟩ (.tup [])) else if b=g3 then some (.frz ⟨.type "tuple",E,.seq #[] G,H⟩ (.tup [])) else none
 have I:a g1=some (.frz ⟨.type "tuple",f,.seq #[.int 0 t,.ref g2] i,k⟩ (.tup [.int 0,.ref g2])):=if_pos rfl;have v:a g2=some (.frz ⟨.type "tuple",g,.seq #[] j,l⟩ (.tup [])):=(if_neg r).trans (if_pos rfl);have w:∃o,a g3=some (.frz o (.tup [])):=by
  by_cases q:g3=g2
  .exact⟨_,by rw[q];exact v⟩
  .exact⟨_,(if_neg s).trans ((if_neg q).trans (if_pos rfl))⟩
 refine⟨a,fun b u e=>?_,fun x d u hd c=>?_⟩
 .by_cases y:b=g1
  .subst y;rw[I]at e;cases e;exact⟨⟨_,_,_,_,rfl,X _ _ m,rfl,rfl,by simp;lia,.cons ⟨_,rfl⟩ (.cons rfl .nil)⟩,out _ (by simp)⟩
  .by_cases A:b=g2
   .subst A;rw[v]at e;cases e;exact⟨⟨_,_,_,_,rfl,X _ _ n,rfl,rfl,by simp,.nil⟩,out _ (by simp)⟩
   .by_cases B:b=g3
    .have C:=((if_neg y).trans ((if_neg A).trans (if_pos B))).symm.trans e;cases C;subst B;exact⟨⟨_,_,_,_,rfl,X _ _ p,rfl,rfl,by simp,.nil⟩,out _ (by simp)⟩
    .have C:=((if_neg y).trans ((if_neg A).trans (if_neg B))).symm.trans e;cases C
 .unfold glob at hd;split at hd
  .rename_i D;subst D;cases hd;rw[J]at c;cases c;exact⟨.ref g1,rfl,.tup (.inr ⟨⟨_,rV rfl I⟩,rfl⟩) (.cons (.int 0) (.cons (.tup (.inr ⟨⟨_,rV rfl v⟩,rfl⟩) .nil) .nil))⟩
  .split at hd
   .rename_i D;subst D;cases hd;rw[L]at c;cases c;obtain⟨o,w⟩:=w;exact⟨.ref g3,rfl,.tup (.inr ⟨⟨o,rV rfl w⟩,rfl⟩) .nil⟩
   .cases hd
def tw(i:Nat)(k:Int)(v:PyData):SM:=fun U=>match U[i]? with
 |some (some (.own io (.l ds)))=>(match cI ds.length k with
  |some n=>.nx (U.set i (some (.own io (.l (ds.set n v)))))
  |none=>.bad)
 |_=>.bad
@[simp] def tz(i:Nat)(k:Int)(m:XM PyData):SM:=fun U=>dz (m U) (tw i k)
theorem tD:PE X (.UnaryOp .USub (.Constant (.int n) j p) q) (fun Y H Q=>Q (.int (-n)) H):=(zn zp rr).imp fun Y H Q h=>⟨n,rfl,h⟩
theorem xO{pos:Pos}(J:PE X (.Name x p1) (bQ i))(L:PE X ix (fun Y H Q=>Q (.int k) H))(M:FE X F E e m)
  (N:autoParam (swapsWithSole [.Subscript (.Name x p1) ix pos'] e pos.line X.env=pure false) Zq._auto_1) (R:autoParam (swappedStores [.Subscript (.Name x p1) ix pos'] e X.env=pure none) Zq._auto_1)
  (S:autoParam ((assignEach [.Subscript (.Name x p1) ix pos'] X.env).map (·.2)=[assign (.Subscript (.Name x p1) ix pos') X.env]) Zq._auto_1)
  (T:autoParam (∀v,assign (.Subscript (.Name x p1) ix pos') X.env v=(do
   let g <-holding [v] (eval (.Name x p1) X.env);let j <-holding [v,g] (eval ix X.env)
   standAt pos'
   holding [v,g,j] (setItem g j v)
   release [v,g,j] [])) Zs._auto_1) :
  FS X F E (.Assign [.Subscript (.Name x p1) ix pos'] e pos) (tz i k m):=
 (vn M.pe (zg J L zO T) N R S).imp fun D Y H Z=>by
 obtain⟨U,O,DD,st,q,fD⟩:=Z;exact⟨U,O,st,az _ _ _ (fun v U1 b p r O1 s s1 d1=>by
  unfold wpS tw at b;cases t:U1[i]? with
  |none=>rw[t]at b;exact b.elim
  |some o=>
   rw[t]at b;cases o with
   |none=>exact b.elim
   |some c0=>
    cases c0 with
    |dat d=>exact b.elim
    |scr d=>exact b.elim
    |exc d=>exact b.elim
    |vw d=>exact b.elim
    |own a0 b0=>
     cases b0 with
     |m _ _=>exact b.elim
     |o _ _=>exact b.elim
     |sd _=>exact b.elim
     |ll _=>exact b.elim
     |pr _ _ _=>exact b.elim
     |oo _ _=>exact b.elim
     |l ds=>
      simp only at b;cases u:cI ds.length k with
      |none=>rw[u]at b;exact b.elim
      |some n=>
       rw[u]at b;obtain⟨a,fp,w,⟨y,h,hH,f⟩,a1,up⟩:=s.box t;subst y;obtain⟨O2,A,s2,_⟩:=up (aI r a (.lst (h.set n p))) (.l (ds.set n v)) [a] (fun c o B e=>by rw[bn (fun z=>B (by simp[z]))];exact e) (by simp) (fun c B=>.inl B) (fun G O' C eG a2=>by
        subst eG;have I:bP (al O1 r) (al O' (aI r a (.lst (h.set n p)))):=C.hid;exact⟨I,rfl,h.set n p,cc,xi (DV.mono I d1) n (aO.mono I f)⟩)
       exact⟨_,w,a,h,k,n,rfl,rfl,hH,by rw[f.length];exact u,fD.nx _ _ _ _ A (s1.trans s2) b⟩) (fA (m:=m) (k:=tw i k) q)⟩
@[simp] def tE(i:Nat)(k:Int):XM PyData:=fun U=>match U[i]? with
 |some (some (.own _ (.l ds)))=>lift (bA ds k) U
 |_=>.bad
theorem CW(h:PE X (.Name x p1) (bQ i))(j:PE X ix (fun Y H Q=>Q (.int k) H))(n:lG ix:=by intro _ _;rfl):FE X F E (.Subscript (.Name x p1) ix pos) (tE i k):=
 ⟨az,(oO oP h j n).imp fun Y H Q b=>by
  obtain⟨U,O,st,q⟩:=b;unfold wp tE at q;cases c:U[i]? with
  |none=>rw[c]at q;exact q.elim
  |some o=>
   rw[c]at q;cases o with
   |none=>exact q.elim
   |some p=>
    cases p with
    |dat d=>exact q.elim
    |scr d=>exact q.elim
    |exc d=>exact q.elim
    |vw d=>exact q.elim
    |own r b0=>
     cases b0 with
     |m _ _=>exact q.elim
     |o _ _=>exact q.elim
     |sd _=>exact q.elim
     |ll _=>exact q.elim
     |pr _ _ _=>exact q.elim
     |oo _ _=>exact q.elim
     |l ds=>
      simp only at q;obtain⟨d,s,t⟩:=cJ (o:=bA ds k) (U:=U) (E:=E) q;obtain⟨a,A,f,⟨_,u,v,g⟩,_,_⟩:=st.box c;obtain⟨w,y,z⟩:=vV g s;exact⟨_,f,a,u,k,w,rfl,rfl,.of v,y,t w H O st .refl z⟩⟩
def CY(P:Program)(w:World)(K:Frag)(d:Addr)(b:List (Str×Int)):Prop:=(d==sysModules)=false/\∃(a:List (Str×Value)) (c:Nat),
 (∀h:Heap,K.In h->h.DictAt (strKind P w) d a c)/\a.map (·.1)=b.map (·.1)/\∀k n,b.lookup k=some n->∃t,valueAt a k=some (.int n t)
structure tF where
 k:Str
 n:Int
 t:Tok
 u:Tok
noncomputable def xP(w:World)(e:tF):DictEntry:=⟨hashStr w e.k,.str e.k e.t,.int e.n e.u⟩
theorem CZ:∀L:List tF,Pairs (strKind P w) (L.map (xP w)) (L.map fun e=>(e.k,Value.int e.n e.u))
 |[]=>.nil
 |e::L=>.cons (by show Value.isStrOf e.k (.str e.k e.t)=true;simp[Value.isStrOf]) rfl (CZ L)
theorem Db:∀(L:List tF)  k  n,(L.map fun e=>(e.k,e.n)).lookup k=some n->∃t,valueAt (L.map fun e=>(e.k,Value.int e.n e.u)) k=some (.int n t)
 |[],k,n,e=>by cases e
 |e::L,k,n,h=>by
  rw[q0c,q0m]at h
  by_cases q:k=e.k
  .subst q;simp at h;subst h;exact⟨e.u,by simp[valueAt]⟩
  .have:(k==e.k)=false:=by simpa using q
   rw[this]at h;obtain⟨t,a⟩:=Db L k n h;refine⟨t,?_⟩;rw[<-a];unfold valueAt;rw[q0c,List.find?_cons_of_neg (by simpa using fun z:e.k=k=>q z.symm)]
theorem RV{K}(L:List tF)(b:K.lookup d=some ⟨.type "dict",none,.dict (L.map (xP w)).toArray a,#[]⟩)(g:(L.map (·.k)).Nodup)(c:(d==sysModules)=false):CY P w K d (L.map fun e=>(e.k,e.n)):=by
 refine⟨c,L.map fun e=>(e.k,Value.int e.n e.u),a,fun h X=>⟨_,_,X _ _ b,⟨rfl,rfl,rfl⟩,rfl,?_,by simpa using CZ L,by simpa[Function.comp_def] using g⟩,by simp[Function.comp_def],Db L⟩;intro e f;obtain⟨x,_,rfl⟩:∃x∈L,xP w x=e:=by simpa using f
 exact⟨x.k,by show Value.isStrOf x.k (.str x.k x.t)=true;simp[Value.isStrOf],rfl⟩
end L2.L3
namespace L2
open PySem PySem.Spec PyProof.Rows
theorem RW(B:X.calm=true):fR X (.builtin "any") (fun k H Q=>∃(l:Addr) (bs:List Bool),k=[.ref l]/\H l=some (.lst (bs.map V.bl))/\Q (.bl (bs.any id)) H):=by
 intro m s Y H k O Q I r h;obtain⟨l,bs,rfl,C,q⟩:=h;obtain⟨u,rfl,ru⟩:=vals1 r;cases ru;obtain⟨z,a,n,p,e⟩:=I.hok _ _ C;have L:s.heap.IsList l a.toArray:=⟨_,e,rfl,_,rfl⟩
 have c:l<s.heap.objs.size:=bE e;have len:=p.length;rw[q0h]at len;refine call_any_walk (wpAny_pyIter_list L ?_);refine⟨s.heap.objs.size,_,_,_,_,_,fun i=>bs.getD i false,rfl,Walks.list (A:=X.A.in1) (show X.A.in1.handled=none from I.ok.hd B) s.heap.objs.size l (q0v c) a.toArray,⟨⟨_,Heap.get?_push_size _ rfl,rfl,rfl⟩,L.push _⟩,?_,fun R S D=>?_⟩
 .intro i v E G T J g;have d:a[i]? = some v:=by simpa using J
  have c:i<bs.length:=by rw[len];exact(q0a.mp d).1
  obtain⟨w,t,j⟩:=p.get (i:=i) (x:=.bl bs[i]) (by rw[q0s,q0j c];rfl);rw[d]at t;cases t;cases j;refine wpAny_truthy_bool ?_;have:bs.getD i false=bs[i]:=by simp[List.getD,c]
  have g:G (bs.getD i false) E:=g;rw[this]at g;exact g
 .have M:(List.range a.toArray.size).any (fun i=>bs.getD i false)=bs.any id:=by
   rw[q0p,<-len];rw[q2z,List.any_eq_true,List.any_eq_true];constructor
   .rintro⟨i,d,h⟩;have f:=q2c.mp d;exact⟨bs[i],q1r f,by simpa[List.getD,f] using h⟩
   .rintro⟨b,hb,h⟩;obtain⟨i,d,rfl⟩:=List.getElem_of_mem hb;exact⟨i,q2c.mpr d,by simpa[List.getD,d] using h⟩
  rw[M];exact⟨.bl (bs.any id),H,I.kept fun b o y=>D b o (fun N=>absurd (bE y) (by rw[q0k.mp N];exact q0z _)) (bD _ y),rfl,q⟩
end L2
namespace L2.L3
open PySem PySem.Spec PyProof.Rows
def Dc:DN:=fun a Q=>∃bs:List Bool,a=[.list (bs.map .bool)]/\Q (.bool (bs.any id))
theorem RX:iQ (fun xs H Q=>∃(l:Addr) (bs:List Bool),xs=[.ref l]/\H l=some (.lst (bs.map V.bl))/\Q (.bl (bs.any id)) H) Dc where
 mn:=fun _ _ _ k zq1a=>by obtain⟨bs,e,q⟩:=zq1a;exact⟨bs,e,k _ q⟩
 ok:=fun O H vs xs Q hO hd zq2a=>by obtain⟨bs,e,q⟩:=zq2a;subst e;obtain⟨x,rfl,h1⟩:=gS hd;obtain⟨a,ys,rfl,ha,hy⟩:=h1.lst_inv;exact⟨a,bs,rfl,by rw[(dH ha).1,wq hy],q _ H (fun _ _ h=>h) (.bl _)⟩
def tG:List PyData->Option PyData:=fun a=>match a with
 |[.list ds]=>(bools? ds).map fun bs=>.bool (bs.any id)
 |_=>none
theorem RY:FN Dc tG:=fun c d Q e q=>by
 unfold tG at e;split at e
 .obtain⟨bs,a,b⟩:=q0i.mp e;rw[wC a];subst b;exact⟨bs,rfl,q⟩
 .cases e
end L2.L3
namespace L2.TS
open PySem PyProof.Rows PySem.W
section
variable{prog:Program}{w:World}{A:Around}{E:Value->Shared->Prop}{s:Shared}{r d:Addr}{κ':Type}[DecidableEq κ']{knd:PySem.KeyKind prog w κ'}{kvs:List (κ'×Value)}{ep:Nat}
theorem sorted_items(v:A.handled=none)(z:s.heap.IsItemsView r d)(B:s.heap.DictAt knd d kvs ep)(t:kvs.length<=sizeLine)(i:kvs.length<64)
  (h:∀c  j  as,(∀b o,s.heap.get? b=some o->c.get? b=some o)->as.length=kvs.length->KdxG knd kvs s.heap.objs.size c as->∃f κ,mx prog w c (as.map Value.ref) f κ/\
   ∀(a:List Value)  l  m,a.Perm (as.map Value.ref)->a.Pairwise (fun x y=>lexLe (f x) (f y)=true)->(∀b o,c.get? b=some o->l.get? b=some o)->l.get? c.objs.size=some (seqObj "list" a.toArray m)->Q (.ref c.objs.size) { s with heap:=l,toks:=j }) :
  wpAny (model prog w) A (call (.builtin "sorted") [.ref r]) Q E s:=by
 refine Calls.call_function_entry kind_sorted plain_sorted entry_sorted (args_sorted1 _) ?_;unfold Builtin.«sorted»;refine aH (m:=checkCount "sorted" 1 1 _) (bz ?_);refine aH (kdx_collect (A:=A.in1) v z B t fun g j as C n D=>?_);have u:(as.map Value.ref).length<=sizeLine:=by rw[q0h,n];exact t
 obtain⟨f,κ,k,fin⟩:=h g j as C n D;refine aH (wpAny_newList ?_ u);have gH:(g.push (seqObj "list" (as.map Value.ref).toArray 0)).get? g.objs.size=some (seqObj "list" (as.map Value.ref).toArray 0):=Heap.get?_push_size _ rfl;have hb:∀b o,g.get? b=some o->b≠g.objs.size/\(g.push (seqObj "list" (as.map Value.ref).toArray 0)).get? b=some o:=fun b o e=>⟨q0v (bE e),bD _ e⟩
 refine aH (wpAny_holding (wpAny_call_entry slot_list_sort ⟨_,gH,rfl⟩ entry_list_sort (xH gH u (runs_few (by rw[q0h,n];exact i)) k hb fun a G H=>⟨_,rfl,?_⟩) (args_list_sort _)));refine bz ⟨_,rfl,?_⟩;obtain⟨p,kf⟩:∃p,((g.push (seqObj "list" (as.map Value.ref).toArray 0)).update g.objs.size (Obj.mapSeq fun _=>#[])).get? g.objs.size=some (seqObj "list" #[] p):=⟨_,get?_update_seq gH fun _=>#[]⟩
 have oz:((((g.push (seqObj "list" (as.map Value.ref).toArray 0)).update g.objs.size (Obj.mapSeq fun _=>#[])).push (seqObj "tuple" (as.map Value.ref).toArray 0)).push (seqObj "list" #[] 0)).get? g.objs.size=some (seqObj "list" #[] p):=bD _ (bD _ kf);refine fin a _ _ G H (fun b o e=>?_) (get?_update_seq oz fun _=>a.toArray);have q:=hb b o e;unfold sortedHeap;rw[Heap.get?_update_ne _ _ _ _ q.1];refine bD _ (bD _ ?_);rw[Heap.get?_update_ne _ _ _ _ q.1];exact q.2
end
end L2.TS
namespace L2
open PySem PySem.Spec PyProof.Rows
theorem Dd{Y:St}:∀(L:List (Addr×Int×Int)) {H},Inv X pins Y H s->(L.map (·.1)).Nodup->(∀x∈L,hV X pins H x.1/\∃t u n,s.heap.get? x.1=some { cls:=.type "tuple",data:=.seq #[.int x.2.1 t,.int x.2.2 u] n })->
  ∃a,Inv X pins Y a s/\bP H a/\(∀x∈L,a x.1=some (.tup [.int x.2.1,.int x.2.2]))/\∀b,b∉L.map (·.1)->a b=H b
 |[],H,I,_,_=>⟨H,I,fun _ _ e=>e,fun x j=>absurd j (by simp),fun _ _=>rfl⟩
 |x::L,H,I,nd,h=>by
  obtain⟨k,l⟩:=q0Q.mp nd;obtain⟨f,t,u,n,e⟩:=h x q0g;have m:Inv X pins Y (aI H x.1 (.tup [.int x.2.1,.int x.2.2])) s:=I.track f ⟨by show 2<=sizeLine;decide,[.int x.2.1 t,.int x.2.2 u],.cons ⟨t,rfl⟩ (.cons ⟨u,rfl⟩ .nil),⟨_,e,rfl,n,rfl⟩⟩;obtain⟨a,J,i,p,v⟩:=Dd L m l fun y c=>by obtain⟨g,r⟩:=h y (bG _ c);have ne:y.1≠x.1:=fun z=>k (q0R.mpr ⟨y,c,z⟩);exact⟨⟨by rw[bn ne];exact g.1,g.2⟩,r⟩
  refine⟨a,J,fun b o q=>i b o (bR f.1 b o q),fun y c=>?_,fun b d=>?_⟩
  .rcases q0d.mp c with rfl |c
   .exact i _ _ cc
   .exact p y c
  .rw[q0c,q0d,not_or]at d;rw[v b d.2,bn d.1]
noncomputable def nU:Value->Addr
 |.ref b=>b
 |_=>0
theorem De:∀{a:List α}{b:List β},Paired R a b->∀{j:Nat}{y},b[j]? = some y->∃x,a[j]? = some x/\R x y
 |_,_,.nil,_,_,e=>by simp at e
 |_,_,.cons h t,0,y,e=>by simp at e;subst e;exact⟨_,by simp,h⟩
 |_,_,.cons h t,j+1,y,e=>by obtain⟨x,c,d⟩:=De t (j:=j) (by simpa using e);exact⟨x,by simpa using c,d⟩
theorem Df:∀{a},(∀x∈a,R x (f x))->Paired R a (a.map f)
 |[],_=>.nil
 |x::a,h=>.cons (h x q0g) (Df fun y b=>h y (bG _ b))
theorem Dg:∀a:List Addr,bp (a.map V.ref) (a.map Value.ref)
 |[]=>.nil
 |q::a=>.cons rfl (Dg a)
theorem RZ{Y:St}{i:Nat}{pos:Pos}(I:Inv X pins Y H s)(g:X.N[i]? = some x)(h:kr X.env.scope x)(e:Y[i]? = some (some v))(hd:autoParam ((x==("__debug__":Str))=false) Zr._auto_1)(d:autoParam ((x==("__classdict__":Str))=false) Zr._auto_1) :
  ∃u,aV v u/\∀E  Q,Q u s->wpAny (model X.prog X.w) X.A (eval (.Name x pos) X.env) Q E s:=by
 obtain⟨m,j,k⟩:=I.loc;obtain⟨u,r,l⟩:=k i x v g e h;refine⟨u,r,fun E Q fin=>?_⟩;rcases l with⟨b,n⟩ |⟨b,c,f,a⟩
 .exact wpAny_Name (wpAny_loadName_local I.ok.kind b j n fin) hd
 .rcases b with b |b
  .exact wpAny_Name (wpAny_loadName_cell I.ok.kind b f a fin) hd
  .exact wpAny_Name (wpAny_loadName_free I.ok.kind b f a fin d) hd
def Sc(i:Nat):TE:=fun Y H Q=>∃(a:Addr) (d:List (Int×Int)),d.length<64/\Y[i]? = some (some (.ref a))/\H a=some (.dK (d.map fun p=>(.inl p.1,.int p.2)))/\
 ∀(p:Addr) (b:Hp) (c:List Addr),bP H b->H p=none->b p=some (.lst (c.map V.ref))->(∀q∈c,H q=none)->Paired (fun(q:Addr) (row:List Int)=>b q=some (.tup (row.map V.int))) c (TS.sortR (d.map fun p=>[p.1,p.2]))->Q (.ref p) b
theorem Sd{pos:Pos}{p D apos r}(hc:X.calm=true)(hg:Gl X "sorted")(hm:X.mg "sorted" = none)(hN:X.N[i]? = some x)(hv:kr X.env.scope x)(hd:autoParam ((x==("__debug__":Str))=false) Zr._auto_1)(a0:autoParam ((x==("__classdict__":Str))=false) Zr._auto_1)
  (O:autoParam (attributeBase (.Name x D) "items" X.env (eval (.Name x D) X.env)=eval (.Name x D) X.env) Zq._auto_1) (R:autoParam ((apos.endLine==r.line)=true) Zq._auto_1)
  (he:autoParam (starEach [.Call (.Attribute (.Name x D) "items" apos) [] [] r] X.env=(false,eval (.Call (.Attribute (.Name x D) "items" apos) [] [] r) X.env)::starEach [] X.env) Zq._auto_1) (a1:autoParam ((backTo pos (starEach [] X.env)).any (·.1)=false) Zq._auto_1) :
  PE X (.Call (.Name "sorted" p) [.Call (.Attribute (.Name x D) "items" apos) [] [] r] [] pos) (Sc i):=by
 rintro pins s Y H Q I ⟨a,ns,a2,ea,eH,q⟩;obtain⟨u,ru,ld⟩:=RZ (pos:=D) I hN hv ea hd a0;cases ru;obtain⟨hz,hS,vs,kv,dd⟩:=vH I.hok eH;obtain⟨ep,da⟩:=dd.dictAt;refine wpAny_Call_Name_kw (kt I hg hm (show bootBuiltins "sorted" = some (.builtin "sorted") by decide +kernel) ?_ (by decide) (by decide));refine PyProof.Rows.callWith_builtin1 ?_ he a1;rw[he];show wpAny _ _ (spliced ((false,eval (.Call (.Attribute (.Name x D) "items" apos) [] [] r) X.env)::backTo pos (starEach [] X.env))) _ _ s;refine Calls.spliced_cons (wpAny_Call_items hS dd O R (fun Q' h=>ld _ Q' h) ?_);refine Calls.spliced_nil ?_;have I1:Inv X pins Y H { s with heap:=s.heap.push { cls:=.type "dict_items",data:=.fields #[.ref a] } }:=I.kept (t':=s.toks) fun b o e=>bD _ e;have lv:vs.length=ns.length:=by have:=Paired.length kv;simpa using this.symm
 refine TS.sorted_items (knd:=fk X.prog X.w) (kvs:=vs) (ep:=ep) (d:=a) (I.ok.hd hc) ⟨_,Heap.get?_push_size _ rfl,rfl,rfl⟩ (da.push _) (by rw[lv];simpa using hz) (by rw[lv];exact a2) fun l tk as E hl Z=>?_;have item:∀(j:Nat) (b:Addr),as[j]? = some b->∃c g t u,ns[j]? = some (c,g)/\l.get? b=some { cls:=.type "tuple",data:=.seq #[.int c t,.int g u] }:=fun j b e=>by
  obtain⟨key,k,y,G,A,e3⟩:=Z.pairs j b e;obtain⟨pv,e4,e5,e6⟩:=De kv G;rw[q0s]at e4;obtain⟨⟨c,g⟩,en,rfl⟩:=q0i.mp e4;obtain⟨u,hy⟩:=(show ∃t,y=Value.int g t from e6)
  have ek:(Sum.inl c:aR)=k:=e5;subst ek;rcases iI (show ko (.inl c) key=true from A) with⟨n',t,e7,e8⟩ |⟨z,t,e7,e8⟩
  .cases e7;exact⟨c,g,t,u,en,by rw[e3,e8,hy]⟩
  .cases e7
 have rk:∀(j:Nat) (b:Addr),as[j]? = some b->∃c g,ns[j]? = some (c,g)/\TS.rkH l (.ref b)=[c,g]:=fun j b e=>by obtain⟨c,g,t,u,G,A⟩:=item j b e;exact⟨c,g,G,by unfold TS.rkH;simp only[A];rfl⟩
 refine⟨TS.rkH l,_,TS.kok_tups fun v L=>?_,fun C h2 m D p2 M gH=>?_⟩
 .obtain⟨b,n,rfl⟩:=q0R.mp L;obtain⟨j,hj⟩:=q0J n;obtain⟨c,g,t,u,G,A⟩:=item j b hj;exact⟨b,_,[c,g],rfl,⟨_,A,rfl,_,rfl⟩,.cons c t (.cons g u .nil),by simp⟩
 .have mo:∀v∈C,v=.ref (nU v):=fun v L=>by obtain⟨b,_,rfl⟩:=q0R.mp (D.mem_iff.mp L);rfl
  have eo:C=(C.map nU).map Value.ref:=by
   rw[q1z]
   conv=>lhs;rw[<-List.map_id C]
   exact q1g fun v L=>mo v L
  have S:(C.map nU).Perm as:=by have:=D.map nU;rw[q1z]at this;exact this.trans (.of_eq (by simp[Function.comp_def,nU]))
  generalize C.map nU=B at eo S;subst eo;have I2:Inv X pins Y H { s with heap:=h2,toks:=tk }:=I.kept fun b o e=>M b o (E b o (bD _ e));have big:∀b,s.heap.objs.size<=b->H b=none:=fun b n=>I.hok.fresh n;have up:∀b∈B,s.heap.objs.size<=b/\b<l.objs.size:=fun b n=>by
   have h':=S.mem_iff.mp n;have T:(s.heap.push { cls:=.type "dict_items",data:=.fields #[.ref a] }).objs.size<b:=Z.above b h';have a3:(s.heap.push { cls:=.type "dict_items",data:=.fields #[.ref a] }).objs.size=s.heap.objs.size+1:=by simp[Heap.push]
   rw[a3]at T;exact⟨q1v (Nat.lt_of_succ_lt T),Z.there h'⟩
  have val:∀b∈B,∃c g t u,TS.rkH l (.ref b)=[c,g]/\l.get? b=some { cls:=.type "tuple",data:=.seq #[.int c t,.int g u] }:=fun b n=>by obtain⟨j,hj⟩:=q0J (S.mem_iff.mp n);obtain⟨c,g,t,u,G,A⟩:=item j b hj;exact⟨c,g,t,u,by unfold TS.rkH;simp only[A];rfl,A⟩
  have nd:B.Nodup:=S.nodup_iff.mpr (Z.rise.imp fun h z=>by rw[z]at h;exact absurd h (q0z _));have mq:(B.map fun b=>(b,(TS.rkH l (.ref b)).getD 0 0,(TS.rkH l (.ref b)).getD 1 0)).map (·.1)=B:=by simp[Function.comp_def]
  obtain⟨H2,J,sm,hr,ot⟩:=Dd (B.map fun b=>(b,(TS.rkH l (.ref b)).getD 0 0,(TS.rkH l (.ref b)).getD 1 0)) I2 (by rw[mq];exact nd) fun y hy=>by obtain⟨b,n,rfl⟩:=q0R.mp hy;obtain⟨c,g,t,u,G,A⟩:=val b n;refine⟨I.fpOk (up b n).1 (big b (up b n).1),t,u,0,?_⟩;rw[G];exact M _ _ A
  rw[mq]at ot;have pz:s.heap.objs.size<=l.objs.size:=by have:=E s.heap.objs.size _ (Heap.get?_push_size _ rfl);exact q1v (bE this)
  have np:l.objs.size∉B:=fun z=>q0z _ (up _ z).2;have U:H2 l.objs.size=none:=by rw[ot _ np];exact big _ pz
  have f:=I.fpOk (H':=H2) pz U;have lq:B.length=ns.length:=by rw[S.length_eq,hl,lv]
  have J2:Inv X pins Y (aI H2 l.objs.size (.lst (B.map V.ref))) { s with heap:=h2,toks:=tk }:=J.track f ⟨by rw[q0h,lq];simpa using hz,B.map Value.ref,m,Dg B,gH⟩;refine⟨.ref l.objs.size,_,J2,rfl,q _ _ B (fun b o e=>bR U b o (sm b o e)) (big _ pz) cc (fun b n=>big b (up b n).1) ?_⟩;have rows:B.map (fun b=>TS.rkH l (.ref b))=TS.sortR (ns.map fun p=>[p.1,p.2]):=by
   refine TS.sortR_of ((S.map _).trans (.of_eq ?_)) (by rw[q1c]at p2 ⊢;exact p2);apply q0U;intro j;rw[q0s,q0s];cases e:as[j]? with
   |none=>have:as.length<=j:=q1Z.mp e;rw[q2F (by lia)];rfl
   |some b=>obtain⟨c,g,G,A⟩:=rk j b e;rw[G];simp[A]
  rw[<-rows];refine Df fun b n=>?_;obtain⟨c,g,t,u,G,A⟩:=val b n;have:=hr (b,(TS.rkH l (.ref b)).getD 0 0,(TS.rkH l (.ref b)).getD 1 0) (q0R.mpr ⟨b,n,rfl⟩);rw[G]at this ⊢;rw[bn (fun z=>np (by rw[z]at n;exact n))];exact this
end L2
namespace L2.L3
open PySem PySem.Spec PyProof.Rows
noncomputable def mz:eg->Option (List (Int×Int))
 |[]=>some []
 |(.int k,.int v)::r=>(mz r).map fun l=>(k,v)::l
 |_::_=>none
theorem Dh:∀{g}{d:eg}{f},Paired (fun(p:aR×V) (q:PyData×PyData)=>gv p.1=q.1/\DV G p.2 q.2) g d->mz d=some f->g=f.map fun p=>(.inl p.1,.int p.2)
 |_,_,f,.nil,e=>by cases e;rfl
 |_,_,f,.cons (a:=p) (b:=c) h t,e=>by
  obtain⟨i,m⟩:=h;obtain⟨x,y⟩:=c;unfold mz at e;split at e
  .rename_i q;cases q
  .rename_i k v r q;cases q;obtain⟨l,o,rfl⟩:=q0i.mp e;rw[Dh t o,q0c];obtain⟨j,s⟩:=p;have u:s=.int v:=DV.int_inv m;have w:j=.inl k:=by
    cases j with
    |inl n=>cases i;rfl
    |inr z=>cases i
   rw[u,w]
  .cases e
noncomputable def xQ(c:Bool):PyData->Bool
 |.bool b=>b==c
 |_=>false
noncomputable def xR(c:Bool):V->Bool
 |.bl b=>b==c
 |_=>false
theorem Se:cn X (compareOp .Is) (fun x y H Q=>y=.bl c/\Q (.bl (xR c x)) H):=by
 intro e s Y H x y v u Q I d f h;obtain⟨rfl,q⟩:=h;cases f;cases x with
 |bl b=>cases d;exact is_bool (jj I q rfl)
 |non=>cases d;exact bz (jj I q rfl)
 |ref a=>cases d;exact bz (jj I q rfl)
 |int i=>obtain⟨t,rfl⟩:=d;exact bz (jj I q rfl)
 |str i=>obtain⟨t,rfl⟩:=d;exact bz (jj I q rfl)
 |ty i=>cases d;exact bz (jj I q rfl)
 |byt i=>obtain⟨t,rfl⟩:=d;exact bz (jj I q rfl)
 |flt i=>obtain⟨t,rfl⟩:=d;exact bz (jj I q rfl)
def Di(c:Bool):D2:=fun x y Q=>y=.bool c/\Q (.bool (xQ c x))
theorem Sf(h:DV H v d):xR c v=xQ c d:=by cases h<;>rfl
theorem Sg:ft (fun x y H Q=>y=.bl c/\Q (.bl (xR c x)) H) (Di c) where
 mn:=fun _ _ _ _ k zq1a=>by obtain⟨e,q⟩:=zq1a;exact⟨e,k _ q⟩
 ok:=fun O H u v x y Q hO h1 h2 zq2a=>by obtain⟨e,q⟩:=zq2a;subst e;exact⟨by cases h2;rfl,by rw[Sf h1];exact q _ H (fun _ _ h=>h) (.bl _)⟩
@[simp] def tH(c:Bool):PyData->PyData->Option PyData:=fun x y=>match y with |.bool b=>if b=c then some (.bool (xQ c x)) else none |_=>none
theorem Si:F2 (Di c) (tH c):=fun x y d Q e q=>by
 unfold tH at e;split at e
 .split at e
  .rename_i h;subst h;cases e;exact⟨rfl,q⟩
  .cases e
 .cases e
theorem Sj(c)(d:FE X F E a ma)(e:FE X F E b mb):FB X F E (.Compare a [.Is] [b] pos) (aQ (aj (tH c) ma mb)):=kG Si (kE Se Sg d e (bq _))
theorem Dj{α:Type}{a}:∀{n k},k<n->((List.replicate n ([]:List α)).set k a).flatten=a
 |0,_,h=>by lia
 |n+1,0,_=>by rw[q1e,q0x,q0e,rW,q0B]
 |n+1,k+1,h=>by rw[q1e,q0K,q0e,Dj (by lia)];rfl
def kP(own:List Str)(a:List Nat)(k:Nat)(b:Bx)(U:ai):ai:=(fz own a U).set (own.length+k) (some (.own true b))
def tI(own:List Str)(h:List Nat)(k l:Nat)(s:dJ)(g:er)(o:cx)(p:DT):DT:=fun U Q=>s U fun c j=>∃io b,j[l]? = some (some (.own io b))/\∃e:Nat->List PyData->ai->Prop,e 0 [] (kP own h k b j)/\
 (∀i d a f,c[i]? = some d->e i a f->g d f fun q=>o q fun b m=>if b=true then p m fun y r=>a.length<sizeLine/\e (i+1) (a++[y]) r else e (i+1) a m)/\
 ∀a f,e c.length a f->∃n,f[own.length+k]? = some (some (.own true n))/\a.length<=sizeLine/\Q (.list a) (j.set l (some (.own io n)))
theorem Sk(c:jP s):Mn (tI own caps k jm s g tc te):=fun _ _ _ d q=>c _ _ _ (fun _ _ a=>by obtain⟨io,b,hb,f,i,j,m⟩:=a;exact⟨io,b,hb,f,i,j,fun n o h=>let⟨p,e,l,q⟩:=m n o h;⟨p,e,l,d _ _ q⟩⟩) q
theorem Sl{K:Frag}{PF:Fx->Prop}(hP:∀w Y X L A O2 I,aC K F w Y X L->(∀a∈A,∃o,w a=some o/\Mv o)->PF ⟨w,A,O2,I⟩)(a5:caps[k]? = some jm)(hs:jP s)(hg:∀d U Q Q',(∀U',Q U'->Q' U')->g d U Q->g d U Q')(ht:ik tc)(he:Mn te):∀Y H Q,fq K F (tI own caps k jm s g tc te) Y H Q->
  jK own caps (nq K F s) (fun v Y H Q=>∃M,PF M/\jL K M g v Y H Q) (fun Y H Q=>∃M,PF M/\il K M tc Y H Q) (fun Y H Q=>∃M,PF M/\fq K M te Y H Q) Y H Q:=fun Y H Q a6=>by
 obtain⟨U,O,st,q⟩:=a6;refine⟨U,O,st,hs _ _ _ (fun N X a7 J w L C s1 wk=>?_) q⟩;obtain⟨io,b0,a4,Iv,i0,step,fin⟩:=a7;obtain⟨W,D,B⟩:=id C;obtain⟨v0,r,hY,hW,a,rfl,a8⟩:=D.at_ jm _ a4;rw[<-B]at a8;have b8:jm<X.length:=(q0a.mp a4).1;have b9:L.Nodup:=by rw[B];exact D.nd
 have a9:W.flatten.Nodup:=(q0f.mp D.nd).1;have c0:r.Nodup:=a9.sublist (q1o (q0G hW));have R:∀c∈r,c∈L:=fun c f=>by rw[B];exact bj _ (bS hW f)
 have c1:∀c∈r,∃o,w c=some o/\Mv o:=fun c f=>C.live c (R c f);let t:List Addr:=L.filter fun c=>decide (c∉r);have u:∀c∈t,c∈L/\c∉r:=fun c h=>by obtain⟨h1,h2⟩:=q1A.mp h;exact⟨h1,by simpa using h2⟩
 have inc:∀c∈L,c∉r->c∈t:=fun c h h2=>q1A.mpr ⟨h,by simpa using h2⟩;have a1:∀c,c∈r++t↔c∈L:=fun c=>⟨fun h=>(q0b.mp h).elim (R c) fun z=>(u c z).1,fun h=>by
  by_cases z:c∈r
  .exact bj _ z
  .exact bf _ (inc c h z)⟩
 have c2:(r++t).Nodup:=q0f.mpr ⟨c0,b9.filter _,fun x hx y hy e=>by subst e;exact(u x hy).2 hx⟩;have b1:aK L w (r++t) w:=iS fun c h=>(a1 c).mp h;let M:Fx:=⟨w,r,t,fun _=>a⟩
 have pf:PF M:=hP _ _ _ _ _ _ _ C c1;have kn:own.length+k<(fz own caps X).length:=by have:=(q0a.mp a5).1;unfold fz;simp;lia
 have ln:(fz own caps X).length=(fW own caps Y).length:=by unfold fz fW;simp
 have fl:((List.replicate (fz own caps X).length ([]:List Addr)).set (own.length+k) r).flatten=r:=Dj kn;have Yk:(fW own caps Y)[own.length+k]? = some (some (.ref a)):=by unfold fW;rw[q0A (by simp),q0h,q0O,q0s,a5];show some ((Y[jm]?).getD none)=_;rw[hY];rfl
 refine⟨pB K M N Iv,⟨N.length,kP own caps k b0 X,r++t,[],?_,i0,.nil,q0T _,rfl⟩,?_⟩
 .have cell:∀(i:Nat) (c:aa),(fz own caps X)[i]? = some (some c)->∃v,(fW own caps Y)[i]? = some (some v)/\se K w L c v:=fun i c e=>wm (fun j _ c h=>AH C j c h) e;refine⟨(List.replicate (fz own caps X).length []).set (own.length+k) r,⟨fun i c e=>?_,by show(_++t).Nodup;rw[fl];exact c2,fun _ _ _ h=>h,fun c h=>?_,?_,?_,?_,fun i b e=>?_⟩,by show r++t=_++t;rw[fl]⟩
  .unfold kP at e;rcases iP e with⟨rfl,e1,hl⟩ |⟨hi,e1⟩
   .cases e1;refine⟨.ref a,r,Yk,q0q (by simpa using hl),a,rfl,?_⟩;show fK (al (_++t) w) w a b0 r;rw[fl];exact a8.keep (fun _ _=>rfl) b1.hid
   .obtain⟨v,e2,_,e3⟩:=cell i c e1;refine⟨v,[],e2,?_,?_⟩
    .rw[q0r (Ne.symm hi),q1d,if_pos (q0a.mp e1).1]
    .show em K w (_++t) v c [];rw[fl];exact e3.keep b1 (fun _ _=>rfl) fun _ _ _ e=>e
  .rw[fl]at h;exact .inl h
  .show jO w (_++t);rw[fl];exact fun c h=>C.live c ((a1 c).mp h)
  .unfold kP;rw[q0w];exact ln
  .unfold kP;rw[q0w,q0w,q03]
  .unfold kP at e;rcases iP e with⟨rfl,_,_⟩ |⟨hi,e1⟩
   .exact Yk
   .obtain⟨_,_,n,_⟩:=cell i _ e1;exact absurd rfl (n true b)
 .rintro i m ys Y' H' ⟨U',O',ds,a0,iv,dv,hi,rfl⟩;obtain⟨W',h',E⟩:=id a0;have kp:∀b o,b∉r->w b=some o->H' b=some o:=fun b o hb e=>h'.kept b o hb e;have c3:aK L w O' H':=⟨fun b o hb e=>kp b o (fun z=>hb (R b z)) e,fun c h=>by
   rw[E]at h;rcases q0b.mp h with h |h
   .exact(h'.new c h).imp (R c) id
   .exact .inl (u c h).1⟩
  obtain⟨w1,w2⟩:=wk O' H' c3 a0.live
  by_cases b3:i<N.length
  .obtain⟨go,yld⟩:=w1 i N[i] (q0j b3);refine .inr ⟨go,fun x H2 hy=>?_⟩;obtain⟨c4,dx⟩:=yld x H2 hy;exact wn pf hg ht he step b3 a0 iv dv c4 dx
  .have e:i=N.length:=by lia
   subst e;obtain⟨b',b4,hz,q⟩:=fin ds U' iv;refine .inl ⟨w2,by rw[dv.length];exact hz,fun p hp=>?_⟩;obtain⟨v',G,g1,g2,a',ea,g3⟩:=h'.at_ _ _ b4;have g4:=h'.io _ _ b4;rw[g1]at g4;obtain rfl:a' = a:=by cases ea;cases g4;rfl
   rw[<-E]at g3;have a2:∀c∈G,c∈O':=fun c f=>by rw[E];exact bj _ (bS g2 f)
   have a3:(W'.flatten++t).Nodup:=h'.nd;have b5:G.Nodup:=(q0f.mp a3).1.sublist (q1o (q0G g2));have oth:∀j l,j≠jm->W[j]? = some l->∀c∈l,c∈t:=fun j l Z e c f=>inc c (by rw[B];exact bj _ (bS e f)) (kz a9 e hW Z f);have S:∀c∈F.O₀,c∈t:=fun c f=>inc c (by rw[B];exact bf _ f) fun z=>(q0f.mp D.nd).2.2 c (bS hW z) c f rfl;have b6:∀c∈G,c∉t:=fun c f z=>(q0f.mp a3).2.2 c (bS g2 f) c z rfl;have b7:∀c∈t,H' c=w c:=fun c f=>by obtain⟨o,e,_⟩:=C.live c (u c f).1;rw[e];exact kp c o (u c f).2 e
   have T:∀c∈(W.set jm G).flatten++F.O₀,c∈O':=fun c h=>by
    rcases q0b.mp h with h |h
    .rcases fX h with h |⟨j,l,Z,e,hl⟩
     .exact a2 c h
     .rw[E];exact bf _ (oth j l Z e c hl)
    .rw[E];exact bf _ (S c h)
   obtain⟨s2,s3⟩:=D.put (H':=H') (i:=jm) (v:=.ref a') (c:=.own io b') (fp:=G) b8 (fun j l c Z e f=>b7 c (oth j l Z e c f)) (fun c f=>b7 c (S c f)) (fun c o f e=>kp c o (fun z=>f (by rw[<-B];exact R c z)) e) b5
    (fun c f=>⟨fun j l Z e z=>b6 c f (oth j l Z e c z),fun z=>b6 c f (S c z)⟩) (fun c f=>(h'.new c (bS g2 f)).imp (fun z=>bS hW z) id) (fun c f=>h'.live c (by rw[<-E];exact a2 c f)) (fun _=>⟨a',rfl,g3.keep (fun _ _=>rfl) (rO T)⟩) (fun b2 z=>by
     have e1:io=true:=by cases z;rfl
     subst e1;have:=D.io jm b0 a4;rw[hY]at this;exact q0n (q0n this))
   have eY:Y.set jm (some (.ref a'))=Y:=by
    apply q0U;intro j
    by_cases Z:j=jm
    .subst Z;rw[q0q (q0a.mp hY).1,hY]
    .rw[q0r (Ne.symm Z)]
   rw[eY]at s2;have stN:aC K F H' Y (X.set jm (some (.own io b'))) ((W.set jm G).flatten++F.O₀):=⟨_,s2,rfl⟩
   rw[<-B]at s3;have c5:=a0.nofree p hp;exact q _ _ _ (stN.grow (bR hp)) (s1.trans (s3.trans (.same (bR hp)))) (kB hp (fun z=>c5 (T p z)) (aO.mono (rO T) dv))
theorem Sn(m:GF X.mg F)(S:ao X scope own capN caps)(j:caps[k]? = some jm)(n:X.calm=true)(l:DI X F tg iter s)
  (c:∀C d e f h b,GF X.mg b->DG (bY X scope (own++capN) C d e f h) b tg g/\nt (bY X scope (own++capN) C d e f h) b ifs tc/\DE (bY X scope (own++capN) C d e f h) b elt te)
  (o:autoParam (∀x,foldedSetIterable iter X.env x=pure x) Zs._auto_1):DE X F (.ListComp elt [⟨tg,iter,ifs,0⟩] scope pos) (tI own caps k jm s g tc te):=by
 obtain⟨p,t,w⟩:=c 0 [] (PySem.start X.prog).1 (fun _=>none) [] F m;refine⟨Sk l.mn,(oW S n l.pi (fun C d e f h=>⟨fun a s Y H v u Q I r ⟨b,i,q⟩=>(c C d e f h b i).1.pg a s Y H v u Q I r q,fun a s Y H Q I ⟨b,i,q⟩=>(c C d e f h b i).2.1.2 a s Y H Q I q,fun a s Y H Q I ⟨b,i,q⟩=>(c C d e f h b i).2.2.pe a s Y H Q I q⟩) o).imp (Sl (fun _ _ _ _ _ _ _ st y=>(m.at st).frame y) j l.mn p.mn t.1 w.mn)⟩
noncomputable def jx(g:GM)(t:XM Bool)(m:XM PyData):List PyData->List PyData->ai->Option (List PyData×ai)
 |[],a,U=>some (a,U)
 |d::r,a,U=>(match g d U with
  |some c=>(match t c with
   |.ok true b=>(match m b with
    |.ok y e=>if a.length<sizeLine then jx g t m r (a++[y]) e else none
    |_=>none)
   |.ok false b=>jx g t m r a b
   |_=>none)
  |none=>none)
def tJ(own:Nat)(a:List Nat)(k e:Nat)(g:GM)(t:XM Bool)(m:XM PyData)(c:List PyData):XM PyData:=fun d=>match d[e]? with
 |some (some (.own io b))=>(match jx g t m c [] ((List.replicate own none++a.map fun j=>pA d[j]?).set (own+k) (some (.own true b))) with
  |some (f,h)=>(match h[own+k]? with
   |some (some (.own true i))=>if f.length<=sizeLine then .ok (.list f) (d.set e (some (.own io i))) else .bad
   |_=>.bad)
  |none=>.bad)
 |_=>.bad
def tK(own:Nat)(a:List Nat)(k b:Nat)(s:XM (List PyData))(g:GM)(t:XM Bool)(m:XM PyData):XM PyData:=fun U=>(s U).bind (tJ own a k b g t m)
theorem So(q:wp E (tK own.length f k u s g t m) U Q):tI own f k u (wp E s) (eO g) (wp dA t) (wp dA m) U Q:=az _ _ _ (fun n A o=>by
 unfold wp tJ at o;split at o
 .rename_i l
  revert o l
  split
  .rename_i io b hb;split
   .rename_i p B v;split
    .rename_i G w;split
     .rename_i H;intro l o;cases l;have I:kP own f k b A=(List.replicate own.length none++f.map fun j=>pA A[j]?).set (own.length+k) (some (.own true b)):=by unfold kP fz;rw[q1E]
      refine⟨io,b,hb,fun i r U=>jx g t m (n.drop i) r U=some (p,B),by rw[I];exact v,fun i d r U hd a=>?_,fun r U h=>?_⟩
      .have e:n.drop i=d::n.drop (i+1):=by obtain⟨x,J⟩:=q0a.mp hd;rw[<-J];exact q0D x
       simp only[e]at a;unfold jx at a;unfold eO;cases C:g d U with
       |none=>rw[C]at a;cases a
       |some L=>
        rw[C]at a;simp only at a ⊢;unfold wp;cases y:t L with
        |ex c D=>rw[y]at a;cases a
        |bad=>rw[y]at a;cases a
        |ok b D=>
         rw[y]at a;cases b with
         |false=>exact ei a
         |true=>
          refine ej ?_;simp only at a ⊢;cases z:m D with
          |ex c M=>rw[z]at a;cases a
          |bad=>rw[z]at a;cases a
          |ok N M=>
           rw[z]at a;simp only at a ⊢;split at a
           .rename_i h;exact⟨h,a⟩
           .cases a
      .simp only[q1s]at h;have e:r=p/\U=B:=by unfold jx at h;cases h;exact⟨rfl,rfl⟩
       obtain⟨rfl,rfl⟩:=e;exact⟨G,w,H,o⟩
     .intro l _;cases l
    .intro l _;cases l
   .intro l _;cases l
  .intro l _;cases l
 .rename_i l
  revert l
  repeat (first |(split) |(intro l;cases l))
 .exact o.elim) (bu (k:=tJ own.length f k u g t m) q)
theorem Sq(u:GF X.mg F)(S:ao X a own b c)(i:c[k]? = some jm)(v:X.calm=true)(w:own.length=n)(y:FI X F E h iter s)
  (j:∀C l o p r f,GF X.mg f->FG (bY X a (own++b) C l o p r) f h g/\lQ (bY X a (own++b) C l o p r) f dA e t/\FE (bY X a (own++b) C l o p r) f dA d m)
  (z:autoParam (∀x,foldedSetIterable iter X.env x=pure x) Zs._auto_1):FE X F E (.ListComp d [⟨h,iter,e,0⟩] a pos) (tK n c k jm s g t m):=by
 subst w;exact DE.imp' (Sn u S i v y j z) az fun U Q q=>So q
def tL(C:Addr)(i:Nat)(d:PyData):XM aa:=fun U=>match bX C U i with
 |some (false,fs)=>.ok (.own false (.pr C fs d)) (U.set i none)
 |_=>.bad
def tM(C:Addr)(i:Nat)(m:XM PyData):XM aa:=fun U=>match bX C U i with
 |some (false,_)=>(m U).bind (tL C i)
 |_=>.bad
theorem Sr{pos:Pos}{C:Addr}{k}(N:PE X (.Name x p1) (bQ i))(R:FE X F E e m)(S:autoParam (starEach [.Name x p1,e] X.env=(false,eval (.Name x p1) X.env)::starEach [e] X.env) Zq._auto_1)(T:autoParam (starEach [e] X.env=(false,eval e X.env)::starEach [] X.env) Zq._auto_1) :
  FO X F E (.Tuple [.Name x p1,e] k pos) (tM C i m):=
 ⟨az,(vz (dO N (dO R.pe eM T) S)).imp fun Y H Q g=>by
  obtain⟨U,O,st,q⟩:=g;unfold wp tM at q;cases r:bX C U i with
  |none=>rw[r]at q;exact q.elim
  |some u=>
   obtain⟨v,Z⟩:=u;cases v with
   |true=>rw[r]at q;exact q.elim
   |false=>
    rw[r]at q;obtain⟨a,a0,B,_,_,_⟩:=st.box (jr r);refine⟨.ref a,B,U,O,st,az _ _ _ (fun d U1 f s h O1 w s1 d1=>⟨by show 2<=sizeLine;decide,fun p l=>?_⟩) (bu (E:=E) (m:=m) (k:=tL C i) (U:=U) q)⟩;unfold wp tL at f;cases t:bX C U1 i with
    |none=>rw[t]at f;exact f.elim
    |some pr=>
     obtain⟨io,fs⟩:=pr;cases io with
     |true=>rw[t]at f;exact f.elim
     |false=>
      rw[t]at f;obtain⟨n,fp,z,D,G,t3,I,t5,t6,t7⟩:=w.take (jr t);obtain rfl:n=a:=by rw[B]at D;cases D;rfl
      obtain⟨dx,gs,A,e1,e2,e3,J⟩:=t3;have ne:∀b o,h b=some o->aI h p (.tup [.ref n,s]) b=some o:=fun b o e=>bR l b o e;have L:bP (al z h) (al z (aI h p (.tup [.ref n,s]))):=oX (bR l);refine f (.ref p) (aI h p (.tup [.ref n,s])) z fp ⟨G.grow (bR l),⟨p,rfl,n,s,dx,gs,A,ie cc (G.nofree p l),e1,ne _ _ e2,ne _ _ e3,J.keep (fun c hc=>?_) L,DV.mono L (DV.mono I.hid d1)⟩,t6⟩ (s1.trans (I.trans (.same (bR l))));obtain⟨o,M,_⟩:=J.live c hc;rw[M];exact ne _ _ M⟩
def DF(K:Frag)(x:Str)(st:Stmt):Prop:=∃(f:Addr) (b:Value) (c d:Option Addr) (g:Array (Option Value)) (kV e pm a h:Value),nsIn K mainGlobals x=some (some (.ref f))/\
 K.lookup f=some ⟨b,c,.func (fnOf x x (gu st) (fo st) (cS st) .none kV e pm d a h),g⟩/\codeIn K a x=true/\keepIn K (.ref f)=true
def MF(K:Frag)(C:Addr)(m q:Str)(st:Stmt):Prop:=∃(f:Addr) (b:Value) (c d:Option Addr) (g:Array (Option Value)) (kV e pm a h:Value),findIn K (.ref C) m=some (some (.ref f))/\isFn K (.ref f)=true/\
 K.lookup f=some ⟨b,c,.func (fnOf m q (gu st) (fo st) (cS st) .none kV e pm d a h),g⟩/\codeIn K a q=true/\keepIn K (.ref f)=true
theorem tN{P:List Value->Prop}(h:∀a,P [a]):∀c,c.length=1->P c:=fun c e=>by
 cases c with
 |nil=>exact absurd e (by decide)
 |cons a c=>
  cases c with
  |nil=>exact h a
  |cons b c=>exact absurd (q1R e) (Nat.succ_ne_zero _)
theorem xS{P:List Value->Prop}(h:∀a b,P [a,b]):∀c,c.length=2->P c:=fun c e=>by
 cases c with
 |nil=>exact absurd e (by decide)
 |cons a c=>exact tN (P:=fun l=>P (a::l)) (h a) c (q1R e)
theorem xT{P:List Value->Prop}(h:∀a b c,P [a,b,c]):∀d,d.length=3->P d:=fun d e=>by
 cases d with
 |nil=>exact absurd e (by decide)
 |cons a d=>exact xS (P:=fun l=>P (a::l)) (h a) d (q1R e)
theorem xU{P:List Value->Prop}(h:∀a b c d,P [a,b,c,d]):∀f,f.length=4->P f:=fun f e=>by
 cases f with
 |nil=>exact absurd e (by decide)
 |cons a f=>exact xT (P:=fun l=>P (a::l)) (h a) f (q1R e)
theorem Dk{P:List Value->Prop}(h:∀a b c d e,P [a,b,c,d,e]):∀f,f.length=5->P f:=fun f e=>by
 cases f with
 |nil=>exact absurd e (by decide)
 |cons a f=>exact xU (P:=fun l=>P (a::l)) (h a) f (q1R e)
abbrev Bd(x q:Str)(st:Stmt)(ps:List Str):Prop:=∀(kV a pm:Value) (d:Option Addr) (b e:Value) (c:List Value),c.length=ps.length->bindArgs (fnOf x q (gu st) (fo st) (cS st) .none kV a pm d b e) ⟨c,[]⟩=pure (ps.zip c)
theorem DF.fd{K:Frag}{st:Stmt}(D:DF K x st)(X:K.In h)(G:h.Ns mainGlobals mg)(d:Bd x x st ps:=by first |exact fun _ _ _ _ _ _=>tN fun _=>rfl |exact fun _ _ _ _ _ _=>xS fun _ _=>rfl |exact fun _ _ _ _ _ _=>xT fun _ _ _=>rfl |exact fun _ _ _ _ _ _=>xU fun _ _ _ _=>rfl |exact fun _ _ _ _ _ _=>Dk fun _ _ _ _ _=>rfl |exact fun _ _ _ _ _ _=>b fun _ _ _ _ _ _=>rfl):∃g fd,FD K mg x st ps g fd:=by obtain⟨f,_,_,_,_,_,_,_,_,_,a,l,c,k⟩:=D;exact⟨f,_,oQ l c k,mg_of X G a,(oQ l c k).binds d⟩
theorem MF.md{K:Frag}{st:Stmt}(D:MF K C m q st)(d:Bd m q st ps:=by first |exact fun _ _ _ _ _ _=>tN fun _=>rfl |exact fun _ _ _ _ _ _=>xS fun _ _=>rfl |exact fun _ _ _ _ _ _=>xT fun _ _ _=>rfl |exact fun _ _ _ _ _ _=>xU fun _ _ _ _=>rfl |exact fun _ _ _ _ _ _=>Dk fun _ _ _ _ _=>rfl |exact fun _ _ _ _ _ _=>b fun _ _ _ _ _ _=>rfl):∃g fd,MD K C m q st ps g fd:=by obtain⟨f,_,_,_,_,_,_,_,_,_,a,i,l,c,k⟩:=D;exact⟨f,_,oQ l c k,⟨a,i,k⟩,(oQ l c k).binds d⟩
def CK(P:Program)(w:World)(K:Frag)(mg:Str->Option Value)(base:Heap)(k:Nat)(x:Str)(f:FM):Prop:=∃st a g fd,FD K mg x st a g fd/\bU P w K mg base (dt P w) k g fd a (fu K mg f)
def CM(P:Program)(w:World)(K:Frag)(mg:Str->Option Value)(base:Heap)(C:Addr)(k:Nat)(x:Str)(f:FM):Prop:=∃q st a g fd,MD K C x q st a g fd/\bU P w K mg base (dt P w) k g fd a (fu K mg f)
theorem bB{K:Frag}{st:Stmt}(N)(h:∃g fd,FD K mg x st ps g fd)(S:ca N ps (cS st))
  (c:∀{g b A a s H E F d},bh k (A.deeper (envOfC x (cS st) s.heap.objs.size g b))->fc (ic (dt P w) P w K mg base N x (cS st) g b A a s H E) F d->
   iq (ic (dt P w) P w K mg base N x (cS st) g b A a s H E) F d (fo st) m) (e:autoParam (ps.length<=N.length) Zr._auto_1):CK P w K mg base (k+1) x (aW ps.length N.length m):=by
 obtain⟨g,fd,D⟩:=h;have q:=wh (P:=P) (w:=w) (mg:=mg) (base:=base) D.fn S e (fun _ _ _ _ _ _ _ _ f i=>c f i);exact⟨_,_,g,fd,D,q⟩
theorem gF{K:Frag}{st:Stmt}(N)(h:∃g fd,MD K C x q st ps g fd)(S:ca N ps (cS st))
  (c:∀{g b A a s H E F d},bh k (A.deeper (envOfC q (cS st) s.heap.objs.size g b))->fc (ic (dt P w) P w K mg base N q (cS st) g b A a s H E) F d->
   iq (ic (dt P w) P w K mg base N q (cS st) g b A a s H E) F d (fo st) m) (e:autoParam (ps.length<=N.length) Zr._auto_1):CM P w K mg base C (k+1) x (aW ps.length N.length m):=by
 obtain⟨g,fd,D⟩:=h;have q:=wh (P:=P) (w:=w) (mg:=mg) (base:=base) D.fn S e (fun _ _ _ _ _ _ _ _ f i=>c f i);exact⟨_,_,_,g,fd,D,q⟩
theorem aJ{pos:Pos}{p:Pos}(d:fc X F E)(c:CK X.prog X.w X.K X.mg X.base k x f)(h:bh j X.A)(l:FX X F E (e::es) mX)(n:autoParam (k<=j) Zr._auto_1)(o:autoParam (Gl X x) Zq._auto_1)(a:autoParam ((x==("__debug__":Str))=false) Zr._auto_1)
  (q:autoParam (starEach (e::es) X.env=(false,eval e X.env)::starEach es X.env) Zq._auto_1) (b:autoParam ((backTo pos (starEach es X.env)).any (·.1)=false) Zq._auto_1):FO X F E (.Call (.Name x p) (e::es) [] pos) (aF f mX):=by
 obtain⟨st,r,g,fd,D,G⟩:=c;exact nO d G D h l n o a q b
theorem fE{pos:Pos}{apos:Pos}{u}(l:fc X F E)(cl:di X.K C)(c:CM X.prog X.w X.K X.mg X.base C k m f)(n:bh j X.A)(o:PE X (.Name x p1) (bQ i))(r:FX X F E (e::es) mX)(s:autoParam (k<=j) Zr._auto_1)
  (a:autoParam (starEach (e::es) X.env=(false,eval e X.env)::starEach es X.env) Zq._auto_1) (d:autoParam ((backTo pos (starEach es X.env)).any (·.1)=false) Zq._auto_1)
  (t:autoParam (eval (.Call (.Attribute (.Name x p1) m apos) (e::es) [] pos) X.env=(do
   let h <-eval (.Name x p1) X.env
   standAt apos.atName
   let(f,first) <-holding [h] (getMethod h m u)
   callWith pos f first (backTo pos (starEach (e::es) X.env)) (backToKw pos (keywordEach [] X.env)))) Zq._auto_1) :
  FO X F E (.Call (.Attribute (.Name x p1) m apos) (e::es) [] pos) (ck C i m f mX):=by
 obtain⟨q,st,v,g,fd,D,G⟩:=c;exact Qb l cl D.mt G (n.mono s) D.b o r a d t
theorem mB{pos:Pos}{apos:Pos}{r}(d:fc X F E)(cl:di X.K C)(c:CM X.prog X.w X.K X.mg X.base C k m f)(h:bh j X.A)(l:PE X (.Name x p1) (bQ i))(n:autoParam (k<=j) Zr._auto_1)
  (o:autoParam (eval (.Call (.Attribute (.Name x p1) m apos) [] [] pos) X.env=(do
   let a <-eval (.Name x p1) X.env
   standAt apos.atName
   let(f,first) <-holding [a] (getMethod a m r)
   callWith pos f first (backTo pos (starEach [] X.env)) (backToKw pos (keywordEach [] X.env)))) Zq._auto_1) :
  FO X F E (.Call (.Attribute (.Name x p1) m apos) [] [] pos) (dU C i m f):=by
 obtain⟨q,st,s,g,fd,D,G⟩:=c;exact Qc d cl D.mt G (h.mono n) D.b l o
theorem xW{l:List Str}(h:decide l.Nodup=true):l.Nodup:=of_decide_eq_true h
theorem cb{X}{F}{x}{pos}(i)(a:decide X.N.Nodup=true:=by kernel_rfl)(b:autoParam (X.N[i]? = some x) Zq._auto_1)(c:Loc X.env.scope x:=by first |exact Or.inl rfl |exact Or.inr rfl)(d:X.fn x=true\/X.env.scope.names.lookup x=some .local:=by first |exact .inl rfl |exact .inr rfl |assumption):FG X F (.Name x pos) (ay i):=QG i (xW a) b c d
def tO(C:Addr)(i:Nat)(f:Str):XM aa:=fun U=>match bX C U i with
 |some (_,fs)=>(match fs.lookup f with
  |some (.l ds)=>.ok (.own false (.l ds)) U
  |_=>.bad)
 |none=>.bad
theorem Ss{F:Fx}{E:Str->ai->Prop}{pos:Pos}{G a}(I:Gl X "list")(J:X.mg "list" = none)(cl:di X.K C)(L:cP X.K C f)(M:PE X (.Name x p1) (bQ i))(hb:autoParam (attributeBase (.Name x p1) f X.env (eval (.Name x p1) X.env)=eval (.Name x p1) X.env) Zq._auto_1)
  (A:autoParam (starEach [.Attribute (.Name x p1) f a] X.env=(false,eval (.Attribute (.Name x p1) f a) X.env)::starEach [] X.env) Zq._auto_1) (h:autoParam ((backTo pos (starEach [] X.env)).any (·.1)=false) Zq._auto_1) :
  FO X F E (.Call (.Name "list" G) [.Attribute (.Name x p1) f a] [] pos) (tO C i f):=
 ⟨az,(vB vF I J (show bootBuiltins "list" = some (.type "list") by decide +kernel) (dO (ng M hb) eM A) (by decide) (by decide) A h).imp fun Y H Q c=>by
  obtain⟨U,O,st,q⟩:=c;unfold wp tO at q;cases r:bX C U i with
  |none=>rw[r]at q;exact q.elim
  |some p=>
   obtain⟨io,fs⟩:=p;rw[r]at q;simp only at q;cases b:fs.lookup f with
   |none=>rw[b]at q;exact q.elim
   |some t=>
    rw[b]at q;cases t with
    |d _=>exact q.elim
    |m _ _=>exact q.elim
    |l ds=>
     obtain⟨a0,N,R,b0,s,S,T,⟨b1,u,Z,_,hH,v⟩,_⟩:=st.fldUp r b rfl;cases Z;refine⟨_,s,a0,C,N,R,.ref b0,rfl,S,cl,L,T,b0,u,rfl,.inl (.of hH),fun p B=>?_⟩;obtain⟨O2,w,D⟩:=st.fresh (o:=.lst u) B trivial;exact q _ _ O2 [p] ⟨w,⟨p,rfl,rfl,u,cc,aO.mono D.hid v⟩,st.new1 B⟩ D⟩
def tP(i:Nat):XM aa:=fun U=>match iY U i with
 |some ds=>.ok (.own false (.l ds)) U
 |none=>.bad
theorem Su{F:Fx}{E:Str->ai->Prop}{pos:Pos}{n}(r:Gl X "list")(s:X.mg "list" = none)(t:PE X (.Name x p1) (bQ i))
  (k:autoParam (starEach [.Name x p1] X.env=(false,eval (.Name x p1) X.env)::starEach [] X.env) Zq._auto_1) (c:autoParam ((backTo pos (starEach [] X.env)).any (·.1)=false) Zq._auto_1) :
  FO X F E (.Call (.Name "list" n) [.Name x p1] [] pos) (tP i):=
 ⟨az,(vB vF r s (show bootBuiltins "list" = some (.type "list") by decide +kernel) (dO t eM k) (by decide) (by decide) k c).imp fun Y H Q a=>by
  obtain⟨U,O,st,q⟩:=a;unfold wp tP at q;cases d:iY U i with
  |none=>rw[d]at q;exact q.elim
  |some ds=>
   rw[d]at q;simp only at q;obtain⟨b,f,g,u,h⟩:=wU st d;refine⟨_,g,b,f,rfl,.inl (.of u),fun p l=>?_⟩;obtain⟨v,j,m⟩:=st.fresh (o:=.lst f) l trivial;exact q _ _ v [p] ⟨j,⟨p,rfl,rfl,f,cc,aO.mono m.hid h⟩,st.new1 l⟩ m⟩
@[simp] def xX(mt:XM Bool)(f g:XM aa):XM aa:=fun U=>(mt U).bind fun x d=>if x=true then f d else g d
theorem Dl{mt}(A:FB X F E c mt)(t:FO X F E a j)(z:FO X F E b l):FO X F E (.IfExp c a b pos) (xX mt j l):=
 ⟨az,(ze A.pt t.pe z.pe).imp fun Y H Q f=>by
  obtain⟨U,O,st,q⟩:=f;refine⟨U,O,st,az _ _ _ (fun d g u C w h y=>?_) (bu (k:=fun x g=>if x=true then j g else l g) q)⟩;cases d with
  |true=>exact ej ⟨g,w,h,t.mn _ _ _ (fun c B m v n o r res s=>m v n o r res (y.trans s)) u⟩
  |false=>exact ei ⟨g,w,h,z.mn _ _ _ (fun c B m v n o r res s=>m v n o r res (y.trans s)) u⟩⟩
theorem Sv{K}(C:P f.length)(w:al O H a=some (.lst f))(D:aO (al O H) f k)(d:my k=some o)(q:∀l vs,H l=none->aO (al O H) vs o->Q (.ref l) (aI H l (.lst vs))):TS.rSortedP P K [.ref a] H Q:=by
 have sq:dE K H a f:=.of (dH w).1;have go:∀(b:Bool) (mk:List Int->PyData) (rows:List (List Int)),k=rows.map mk->(∀y r,r∈rows->DV (al O H) y (mk r)->TS.RowV K H b y r)->o=(TS.sortR rows).map mk->TS.rSortedP P K [.ref a] H Q:=fun b mk rows G I J=>by
  subst G;have pr:=Rr D;have s:Paired (TS.RowV K H b) f rows:=by
   clear sq w;have:∀{f:List V}{m:List (List Int)},(∀r∈m,r∈rows)->Paired (fun y r=>DV (al O H) y (mk r)) f m->Paired (TS.RowV K H b) f m:=by
    intro f m A p
    induction p with
    |nil=>exact .nil
    |cons c _ L=>exact .cons (I _ _ (A _ q0g) c) (L fun r g=>A r (bG _ g))
   exact this (fun _ h=>h) pr
  refine⟨a,f,rows,b,C,rfl,sq,s,fun l B M N S=>?_⟩;subst J;refine q _ _ M ?_;have T:∀z∈B,DV (al O H) z.1 (mk z.2):=fun z U=>TS.Paired.zipAll pr z (N.mem_iff.mp U);have:=Rs (TS.Paired.ofZip (R:=fun y r=>DV (al O H) y (mk r)) T)
  rwa [S]at this
 unfold my at d;cases t:gf k with
 |some ns=>
  rw[t]at d;refine go false (fun r=>.int (r.headD 0)) (ns.map fun n=>[n]) (by rw[xp t];simp) (fun y r g u=>?_) ?_
  .obtain⟨n,_,rfl⟩:=q0R.mp g;exact⟨n,u.int_inv,rfl⟩
  .rw[<-q0n d,<-Rq,q1z];rfl
 |none=>
  rw[t]at d;cases v:jt k with
  |none=>rw[v]at d;cases d
  |some rows=>
   rw[v]at d;dsimp only at d;split at d
   .rename_i j;refine go true (fun r=>.tuple (r.map PyData.int)) rows (xq v) (fun y r g u=>?_) (q0n d).symm;obtain⟨b,B,rfl,hb,Y⟩:=u.tup_inv;rw[xr Y]at hb;refine⟨b,rfl,.inl (gM hb).1,fun z=>?_⟩;have:=q01.mp j r g;rw[z]at this;cases this
   .cases d
def tQ(d:PyData):XM aa:=fun U=>match d with
 |.list ds=>(match my ds with
  |some f=>.ok (.own false (.l f)) U
  |none=>.bad)
 |_=>.bad
def mC(m:XM PyData):XM aa:=fun U=>(m U).bind tQ
theorem Dm{pos:Pos}{p:Pos}(y:Gl X "sorted")(z:X.mg "sorted" = none)(j:FE X F E e m)
  (t:autoParam (starEach [e] X.env=(false,eval e X.env)::starEach [] X.env) Zq._auto_1) (n:autoParam ((backTo pos (starEach [] X.env)).any (·.1)=false) Zq._auto_1) :
  FO X F E (.Call (.Name "sorted" p) [e] [] pos) (mC m):=
 ⟨az,(nh TS.call_sorted y z (show bootBuiltins "sorted" = some (.builtin "sorted") by decide +kernel) (dO j.pe eM t) (by decide) (by decide) t n).imp fun Y H Q f=>by
  obtain⟨U,O,st,q⟩:=f;refine⟨U,O,st,az _ _ _ (fun d I g v J L h A B=>?_) (bu (m:=m) (k:=tQ) q)⟩;cases d with
  |list ds=>
   obtain⟨a,M,rfl,j,C⟩:=B.lst_inv;unfold wp tQ at g;cases r:my ds with
   |none=>simp only[r]at g
   |some N=>simp only[r]at g;refine Sv (P:=fun _=>True) trivial j C r fun l vs u D=>?_;obtain⟨G,s,w⟩:=h.fresh (o:=.lst vs) u trivial;exact g _ _ G [l] ⟨s,⟨l,rfl,rfl,vs,cc,aO.mono w.hid D⟩,h.new1 u⟩ (A.trans w)
  |_=>exact g.elim⟩
def tR(i:Nat):XM aa:=fun U=>match gj U i with
 |some (false,d)=>(match mz d with
  |some ns=>if 64<=ns.length then .bad else .ok (.own false (.l ((TS.sortR (ns.map fun p=>[p.1,p.2])).map fun r=>.tuple (r.map PyData.int)))) U
  |none=>.bad)
 |_=>.bad
theorem Sw{F:Fx}{E:Str->ai->Prop}{pos:Pos}{p:Pos}{p1:Pos}{apos:Pos}{ipos:Pos}(i)(R:X.calm=true)(S:Gl X "sorted")(j:X.mg "sorted" = none)(T:autoParam (X.N[i]? = some x) Zq._auto_1)(Z:kr X.env.scope x:=by first |exact Or.inl rfl |exact Or.inr (Or.inl rfl) |exact Or.inr (Or.inr rfl))(hd:autoParam ((x==("__debug__":Str))=false) Zr._auto_1)(w:autoParam ((x==("__classdict__":Str))=false) Zr._auto_1)
  (k:autoParam (attributeBase (.Name x p1) "items" X.env (eval (.Name x p1) X.env)=eval (.Name x p1) X.env) Zq._auto_1) (l:autoParam ((apos.endLine==ipos.line)=true) Zq._auto_1)
  (he:autoParam (starEach [.Call (.Attribute (.Name x p1) "items" apos) [] [] ipos] X.env=(false,eval (.Call (.Attribute (.Name x p1) "items" apos) [] [] ipos) X.env)::starEach [] X.env) Zq._auto_1) (y:autoParam ((backTo pos (starEach [] X.env)).any (·.1)=false) Zq._auto_1) :
  FO X F E (.Call (.Name "sorted" p) [.Call (.Attribute (.Name x p1) "items" apos) [] [] ipos] [] pos) (tR i):=
 ⟨az,(Sd R S j T Z hd w k l he y).imp fun Y H Q m=>by
  obtain⟨U,O,st,q⟩:=m;unfold wp tR at q;cases j:gj U i with
  |none=>simp only[j]at q
  |some pr=>
   obtain⟨tk,A⟩:=pr;cases tk with
   |true=>simp only[j]at q
   |false=>
    cases B:mz A with
    |none=>simp only[j,B]at q
    |some ns=>
     simp only[j,B]at q
     by_cases n:64<=ns.length
     .rw[if_pos n]at q;exact q.elim
     rw[if_neg n]at q;obtain⟨a,ks,h1,J,h3⟩:=CS st j;rw[Dh h3 B]at J;refine⟨a,ns,by lia,h1,J,fun p g d sm hp C hq hr=>?_⟩;have e0:g=aI (fun c=>if c=p then none else g c) p (.lst (d.map V.ref)):=by
      funext c;unfold aI
      by_cases f:c=p
      .subst f;simp[C]
      .simp[f]
     have s:bP H (fun c=>if c=p then none else g c):=fun c o D=>by
      have f:c≠p:=fun z=>by rw[z,hp]at D;cases D
      show(if c=p then none else g c)=some o;rw[if_neg f];exact sm c o D
     have u:=st.grow s;obtain⟨L,v,G⟩:=u.fresh (p:=p) (o:=.lst (d.map V.ref)) (by simp) trivial;rw[<-e0]at v G;refine q (.ref p) g L [p] ⟨v,⟨p,rfl,rfl,_,C,?_⟩,u.new1 (by simp)⟩ ((aK.same s).trans G);have go:∀(d:List Addr) (rows:List (List Int)),(∀b∈d,H b=none)->Paired (fun(q:Addr) (row:List Int)=>g q=some (.tup (row.map V.int))) d rows->aO (al L g) (d.map V.ref) (rows.map fun r=>.tuple (r.map PyData.int)):=fun d=>by
      induction d with
      |nil=>intro rows _ h;cases h;exact .nil
      |cons b d ih=>
       intro rows M h;cases h with
       |cons h t=>refine .cons (.tup (.inl (G.hid _ _ (ie ?_ (st.nofree b (M b q0g))))) (xL _)) (ih _ (fun c I=>M c (bG _ I)) t);show(if b=p then none else g b)=_;rw[if_neg fun z=>by rw[z,C]at h;cases h];exact h
     exact go d _ hq hr⟩
def nV(own:Nat)(d:List Nat)(g:GM)(t:XM Bool)(m:XM PyData)(f:List PyData):XM aa:=fun U=>match bW g t m f [] (iy own d U) with
 |some h=>if h.length<=sizeLine then .ok (.own false (.l h)) U else .bad
 |none=>.bad
def mD(own:Nat)(d:List Nat)(s:XM (List PyData))(g:GM)(t:XM Bool)(m:XM PyData):XM aa:=fun U=>(s U).bind (nV own d g t m)
theorem Dn(hG:GF X.mg F)(S:ao X d own l j)(hc:X.calm=true)(hn:own.length=n)(hi:FI X F E tg iter s)
  (z:∀C G J L M f,GF X.mg f->FG (bY X d (own++l) C G J L M) f tg g/\lQ (bY X d (own++l) C G J L M) f dA D t/\FE (bY X d (own++l) C G J L M) f dA B m)
  (hs:autoParam (∀x,foldedSetIterable iter X.env x=pure x) Zs._auto_1):FO X F E (.ListComp B [⟨tg,iter,D,0⟩] d pos) (mD n j s g t m):=by
 subst hn;obtain⟨hg,ht,he⟩:=z 0 [] (PySem.start X.prog).1 (fun _=>none) [] F hG;have pe:PE X (.ListComp B [⟨tg,iter,D,0⟩] d pos) (jK own j (nq X.K F (wp E s)) (fun v Y H Q=>∃f,GF X.mg f/\jL X.K f (eO g) v Y H Q) (fun Y H Q=>∃f,GF X.mg f/\il X.K f (wp dA t) Y H Q) (fun Y H Q=>∃f,GF X.mg f/\fq X.K f (wp dA m) Y H Q)):=oW S hc hi.pi (fun C G J L M=>⟨fun h s Y H v u Q I r w=>by obtain⟨f,N,q⟩:=w;exact(z C G J L M f N).1.pg h s Y H v u Q I r q,fun h s Y H Q I R=>by obtain⟨f,N,q⟩:=R;exact(z C G J L M f N).2.1.2 h s Y H Q I q,fun h s Y H Q I T=>by obtain⟨f,N,q⟩:=T;exact(z C G J L M f N).2.2.pe h s Y H Q I q⟩) hs;refine⟨az,pe.imp fun Y H Q w=>?_⟩;obtain⟨U,O,st,q⟩:=w;refine wo (fun _ _ _ _ _ st=>hG.into st) hi.mn hg.mn ht.1 he.mn Y H _ ⟨U,O,st,Cg (az _ _ _ (fun a1 U1 A=>?_) (bu (m:=s) (k:=nV own.length j g t m) q))⟩;unfold wp nV at A;cases Z:bW g t m a1 [] (iy own.length j U1) with
 |none=>rw[Z]at A;exact A.elim
 |some ys=>
  rw[Z]at A;simp only at A
  by_cases y:ys.length<=sizeLine
  .rw[if_pos y]at A;refine⟨ys,rfl,y,fun H' O' vs p a0 s' dv hp=>?_⟩;obtain⟨O2,a2,s2⟩:=a0.fresh (o:=.lst vs) hp trivial;exact A _ _ O2 [p] ⟨a2,⟨p,rfl,rfl,vs,cc,aO.mono s2.hid dv⟩,a0.new1 hp⟩ (s'.trans s2)
  .rw[if_neg y]at A;exact A.elim
def bx(K a:Frag)(x:Str)(st:Stmt):Prop:=∃(f:Addr) (c:Value) (d e:Option Addr) (h:Array (Option Value)) (kV g pm b i:Value),nsIn K mainGlobals x=some (some (.ref f))/\
 K.lookup f=some ⟨c,d,.func (fnOf x x (gu st) (fo st) (cS st) .none kV g pm e b i),h⟩/\nsIn a mainGlobals x=some (some (.ref f))/\
 a.lookup f=some ⟨c,d,.func (fnOf x x (gu st) (fo st) (cS st) .none kV g pm e b i),h⟩/\codeIn a b x=true/\keepIn a (.ref f)=true
def fQ(K a:Frag)(C:Addr)(m q:Str)(st:Stmt):Prop:=∃(f:Addr) (c:Value) (d e:Option Addr) (h:Array (Option Value)) (kV g pm b i:Value),findIn K (.ref C) m=some (some (.ref f))/\
 K.lookup f=some ⟨c,d,.func (fnOf m q (gu st) (fo st) (cS st) .none kV g pm e b i),h⟩/\findIn a (.ref C) m=some (some (.ref f))/\isFn a (.ref f)=true/\
 a.lookup f=some ⟨c,d,.func (fnOf m q (gu st) (fo st) (cS st) .none kV g pm e b i),h⟩/\codeIn a b q=true/\keepIn a (.ref f)=true
theorem bx.df{K:Frag}{st:Stmt}(D:bx K K' x st):DF K' x st:=by obtain⟨f,b,d,e,g,h,i,j,n,o,_,_,a,l,c,k⟩:=D;exact⟨f,b,d,e,g,h,i,j,n,o,a,l,c,k⟩
theorem fQ.mf{K:Frag}{st:Stmt}(D:fQ K K' C m q st):MF K' C m q st:=by obtain⟨f,b,d,e,g,h,j,n,o,p,_,_,a,i,l,c,k⟩:=D;exact⟨f,b,d,e,g,h,j,n,o,p,a,i,l,c,k⟩
end L2.L3
namespace Due
abbrev Sh:=List (Int×Int)
noncomputable def tS(a:Int):Sh->Int->Int
 |[],_=>a
 |(b,c)::r,m=>tS (if b<=m then c else a) r m
def qp(a:Int)(b:Sh)(m:Int):Int:=m+tS a b m
def nW:Int->Sh->Prop
 |_,[]=>True
 |lo,(b,_)::r=>lo<b/\nW b r
noncomputable def Do(g:Int):Int->Int->Sh->Int
 |s,a,[]=>max s (g - a)
 |s,a,(b,c)::r=>if max s (g - a)<b then max s (g - a) else Do g b c r
def Dp(a:Int)(b:Sh):Prop:=(-12<=a/\a<=14)/\∀p∈b,-12<=p.2/\p.2<=14
def Sx(a:Int)(b:Sh)(h:Int):Int:=-((h - qp a b 0) / 24)
def Sy(a:Int)(b:Sh)(h:Int)(c:Nat):Int:=Do ((Sx a b h+c) * 24+h) 0 a b
inductive eV where
 |once (m:Int) |every (f s:Int) |daily (h:Int)
def gZ(a:Int)(b:Sh):eV->Nat->Option Int
 |.once m,c=>if c=0 then some m else none
 |.every f s,c=>some (f+c * s)
 |.daily h,c=>some (Sy a b h c)
structure fF (a:Int) (ss:Sh):Prop where
 len:ss.length<=6
 rise:nW 0 ss
 ah:Dp a ss
 top:∀p∈ss,p.1<=9999
def mE:eV->Prop
 |.once m=>0<=m/\m<=9999
 |.every f s=>(0<=f/\f<=9999)/\1<=s/\s<=999
 |.daily h=>0<=h/\h<=23
def Dq(a:Int)(b:Sh)(p:eV)(c:Nat):Int:=(gZ a b p c).getD 0
end Due
noncomputable section
namespace K3
open PySem PySem.Spec L2 L2.L3 PyProof.Rows
noncomputable abbrev xY:List Str:=["NoZone","NoPlan","NoMoment","NoCount","NoDeeds","NoRunner","NoTerm","NotHolder","Nothing","NoCall","NoHolds"]
def tT:SM:=(bF (ed (iu "int" (xV 0)) (ed (Ba (iu "bool" (xV 0))) (ny (fun i j=>decide (i<=j)) (fun i j=>decide (i<=j)) (xV 1) (xV 0) (xV 2)))))
def gl:FM:=aW 3 3 tT
def xZ:SM:=(bF (ed (iu "tuple" (xV 0)) (aj (aT false) (eP gB (av (xV 0) aP)) (xV 1))))
def kQ:FM:=aW 2 2 xZ
def ya:SM:=(bo (aQ (aj lV (aj aM (xV 3) (xC (.int 0))) (xV 1))) (bN (aj aM (xV 3) (xC (.int 1))) (ay 2)) bt)
def Dr:SM:=(au (bN (aj aM (xV 0) (xC (.int 0))) (ay 2))
  (au (eE (pF (aj aM (xV 0) (xC (.int 1)))) (ay 3) ya)
  (bF (aj eI (xV 1) (xV 2)))))
def qr:FM:=aW 2 4 Dr
def tU:SM:=(au (bo (aQ (aj (aT false) (aj aM (xV 1) (xC (.int 0))) (xC (.str "once")))) (bF (si (aQ (aj (aT false) (xV 2) (xC (.int 0)))) (aj aM (xV 1) (xC (.int 1))) (xC .none))) bt)
  (au (bo (aQ (aj (aT false) (aj aM (xV 1) (xC (.int 0))) (xC (.str "every")))) (bF (aj eI (aj aM (xV 1) (xC (.int 1))) (aj jU (xV 2) (aj aM (xV 1) (xC (.int 2)))))) bt)
  (cE pO)))
def fG:FM:=aW 3 3 tU
def qs:XM Bool:=(aQ (aj (aT false) (aj aM (xV 0) (xC (.int 3))) (xV 1)))
def qt:XM PyData:=(aj aM (xV 0) (xC (.int 2)))
def nX:XM PyData:=(wV kL 1 (xV 0))
def Ds:SM:=(au (bN (nF 1 [1] (iw (xV 0)) (ay 0) qs qt) (ay 2))
  (bF (eP wB (av (nF 1 [2] (iC (gk ["begun","done","left","unsure"])) (ay 0) dB nX) aP))))
def tV:FM:=aW 2 3 Ds
def tW:SM:=(au (bo (aQ (aj jq (xV 1) (sj 0))) (bF (sk 0 (xV 1))) bt)
  (au (bo (wD 0) (bF (xC (.int 0))) bt)
  (bF (aj eI (aj jU (sk 0 (aj jo (xV 1) (sj 0))) (xC (.int 31))) (xV 1)))))
def nY:FM:=aW 2 2 tW
def Dt(C:Addr):SM:=(bF (ed (aj gU (cg C 0 "holder") (xC .none)) (aj jq (xV 1) (cg C 0 "until"))))
def qu(C:Addr):FM:=aW 2 2 (Dt C)
def yb(C:Addr):SM:=(au (bN (aj aM (xV 1) (xC (.int 2))) (ay 2))
  (au (bN (aj aM (xV 1) (xC (.int 3))) (ay 3))
  (au (bN (aj aM (xV 1) (xC (.int 4))) (ay 4))
  (au (pR C 0 "rows" 1)
  (au (sI C 0 "words" 3 4 (xV 2))
  (au (bo (aQ (aj (aT false) (xV 2) (xC (.str "begun")))) (dq C 0 "begun" (cm (av (xV 3) (av (xV 4) (av (cg C 0 "holds") aP))))) (au (dq C 0 "begun" (xC .none))
  (sJ C 0 "settled" 3 (aj eI (xV 4) (xC (.int 1))))))
  (bF (cm (av (xV 2) (av (xV 3) (av (xV 4) aP)))))))))))
def iE(C:Addr):FM:=aW 2 5 (yb C)
def yc(C:Addr):SM:=(bF (ed (aj gU (cg C 0 "begun") (xC .none)) (aj (aT false) (aj aM (cg C 0 "begun") (xC (.int 2))) (cg C 0 "holds"))))
def nZ(C:Addr):FM:=aW 1 1 (yc C)
def Du(C:Addr):SM:=(bF (cm (av (cg C 0 "holder") (av (cg C 0 "until") (av (cg C 0 "holds") aP)))))
def tZ(C:Addr):FM:=aW 1 1 (Du C)
def Dv(C:Addr):SM:=(cE (tO C 0 "rows"))
def mF(C:Addr):FM:=aW 1 1 (Dv C)
def Dw:SM:=(cE (aF gl (af (xV 0) (af (xC (.int (-12))) (af (xC (.int (14))) aD)))))
def qv:FM:=aW 1 1 Dw
def Dx:SM:=(cE (aF gl (af (xV 0) (af (xC (.int 0)) (af (xC (.int (9999))) aD)))))
def kR:FM:=aW 1 1 Dx
def Dy:SM:=(cE (aF gl (af (xV 0) (af (xC (.int 0)) (af (xC (.int (3))) aD)))))
def oa:FM:=aW 1 1 Dy
def Dz:SM:=(cE (aF gl (af (xV 0) (af (xC (.int 1)) (af (xC (.int (99))) aD)))))
def qw:FM:=aW 1 1 Dz
def yd:SM:=(bF (ed (aX (aF kQ (af (xV 0) (af (xV 2) aD)))) (ed (iu "str" (aj aM (xV 0) (xC (.int 0)))) (aj (aT false) (aj aM (xV 0) (xC (.int 0))) (xV 1)))))
def jd:FM:=aW 3 3 yd
def qx:SM:=(au (bo (aQ (aj (aT false) (aj aM (xV 1) (xC (.int (1)))) (xC (.str "all")))) (bF (xC (.bool false))) bt)
  (au (bo (aQ (aj (aT false) (aj aM (xV 1) (xC (.int (1)))) (xC (.str "last")))) (au (bN (aX (aF fG (af (xV 0) (af (aj aM (xV 1) (xC (.int (0)))) (af (aj eI (xV 2) (xC (.int 1))) aD))))) (ay 4))
  (bF (ed (aj gU (xV 4) (xC .none)) (aj lV (xV 4) (xV 3))))) bt)
  (bF (aj kM (aj ji (xV 3) (aX (aF fG (af (xV 0) (af (aj aM (xV 1) (xC (.int (0)))) (af (xV 2) aD)))))) (aj aM (aj aM (xV 1) (xC (.int (1)))) (xC (.int 1)))))))
def mG:FM:=aW 4 5 qx
def mH(C:Addr):XM PyData:=(aX (aF tV (af (xV 1) (af (xV 0) aD))))
def DC(C:Addr):SM:=(au (bN (aX (dU C 0 "log" (mF C))) (ay 1))
  (cE (mD 1 [1] (eQ bL (av (eP gB (av (cg C 0 "deeds") aP)) aP)) (ay 0) dB (mH C))))
def qy(C:Addr):FM:=aW 1 2 (DC C)
def jy(C:Addr):SM:=(bo (aQ (aj (aT false) (xV 5) (xC (.str "begun")))) (lS 2 (cm (av (xV 6) (av (xV 7) aP))) (xV 3)) (bo (aQ (aj (aT false) (xV 5) (xC (.str "done")))) (gW 1 (cm (av (xV 6) (av (xV 7) (av (aj ji (xV 3) (sB 2 (cm (av (xV 6) (av (xV 7) aP))))) aP))))) bt))
def DH(C:Addr):SM:=(au (ef 1 (iz aP))
  (au (ef 2 (lR true))
  (au (eE (iw (aX (dU C 0 "log" (mF C)))) (du 5 (bC (ay 3) (bC (ay 4) (bC (ay 5) (bC (ay 6) (bC (ay 7) fe)))))) (jy C))
  (cE (mC (xV 1))))))
def qA(C:Addr):FM:=aW 1 8 (DH C)
def ye:SM:=(au (bN (aX (aF qr (af (xV 0) (af (xV 4) aD)))) (ay 5))
  (lS 3 (xV 5) (aj eI (nJ 3 (xV 5) (xC (.int 0))) (xC (.int 1)))))
def DJ:SM:=(au (ef 3 (lR false))
  (au (eE (eQ iZ (av (xV 1) (av (aj eI (xV 2) (xC (.int 1))) aP))) (ay 4) ye)
  (kK 3)))
def ua:FM:=aW 3 6 DJ
def DK:SM:=(au (bN (aj jo (aj eI (aj eI (aj jU (aX (aF nY (cK 0 (af (xV 1) aD)))) (xC (.int 1103515245))) (aj jU (xC (.int 7919)) (xV 1))) (xC (.int 12345))) (xC (.int 2147483647))) (ay 3))
  (bF (aj jo (aj jo (aj jo (aj BN (xV 3) (xC (.int 5))) (xC (.int 2147483647))) (xC (.int 999983))) (xV 2))))
def ub:FM:=aW 3 4 DK
def mI(C:Addr):SM:=(au (bN (pT C 0 "settled" 2) (ay 3))
  (au (bN (aX (aF fG (af (cg C 0 "zone") (af (aj aM (aj aM (cg C 0 "deeds") (xV 2)) (xC (.int (0)))) (af (xV 3) aD))))) (ay 4))
  (bo (aQ (aj gU (xV 4) (xC .none))) (gW 1 (cm (av (xV 4) (av (xV 2) (av (xV 3) aP))))) bt)))
def Sz(C:Addr):SM:=(au (ef 1 (iz aP))
  (au (eE (eQ bL (av (eP gB (av (cg C 0 "deeds") aP)) aP)) (ay 2) (mI C))
  (bF (kN 1))))
def yf(C:Addr):FM:=aW 1 5 (Sz C)
def yg(C:Addr):SM:=(au (bN (aj aM (cg C 0 "begun") (xC (.int 0))) (ay 3))
  (au (bN (si (aQ (aj aM (aj aM (cg C 0 "deeds") (xV 3)) (xC (.int (2))))) (xC (.str "begun")) (xC (.str "unsure"))) (ay 4))
  (cE (ck C 0 "add_row" (iE C) (af (cm (av (xV 2) (av (xV 1) (av (xV 4) (av (xV 3) (av (aj aM (cg C 0 "begun") (xC (.int 1))) aP)))))) aD)))))
def qC(C:Addr):FM:=aW 3 5 (yg C)
def uc:SM:=(au (bo (jQ (dP (aQ (aX (aF kQ (af (xV 2) (af (xC (.int 2)) aD)))))) (dP (aQ (aX (aF qv (af (aj aM (xV 2) (xC (.int 1))) aD)))))) (bF (xC (.bool false))) bt)
  (au (bo (dP (aQ (aX (aF gl (af (aj aM (xV 2) (xC (.int 0))) (af (xV 1) (af (xC (.int (9999))) aD))))))) (bF (xC (.bool false))) bt)
  (bN (aj eI (aj aM (xV 2) (xC (.int 0))) (xC (.int 1))) (ay 1))))
def DL:SM:=(au (bo (jQ (dP (aQ (iu "tuple" (xV 0)))) (aQ (aj kM (eP gB (av (xV 0) aP)) (xC (.int (6)))))) (bF (xC (.bool false))) bt)
  (au (bN (xC (.int 1)) (ay 1))
  (au (eE (pF (xV 0)) (ay 2) uc)
  (bF (xC (.bool true))))))
def ud:FM:=aW 1 3 DL
def ue:SM:=(au (bo (aQ (aX (aF jd (af (xV 0) (af (xC (.str "once")) (af (xC (.int 2)) aD)))))) (cE (aF kR (af (aj aM (xV 0) (xC (.int 1))) aD))) bt)
  (au (bo (aQ (aX (aF jd (af (xV 0) (af (xC (.str "every")) (af (xC (.int 3)) aD)))))) (bF (ed (aX (aF kR (af (aj aM (xV 0) (xC (.int 1))) aD))) (aX (aF gl (af (aj aM (xV 0) (xC (.int 2))) (af (xC (.int 1)) (af (xC (.int (999))) aD))))))) bt)
  (bF (ed (aX (aF jd (af (xV 0) (af (xC (.str "daily")) (af (xC (.int 2)) aD))))) (aX (aF gl (af (aj aM (xV 0) (xC (.int 1))) (af (xC (.int 0)) (af (xC (.int (23))) aD)))))))))
def mJ:FM:=aW 1 1 ue
def uf:SM:=(au (bo (aQ (iu "str" (xV 0))) (bF (Be (aj (aT false) (xV 0) (xC (.str "all"))) (aj (aT false) (xV 0) (xC (.str "last"))))) bt)
  (bF (ed (aX (aF jd (af (xV 0) (af (xC (.str "within")) (af (xC (.int 2)) aD))))) (aX (aF gl (af (aj aM (xV 0) (xC (.int 1))) (af (xC (.int 0)) (af (xC (.int (999))) aD))))))))
def og:FM:=aW 1 1 uf
def DM:SM:=(bo (dP (aQ (aX (aF kR (af (xV 0) aD))))) (fC "NoMoment") bt)
def gG:FM:=aW 1 1 DM
def DP:SM:=(bo (dP (aQ (aX (aF oa (af (xV 0) aD))))) (fC "NoRunner") bt)
def ug:FM:=aW 1 1 DP
def DQ:SM:=(bo (dP (aQ (aX (aF qw (af (xV 0) aD))))) (fC "NoTerm") bt)
def uh:FM:=aW 1 1 DQ
def ui:XM PyData:=(aX (aF jd (af (xV 1) (af (xV 0) (af (CU [("take",4),("give",3),("step",3),("finish",3)] (xV 0)) aD)))))
def DR:SM:=(bo (dP (aQ (eP tG (av (nF 1 [0] (iC (gk ["take","give","step","finish"])) (ay 0) dB ui) aP)))) (fC "NoCall") bt)
def qD:FM:=aW 1 1 DR
def yh:SM:=(au (bo (aQ (aX (aF jd (af (xV 0) (af (xC (.str "take")) (af (xC (.int 4)) aD)))))) (bF (ed (aX (aF oa (af (aj aM (xV 0) (xC (.int 1))) aD))) (ed (aX (aF kR (af (aj aM (xV 0) (xC (.int 2))) aD))) (aX (aF qw (af (aj aM (xV 0) (xC (.int 3))) aD)))))) bt)
  (bF (ed (aX (aF jd (af (xV 0) (af (xC (.str "give")) (af (xC (.int 3)) aD))))) (ed (aX (aF oa (af (aj aM (xV 0) (xC (.int 1))) aD))) (aX (aF kR (af (aj aM (xV 0) (xC (.int 2))) aD)))))))
def qE:FM:=aW 1 1 yh
def DU:SM:=(au (gW 1 (xC (.int 0)))
  (cE (aF ub (cK 0 (af (sx 1) (af (xV 2) aD))))))
def ka:FM:=aW 3 3 DU
def qF(C:Addr):SM:=(au (bN (aX (dU C 0 "first_unsettled" (yf C))) (ay 3))
  (au (bo (aQ (aj lM (xV 3) (xC .none))) (bF (cm (av (xC (.str "idle")) (av (xC .none) aP)))) bt)
  (au (bo (aQ (aj kM (aj aM (xV 3) (xC (.int 0))) (xV 2))) (bF (cm (av (xC (.str "idle")) (av (aj aM (xV 3) (xC (.int 0))) aP)))) bt)
  (au (bN (aj aM (xV 3) (xC (.int 1))) (ay 4))
  (au (bN (aj aM (xV 3) (xC (.int 2))) (ay 5))
  (au (bN (si (aQ (aX (aF mG (af (cg C 0 "zone") (af (aj aM (cg C 0 "deeds") (xV 4)) (af (xV 5) (af (xV 2) aD))))))) (xC (.str "left")) (xC (.str "begun"))) (ay 6))
  (cE (ck C 0 "add_row" (iE C) (af (cm (av (xV 2) (av (xV 1) (av (xV 6) (av (xV 4) (av (xV 5) aP)))))) aD)))))))))
def mK(C:Addr):FM:=aW 3 7 (qF C)
def DY:SM:=(bF (ed (aX (aF kQ (af (xV 0) (af (xC (.int 2)) aD)))) (ed (aX (aF qv (af (aj aM (xV 0) (xC (.int 0))) aD))) (aX (aF ud (af (aj aM (xV 0) (xC (.int 1))) aD))))))
def uj:FM:=aW 1 1 DY
def DZ:SM:=(bF (ed (aX (aF kQ (af (xV 0) (af (xC (.int 3)) aD)))) (ed (aX (aF mJ (af (aj aM (xV 0) (xC (.int 0))) aD))) (ed (aX (aF og (af (aj aM (xV 0) (xC (.int 1))) aD))) (iu "bool" (aj aM (xV 0) (xC (.int 2))))))))
def uk:FM:=aW 1 1 DZ
def Ea:SM:=(bo (dP (aQ (aX (aF mJ (af (xV 0) aD))))) (fC "NoPlan") bt)
def oh:FM:=aW 1 1 Ea
def Eb:SM:=(au (cq (aF gG (af (xV 0) aD)))
  (au (cq (aF gG (af (xV 1) aD)))
  (bo (aQ (aj jq (xV 1) (xV 0))) (fC "NoMoment") bt)))
def qG:FM:=aW 2 2 Eb
def um:SM:=(au (bo (jQ (dP (aQ (aX (aF qE (af (xV 2) aD))))) (aQ (aj jq (aj aM (xV 2) (xC (.int 2))) (xV 1)))) (fC "NoHolds") bt)
  (bN (aj aM (xV 2) (xC (.int 2))) (ay 1)))
def Ec:SM:=(au (bo (dP (aQ (iu "list" (xV 0)))) (fC "NoHolds") bt)
  (au (bN (xC (.int 0)) (ay 1))
  (eE (iw (xV 0)) (ay 2) um)))
def kS:FM:=aW 1 3 Ec
def Ed:SM:=(bF (aj aM (xV 2) (aX (aF ka (cK 0 (cK 1 (af (eP gB (av (xV 2) aP)) aD)))))))
def qH:FM:=aW 3 3 Ed
def yi(C:Addr):SM:=(au (cq (aF ug (af (xV 1) aD)))
  (au (cq (aF gG (af (xV 2) aD)))
  (bo (wy (aQ (aj gU (cg C 0 "last") (xC .none))) (aQ (aj jq (xV 2) (cg C 0 "last")))) (fC "NoMoment") bt)))
def kT(C:Addr):FM:=aW 3 3 (yi C)
def uo:XM PyData:=(aX (aF uk (af (xV 0) aD)))
def Ee:SM:=(au (bo (jQ (dP (aQ (iu "tuple" (xV 0)))) (aQ (aj kM (eP gB (av (xV 0) aP)) (xC (.int (6)))))) (bF (xC (.bool false))) bt)
  (bF (eP nB (av (nF 1 [] (pF (xV 0)) (ay 0) dB uo) aP))))
def yj:FM:=aW 1 1 Ee
def Ef:SM:=(bo (dP (aQ (aX (aF uj (af (xV 0) aD))))) (fC "NoZone") bt)
def jz:FM:=aW 1 1 Ef
def uq:SM:=(au (bN (aj eI (aj eI (xV 4) (xC (.int 1))) (aX (aF ka (cK 0 (cK 1 (af (xV 2) aD)))))) (ay 4))
  (bN (aj sg (xV 3) (cm (av (cm (av (xV 4) (av (aX (aF qH (cK 0 (cK 1 (af (lN (av (xC (.int 0)) (av (xC (.int 1)) (av (xC (.int 2)) (av (pE (xC (.int 1))) (av (xC (.int 14)) (av (pE (xC (.int 12))) (av (xC (.int 3)) aP)))))))) aD))))) aP))) aP))) (ay 3)))
def Eg:SM:=(au (bN (cm (av (cm aP) (av (xC (.int 0)) aP))) (du 2 (bC (ay 3) (bC (ay 4) fe))))
  (au (eE (eQ bL (av (aX (aF ka (cK 0 (cK 1 (af (xC (.int 5)) aD))))) aP)) (ay 5) uq)
  (bF (cm (av (aX (aF qH (cK 0 (cK 1 (af (lN (av (xC (.int 0)) (av (xC (.int 1)) (av (xC (.int 2)) (av (pE (xC (.int 1))) (av (xC (.int 14)) (av (pE (xC (.int 12))) aP))))))) aD))))) (av (xV 3) aP))))))
def ur:FM:=aW 3 6 Eg
def Eh(C:Addr):SM:=(au (cq (ck C 0 "check_call" (kT C) (af (xV 1) (af (xV 2) aD))))
  (bo (jQ (dP (aQ (aX (ck C 0 "is_held" (qu C) (af (xV 2) aD))))) (aQ (aj (aT true) (cg C 0 "holder") (xV 1)))) (fC "NotHolder") bt))
def kU(C:Addr):FM:=aW 3 3 (Eh C)
def uu(C:Addr):SM:=(au (cq (ck C 0 "check_call" (kT C) (af (xV 1) (af (xV 2) aD))))
  (au (cq (aF uh (af (xV 3) aD)))
  (au (dq C 0 "last" (xV 2))
  (au (bo (dP (aQ (aX (ck C 0 "is_held" (qu C) (af (xV 2) aD))))) (sK C 0 "holds" 1) (bo (aQ (aj (aT true) (cg C 0 "holder") (xV 1))) (bF (xC (.bool false))) bt))
  (au (dq C 0 "holder" (xV 1))
  (au (dq C 0 "until" (aj eI (xV 2) (xV 3)))
  (bF (xC (.bool true)))))))))
def kb(C:Addr):FM:=aW 4 4 (uu C)
def Ei:SM:=(bo (dP (aQ (aX (aF yj (af (xV 0) aD))))) (fC "NoDeeds") bt)
def mL:FM:=aW 1 1 Ei
def uv:SM:=(au (bo (aQ (aj lV (xV 2) (xV 6))) (gW 4 (cm (av (xV 5) (av (xV 6) aP)))) bt)
  (au (wH 5 (xC (.int 1)) (fun i j=>i+j))
  (bN (aX (aF fG (af (xV 0) (af (xV 1) (af (xV 5) aD))))) (ay 6))))
def oi:XM Bool:=(wy (aQ (aj gU (xV 6) (xC .none))) (aQ (aj lV (xV 6) (xV 3))))
def Ej:SM:=(au (cq (aF jz (af (xV 0) aD)))
  (au (cq (aF oh (af (xV 1) aD)))
  (au (cq (aF gG (af (xV 2) aD)))
  (au (cq (aF gG (af (xV 3) aD)))
  (au (ef 4 (iz aP))
  (au (bN (xC (.int 0)) (ay 5))
  (au (bN (aX (aF fG (af (xV 0) (af (xV 1) (af (xV 5) aD))))) (ay 6))
  (au (gV oi uv 100000)
  (kK 4)))))))))
def oj:FM:=aW 4 7 Ej
def uw:SM:=(au (bN (aX (aF fG (af (xV 0) (af (xV 1) (af (aj eI (xV 4) (xC (.int 1))) aD))))) (ay 5))
  (au (bo (aQ (aj lM (xV 5) (xC .none))) wG bt)
  (gW 3 (aj ji (xV 5) (aX (aF fG (af (xV 0) (af (xV 1) (af (xV 4) aD)))))))))
def Ek:SM:=(au (cq (aF jz (af (xV 0) aD)))
  (au (cq (aF oh (af (xV 1) aD)))
  (au (bo (dP (aQ (aX (aF gl (af (xV 2) (af (xC (.int 0)) (af (xC (.int (999))) aD))))))) (fC "NoCount") bt)
  (au (ef 3 (iz aP))
  (au (eE (eQ bL (av (xV 2) aP)) (ay 4) uw)
  (kK 3))))))
def qJ:FM:=aW 3 6 Ek
def ux:XM Bool:=(aQ (aj kM (ql 1 (xV 0)) (xC (.int 1))))
def SA:XM PyData:=(cm (av (eP wA (av (xV 0) (av (xC (.int (24))) aP))) (av (ql 1 (xV 0)) aP)))
def El:SM:=(au (cq (aF jz (af (xV 0) aD)))
  (au (cq (aF qG (af (xV 1) (af (xV 2) aD))))
  (au (ef 3 (aF ua (af (xV 0) (af (xV 1) (af (xV 2) aD)))))
  (bF (xm 1 [3] (iw (qm 3)) (ay 0) ux SA)))))
def uy:FM:=aW 3 4 El
def uz(C:Addr):SM:=(au (cq (ck C 0 "check_holder" (kU C) (af (xV 1) (af (xV 2) aD))))
  (au (dq C 0 "last" (xV 2))
  (au (bo (aQ (aX (dU C 0 "is_busy" (nZ C)))) (bF (cm (av (xC (.str "busy")) (av (aj aM (cg C 0 "begun") (xC (.int 0))) (av (aj aM (cg C 0 "begun") (xC (.int 1))) aP))))) bt)
  (au (bo (aQ (aj gU (cg C 0 "begun") (xC .none))) (cE (ck C 0 "step_behind_a_fall" (qC C) (af (xV 1) (af (xV 2) aD)))) bt)
  (cE (ck C 0 "step_ahead" (mK C) (af (xV 1) (af (xV 2) aD))))))))
def kc(C:Addr):FM:=aW 3 3 (uz C)
def Em(C:Addr):SM:=(au (cq (ck C 0 "check_holder" (kU C) (af (xV 1) (af (xV 2) aD))))
  (au (bo (dP (aQ (aX (dU C 0 "is_busy" (nZ C))))) (fC "Nothing") bt)
  (au (dq C 0 "last" (xV 2))
  (cE (ck C 0 "add_row" (iE C) (af (cm (av (xV 2) (av (xV 1) (av (xC (.str "done")) (av (aj aM (cg C 0 "begun") (xC (.int 0))) (av (aj aM (cg C 0 "begun") (xC (.int 1))) aP)))))) aD))))))
def om(C:Addr):FM:=aW 3 3 (Em C)
def uA:SM:=(gW 4 (cm (av (xV 8) (av (xV 5) (av (xV 7) aP)))))
def uB:SM:=(eE (iw (aX (aF oj (af (xV 0) (af (aj aM (xV 6) (xC (.int 0))) (af (xV 2) (af (xV 3) aD))))))) (du 2 (bC (ay 7) (bC (ay 8) fe))) uA)
def En:SM:=(au (ef 4 (iz aP))
  (au (eE (eQ xJ (av (xV 1) aP)) (du 2 (bC (ay 5) (bC (ay 6) fe))) uB)
  (cE (mC (xV 4)))))
def uC:FM:=aW 4 9 En
def Eo:SM:=(au (cq (aF jz (af (xV 0) aD)))
  (au (cq (aF mL (af (xV 1) aD)))
  (cq (aF qG (af (xV 2) (af (xV 3) aD))))))
def qK:FM:=aW 4 4 Eo
def Ep(C:Addr):SM:=(au (bo (aQ (aj (aT false) (aj aM (xV 1) (xC (.int 0))) (xC (.str "take")))) (cE (ck C 0 "take" (kb C) (af (aj aM (xV 1) (xC (.int 1))) (af (aj aM (xV 1) (xC (.int 2))) (af (aj aM (xV 1) (xC (.int 3))) aD))))) bt)
  (au (bo (aQ (aj (aT false) (aj aM (xV 1) (xC (.int 0))) (xC (.str "give")))) (cE pO) bt)
  (au (bo (aQ (aj (aT false) (aj aM (xV 1) (xC (.int 0))) (xC (.str "step")))) (cE (ck C 0 "step" (kc C) (af (aj aM (xV 1) (xC (.int 1))) (af (aj aM (xV 1) (xC (.int 2))) aD)))) bt)
  (cE (ck C 0 "finish" (om C) (af (aj aM (xV 1) (xC (.int 1))) (af (aj aM (xV 1) (xC (.int 2))) aD)))))))
def qL(C:Addr):FM:=aW 2 2 (Ep C)
def on(C:Addr):SM:=(au (bN (aX (ck C 0 "step" (kc C) (af (xV 1) (af (xV 2) aD)))) (ay 6))
  (au (gW 4 (xV 6))
  (au (bo (aQ (aj (aT false) (aj aM (xV 6) (xC (.int 0))) (xC (.str "idle")))) wG bt)
  (bo (jQ (aQ (aj (aT false) (aj aM (xV 6) (xC (.int 0))) (xC (.str "begun")))) (aQ (aj (aT false) (aj aM (xV 6) (xC (.int 0))) (xC (.str "busy"))))) (gW 4 (aX (ck C 0 "finish" (om C) (af (xV 1) (af (xV 2) aD))))) bt))))
def Er(C:Addr):SM:=(au (bo (dP (aQ (aX (aF gl (af (xV 3) (af (xC (.int 0)) (af (xC (.int (999))) aD))))))) (fC "NoCount") bt)
  (au (ef 4 (iz aP))
  (au (eE (eQ bL (av (xV 3) aP)) (ay 5) (on C))
  (kK 4))))
def uD(C:Addr):FM:=aW 4 7 (Er C)
def uE(C:Addr):XM PyData:=(xC (.int 0))
def Es(C:Addr):SM:=(au (cq (aF jz (af (xV 1) aD)))
  (au (cq (aF mL (af (xV 2) aD)))
  (au (dq C 0 "zone" (xV 1))
  (au (dq C 0 "deeds" (xV 2))
  (au (dq C 0 "last" (xC .none))
  (au (dq C 0 "holder" (xC .none))
  (au (dq C 0 "until" (xC (.int 0)))
  (au (dq C 0 "holds" (xC (.int 0)))
  (au (dq C 0 "begun" (xC .none))
  (au (mj C 0 "rows" (.l []))
  (au (mj C 0 "words" (.m true []))
  (xn C 0 "settled" 1 [] (pF (xV 2)) (ay 0) dB (uE C)))))))))))))
def kW(C:Addr):FM:=aW 3 3 (Es C)
def Et:SM:=(au (cq (aF qK (af (xV 0) (af (xV 1) (af (xV 2) (af (xV 3) aD))))))
  (cE (aF uC (af (xV 0) (af (xV 1) (af (xV 2) (af (xV 3) aD)))))))
def qM:FM:=aW 4 4 Et
def Eu(C:Addr):SM:=(au (cq (aF qD (af (xV 1) aD)))
  (sE xY (cE (aF (qL C) (cK 0 (af (xV 1) aD)))) (bF (xC (.str "refused")))))
def kX(C:Addr):FM:=aW 2 2 (Eu C)
def mM(C:Addr):XM PyData:=(aX (aF (kX C) (cK 1 (af (xV 0) aD))))
def Ev(C:Addr):SM:=(au (ef 3 (mh C (kW C) (av (xV 0) (av (xV 1) aP))))
  (au (bo (dP (aQ (iu "list" (xV 2)))) (fC "NoCall") bt)
  (cE (tM C 3 (tK 1 [3] 0 3 (iw (xV 2)) (ay 0) dB (mM C))))))
def uF(C:Addr):FM:=aW 3 4 (Ev C)
def uG(C:Addr):SM:=(au (bN (aX (aF (kX C) (cK 1 (af (xV 3) aD)))) (ay 4))
  (au (bN (aX (dU C 1 "held" (tZ C))) (ay 5))
  (bo (aQ (aj kM (aj aM (xV 5) (xC (.int 2))) (sx 2))) (gW 2 (cm (av (aj aM (xV 3) (xC (.int 1))) (av (aj aM (xV 3) (xC (.int 2))) (av (aj aM (xV 5) (xC (.int 1))) aP))))) (bo (aQ (aj (tH true) (xV 4) (xC (.bool true)))) (tz 2 (-1) (cm (av (aj aM (xV 3) (xC (.int 1))) (av (aj aM (tE 2 (-1)) (xC (.int 1))) (av (aj aM (xV 5) (xC (.int 1))) aP))))) (bo (aQ (aj lM (xV 4) (xC .none))) (tz 2 (-1) (cm (av (aj aM (xV 3) (xC (.int 1))) (av (aj aM (tE 2 (-1)) (xC (.int 1))) (av (aj aM (xV 3) (xC (.int 2))) aP))))) bt)))))
def Ew(C:Addr):SM:=(au (ef 1 (mh C (kW C) (av (xC (.tuple [(.int 0),(.tuple [])])) (av (xC (.tuple [])) aP))))
  (au (ef 2 (iz aP))
  (au (eE (iw (xV 0)) (ay 3) (uG C))
  (kK 2))))
def uH(C:Addr):FM:=aW 1 6 (Ew C)
def qN(C:Addr):XM Bool:=(aQ (aj jq (aj aM (xV 0) (xC (.int 1))) (aj aM (xV 0) (xC (.int 2)))))
def qO(C:Addr):XM PyData:=(xV 0)
def Ex(C:Addr):SM:=(cE (mD 1 [] (iw (aX (aF (uH C) (af (xV 0) aD)))) (ay 0) (qN C) (qO C)))
def mO(C:Addr):FM:=aW 1 1 (Ex C)
def Ey(C:Addr):SM:=(au (cq (aF kS (af (xV 0) aD)))
  (cE (aF (mO C) (af (xV 0) aD))))
def qP(C:Addr):FM:=aW 1 1 (Ey C)
def uI(C:Addr):SM:=(lS 1 (xV 2) (aj ji (aj eI (nJ 1 (xV 2) (xC (.int 0))) (xV 4)) (xV 3)))
def Ez(C:Addr):SM:=(au (cq (aF kS (af (xV 0) aD)))
  (au (ef 1 (lR false))
  (au (eE (iw (aX (aF (mO C) (af (xV 0) aD)))) (du 3 (bC (ay 2) (bC (ay 3) (bC (ay 4) fe)))) (uI C))
  (cE (tR 1)))))
def qQ(C:Addr):FM:=aW 1 5 (Ez C)
def kY(C:Addr):SM:=(bo (aQ (ny (fun i j=>decide (i<=j)) (fun i j=>decide (i<j)) (xV 3) (xV 1) (xV 4))) (bF (xV 2)) bt)
def EA(C:Addr):SM:=(au (cq (aF kS (af (xV 0) aD)))
  (au (cq (aF gG (af (xV 1) aD)))
  (au (eE (iw (aX (aF (mO C) (af (xV 0) aD)))) (du 3 (bC (ay 2) (bC (ay 3) (bC (ay 4) fe)))) (kY C))
  (bF (xC .none)))))
def uJ(C:Addr):FM:=aW 2 5 (EA C)
def oq(C:Addr):SM:=(au (bN (eP xa (av (aj ji (xV 6) (xC (.int 1))) (av (xV 1) aP))) (ay 8))
  (au (bo (aQ (aj lV (xV 3) (xV 8))) (gW 2 (cm (av (xV 3) (av (xV 8) aP)))) bt)
  (bN (xV 7) (ay 3))))
def EB(C:Addr):SM:=(au (cq (aF kS (af (xV 0) aD)))
  (au (cq (aF gG (af (xV 1) aD)))
  (au (ef 2 (iz aP))
  (au (bN (xC (.int 0)) (ay 3))
  (au (bN (aj pD (aX (aF (mO C) (af (xV 0) aD))) (lN (av (cm (av (xC .none) (av (aj eI (xV 1) (xC (.int 1))) (av (aj eI (xV 1) (xC (.int 1))) aP)))) aP))) (ay 4))
  (au (eE (iw (xV 4)) (du 3 (bC (ay 5) (bC (ay 6) (bC (ay 7) fe)))) (oq C))
  (kK 2)))))))
def qR(C:Addr):FM:=aW 2 9 (EB C)
def jA(C:Addr):SM:=(au (bo (aQ (aj (aT false) (xV 0) (xC (.int 0)))) (cE (aF qM (af (xV 1) (af (cm (av (cm (av (xV 2) (av (xC (.str "all")) (av (xC (.bool true)) aP)))) aP)) (af (xC (.int 0)) (af (xC (.int 300)) aD)))))) bt)
  (au (bo (aQ (aj (aT false) (xV 0) (xC (.int 1)))) (cE (aF oj (af (xV 1) (af (xV 2) (af (xC (.int 0)) (af (xC (.int 300)) aD)))))) bt)
  (au (bo (aQ (aj (aT false) (xV 0) (xC (.int 2)))) (cE (aF qJ (af (xV 1) (af (xV 2) (af (xC (.int 5)) aD))))) bt)
  (au (bo (aQ (aj jq (xV 0) (xC (.int 5)))) (cE (xc (qy C) (qA C) (aj ji (xV 0) (xC (.int 3))) (cK 3 aD))) bt)
  (cE (xX (aQ (aj jq (xV 0) (xC (.int 7)))) (xc (qP C) (qQ C) (aj ji (xV 0) (xC (.int 5))) (af (xV 4) aD)) (xX (aQ (aj (aT false) (xV 0) (xC (.int 7)))) (aF (qR C) (af (xV 4) (af (xC (.int 9000)) aD))) (dU C 3 "log" (mF C)))))))))
def dN(C:Addr):FM:=aW 5 5 (jA C)
def ED(C:Addr):SM:=(ef 1 (iz aP))
def EE(C:Addr):SM:=(bN (aX (aF ka (cK 0 (cK 1 (af (xC (.int 9)) aD))))) (ay 2))
def EF(C:Addr):SM:=(bN (aX (aF ur (cK 0 (cK 1 (af (xC (.int 60)) aD))))) (ay 3))
def EG(C:Addr):SM:=(bN (cm (av (xC (.str "every")) (av (aX (aF ka (cK 0 (cK 1 (af (xC (.int 9)) aD))))) (av (aj eI (xC (.int 1)) (aX (aF ka (cK 0 (cK 1 (af (xC (.int 9)) aD)))))) aP)))) (ay 4))
def EH(C:Addr):SM:=(ef 5 (mh C (kW C) (av (xV 3) (av (cm (av (cm (av (xV 4) (av (xC (.str "all")) (av (xC (.bool true)) aP)))) aP)) aP))))
def EI(C:Addr):SM:=(cq (ck C 5 "take" (kb C) (af (xC (.int 0)) (af (xC (.int 20)) (af (xC (.int 9)) aD)))))
def EJ(C:Addr):SM:=(cq (aF (uD C) (cK 5 (af (xC (.int 0)) (af (xC (.int 20)) (af (xC (.int 9)) aD))))))
def EK(C:Addr):SM:=(bN (aj pD (lN (av (cm (av (xC (.str "take")) (av (xC (.int 1)) (av (xC (.int 3)) (av (xC (.int 9)) aP))))) aP)) (lN (av (cm (av (xC (.str "take")) (av (xC (.int 0)) (av (xC (.int 40)) (av (xC (.int 9)) aP))))) aP))) (ay 6))
def qS(C:Addr):SM:=(au (bN (aj jo (aj eI (xV 2) (aj jU (xC (.int 4)) (xV 7))) (xC (.int 9))) (ay 8))
  (au (ef 9 (aF (dN C) (af (xV 8) (af (xV 3) (af (xV 4) (cK 5 (af (xV 6) aD)))))))
  (au (ef 10 (tP 9))
  (au (gW 9 (xC (.str "changed")))
  (au (tz 9 (0) (xC .none))
  (au (bN (aX (aF (dN C) (af (xV 8) (af (xV 3) (af (xV 4) (cK 5 (af (xV 6) aD))))))) (ay 11))
  (bo (jQ (aQ (aj (aT true) (xV 11) (xV 10))) (dP (aQ (iu "list" (xV 11))))) (bF (xC (.bool false))) bt)))))))
def SD(C:Addr):SM:=(eE (eQ bL (av (xC (.int 9)) aP)) (ay 7) (qS C))
def EL(C:Addr):SM:=(bN (eP xb (av (xV 6) aP)) (ay 12))
def EM(C:Addr):SM:=(bo (jQ (aQ (aj (aT true) (aX (aF (uJ C) (af (xV 6) (af (xC (.int 4)) aD)))) (xC (.int 1)))) (aQ (aj (aT true) (aX (aF uy (af (xV 3) (af (xC (.int 0)) (af (xC (.int 0)) aD))))) (lN aP)))) (bF (xC (.bool false))) bt)
def EN(C:Addr):SM:=(cq (aF (uF C) (af (xV 3) (af (cm aP) (af (xV 6) aD)))))
def EO(C:Addr):SM:=(bF (aj (aT false) (xV 6) (xV 12)))
def EQ(C:Addr):SM:=(au (ED C)
  (au (EE C)
  (au (EF C)
  (au (EG C)
  (au (EH C)
  (au (EI C)
  (au (EJ C)
  (au (EK C)
  (au (SD C)
  (au (EL C)
  (au (EM C)
  (au (EN C)
  (EO C)))))))))))))
def ER(C:Addr):FM:=aW 1 13 (EQ C)
end K3
namespace K3
open PySem PySem.Spec L2 L2.L3 PyProof.Rows
noncomputable def top(i:Nat):Stmt:=PySem.Challenge.pw_duehall_k40_whole_again_and_kept.main.body.getD i (.Pass ⟨0,0,0,0⟩)
abbrev ES:Stmt:=top 25
abbrev ET:Stmt:=top 26
abbrev EU:Stmt:=top 27
abbrev EV:Stmt:=top 28
abbrev EW:Stmt:=top 29
abbrev EY:Stmt:=top 30
abbrev EZ:Stmt:=top 31
abbrev Fa:Stmt:=top 32
abbrev Fb:Stmt:=top 33
abbrev Fc:Stmt:=top 34
abbrev Fd:Stmt:=top 35
abbrev Fe:Stmt:=top 36
abbrev Ff:Stmt:=top 37
abbrev Fg:Stmt:=top 38
abbrev Fh:Stmt:=top 39
abbrev Fi:Stmt:=top 40
abbrev Fj:Stmt:=top 41
abbrev Fk:Stmt:=top 42
abbrev Fm:Stmt:=top 43
abbrev Fo:Stmt:=top 44
abbrev Fp:Stmt:=top 47
abbrev Fq:Stmt:=top 54
abbrev Fs:Stmt:=top 55
abbrev Ft:Stmt:=top 57
abbrev Fu:Stmt:=top 58
abbrev Fv:Stmt:=top 59
abbrev Fw:Stmt:=top 64
abbrev Fy:Stmt:=gr (top 65) 0
abbrev Fz:Stmt:=gr (top 65) 1
abbrev FC:Stmt:=gr (top 65) 2
abbrev FF:Stmt:=gr (top 65) 3
abbrev FH:Stmt:=gr (top 65) 4
abbrev FJ:Stmt:=gr (top 65) 6
abbrev FK:Stmt:=gr (top 65) 7
abbrev FL:Stmt:=gr (top 65) 8
abbrev FP:Stmt:=gr (top 65) 9
abbrev FQ:Stmt:=gr (top 65) 10
abbrev FT:Stmt:=gr (top 65) 11
abbrev FU:Stmt:=gr (top 65) 12
abbrev FV:Stmt:=gr (top 65) 14
abbrev FY:Stmt:=gr (top 65) 15
abbrev FZ:Stmt:=top 69
abbrev Ga:Stmt:=top 70
abbrev Gb:Stmt:=top 71
abbrev Gc:Stmt:=top 72
abbrev Gf:Stmt:=top 73
abbrev Gg:Stmt:=top 77
abbrev Gh:Stmt:=top 78
abbrev Gi:Stmt:=top 79
abbrev Gj:Stmt:=top 80
abbrev Gk:Stmt:=top 81
abbrev Gm:Stmt:=top 82
abbrev Gn:Stmt:=top 83
abbrev Go:Stmt:=top 84
abbrev Gp:Stmt:=top 87
abbrev Gq:Stmt:=top 90
abbrev Gr:Stmt:=top 91
abbrev Gs:Stmt:=top 92
abbrev Gu:Stmt:=top 94
abbrev Gv:Stmt:=top 95
abbrev Gw:Stmt:=top 97
abbrev Gx:Stmt:=top 98
abbrev Gy:Stmt:=top 99
abbrev Gz:Stmt:=top 100
abbrev GA:Stmt:=top 103
abbrev GB:Stmt:=top 107
abbrev je:Stmt:=top 108
theorem SE:ca ["_law_script","_law_town","_law_begin","_law_zone_here","_law_plan_here","_law_hall","_law_rows_here","_law_k","_law_what","_law_made","_law_copy","_law_anew","_law_kept"] ["_law_script"] (cS je):=bi
structure Tx (P:Program) (w:World) (K:Frag) (mg:Str->Option Value):Prop where
 d00:∃g fd,FD K mg "is_whole" ES ["thing","least","most"] g fd
 d01:∃g fd,FD K mg "is_tuple_of" ET ["thing","length"] g fd
 d02:∃g fd,FD K mg "is_ahead" EU ["thing"] g fd
 d03:∃g fd,FD K mg "is_moment" EV ["thing"] g fd
 d04:∃g fd,FD K mg "is_runner" EW ["thing"] g fd
 d05:∃g fd,FD K mg "is_term" EY ["thing"] g fd
 d06:∃g fd,FD K mg "are_shifts" EZ ["thing"] g fd
 d07:∃g fd,FD K mg "is_zone" Fa ["thing"] g fd
 d08:∃g fd,FD K mg "has_word" Fb ["thing","word","length"] g fd
 d09:∃g fd,FD K mg "is_plan" Fc ["thing"] g fd
 d0a:∃g fd,FD K mg "is_late" Fd ["thing"] g fd
 d0b:∃g fd,FD K mg "is_deed" Fe ["thing"] g fd
 d0c:∃g fd,FD K mg "are_deeds" Ff ["thing"] g fd
 d0d:∃g fd,FD K mg "check_zone" Fg ["thing"] g fd
 d0e:∃g fd,FD K mg "check_plan" Fh ["thing"] g fd
 d0f:∃g fd,FD K mg "check_moment" Fi ["thing"] g fd
 d0g:∃g fd,FD K mg "check_stretch" Fj ["first","last"] g fd
 d0h:∃g fd,FD K mg "check_deeds" Fk ["thing"] g fd
 d0i:∃g fd,FD K mg "check_runner" Fm ["thing"] g fd
 d0j:∃g fd,FD K mg "check_term" Fo ["thing"] g fd
 d0k:∃g fd,FD K mg "shown" Fp ["zone","moment"] g fd
 d0l:∃g fd,FD K mg "time_of" Fq ["zone","plan","count"] g fd
 d0m:∃g fd,FD K mg "dues" Fs ["zone","plan","first","last"] g fd
 d0n:∃g fd,FD K mg "rows_between" Ft ["zone","deeds","first","last"] g fd
 d0o:∃g fd,FD K mg "check_calendar" Fu ["zone","deeds","first","last"] g fd
 d0p:∃g fd,FD K mg "calendar" Fv ["zone","deeds","first","last"] g fd
 d0q:∃g fd,FD K mg "is_left_out" Fw ["zone","deed","count","now"] g fd
 d0r:∃g fd,FD K mg "check_call" FZ ["thing"] g fd
 d0s:∃g fd,FD K mg "ask" Ga ["hall","call"] g fd
 d0t:∃g fd,FD K mg "do" Gb ["hall","call"] g fd
 d0u:∃g fd,FD K mg "run" Gc ["zone","deeds","calls"] g fd
 d0v:∃g fd,FD K mg "catch_up" Gf ["hall","runner","moment","most"] g fd
 d0w:∃g fd,FD K mg "is_row" Gg ["thing"] g fd
 d0x:∃g fd,FD K mg "check_rows" Gh ["rows"] g fd
 d0y:∃g fd,FD K mg "walked_holds" Gi ["rows"] g fd
 d0z:∃g fd,FD K mg "lasting_holds" Gj ["rows"] g fd
 d10:∃g fd,FD K mg "all_holds" Gk ["rows"] g fd
 d11:∃g fd,FD K mg "held_by" Gm ["rows"] g fd
 d12:∃g fd,FD K mg "holder_at" Gn ["rows","moment"] g fd
 d13:∃g fd,FD K mg "nobody" Go ["rows","last"] g fd
 d14:∃g fd,FD K mg "gaps" Gp ["zone","plan","many"] g fd
 d15:∃g fd,FD K mg "tally" Gq ["rows","deed"] g fd
 d16:∃g fd,FD K mg "tallies" Gr ["hall"] g fd
 d17:∃g fd,FD K mg "long_done" Gs ["hall"] g fd
 d18:∃g fd,FD K mg "how_often" Gu ["zone","first","last"] g fd
 d19:∃g fd,FD K mg "shown_often" Gv ["zone","first","last"] g fd
 d1a:∃g fd,FD K mg "_law_cell_at" Gw ["_law_script","_law_k"] g fd
 d1b:∃g fd,FD K mg "_law_mixed" Gx ["_law_script","_law_k","_law_many"] g fd
 d1c:∃g fd,FD K mg "_law_draw" Gy ["_law_script","_law_town","_law_many"] g fd
 d1d:∃g fd,FD K mg "_law_pick" Gz ["_law_script","_law_town","_law_some"] g fd
 d1e:∃g fd,FD K mg "_law_zone" GA ["_law_script","_law_town","_law_wide"] g fd
 d1f:∃g fd,FD K mg "_law_list" GB ["_law_what","_law_zone_here","_law_plan_here","_law_hall","_law_rows_here"] g fd
 d1g:∃t,mg "LAST_MOMENT" = some (.int (9999) t)
 d1h:∃t,mg "LAST_HOUR" = some (.int (23) t)
 d1i:∃t,mg "LEAST_AHEAD" = some (.int (-12) t)
 d1j:∃t,mg "MOST_AHEAD" = some (.int (14) t)
 d1k:∃t,mg "MOST_SHIFTS" = some (.int (6) t)
 d1l:∃t,mg "MOST_STEP" = some (.int (999) t)
 d1m:∃t,mg "MOST_DEEDS" = some (.int (6) t)
 d1n:∃t,mg "MOST_WITHIN" = some (.int (999) t)
 d1o:∃t,mg "LAST_RUNNER" = some (.int (3) t)
 d1p:∃t,mg "MOST_TERM" = some (.int (99) t)
 d1q:∃t,mg "DAY_HOURS" = some (.int (24) t)
 d1r:∃t,mg "PLAN" = some (.int (0) t)
 d1s:∃t,mg "LATE" = some (.int (1) t)
 d1t:∃t,mg "AGAIN" = some (.int (2) t)
 d1u:∃d,mg "LENGTHS" = some (.ref d)/\CY P w K d [("take",4),("give",3),("step",3),("finish",3)]
 d1v:∃t,mg "MOST_STEPS" = some (.int (999) t)
 d1w:∃u,mg "ANY_ZONE" = some u
 d1x:∃u,mg "NO_DEEDS" = some u
 d1y:∃t,mg "MOST_GAPS" = some (.int (999) t)
 d1z:∃g,mg "WORDS" = some (.ref g)/\qo K g ["begun","done","left","unsure"]
 d20:mg "all" = none
 d21:mg "any" = none
 d22:mg "bool" = none
 d23:mg "divmod" = none
 d24:mg "enumerate" = none
 d25:mg "int" = none
 d26:mg "isinstance" = none
 d27:mg "len" = none
 d28:mg "list" = none
 d29:mg "min" = none
 d2a:mg "range" = none
 d2b:mg "sorted" = none
 d2c:mg "str" = none
 d2d:mg "tuple" = none
 xt0:∃D,XT K mg xY D
structure cF (K:Frag) (mg:Str->Option Value) (C:Addr):Prop where
 cl:di K C
 mg:mg "Hall" = some (.ref C)
 mks:makesIn K C=true
 kpC:keepIn K (.ref C)=true
 d2e:cP K C "begun"
 d2f:cP K C "deeds"
 d2g:cP K C "holder"
 d2h:cP K C "holds"
 d2i:cP K C "last"
 d2j:cP K C "rows"
 d2k:cP K C "settled"
 d2l:cP K C "until"
 d2m:cP K C "words"
 d2n:cP K C "zone"
 d2o:∃g fd,MD K C "__init__" "Hall.__init__" Fy ["self","zone","deeds"] g fd
 d2p:∃g fd,MD K C "is_held" "Hall.is_held" Fz ["self","moment"] g fd
 d2q:∃g fd,MD K C "check_call" "Hall.check_call" FC ["self","runner","moment"] g fd
 d2r:∃g fd,MD K C "check_holder" "Hall.check_holder" FF ["self","runner","moment"] g fd
 d2s:∃g fd,MD K C "take" "Hall.take" FH ["self","runner","moment","term"] g fd
 d2t:∃g fd,MD K C "add_row" "Hall.add_row" FJ ["self","row"] g fd
 d2u:∃g fd,MD K C "is_busy" "Hall.is_busy" FK ["self"] g fd
 d2v:∃g fd,MD K C "first_unsettled" "Hall.first_unsettled" FL ["self"] g fd
 d2w:∃g fd,MD K C "step" "Hall.step" FP ["self","runner","moment"] g fd
 d2x:∃g fd,MD K C "step_behind_a_fall" "Hall.step_behind_a_fall" FQ ["self","runner","moment"] g fd
 d2y:∃g fd,MD K C "step_ahead" "Hall.step_ahead" FT ["self","runner","moment"] g fd
 d2z:∃g fd,MD K C "finish" "Hall.finish" FU ["self","runner","moment"] g fd
 d30:∃g fd,MD K C "held" "Hall.held" FV ["self"] g fd
 d31:∃g fd,MD K C "log" "Hall.log" FY ["self"] g fd
theorem cF.make{K}{mg}(h:cF K mg C)(M:iM K C "__init__" g):Mk K C g:=⟨h.mks,M.at_,M.fn,h.kpC⟩
theorem SF:bootBuiltins "int" = some (.type "int"):=by decide +kernel
theorem GC:bootBuiltins "bool" = some (.type "bool"):=by decide +kernel
theorem GD:bootBuiltins "str" = some (.type "str"):=by decide +kernel
theorem uK:bootBuiltins "tuple" = some (.type "tuple"):=by decide +kernel
theorem uL:bootBuiltins "list" = some (.type "list"):=by decide +kernel
theorem VZ:bootBuiltins "max" = some (.builtin "max"):=by decide +kernel
theorem SG:bootBuiltins "divmod" = some (.builtin "divmod"):=by decide +kernel
theorem SH:bootBuiltins "all" = some (.builtin "all"):=by decide +kernel
theorem SI:bootBuiltins "any" = some (.builtin "any"):=by decide +kernel
theorem Wa:bootBuiltins "sum" = some (.builtin "sum"):=by decide +kernel
theorem SJ:bootBuiltins "min" = some (.builtin "min"):=by decide +kernel
theorem Wb:bootBuiltins "sorted" = some (.builtin "sorted"):=by decide +kernel
theorem ke(a:GF X.mg F):fc X F dA:=⟨a,fun _ _ _ _ _ _ _ _ _ _ z=>z.elim⟩
end K3
namespace K3
open PySem PySem.Spec L2 L2.L3 PyProof.Rows
local macro_rules | `(tactic|walk_at "z")=>`(tactic|first |exact xW (by kernel_rfl) |exact PassesOwn.leaving)
local macro_rules | `(tactic|walk_at "a")=>`(tactic|(refine cf ?_;refine Bm ?_))
local macro_rules | `(tactic|walk_at "c")=>`(tactic|(refine gd ?_ ?_;refine Bp ?_ ?_ ?_))
local macro_rules | `(tactic|walk_at "d")=>`(tactic|(refine gd ?_ ?_;(refine Bl ?_ ?_ ?_ ?_ ?_ ?_<;>try walk_at "z")))
local macro_rules | `(tactic|walk_at "e")=>`(tactic|(refine gd ?_ ?_;refine Bo ?_))
local macro_rules | `(tactic|walk_at "f")=>`(tactic|(refine cf ?_;refine Bn ?_))
local macro_rules | `(tactic|walk_at "g")=>`(tactic|(refine cf ?_;refine Bp ?_ ?_ ?_))
local macro_rules | `(tactic|walk_at "h")=>`(tactic|(refine gd ?_ ?_;(refine OZ ?_ ?_ ?_ ?_ ?_ ?_<;>try walk_at "z")))
local macro_rules | `(tactic|walk_at "i")=>`(tactic|(refine gd ?_ ?_;(refine wI ?_ ?_ ?_ ?_ ?_ ?_<;>try walk_at "z")))
local macro_rules | `(tactic|walk_at "j")=>`(tactic|(refine gd ?_ ?_;refine BW ?_ ?_ ?_ ?_ ?_))
local macro_rules | `(tactic|walk_at "k")=>`(tactic|(refine cf ?_;(refine Bt ?_ ?_ ?_ ?_ ?_ ?_ ?_ ?_<;>try walk_at "z")))
local macro_rules | `(tactic|walk_at "z")=>`(tactic|first|rfl|exact .inl rfl|exact .inr rfl|assumption|exact fun _=>rfl)
section
variable{P:Program}{w:World}{K:Frag}{mg:Str->Option Value}{base:Heap}
theorem jB(T:Tx P w K mg):CK P w K mg base 1 "is_whole" gl:=by
 refine bB ["thing","least","most"] T.d00 bi fun a b=>?_
 walk_at "a"
 exact(eu (iU (iR rfl T.d26 (fv 0) (iK rfl T.d25 SF rfl))) (eu (OL (iU (iR rfl T.d26 (fv 0) (iK rfl T.d22 GC rfl)))) (gA (PM (fv 1) (fv 0) (fv 2)))))
theorem uM(T:Tx P w K mg):CK P w K mg base 1 "is_tuple_of" kQ:=by
 refine bB ["thing","length"] T.d01 bi fun a b=>?_
 walk_at "a"
 exact(eu (iU (iR rfl T.d26 (fv 0) (iK rfl T.d2d uK rfl))) (gA (nN a.units (ir nA (jl ku nu rfl T.d27 q1b (aB (fv 0) bb))) (fv 1))))
theorem SK(T:Tx P w K mg):CK P w K mg base 1 "shown" qr:=by
 refine bB ["zone","moment","ahead","shift"] T.d0k bi fun a b=>?_
 walk_at "d"
 exact(aU (fv 0) (ae aq))
 walk_at "i"
 exact(su (aU (fv 0) (ae aq)));exact(cb 3)
 walk_at "g"
 exact(sF (aU (fv 3) (ae aq)) (fv 1))
 (refine cf ?_;(refine Bl ?_ ?_ ?_ ?_ ?_ ?_<;>try walk_at "z"))
 exact(aU (fv 3) (ae aq));exact bv
 walk_at "a"
 exact(eS (fv 1) (fv 2))
theorem mP(T:Tx P w K mg):CK P w K mg base 1 "time_of" fG:=by
 refine bB ["zone","plan","count"] T.d0l bi fun a b=>?_
 walk_at "c"
 exact(eT a.units (aU (fv 1) (ae aq)) (ae cj))
 walk_at "a"
 exact(wz (eT a.units (fv 2) (ae aq)) (aU (fv 1) (ae aq)) (ae eN));exact bv
 walk_at "c"
 exact(eT a.units (aU (fv 1) (ae aq)) (ae cj))
 walk_at "a"
 exact(eS (aU (fv 1) (ae aq)) (pL (fv 2) (aU (fv 1) (ae aq))));exact bv
 walk_at "f"
 exact BQ
theorem SL(T:Tx P w K mg):CK P w K mg base 1 "tally" tV:=by
 obtain⟨b,a⟩:=T.d1z;refine bB ["rows","deed","words"] T.d15 bi fun d c=>?_
 walk_at "d"
 exact(sv c.1 (ao.of (own:=["row"]) (capN:=["deed"]) (caps:=[1])) rfl rfl (iW (fv 0)) (fun _ _ _ _ _ _ e=>⟨(cb 0),(wJ (eT d.units (aU (fv 0) (ae aq)) (fv 1))),(aU (fv 0) (ae aq))⟩))
 walk_at "a"
 exact(ir OQ (Aq Lb NT rfl T.d2d uK (aB (sv c.1 (ao.of (own:=["word"]) (capN:=["words"]) (caps:=[2])) rfl rfl (RH rfl a.1 a.2) (fun _ _ _ _ _ _ e=>⟨(cb 0),nG,(Pz (g:=kL) PySem.F.slot_list_count PySem.F.type_list_count Px PB (pv 1) (fv 0))⟩)) bb)))
theorem SN(T:Tx P w K mg):CK P w K mg base 1 "_law_cell_at" nY:=by
 refine bB ["_law_script","_law_k"] T.d1a bi fun a b=>?_
 walk_at "c"
 exact(lZ (fv 1) (Bh (AO rfl T.d27 (pv 0))))
 walk_at "a"
 exact(Bi (AR (pv 0) (fv 1) (by intro _ _;rfl)));exact bv
 walk_at "c"
 exact(OS (Oa a.units (pv 0)))
 walk_at "a"
 exact(ae aq);exact bv
 walk_at "a"
 exact(eS (pL (Bi (AR (pv 0) (nM (fv 1) (Bh (AO rfl T.d27 (pv 0)))) (by intro _ _;rfl))) (ae aq)) (fv 1))
theorem GG(T:Tx P w K mg)(a:cF K mg C):CM P w K mg base C 1 "is_held" (qu C):=by
 refine gF ["self","moment"] a.d2p bi fun b c=>?_
 walk_at "a"
 exact(eu (wW (cV a.cl a.d2g (pv 0)) (ae eN)) (gA (PH (fv 1) (cV a.cl a.d2l (pv 0)))))
theorem yk(T:Tx P w K mg)(a:cF K mg C):CM P w K mg base C 1 "add_row" (iE C):=by
 refine gF ["self","row","word","deed","count"] a.d2t bi fun b c=>?_
 walk_at "d"
 exact(aU (fv 1) (ae aq))
 walk_at "d"
 exact(aU (fv 1) (ae aq))
 walk_at "d"
 exact(aU (fv 1) (ae aq));refine gd ?_ ?_;(refine Qh ?_ ?_ ?_ ?_ ?_ ?_ ?_ ?_ ?_ ?_ ?_<;>try walk_at "z");exact a.cl;exact a.d2j;exact(pv 0);exact(pv 1);refine gd ?_ ?_;(refine Qi ?_ ?_ ?_ ?_ ?_ ?_ ?_ ?_ ?_ ?_ ?_<;>try walk_at "z");exact(jk b);exact a.cl;exact a.d2m;exact(pv 0);exact(pv 3);exact(pv 4);exact(fv 2)
 walk_at "c"
 exact(eT b.units (fv 2) (ae cj));refine cf ?_;refine BW ?_ ?_ ?_ ?_ ?_;exact a.cl;exact a.d2e;exact(pv 0);exact(cp (aB (fv 3) (aB (fv 4) (aB (cV a.cl a.d2h (pv 0)) bb))));rfl
 walk_at "j"
 exact a.cl;exact a.d2e;exact(pv 0);exact(ae eN);rfl;refine cf ?_;(refine Qk ?_ ?_ ?_ ?_ ?_ ?_ ?_ ?_ ?_ ?_<;>try walk_at "z");exact a.cl;exact a.d2k;exact(pv 0);exact(pv 3);exact(eS (fv 4) (ae aq))
 walk_at "a"
 exact(cp (aB (fv 2) (aB (fv 3) (aB (fv 4) bb))))
theorem GI(T:Tx P w K mg)(a:cF K mg C):CM P w K mg base C 1 "is_busy" (nZ C):=by
 refine gF ["self"] a.d2u bi fun b c=>?_
 walk_at "a"
 exact(eu (wW (cV a.cl a.d2e (pv 0)) (ae eN)) (gA (nN b.units (aU (cV a.cl a.d2e (pv 0)) (ae aq)) (cV a.cl a.d2h (pv 0)))))
theorem SO(T:Tx P w K mg)(a:cF K mg C):CM P w K mg base C 1 "held" (tZ C):=by
 refine gF ["self"] a.d30 bi fun b c=>?_
 walk_at "a"
 exact(cp (aB (cV a.cl a.d2g (pv 0)) (aB (cV a.cl a.d2l (pv 0)) (aB (cV a.cl a.d2h (pv 0)) bb))))
theorem yl(T:Tx P w K mg)(a:cF K mg C):CM P w K mg base C 1 "log" (mF C):=by
 refine gF ["self"] a.d31 bi fun b c=>?_
 walk_at "f"
 exact(Ss rfl T.d28 a.cl a.d2j (pv 0))
theorem GJ(T:Tx P w K mg):CK P w K mg base 2 "is_ahead" qv:=by
 obtain⟨c,a⟩:=T.d1i;obtain⟨d,b⟩:=T.d1j;refine bB ["thing"] T.d02 bi fun e f=>?_
 walk_at "f"
 exact(aJ f (jB T) e (ag (fv 0) (ag (ae (ec rfl a)) (ag (ae (ec rfl b)) aE))))
theorem qT(T:Tx P w K mg):CK P w K mg base 2 "is_moment" kR:=by
 obtain⟨b,a⟩:=T.d1g;refine bB ["thing"] T.d03 bi fun c d=>?_
 walk_at "f"
 exact(aJ d (jB T) c (ag (fv 0) (ag (ae aq) (ag (ae (ec rfl a)) aE))))
theorem ym(T:Tx P w K mg):CK P w K mg base 2 "is_runner" oa:=by
 obtain⟨b,a⟩:=T.d1o;refine bB ["thing"] T.d04 bi fun c d=>?_
 walk_at "f"
 exact(aJ d (jB T) c (ag (fv 0) (ag (ae aq) (ag (ae (ec rfl a)) aE))))
theorem GK(T:Tx P w K mg):CK P w K mg base 2 "is_term" qw:=by
 obtain⟨b,a⟩:=T.d1p;refine bB ["thing"] T.d05 bi fun c d=>?_
 walk_at "f"
 exact(aJ d (jB T) c (ag (fv 0) (ag (ae aq) (ag (ae (ec rfl a)) aE))))
theorem mQ(T:Tx P w K mg):CK P w K mg base 2 "has_word" jd:=by
 refine bB ["thing","word","length"] T.d08 bi fun a b=>?_
 walk_at "a"
 exact(eu (aY (aJ b (uM T) a (ag (fv 0) (ag (fv 2) aE)))) (eu (iU (iR rfl T.d26 (aU (fv 0) (ae aq)) (iK rfl T.d2c GD rfl))) (gA (nN a.units (aU (fv 0) (ae aq)) (fv 1)))))
theorem SQ(T:Tx P w K mg):CK P w K mg base 2 "is_left_out" mG:=by
 obtain⟨c,b⟩:=T.d1r;obtain⟨d,a⟩:=T.d1s;refine bB ["zone","deed","count","now","later"] T.d0q bi fun e f=>?_
 walk_at "c"
 exact(eT e.units (aU (fv 1) (ae (ec rfl a))) (ae cj))
 walk_at "a"
 exact(ae gO);exact bv
 walk_at "c"
 exact(eT e.units (aU (fv 1) (ae (ec rfl a))) (ae cj))
 walk_at "d"
 exact(aY (aJ f (mP T) e (ag (fv 0) (ag (aU (fv 1) (ae (ec rfl b))) (ag (eS (fv 2) (ae aq)) aE)))))
 walk_at "a"
 exact(eu (wW (fv 4) (ae eN)) (gA (PJ (fv 4) (fv 3))));exact bv
 walk_at "a"
 exact(PL (lW (fv 3) (aY (aJ f (mP T) e (ag (fv 0) (ag (aU (fv 1) (ae (ec rfl b))) (ag (fv 2) aE)))))) (aU (aU (fv 1) (ae (ec rfl a))) (ae aq)))
theorem SR(T:Tx P w K mg)(e:cF K mg C):CK P w K mg base 2 "tallies" (qy C):=by
 obtain⟨_,_,d,c,a,b⟩:=SL (P:=P) (w:=w) (base:=base) T;refine bB ["hall","rows"] T.d16 bi fun f g=>?_
 walk_at "d"
 exact(aY (mB g e.cl (yl T e) f (pv 0)))
 walk_at "f"
 exact(Dn g.1 (ao.of (own:=["deed"]) (capN:=["rows"]) (caps:=[1])) rfl rfl (nE (nr rfl T.d2a (aB (ir nA (jl ku nu rfl T.d27 q1b (aB (cV e.cl e.d2f (pv 0)) bb))) bb))) (fun _ _ _ _ _ _ h=>⟨(cb 0),nG,(aY (nO (ke h) b a f (ag (fv 1) (ag (fv 0) aE))))⟩))
theorem SS(T:Tx P w K mg)(b:cF K mg C):CK P w K mg base 2 "long_done" (qA C):=by
 refine bB ["hall","found","begins","moment","runner","word","deed","count"] T.d17 bi fun a c=>?_
 walk_at "h"
 exact(jT bb)
 walk_at "h"
 exact(wQ true)
 walk_at "i"
 exact(iW (aY (mB c b.cl (yl T b) a (pv 0))));exact(lP (n:=5) rfl (ey (cb 3) (ey (cb 4) (ey (cb 5) (ey (cb 6) (ey (cb 7) lO))))))
 walk_at "g"
 exact(eT a.units (fv 5) (ae cj))
 (refine cf ?_;refine Pp ?_ ?_ ?_ ?_ ?_)
 exact(jk a);exact(pv 2);exact(cp (aB (fv 6) (aB (fv 7) bb)));exact(fv 3);rfl
 walk_at "g"
 exact(eT a.units (fv 5) (ae cj))
 walk_at "k"
 exact(pv 1);exact(cp (aB (fv 6) (aB (fv 7) (aB (lW (fv 3) (Po (jk a) (pv 2) (cp (aB (fv 6) (aB (fv 7) bb))))) bb))));exact bv
 walk_at "f"
 exact(Dm rfl T.d2b (fv 1))
theorem SU(T:Tx P w K mg):CK P w K mg base 2 "how_often" ua:=by
 refine bB ["zone","first","last","often","moment","hours"] T.d18 bi fun a b=>?_
 walk_at "h"
 exact(wQ false)
 walk_at "i"
 exact(PV (PU rfl T.d2a (aB (fv 1) (aB (eS (fv 2) (ae aq)) bb))));exact(cb 4)
 walk_at "d"
 exact(aY (aJ b (SK T) a (ag (fv 0) (ag (fv 4) aE))))
 (refine cf ?_;refine Pp ?_ ?_ ?_ ?_ ?_)
 exact(jk a);exact(pv 3);exact(fv 5);exact(eS (BD (jk a) (pv 3) (fv 5) (ae aq)) (ae aq));rfl
 (refine cf ?_;refine Pb ?_)
 exact(pv 3)
theorem SV(T:Tx P w K mg):CK P w K mg base 2 "_law_mixed" ub:=by
 refine bB ["_law_script","_law_k","_law_many","_law_drawn"] T.d1b bi fun a b=>?_
 walk_at "d"
 exact(nM (eS (eS (pL (aY (aJ b (SN T) a (cU (pv 0) (ag (fv 1) aE)))) (ae aq)) (pL (ae aq) (fv 1))) (ae aq)) (ae aq))
 walk_at "a"
 exact(nM (nM (nM (PP (fv 3) (ae aq)) (ae aq)) (ae aq)) (fv 2))
theorem SW(T:Tx P w K mg)(a:cF K mg C):CM P w K mg base C 2 "first_unsettled" (yf C):=by
 obtain⟨c,b⟩:=T.d1r;refine gF ["self","found","deed","count","moment"] a.d2v bi fun d e=>?_
 walk_at "h"
 exact(jT bb)
 walk_at "i"
 exact(nE (nr rfl T.d2a (aB (ir nA (jl ku nu rfl T.d27 q1b (aB (cV a.cl a.d2f (pv 0)) bb))) bb)));exact(cb 2)
 walk_at "d"
 exact(Qj a.cl a.d2k (pv 0) (pv 2))
 walk_at "d"
 exact(aY (aJ e (mP T) d (ag (cV a.cl a.d2n (pv 0)) (ag (aU (aU (cV a.cl a.d2f (pv 0)) (fv 2)) (ae (ec rfl b))) (ag (fv 3) aE)))))
 walk_at "g"
 exact(sG (fv 4) (ae eN))
 walk_at "k"
 exact(pv 1);exact(cp (aB (fv 4) (aB (fv 2) (aB (fv 3) bb))));exact bv
 walk_at "a"
 exact(QF (jk d) rfl rfl T.d29 (pv 1))
theorem SX(T:Tx P w K mg)(b:cF K mg C):CM P w K mg base C 2 "step_behind_a_fall" (qC C):=by
 obtain⟨c,a⟩:=T.d1t;refine gF ["self","runner","moment","deed","word"] b.d2x bi fun d e=>?_
 walk_at "d"
 exact(aU (cV b.cl b.d2e (pv 0)) (ae aq))
 walk_at "d"
 exact(wz (cR (cQ (aU (aU (cV b.cl b.d2f (pv 0)) (fv 3)) (ae (ec rfl a))))) (ae cj) (ae cj))
 walk_at "f"
 exact(fE e b.cl (yk T b) d (pv 0) (ag (cp (aB (fv 2) (aB (fv 1) (aB (fv 4) (aB (fv 3) (aB (aU (cV b.cl b.d2e (pv 0)) (ae aq)) bb)))))) aE))
theorem SY(T:Tx P w K mg):CK P w K mg base 3 "are_shifts" ud:=by
 obtain⟨c,a⟩:=T.d1g;obtain⟨d,b⟩:=T.d1k;refine bB ["thing","earliest","shift"] T.d06 bi fun e f=>?_
 walk_at "c"
 exact(jn (kJ (ee (cR (cQ (iU (iR rfl T.d26 (fv 0) (iK rfl T.d2d uK rfl)))))) (kI (pM (ir nA (jl ku nu rfl T.d27 q1b (aB (fv 0) bb))) (ae (ec rfl b))))))
 walk_at "a"
 exact(ae gO);exact bv
 walk_at "d"
 exact(ae aq)
 walk_at "i"
 exact(su (fv 0));exact(cb 2)
 walk_at "c"
 exact(jn (kJ (ee (cR (cQ (aY (aJ f (uM T) e (ag (fv 2) (ag (ae aq) aE))))))) (kI (ee (cR (cQ (aY (aJ f (GJ T) e (ag (aU (fv 2) (ae aq)) aE)))))))))
 walk_at "a"
 exact(ae gO);exact bv
 walk_at "c"
 exact(ee (cR (cQ (aY (aJ f (jB T) e (ag (aU (fv 2) (ae aq)) (ag (fv 1) (ag (ae (ec rfl a)) aE))))))))
 walk_at "a"
 exact(ae gO);exact bv
 (refine cf ?_;(refine Bl ?_ ?_ ?_ ?_ ?_ ?_<;>try walk_at "z"))
 exact(eS (aU (fv 2) (ae aq)) (ae aq))
 walk_at "a"
 exact(ae gO)
theorem GL(T:Tx P w K mg):CK P w K mg base 3 "is_plan" mJ:=by
 obtain⟨c,a⟩:=T.d1h;obtain⟨d,b⟩:=T.d1l;refine bB ["thing"] T.d09 bi fun e f=>?_
 walk_at "c"
 exact(cR (cQ (aY (aJ f (mQ T) e (ag (fv 0) (ag (ae cj) (ag (ae aq) aE)))))))
 walk_at "f"
 exact(aJ f (qT T) e (ag (aU (fv 0) (ae aq)) aE));exact bv
 walk_at "c"
 exact(cR (cQ (aY (aJ f (mQ T) e (ag (fv 0) (ag (ae cj) (ag (ae aq) aE)))))))
 walk_at "a"
 exact(eu (aY (aJ f (qT T) e (ag (aU (fv 0) (ae aq)) aE))) (gA (aY (aJ f (jB T) e (ag (aU (fv 0) (ae aq)) (ag (ae aq) (ag (ae (ec rfl b)) aE)))))));exact bv
 walk_at "a"
 exact(eu (aY (aJ f (mQ T) e (ag (fv 0) (ag (ae cj) (ag (ae aq) aE))))) (gA (aY (aJ f (jB T) e (ag (aU (fv 0) (ae aq)) (ag (ae aq) (ag (ae (ec rfl a)) aE)))))))
theorem SZ(T:Tx P w K mg):CK P w K mg base 3 "is_late" og:=by
 obtain⟨b,a⟩:=T.d1n;refine bB ["thing"] T.d0a bi fun c d=>?_
 walk_at "c"
 exact(cR (cQ (iU (iR rfl T.d26 (fv 0) (iK rfl T.d2c GD rfl)))))
 walk_at "a"
 exact(OM (nN c.units (fv 0) (ae cj)) (gA (nN c.units (fv 0) (ae cj))));exact bv
 walk_at "a"
 exact(eu (aY (aJ d (mQ T) c (ag (fv 0) (ag (ae cj) (ag (ae aq) aE))))) (gA (aY (aJ d (jB T) c (ag (aU (fv 0) (ae aq)) (ag (ae aq) (ag (ae (ec rfl a)) aE)))))))
theorem mR(T:Tx P w K mg):CK P w K mg base 3 "check_moment" gG:=by
 obtain⟨f,g⟩:=T.xt0;obtain⟨b,a,_⟩:=g.at_ (c:="NoMoment") (by decide +kernel);refine bB ["thing"] T.d0f bi fun d e=>?_
 walk_at "g"
 exact(ee (cR (cQ (aY (aJ e (qT T) d (ag (fv 0) aE))))));refine cf ?_;exact(fN e d.hd rfl a);exact bv
theorem Ta(T:Tx P w K mg):CK P w K mg base 3 "check_runner" ug:=by
 obtain⟨f,g⟩:=T.xt0;obtain⟨b,a,_⟩:=g.at_ (c:="NoRunner") (by decide +kernel);refine bB ["thing"] T.d0i bi fun d e=>?_
 walk_at "g"
 exact(ee (cR (cQ (aY (aJ e (ym T) d (ag (fv 0) aE))))));refine cf ?_;exact(fN e d.hd rfl a);exact bv
theorem Tb(T:Tx P w K mg):CK P w K mg base 3 "check_term" uh:=by
 obtain⟨f,g⟩:=T.xt0;obtain⟨b,a,_⟩:=g.at_ (c:="NoTerm") (by decide +kernel);refine bB ["thing"] T.d0j bi fun d e=>?_
 walk_at "g"
 exact(ee (cR (cQ (aY (aJ e (GK T) d (ag (fv 0) aE))))));refine cf ?_;exact(fN e d.hd rfl a);exact bv
theorem Tc(T:Tx P w K mg):CK P w K mg base 3 "check_call" qD:=by
 obtain⟨_,_,g,f,b,d⟩:=mQ (P:=P) (w:=w) (base:=base) T;obtain⟨h,a⟩:=T.d1u;obtain⟨l,m⟩:=T.xt0;obtain⟨i,e,_⟩:=m.at_ (c:="NoCall") (by decide +kernel);refine bB ["thing"] T.d0r bi fun j k=>?_
 walk_at "g"
 exact(ee (cR (cQ (ir RY (jl (RW rfl) RX rfl T.d21 SI (aB (sv k.1 (ao.of (own:=["word"]) (capN:=["thing"]) (caps:=[0])) rfl rfl (RL (kd:=[("take",4),("give",3),("step",3),("finish",3)]) rfl a.1 a.2) (fun _ _ _ _ _ _ n=>⟨(cb 0),nG,(aY (nO (ke n) d b j (ag (fv 1) (ag (fv 0) (ag (RM (kd:=[("take",4),("give",3),("step",3),("finish",3)]) rfl a.1 a.2 (fv 0)) aE)))))⟩)) bb))))));refine cf ?_;exact(fN k j.hd rfl e);exact bv
theorem Td(T:Tx P w K mg):CK P w K mg base 3 "is_row" qE:=by
 refine bB ["thing"] T.d0w bi fun a b=>?_
 walk_at "c"
 exact(cR (cQ (aY (aJ b (mQ T) a (ag (fv 0) (ag (ae cj) (ag (ae aq) aE)))))))
 walk_at "a"
 exact(eu (aY (aJ b (ym T) a (ag (aU (fv 0) (ae aq)) aE))) (eu (aY (aJ b (qT T) a (ag (aU (fv 0) (ae aq)) aE))) (gA (aY (aJ b (GK T) a (ag (aU (fv 0) (ae aq)) aE))))));exact bv
 walk_at "a"
 exact(eu (aY (aJ b (mQ T) a (ag (fv 0) (ag (ae cj) (ag (ae aq) aE))))) (eu (aY (aJ b (ym T) a (ag (aU (fv 0) (ae aq)) aE))) (gA (aY (aJ b (qT T) a (ag (aU (fv 0) (ae aq)) aE))))))
theorem ou(T:Tx P w K mg):CK P w K mg base 3 "_law_draw" ka:=by
 refine bB ["_law_script","_law_town","_law_many"] T.d1c bi fun a b=>?_
 (refine gd ?_ ?_;(refine Bt ?_ ?_ ?_ ?_ ?_ ?_ ?_ ?_<;>try walk_at "z"))
 exact(pv 1);exact(ae aq)
 walk_at "f"
 exact(aJ b (SV T) a (cU (pv 0) (ag (Bu rfl T.d27 (pv 1)) (ag (fv 2) aE))))
theorem Te(T:Tx P w K mg)(a:cF K mg C):CM P w K mg base C 3 "step_ahead" (mK C):=by
 refine gF ["self","runner","moment","found","deed","count","word"] a.d2y bi fun b c=>?_
 walk_at "d"
 exact(aY (mB c a.cl (SW T a) b (pv 0)))
 walk_at "c"
 exact(wX (fv 3) (ae eN))
 walk_at "a"
 exact(cp (aB (ae cj) (aB (ae eN) bb)));exact bv
 walk_at "c"
 exact(pM (aU (fv 3) (ae aq)) (fv 2))
 walk_at "a"
 exact(cp (aB (ae cj) (aB (aU (fv 3) (ae aq)) bb)));exact bv
 walk_at "d"
 exact(aU (fv 3) (ae aq))
 walk_at "d"
 exact(aU (fv 3) (ae aq))
 walk_at "d"
 exact(wz (cR (cQ (aY (aJ c (SQ T) b (ag (cV a.cl a.d2n (pv 0)) (ag (aU (cV a.cl a.d2f (pv 0)) (fv 4)) (ag (fv 5) (ag (fv 2) aE)))))))) (ae cj) (ae cj))
 walk_at "f"
 exact(fE c a.cl (yk T a) b (pv 0) (ag (cp (aB (fv 2) (aB (fv 1) (aB (fv 6) (aB (fv 4) (aB (fv 5) bb)))))) aE))
theorem Tf(T:Tx P w K mg):CK P w K mg base 4 "is_zone" uj:=by
 refine bB ["thing"] T.d07 bi fun a b=>?_
 walk_at "a"
 exact(eu (aY (aJ b (uM T) a (ag (fv 0) (ag (ae aq) aE)))) (eu (aY (aJ b (GJ T) a (ag (aU (fv 0) (ae aq)) aE))) (gA (aY (aJ b (SY T) a (ag (aU (fv 0) (ae aq)) aE))))))
theorem Tg(T:Tx P w K mg):CK P w K mg base 4 "is_deed" uk:=by
 refine bB ["thing"] T.d0b bi fun a b=>?_
 walk_at "a"
 exact(eu (aY (aJ b (uM T) a (ag (fv 0) (ag (ae aq) aE)))) (eu (aY (aJ b (GL T) a (ag (aU (fv 0) (ae aq)) aE))) (eu (aY (aJ b (SZ T) a (ag (aU (fv 0) (ae aq)) aE))) (gA (iU (iR rfl T.d26 (aU (fv 0) (ae aq)) (iK rfl T.d22 GC rfl)))))))
theorem GN(T:Tx P w K mg):CK P w K mg base 4 "check_plan" oh:=by
 obtain⟨f,g⟩:=T.xt0;obtain⟨b,a,_⟩:=g.at_ (c:="NoPlan") (by decide +kernel);refine bB ["thing"] T.d0e bi fun d e=>?_
 walk_at "g"
 exact(ee (cR (cQ (aY (aJ e (GL T) d (ag (fv 0) aE))))));refine cf ?_;exact(fN e d.hd rfl a);exact bv
theorem GO(T:Tx P w K mg):CK P w K mg base 4 "check_stretch" qG:=by
 obtain⟨f,g⟩:=T.xt0;obtain⟨b,a,_⟩:=g.at_ (c:="NoMoment") (by decide +kernel);refine bB ["first","last"] T.d0g bi fun d e=>?_
 walk_at "e"
 exact(aJ e (mR T) d (ag (fv 0) aE))
 walk_at "e"
 exact(aJ e (mR T) d (ag (fv 1) aE))
 walk_at "g"
 exact(lZ (fv 1) (fv 0));refine cf ?_;exact(fN e d.hd rfl a);exact bv
theorem uN(T:Tx P w K mg):CK P w K mg base 4 "check_rows" kS:=by
 obtain⟨f,g⟩:=T.xt0;obtain⟨b,a,_⟩:=g.at_ (c:="NoHolds") (by decide +kernel);refine bB ["rows","latest","row"] T.d0x bi fun d e=>?_
 walk_at "c"
 exact(ee (cR (cQ (iU (iR rfl T.d26 (fv 0) (iK rfl T.d28 uL rfl))))));refine cf ?_;exact(fN e d.hd rfl a);exact bv
 walk_at "d"
 exact(ae aq);refine cf ?_;(refine wI ?_ ?_ ?_ ?_ ?_ ?_<;>try walk_at "z");exact(iW (fv 0));exact(cb 2)
 walk_at "c"
 exact(jn (kJ (ee (cR (cQ (aY (aJ e (Td T) d (ag (fv 2) aE)))))) (kI (lZ (aU (fv 2) (ae aq)) (fv 1)))));refine cf ?_;exact(fN e d.hd rfl a);exact bv
 (refine cf ?_;(refine Bl ?_ ?_ ?_ ?_ ?_ ?_<;>try walk_at "z"))
 exact(aU (fv 2) (ae aq))
theorem GP(T:Tx P w K mg):CK P w K mg base 4 "_law_pick" qH:=by
 refine bB ["_law_script","_law_town","_law_some"] T.d1d bi fun a b=>?_
 walk_at "a"
 exact(aU (fv 2) (aY (aJ b (ou T) a (cU (pv 0) (cU (pv 1) (ag (ir nA (jl ku nu rfl T.d27 q1b (aB (fv 2) bb))) aE))))))
theorem GQ(T:Tx P w K mg)(d:cF K mg C):CM P w K mg base C 4 "check_call" (kT C):=by
 obtain⟨g,h⟩:=T.xt0;obtain⟨b,a,_⟩:=h.at_ (c:="NoMoment") (by decide +kernel);refine gF ["self","runner","moment"] d.d2q bi fun e f=>?_
 walk_at "e"
 exact(aJ f (Ta T) e (ag (fv 1) aE))
 walk_at "e"
 exact(aJ f (mR T) e (ag (fv 2) aE))
 walk_at "g"
 exact(jn (Bg (sG (cV d.cl d.d2i (pv 0)) (ae eN)) (Bf (lZ (fv 2) (cV d.cl d.d2i (pv 0))))));refine cf ?_;exact(fN f e.hd rfl a);exact bv
theorem Th(T:Tx P w K mg):CK P w K mg base 5 "are_deeds" yj:=by
 obtain⟨_,_,f,e,b,c⟩:=Tg (P:=P) (w:=w) (base:=base) T;obtain⟨d,a⟩:=T.d1m;refine bB ["thing"] T.d0c bi fun g h=>?_
 walk_at "c"
 exact(jn (kJ (ee (cR (cQ (iU (iR rfl T.d26 (fv 0) (iK rfl T.d2d uK rfl)))))) (kI (pM (ir nA (jl ku nu rfl T.d27 q1b (aB (fv 0) bb))) (ae (ec rfl a))))))
 walk_at "a"
 exact(ae gO);exact bv
 walk_at "a"
 exact(ir OR (jl (NR rfl) NU rfl T.d20 SH (aB (sv h.1 (ao.of (own:=["deed"]) (capN:=[]) (caps:=[])) rfl rfl (su (fv 0)) (fun _ _ _ _ _ _ i=>⟨(cb 0),nG,(aY (nO (ke i) c b g (ag (fv 0) aE)))⟩)) bb)))
theorem qU(T:Tx P w K mg):CK P w K mg base 5 "check_zone" jz:=by
 obtain⟨f,g⟩:=T.xt0;obtain⟨b,a,_⟩:=g.at_ (c:="NoZone") (by decide +kernel);refine bB ["thing"] T.d0d bi fun d e=>?_
 walk_at "g"
 exact(ee (cR (cQ (aY (aJ e (Tf T) d (ag (fv 0) aE))))));refine cf ?_;exact(fN e d.hd rfl a);exact bv
theorem Ti(T:Tx P w K mg):CK P w K mg base 5 "_law_zone" ur:=by
 refine bB ["_law_script","_law_town","_law_wide","_law_made","_law_at","_law_k"] T.d1e bi fun a b=>?_;refine gd ?_ ?_;(refine OY ?_ ?_ ?_ ?_ ?_<;>try walk_at "z");exact(cp (aB (cp bb) (aB (ae aq) bb)));exact(lP (n:=2) rfl (ey (cb 3) (ey (cb 4) lO)))
 walk_at "i"
 exact(nE (nr rfl T.d2a (aB (aY (aJ b (ou T) a (cU (pv 0) (cU (pv 1) (ag (ae aq) aE))))) bb)));exact(cb 5)
 walk_at "d"
 exact(eS (eS (fv 4) (ae aq)) (aY (aJ b (ou T) a (cU (pv 0) (cU (pv 1) (ag (fv 2) aE))))))
 (refine cf ?_;(refine Bl ?_ ?_ ?_ ?_ ?_ ?_<;>try walk_at "z"))
 exact(PD (fv 3) (cp (aB (cp (aB (fv 4) (aB (aY (aJ b (GP T) a (cU (pv 0) (cU (pv 1) (ag (nz (aB (ae aq) (aB (ae aq) (aB (ae aq) (aB (sh (ae aq)) (aB (ae aq) (aB (sh (ae aq)) (aB (ae aq) bb)))))))) aE))))) bb))) bb)))
 walk_at "a"
 exact(cp (aB (aY (aJ b (GP T) a (cU (pv 0) (cU (pv 1) (ag (nz (aB (ae aq) (aB (ae aq) (aB (ae aq) (aB (sh (ae aq)) (aB (ae aq) (aB (sh (ae aq)) bb))))))) aE))))) (aB (fv 3) bb)))
theorem GS(T:Tx P w K mg)(d:cF K mg C):CM P w K mg base C 5 "check_holder" (kU C):=by
 obtain⟨g,h⟩:=T.xt0;obtain⟨b,a,_⟩:=h.at_ (c:="NotHolder") (by decide +kernel);refine gF ["self","runner","moment"] d.d2r bi fun e f=>?_
 walk_at "e"
 exact(fE f d.cl (GQ T d) e (pv 0) (ag (fv 1) (ag (fv 2) aE)))
 walk_at "g"
 exact(jn (kJ (ee (cR (cQ (aY (fE f d.cl (GG T d) e (pv 0) (ag (fv 2) aE)))))) (kI (pN e.units (cV d.cl d.d2g (pv 0)) (fv 1)))));refine cf ?_;exact(fN f e.hd rfl a);exact bv
theorem GU(T:Tx P w K mg)(a:cF K mg C):CM P w K mg base C 5 "take" (kb C):=by
 refine gF ["self","runner","moment","term"] a.d2s bi fun b c=>?_
 walk_at "e"
 exact(fE c a.cl (GQ T a) b (pv 0) (ag (fv 1) (ag (fv 2) aE)))
 walk_at "e"
 exact(aJ c (Tb T) b (ag (fv 3) aE))
 walk_at "j"
 exact a.cl;exact a.d2i;exact(pv 0);exact(fv 2);rfl
 walk_at "c"
 exact(ee (cR (cQ (aY (fE c a.cl (GG T a) b (pv 0) (ag (fv 2) aE))))));refine cf ?_;refine Ql ?_ ?_ ?_ ?_;exact a.cl;exact a.d2h;exact(pv 0);exact rr
 walk_at "g"
 exact(pN b.units (cV a.cl a.d2g (pv 0)) (fv 1))
 walk_at "a"
 exact(ae gO);exact bv
 walk_at "j"
 exact a.cl;exact a.d2g;exact(pv 0);exact(fv 1);rfl
 walk_at "j"
 exact a.cl;exact a.d2l;exact(pv 0);exact(eS (fv 2) (fv 3));rfl
 walk_at "a"
 exact(ae gO)
theorem GV(T:Tx P w K mg):CK P w K mg base 6 "check_deeds" mL:=by
 obtain⟨f,g⟩:=T.xt0;obtain⟨b,a,_⟩:=g.at_ (c:="NoDeeds") (by decide +kernel);refine bB ["thing"] T.d0h bi fun d e=>?_
 walk_at "g"
 exact(ee (cR (cQ (aY (aJ e (Th T) d (ag (fv 0) aE))))));refine cf ?_;exact(fN e d.hd rfl a);exact bv
theorem GW(T:Tx P w K mg):CK P w K mg base 6 "dues" oj:=by
 refine bB ["zone","plan","first","last","found","count","moment"] T.d0m bi fun a b=>?_
 walk_at "e"
 exact(aJ b (qU T) a (ag (fv 0) aE))
 walk_at "e"
 exact(aJ b (GN T) a (ag (fv 1) aE))
 walk_at "e"
 exact(aJ b (mR T) a (ag (fv 2) aE))
 walk_at "e"
 exact(aJ b (mR T) a (ag (fv 3) aE))
 walk_at "h"
 exact(jT bb)
 walk_at "d"
 exact(ae aq)
 walk_at "d"
 exact(aY (aJ b (mP T) a (ag (fv 0) (ag (fv 1) (ag (fv 5) aE)))));refine gd ?_ ?_;refine Pd ?_ ?_ ?_;exact PassesOwn.leaving;exact(jn (Bg (sG (fv 6) (ae eN)) (Bf (sF (fv 6) (fv 3)))))
 walk_at "c"
 exact(sF (fv 2) (fv 6))
 walk_at "k"
 exact(pv 4);exact(cp (aB (fv 5) (aB (fv 6) bb)));exact bv;refine gd ?_ ?_;refine Pc (op:=.Add) (pos':=⟨0,0,0,0⟩) ?_;exact(Np (i:=5) (xW (by kernel_rfl)) rfl (by first |exact Or.inl rfl |exact Or.inr rfl) (ae aq) JM)
 (refine cf ?_;(refine Bl ?_ ?_ ?_ ?_ ?_ ?_<;>try walk_at "z"))
 exact(aY (aJ b (mP T) a (ag (fv 0) (ag (fv 1) (ag (fv 5) aE)))))
 (refine cf ?_;refine Pb ?_)
 exact(pv 4)
theorem Tj(T:Tx P w K mg):CK P w K mg base 6 "gaps" qJ:=by
 obtain⟨d,a⟩:=T.d1y;obtain⟨h,i⟩:=T.xt0;obtain⟨e,b,_⟩:=i.at_ (c:="NoCount") (by decide +kernel);refine bB ["zone","plan","many","found","count","later"] T.d14 bi fun f g=>?_
 walk_at "e"
 exact(aJ g (qU T) f (ag (fv 0) aE))
 walk_at "e"
 exact(aJ g (GN T) f (ag (fv 1) aE))
 walk_at "c"
 exact(ee (cR (cQ (aY (aJ g (jB T) f (ag (fv 2) (ag (ae aq) (ag (ae (ec rfl a)) aE))))))));refine cf ?_;exact(fN g f.hd rfl b);exact bv
 walk_at "h"
 exact(jT bb)
 walk_at "i"
 exact(nE (nr rfl T.d2a (aB (fv 2) bb)));exact(cb 4)
 walk_at "d"
 exact(aY (aJ g (mP T) f (ag (fv 0) (ag (fv 1) (ag (eS (fv 4) (ae aq)) aE)))))
 walk_at "c"
 exact(wX (fv 5) (ae eN));refine cf ?_;exact Bq;exact bv
 walk_at "k"
 exact(pv 3);exact(lW (fv 5) (aY (aJ g (mP T) f (ag (fv 0) (ag (fv 1) (ag (fv 4) aE))))))
 (refine cf ?_;refine Pb ?_)
 exact(pv 3)
theorem Tk(T:Tx P w K mg):CK P w K mg base 6 "shown_often" uy:=by
 obtain⟨b,a⟩:=T.d1q;refine bB ["zone","first","last","often"] T.d19 bi fun c d=>?_
 walk_at "e"
 exact(aJ d (qU T) c (ag (fv 0) aE))
 walk_at "e"
 exact(aJ d (GO T) c (ag (fv 1) (ag (fv 2) aE)))
 walk_at "h"
 exact(aJ d (SU T) c (ag (fv 0) (ag (fv 1) (ag (fv 2) aE))))
 walk_at "a"
 exact(Qy d.1 (ao.of (own:=["hours"]) (capN:=["often"]) (caps:=[3])) rfl rfl (DI.S (iW (RF rfl rfl T.d2b (pv 3)))) (fun _ _ _ _ _ _ e=>⟨(cb 0),(wJ (pM (CO (jk c) (pv 1) (fv 0)) (ae aq))),(cp (aB (ir OP (jl Kp NS rfl T.d23 SG (aB (fv 0) (aB (ae (ec rfl a)) bb)))) (aB (CO (jk c) (pv 1) (fv 0)) bb)))⟩))
theorem GX(T:Tx P w K mg)(a:cF K mg C):CM P w K mg base C 6 "step" (kc C):=by
 refine gF ["self","runner","moment"] a.d2w bi fun b c=>?_
 walk_at "e"
 exact(fE c a.cl (GS T a) b (pv 0) (ag (fv 1) (ag (fv 2) aE)))
 walk_at "j"
 exact a.cl;exact a.d2i;exact(pv 0);exact(fv 2);rfl
 walk_at "c"
 exact(cR (cQ (aY (mB c a.cl (GI T a) b (pv 0)))))
 walk_at "a"
 exact(cp (aB (ae cj) (aB (aU (cV a.cl a.d2e (pv 0)) (ae aq)) (aB (aU (cV a.cl a.d2e (pv 0)) (ae aq)) bb))));exact bv
 walk_at "c"
 exact(sG (cV a.cl a.d2e (pv 0)) (ae eN))
 walk_at "f"
 exact(fE c a.cl (SX T a) b (pv 0) (ag (fv 1) (ag (fv 2) aE)));exact bv
 walk_at "f"
 exact(fE c a.cl (Te T a) b (pv 0) (ag (fv 1) (ag (fv 2) aE)))
theorem GY(T:Tx P w K mg)(b:cF K mg C):CM P w K mg base C 6 "finish" (om C):=by
 obtain⟨g,h⟩:=T.xt0;obtain⟨d,a,_⟩:=h.at_ (c:="Nothing") (by decide +kernel);refine gF ["self","runner","moment"] b.d2z bi fun e f=>?_
 walk_at "e"
 exact(fE f b.cl (GS T b) e (pv 0) (ag (fv 1) (ag (fv 2) aE)))
 walk_at "c"
 exact(ee (cR (cQ (aY (mB f b.cl (GI T b) e (pv 0))))));refine cf ?_;exact(fN f e.hd rfl a);exact bv
 walk_at "j"
 exact b.cl;exact b.d2i;exact(pv 0);exact(fv 2);rfl
 walk_at "f"
 exact(fE f b.cl (yk T b) e (pv 0) (ag (cp (aB (fv 2) (aB (fv 1) (aB (ae cj) (aB (aU (cV b.cl b.d2e (pv 0)) (ae aq)) (aB (aU (cV b.cl b.d2e (pv 0)) (ae aq)) bb)))))) aE))
theorem Tl(T:Tx P w K mg):CK P w K mg base 7 "rows_between" uC:=by
 refine bB ["zone","deeds","first","last","found","number","deed","count","moment"] T.d0n bi fun a b=>?_
 walk_at "h"
 exact(jT bb)
 walk_at "i"
 exact(Rz (Ry rfl T.d24 (aB (fv 1) bb)));exact(lP (n:=2) rfl (ey (cb 5) (ey (cb 6) lO)));refine cf ?_;(refine wI ?_ ?_ ?_ ?_ ?_ ?_<;>try walk_at "z");exact(iW (aY (aJ b (GW T) a (ag (fv 0) (ag (aU (fv 6) (ae aq)) (ag (fv 2) (ag (fv 3) aE)))))));exact(lP (n:=2) rfl (ey (cb 7) (ey (cb 8) lO)))
 walk_at "k"
 exact(pv 4);exact(cp (aB (fv 8) (aB (fv 5) (aB (fv 7) bb))))
 walk_at "f"
 exact(Dm rfl T.d2b (fv 4))
theorem Tn(T:Tx P w K mg):CK P w K mg base 7 "check_calendar" qK:=by
 refine bB ["zone","deeds","first","last"] T.d0o bi fun a b=>?_
 walk_at "e"
 exact(aJ b (qU T) a (ag (fv 0) aE))
 walk_at "e"
 exact(aJ b (GV T) a (ag (fv 1) aE));refine cf ?_;refine Bo ?_;exact(aJ b (GO T) a (ag (fv 2) (ag (fv 3) aE)))
theorem To(T:Tx P w K mg)(a:cF K mg C):CK P w K mg base 7 "ask" (qL C):=by
 refine bB ["hall","call"] T.d0s bi fun b c=>?_
 walk_at "c"
 exact(eT b.units (aU (fv 1) (ae aq)) (ae cj))
 walk_at "f"
 exact(fE c a.cl (GU T a) b (pv 0) (ag (aU (fv 1) (ae aq)) (ag (aU (fv 1) (ae aq)) (ag (aU (fv 1) (ae aq)) aE))));exact bv
 walk_at "c"
 exact(eT b.units (aU (fv 1) (ae aq)) (ae cj))
 walk_at "f"
 exact BQ;exact bv
 walk_at "c"
 exact(eT b.units (aU (fv 1) (ae aq)) (ae cj))
 walk_at "f"
 exact(fE c a.cl (GX T a) b (pv 0) (ag (aU (fv 1) (ae aq)) (ag (aU (fv 1) (ae aq)) aE)));exact bv
 walk_at "f"
 exact(fE c a.cl (GY T a) b (pv 0) (ag (aU (fv 1) (ae aq)) (ag (aU (fv 1) (ae aq)) aE)))
theorem Tp(T:Tx P w K mg)(g:cF K mg C):CK P w K mg base 7 "catch_up" (uD C):=by
 obtain⟨d,a⟩:=T.d1v;obtain⟨i,j⟩:=T.xt0;obtain⟨e,b,_⟩:=j.at_ (c:="NoCount") (by decide +kernel);refine bB ["hall","runner","moment","most","told","made","row"] T.d0v bi fun f h=>?_
 walk_at "c"
 exact(ee (cR (cQ (aY (aJ h (jB T) f (ag (fv 3) (ag (ae aq) (ag (ae (ec rfl a)) aE))))))));refine cf ?_;exact(fN h f.hd rfl b);exact bv
 walk_at "h"
 exact(jT bb)
 walk_at "i"
 exact(nE (nr rfl T.d2a (aB (fv 3) bb)));exact(cb 5)
 walk_at "d"
 exact(aY (fE h g.cl (GX T g) f (pv 0) (ag (fv 1) (ag (fv 2) aE))))
 (refine gd ?_ ?_;(refine Bt ?_ ?_ ?_ ?_ ?_ ?_ ?_ ?_<;>try walk_at "z"))
 exact(pv 4);exact(fv 6)
 walk_at "c"
 exact(eT f.units (aU (fv 6) (ae aq)) (ae cj));refine cf ?_;exact Bq;exact bv
 walk_at "g"
 exact(jn (kJ (eT f.units (aU (fv 6) (ae aq)) (ae cj)) (kI (eT f.units (aU (fv 6) (ae aq)) (ae cj)))))
 walk_at "k"
 exact(pv 4);exact(aY (fE h g.cl (GY T g) f (pv 0) (ag (fv 1) (ag (fv 2) aE))));exact bv
 (refine cf ?_;refine Pb ?_)
 exact(pv 4)
theorem yn(T:Tx P w K mg)(a:cF K mg C):CM P w K mg base C 7 "__init__" (kW C):=by
 refine gF ["self","zone","deeds"] a.d2o bi fun c b=>?_
 walk_at "e"
 exact(aJ b (qU T) c (ag (fv 1) aE))
 walk_at "e"
 exact(aJ b (GV T) c (ag (fv 2) aE))
 walk_at "j"
 exact a.cl;exact a.d2n;exact(pv 0);exact(fv 1);rfl
 walk_at "j"
 exact a.cl;exact a.d2f;exact(pv 0);exact(fv 2);rfl
 walk_at "j"
 exact a.cl;exact a.d2i;exact(pv 0);exact(ae eN);rfl
 walk_at "j"
 exact a.cl;exact a.d2g;exact(pv 0);exact(ae eN);rfl
 walk_at "j"
 exact a.cl;exact a.d2l;exact(pv 0);exact(ae aq);rfl
 walk_at "j"
 exact a.cl;exact a.d2h;exact(pv 0);exact(ae aq);rfl
 walk_at "j"
 exact a.cl;exact a.d2e;exact(pv 0);exact(ae eN);rfl;refine gd ?_ ?_;refine Qn ?_ ?_ ?_ ?_;exact a.cl;exact a.d2j;exact(pv 0);rfl;refine gd ?_ ?_;refine Qo ?_ ?_ ?_ ?_;exact a.cl;exact a.d2m;exact(pv 0);rfl;refine cf ?_;(refine Qz (own:=["deed"]) (capN:=[]) (caps:=[]) ?_ ?_ ?_ ?_ ?_ ?_ ?_ ?_ ?_ ?_ ?_<;>try walk_at "z");exact a.cl;exact a.d2k;exact(pv 0);exact b.1;exact(ao.of (own:=["deed"]) (capN:=[]) (caps:=[]));exact(su (fv 2));exact(fun _ _ _ _ _ _ d=>⟨(cb 0),nG,(ae aq)⟩)
theorem Tq(T:Tx P w K mg):CK P w K mg base 8 "calendar" qM:=by
 refine bB ["zone","deeds","first","last"] T.d0p bi fun a b=>?_
 walk_at "e"
 exact(aJ b (Tn T) a (ag (fv 0) (ag (fv 1) (ag (fv 2) (ag (fv 3) aE)))))
 walk_at "f"
 exact(aJ b (Tl T) a (ag (fv 0) (ag (fv 1) (ag (fv 2) (ag (fv 3) aE)))))
theorem GZ(T:Tx P w K mg)(k:cF K mg C):CK P w K mg base 8 "do" (kX C):=by
 obtain⟨_,_,d,c,a,b⟩:=To (P:=P) (w:=w) (base:=base) T k;obtain⟨e,o⟩:=T.xt0;refine bB ["hall","call"] T.d0t bi fun i j=>?_
 walk_at "e"
 exact(aJ j (Tc T) i (ag (fv 1) aE));refine cf ?_;(refine Pu (D:=e) ?_ ?_ ?_ ?_ ?_ ?_ ?_<;>try walk_at "z");exact j.1;intro l f g p h m;refine cf ?_;refine Bn ?_;· exact(nO h b a i (cU (pv 0) (ag (fv 1) aE)))
 intro l q f g n;refine cf ?_;refine Bm ?_;· exact(ae cj)
theorem Tr(T:Tx P w K mg)(l:cF K mg C):CK P w K mg base 9 "run" (uF C):=by
 obtain⟨_,_,_,g,f,a,d⟩:=yn (P:=P) (w:=w) (base:=base) T l;obtain⟨_,_,p,m,i,j⟩:=GZ (P:=P) (w:=w) (base:=base) T l;obtain⟨q,r⟩:=T.xt0;obtain⟨h,e,_⟩:=r.at_ (c:="NoCall") (by decide +kernel);refine bB ["zone","deeds","calls","hall"] T.d0u bi fun n o=>?_
 walk_at "h"
 exact(xg o (l.make a.mt) d (n.mono (by decide)) rfl l.mg a.b (aB (fv 0) (aB (fv 1) bb)))
 walk_at "c"
 exact(ee (cR (cQ (iU (iR rfl T.d26 (fv 2) (iK rfl T.d28 uL rfl))))));refine cf ?_;exact(fN o n.hd rfl e);exact bv
 walk_at "f"
 exact(Sr (C:=C) (pv 3) (Sq (k:=0) (jm:=3) o.1 (ao.of (own:=["call"]) (capN:=["hall"]) (caps:=[3])) rfl rfl rfl (iW (fv 2)) (fun _ _ _ _ _ _ s=>⟨(cb 0),nG,(aY (nO (ke s) j i n (cU (pv 1) (ag (fv 0) aE))))⟩)))
theorem Ts(T:Tx P w K mg)(j:cF K mg C):CK P w K mg base 9 "walked_holds" (uH C):=by
 obtain⟨_,_,_,g,f,a,c⟩:=yn (P:=P) (w:=w) (base:=base) T j;obtain⟨h,d⟩:=T.d1w;obtain⟨i,e⟩:=T.d1x;refine bB ["rows","hall","found","row","told","held"] T.d0y bi fun l k=>?_
 walk_at "h"
 exact(xg k (j.make a.mt) c (l.mono (by decide)) rfl j.mg a.b (aB (CV k.1 rfl d RN) (aB (CV k.1 rfl e RO) bb)))
 walk_at "h"
 exact(jT bb)
 walk_at "i"
 exact(iW (fv 0));exact(cb 3)
 walk_at "d"
 exact(aY (aJ k (GZ T j) l (cU (pv 1) (ag (fv 3) aE))))
 walk_at "d"
 exact(aY (mB k j.cl (SO T j) l (pv 1)))
 walk_at "g"
 exact(pM (aU (fv 5) (ae aq)) (Bu rfl T.d27 (pv 2)))
 walk_at "k"
 exact(pv 2);exact(cp (aB (aU (fv 3) (ae aq)) (aB (aU (fv 3) (ae aq)) (aB (aU (fv 5) (ae aq)) bb))))
 walk_at "g"
 exact(Sj true (fv 4) (ae gO));refine cf ?_;exact(xO (pv 2) tD (cp (aB (aU (fv 3) (ae aq)) (aB (aU (CW (pv 2) tD) (ae aq)) (aB (aU (fv 5) (ae aq)) bb)))))
 walk_at "g"
 exact(wX (fv 4) (ae eN));refine cf ?_;exact(xO (pv 2) tD (cp (aB (aU (fv 3) (ae aq)) (aB (aU (CW (pv 2) tD) (ae aq)) (aB (aU (fv 3) (ae aq)) bb)))));exact bv
 (refine cf ?_;refine Pb ?_)
 exact(pv 2)
theorem uO(T:Tx P w K mg)(b:cF K mg C):CK P w K mg base 10 "lasting_holds" (mO C):=by
 refine bB ["rows"] T.d0z bi fun c a=>?_
 walk_at "f"
 exact(Dn a.1 (ao.of (own:=["hold"]) (capN:=[]) (caps:=[])) rfl rfl (iW (aY (aJ a (Ts T b) c (ag (fv 0) aE)))) (fun _ _ _ _ _ _ d=>⟨(cb 0),(wJ (lZ (aU (fv 0) (ae aq)) (aU (fv 0) (ae aq)))),(fv 0)⟩))
theorem Tt(T:Tx P w K mg)(c:cF K mg C):CK P w K mg base 11 "all_holds" (qP C):=by
 refine bB ["rows"] T.d10 bi fun a b=>?_
 walk_at "e"
 exact(aJ b (uN T) a (ag (fv 0) aE))
 walk_at "f"
 exact(aJ b (uO T c) a (ag (fv 0) aE))
theorem Tu(T:Tx P w K mg)(c:cF K mg C):CK P w K mg base 11 "held_by" (qQ C):=by
 refine bB ["rows","hours","runner","first","behind"] T.d11 bi fun a b=>?_
 walk_at "e"
 exact(aJ b (uN T) a (ag (fv 0) aE))
 walk_at "h"
 exact(wQ false)
 walk_at "i"
 exact(iW (aY (aJ b (uO T c) a (ag (fv 0) aE))));exact(lP (n:=3) rfl (ey (cb 2) (ey (cb 3) (ey (cb 4) lO))))
 (refine cf ?_;refine Pp ?_ ?_ ?_ ?_ ?_)
 exact(jk a);exact(pv 1);exact(fv 2);exact(lW (eS (BD (jk a) (pv 1) (fv 2) (ae aq)) (fv 4)) (fv 3));rfl
 walk_at "f"
 exact(Sw 1 rfl rfl T.d2b)
theorem Tv(T:Tx P w K mg)(c:cF K mg C):CK P w K mg base 11 "holder_at" (uJ C):=by
 refine bB ["rows","moment","runner","first","behind"] T.d12 bi fun a b=>?_
 walk_at "e"
 exact(aJ b (uN T) a (ag (fv 0) aE))
 walk_at "e"
 exact(aJ b (mR T) a (ag (fv 1) aE))
 walk_at "i"
 exact(iW (aY (aJ b (uO T c) a (ag (fv 0) aE))));exact(lP (n:=3) rfl (ey (cb 2) (ey (cb 3) (ey (cb 4) lO))))
 walk_at "g"
 exact(RC (fv 3) (fv 1) (fv 4))
 walk_at "a"
 exact(fv 2);exact bv
 walk_at "a"
 exact(ae eN)
theorem Tw(T:Tx P w K mg)(c:cF K mg C):CK P w K mg base 11 "nobody" (qR C):=by
 refine bB ["rows","last","found","start","ends","runner","first","behind","end"] T.d13 bi fun a b=>?_
 walk_at "e"
 exact(aJ b (uN T) a (ag (fv 0) aE))
 walk_at "e"
 exact(aJ b (mR T) a (ag (fv 1) aE))
 walk_at "h"
 exact(jT bb)
 walk_at "d"
 exact(ae aq)
 walk_at "d"
 exact(BL (aY (aJ b (uO T c) a (ag (fv 0) aE))) (nz (aB (cp (aB (ae eN) (aB (eS (fv 1) (ae aq)) (aB (eS (fv 1) (ae aq)) bb)))) bb)))
 walk_at "i"
 exact(iW (fv 4));exact(lP (n:=3) rfl (ey (cb 5) (ey (cb 6) (ey (cb 7) lO))))
 walk_at "d"
 exact(ir PR (jl (Ko rfl) PQ rfl T.d29 SJ (aB (lW (fv 6) (ae aq)) (aB (fv 1) bb))))
 walk_at "c"
 exact(sF (fv 3) (fv 8))
 walk_at "k"
 exact(pv 2);exact(cp (aB (fv 3) (aB (fv 8) bb)));exact bv
 (refine cf ?_;(refine Bl ?_ ?_ ?_ ?_ ?_ ?_<;>try walk_at "z"))
 exact(fv 7)
 (refine cf ?_;refine Pb ?_)
 exact(pv 2)
theorem Ha(T:Tx P w K mg)(q:cF K mg C):CK P w K mg base 12 "_law_list" (dN C):=by
 obtain⟨_,_,r,o,d,h⟩:=SR (P:=P) (w:=w) (base:=base) T q;obtain⟨_,_,m,k,a,f⟩:=SS (P:=P) (w:=w) (base:=base) T q;obtain⟨_,_,n,l,c,g⟩:=Tt (P:=P) (w:=w) (base:=base) T q;obtain⟨_,_,s,p,e,i⟩:=Tu (P:=P) (w:=w) (base:=base) T q;refine bB ["_law_what","_law_zone_here","_law_plan_here","_law_hall","_law_rows_here"] T.d1f bi fun j t=>?_
 walk_at "c"
 exact(eT j.units (fv 0) (ae aq))
 walk_at "f"
 exact(aJ t (Tq T) j (ag (fv 1) (ag (cp (aB (cp (aB (fv 2) (aB (ae cj) (aB (ae gO) bb)))) bb)) (ag (ae aq) (ag (ae aq) aE)))));exact bv
 walk_at "c"
 exact(eT j.units (fv 0) (ae aq))
 walk_at "f"
 exact(aJ t (GW T) j (ag (fv 1) (ag (fv 2) (ag (ae aq) (ag (ae aq) aE)))));exact bv
 walk_at "c"
 exact(eT j.units (fv 0) (ae aq))
 walk_at "f"
 exact(aJ t (Tj T) j (ag (fv 1) (ag (fv 2) (ag (ae aq) aE))));exact bv
 walk_at "c"
 exact(lZ (fv 0) (ae aq))
 walk_at "f"
 exact(BU t h (j.mono (by decide)) rfl d.mgf d.fn.kp d.b f (j.mono (by decide)) rfl a.mgf a.fn.kp a.b (lW (fv 0) (ae aq)) (cU (pv 3) aE));exact bv
 walk_at "f"
 exact(Dl (lZ (fv 0) (ae aq)) (BU t g (j.mono (by decide)) rfl c.mgf c.fn.kp c.b i (j.mono (by decide)) rfl e.mgf e.fn.kp e.b (lW (fv 0) (ae aq)) (ag (fv 4) aE)) (Dl (eT j.units (fv 0) (ae aq)) (aJ t (Tw T q) j (ag (fv 4) (ag (ae aq) aE))) (mB t q.cl (yl T q) j (pv 3))))
variable(P w)(base) in
theorem Tz{C:Addr}{g:Addr}{fd:FuncData}(T:Tx P w K mg)(h:cF K mg C)(D:FD K mg "law" je ["_law_script"] g fd):bU P w K mg base (dt P w) 13 g fd ["_law_script"] (fu K mg (ER C)):=by
 obtain⟨_,_,_,i,f,a,c⟩:=yn (P:=P) (w:=w) (base:=base) T h;refine wh D.fn SE (by decide) ?_;intro k A j s H E F l d e
 walk_at "h"
 exact(jT bb)
 walk_at "d"
 exact(aY (aJ e (ou T) d (cU (pv 0) (cU (pv 1) (ag (ae aq) aE)))))
 walk_at "d"
 exact(aY (aJ e (Ti T) d (cU (pv 0) (cU (pv 1) (ag (ae aq) aE)))))
 walk_at "d"
 exact(cp (aB (ae cj) (aB (aY (aJ e (ou T) d (cU (pv 0) (cU (pv 1) (ag (ae aq) aE))))) (aB (eS (ae aq) (aY (aJ e (ou T) d (cU (pv 0) (cU (pv 1) (ag (ae aq) aE)))))) bb))))
 walk_at "h"
 exact(xg e (h.make a.mt) c (d.mono (by decide)) rfl h.mg a.b (aB (fv 3) (aB (cp (aB (cp (aB (fv 4) (aB (ae cj) (aB (ae gO) bb)))) bb)) bb)))
 walk_at "e"
 exact(fE e h.cl (GU T h) d (pv 5) (ag (ae aq) (ag (ae aq) (ag (ae aq) aE))))
 walk_at "e"
 exact(aJ e (Tp T h) d (cU (pv 5) (ag (ae aq) (ag (ae aq) (ag (ae aq) aE)))))
 walk_at "d"
 exact(BL (nz (aB (cp (aB (ae cj) (aB (ae aq) (aB (ae aq) (aB (ae aq) bb))))) bb)) (nz (aB (cp (aB (ae cj) (aB (ae aq) (aB (ae aq) (aB (ae aq) bb))))) bb)))
 walk_at "i"
 exact(nE (nr rfl T.d2a (aB (ae aq) bb)));exact(cb 7)
 walk_at "d"
 exact(nM (eS (fv 2) (pL (ae aq) (fv 7))) (ae aq))
 walk_at "h"
 exact(aJ e (Ha T h) d (ag (fv 8) (ag (fv 3) (ag (fv 4) (cU (pv 5) (ag (fv 6) aE))))))
 walk_at "h"
 exact(Su rfl T.d28 (pv 9))
 (refine gd ?_ ?_;(refine Bt ?_ ?_ ?_ ?_ ?_ ?_ ?_ ?_<;>try walk_at "z"))
 exact(pv 9);exact(ae cj);refine gd ?_ ?_;exact(xO (pv 9) rr (ae eN))
 walk_at "d"
 exact(aY (aJ e (Ha T h) d (ag (fv 8) (ag (fv 3) (ag (fv 4) (cU (pv 5) (ag (fv 6) aE)))))))
 walk_at "g"
 exact(jn (kJ (pN d.units (fv 11) (fv 10)) (kI (ee (cR (cQ (iU (iR rfl T.d26 (fv 11) (iK rfl T.d28 uL rfl)))))))))
 walk_at "a"
 exact(ae gO);exact bv
 walk_at "d"
 exact(ir PY (Aq vF PX rfl T.d28 uL (aB (fv 6) bb)))
 walk_at "c"
 exact(jn (kJ (pN d.units (aY (aJ e (Tv T h) d (ag (fv 6) (ag (ae aq) aE)))) (ae aq)) (kI (pN d.units (aY (aJ e (Tk T) d (ag (fv 3) (ag (ae aq) (ag (ae aq) aE))))) (nz bb)))))
 walk_at "a"
 exact(ae gO);exact bv
 walk_at "e"
 exact(aJ e (Tr T h) d (ag (fv 3) (ag (cp bb) (ag (fv 6) aE))))
 walk_at "a"
 exact(nN d.units (fv 6) (fv 12))
end
end K3
namespace K3
open PySem L2 L2.L3 Due
noncomputable def cu(d:PyData)(lo a:Int):Bool:=match d with
 |.int i=>decide (lo<=i)&&decide (i<=a)
 |_=>false
noncomputable def dX:PyData->Bool
 |.dict _=>false
 |_=>true
@[simp]theorem Wc:cy "int" "int" = some true:=by decide
@[simp]theorem We:cy "int" "bool" = some false:=by decide
@[simp]theorem Wf:cy "bool" "int" = some true:=by decide
@[simp]theorem Wg:cy "bool" "bool" = some true:=by decide
@[simp]theorem Wh:cy "NoneType" "int" = some false:=by decide
@[simp]theorem Wi:cy "str" "int" = some false:=by decide
@[simp]theorem Wj:cy "list" "int" = some false:=by decide
@[simp]theorem Wl:cy "tuple" "int" = some false:=by decide
@[simp]theorem Wm:cy "int" "tuple" = some false:=by decide
@[simp]theorem Wn:cy "bool" "tuple" = some false:=by decide
@[simp]theorem Wo:cy "NoneType" "tuple" = some false:=by decide
@[simp]theorem Wp:cy "str" "tuple" = some false:=by decide
@[simp]theorem Wq:cy "list" "tuple" = some false:=by decide
@[simp]theorem Wr:cy "tuple" "tuple" = some true:=by decide
theorem yo(i j):PyData.eqv (.int i) (.int j)=(i==j):=by rw[PyData.eqv]
theorem ow(i):SeqAt.shaped (.int i)=true:=by rfl
theorem jC(h:dX d=true):gl [.dat d,.dat (.int lo),.dat (.int hi)]=.rt (.dat (.bool (cu d lo hi))) []:=by
 cases d with
 |dict _=>cases h
 |int i=>
  by_cases a:lo<=i
  .simp[aT,gl,tT,cu,a]
  .simp[aT,gl,tT,cu,a]
 |_=>simp[aT,gl,tT,cu]
noncomputable def gx(d:PyData)(n:Int):Bool:=match d with
 |.tuple ds=>decide ((ds.length:Int)=n)
 |_=>false
theorem qV(h:dX d=true):kQ [.dat d,.dat (.int n)]=.rt (.dat (.bool (gx d n))) []:=by
 cases d with
 |dict _=>cases h
 |tuple ds=>simp[aT,kQ,xZ,gx,ow,yo];rfl
 |_=>simp[aT,kQ,xZ,gx]
theorem Hb(h:dX d=true):qv [.dat d]=.rt (.dat (.bool (cu d (-12) 14))) []:=by simp[aT,qv,Dw,jC h]
theorem qW(h:dX d=true):kR [.dat d]=.rt (.dat (.bool (cu d 0 9999))) []:=by simp[aT,kR,Dx,jC h]
theorem kZ(h:dX d=true):gG [.dat d]=if cu d 0 9999=true then .rt (.dat .none) []else .ex "NoMoment" []:=by simp only[gG,DM];cases a:cu d 0 9999<;>simp[aT,qW h,a]
noncomputable abbrev hJ(p:Int×Int):PyData:=.tuple [.int p.1,.int p.2]
abbrev bM(a:Int)(b:Sh):PyData:=.tuple [.int a,.tuple (b.map hJ)]
@[simp]theorem qX{x:PyData}:bA (x::l) 0=some x:=by unfold bA cI;rw[if_pos (by lia),if_pos (by simp<;>lia)];rfl
@[simp]theorem kf{y:PyData}:bA (x::y::l) 1=some y:=by unfold bA cI;rw[if_pos (by lia),if_pos (by simp<;>lia)];rfl
@[simp]theorem gH{x:PyData}:bA (l++[x]) (-1)=some x:=by unfold bA cI;rw[if_neg (by lia),if_pos (by simp;lia)];simp;rw[show(-1+((l.length:Int)+1)).toNat=l.length by lia];simp
theorem Hc:∀{a lo x},nW lo a->(∀p∈a,p.1<=9999/\-12<=p.2/\p.2<=14)->∃e y,br (ay 2) uc (a.map hJ) [c,some (.dat (.int (lo+1))),x]=.nx [c,e,y]
 |[],_,_,_,_=>⟨_,_,rfl⟩
 | (b,k)::r,lo,x,⟨j,g⟩,f=>by
  obtain⟨e,y,h⟩:=Hc (lo:=b) (c:=c) (x:=some (.dat (hJ (b,k)))) g fun p i=>f p (bG _ i);have hb:=f (b,k) q0g;refine⟨e,y,?_⟩;rw[q0c,br,<-h];have:uc [c,some (.dat (.int (lo+1))),some (.dat (hJ (b,k)))]=.nx [c,some (.dat (.int (b+1))),some (.dat (hJ (b,k)))]:=by simp[aT,uc,qV (d:=.tuple [.int b,.int k]) rfl,gx,Hb (d:=.int k) rfl,jC (d:=.int b) rfl,cu,hb.2.1,hb.2.2,hb.1,show lo+1<=b by lia]
  simp[aT,this]
theorem TB(f:a.length<=6)(b:nW 0 a)(d:∀p∈a,p.1<=9999/\-12<=p.2/\p.2<=14):ud [.dat (.tuple (a.map hJ))]=.rt (.dat (.bool true)) []:=by obtain⟨e,y,h⟩:=Hc (lo:=0) (c:=some (.dat (.tuple (a.map hJ)))) (x:=none) b d;simp[aT,ud,DL,show ¬ (6:Int)<a.length by lia]at h ⊢;rw[h];simp
theorem TC(z:fF a b):uj [.dat (bM a b)]=.rt (.dat (.bool true)) []:=by have c:=z.ah.1;simp[aT,uj,DY,qV (d:=bM a b) rfl,gx,Hb (d:=.int a) rfl,cu,c.1,c.2,TB z.len z.rise fun p e=>⟨z.top p e,z.ah.2 p e⟩]
theorem ox(z:fF a b):jz [.dat (bM a b)]=.rt (.dat .none) []:=by simp[aT,jz,Ef,TC z]
theorem He:∀{ss a x},∃y,br (ay 3) ya (ss.map hJ) [z,some (.dat (.int m)),some (.dat (.int a)),x]=.nx [z,some (.dat (.int m)),some (.dat (.int (tS a ss m))),y]
 |[],_,_=>⟨_,rfl⟩
 | (b,c)::r,a,x=>by
  obtain⟨y,d⟩:=He (m:=m) (z:=z) (ss:=r) (a:=if b<=m then c else a) (x:=some (.dat (hJ (b,c))));refine⟨y,?_⟩;rw[q0c,br];unfold tS;rw[<-d]
  by_cases h:b<=m<;>simp[aT,ya,h]
theorem TD:qr [.dat (bM a ss),.dat (.int m)]=.rt (.dat (.int (qp a ss m))) []:=by obtain⟨y,h⟩:=He (m:=m) (z:=some (.dat (bM a ss))) (ss:=ss) (a:=a) (x:=none);simp[aT,qr,Dr]at h ⊢;rw[h];simp[aT,qp]
@[simp]theorem Ws:(0:Nat)<=sizeLine:=by decide
@[simp]theorem Wt:(1:Nat)<=sizeLine:=by decide
@[simp]theorem Wu:(2:Nat)<=sizeLine:=by decide
@[simp]theorem Wv:(3:Nat)<=sizeLine:=by decide
@[simp]theorem Ww:(4:Nat)<=sizeLine:=by decide
@[simp]theorem Wx:(5:Nat)<=sizeLine:=by decide
@[simp]theorem Wy:(6:Nat)<=sizeLine:=by decide
@[simp]theorem Wz:(7:Nat)<=sizeLine:=by decide
@[simp]theorem WA:(8:Nat)<=sizeLine:=by decide
@[simp]theorem WB:(9:Nat)<=sizeLine:=by decide
@[simp]theorem TF:(10:Nat)<=sizeLine:=by decide
@[simp]theorem TH:(11:Nat)<=sizeLine:=by decide
@[simp]theorem TJ:(12:Nat)<=sizeLine:=by decide
@[simp]theorem TK:(13:Nat)<=sizeLine:=by decide
@[simp]theorem TL:(14:Nat)<=sizeLine:=by decide
noncomputable def lb:Option Int->PyData
 |none=>.none
 |some e=>.int e
theorem TM(d:a.length<=63)(e:0<=k):∃v,nY [.scr a,.dat (.int k)]=.rt (.dat (.int v)) []:=by
 by_cases h:k<a.length
 .have:∃v,bA a k=some v:=by unfold bA cI;rw[if_pos e,if_pos h];exact⟨a[k.toNat]'(by lia),by simp⟩
  obtain⟨v,c⟩:=this;exact⟨v,by simp[aT,nY,tW,d,h,c]⟩
 .by_cases b:a=[]
  .subst b;exact⟨0,by simp[aT,nY,tW]at h ⊢;simp[aT,show ¬ k<0 by lia]⟩
  .have f:0<(a.length:Int):=by have:=q1J.mpr b;lia
   have:∃v,bA a (k % a.length)=some v:=by have g:=Int.emod_nonneg k (show(a.length:Int)≠0 by lia);have i:=Int.emod_lt_of_pos k f;unfold bA cI;rw[if_pos g,if_pos i];exact⟨a[(k % a.length).toNat]'(by lia),by simp⟩
   obtain⟨v,c⟩:=this;exact⟨v * 31+k,by simp[aT,nY,tW,d,h,b,c,nv,lL,q1J.mpr b]⟩
theorem TN(d:c.length<=63)(e:0<=k)(b:0<many):∃v,0<=v/\v<many/\ub [.scr c,.dat (.int k),.dat (.int many)]=.rt (.dat (.int v)) []:=by
 obtain⟨v,f⟩:=TM (k:=k) d e;generalize hd:(v * 1103515245+7919 * k+12345) % 2147483647=a;have g:0<=a:=by lia
 have h:a<2147483647:=by lia
 refine⟨a ^ 5 % 2147483647 % 999983 % many,Int.emod_nonneg _ (by lia),Int.emod_lt_of_pos _ b,?_⟩;simp[aT,ub,DK,f,lL,nv,sf,hd,b,show a.natAbs<18446744073709551616 by lia]
theorem oy(b:ns.length<=63)(f:t.length<1000000)(c:0<many):∃v,0<=v/\v<many/\ka [.scr ns,.own true (.l t),.dat (.int many)]=.rt (.dat (.int v)) [.l (t++[.int 0])]:=by
 have sz:1000000<sizeLine:=by decide
 obtain⟨v,d,e,a⟩:=TN (k:=((t++[PyData.int 0]).length:Int)) b (by lia) c;refine⟨v,d,e,?_⟩;simp at a;simp[aT,ka,DU,show t.length<sizeLine by lia,a]
theorem Hf(a:ns.length<=63)(b:t.length<1000000)(hd:ds≠[])(g:ds.length<=1000):∃d∈ds,qH [.scr ns,.own true (.l t),.dat (.list ds)]=.rt (.dat d) [.l (t++[.int 0])]:=by
 have h:=q1J.mpr hd;obtain⟨v,c,e,f⟩:=oy (many:=ds.length) a b (by lia);have:bA ds v=some (ds[v.toNat]'(by lia)):=by unfold bA cI;rw[if_pos c,if_pos e];simp
 refine⟨ds[v.toNat]'(by lia),q1r _,?_⟩;simp[aT,qH,Ed,f,this]
theorem TQ{ss:Sh}(b:ns.length<=63)(n:t.length<900)(o:ss.length<=100)(a:0<wd):∃d c,0<=d/\d<wd/\-12<=c/\c<=14/\
  uq [some (.scr ns),some (.own true (.l t)),some (.dat (.int wd)),some (.dat (.tuple (ss.map hJ))),some (.dat (.int m)),k]=.nx [some (.scr ns),some (.own true (.l (t++[.int 0]++[.int 0]))),some (.dat (.int wd)),some (.dat (.tuple ((ss++[(m+1+d,c)]).map hJ))),some (.dat (.int (m+1+d))),k]:=by
 have sz:1000<sizeLine:=by decide
 obtain⟨d,g,p,e⟩:=oy (ns:=ns) (t:=t) (many:=wd) b (by lia) a;obtain⟨w,a,f⟩:=Hf (ns:=ns) (t:=t++[.int 0]) (ds:=[.int 0,.int 1,.int 2,.int (-1),.int 14,.int (-12),.int 3]) b (by simp;lia) (by simp) (by simp);have:∃i:Int,w=.int i/\-12<=i/\i<=14:=by simp only[q0d,q1j,or_false]at a;rcases a with rfl |rfl |rfl |rfl |rfl |rfl |rfl<;>exact⟨_,rfl,by lia,by lia⟩
 obtain⟨i,rfl,h,j⟩:=this;refine⟨d,i,g,by lia,h,j,?_⟩;simp only[q0t,q07,q0I]at f e;simp[aT,uq,f,e,show ss.length+1<=sizeLine by lia]
theorem Hg(g:ns.length<=63)(h:0<wd):∀{its t ss m k},t.length+2 * its.length<900->ss.length+its.length<=100->∃new t' b f,br (ay 5) uq its [some (.scr ns),some (.own true (.l t)),some (.dat (.int wd)),some (.dat (.tuple (ss.map hJ))),some (.dat (.int m)),k]=.nx [some (.scr ns),some (.own true (.l t')),some (.dat (.int wd)),some (.dat (.tuple ((ss++new).map hJ))),some (.dat (.int b)),f]/\
  nW m new/\(∀p∈new,p.1<=m+wd * its.length/\-12<=p.2/\p.2<=14)/\new.length=its.length/\t'.length=t.length+2 * its.length
 |[],t,ss,m,k,_,_=>⟨[],t,m,k,by simp[aT,br],trivial,fun p a=>(by cases a),rfl,rfl⟩
 |x::r,t,ss,m,k,i,j=>by
  simp only[q0l]at i j;obtain⟨d,c,v,w,n,o,e⟩:=TQ (ns:=ns) (t:=t) (ss:=ss) (m:=m) (wd:=wd) (k:=some (.dat x)) g (by lia) (by lia) h;obtain⟨new,t',b,f,g1,g2,g3,q,s⟩:=Hg g h (its:=r) (t:=t++[.int 0]++[.int 0]) (ss:=ss++[(m+1+d,c)]) (m:=m+1+d) (k:=some (.dat x)) (by simp;lia) (by simp;lia);have u:wd * ((r.length+1:Nat):Int)=wd * r.length+wd:=by rw[Int.natCast_add,Int.mul_add];simp
  have y:0<=wd * (r.length:Int):=Int.mul_nonneg (by lia) (by lia);refine⟨(m+1+d,c)::new,t',b,f,?_,⟨by lia,g2⟩,fun p a=>?_,by simp[aT,q],by rw[s];simp;lia⟩
  .rw[br];simp only[ay,q0K,q0x,e];rw[g1];simp
  .rw[q0l,u];rcases q0d.mp a with rfl |a
   .exact⟨by simp;lia,n,o⟩
   .have:=g3 p a;exact⟨by lia,this.2⟩
theorem TR(d:ns.length<=63)(v:t.length<=100)(h:0<wd):∃a c t',ur [.scr ns,.own true (.l t),.dat (.int wd)]=.rt (.dat (bM a c)) [.l t']/\c.length<=4/\nW 0 c/\Dp a c/\(∀p∈c,p.1<=4 * wd)/\t'.length<=t.length+12:=by
 have sz:1000<sizeLine:=by decide
 obtain⟨n,j,x,o⟩:=oy (ns:=ns) (t:=t) (many:=5) d (by lia) (by lia);obtain⟨new,f,y,z,g1,g2,g3,q,g⟩:=Hg (ns:=ns) (wd:=wd) d h (its:=intsFrom 0 n.toNat) (t:=t++[.int 0]) (ss:=[]) (m:=0) (k:=none) (by simp[aT,rY];lia) (by simp[aT,rY];lia);rw[rY]at g3 q g;simp only[q0u,q0l,q0F]at g;obtain⟨w,b,r⟩:=Hf (ns:=ns) (t:=f) (ds:=[.int 0,.int 1,.int 2,.int (-1),.int 14,.int (-12)]) d (by lia) (by simp) (by simp);have:∃i:Int,w=.int i/\-12<=i/\i<=14:=by simp only[q0d,q1j,or_false]at b;rcases b with rfl |rfl |rfl |rfl |rfl |rfl<;>exact⟨_,rfl,by lia,by lia⟩
 obtain⟨i,rfl,s,u⟩:=this;simp only[q08,q0I]at g1;have A:wd * ((n.toNat:Nat):Int)<=4 * wd:=by rw[Int.mul_comm 4];exact Int.mul_le_mul_of_nonneg_left (by lia) (by lia)
 refine⟨i,new,f++[.int 0],?_,by lia,g2,⟨⟨s,u⟩,fun p e=>(g3 p e).2⟩,fun p e=>by have:=(g3 p e).1;lia,by simp;lia⟩;simp[aT,ur,Eg,o,j,show n<4611686018427387904 by lia,show -4611686018427387904<=n by lia,g1,r]
theorem Hh(h:SeqAt.shaped d=true):aT false d d=some (.bool true):=by simp[aT,h,AW h]
theorem yp(h:SeqAt.shaped d=true):aT true d d=some (.bool false):=by simp[aT,h,AW h]
theorem Hi(i j):aT true (.int i) (.int j)=some (.bool (!decide (i=j))):=by
 by_cases h:i=j
 .subst h;simp[yp (ow i)]
 .simp[aT,ow,yo,h]
theorem hR(i j):aT false (.int i) (.int j)=some (.bool (decide (i=j))):=by
 by_cases h:i=j
 .subst h;simp[Hh (ow i)]
 .simp[aT,ow,yo,h]
theorem yq(h:m U=.nx a):au m k U=k a:=by simp[h]
theorem TU(i j):PyData.eqv (.str i) (.str j)=(i==j):=by rw[PyData.eqv]
theorem yr(h:PyData.strOk x=true):SeqAt.shaped (.str x)=true:=by unfold SeqAt.shaped;simp[PyData.canLay0,PyData.depth,h]
theorem dc(a:PyData.strOk x=true)(b:PyData.strOk y=true):aT false (.str x) (.str y)=some (.bool (x==y)):=by simp[aT,yr a,yr b,TU]
theorem kg:PyData.strOk "once" = true:=by decide +kernel
theorem mS:PyData.strOk "every" = true:=by decide +kernel
theorem uP:PyData.strOk "daily" = true:=by decide +kernel
@[simp]theorem WC:(("every":Str)==("once":Str))=false:=by decide +kernel
@[simp]theorem WD:(("daily":Str)==("once":Str))=false:=by decide +kernel
@[simp]theorem WE:(("daily":Str)==("every":Str))=false:=by decide +kernel
@[simp]theorem WF:cy "str" "str" = some true:=by decide
noncomputable abbrev qY:eV->PyData
 |.once m=>.tuple [.str "once",.int m]
 |.every f s=>.tuple [.str "every",.int f,.int s]
 |.daily h=>.tuple [.str "daily",.int h]
@[simp]theorem oz{w:PyData}:bA (x::y::w::l) 2=some w:=by unfold bA cI;rw[if_pos (by lia),if_pos (by simp<;>lia)];rfl
theorem jf(a:PyData.strOk x=true)(b:PyData.strOk w=true):jd [.dat (.tuple (.str x::rest)),.dat (.str w),.dat (.int n)]=.rt (.dat (.bool (decide (((rest.length+1:Nat):Int)=n)&&(x==w)))) []:=by
 by_cases h:(((rest.length+1:Nat):Int)=n)
 .simp[jd,yd,qV (d:=.tuple (.str x::rest)) rfl,gx,dc a b];simp at h;simp[h]
 .simp[jd,yd,qV (d:=.tuple (.str x::rest)) rfl,gx,dc a b];simp at h;simp[h]
theorem Hj(ok:mE p):mJ [.dat (qY p)]=.rt (.dat (.bool true)) []:=by
 cases p with
 |once m=>simp[mJ,ue,jf kg kg,qW (d:=.int m) rfl,cu,ok.1,ok.2]
 |every f s=>simp[mJ,ue,jf mS kg,jf mS mS,qW (d:=.int f) rfl,jC (d:=.int s) rfl,cu,ok.1.1,ok.1.2,ok.2.1,ok.2.2]
 |daily h=>simp[mJ,ue,jf uP kg,jf uP mS,jf uP uP,jC (d:=.int h) rfl,cu,ok.1,ok.2]
theorem TV(ok:mE p):oh [.dat (qY p)]=.rt (.dat .none) []:=by simp[oh,Ea,Hj ok]
theorem Hk(a:-1000000<=j)(b:j<=1000000):lL i j=true:=by unfold lL;rw[decide_eq_true (show -(2 ^ 64)<j by lia),decide_eq_true (show j<2 ^ 64 by lia)];simp
theorem Hm(a:1<=s)(b:s<=999):fG [.dat z,.dat (qY (.every f s)),.dat (.int c)]=.rt (.dat (.int (f+c * s))) []:=by simp[fG,tU,dc mS kg,dc mS mS,Hk (i:=c) (show -1000000<=s by lia) (show s<=1000000 by lia)]
def IsT(o:fx):Prop:=∃x r,o=.rt (.dat (.bool true)) (x::r)
theorem iF(h:m U=.nx a)(q:IsT (k a)):IsT (au m k U):=by rw[yq h];exact q
theorem TW(h:IsT (m (some (.scr a)::List.replicate n none))):aW 1 (n+1) m [.scr a]=.rt (.dat (.bool true)) []:=by obtain⟨x,r,e⟩:=h;simp[e]
theorem uQ(i r):L3.intsFrom i (r+1)=.int i::L3.intsFrom (i+1) r:=by
 unfold L3.intsFrom;rw[List.range_succ_eq_map,q0c,q1z]
 congr 1
 .simp
 .apply q1g;intro k _;simp;lia
theorem TX(d:t U=.ok true a)(e:b a=.nx c):gV t b (fuel+1) U=gV t b fuel c:=by rw[gV,d];simp only[dz,if_true,e]
theorem Hn(c:t U=.ok false a):gV t b (fuel+1) U=.nx a:=by rw[gV,c];simp[dz]
@[simp]theorem WG:dX .none=true:=by simp only[dX]
@[simp]theorem WH(i):dX (.int i)=true:=by simp only[dX]
@[simp]theorem WI(b):dX (.bool b)=true:=by simp only[dX]
@[simp]theorem WJ(x):dX (.str x)=true:=by simp only[dX]
@[simp]theorem WK(l):dX (.tuple l)=true:=by simp only[dX]
@[simp]theorem WL(l):dX (.list l)=true:=by simp only[dX]
inductive kh where
 |all |last |within (n:Int)
structure cG where
 plan:eV
 late:kh
 again:Bool
noncomputable abbrev Hq:kh->PyData
 |.all=>.str "all"
 |.last=>.str "last"
 |.within n=>.tuple [.str "within",.int n]
abbrev gm(d:cG):PyData:=.tuple [qY d.plan,Hq d.late,.bool d.again]
@[irreducible] def eW(a:List cG):PyData:=.tuple (a.map gm)
noncomputable def gn:Option Int->PyData
 |none=>.none
 |some i=>.int i
noncomputable def hU:Option (Nat×Nat×Int)->PyData
 |none=>.none
 |some (d,c,h)=>.tuple [.int d,.int c,.int h]
inductive Wd where
 |begun |done |left |unsure
deriving DecidableEq
noncomputable abbrev cO:Wd->Str
 |.begun=>"begun"
 |.done=>"done"
 |.left=>"left"
 |.unsure=>"unsure"
structure gp where
 mo:Int
 ru:Int
 wd:Wd
 dd:Nat
 ct:Nat
abbrev cz(r:gp):PyData:=.tuple [.int r.mo,.int r.ru,.str (cO r.wd),.int r.dd,.int r.ct]
noncomputable abbrev bT(n:Nat):PyData:=.int n
def eK(a:List ((Nat×Nat)×Wd)):List (PyData×PyData):=a.map fun p=>(.tuple [bT p.1.1,bT p.1.2],.str (cO p.2))
structure Hl where
 a:Int
 ss:Sh
 ds:List cG
 last:Option Int
 holder:Option Int
 til:Int
 holds:Int
 begun:Option (Nat×Nat×Int)
 rows:List gp
 words:List ((Nat×Nat)×Wd)
 settled:List Nat
@[irreducible] def ak(S:Hl):List (Str×Fl):=[("zone",.d (bM S.a S.ss)),("deeds",.d (eW S.ds)),("last",.d (gn S.last)),("holder",.d (gn S.holder)),("until",.d (.int S.til)),("holds",.d (.int S.holds)),("begun",.d (hU S.begun)),("rows",.l (S.rows.map cz)),("words",.m true (eK S.words)),("settled",.l (S.settled.map bT))]
abbrev hB(C:Addr)(S:Hl):Bx:=.o C (ak S)
@[simp]theorem WM(S):List.lookup ("zone":Str) (ak S)=some (.d (bM S.a S.ss)):=by unfold ak;kernel_rfl
@[simp]theorem WN(S):List.lookup ("deeds":Str) (ak S)=some (.d (eW S.ds)):=by unfold ak;kernel_rfl
@[simp]theorem WO(S):List.lookup ("last":Str) (ak S)=some (.d (gn S.last)):=by unfold ak;kernel_rfl
@[simp]theorem WP(S):List.lookup ("holder":Str) (ak S)=some (.d (gn S.holder)):=by unfold ak;kernel_rfl
@[simp]theorem WQ(S):List.lookup ("until":Str) (ak S)=some (.d (.int S.til)):=by unfold ak;kernel_rfl
@[simp]theorem WR(S):List.lookup ("holds":Str) (ak S)=some (.d (.int S.holds)):=by unfold ak;kernel_rfl
@[simp]theorem WS(S):List.lookup ("begun":Str) (ak S)=some (.d (hU S.begun)):=by unfold ak;kernel_rfl
@[simp]theorem WT(S):List.lookup ("rows":Str) (ak S)=some (.l (S.rows.map cz)):=by unfold ak;kernel_rfl
@[simp]theorem WU(S):List.lookup ("words":Str) (ak S)=some (.m true (eK S.words)):=by unfold ak;kernel_rfl
@[simp]theorem WV(S):List.lookup ("settled":Str) (ak S)=some (.l (S.settled.map bT)):=by unfold ak;kernel_rfl
@[simp]theorem WW(S):List.lookup ("is_held":Str) (ak S)=none:=by unfold ak;kernel_rfl
@[simp]theorem WX(S):List.lookup ("check_call":Str) (ak S)=none:=by unfold ak;kernel_rfl
@[simp]theorem WY(S):List.lookup ("check_holder":Str) (ak S)=none:=by unfold ak;kernel_rfl
@[simp]theorem WZ(S):List.lookup ("take":Str) (ak S)=none:=by unfold ak;kernel_rfl
@[simp]theorem Xa(S):List.lookup ("give":Str) (ak S)=none:=by unfold ak;kernel_rfl
@[simp]theorem Xb(S):List.lookup ("add_row":Str) (ak S)=none:=by unfold ak;kernel_rfl
@[simp]theorem Xc(S):List.lookup ("is_busy":Str) (ak S)=none:=by unfold ak;kernel_rfl
@[simp]theorem Xd(S):List.lookup ("first_unsettled":Str) (ak S)=none:=by unfold ak;kernel_rfl
@[simp]theorem Xe(S):List.lookup ("step":Str) (ak S)=none:=by unfold ak;kernel_rfl
@[simp]theorem Xf(S):List.lookup ("step_behind_a_fall":Str) (ak S)=none:=by unfold ak;kernel_rfl
@[simp]theorem Xg(S):List.lookup ("step_ahead":Str) (ak S)=none:=by unfold ak;kernel_rfl
@[simp]theorem Xh(S):List.lookup ("finish":Str) (ak S)=none:=by unfold ak;kernel_rfl
@[simp]theorem Xi(S):List.lookup ("state":Str) (ak S)=none:=by unfold ak;kernel_rfl
@[simp]theorem Xj(S):List.lookup ("held":Str) (ak S)=none:=by unfold ak;kernel_rfl
@[simp]theorem Xk(S):List.lookup ("log":Str) (ak S)=none:=by unfold ak;kernel_rfl
@[simp]theorem Xl(S):List.lookup ("waiting":Str) (ak S)=none:=by unfold ak;kernel_rfl
@[simp]theorem Xm(S):List.lookup ("saved":Str) (ak S)=none:=by unfold ak;kernel_rfl
@[simp]theorem Xn(S):(ak S).length=10:=by unfold ak;kernel_rfl
theorem Hr(S x):bI ("last":Str) (.d (gn x)) (ak S)=ak { S with last:=x }:=by unfold ak;kernel_rfl
theorem Hs(S x):bI ("holder":Str) (.d (gn x)) (ak S)=ak { S with holder:=x }:=by unfold ak;kernel_rfl
theorem TY(S x):bI ("until":Str) (.d (.int x)) (ak S)=ak { S with til:=x }:=by unfold ak;kernel_rfl
theorem TZ(S x):bI ("holds":Str) (.d (.int x)) (ak S)=ak { S with holds:=x }:=by unfold ak;kernel_rfl
theorem Ht(S x):bI ("begun":Str) (.d (hU x)) (ak S)=ak { S with begun:=x }:=by unfold ak;kernel_rfl
theorem Ua(S x):bI ("rows":Str) (.l (x.map cz)) (ak S)=ak { S with rows:=x }:=by unfold ak;kernel_rfl
theorem Hu(S x):bI ("words":Str) (.m true (eK x)) (ak S)=ak { S with words:=x }:=by unfold ak;kernel_rfl
theorem Ub(S x):bI ("settled":Str) (.l (x.map bT)) (ak S)=ak { S with settled:=x }:=by unfold ak;kernel_rfl
@[simp]theorem Xo(S):bI ("last":Str) (.d .none) (ak S)=ak { S with last:=none }:=Hr S none
@[simp]theorem Xp(S i):bI ("last":Str) (.d (.int i)) (ak S)=ak { S with last:=some i }:=Hr S (some i)
@[simp]theorem Xq(S):bI ("holder":Str) (.d .none) (ak S)=ak { S with holder:=none }:=Hs S none
@[simp]theorem Xr(S i):bI ("holder":Str) (.d (.int i)) (ak S)=ak { S with holder:=some i }:=Hs S (some i)
@[simp]theorem Xs(S i):bI ("until":Str) (.d (.int i)) (ak S)=ak { S with til:=i }:=TY S i
@[simp]theorem Xt(S i):bI ("holds":Str) (.d (.int i)) (ak S)=ak { S with holds:=i }:=TZ S i
@[simp]theorem Xu(S):bI ("begun":Str) (.d .none) (ak S)=ak { S with begun:=none }:=Ht S none
@[simp]theorem Xv(S)(d c:Nat)(h):bI ("begun":Str) (.d (.tuple [.int d,.int c,.int h])) (ak S)=ak { S with begun:=some (d,c,h) }:=Ht S (some (d,c,h))
@[simp]theorem Xw{U:ai}:bX C (some (.own io (.o C fs))::U) 0=some (io,fs):=by simp[bX]
@[simp]theorem Xx{U:ai}:bX C (x::y::some (.own io (.o C fs))::U) 2=some (io,fs):=by simp[bX]
@[simp]theorem Xy{U:ai}(h:fs.lookup f=some (.d d)):cg C 0 f (some (.own io (.o C fs))::U)=.ok d (some (.own io (.o C fs))::U):=by simp[cg,h]
@[simp]theorem Xz:isNone .none=true:=by simp only[isNone]
@[simp]theorem XA(i):isNone (.int i)=false:=by simp only[isNone]
@[simp]theorem XB(b):isNone (.bool b)=false:=by simp only[isNone]
@[simp]theorem XC(x):isNone (.str x)=false:=by simp only[isNone]
@[simp]theorem XD(l):isNone (.tuple l)=false:=by simp only[isNone]
@[simp]theorem XE(l):isNone (.list l)=false:=by simp only[isNone]
@[simp]theorem XF(x):isNone (gn x)=x.isNone:=by cases x<;>simp[gn]
@[simp]theorem XG(x):isNone (hU x)=x.isNone:=by rcases x with _ |⟨_,_,_⟩<;>simp[hU]
theorem yt(h:dX d=true):oa [.dat d]=.rt (.dat (.bool (cu d 0 3))) []:=by simp[aT,oa,Dy,jC h]
theorem Hv(h:dX d=true):qw [.dat d]=.rt (.dat (.bool (cu d 1 99))) []:=by simp[aT,qw,Dz,jC h]
theorem Hw(h:dX d=true):ug [.dat d]=if cu d 0 3=true then .rt (.dat .none) []else .ex "NoRunner" []:=by simp only[ug,DP];cases a:cu d 0 3<;>simp[aT,yt h,a]
theorem yu(h:dX d=true):uh [.dat d]=if cu d 1 99=true then .rt (.dat .none) []else .ex "NoTerm" []:=by simp only[uh,DQ];cases a:cu d 1 99<;>simp[aT,Hv h,a]
noncomputable def ki(S:Hl)(m:Int):Bool:=S.holder.isSome&&decide (m<S.til)
noncomputable def Hx(S:Hl)(m:Int):Bool:=match S.last with
 |some l=>decide (m<l)
 |none=>false
theorem uR:qu C [.own true (hB C S),.dat (.int m)]=.rt (.dat (.bool (ki S m))) [hB C S]:=by unfold ki;cases h:S.holder<;>simp[qu,Dt,h,gn]
theorem uS(b:dX r=true)(c:cu r 0 3=true)(e:cu (.int m) 0 9999=true)(a:Hx S m=false):kT C [.own true (hB C S),.dat r,.dat (.int m)]=.rt (.dat .none) [hB C S]:=by
 unfold Hx at a;cases h:S.last with
 |none=>simp[kT,yi,Hw b,c,kZ (d:=.int m) rfl,e,h,gn]
 |some l=>rw[h]at a;simp at a;simp[kT,yi,Hw b,c,kZ (d:=.int m) rfl,e,h,gn,show ¬ m<l by lia]
theorem yv(x r):aT true (gn x) (.int r)=some (.bool (!decide (x=some r))):=by
 cases x with
 |none=>simp[gn,aT,ow,show SeqAt.shaped .none=true from rfl,PyData.eqv]
 |some i=>simp[gn,Hi]
theorem Uc(h:kT C [.own true (hB C S),.dat (.int r),.dat (.int m)]=.rt (.dat .none) [hB C S])(a:ki S m=true)(b:S.holder=some r):kU C [.own true (hB C S),.dat (.int r),.dat (.int m)]=.rt (.dat .none) [hB C S]:=by simp[kU,Eh,ck,dS,h,uR,a,yv,b]
def qZ(S:Hl)(r m t:Int):Hl×Bool:=if ki S m=false then({ S with last:=some m,holds:=S.holds+1,holder:=some r,til:=m+t },true) else if S.holder=some r then({ S with last:=some m,holder:=some r,til:=m+t },true) else({ S with last:=some m },false)
theorem yw(h:kT C [.own true (hB C S),.dat (.int r),.dat (.int m)]=.rt (.dat .none) [hB C S])(b:cu (.int t) 1 99=true):kb C [.own true (hB C S),.dat (.int r),.dat (.int m),.dat (.int t)]=.rt (.dat (.bool (qZ S r m t).2)) [hB C (qZ S r m t).1]:=by
 unfold qZ;have f:ki { S with last:=some m } m=ki S m:=rfl;cases a:ki S m with
 |false=>simp[kb,uu,ck,dS,h,yu (d:=.int t) rfl,b,dq,gY,gX,uR,f,a,sK]
 |true=>
  by_cases c:S.holder=some r
  .have e:m<S.til:=by unfold ki at a;simp[c]at a;exact a
   simp[kb,uu,ck,dS,h,yu (d:=.int t) rfl,b,dq,gY,gX,uR,ki,e,yv,c]
  .simp[kb,uu,ck,dS,h,yu (d:=.int t) rfl,b,dq,gY,gX,uR,f,a,yv,c]
abbrev uT(S:Hl):PyData:=.tuple [gn S.holder,.int S.til,.int S.holds]
theorem Ud:tZ C [.own true (hB C S)]=.rt (.dat (uT S)) [hB C S]:=by simp[tZ,Du,show(3:Nat)<=sizeLine from by decide]
theorem yx:mF C [.own true (hB C S)]=.rt (.own false (.l (S.rows.map cz))) [hB C S]:=by simp[mF,Dv,tO]
@[irreducible]noncomputable def lc(z d:PyData):List (Str×Fl):=[]
@[irreducible]noncomputable def lg(z d:PyData):List (Str×Fl):=[("zone",.d z)]
@[irreducible]noncomputable def lh(z d:PyData):List (Str×Fl):=[("zone",.d z),("deeds",.d d)]
@[irreducible]noncomputable def li(z d:PyData):List (Str×Fl):=[("zone",.d z),("deeds",.d d),("last",.d .none)]
@[irreducible]noncomputable def lm(z d:PyData):List (Str×Fl):=[("zone",.d z),("deeds",.d d),("last",.d .none),("holder",.d .none)]
@[irreducible]noncomputable def lr(z d:PyData):List (Str×Fl):=[("zone",.d z),("deeds",.d d),("last",.d .none),("holder",.d .none),("until",.d (.int 0))]
@[irreducible]noncomputable def ls(z d:PyData):List (Str×Fl):=[("zone",.d z),("deeds",.d d),("last",.d .none),("holder",.d .none),("until",.d (.int 0)),("holds",.d (.int 0))]
@[irreducible]noncomputable def lu(z d:PyData):List (Str×Fl):=[("zone",.d z),("deeds",.d d),("last",.d .none),("holder",.d .none),("until",.d (.int 0)),("holds",.d (.int 0)),("begun",.d .none)]
@[irreducible]noncomputable def lx(z d:PyData):List (Str×Fl):=[("zone",.d z),("deeds",.d d),("last",.d .none),("holder",.d .none),("until",.d (.int 0)),("holds",.d (.int 0)),("begun",.d .none),("rows",.l [])]
@[irreducible]noncomputable def ly(z d:PyData):List (Str×Fl):=[("zone",.d z),("deeds",.d d),("last",.d .none),("holder",.d .none),("until",.d (.int 0)),("holds",.d (.int 0)),("begun",.d .none),("rows",.l []),("words",.m true [])]
@[simp]theorem XH(z d):List.lookup ("zone":Str) (lc z d)=none:=by unfold lc;kernel_rfl
@[simp]theorem XI(z d):(lc z d).length=0:=by unfold lc;kernel_rfl
@[simp]theorem XJ(z d):bI ("zone":Str) (.d z) (lc z d)=lg z d:=by unfold lc lg;kernel_rfl
@[simp]theorem XL(z d):List.lookup ("deeds":Str) (lg z d)=none:=by unfold lg;kernel_rfl
@[simp]theorem XN(z d):(lg z d).length=1:=by unfold lg;kernel_rfl
@[simp]theorem XO(z d):bI ("deeds":Str) (.d d) (lg z d)=lh z d:=by unfold lg lh;kernel_rfl
@[simp]theorem XQ(z d):List.lookup ("last":Str) (lh z d)=none:=by unfold lh;kernel_rfl
@[simp]theorem XR(z d):(lh z d).length=2:=by unfold lh;kernel_rfl
@[simp]theorem XS(z d):bI ("last":Str) (.d .none) (lh z d)=li z d:=by unfold lh li;kernel_rfl
@[simp]theorem XU(z d):List.lookup ("holder":Str) (li z d)=none:=by unfold li;kernel_rfl
@[simp]theorem XV(z d):(li z d).length=3:=by unfold li;kernel_rfl
@[simp]theorem XW(z d):bI ("holder":Str) (.d .none) (li z d)=lm z d:=by unfold li lm;kernel_rfl
@[simp]theorem XX(z d):List.lookup ("until":Str) (lm z d)=none:=by unfold lm;kernel_rfl
@[simp]theorem XY(z d):(lm z d).length=4:=by unfold lm;kernel_rfl
@[simp]theorem XZ(z d):bI ("until":Str) (.d (.int 0)) (lm z d)=lr z d:=by unfold lm lr;kernel_rfl
@[simp]theorem Ya(z d):List.lookup ("holds":Str) (lr z d)=none:=by unfold lr;kernel_rfl
@[simp]theorem Yb(z d):(lr z d).length=5:=by unfold lr;kernel_rfl
@[simp]theorem Yc(z d):bI ("holds":Str) (.d (.int 0)) (lr z d)=ls z d:=by unfold lr ls;kernel_rfl
@[simp]theorem Yd(z d):List.lookup ("begun":Str) (ls z d)=none:=by unfold ls;kernel_rfl
@[simp]theorem Ye(z d):(ls z d).length=6:=by unfold ls;kernel_rfl
@[simp]theorem Yf(z d):bI ("begun":Str) (.d .none) (ls z d)=lu z d:=by unfold ls lu;kernel_rfl
@[simp]theorem Yg(z d):List.lookup ("rows":Str) (lu z d)=none:=by unfold lu;kernel_rfl
@[simp]theorem Yh(z d):(lu z d).length=7:=by unfold lu;kernel_rfl
@[simp]theorem Yi(z d):bI ("rows":Str) (.l []) (lu z d)=lx z d:=by unfold lu lx;kernel_rfl
@[simp]theorem Yj(z d):List.lookup ("words":Str) (lx z d)=none:=by unfold lx;kernel_rfl
@[simp]theorem Yl(z d):(lx z d).length=8:=by unfold lx;kernel_rfl
@[simp]theorem Ym(z d):bI ("words":Str) (.m true []) (lx z d)=ly z d:=by unfold lx ly;kernel_rfl
@[simp]theorem Yn(z d):List.lookup ("settled":Str) (ly z d)=none:=by unfold ly;kernel_rfl
@[simp]theorem Yo(z d):(ly z d).length=9:=by unfold ly;kernel_rfl
noncomputable def iG(a:Int)(c:Sh)(b:List cG):Hl:=⟨a,c,b,none,none,0,0,none,[],[],List.replicate b.length 0⟩
theorem Ue(a c b):bI ("settled":Str) (.l ((List.replicate b.length (0:Nat)).map bT)) (ly (bM a c) (eW b))=ak (iG a c b):=by unfold ly ak iG;kernel_rfl
theorem Hy:∀l a (U:ai),(∃x,U=[x])->a.length+l.length<=sizeLine->bW (ay 0) dB (uE C) l a U=some (a++(List.replicate l.length (0:Nat)).map bT)
 |[],a,U,_,_=>by simp[bW]
 |d::l,a,U,⟨x,b⟩,c=>by
  subst b;simp only[q0l]at c;have e:=Hy (C:=C) l (a++[.int 0]) [some (.dat d)] ⟨_,rfl⟩ (by simp;lia);have f:uE C [some (.dat d)]=.ok (.int 0) [some (.dat d)]:=by simp[uE]
  rw[bW];simp[dB,f,show a.length<sizeLine by lia,e,q1e]
theorem yy(c:jz [.dat (bM a ss)]=.rt (.dat .none) [])(hd:mL [.dat (eW ds)]=.rt (.dat .none) [])(f:ds.length<=6):kW C [.own true (.o C []),.dat (bM a ss),.dat (eW ds)]=.rt (.dat .none) [hB C (iG a ss ds)]:=by
 have sz:1000<sizeLine:=by decide
 have d:([]:List (Str×Fl))=lc (bM a ss) (eW ds):=by unfold lc;rfl
 have g:=Hy (C:=C) (ds.map gm) [] [none] ⟨_,rfl⟩ (by simp;lia);rw[q0I,q0h]at g;have e:eW ds=.tuple (ds.map gm):=by unfold eW;rfl
 have b:=Ue a ss ds;rw[d];simp[kW,Es,c,hd,dq,gY,gX,mj,xn,sN];rw[e]at *;simp[g,show ds.length<=sizeLine by lia]at b ⊢;exact b
def uU(p:eV):Prop:=mE p/\∀h,p≠.daily h
theorem yz{c:Nat}(b:ss.length<=6)(ok:uU p):fG [.dat (bM a ss),.dat (qY p),.dat (.int c)]=.rt (.dat (lb (gZ a ss p c))) []:=by
 cases p with
 |once m=>
  by_cases e:c=0
  .subst e;simp[fG,tU,dc kg kg,hR,gZ,lb]
  .simp[fG,tU,dc kg kg,hR,gZ,lb,e]
 |every f s=>exact Hm ok.1.2.1 ok.1.2.2
 |daily h=>exact absurd rfl (ok.2 h)
theorem lA:PyData.strOk "all" = true:=by decide +kernel
theorem jD:PyData.strOk "last" = true:=by decide +kernel
theorem yA:PyData.strOk "within" = true:=by decide +kernel
theorem jE:PyData.strOk "begun" = true:=by decide +kernel
theorem uV:PyData.strOk "done" = true:=by decide +kernel
theorem Uf:PyData.strOk "left" = true:=by decide +kernel
theorem Ug:PyData.strOk "unsure" = true:=by decide +kernel
theorem Hz:(("all":Str)==("all":Str))=true:=by decide +kernel
theorem yB:(("last":Str)==("all":Str))=false:=by decide +kernel
theorem yC:(("last":Str)==("last":Str))=true:=by decide +kernel
theorem yD:(("begun":Str)==("begun":Str))=true:=by decide +kernel
theorem HA:(("done":Str)==("begun":Str))=false:=by decide +kernel
theorem Uh:(("left":Str)==("begun":Str))=false:=by decide +kernel
theorem Ui:(("unsure":Str)==("begun":Str))=false:=by decide +kernel
theorem Uj(w):PyData.strOk (cO w)=true:=by cases w<;>decide +kernel
theorem Uk(w):aT false (.str (cO w)) (.str "begun")=some (.bool (decide (w=.begun))):=by
 cases w
 .simp[dc jE jE,yD]
 .simp[dc uV jE,HA]
 .simp[dc Uf jE,Uh]
 .simp[dc Ug jE,Ui]
theorem HB(h:SeqAt.shaped (.tuple l)=true)(a:PyData.strOk x=true):aT false (.tuple l) (.str x)=some (.bool false):=by simp[aT,h,yr a,PyData.eqv]
theorem HD(n):SeqAt.shaped (.tuple [.str "within",.int n])=true:=by unfold SeqAt.shaped;simp[PyData.canLay0,PyData.canLayAll0,PyData.depth,PyData.depthAll,yA]
def ra(a:Int)(e:Sh)(d:cG)(c:Nat)(b:Int):Bool:=match d.late with
 |.all=>false
 |.last=>(match gZ a e d.plan (c+1) with |some v=>decide (v<=b) |none=>false)
 |.within n=>decide (b - Dq a e d.plan c>n)
theorem Ul(f:ss.length<=6)(ok:uU d.plan)(g:∃v,gZ a ss d.plan c=some v):mG [.dat (bM a ss),.dat (gm d),.dat (.int c),.dat (.int now)]=.rt (.dat (.bool (ra a ss d c now))) []:=by
 obtain⟨p,la,h⟩:=d;obtain⟨v,e⟩:=g;simp only at ok e;unfold ra;cases la with
 |all=>simp[mG,qx,dc lA lA,Hz]
 |last=>
  have rt:=yz (a:=a) (ss:=ss) (p:=p) (c:=c+1) f ok;simp at rt;cases b:gZ a ss p (c+1) with
  |none=>rw[b]at rt;simp[mG,qx,dc jD lA,dc jD jD,yB,yC,rt,lb,b]
  |some w=>rw[b]at rt;simp[mG,qx,dc jD lA,dc jD jD,yB,yC,rt,lb,b]
 |within n=>have rt:=yz (a:=a) (ss:=ss) (p:=p) (c:=c) f ok;rw[e]at rt;simp[mG,qx,HB (HD n) lA,HB (HD n) jD,rt,lb,Dq,e]
noncomputable def dY:List ((Nat×Nat)×Wd)->(Nat×Nat)->Wd->List ((Nat×Nat)×Wd)
 |[],k,w=>[(k,w)]
 |(a,v)::r,k,w=>if a = k then(a,w)::r else(a,v)::dY r k w
theorem yE(d c):dQ true (.tuple [bT d,bT c])=some [Sum.inl (d:Int),Sum.inl (c:Int)]:=rfl
theorem rb{d c :Nat}:(dQ true (.tuple [bT a,bT b])=some [Sum.inl (d:Int),Sum.inl (c:Int)])↔(a,b)=(d,c):=by
 rw[yE];constructor
 .intro h;simp only[q0N,q2E,Sum.inl.injEq,and_true]at h;have g:=h.1;have i:=h.2;have e:a = d:=by lia
  have f:b = c:=by lia
  rw[e,f]
 .intro h;cases h;rfl
theorem HE(d c:Nat):∀e,dm true (eK e) [Sum.inl (d:Int),Sum.inl (c:Int)]=(e.lookup (d,c)).map fun w=>.str (cO w)
 |[]=>rfl
 | ((a,b),w)::r=>by
  unfold eK;rw[q0c,dm];have f:=HE d c r;unfold eK at f
  by_cases h:(a,b)=(d,c)
  .rw[if_pos (rb.mpr h)];cases h;simp[List.lookup]
  .rw[if_neg (fun z=>h (rb.mp z)),f];have:((d,c)==(a,b))=false:=by simpa using fun z:(d=a/\c=b)=>h (by rw[z.1,z.2])
   rw[q0m,this]
theorem HF(d c w):∀a:List ((Nat×Nat)×Wd),(a.map (·.1)).Nodup->(a.lookup (d,c)).isSome=true->iX true [Sum.inl (d:Int),Sum.inl (c:Int)] (.str (cO w)) (eK a)=eK (dY a (d,c) w)
 |[],_,h=>by cases h
 | ((b,f),v)::r,nd,h=>by
  unfold eK;rw[q0c,iX];have tail:∀a:List ((Nat×Nat)×Wd),(d,c)∉a.map (·.1)->iX true [Sum.inl (d:Int),Sum.inl (c:Int)] (.str (cO w)) (eK a)=eK a:=by
   intro a
   induction a with
   |nil=>intro _;rfl
   |cons p r i=>intro g;obtain⟨⟨k,l⟩,m⟩:=p;simp only[q0c,q0d,not_or]at g;unfold eK;rw[q0c,iX,if_neg (fun z=>g.1 (rb.mp z).symm)];have:=i g.2;unfold eK at this;rw[this]
  by_cases e:(b,f)=(d,c)
  .cases e;rw[if_pos (rb.mpr rfl),dY,if_pos rfl,q0c];have:=tail r (by simpa using(q0Q.mp nd).1);unfold eK at this;rw[this]
  .have j:(r.lookup (d,c)).isSome=true:=by
    have:((d,c)==(b,f))=false:=by simpa using fun z:(d=b/\c=f)=>e (by rw[z.1,z.2])
    rw[q0m,this]at h;exact h
   rw[if_neg (fun z=>e (rb.mp z)),dY,if_neg e,q0c];have:=HF d c w r (q0Q.mp nd).2 j;unfold eK at this;rw[this]
theorem HI(k w):∀a,a.lookup k=none->dY a k w=a++[(k,w)]
 |[],_=>rfl
 | (b,v)::r,h=>by
  rw[q0m]at h
  by_cases e:k=b
  .subst e;simp at h
  .have:(k==b)=false:=by simpa using e
   rw[this]at h;rw[dY,if_neg (fun z=>e z.symm),HI k w r h];rfl
theorem Um(a:(ws.map (·.1)).Nodup):fB true (eK ws) (.tuple [bT d,bT c]) [Sum.inl (d:Int),Sum.inl (c:Int)] (.str (cO w))=eK (dY ws (d,c) w):=by
 unfold fB;rw[HE];cases h:ws.lookup (d,c) with
 |none=>rw[HI _ _ _ h];simp[eK]
 |some v=>simp only[q14,q2e,if_true];exact HF d c w ws a (by rw[h];rfl)
theorem yF(k w):∀a,(dY a k w).map (·.1)=if k∈a.map (·.1) then a.map (·.1) else a.map (·.1)++[k]
 |[]=>by simp[dY]
 | (b,v)::r=>by
  rw[dY]
  by_cases e:b = k
  .subst e;simp
  .rw[if_neg e,q0c,yF k w r]
   by_cases h:k∈r.map (·.1)
   .rw[if_pos h];rw[if_pos (by simp[h])];rfl
   .rw[if_neg h,if_neg (by
     simp only[q0c,q0d,not_or];exact⟨fun z=>e z.symm,h⟩)];rfl
theorem HJ(d:(c.map (·.1)).Nodup):((dY c k w).map (·.1)).Nodup:=by
 rw[yF];split
 .exact d
 .rename_i h;exact q0f.mpr ⟨d,by simp,fun a f b e z=>by simp at e;subst e;subst z;exact h f⟩
theorem HK(k w a):(dY a k w).length<=a.length+1:=by have:=congrArg List.length (yF k w a);rw[q0h]at this;rw[this];split<;>simp
def gJ(S:Hl)(r:gp):Hl:={ S with rows:=S.rows++[r],words:=dY S.words (r.dd,r.ct) r.wd,begun:=if r.wd=.begun then some (r.dd,r.ct,S.holds) else none,settled:=if r.wd=.begun then S.settled else S.settled.set r.dd (r.ct+1) }
theorem kj{v:PyData}:bA (x::y::z::v::l) 3=some v:=by unfold bA cI;rw[if_pos (by lia),if_pos (by simp<;>lia)];rfl
theorem rc{u:PyData}:bA (x::y::z::v::u::l) 4=some u:=by unfold bA cI;rw[if_pos (by lia),if_pos (by simp<;>lia)];rfl
theorem Uo(S r):bI ("rows":Str) (.l (S.rows.map cz++[cz r])) (ak S)=ak { S with rows:=S.rows++[r] }:=by rw[show S.rows.map cz++[cz r]=(S.rows++[r]).map cz by simp];exact Ua S _
theorem rg(j:S.rows.length<1000000)(k:S.words.length<1000000)(i:(S.words.map (·.1)).Nodup)(hd:r.dd<S.settled.length):iE C [.own true (hB C S),.dat (cz r)]=.rt (.dat (.tuple [.str (cO r.wd),bT r.dd,bT r.ct])) [hB C (gJ S r)]:=by
 have sz:1000000<sizeLine:=by decide
 obtain⟨mo,ru,wd,a,b⟩:=r;have e:=Um (ws:=S.words) (d:=a) (c:=b) (w:=wd) i;have f:(eK S.words).length<sizeLine:=by unfold eK;rw[q0h];lia
 have g:=Uo S ⟨mo,ru,wd,a,b⟩;simp only at hd;have h:cI S.settled.length (a:Int)=some a:=by unfold cI;rw[if_pos (by lia),if_pos (by lia)];simp
 have st:(S.settled.map bT).set a (.int ((b:Int)+1))=(S.settled.set a (b+1)).map bT:=by rw[List.map_set];simp[bT]
 unfold gJ
 by_cases hb:wd=.begun
 .subst hb;simp[iE,yb,kj,rc,pR,fO,sH,show S.rows.length<sizeLine by lia,g,sI,pS,yE,f,e,Hu,dq,gY,gX,show(3:Nat)<=sizeLine by lia,sJ,pU,h,st,dc jE jE,yD]
 .simp[iE,yb,kj,rc,pR,fO,sH,show S.rows.length<sizeLine by lia,g,sI,pS,yE,f,e,Hu,dq,gY,gX,show(3:Nat)<=sizeLine by lia,sJ,pU,h,st,Uk,hb];rw[<-List.map_set];exact Ub _ _
structure bH (S:Hl):Prop where
 z:fF S.a S.ss
 dl:S.ds.length<=6
 pl:∀d∈S.ds,uU d.plan
 sl:S.settled.length=S.ds.length
 nd:(S.words.map (·.1)).Nodup
 bg:∀d c h,S.begun=some (d,c,h)->d<S.ds.length
noncomputable def uW(S:Hl):Bool:=match S.begun with
 |some (_,_,h)=>decide (h=S.holds)
 |none=>false
theorem Uq(b:a.length=n)(d:m (a.map some++List.replicate (N - n) none)=.rt c U)(e:dZ a U=some o):aW n N m a=.rt c o:=by unfold aW;rw[if_pos b,d];simp only[e]
theorem Ur(a:-4611686018427387904<=j)(b:j<4611686018427387904):bL [.int j]=some (L3.intsFrom 0 j.toNat):=by show(if _ then _ else _)=_;rw[if_pos (by rw[decide_eq_true (show -(2 ^ 62)<=j by lia),decide_eq_true (show j<2 ^ 62 by lia)];rfl)]
theorem HL:nZ C [.own true (hB C S)]=.rt (.dat (.bool (uW S))) [hB C S]:=by
 unfold uW;cases h:S.begun with
 |none=>simp[nZ,yc,h,hU]
 |some p=>obtain⟨d,c,k⟩:=p;simp[nZ,yc,h,hU,hR]
theorem HM{a:List cG}(h:k<a.length):aM (eW a) (.int k)=some (gm a[k]):=by
 unfold eW;have:bA (a.map gm) (k:Int)=some (gm a[k]):=by unfold bA cI;rw[if_pos (by lia),if_pos (by simp;lia)];simp[h]
 simp[aM,this]
theorem Us{l:List Nat}(h:k<l.length):bA (l.map bT) (k:Int)=some (bT l[k]):=by unfold bA cI;rw[if_pos (by lia),if_pos (by simp;lia)];simp[h]
noncomputable def cX(S:Hl)(k:Nat):Nat:=S.settled.getD k 0
def oA(S:Hl)(k:Nat):Option (List Int):=match S.ds[k]? with
 |some d=>(gZ S.a S.ss d.plan (cX S k)).map fun v=>[v,(k:Int),(cX S k:Int)]
 |none=>none
def ff(S:Hl):List (List Int):=(List.range S.ds.length).filterMap (oA S)
noncomputable abbrev aG(r:List Int):PyData:=.tuple (r.map PyData.int)
theorem yG(ok:bH S):∀n k  b  m f g,k+n=S.ds.length->b.length<=k->∃h i j,br (ay 2) (mI C) (L3.intsFrom (k:Int) n) [some (.own true (hB C S)),some (.own false (.l (b.map aG))),m,f,g]=.nx [some (.own true (hB C S)),some (.own false (.l ((b++(List.range' k n).filterMap (oA S)).map aG))),h,i,j]
 |0,k,b,m,f,g,_,_=>⟨m,f,g,by simp[L3.intsFrom,br]⟩
 |n+1,k,b,m,f,g,w,x=>by
  have sz:1000<sizeLine:=by decide
  have d:k<S.ds.length:=by lia
  have q:k<S.settled.length:=by rw[ok.sl];exact d
  have dl:=ok.dl;have s:uU (S.ds[k]).plan:=ok.pl _ (q1r d);have t:cX S k=S.settled[k]:=by unfold cX;rw[q0Y,q0j q];rfl
  have rt:=yz (a:=S.a) (ss:=S.ss) (p:=(S.ds[k]).plan) (c:=S.settled[k]) ok.z.len s;have as:=Us (l:=S.settled) q;have u:oA S k=(gZ S.a S.ss (S.ds[k]).plan S.settled[k]).map fun v=>[v,(k:Int),((S.settled[k]:Nat):Int)]:=by unfold oA;rw[q0j d,<-t]
  rw[uQ,br,List.range'_succ,q00,u];cases r:gZ S.a S.ss (S.ds[k]).plan S.settled[k]with
  |none=>
   rw[r]at rt;have e:mI C [some (.own true (hB C S)),some (.own false (.l (b.map aG))),some (.dat (.int k)),f,g]=.nx [some (.own true (hB C S)),some (.own false (.l (b.map aG))),some (.dat (.int k)),some (.dat (bT S.settled[k])),some (.dat .none)]:=by simp[-aM,mI,pT,fO,as,HM d];simp[rt,lb]
   obtain⟨h,i,j,o⟩:=yG ok n (k+1) b (some (.dat (.int k))) (some (.dat (bT S.settled[k]))) (some (.dat .none)) (by lia) (by lia);refine⟨h,i,j,?_⟩;simp only[Option.map_none];rw[<-o];simp[e]
  |some v=>
   rw[r]at rt;have e:mI C [some (.own true (hB C S)),some (.own false (.l (b.map aG))),some (.dat (.int k)),f,g]=.nx [some (.own true (hB C S)),some (.own false (.l ((b++[[v,(k:Int),((S.settled[k]:Nat):Int)]]).map aG))),some (.dat (.int k)),some (.dat (bT S.settled[k])),some (.dat (.int v))]:=by simp[-aM,mI,pT,fO,as,HM d];simp[rt,lb,show b.length<sizeLine by lia,show(3:Nat)<=sizeLine by lia]
   obtain⟨h,i,j,o⟩:=yG ok n (k+1) (b++[[v,(k:Int),((S.settled[k]:Nat):Int)]]) (some (.dat (.int k))) (some (.dat (bT S.settled[k]))) (some (.dat (.int v))) (by lia) (by simp;lia);refine⟨h,i,j,?_⟩;simp only[q14];rw[q0t,q1T]at o;rw[<-o];simp[e]
theorem HN:∀a,gf (a.map PyData.int)=some a
 |[]=>rfl
 |n::a=>by rw[q0c,gf,HN a];rfl
theorem yH:∀a,jt (a.map aG)=some a
 |[]=>rfl
 |r::a=>by rw[q0c,jt,HN,yH a]
def oB:List (List Int)->PyData
 |[]=>.none
 |r::a=>aG (fP a r)
theorem Ut:(eP gB (av (cg C 0 "deeds") aP)) [some (.own true (hB C S)),some (.own false (.l [])),none,none,none]=.ok (.int S.ds.length) [some (.own true (hB C S)),some (.own false (.l [])),none,none,none]:=by simp[eW]
theorem Uu(h:U[1]? = some (some (.own false (.l (a.map aG))))):kN 1 U=.ok (oB a) U:=by unfold kN pK;rw[h];simp only[yH];cases a<;>rfl
theorem Uv(h:0<=n)(i:n<=1000)(c:m U=.ok (.int n) U)(d:br g b (L3.intsFrom 0 n.toNat) U=.nx a):eE (eQ bL (av m aP)) g b U=.nx a:=by
 have e:(av m aP) U=.ok [.int n] U:=by show gc.bind (m U) _=_;rw[c];rfl
 have f:eQ bL (av m aP) U=.ok (L3.intsFrom 0 n.toNat) U:=by show gc.bind ((av m aP) U) _=_;rw[e];show L3.lift (bL [.int n]) U=_;rw[Ur (by lia) (by lia)];rfl
 show dz (eQ bL (av m aP) U) _=_;rw[f];exact d
theorem Uw(ok:bH S):yf C [.own true (hB C S)]=.rt (.dat (oB (ff S))) [hB C S]:=by
 have dl:=ok.dl;obtain⟨a,b,c,g⟩:=yG (C:=C) ok S.ds.length 0 [] none none none (by lia) (by simp);rw[q0I,<-List.range_eq_range']at g;change br _ _ (L3.intsFrom 0 S.ds.length) [_,some (.own false (.l [])),_,_,_]=fx.nx [_,some (.own false (.l ((ff S).map aG))),_,_,_]at g;have d:=Uv (m:=eP gB (av (cg C 0 "deeds") aP)) (by lia) (by lia) (Ut (C:=C) (S:=S)) (by rw[q1N];exact g);have e:ef 1 (iz aP) [some (.own true (hB C S)),none,none,none,none]=.nx [some (.own true (hB C S)),some (.own false (.l [])),none,none,none]:=by simp
 have f:bF (kN 1) [some (.own true (hB C S)),some (.own false (.l ((ff S).map aG))),a,b,c]=.rt (.dat (oB (ff S))) [some (.own true (hB C S)),some (.own false (.l ((ff S).map aG))),a,b,c]:=by show dz (kN 1 _) _=_;rw[Uu rfl];rfl
 have h:(au (ef 1 (iz aP)) (au (eE (eQ bL (av (eP gB (av (cg C 0 "deeds") aP)) aP)) (ay 2) (mI C)) (bF (kN 1)))) [some (.own true (hB C S)),none,none,none,none]=.rt (.dat (oB (ff S))) [some (.own true (hB C S)),some (.own false (.l ((ff S).map aG))),a,b,c]:=by rw[yq e,yq d,f]
 exact Uq (n:=1) (N:=5) rfl h rfl
theorem yI:∀a  r,fP a r=r\/fP a r∈a
 |[],r=>.inl rfl
 |x::a,r=>by
  rw[fP];rcases yI a (if HT.lexLt x r=true then x else r) with h |h
  .rw[h];split
   .exact .inr q0g
   .exact .inl rfl
  .exact .inr (bG _ h)
theorem lB(a):eW a=.tuple (a.map gm):=by unfold eW;rfl
theorem uX{a:List cG}(h:k<a.length):bA (a.map gm) (k:Int)=some (gm a[k]):=by unfold bA cI;rw[if_pos (by lia),if_pos (by simp;lia)];simp[h]
theorem HP(h:x∈ff S):∃k v,∃c,gZ S.a S.ss (S.ds[k]).plan (cX S k)=some v/\x=[v,(k:Int),(cX S k:Int)]:=by unfold ff at h;obtain⟨k,c,e⟩:=q2x.mp h;have b:=q2c.mp c;unfold oA at e;rw[q0j b]at e;obtain⟨v,d,f⟩:=q0i.mp e;exact⟨k,v,b,d,f.symm⟩
def lC(S:Hl):Option (Int×Nat):=match ff S with
 |[]=>none
 |x::a=>(match fP a x with
  |[v,k,_]=>some (v,k.toNat)
  |_=>none)
theorem Ux(h:lC S=none):ff S=[]:=by
 unfold lC at h;cases a:ff S with
 |nil=>rfl
 |cons x b=>
  rw[a]at h;have c:fP b x∈ff S:=by
   rw[a];rcases yI b x with e |e
   .rw[e];exact q0g
   .exact bG _ e
  obtain⟨k,v,d,_,e⟩:=HP c;simp only[e]at h;cases h
theorem Uy(h:lC S=some (v,k)):∃d,gZ S.a S.ss (S.ds[k]).plan (cX S k)=some v/\∃x b,ff S=x::b/\fP b x=[v,(k:Int),(cX S k:Int)]:=by
 unfold lC at h;cases c:ff S with
 |nil=>rw[c]at h;cases h
 |cons x b=>
  rw[c]at h;have f:fP b x∈ff S:=by
   rw[c];rcases yI b x with e |e
   .rw[e];exact q0g
   .exact bG _ e
  obtain⟨i,j,d,g,e⟩:=HP f;simp only[e,q0N,Prod.mk.injEq,q1N]at h;obtain⟨rfl,rfl⟩:=h;exact⟨d,g,x,b,rfl,e⟩
def lD(S:Hl)(r m:Int):Hl×PyData:=match lC S with
 |none=>(S,.tuple [.str "idle",.none])
 |some (v,k)=>if m<v then(S,.tuple [.str "idle",.int v]) else
  (match S.ds[k]? with
  |some d=>(gJ S ⟨m,r,if ra S.a S.ss d (cX S k) m=true then .left else .begun,k,cX S k⟩,.tuple [.str (cO (if ra S.a S.ss d (cX S k) m=true then .left else .begun)),bT k,bT (cX S k)])
  |none=>(S,.none))
theorem Uz(ok:bH S)(j:S.rows.length<1000000)(l:S.words.length<1000000):mK C [.own true (hB C S),.dat (.int r),.dat (.int m)]=.rt (.dat (lD S r m).2) [hB C (lD S r m).1]:=by
 have sz:1000000<sizeLine:=by decide
 have b:=Uw (C:=C) ok;unfold lD;cases n:lC S with
 |none=>rw[Ux n]at b;simp[mK,qF,dU,b,oB,show(2:Nat)<=sizeLine by lia]
 |some p=>
  obtain⟨v,k⟩:=p;obtain⟨g,q,x,t,s,e⟩:=Uy n;rw[s,oB,e]at b;simp only[aG,q0c,q08]at b
  by_cases h:m<v
  .simp[mK,qF,dU,b,h,show(2:Nat)<=sizeLine by lia]
  .have lo:=Ul (a:=S.a) (ss:=S.ss) (d:=S.ds[k]) (c:=cX S k) (now:=m) ok.z.len (ok.pl _ (q1r g)) ⟨v,q⟩;simp only[q0j g];rw[if_neg h];cases o:ra S.a S.ss S.ds[k] (cX S k) m with
   |true=>rw[o]at lo;have i:=rg (C:=C) (S:=S) (r:=⟨m,r,.left,k,cX S k⟩) j l ok.nd (by rw[ok.sl];exact g);have f:iE C [.own true (hB C S),.dat (.tuple [.int m,.int r,.str "left",.int k,.int (cX S k)])]=.rt (.dat (.tuple [.str "left",.int k,.int (cX S k)])) [hB C (gJ S ⟨m,r,.left,k,cX S k⟩)]:=i;simp[mK,qF,dU,ck,dS,b,lB,uX g,lo,h,f,show(5:Nat)<=sizeLine by lia]
   |false=>rw[o]at lo;have i:=rg (C:=C) (S:=S) (r:=⟨m,r,.begun,k,cX S k⟩) j l ok.nd (by rw[ok.sl];exact g);have f:iE C [.own true (hB C S),.dat (.tuple [.int m,.int r,.str "begun",.int k,.int (cX S k)])]=.rt (.dat (.tuple [.str "begun",.int k,.int (cX S k)])) [hB C (gJ S ⟨m,r,.begun,k,cX S k⟩)]:=i;simp[mK,qF,dU,ck,dS,b,lB,uX g,lo,h,f,show(5:Nat)<=sizeLine by lia]
def uY(S:Hl)(r m:Int)(d c:Nat):Hl×PyData:=match S.ds[d]? with
 |some x=>(gJ S ⟨m,r,if x.again=true then .begun else .unsure,d,c⟩,.tuple [.str (cO (if x.again=true then .begun else .unsure)),bT d,bT c])
 |none=>(S,.none)
theorem UA(ok:bH S)(f:S.rows.length<1000000)(g:S.words.length<1000000)(e:S.begun=some (d,c,h)):qC C [.own true (hB C S),.dat (.int r),.dat (.int m)]=.rt (.dat (uY S r m d c).2) [hB C (uY S r m d c).1]:=by
 have sz:1000000<sizeLine:=by decide
 have hd:=ok.bg d c h e;unfold uY;simp only[q0j hd];cases i:(S.ds[d]).again with
 |true=>have b:=rg (C:=C) (S:=S) (r:=⟨m,r,.begun,d,c⟩) f g ok.nd (by rw[ok.sl];exact hd);have a:iE C [.own true (hB C S),.dat (.tuple [.int m,.int r,.str "begun",.int d,.int c])]=.rt (.dat (.tuple [.str "begun",.int d,.int c])) [hB C (gJ S ⟨m,r,.begun,d,c⟩)]:=b;simp[qC,yg,ck,dS,e,hU,lB,uX hd,i,a,show(5:Nat)<=sizeLine by lia]
 |false=>have b:=rg (C:=C) (S:=S) (r:=⟨m,r,.unsure,d,c⟩) f g ok.nd (by rw[ok.sl];exact hd);have a:iE C [.own true (hB C S),.dat (.tuple [.int m,.int r,.str "unsure",.int d,.int c])]=.rt (.dat (.tuple [.str "unsure",.int d,.int c])) [hB C (gJ S ⟨m,r,.unsure,d,c⟩)]:=b;simp[qC,yg,ck,dS,e,hU,lB,uX hd,i,a,show(5:Nat)<=sizeLine by lia]
theorem bH.last(ok:bH S)(x):bH { S with last:=x }:=⟨ok.z,ok.dl,ok.pl,ok.sl,ok.nd,ok.bg⟩
def rh(S:Hl)(r m:Int):Hl×PyData:=match S.begun with
 |some (d,c,h)=>if h=S.holds then({ S with last:=some m },.tuple [.str "busy",bT d,bT c]) else uY { S with last:=some m } r m d c
 |none=>lD { S with last:=some m } r m
theorem UB(ok:bH S)(f:S.rows.length<1000000)(g:S.words.length<1000000)(b:kU C [.own true (hB C S),.dat (.int r),.dat (.int m)]=.rt (.dat .none) [hB C S]):kc C [.own true (hB C S),.dat (.int r),.dat (.int m)]=.rt (.dat (rh S r m).2) [hB C (rh S r m).1]:=by
 have sz:1000000<sizeLine:=by decide
 have a:=HL (C:=C) (S:={ S with last:=some m });unfold uW at a;unfold rh;cases hb:S.begun with
 |none=>have i:=Uz (C:=C) (S:={ S with last:=some m }) (r:=r) (m:=m) (ok.last _) f g;simp only[hb]at a i ⊢;simp[kc,uz,ck,dU,dS,b,dq,gY,gX,a,hb,hU,i]
 |some p=>
  obtain⟨d,c,h⟩:=p;have j:=UA (C:=C) (S:={ S with last:=some m }) (r:=r) (m:=m) (ok.last _) f g hb;simp only[hb]at a j ⊢
  by_cases e:h=S.holds
  .rw[if_pos e];rw[decide_eq_true e]at a;simp[kc,uz,ck,dU,dS,b,dq,gY,gX,a,hb,hU,show(3:Nat)<=sizeLine by lia]
  .rw[if_neg e];rw[decide_eq_false e]at a;simp[kc,uz,ck,dU,dS,b,dq,gY,gX,a,hb,hU,j]
theorem UC(ok:bH S)(f:S.rows.length<1000000)(g:S.words.length<1000000)(h:kU C [.own true (hB C S),.dat (.int r),.dat (.int m)]=.rt (.dat .none) [hB C S])(e:S.begun=some (d,c,S.holds)):om C [.own true (hB C S),.dat (.int r),.dat (.int m)]=.rt (.dat (.tuple [.str "done",bT d,bT c])) [hB C (gJ { S with last:=some m } ⟨m,r,.done,d,c⟩)]:=by
 have sz:1000000<sizeLine:=by decide
 have b:=HL (C:=C) (S:=S);unfold uW at b;rw[e]at b;simp only[decide_true]at b;have hd:=ok.bg d c _ e;have i:=rg (C:=C) (S:={ S with last:=some m }) (r:=⟨m,r,.done,d,c⟩) f g ok.nd (by show d<S.settled.length;rw[ok.sl];exact hd);have a:iE C [.own true (hB C { S with last:=some m }),.dat (.tuple [.int m,.int r,.str "done",.int d,.int c])]=.rt (.dat (.tuple [.str "done",.int d,.int c])) [hB C (gJ { S with last:=some m } ⟨m,r,.done,d,c⟩)]:=i;simp only[e]at a;simp[om,Em,ck,dU,dS,h,b,dq,gY,gX,e,hU,a,show(5:Nat)<=sizeLine by lia]
@[simp]theorem Yp:cy "tuple" "str" = some false:=by decide
@[simp]theorem Yq:cy "tuple" "bool" = some false:=by decide
@[simp]theorem Yr:cy "tuple" "list" = some false:=by decide
@[simp]theorem Ys:cy "list" "str" = some false:=by decide
@[simp]theorem Yt:cy "list" "bool" = some false:=by decide
@[simp]theorem Yu:cy "list" "list" = some true:=by decide
@[simp]theorem Yv:cy "NoneType" "str" = some false:=by decide
@[simp]theorem Yw:cy "NoneType" "bool" = some false:=by decide
@[simp]theorem Yx:cy "NoneType" "list" = some false:=by decide
@[simp]theorem Yy:cy "int" "str" = some false:=by decide
@[simp]theorem Yz:cy "int" "list" = some false:=by decide
@[simp]theorem YA:cy "bool" "str" = some false:=by decide
@[simp]theorem YB:cy "bool" "list" = some false:=by decide
@[simp]theorem YC:cy "str" "bool" = some false:=by decide
@[simp]theorem YD:cy "str" "list" = some false:=by decide
def ri:kh->Prop
 |.within n=>0<=n/\n<=999
 |_=>True
theorem UD(ok:ri x):og [.dat (Hq x)]=.rt (.dat (.bool true)) []:=by
 cases x with
 |all=>simp[og,uf,dc lA lA,Hz]
 |last=>simp[og,uf,dc jD lA,dc jD jD,yB,yC]
 |within n=>
  have a:(("within":Str)==("within":Str))=true:=by decide +kernel
  simp[og,uf,jf yA yA,a,jC (d:=.int n) rfl,cu,ok.1,ok.2]
theorem UE(a:mE d.plan)(b:ri d.late):uk [.dat (gm d)]=.rt (.dat (.bool true)) []:=by have c:=Hj a;have e:=UD b;simp[uk,DZ,qV,gx,c,e]
theorem HQ:∀(b:List cG)  a (U:ai),(∃x,U=[x])->(∀d∈b,mE d.plan/\ri d.late)->a.length+b.length<=sizeLine->bW (ay 0) dB uo (b.map gm) a U=some (a++(b.map fun _=>PyData.bool true))
 |[],a,U,_,_,_=>by simp[bW]
 |d::b,a,U,⟨x,c⟩,h,e=>by
  subst c;simp only[q0l]at e;have hd:=h d q0g;have f:=HQ b (a++[.bool true]) [some (.dat (gm d))] ⟨_,rfl⟩ (fun x c=>h x (bG _ c)) (by simp;lia);have g:uo [some (.dat (gm d))]=.ok (.bool true) [some (.dat (gm d))]:=by simp[uo,UE hd.1 hd.2]
  rw[q0c,bW];simp[dB,g,show a.length<sizeLine by lia,f]
theorem HS:∀n,bools? (List.replicate n (PyData.bool true))=some (List.replicate n true)
 |0=>rfl
 |n+1=>by rw[q1e,bools?,HS n];rfl
theorem HU(b:ds.length<=6)(h:∀d∈ds,mE d.plan/\ri d.late):mL [.dat (eW ds)]=.rt (.dat .none) []:=by
 have sz:1000<sizeLine:=by decide
 have g:=HQ ds [] [none] ⟨_,rfl⟩ h (by simp;lia);rw[q0I,q1E]at g;have a:nB [.list (List.replicate ds.length (PyData.bool true))]=some (.bool true):=by simp[nB,HS]
 unfold eW;simp[-nB,mL,Ei,yj,Ee,g,a,show ¬ (6:Int)<ds.length by lia,show ds.length<=sizeLine by lia]
noncomputable def oC:Nat->List PyData->List PyData
 |_,[]=>[]
 |k,d::ds=>.tuple [.int k,d]::oC (k+1) ds
theorem HV:∀a  k,(a.mapIdx fun i d=>PyData.tuple [.int ((i+k:Nat):Int),d])=oC k a
 |[],_=>rfl
 |d::a,k=>by
  rw[List.mapIdx_cons,oC,<-HV a (k+1),q1S]
  congr 1
  apply q0U;intro i;simp only[List.getElem?_mapIdx]
  congr 1
  funext x;rw[show i+1+k=i+(k+1) by lia]
theorem UF(a:List PyData):numbered a=oC 0 a:=by rw[<-HV];rfl
theorem UG(h:∀r∈L,r≠[]):xI [.list (L.map aG)]=some (.list ((TS.sortR L).map aG)):=by
 unfold xI;dsimp only;cases L with
 |nil=>unfold my;simp[gf,jw,TS.sortR]
 |cons r L=>
  have e:gf ((r::L).map aG)=none:=by rw[q0c];rfl
  have a:((r::L).all fun r=>!r.isEmpty)=true:=by
   rw[q01];intro x b;have:=h x b;cases x with
   |nil=>exact absurd rfl this
   |cons _ _=>rfl
  unfold my;rw[e,yH];simp only[a,if_true,q14]
theorem UH(l:List Int):PyData.canLayAll0 (l.map PyData.int)=true:=by induction l with |nil=>rfl |cons x r a=>simpa[PyData.canLayAll0,PyData.canLay0] using a
theorem UI(l:List Int):PyData.depthAll (l.map PyData.int)=0:=by induction l with |nil=>rfl |cons x r a=>simpa[PyData.depthAll,PyData.depth] using a
theorem HW(a:0<=first/\first<=last)(b:last<=9999):qG [.dat (.int first),.dat (.int last)]=.rt (.dat .none) []:=by simp[qG,Eb,kZ (d:=.int first) rfl,kZ (d:=.int last) rfl,cu,a.1,show first<=9999 by lia,show 0<=last by lia,b,show ¬ last<first by lia]
theorem UJ(z:fF a b)(c:0<=first/\first<=last)(e:last<=9999)(hd:∀d∈ds,mE d.plan/\ri d.late)(f:ds.length<=6):qK [.dat (bM a b),.dat (eW ds),.dat (.int first),.dat (.int last)]=.rt (.dat .none) []:=by simp[qK,Eo,ox z,HU f hd,HW c e]
inductive Ro where
 |take (r m t:Int) |give (r m:Int)
noncomputable def Ro.mo:Ro->Int
 |.take _ m _=>m
 |.give _ m=>m
noncomputable def jF:Ro->PyData
 |.take r m t=>.tuple [.str "take",.int r,.int m,.int t]
 |.give r m=>.tuple [.str "give",.int r,.int m]
def HX:Ro->Prop
 |.take r m t=>(0<=r/\r<=3)/\(0<=m/\m<=9999)/\1<=t/\t<=99
 |.give r m=>(0<=r/\r<=3)/\0<=m/\m<=9999
theorem mT:PyData.strOk "take" = true:=by decide +kernel
theorem uZ:PyData.strOk "give" = true:=by decide +kernel
theorem yJ:(("take":Str)==("take":Str))=true:=by decide +kernel
theorem UK:(("give":Str)==("take":Str))=false:=by decide +kernel
theorem UL:(("give":Str)==("give":Str))=true:=by decide +kernel
theorem UM(ok:HX x):qE [.dat (jF x)]=.rt (.dat (.bool true)) []:=by
 cases x with
 |take r m t=>obtain⟨⟨a,b⟩,⟨c,e⟩,f,g⟩:=ok;have h:=jf (x:="take") (w:="take") (rest:=[.int r,.int m,.int t]) (n:=4) mT mT;simp[qE,yh,jF,h,yJ,yt (d:=.int r) rfl,qW (d:=.int m) rfl,Hv (d:=.int t) rfl,cu,a,b,c,e,f,g,bA,cI]
 |give r m=>obtain⟨⟨a,b⟩,c,e⟩:=ok;have h:=jf (x:="give") (w:="take") (rest:=[.int r,.int m]) (n:=4) uZ mT;have i:=jf (x:="give") (w:="give") (rest:=[.int r,.int m]) (n:=3) uZ uZ;simp[qE,yh,jF,h,i,UK,UL,yt (d:=.int r) rfl,qW (d:=.int m) rfl,cu,a,b,c,e,bA,cI]
theorem UN(x):aM (jF x) (.int 2)=some (.int x.mo):=by cases x<;>rfl
def Up:Int->List Ro->Prop
 |_,[]=>True
 |l,x::a=>HX x/\l<=x.mo/\Up x.mo a
theorem HY:∀a  l  c,Up l a->∃d e,br (ay 2) um (a.map jF) [z0,some (.dat (.int l)),c]=.nx [z0,some (.dat (.int d)),e]
 |[],l,c,_=>⟨l,c,by simp[br]⟩
 |x::a,l,c,⟨ok,g,up⟩=>by
  obtain⟨d,e,f⟩:=HY (z0:=z0) a x.mo (some (.dat (jF x))) up;refine⟨d,e,?_⟩;have b:um [z0,some (.dat (.int l)),some (.dat (jF x))]=.nx [z0,some (.dat (.int x.mo)),some (.dat (jF x))]:=by simp[-aM,um,UM ok,UN,show ¬ x.mo<l by lia]
  rw[q0c,br,<-f];simp only[ay,q0l,q0K,q0x,b]
theorem UO(up:Up 0 a):kS [.dat (.list (a.map jF))]=.rt (.dat .none) []:=by obtain⟨b,c,e⟩:=HY (z0:=some (.dat (.list (a.map jF)))) a 0 none up;simp[kS,Ec,e]
abbrev Ho:=Int×Int×Int
noncomputable abbrev cL(h:Ho):PyData:=.tuple [.int h.1,.int h.2.1,.int h.2.2]
structure Wk where
 G:List Ho
 who:Option Int
 til:Int
theorem va(a:PyData.strOk x=true)(b:PyData.strOk w=true)(e:xM [("take",4),("give",3),("step",3),("finish",3)] (.str w)=some (.int n)):ui [some (.dat (.str w)),some (.dat (.tuple (.str x::rest)))]=.ok (.bool (decide (((rest.length+1:Nat):Int)=n)&&(x==w))) [some (.dat (.str w)),some (.dat (.tuple (.str x::rest)))]:=by have h:=jf (x:=x) (w:=w) (rest:=rest) (n:=n) a b;simp[ui,e,h]
theorem UP:PyData.strOk "step" = true:=by decide +kernel
theorem UQ:PyData.strOk "finish" = true:=by decide +kernel
theorem UR:(("take":Str)==("give":Str))=false:=by decide +kernel
theorem US:(("take":Str)==("step":Str))=false:=by decide +kernel
theorem UT:(("take":Str)==("finish":Str))=false:=by decide +kernel
theorem UU(a:PyData.strOk x=true):bW (ay 0) dB ui (gk ["take","give","step","finish"]) [] [none,some (.dat (.tuple (.str x::rest)))]=some [.bool (decide (((rest.length+1:Nat):Int)=4)&&(x=="take")),.bool (decide (((rest.length+1:Nat):Int)=3)&&(x=="give")),.bool (decide (((rest.length+1:Nat):Int)=3)&&(x=="step")),.bool (decide (((rest.length+1:Nat):Int)=3)&&(x=="finish"))]:=by
 have sz:1000<sizeLine:=by decide
 have b:=va (x:=x) (w:="take") (rest:=rest) (n:=4) a mT (by kernel_rfl);have f:=va (x:=x) (w:="give") (rest:=rest) (n:=3) a uZ (by kernel_rfl);have g:=va (x:=x) (w:="step") (rest:=rest) (n:=3) a UP (by kernel_rfl);have h:=va (x:=x) (w:="finish") (rest:=rest) (n:=3) a UQ (by kernel_rfl);have e:gk ["take","give","step","finish"]=[.str "take",.str "give",.str "step",.str "finish"]:=rfl;rw[e];simp only[bW,ay,dB,q0x,b,f,g,h,q0I,q07,q0F,q0l];rw[if_pos (by lia),if_pos (by lia),if_pos (by lia),if_pos (by lia)]
theorem HZ:qD [.dat (.tuple [.str "take",a,b,c])]=.rt (.dat .none) []:=by have g:=UU (x:="take") (rest:=[a,b,c]) mT;simp only[yJ,UR,US,UT,q0l,q0F]at g;simp[qD,DR,g,tG,bools?]
theorem Ia(h:kb C [.own true (hB C S),.dat r,.dat m,.dat t]=.rt (.dat d) [hB C S']):qL C [.own true (hB C S),.dat (.tuple [.str "take",r,m,t])]=.rt (.dat d) [hB C S']:=by simp[qL,Ep,dc mT mT,yJ,ck,dS,h,kj]
theorem Ib(a:qD [.dat c]=.rt (.dat .none) [])(h:qL C [.own true (hB C S),.dat c]=.rt (.dat d) [hB C S']):kX C [.own true (hB C S),.dat c]=.rt (.dat d) [hB C S']:=by simp[kX,Eu,a,sE,h]
theorem UV:jz [.dat (bM 0 [])]=.rt (.dat .none) []:=by kernel_rfl
theorem Ie:mL [.dat (eW [])]=.rt (.dat .none) []:=by kernel_rfl
theorem rl:kW C [.own true (.o C []),.dat (.tuple [.int 0,.tuple []]),.dat (.tuple [])]=.rt (.dat .none) [hB C (iG 0 [] [])]:=by have i:=yy (C:=C) (a:=0) (ss:=[]) (ds:=[]) UV Ie (by simp);unfold bM eW at i;simpa using i
theorem yK:∀(a:List Ho)  b  x,b.length+a.length<=sizeLine->bW (ay 0) (qN C) (qO C) (a.map cL) b [x]=some (b++(a.filter fun h=>decide (h.2.1<h.2.2)).map cL)
 |[],b,x,_=>by simp[bW]
 |h::a,b,x,c=>by
  simp only[q0l]at c;have d:qN C [some (.dat (cL h))]=.ok (decide (h.2.1<h.2.2)) [some (.dat (cL h))]:=by simp[qN]
  have e:qO C [some (.dat (cL h))]=.ok (cL h) [some (.dat (cL h))]:=by simp[qO]
  rw[q0c,bW];simp only[ay,q0x,d];cases hd:decide (h.2.1<h.2.2) with
  |true=>simp only[e];rw[if_pos (by lia),yK a _ _ (by simp;lia)];simp only[q2t,hd,if_true,q0c,q0t,q1T]
  |false=>simp only;rw[yK a _ _ (by lia)];simp only[q2t,hd,q0L,if_false]
noncomputable def oD(m:Int):List Ho->PyData
 |[]=>.none
 |h::a=>if h.2.1<=m/\m<h.2.2 then .int h.1 else oD m a
theorem Ig:∀a  c d e,(∃i j k,br (du 3 (bC (ay 2) (bC (ay 3) (bC (ay 4) fe)))) (kY C) (a.map cL) [z0,some (.dat (.int m)),c,d,e]=.nx [z0,some (.dat (.int m)),i,j,k]/\oD m a=.none)\/∃U,br (du 3 (bC (ay 2) (bC (ay 3) (bC (ay 4) fe)))) (kY C) (a.map cL) [z0,some (.dat (.int m)),c,d,e]=.rt (.dat (oD m a)) (z0::some (.dat (.int m))::U)
 |[],c,d,e=>.inl ⟨c,d,e,by simp[br],rfl⟩
 |h::a,c,d,e=>by
  by_cases f:h.2.1<=m/\m<h.2.2
  .refine .inr ⟨[some (.dat (.int h.1)),some (.dat (.int h.2.1)),some (.dat (.int h.2.2))],?_⟩;have b:kY C [z0,some (.dat (.int m)),some (.dat (.int h.1)),some (.dat (.int h.2.1)),some (.dat (.int h.2.2))]=.rt (.dat (.int h.1)) [z0,some (.dat (.int m)),some (.dat (.int h.1)),some (.dat (.int h.2.1)),some (.dat (.int h.2.2))]:=by simp[kY,f.1,f.2]
   rw[q0c,br,oD,if_pos f];simp[b]
  .have b:kY C [z0,some (.dat (.int m)),some (.dat (.int h.1)),some (.dat (.int h.2.1)),some (.dat (.int h.2.2))]=.nx [z0,some (.dat (.int m)),some (.dat (.int h.1)),some (.dat (.int h.2.1)),some (.dat (.int h.2.2))]:=by
    by_cases g:h.2.1<=m
    .have l:¬ m<h.2.2:=fun z=>f ⟨g,z⟩;simp[kY,g,l]
    .simp[kY,g]
   have n:=Ig (C:=C) (z0:=z0) (m:=m) a (some (.dat (.int h.1))) (some (.dat (.int h.2.1))) (some (.dat (.int h.2.2)));rw[q0c,br,oD,if_neg f];simpa[b] using n
noncomputable abbrev Ih(h:PyData×Int×Int):PyData:=.tuple [h.1,.int h.2.1,.int h.2.2]
noncomputable abbrev fg(p:Int×Int):PyData:=.tuple [.int p.1,.int p.2]
noncomputable def mU(last:Int):Int->List (PyData×Int×Int)->List (Int×Int)
 |_,[]=>[]
 |s,h::r=>(if s<=min (h.2.1 - 1) last then[(s,min (h.2.1 - 1) last)]else[])++mU last h.2.2 r
theorem yL:∀c  a  s  m n o d,a.length+c.length<200->∃f g i j k,br (du 3 (bC (ay 5) (bC (ay 6) (bC (ay 7) fe)))) (oq C) (c.map Ih) [z0,some (.dat (.int last)),some (.own false (.l (a.map fg))),some (.dat (.int s)),z4,m,n,o,d]=.nx [z0,some (.dat (.int last)),some (.own false (.l ((a++mU last s c).map fg))),f,z4,g,i,j,k]
 |[],a,s,m,n,o,d,_=>⟨some (.dat (.int s)),m,n,o,d,by simp[br,mU]⟩
 |h::c,a,s,m,n,o,d,r=>by
  have sz:1000<sizeLine:=by decide
  simp only[q0l]at r
  by_cases p:s<=min (h.2.1 - 1) last
  .obtain⟨f,g,i,j,k,e⟩:=yL (C:=C) (z0:=z0) (z4:=z4) (last:=last) c (a++[(s,min (h.2.1 - 1) last)]) h.2.2 (some (.dat h.1)) (some (.dat (.int h.2.1))) (some (.dat (.int h.2.2))) (some (.dat (.int (min (h.2.1 - 1) last)))) (by simp;lia);refine⟨f,g,i,j,k,?_⟩;have q:(a.map fg).length<sizeLine:=by rw[q0h];lia
   have b:oq C [z0,some (.dat (.int last)),some (.own false (.l (a.map fg))),some (.dat (.int s)),z4,some (.dat h.1),some (.dat (.int h.2.1)),some (.dat (.int h.2.2)),d]=.nx [z0,some (.dat (.int last)),some (.own false (.l ((a++[(s,min (h.2.1 - 1) last)]).map fg))),some (.dat (.int h.2.2)),z4,some (.dat h.1),some (.dat (.int h.2.1)),some (.dat (.int h.2.2)),some (.dat (.int (min (h.2.1 - 1) last)))]:=by rw[q09,q1K];generalize a.map fg=L at q ⊢;simp[oq,p,q]
   rw[q0c,br,mU,if_pos p,<-q0t,<-e];simp[b]
  .obtain⟨f,g,i,j,k,e⟩:=yL (C:=C) (z0:=z0) (z4:=z4) (last:=last) c a h.2.2 (some (.dat h.1)) (some (.dat (.int h.2.1))) (some (.dat (.int h.2.2))) (some (.dat (.int (min (h.2.1 - 1) last)))) (by lia);refine⟨f,g,i,j,k,?_⟩;have b:oq C [z0,some (.dat (.int last)),some (.own false (.l (a.map fg))),some (.dat (.int s)),z4,some (.dat h.1),some (.dat (.int h.2.1)),some (.dat (.int h.2.2)),d]=.nx [z0,some (.dat (.int last)),some (.own false (.l (a.map fg))),some (.dat (.int h.2.2)),z4,some (.dat h.1),some (.dat (.int h.2.1)),some (.dat (.int h.2.2)),some (.dat (.int (min (h.2.1 - 1) last)))]:=by generalize a.map fg=L;simp[oq,p]
   rw[q0c,br,mU,if_neg p,q0I,<-e];simp[b]
noncomputable abbrev fi(l:List (Int×Int)):eg:=l.map fun p=>(.int p.1,.int p.2)
noncomputable def rm(l:List (Int×Int))(k v:Int):List (Int×Int):=if (l.lookup k).isSome=true then l.map (fun p=>if p.1=k then(p.1,v) else p) else l++[(k,v)]
theorem vb(j k):dQ false (.int j)=some [Sum.inl k]↔j=k:=by simp[dQ,fM]
theorem yM(k):∀l,dm false (fi l) [.inl k]=(l.lookup k).map PyData.int
 |[]=>rfl
 | (j,v)::l=>by
  rw[fi,q0c,dm]
  by_cases h:j=k
  .subst h;rw[if_pos ((vb _ _).mpr rfl)];simp
  .rw[if_neg (fun z=>h ((vb _ _).mp z)),q0m];have:(k==j)=false:=by simpa using fun z=>h z.symm
   rw[this];exact yM k l
theorem Ii(k v):∀l,iX false [.inl k] (.int v) (fi l)=fi (l.map fun p=>if p.1=k then(p.1,v) else p)
 |[]=>rfl
 | (j,w)::l=>by
  rw[fi,q0c,iX];have a:=Ii k v l
  by_cases h:j=k
  .subst h;rw[if_pos ((vb _ _).mpr rfl),a];simp
  .rw[if_neg (fun z=>h ((vb _ _).mp z)),a];simp[h]
theorem UW(l k v):fB false (fi l) (.int k) [.inl k] (.int v)=fi (rm l k v):=by
 unfold fB rm;rw[yM]
 by_cases h:(l.lookup k).isSome=true
 .rw[if_pos (by simpa using h),if_pos h,Ii]
 .rw[if_neg (by simpa using h),if_neg h];simp
theorem Ij(l k v):(rm l k v).length<=l.length+1:=by unfold rm;split<;>simp
def kl(l:List (Int×Int))(h:Ho):List (Int×Int):=rm l h.1 ((l.lookup h.1).getD 0+h.2.2 - h.2.1)
theorem Ik:∀(a:List Ho)  l  c d f,l.length+a.length<200->∃g i j,br (du 3 (bC (ay 2) (bC (ay 3) (bC (ay 4) fe)))) (uI C) (a.map cL) [z0,some (.own false (.m false (fi l))),c,d,f]=.nx [z0,some (.own false (.m false (fi (a.foldl kl l)))),g,i,j]
 |[],l,c,d,f,_=>⟨c,d,f,by simp[br]⟩
 |h::a,l,c,d,f,k=>by
  have sz:1000<sizeLine:=by decide
  simp only[q0l]at k;have o:(kl l h).length<=l.length+1:=Ij ..;obtain⟨g,i,j,e⟩:=Ik (C:=C) (z0:=z0) a (kl l h) (some (.dat (.int h.1))) (some (.dat (.int h.2.1))) (some (.dat (.int h.2.2))) (by lia);refine⟨g,i,j,?_⟩;have gt:(dm false (fi l) [.inl h.1]).getD (.int 0)=.int ((l.lookup h.1).getD 0):=by rw[yM];cases l.lookup h.1<;>rfl
  have st:=UW l h.1 ((l.lookup h.1).getD 0+h.2.2 - h.2.1);have lk:(fi l).length<sizeLine:=by rw[q0h];lia
  have b:uI C [z0,some (.own false (.m false (fi l))),some (.dat (.int h.1)),some (.dat (.int h.2.1)),some (.dat (.int h.2.2))]=.nx [z0,some (.own false (.m false (fi (kl l h)))),some (.dat (.int h.1)),some (.dat (.int h.2.1)),some (.dat (.int h.2.2))]:=by unfold kl;rw[<-st];generalize fi l=n at gt lk ⊢;simp[uI,nJ,pG,eF,dQ,fM,gt,lS,nL,nK,lk]
  rw[q0c,br,q2D,<-e];simp[b]
theorem Il:∀l,mz (fi l)=some l
 |[]=>rfl
 |(k,v)::l=>by rw[fi,q0c,mz,Il l];rfl
theorem Im:∀(a:List Ho)  l,(a.foldl kl l).length<=l.length+a.length
 |[],l=>by simp
 |h::a,l=>by have b:=Im a (kl l h);have c:(kl l h).length<=l.length+1:=Ij ..;simp only[q2D,q0l];lia
theorem yN(h:∀x∈l,PyData.canLay0 x=true/\PyData.depth x<=9):SeqAt.shaped (.list l)=true:=by
 have a:PyData.canLayAll0 l=true:=by
  induction l with
  |nil=>rfl
  |cons x r c=>simp[PyData.canLayAll0,(h x q0g).1,c fun y d=>h y (bG _ d)]
 have b:PyData.depthAll l<=9:=by
  clear a
  induction l with
  |nil=>exact q0T _
  |cons x r c=>have:=c fun y d=>h y (bG _ d);have:=(h x q0g).2;simp only[PyData.depthAll];lia
 unfold SeqAt.shaped;rw[show PyData.canLay0 (.list l)=true by simp[PyData.canLay0,a],Bool.true_and,decide_eq_true_eq,PyData.depth];lia
noncomputable abbrev fH(r m t:Int):PyData:=.tuple [.str "take",.int r,.int m,.int t]
abbrev dD:List PyData:=[fH 1 3 9,fH 0 40 9]
def T1(a:Int)(b:Sh):Hl:=(qZ (iG a b []) 1 3 9).1
def T2(a:Int)(b:Sh):Hl:=(qZ (T1 a b) 0 40 9).1
theorem Io:kX C [.own true (hB C (iG a ss [])),.dat (fH 1 3 9)]=.rt (.dat (.bool true)) [hB C (T1 a ss)]:=
 Ib HZ (Ia (yw (r:=1) (m:=3) (t:=9) (uS rfl (by decide) (by decide) rfl) (by decide)))
theorem Ip:kX C [.own true (hB C (T1 a ss)),.dat (fH 0 40 9)]=.rt (.dat (.bool true)) [hB C (T2 a ss)]:=
 Ib HZ (Ia (yw (r:=0) (m:=40) (t:=9) (uS rfl (by decide) (by decide) rfl) (by decide)))
theorem Iq(hd:kX C [.own true (hB C S),.dat (fH r m t)]=.rt (.dat (.bool true)) [hB C b])(c:(G.length:Int)<b.holds)(e:G.length<100) :
  uG C [z0,some (.own false (hB C S)),some (.own false (.l G)),some (.dat (fH r m t)),x4,x5]=.nx [z0,some (.own false (hB C b)),some (.own false (.l (G++[cL (r,m,b.til)]))),some (.dat (fH r m t)),some (.dat (.bool true)),some (.dat (uT b))]:=by
 have sz:1000<sizeLine:=by decide
 have d:=Ud (C:=C) (S:=b);simp[uG,bX,hd,dU,dS,d,c,show G.length<sizeLine by lia,kj]
theorem UX:uH C [.dat (.list dD)]=.rt (.own false (.l [cL (1,3,12),cL (0,40,49)])) []:=by
 have b:=Iq (C:=C) (z0:=some (.dat (.list dD))) (x4:=none) (x5:=none) (G:=[]) (Io (C:=C) (a:=0) (ss:=[])) (by decide) (by decide);have c:=Iq (C:=C) (z0:=some (.dat (.list dD))) (x4:=some (.dat (.bool true))) (x5:=some (.dat (uT (T1 0 [])))) (G:=[cL (1,3,12)]) (Ip (C:=C) (a:=0) (ss:=[])) (by decide) (by decide);have d:(T1 0 []).til=12:=rfl;have e:(T2 0 []).til=49:=rfl;rw[d]at b;rw[e]at c;have g:br (ay 3) (uG C) dD [some (.dat (.list dD)),some (.own false (hB C (iG 0 [] []))),some (.own false (.l [])),none,none,none]=.nx [some (.dat (.list dD)),some (.own false (hB C (T2 0 []))),some (.own false (.l [cL (1,3,12),cL (0,40,49)])),some (.dat (fH 0 40 9)),some (.dat (.bool true)),some (.dat (uT (T2 0 [])))]:=by rw[br];simp only[ay,q0K,q0x];rw[b];simp only;rw[br];simp only[ay,q0K,q0x,q0I];rw[c];rfl
 simp[uH,Ew,mh,me,rl,g]
theorem vc:mO C [.dat (.list dD)]=.rt (.own false (.l [cL (1,3,12),cL (0,40,49)])) []:=by
 have sz:1000<sizeLine:=by decide
 have e:=yK (C:=C) [(1,3,12),(0,40,49)] [] none (by simp only[q0F,q0l];lia);have b:bW (ay 0) (qN C) (qO C) [cL (1,3,12),cL (0,40,49)] [] [none]=some [cL (1,3,12),cL (0,40,49)]:=e;simp[mO,Ex,UX,mD,nV,b,show(2:Nat)<=sizeLine by lia]
theorem UY:Up 0 [.take 1 3 9,.take 0 40 9]:=⟨⟨⟨by decide,by decide⟩,⟨by decide,by decide⟩,by decide,by decide⟩,by decide,⟨⟨by decide,by decide⟩,⟨by decide,by decide⟩,by decide,by decide⟩,by decide,trivial⟩
theorem vd:kS [.dat (.list dD)]=.rt (.dat .none) []:=UO UY
theorem UZ:qP C [.dat (.list dD)]=.rt (.own false (.l [cL (1,3,12),cL (0,40,49)])) []:=by simp[qP,Ey,vd,vc]
theorem Va:uJ C [.dat (.list dD),.dat (.int 4)]=.rt (.dat (.int 1)) []:=by
 have b:gG [.dat (.int 4)]=.rt (.dat .none) []:=by rw[kZ rfl];simp[cu]
 rcases Ig (C:=C) (z0:=some (.dat (.list dD))) (m:=4) [(1,3,12),(0,40,49)] none none none with⟨d,g,h,e,c⟩ |⟨U,e⟩
 .cases c
 .have f:oD 4 [(1,3,12),(0,40,49)]=.int 1:=rfl;rw[f]at e;simp only[q0c,q08]at e;simp[-du,-bC,uJ,EA,vd,b,vc,e]
theorem Vb:∃L:List (List Int),L.length<=900/\qQ C [.dat (.list dD)]=.rt (.own false (.l (L.map aG))) []:=by
 obtain⟨g,h,i,e⟩:=Ik (C:=C) (z0:=some (.dat (.list dD))) [(1,3,12),(0,40,49)] [] none none none (by simp);have c:fi []=[]:=rfl;rw[c]at e;simp only[q0c,q08]at e;have hb:=Im [(1,3,12),(0,40,49)] [];simp only[q0F,q0l]at hb;generalize [(1,3,12),(0,40,49)].foldl kl []=B at *;have d:=Il B;have b:¬ 64<=B.length:=by lia
 generalize fi B=f at *;refine⟨TS.sortR (B.map fun p=>[p.1,p.2]),by rw[(TS.sortR_perm _).length_eq,q0h];lia,?_⟩;simp[-du,-bC,qQ,Ez,vd,vc,lR,e,tR,gj,d,b]
theorem Vc:∃L:List (List Int),L.length<=900/\qR C [.dat (.list dD),.dat (.int 9000)]=.rt (.own false (.l (L.map aG))) []:=by
 have sz:1000<sizeLine:=by decide
 have b:gG [.dat (.int 9000)]=.rt (.dat .none) []:=by rw[kZ rfl];simp[cu]
 obtain⟨f,g,h,i,j,e⟩:=yL (C:=C) (z0:=some (.dat (.list dD))) (z4:=some (.dat (.list [cL (1,3,12),cL (0,40,49),.tuple [.none,.int 9001,.int 9001]]))) (last:=9000) [(.int 1,3,12),(.int 0,40,49),(.none,9001,9001)] [] 0 none none none none (by simp);have c:([(.int 1,3,12),(.int 0,40,49),(.none,9001,9001)]:List (PyData×Int×Int)).map Ih=[cL (1,3,12),cL (0,40,49),.tuple [.none,.int 9001,.int 9001]]:=rfl;rw[c,q0I,q08]at e;have nl:(mU 9000 0 [(.int 1,3,12),(.int 0,40,49),(.none,9001,9001)]).length<=900:=by decide +kernel
 generalize mU 9000 0 [(.int 1,3,12),(.int 0,40,49),(.none,9001,9001)]=N at *;refine⟨N.map fun p=>[p.1,p.2],by rw[q0h];exact nl,?_⟩;have d:N.map fg=(N.map fun p=>[p.1,p.2]).map aG:=by rw[q1z];rfl
 rw[d]at e;simp[-du,-bC,qR,EB,vd,b,vc,show(3:Nat)<=sizeLine by lia,show(2:Nat)+1<=sizeLine by lia,e]
section
variable{α:Type}[DecidableEq α]
noncomputable def yO(a:List α)(b:α):List α:=if b∈a then a else a++[b]
variable{tk:Bool}{kd:α->PyData}{kk:α->List aR}
theorem dF(d:∀a,dQ tk (kd a)=some (kk a))(f:∀a b,kk a=kk b->a=b)(v:α->PyData)(b):∀c:List α,dm tk (c.map fun a=>(kd a,v a)) (kk b)=if b∈c then some (v b) else none
 |[]=>rfl
 |u::c=>by
  rw[q0c,dm,d,dF d f v b c]
  by_cases h:u=b
  .subst h;simp
  .rw[if_neg fun e=>h (f _ _ (q0n e))];simp[Ne.symm h]
theorem dR(d:∀a,dQ tk (kd a)=some (kk a))(f:∀a b,kk a=kk b->a=b)(v:α->PyData)(b w):∀c:List α,iX tk (kk b) w (c.map fun a=>(kd a,v a))=c.map fun a=>(kd a,if a=b then w else v a)
 |[]=>rfl
 |u::c=>by
  rw[q0c,q0c,iX,d,dR d f v b w c]
  by_cases h:u=b
  .subst h;simp
  .rw[if_neg fun e=>h (f _ _ (q0n e)),if_neg h]
theorem Vd(d:∀a,dQ tk (kd a)=some (kk a))(f:∀a b,kk a=kk b->a=b)(v:α->PyData)(b w c):fB tk (c.map fun a=>(kd a,v a)) (kd b) (kk b) w=(yO c b).map fun a=>(kd a,if a=b then w else v a):=by
 unfold fB yO;rw[dF d f]
 by_cases h:b∈c
 .rw[if_pos h,if_pos h,if_pos (by rfl),dR d f]
 .rw[if_neg h,if_neg h,if_neg (by simp),q09]
  congr 1
  .exact q1g fun a g=>by rw[if_neg fun e:a=b=>h (e▸g)]
  .simp
end
noncomputable def s4(a:Int)(g:Sh)(f st:Int)(b:Option (Nat×Nat×Int))(d:List gp)(e:List ((Nat×Nat)×Wd))(c:Nat):Hl:=⟨a,g,[⟨.every f st,.all,true⟩],some 20,some 0,29,1,b,d,e,[c]⟩
theorem Ir(z:fF a ss)(g:0<=f/\f<=9999)(i:1<=st/\st<=999)(j:(ws.map (·.1)).Nodup)(k:∀d c h,b=some (d,c,h)->d=0):bH (s4 a ss f st b rs ws c):=
 ⟨z,by simp[s4],fun d hd=>by
  simp only[s4,q0k]at hd;subst hd;exact⟨⟨g,i⟩,fun h e=>by cases e⟩,by simp[s4],j,fun d c h e=>by rw[k d c h e];simp[s4]⟩
theorem lE:lC (s4 a ss f st b rs ws c)=some (f+c * st,0):=by
 have:ff (s4 a ss f st b rs ws c)=[[f+(c:Int) * st,0,(c:Int)]]:=by simp[ff,s4,List.range,List.range.loop,oA,cX,gZ]
 unfold lC;rw[this];simp[fP]
theorem yP:cX (s4 a ss f st b rs ws c) 0=c:=by simp[cX,s4]
theorem Ve{c:Nat}(d:f+(c:Int) * st<=20):rh (s4 a ss f st none rs ws c) 0 20=(s4 a ss f st (some (0,c,1)) (rs++[⟨20,0,.begun,0,c⟩]) (dY ws (0,c) .begun) c,.tuple [.str "begun",.int 0,.int c]):=by show lD (s4 a ss f st none rs ws c) 0 20=_;unfold lD;rw[lE];simp only;rw[if_neg (by lia)];have hd:(s4 a ss f st none rs ws c).ds[0]? = some ⟨.every f st,.all,true⟩:=rfl;rw[hd];show(gJ (s4 a ss f st none rs ws c) ⟨20,0,.begun,0,cX (s4 a ss f st none rs ws c) 0⟩,PyData.tuple [.str "begun",bT 0,bT (cX (s4 a ss f st none rs ws c) 0)])=_;rw[yP];simp[gJ,s4]
theorem Vf{c:Nat}(d:20<f+(c:Int) * st):rh (s4 a ss f st none rs ws c) 0 20=(s4 a ss f st none rs ws c,.tuple [.str "idle",.int (f+c * st)]):=by show lD (s4 a ss f st none rs ws c) 0 20=_;unfold lD;rw[lE];simp only;rw[if_pos d]
theorem lF:kU C [.own true (hB C (s4 a ss f st b rs ws c)),.dat (.int 0),.dat (.int 20)]=.rt (.dat .none) [hB C (s4 a ss f st b rs ws c)]:=
 Uc (uS rfl (by decide) (by decide) rfl) rfl rfl
theorem Vg:(("idle":Str)==("idle":Str))=true:=by decide +kernel
theorem Vh:(("begun":Str)==("idle":Str))=false:=by decide +kernel
theorem Vi:(("begun":Str)==("begun":Str))=true:=by decide +kernel
theorem yQ:PyData.strOk "idle" = true:=by decide +kernel
theorem yR:PyData.strOk "begun" = true:=by decide +kernel
abbrev eC(C:Addr)(S:Hl)(m:Int)(q:Option aa)(rows:List PyData)(x5 x6:Option aa):ai:=[some (.own true (hB C S)),some (.dat (.int 0)),some (.dat (.int m)),q,some (.own false (.l rows)),x5,x6]
theorem Vj(d:rows.length<9000)(c:kc C [.own true (hB C S),.dat (.int 0),.dat (.int m)]=.rt (.dat (.tuple [.str "idle",x])) [hB C S1]):on C (eC C S m q rows x5 x6)=.bk (eC C S1 m q (rows++[.tuple [.str "idle",x]]) x5 (some (.dat (.tuple [.str "idle",x])))):=by
 have sz:10000<sizeLine:=by decide
 simp[on,ck,dS,c,dc yQ yQ,Vg,show rows.length<sizeLine by lia]
theorem Vk(e:rows.length<9000)(c:kc C [.own true (hB C S),.dat (.int 0),.dat (.int m)]=.rt (.dat (.tuple [.str "begun",.int a,.int b])) [hB C S1])(d:om C [.own true (hB C S1),.dat (.int 0),.dat (.int m)]=.rt (.dat x) [hB C S2]):on C (eC C S m q rows x5 x6)=.nx (eC C S2 m q (rows++[.tuple [.str "begun",.int a,.int b],x]) x5 (some (.dat (.tuple [.str "begun",.int a,.int b])))):=by
 have sz:10000<sizeLine:=by decide
 simp[on,ck,dS,c,d,dc yR yQ,dc yR yR,Vh,Vi,show rows.length<sizeLine by lia,show rows.length+1<sizeLine by lia]
noncomputable def cA:Nat->List gp
 |0=>[]
 |c+1=>cA c++[⟨20,0,.begun,0,c⟩,⟨20,0,.done,0,c⟩]
theorem yS:∀c,(cA c).length=2 * c
 |0=>rfl
 |c+1=>by rw[cA,q0u,yS c];simp;lia
theorem jg(z:fF a ss)(p:0<=f/\f<=9999)(s:1<=st/\st<=999):∀n  i {ws}{c}{rows}{x5 x6},(ws.map (·.1)).Nodup->ws.length<=2 * c->c+n<=100->rows.length+2 * n<5000->
  ∃l j eX t u,br (ay 5) (on C) (L3.intsFrom i n) (eC C (s4 a ss f st none (cA c) ws c) 20 q rows x5 x6)=.nx (eC C (s4 a ss f st none (cA l) j l) 20 q eX t u)/\l<=c+n
 |0,i,ws,c,rows,x5,x6,nd,x,y,A=>⟨c,ws,rows,x5,x6,by simp[L3.intsFrom,br],by lia⟩
 |n+1,i,ws,c,rows,x5,x6,nd,x,y,A=>by
  have H:=yS c;have B:bH (s4 a ss f st none (cA c) ws c):=Ir z p s nd fun _ _ _ e=>by cases e
  have g:=UB (C:=C) (r:=0) (m:=20) B (by show(cA c).length<_;lia) (by show ws.length<_;lia) lF;rw[uQ,br]
  by_cases D:f+(c:Int) * st<=20
  .rw[Ve D]at g;have o:=HJ (k:=(0,c)) (w:=.begun) nd;have I:=HK (0,c) .begun ws;have E:bH (s4 a ss f st (some (0,c,1)) (cA c++[⟨20,0,.begun,0,c⟩]) (dY ws (0,c) .begun) c):=Ir z p s o fun d l h e=>by cases e;rfl
   have v:=UC (C:=C) (r:=0) (m:=20) (d:=0) (c:=c) E (by show(cA c++[_]).length<_;rw[q0u];simp;lia) (by show(dY ws (0,c) .begun).length<_;lia) lF rfl;have G:gJ { s4 a ss f st (some (0,c,1)) (cA c++[⟨20,0,.begun,0,c⟩]) (dY ws (0,c) .begun) c with last:=some 20 } ⟨20,0,.done,0,c⟩=s4 a ss f st none (cA (c+1)) (dY (dY ws (0,c) .begun) (0,c) .done) (c+1):=by simp[gJ,s4,cA]
   rw[G]at v;have J:=HK (0,c) .done (dY ws (0,c) .begun);have b:=Vk (q:=q) (rows:=rows) (x5:=some (.dat (.int i))) (x6:=x6) (by lia) g v;obtain⟨l,j,eX,t,u,r,L⟩:=jg z p s n (i+1) (ws:=dY (dY ws (0,c) .begun) (0,c) .done) (c:=c+1) (rows:=rows++[.tuple [.str "begun",.int 0,.int c],.tuple [.str "done",bT 0,bT c]]) (x5:=some (.dat (.int i))) (x6:=some (.dat (.tuple [.str "begun",.int 0,.int c]))) (HJ o) (by lia) (by lia) (by simp;lia);refine⟨l,j,eX,t,u,?_,by lia⟩;exact Eq.trans (by simp[b]) r
  .rw[Vf (by lia)]at g;have b:=Vj (q:=q) (rows:=rows) (x5:=some (.dat (.int i))) (x6:=x6) (by lia) g;exact⟨c,ws,rows++[.tuple [.str "idle",.int (f+c * st)]],some (.dat (.int i)),some (.dat (.tuple [.str "idle",.int (f+c * st)])),by simp[b],by lia⟩
theorem Vl(z:fF a ss)(g:0<=f/\f<=9999)(h:1<=st/\st<=999):∃c b eX,uD C [.own true (hB C (s4 a ss f st none [] [] 0)),.dat (.int 0),.dat (.int 20),.dat (.int 9)]=.rt (.own false (.l eX)) [hB C (s4 a ss f st none (cA c) b c)]/\c<=9:=by
 have e:=jC (d:=.int 9) (lo:=0) (hi:=999) rfl;have i:cu (.int 9) 0 999=true:=by simp[cu]
 rw[i]at e;obtain⟨c,b,eX,k,m,r,n⟩:=jg (C:=C) z g h (q:=some (.dat (.int 9))) 9 0 (ws:=[]) (c:=0) (rows:=[]) (x5:=none) (x6:=none) q1O (be _) (by lia) (by simp);refine⟨c,b,eX,?_,by lia⟩;have j:cA 0=[]:=rfl;rw[j]at r;simp[uD,Er,e,r]
theorem Iu:∀a:List Wd,lU (a.map fun w=>PyData.str (cO w))=some (a.map fun w=>V.str (cO w))
 |[]=>rfl
 |w::a=>by rw[q0c,lU,Iu a];rfl
theorem ve(b:List Wd)(a):kL (b.map fun w=>PyData.str (cO w)) (.str (cO a))=some (.int (b.count a)):=by
 unfold kL;rw[Iu];simp only[pJ];have:∀l:List Wd,(l.map fun w=>V.str (cO w)).countP (fun z=>jJ z (V.str (cO a)))=l.count a:=fun l=>by
  induction l with
  |nil=>rfl
  |cons x l c=>
   rw[q0c,List.countP_cons,c,List.count_cons]
   congr 1
   have e:jJ (V.str (cO x)) (V.str (cO a))=(x==a):=by cases x<;>cases a<;>decide +kernel
   rw[e]
 rw[this]
noncomputable abbrev fj(a:List gp)(k:Nat):List Wd:=(a.filter fun r=>r.dd==k).map (·.wd)
noncomputable abbrev km(a:List Wd):PyData:=.tuple [.int (a.count .begun),.int (a.count .done),.int (a.count .left),.int (a.count .unsure)]
theorem yT:∀b  a  x,a.length+b.length<=5000->bW (ay 0) qs qt (b.map cz) a [x,some (.dat (bT k))]=some (a++(fj b k).map fun w=>PyData.str (cO w))
 |[],a,x,_=>by simp[bW]
 |r::b,a,x,h=>by
  have sz:10000<sizeLine:=by decide
  simp only[q0l]at h;have d:qs [some (.dat (cz r)),some (.dat (bT k))]=.ok (r.dd==k) [some (.dat (cz r)),some (.dat (bT k))]:=by
   have e:aM (cz r) (.int 3)=some (bT r.dd):=rfl;have this:decide ((r.dd:Int)=(k:Int))=(r.dd==k):=by rw[q2z,decide_eq_true_iff,beq_iff_eq];lia
   generalize cz r=R at *;simp[-aM,qs,e,hR,this]
  have f:qt [some (.dat (cz r)),some (.dat (bT k))]=.ok (.str (cO r.wd)) [some (.dat (cz r)),some (.dat (bT k))]:=by have g:aM (cz r) (.int 2)=some (.str (cO r.wd)):=rfl;generalize cz r=R at *;simp[-aM,qt,g]
  rw[q0c,bW];simp only[ay,q0x,d];cases q:r.dd==k with
  |true=>have c:=yT (k:=k) b (a++[.str (cO r.wd)]) (some (.dat (cz r))) (by simp;lia);simp only[f];rw[if_pos (by lia),c];simp[fj,q]
  |false=>have c:=yT (k:=k) b a (some (.dat (cz r))) (by lia);simp only;rw[c];simp[fj,q]
theorem rn(h:e [some (.dat x),D]=.ok y [some (.dat x),D])(b:a.length<sizeLine):bW (ay 0) dB e (x::r) a [z,D]=bW (ay 0) dB e r (a++[y]) [some (.dat x),D]:=by rw[bW];simp only[ay,q0x,dB,h];rw[if_pos b]
theorem Vm(W:List Wd)(y):bW (ay 0) dB nX (gk ["begun","done","left","unsure"]) [] [y,some (.dat (.list (W.map fun w=>PyData.str (cO w))))]=some [.int (W.count .begun),.int (W.count .done),.int (W.count .left),.int (W.count .unsure)]:=by
 have sz:10000<sizeLine:=by decide
 have f:=ve W .begun;have g:=ve W .done;have h:=ve W .left;have i:=ve W .unsure;generalize (W.map fun w=>PyData.str (cO w))=D at *;have a:∀x w,kL D (.str x)=some (.int w)->nX [some (.dat (.str x)),some (.dat (.list D))]=.ok (.int w) [some (.dat (.str x)),some (.dat (.list D))]:=fun x w j=>by unfold nX;generalize kL=k at *;simp[iY,j]
 have b:=a _ _ f;have c:=a _ _ g;have d:=a _ _ h;have e:=a _ _ i;simp only[cO]at b c d e;generalize nX=l at *;unfold gk;simp only[q0c,q08];rw[rn b (by simp;lia),rn c (by simp;lia),rn d (by simp;lia),rn e (by simp;lia)];simp[bW]
theorem Vn(h:rs.length<=5000):tV [.dat (.list (rs.map cz)),.dat (bT k)]=.rt (.dat (km (fj rs k))) []:=by
 have sz:10000<sizeLine:=by decide
 have g:=yT (k:=k) rs [] none (by simpa using h);rw[q0I]at g;have ll:(fj rs k).length<=sizeLine:=by have:=List.length_filter_le (fun r:gp=>r.dd==k) rs;simp;lia
 generalize b:fj rs k=W at *;have a:(W.map fun w=>PyData.str (cO w)).length<=sizeLine:=by simpa using ll
 have g2:=Vm W;generalize (W.map fun w=>PyData.str (cO w))=D at *;unfold tV Ds;generalize qs=c at *;generalize qt=d at *;generalize nX=e at *;generalize gk ["begun","done","left","unsure"]=f at *;generalize List.map cz rs=i at *;simp[g,a,g2,show(4:Nat)<=sizeLine by lia]
theorem Iw(b:rs.length<=5000):∀(n i:Nat)  a  x,a.length+n<=5000->bW (ay 0) dB (mH C) (L3.intsFrom (i:Int) n) a [x,some (.dat (.list (rs.map cz)))]=some (a++(List.range' i n).map fun k=>km (fj rs k))
 |0,i,a,x,_=>by simp[L3.intsFrom,bW]
 |n+1,i,a,x,h=>by
  have sz:10000<sizeLine:=by decide
  have c:=Iw (C:=C) b n (i+1) (a++[km (fj rs i)]) (some (.dat (bT i))) (by simp;lia);have e:mH C [some (.dat (.int i)),some (.dat (.list (rs.map cz)))]=.ok (km (fj rs i)) [some (.dat (.int i)),some (.dat (.list (rs.map cz)))]:=by have:=Vn (rs:=rs) (k:=i) b;generalize km (fj rs i)=T at *;generalize rs.map cz=d at *;simp[mH,this]
  rw[uQ,rn e (by lia)];rw[show((i:Int)+1)=((i+1:Nat):Int) by lia,c,List.range'_succ,q0c];simp
theorem Vo{S:Hl}{r:ai}(h:S.ds.length=n):eP gB (av (cg C 0 "deeds") aP) (some (.own io (hB C S))::r)=.ok (.int n) (some (.own io (hB C S))::r):=by subst h;have de:=lB S.ds;simp[de]
theorem Vp(b:a U=.ok x U)(c:f [x]=some l):eQ f (av a aP) U=.ok l U:=by simp[b,c]
theorem Vq(b:S.ds.length=1)(c:S.rows.length<=5000):qy C [.own true (hB C S)]=.rt (.own false (.l [km (fj S.rows 0)])) [hB C S]:=by
 have sz:10000<sizeLine:=by decide
 have d:=yx (C:=C) (S:=S);have g:=Iw (C:=C) (rs:=S.rows) c 1 0 [] none (by simp);have e:([]:List PyData)++(List.range' 0 1).map (fun k=>km (fj S.rows k))=[km (fj S.rows 0)]:=rfl;rw[e]at g;generalize km (fj S.rows 0)=T at *;generalize S.rows.map cz=a at *;have h:=Vo (C:=C) (S:=S) (n:=1) (io:=true) (r:=[some (.dat (.list a))]) b;have i:=Vp (f:=bL) h (show bL [.int ((1:Nat):Int)]=some (L3.intsFrom ((0:Nat):Int) 1) from rfl);have j:mD 1 [1] (eQ bL (av (eP gB (av (cg C 0 "deeds") aP)) aP)) (ay 0) dB (mH C) [some (.own true (hB C S)),some (.dat (.list a))]=.ok (.own false (.l [T])) [some (.own true (hB C S)),some (.dat (.list a))]:=by have m:iy 1 [1] [some (.own true (hB C S)),some (.dat (.list a))]=[none,some (.dat (.list a))]:=rfl;unfold mD;rw[i];show nV 1 [1] (ay 0) dB (mH C) _ _=_;unfold nV;rw[m,g];simp only;rw[if_pos (by simp)]
 unfold qy DC;generalize mD 1 [1] (eQ bL (av (eP gB (av (cg C 0 "deeds") aP)) aP)) (ay 0) dB (mH C)=X at *;simp[dU,dS,d,j]
noncomputable abbrev k0(k:Nat):PyData:=.tuple [.int 0,.int k]
noncomputable abbrev mV(k:Nat):List aR:=[.inl 0,.inl (k:Int)]
theorem Ix(k):dQ true (k0 k)=some (mV k):=rfl
theorem Iy(a b)(h:mV a=mV b):a=b:=by simp at h;lia
abbrev gq(c:Nat):eg:=(List.range c).map fun k=>(k0 k,.int 20)
theorem yU(c):fB true (gq c) (k0 c) (mV c) (.int 20)=gq (c+1):=by unfold gq;rw[Vd Ix Iy (fun _=>.int 20)];unfold yO;rw[if_neg (by simp),List.range_succ];exact q1g fun k _=>by simp
theorem yV(c):dm true (gq (c+1)) (mV c)=some (.int 20):=by unfold gq;rw[dF Ix Iy (fun _=>.int 20),if_pos (by simp)]
noncomputable abbrev cD(c:Nat):List (List Int):=(List.range c).map fun(k:Nat)=>[0,(k:Int),0]
abbrev vf:GM:=du 5 (bC (ay 3) (bC (ay 4) (bC (ay 5) (bC (ay 6) (bC (ay 7) fe)))))
theorem Vr:aT false (.str "begun") (.str "begun")=some (.bool true):=by rw[dc jE jE,yD]
theorem Vs:aT false (.str "done") (.str "begun")=some (.bool false):=by rw[dc uV jE,HA]
theorem Vt:aT false (.str "done") (.str "done")=some (.bool true):=by rw[dc uV uV];kernel_rfl
theorem Vu(d:kvs.length<900)(b:fB true kvs (k0 c) (mV c) (.int 20)=a) :
  jy C [z0,some (.own false (.l F)),some (.own false (.m true kvs)),some (.dat (.int 20)),some (.dat (.int 0)),some (.dat (.str "begun")),some (.dat (.int 0)),some (.dat (.int c))]=.nx [z0,some (.own false (.l F)),some (.own false (.m true a)),some (.dat (.int 20)),some (.dat (.int 0)),some (.dat (.str "begun")),some (.dat (.int 0)),some (.dat (.int c))]:=by
 have sz:1000<sizeLine:=by decide
 subst b;simp[jy,Vr,lS,nL,nK,eF,dQ,fM,iA,show kvs.length<sizeLine by lia,show(2:Nat)<=sizeLine by lia]
theorem Vv(b:F.length<900)(a:dm true kvs (mV c)=some (.int 20)) :
  jy C [z0,some (.own false (.l F)),some (.own false (.m true kvs)),some (.dat (.int 20)),some (.dat (.int 0)),some (.dat (.str "done")),some (.dat (.int 0)),some (.dat (.int c))]=.nx [z0,some (.own false (.l (F++[aG [0,(c:Int),0]]))),some (.own false (.m true kvs)),some (.dat (.int 20)),some (.dat (.int 0)),some (.dat (.str "done")),some (.dat (.int 0)),some (.dat (.int c))]:=by
 have sz:1000<sizeLine:=by decide
 simp[jy,Vs,Vt,sB,sA,eF,dQ,fM,iA,a,show F.length<sizeLine by lia,show(2:Nat)<=sizeLine by lia,show(3:Nat)<=sizeLine by lia]
theorem Iz:∀c  rest  a f g i j,c<=400->∃k n o p q,br vf (jy C) ((cA c).map cz++rest) [z0,some (.own false (.l [])),some (.own false (.m true [])),a,f,g,i,j]=br vf (jy C) rest [z0,some (.own false (.l ((cD c).map aG))),some (.own false (.m true (gq c))),k,n,o,p,q]
 |0,rest,a,f,g,i,j,_=>⟨a,f,g,i,j,rfl⟩
 |c+1,rest,a,f,g,i,j,h=>by
  obtain⟨k,n,o,p,q,e⟩:=Iz c (cz ⟨20,0,.begun,0,c⟩::cz ⟨20,0,.done,0,c⟩::rest) a f g i j (by lia);refine⟨some (.dat (.int 20)),some (.dat (.int 0)),some (.dat (.str "done")),some (.dat (.int 0)),some (.dat (.int c)),?_⟩;rw[cA,q09,q0t];refine Eq.trans e ?_;have b:=Vu (C:=C) (z0:=z0) (F:=(cD c).map aG) (kvs:=gq c) (c:=c) (by simp;lia) (yU c);have d:=Vv (C:=C) (z0:=z0) (F:=(cD c).map aG) (kvs:=gq (c+1)) (c:=c) (by simp;lia) (yV c);have r:(cD c).map aG++[aG [0,(c:Int),0]]=(cD (c+1)).map aG:=by unfold cD;rw[List.range_succ,q09,q09];rfl
  rw[r]at d;generalize (cD c).map aG=s at *;generalize (cD (c+1)).map aG=F2 at *;generalize gq c=t at *;generalize gq (c+1)=u at *;generalize jy C=v at *;simp[br,vf,cO,b,d]
theorem IA(h:∀r∈L,r≠[])(e:xV i U=.ok (.list (L.map aG)) U'):mC (xV i) U=.ok (.own false (.l ((TS.sortR L).map aG))) U':=by have k:=UG h;unfold xI at k;dsimp only at k;obtain⟨c,a,b⟩:=q0i.mp k;cases b;unfold mC;rw[e];simp[gc.bind,tQ,a]
theorem Vw(n:S.rows=cA c)(o:c<=400):∃L:List (List Int),L.length<=900/\qA C [.own true (hB C S)]=.rt (.own false (.l (L.map aG))) [hB C S]:=by
 have j:=yx (C:=C) (S:=S);rw[n]at j;obtain⟨a,b,d,f,g,e⟩:=Iz (C:=C) (z0:=some (.own true (hB C S))) c [] none none none none none o;rw[q0B]at e;have p:br vf (jy C) ([]:List PyData) [some (.own true (hB C S)),some (.own false (.l ((cD c).map aG))),some (.own false (.m true (gq c))),a,b,d,f,g]=.nx [some (.own true (hB C S)),some (.own false (.l ((cD c).map aG))),some (.own false (.m true (gq c))),a,b,d,f,g]:=by rw[br]
 rw[p]at e;have q:=IA (L:=cD c) (fun r h=>by obtain⟨k,_,rfl⟩:=q0R.mp h;simp) (i:=1) (U:=[some (.own true (hB C S)),some (.own false (.l ((cD c).map aG))),some (.own false (.m true (gq c))),a,b,d,f,g]) (U':=[some (.own true (hB C S)),some (.dat (.list ((cD c).map aG))),some (.own false (.m true (gq c))),a,b,d,f,g]) (by simp);refine⟨TS.sortR (cD c),by rw[(TS.sortR_perm _).length_eq,q0h,q2j];lia,?_⟩;generalize (cA c).map cz=s at *;generalize (cD c).map aG=t at *;generalize (TS.sortR (cD c)).map aG=F2 at *;generalize gq c=u at *;unfold qA DH;generalize mC (xV 1)=v at *;generalize jy C=w at *;simp[-du,-bC,dU,dS,j,lR,e,q]
noncomputable abbrev dr(f st:Int):PyData:=.tuple [.str "every",.int f,.int st]
abbrev iH(f st:Int):PyData:=.tuple [.tuple [dr f st,.str "all",.bool true]]
theorem vg(b:1<=st/\st<=999):fG [.dat Z,.dat (dr f st),.dat (.int c)]=.rt (.dat (.int (f+c * st))) []:=Hm b.1 b.2
noncomputable abbrev eD(Z P:PyData)(D:List PyData)(c v:Int):ai:=[some (.dat Z),some (.dat P),some (.dat (.int 0)),some (.dat (.int 300)),some (.own false (.l D)),some (.dat (.int c)),some (.dat (.int v))]
theorem Vx(b:v<=300):oi (eD Z P D c v)=.ok true (eD Z P D c v):=by simp[oi,gU,isNone,b]
theorem IB(b:¬ v<=300):oi (eD Z P D c v)=.ok false (eD Z P D c v):=by simp[oi,gU,isNone,b]
theorem Vy(b:0<=v)(d:fG [.dat Z,.dat P,.dat (.int (c+1))]=.rt (.dat (.int v1)) [])(e:D.length<sizeLine):uv (eD Z P D c v)=.nx (eD Z P (D++[fg (c,v)]) (c+1) v1):=by simp[uv,b,d,e]
theorem Vz(c st:Int):(c+1) * st=c * st+st:=by rw[Int.add_mul,Int.one_mul]
theorem VA(r:0<=f)(i:1<=st/\st<=999)(k:Nat):∀fuel (c:Int) (L:List (Int×Int)),0<=c->300<f+c * st+k->k<fuel->L.length+k<=5000->∃(b:List (Int×Int)) (d v:Int),gV oi uv fuel (eD Z (dr f st) (L.map fg) c (f+c * st))=.nx (eD Z (dr f st) (b.map fg) d v)/\b.length<=5000:=by
 have sz:10000<sizeLine:=by decide
 induction k with
 |zero=>
  intro fuel c L g j l n;obtain⟨m,rfl⟩:∃m,fuel=m+1:=⟨fuel - 1,by lia⟩
  exact⟨L,c,f+c * st,Hn (IB (by lia)),by lia⟩
 |succ k o=>
  intro fuel c L g j l n;obtain⟨m,rfl⟩:∃m,fuel=m+1:=⟨fuel - 1,by lia⟩
  by_cases h:f+c * st<=300
  .have p:=Vz c st;have s:0<=c * st:=Int.mul_nonneg g (by lia);obtain⟨b,d,v,e,q⟩:=o m (c+1) (L++[(c,f+c * st)]) (by lia) (by rw[p];lia) (by lia) (by rw[q0u,q04];lia);refine⟨b,d,v,?_,q⟩;rw[<-e,q09,q1K];exact TX (Vx h) (Vy (by lia) (vg i) (by rw[q0h];lia))
  .exact⟨L,c,f+c * st,Hn (IB h),by lia⟩
theorem IC(b:0<=f/\f<=9999)(c:1<=st/\st<=999):oh [.dat (dr f st)]=.rt (.dat .none) []:=TV (p:=.every f st) ⟨b,c⟩
theorem ID(z:fF a ss)(d:0<=f/\f<=9999)(b:1<=st/\st<=999):∃L:List (Int×Int),oj [.dat (bM a ss),.dat (dr f st),.dat (.int 0),.dat (.int 300)]=.rt (.own false (.l (L.map fg))) []/\L.length<=5000:=by
 obtain⟨L,c,v,e,g⟩:=VA (Z:=bM a ss) d.1 b 301 100000 0 [] (Int.le_refl _) (by rw[Int.zero_mul];lia) (by lia) (by rw[q0F];lia);refine⟨L,?_,g⟩;have rt:=vg (Z:=bM a ss) (f:=f) (st:=st) (c:=0) b;have h:=IC d b;have i:=ox z;have j:gG [.dat (.int 0)]=.rt (.dat .none) []:=by rw[kZ rfl];simp[cu]
 have k:gG [.dat (.int 300)]=.rt (.dat .none) []:=by rw[kZ rfl];simp[cu]
 rw[q08]at e;generalize f+0 * st=v0 at *;generalize bM a ss=Z at *;generalize dr f st=P at *;generalize L.map fg=D at *;simp[oj,Ej,i,h,j,k,rt,e]
theorem IE:∀(L:List (Int×Int))  c  d e,c.length+L.length<=9000->∃g i,br (du 2 (bC (ay 7) (bC (ay 8) fe))) uA (L.map fg) [z0,z1,z2,z3,some (.own false (.l (c.map aG))),some (.dat (.int 0)),z6,d,e]=.nx [z0,z1,z2,z3,some (.own false (.l ((c++L.map fun p=>[p.2,0,p.1]).map aG))),some (.dat (.int 0)),z6,g,i]
 |[],c,d,e,_=>⟨d,e,by simp[br]⟩
 |p::L,c,d,e,h=>by
  have sz:10000<sizeLine:=by decide
  simp only[q0l]at h;obtain⟨g,i,j⟩:=IE (z0:=z0) (z1:=z1) (z2:=z2) (z3:=z3) (z6:=z6) L (c++[[p.2,0,p.1]]) (some (.dat (.int p.1))) (some (.dat (.int p.2))) (by simp;lia);refine⟨g,i,?_⟩;rw[q0t,q1T]at j;rw[q0c,q0c,<-j,q09,q1K];have ll:(c.map aG).length<sizeLine:=by rw[q0h];lia
  generalize c.map aG=D at *;have b:uA [z0,z1,z2,z3,some (.own false (.l D)),some (.dat (.int 0)),z6,some (.dat (.int p.1)),some (.dat (.int p.2))]=.nx [z0,z1,z2,z3,some (.own false (.l (D++[aG [p.2,0,p.1]]))),some (.dat (.int 0)),z6,some (.dat (.int p.1)),some (.dat (.int p.2))]:=by simp[uA,ll]
  conv=>lhs;rw[br]
  simp only[du,bC,ay,fe,q0l,q0F,if_true,Option.bind,q0K,q0x,b]
theorem VB(z:fF a ss)(j:0<=f/\f<=9999)(m:1<=st/\st<=999):∃M:List (List Int),M.length<=5000/\uC [.dat (bM a ss),.dat (iH f st),.dat (.int 0),.dat (.int 300)]=.rt (.own false (.l (M.map aG))) []:=by
 obtain⟨L,e,n⟩:=ID z j m;obtain⟨b,c,r⟩:=IE (z0:=some (.dat (bM a ss))) (z1:=some (.dat (iH f st))) (z2:=some (.dat (.int 0))) (z3:=some (.dat (.int 300))) (z6:=some (.dat (.tuple [dr f st,.str "all",.bool true]))) L [] none none (by simp;lia);rw[q0I,q08]at r;have o:=IA (L:=L.map fun p=>[p.2,0,p.1]) (fun r h=>by obtain⟨k,_,rfl⟩:=q0R.mp h;simp) (i:=4) (U:=[some (.dat (bM a ss)),some (.dat (iH f st)),some (.dat (.int 0)),some (.dat (.int 300)),some (.own false (.l ((L.map fun p=>[p.2,0,p.1]).map aG))),some (.dat (.int 0)),some (.dat (.tuple [dr f st,.str "all",.bool true])),b,c]) (U':=[some (.dat (bM a ss)),some (.dat (iH f st)),some (.dat (.int 0)),some (.dat (.int 300)),some (.dat (.list ((L.map fun p=>[p.2,0,p.1]).map aG))),some (.dat (.int 0)),some (.dat (.tuple [dr f st,.str "all",.bool true])),b,c]) (by simp);refine⟨TS.sortR (L.map fun p=>[p.2,0,p.1]),by rw[(TS.sortR_perm _).length_eq,q0h];exact n,?_⟩;have q:uB [some (.dat (bM a ss)),some (.dat (iH f st)),some (.dat (.int 0)),some (.dat (.int 300)),some (.own false (.l [])),some (.dat (.int 0)),some (.dat (.tuple [dr f st,.str "all",.bool true])),none,none]=.nx [some (.dat (bM a ss)),some (.dat (iH f st)),some (.dat (.int 0)),some (.dat (.int 300)),some (.own false (.l ((L.map fun p=>[p.2,0,p.1]).map aG))),some (.dat (.int 0)),some (.dat (.tuple [dr f st,.str "all",.bool true])),b,c]:=by generalize (L.map fun p=>[p.2,0,p.1]).map aG=d at *;generalize L.map fg=D at *;generalize bM a ss=Z at *;simp only[dr]at *;simp[-du,-bC,uB,e,r]
 generalize (TS.sortR (L.map fun p=>[p.2,0,p.1])).map aG=D2 at *;generalize (L.map fun p=>[p.2,0,p.1]).map aG=d at *;generalize bM a ss=Z at *;unfold uC En;generalize mC (xV 4)=t at *;generalize uB=s at *;have g:br (du 2 (bC (ay 5) (bC (ay 6) fe))) s (numbered [.tuple [dr f st,.str "all",.bool true]]) [some (.dat Z),some (.dat (iH f st)),some (.dat (.int 0)),some (.dat (.int 300)),some (.own false (.l [])),none,none,none,none]=.nx [some (.dat Z),some (.dat (iH f st)),some (.dat (.int 0)),some (.dat (.int 300)),some (.own false (.l d)),some (.dat (.int 0)),some (.dat (.tuple [dr f st,.str "all",.bool true])),b,c]:=by rw[UF,oC,oC,br];simp only[du,bC,ay,fe,q0l,q0F,if_true,Option.bind,q0K,q0x,Int.natCast_zero,q];rfl
 simp[-du,-bC,g,o]
theorem VC(z:fF a ss)(b:0<=f/\f<=9999)(g:1<=st/\st<=999):∃M:List (List Int),M.length<=5000/\qM [.dat (bM a ss),.dat (iH f st),.dat (.int 0),.dat (.int 300)]=.rt (.own false (.l (M.map aG))) []:=by
 obtain⟨M,h,e⟩:=VB z b g;have c:=UJ (first:=0) (last:=300) (ds:=[⟨.every f st,.all,true⟩]) z (by lia) (by lia) (fun d hd=>by
  obtain rfl:=q0k.mp hd;exact⟨⟨b,g⟩,trivial⟩) (by simp)
 rw[lB]at c;refine⟨M,h,?_⟩;have i:qK [.dat (bM a ss),.dat (iH f st),.dat (.int 0),.dat (.int 300)]=.rt (.dat .none) []:=c;generalize M.map aG=D at *;generalize bM a ss=Z at *;generalize iH f st=P at *;simp[qM,Et,i,e]
theorem VD(b:fG [.dat Z,.dat P,.dat (.int (k+1))]=.rt (.dat (.int v)) [])(c:fG [.dat Z,.dat P,.dat (.int k)]=.rt (.dat (.int w)) [])(d:D.length<sizeLine) :
  uw [some (.dat Z),some (.dat P),some (.dat q),some (.own false (.l D)),some (.dat (.int k)),x5]=.nx [some (.dat Z),some (.dat P),some (.dat q),some (.own false (.l (D++[.int (v - w)]))),some (.dat (.int k)),some (.dat (.int v))]:=by
 simp[uw,b,c,lM,isNone,d]
theorem IF(i:1<=st/\st<=999):∀(l:List Int) (d:List Int)  g e,d.length+l.length<=900->∃(c:List Int) (j m:Option aa),c.length<=900/\br (ay 4) uw (l.map PyData.int) [some (.dat Z),some (.dat (dr f st)),some (.dat q),some (.own false (.l (d.map PyData.int))),g,e]=.nx [some (.dat Z),some (.dat (dr f st)),some (.dat q),some (.own false (.l (c.map PyData.int))),j,m]
 |[],d,g,e,h=>⟨d,g,e,by simp at h;lia,by simp[br]⟩
 |k::l,d,g,e,h=>by
  have sz:1000<sizeLine:=by decide
  simp only[q0l]at h;obtain⟨c,j,m,nl,n⟩:=IF (q:=q) i l (d++[f+(k+1) * st - (f+k * st)]) (some (.dat (.int k))) (some (.dat (.int (f+(k+1) * st)))) (by rw[q0u,q04];lia);refine⟨c,j,m,nl,?_⟩;have b:=VD (Z:=Z) (P:=dr f st) (q:=q) (D:=d.map PyData.int) (k:=k) (x5:=e) (vg i) (vg i) (by rw[q0h];lia);rw[q09,q1K]at n;generalize d.map PyData.int=D at *;generalize f+(k+1) * st=v at *;generalize f+k * st=w at *;generalize dr f st=P at *;rw[q0c,br,<-n];simp only[ay,q0l,q0K,q0x,b]
theorem VE(z:fF a ss)(h:0<=f/\f<=9999)(c:1<=st/\st<=999):∃b:List Int,b.length<=900/\qJ [.dat (bM a ss),.dat (dr f st),.dat (.int 5)]=.rt (.own false (.l (b.map PyData.int))) []:=by
 have g:=jC (d:=.int 5) (lo:=0) (hi:=999) rfl;have i:cu (.int 5) 0 999=true:=by simp[cu]
 rw[i]at g;have j:=ox z;have k:=IC h c;obtain⟨b,n,o,nl,e⟩:=IF (Z:=bM a ss) (f:=f) (st:=st) (q:=.int 5) c [0,1,2,3,4] [] none none (by simp);refine⟨b,nl,?_⟩;have m:bL [.int 5]=some ([0,1,2,3,4].map PyData.int):=rfl;rw[q08]at e;generalize [0,1,2,3,4].map PyData.int=R at *;generalize b.map PyData.int=D at *;generalize bM a ss=Z at *;generalize dr f st=P at *;unfold qJ Ek;generalize bL=p at *;simp[j,k,g,m,e]
theorem VF(r:qr [.dat Z,.dat (.int 0)]=.rt (.dat (.int h)) []):ye [some (.dat Z),z1,z2,some (.own false (.m false [])),some (.dat (.int 0)),none]=.nx [some (.dat Z),z1,z2,some (.own false (.m false [(.int h,.int 1)])),some (.dat (.int 0)),some (.dat (.int h))]:=by
 have sz:1000<sizeLine:=by decide
 simp[ye,r,lS,nL,nK,eF,dQ,fM,nJ,pG,dm,fB,show(0:Nat)<sizeLine by lia]
theorem VG:∃h,ua [.dat (bM a ss),.dat (.int 0),.dat (.int 0)]=.rt (.own false (.m false [(.int h,.int 1)])) []:=by have r:=TD (a:=a) (ss:=ss) (m:=0);refine⟨qp a ss 0,?_⟩;generalize qp a ss 0=h at *;generalize bM a ss=Z at *;have b:=VF r (z1:=some (.dat (.int 0))) (z2:=some (.dat (.int 0)));have c:iZ [.int 0,.int (0+1)]=some [.int 0]:=rfl;unfold ua DJ;generalize iZ=d at *;simp only[Int.zero_add]at c;simp[lR,c,br,b]
theorem VH(z:fF a ss):uy [.dat (bM a ss),.dat (.int 0),.dat (.int 0)]=.rt (.dat (.list [])) []:=by
 have sz:1000<sizeLine:=by decide
 obtain⟨h,e⟩:=VG (a:=a) (ss:=ss);have b:=ox z;have c:=HW (first:=0) (last:=0) (by lia) (by lia);generalize bM a ss=Z at *;have d:qm 3 [some (.dat Z),some (.dat (.int 0)),some (.dat (.int 0)),some (.own false (.m false [(.int h,.int 1)]))]=.ok (.list [.int h]) [some (.dat Z),some (.dat (.int 0)),some (.dat (.int 0)),some (.own false (.m false [(.int h,.int 1)]))]:=by simp[qm,gj,gf,jw]
 have g:ux [some (.dat (.int h)),some (.vw (.m false [(.int h,.int 1)]))]=.ok false [some (.dat (.int h)),some (.vw (.m false [(.int h,.int 1)]))]:=by simp[ux,ql,xK,gj,dQ,fM,dm]
 unfold uy El;generalize qm 3=i at *;generalize ux=j at *;simp[b,c,e,d,bW,g]
theorem VI(z:fF a ss):∃c,uF C [.dat (bM a ss),.dat (.tuple []),.dat (.list dD)]=.rt c []:=by
 have sz:1000<sizeLine:=by decide
 have i:=yy (C:=C) (a:=a) (ss:=ss) (ds:=[]) (ox z) Ie (by simp);have de:eW []=.tuple []:=by rw[lB];rfl
 rw[de]at i;have d:mM C [some (.dat (fH 1 3 9)),some (.own true (hB C (iG a ss [])))]=.ok (.bool true) [some (.dat (fH 1 3 9)),some (.own true (hB C (T1 a ss)))]:=by have:=Io (C:=C) (a:=a) (ss:=ss);generalize fH 1 3 9=b at *;simp[mM,this]
 have e:mM C [some (.dat (fH 0 40 9)),some (.own true (hB C (T1 a ss)))]=.ok (.bool true) [some (.dat (fH 0 40 9)),some (.own true (hB C (T2 a ss)))]:=by have:=Ip (C:=C) (a:=a) (ss:=ss);generalize fH 0 40 9=b at *;simp[mM,this]
 have g:jx (ay 0) dB (mM C) dD [] [none,some (.own true (hB C (iG a ss [])))]=some ([.bool true,.bool true],[some (.dat (fH 0 40 9)),some (.own true (hB C (T2 a ss)))]):=by generalize mM C=h at *;rw[jx];simp only[ay,q0x,dB,d];rw[if_pos (by simp only[q0F];lia),jx];simp only[ay,q0x,dB,e];rw[if_pos (by simp only[q0F,q0I,q04];lia),jx];rfl
 refine⟨.own false (.pr C (ak (T2 a ss)) (.list [.bool true,.bool true])),?_⟩;generalize bM a ss=j at *;generalize dD=b at *;simp[uF,Ev,mh,me,i,tM,tL,bX,tK,tJ,g,show(2:Nat)<=sizeLine by lia]
theorem VJ(h:qM [.dat Z,.dat (.tuple [.tuple [P,.str "all",.bool true]]),.dat (.int 0),.dat (.int 300)]=.rt (.own false (.l L)) []):dN C [.dat (.int 0),.dat Z,.dat P,.own true (hB C S),.dat R]=.rt (.own false (.l L)) [hB C S]:=by simp[dN,jA,hR,h]
theorem VL(h:oj [.dat Z,.dat P,.dat (.int 0),.dat (.int 300)]=.rt (.own false (.l L)) []):dN C [.dat (.int 1),.dat Z,.dat P,.own true (hB C S),.dat R]=.rt (.own false (.l L)) [hB C S]:=by simp[dN,jA,hR,h]
theorem VM(h:qJ [.dat Z,.dat P,.dat (.int 5)]=.rt (.own false (.l L)) []):dN C [.dat (.int 2),.dat Z,.dat P,.own true (hB C S),.dat R]=.rt (.own false (.l L)) [hB C S]:=by simp[dN,jA,hR,h]
theorem VN(h:qy C [.own true (hB C S)]=.rt (.own false (.l L)) [hB C S]):dN C [.dat (.int 3),.dat Z,.dat P,.own true (hB C S),.dat R]=.rt (.own false (.l L)) [hB C S]:=by simp[dN,jA,hR,eh,h]
theorem VO(h:qA C [.own true (hB C S)]=.rt (.own false (.l L)) [hB C S]):dN C [.dat (.int 4),.dat Z,.dat P,.own true (hB C S),.dat R]=.rt (.own false (.l L)) [hB C S]:=by simp[dN,jA,hR,eh,h]
theorem VP(h:qP C [.dat R]=.rt (.own false (.l L)) []):dN C [.dat (.int 5),.dat Z,.dat P,.own true (hB C S),.dat R]=.rt (.own false (.l L)) [hB C S]:=by simp[dN,jA,hR,eh,h]
theorem VQ(h:qQ C [.dat R]=.rt (.own false (.l L)) []):dN C [.dat (.int 6),.dat Z,.dat P,.own true (hB C S),.dat R]=.rt (.own false (.l L)) [hB C S]:=by simp[dN,jA,hR,eh,h]
theorem VR(h:qR C [.dat R,.dat (.int 9000)]=.rt (.own false (.l L)) []):dN C [.dat (.int 7),.dat Z,.dat P,.own true (hB C S),.dat R]=.rt (.own false (.l L)) [hB C S]:=by simp[dN,jA,hR,eh,h]
theorem VS(h:mF C [.own true (hB C S)]=.rt (.own false (.l L)) [hB C S]):dN C [.dat (.int 8),.dat Z,.dat P,.own true (hB C S),.dat R]=.rt (.own false (.l L)) [hB C S]:=by simp[dN,jA,hR,eh,dU,dS,bX,h]
theorem VT(r):PyData.canLay0 (aG r)=true/\PyData.depth (aG r)<=9:=by simp[PyData.canLay0,PyData.depth,UH,UI]
theorem mW(L:List (List Int)):SeqAt.shaped (.list (L.map aG))=true:=yN fun x a=>by obtain⟨r,_,rfl⟩:=q0R.mp a;exact VT r
theorem VU(b:List Int):SeqAt.shaped (.list (b.map PyData.int))=true:=yN fun x a=>by obtain⟨r,_,rfl⟩:=q0R.mp a;simp[PyData.canLay0,PyData.depth]
theorem VV(a:List gp):SeqAt.shaped (.list (a.map cz))=true:=yN fun x b=>by obtain⟨r,_,rfl⟩:=q0R.mp b;have:=Uj r.wd;simp[PyData.canLay0,PyData.canLayAll0,PyData.depth,PyData.depthAll,this]
theorem VW(z:fF a d)(g:0<=f/\f<=9999)(h:1<=st/\st<=999)(i:c<=9)(j:0<=w)(k:w<9) :
  ∃L,L.length<=5000/\SeqAt.shaped (.list L)=true/\dN C [.dat (.int w),.dat (bM a d),.dat (dr f st),.own true (hB C (s4 a d f st none (cA c) ws c)),.dat (.list dD)]=.rt (.own false (.l L)) [hB C (s4 a d f st none (cA c) ws c)]:=by
 have m:(cA c).length=2 * c:=yS c;have:w=0\/w=1\/w=2\/w=3\/w=4\/w=5\/w=6\/w=7\/w=8:=by lia
 rcases this with rfl |rfl |rfl |rfl |rfl |rfl |rfl |rfl |rfl
 .obtain⟨M,b,e⟩:=VC z g h;exact⟨_,by rw[q0h];exact b,mW M,VJ e⟩
 .obtain⟨M,e,b⟩:=ID z g h;refine⟨_,by rw[q0h];exact b,?_,VL e⟩;have:M.map fg=(M.map fun p=>[p.1,p.2]).map aG:=by rw[q1z];rfl
  rw[this];exact mW _
 .obtain⟨M,b,e⟩:=VE z g h;exact⟨_,by rw[q0h];lia,VU M,VM e⟩
 .exact⟨_,by simp,mW [[((fj (cA c) 0).count .begun:Nat),((fj (cA c) 0).count .done:Nat),((fj (cA c) 0).count .left:Nat),((fj (cA c) 0).count .unsure:Nat)]],VN (Vq rfl (by show(cA c).length<=_;lia))⟩
 .obtain⟨M,b,e⟩:=Vw (C:=C) (S:=s4 a d f st none (cA c) ws c) (c:=c) rfl (by lia);exact⟨_,by rw[q0h];lia,mW M,VO e⟩
 .exact⟨_,by simp,mW [[1,3,12],[0,40,49]],VP UZ⟩
 .obtain⟨M,b,e⟩:=Vb (C:=C);exact⟨_,by rw[q0h];lia,mW M,VQ e⟩
 .obtain⟨M,b,e⟩:=Vc (C:=C);exact⟨_,by rw[q0h];lia,mW M,VR e⟩
 .exact⟨_,by rw[q0h];show(cA c).length<=_;lia,VV (cA c),VS yx⟩
noncomputable abbrev ro(s t b z p h r:Option aa)(d e f a c:Option aa):ai:=[s,t,b,z,p,h,r,d,e,f,a,c,none]
theorem mY(a:jo (.int (b+4 * k)) (.int 9)=some (.int w))(c:jU (.int 4) (.int k)=some (.int (4 * k)))
  (h:dN C [.dat (.int w),.dat Z,.dat P,.own true (hB C S),.dat R]=.rt (.own false (.l L)) [hB C S]) (d:L.length<sizeLine) (e:aT true (.list L) (.list L)=some (.bool false)) :
  qS C (ro s t (some (.dat (.int b))) (some (.dat Z)) (some (.dat P)) (some (.own false (hB C S))) (some (.dat R)) (some (.dat (.int k))) x8 x9 x10 x11)=.nx (ro s t (some (.dat (.int b))) (some (.dat Z)) (some (.dat P)) (some (.own false (hB C S))) (some (.dat R)) (some (.dat (.int k))) (some (.dat (.int w))) (some (.own false (.l ((L++[PyData.str "changed"]).set 0 PyData.none)))) (some (.dat (.list L))) (some (.dat (.list L)))):=by
 have f:cI (L.length+1) 0=some 0:=by simp[cI]
 simp[-jo,-jU,qS,a,c,h,d,e,tP,iY,bX,tw,f]
theorem yW(b k)(d:0<=b/\b<9)(c:0<=k/\k<9):jU (.int 4) (.int k)=some (.int (4 * k))/\∃w,jo (.int (b+4 * k)) (.int 9)=some (.int w)/\0<=w/\w<9:=by have a:nv (b+4 * k) 9=true:=rfl;refine⟨by simp[Hk (i:=4) (show -1000000<=k by lia) (show k<=1000000 by lia)],(b+4 * k) % 9,by simp[a],by lia,by lia⟩
theorem jh(z:fF a k)(v:0<=f/\f<=9999)(x:1<=st/\st<=999)(y:c<=9)(B:0<=b/\b<9):∀(n:Nat) (i:Int)  p m o d g,0<=i->i+n<=9->
  ∃q r u h j,br (ay 7) (qS C) (L3.intsFrom i n) (ro s t (some (.dat (.int b))) (some (.dat (bM a k))) (some (.dat (dr f st))) (some (.own false (hB C (s4 a k f st none (cA c) ws c)))) (some (.dat (.list dD))) p m o d g)=.nx (ro s t (some (.dat (.int b))) (some (.dat (bM a k))) (some (.dat (dr f st))) (some (.own false (hB C (s4 a k f st none (cA c) ws c)))) (some (.dat (.list dD))) q r u h j)
 |0,i,p,m,o,d,g,_,_=>⟨p,m,o,d,g,by simp[L3.intsFrom,br]⟩
 |n+1,i,p,m,o,d,g,D,N=>by
  have sz:10000<sizeLine:=by decide
  obtain⟨E,w,G,H,I⟩:=yW b i B ⟨D,by lia⟩;obtain⟨L,ll,J,e⟩:=VW (C:=C) (ws:=ws) z v x y H I;obtain⟨q,r,u,h,j,M⟩:=jh (C:=C) (ws:=ws) z v x y (s:=s) (t:=t) B n (i+1) (some (.dat (.int i))) (some (.dat (.int w))) (some (.own false (.l ((L++[PyData.str "changed"]).set 0 PyData.none)))) (some (.dat (.list L))) (some (.dat (.list L))) (by lia) (by lia);refine⟨q,r,u,h,j,?_⟩;have A:=mY (s:=s) (t:=t) (x8:=m) (x9:=o) (x10:=d) (x11:=g) G E e (by lia) (yp J);rw[<-M];generalize (L++[PyData.str "changed"]).set 0 PyData.none=O at *;generalize bM a k=Z at *;generalize dr f st=P at *;generalize dD=R at *;generalize s4 a k f st none (cA c) ws c=S at *;generalize qS C=Q at *;rw[uQ,br];simp only[ay,ro,q0l,q0K,q0x]at A ⊢;rw[A]
theorem yX(z:fF a b)(c:0<=f/\f<=9999)(e:1<=st/\st<=999):kW C [.own true (.o C []),.dat (bM a b),.dat (iH f st)]=.rt (.dat .none) [hB C (iG a b [⟨.every f st,.all,true⟩])]:=by
 have hd:=HU (ds:=[⟨.every f st,.all,true⟩]) (by simp) (fun d hd=>by
  obtain rfl:=q0k.mp hd;exact⟨⟨c,e⟩,trivial⟩)
 have i:=yy (C:=C) (ox z) hd (by simp);rw[lB]at i;exact i
theorem rp:kb C [.own true (hB C (iG a ss [⟨.every f st,.all,true⟩])),.dat (.int 0),.dat (.int 20),.dat (.int 9)]=.rt (.dat (.bool true)) [hB C (s4 a ss f st none [] [] 0)]:=
 yw (r:=0) (m:=20) (t:=9) (uS rfl (by decide) (by decide) rfl) (by decide)
theorem yY(h:br g b (L3.intsFrom 0 9) U=.nx a):eE (eQ bL (av (xC (.int 9)) aP)) g b U=.nx a:=by have c:bL [.int 9]=some (L3.intsFrom 0 9):=rfl;generalize L3.intsFrom 0 9=l at *;generalize bL=d at *;simp[c,h]
theorem VX(e:d.length<=63):ER C [.scr d]=.rt (.dat (.bool true)) []:=by
 have sz:10000<sizeLine:=by decide
 obtain⟨b,b0,o,k⟩:=oy (ns:=d) (many:=9) (t:=[]) e (by simp) (by lia);obtain⟨a,ss,g,q,r,rise,ah,top,u⟩:=TR (ns:=d) (t:=[.int 0]) (wd:=60) e (by simp) (by lia);rw[q04]at u;rw[q0I]at k;have z:fF a ss:=⟨by lia,rise,ah,fun p v=>by have:=top p v;lia⟩
 obtain⟨f,w,O,x⟩:=oy (ns:=d) (many:=9) (t:=g) e (by lia) (by lia);obtain⟨s,s0,Q,y⟩:=oy (ns:=d) (many:=9) (t:=g++[.int 0]) e (by rw[q0u,q04];lia) (by lia);have h:0<=f/\f<=9999:=⟨w,by lia⟩
 have i:1<=1+s/\1+s<=999:=⟨by lia,by lia⟩
 have j:=yX (C:=C) (st:=1+s) z h i;have A:=rp (C:=C) (a:=a) (ss:=ss) (f:=f) (st:=1+s);obtain⟨c,m,eX,B,D⟩:=Vl (C:=C) z h i;obtain⟨R,S,T,E,G,H⟩:=jh (C:=C) (ws:=m) z h i D (s:=some (.scr d)) (t:=some (.own false (.l (g++[.int 0]++[.int 0])))) ⟨b0,o⟩ 9 0 none none none none none (by lia) (by lia);have I:=Va (C:=C);have J:=VH z;obtain⟨U,ru⟩:=VI (C:=C) z;have L:SeqAt.shaped (.list dD)=true:=by decide +kernel
 have M:=Hh L;have N:=yp (show SeqAt.shaped (.list [])=true by decide +kernel);have rd:(.list dD:PyData)=.list ([fH 1 3 9]++[fH 0 40 9]):=rfl;generalize g++[.int 0]=X at *;generalize iG a ss [⟨.every f (1+s),.all,true⟩]=Y at *;generalize s4 a ss f (1+s) none [] [] 0=Z at *;generalize s4 a ss f (1+s) none (cA c) m c=S2 at *;generalize bM a ss=zd at *;refine TW (n:=12) ?_;unfold EQ;simp only[List.replicate];refine iF (by simp[ED]<;>rfl) ?_;refine iF (by simp[EE,k]<;>rfl) ?_;refine iF (by simp[EF,q]<;>rfl) ?_;refine iF (by simp[EG,x,y,show(3:Nat)<=sizeLine by lia]<;>rfl) ?_;refine iF (by simp[EH,mh,me,j,show(3:Nat)<=sizeLine by lia,show(1:Nat)<=sizeLine by lia]<;>rfl) ?_;refine iF (by simp[EI,ck,dS,bX,A]<;>rfl) ?_;refine iF (by simp[EJ,B]<;>rfl) ?_;refine iF (by simp[EK,show(4:Nat)<=sizeLine by lia,show(1:Nat)<=sizeLine by lia,show(2:Nat)<=sizeLine by lia]<;>rfl) ?_;refine iF (yY H) ?_;refine iF (by simp[EL]<;>rfl) ?_;refine iF (by simp[EM,I,J,Hi,N]<;>rfl) ?_;refine iF (by simp[EN,ru]<;>rfl) ?_;simp[EO,IsT,M]
end K3
namespace K3
open PySem PySem.Spec L2 L2.L3 PyProof.Rows
theorem VY{K}(i:GH mg H)(j:∀c,c.length<=63->f [.scr c]=.rt (.dat (.bool true)) [])(h:∃a c,vs=[.ref a]/\ig K H a c/\∀d,Q (.bl true) d):fu K mg f vs H Q E:=by obtain⟨a,c,rfl,e,q⟩:=h;refine⟨i,[.scr c],[[]],[],.oth (fun _ z=>by cases z) (fun _ _ z=>by cases z) ⟨a,rfl,e⟩ .nil,q1O,fun b l=>by simp at l,?_⟩;rw[j c e.1];intro v d m g k _ _;rw[show v=.bl true from DV.bl_inv k];exact q d
def YE(K:Frag):Sp:=fun vs H Q _=>∃a c,vs=[.ref a]/\ig K H a c/\∀b,Q (.bl true) b
abbrev LK(K:Frag)(f:Addr)(a:Value)(b:Option Addr)(n q:Str)(s:Stmt)(k d p:Value)(e:Option Addr)(c t:Value)(l:Array (Option Value)):Prop:=K.lookup f=some ⟨a,b,.func (fnOf n q (gu s) (fo s) (cS s) .none k d p e c t),l⟩
abbrev NI(K:Frag)(n:Str)(f:Addr):Prop:=nsIn K mainGlobals n=some (some (.ref f))
abbrev NV(K:Frag)(n:Str)(i:Int)(t:Tok):Prop:=nsIn K mainGlobals n=some (some (.int i t))
abbrev NZ(K:Frag)(n:Str):Prop:=nsIn K mainGlobals n=some none
abbrev KI(K:Frag)(f:Addr):Prop:=keepIn K (.ref f)=true
theorem all_mk{l:PySem.W.OpenLaw}{K}(XK:K.In h)(G:h.Ns mainGlobals mg)(i6:mg "law" = some (.ref fa))
  (e1:NI K "ANY_ZONE" g1)
  (i8:K.lookup g1=some ⟨.type "tuple",u1,.seq #[.int 0 i7,.ref g2] n1,s1⟩)
  (i9:K.lookup g2=some ⟨.type "tuple",u2,.seq #[] n2,s2⟩)
  (e2:NI K "NO_DEEDS" g3)
  (j0:K.lookup g3=some ⟨.type "tuple",u3,.seq #[] n3,s3⟩)
  (e3:NI K "Hall" d)
  (i1:NI K "law" A)
  (i2:LK K A b3 b1 "law" "law" je S U Y R J Z b2)
  (i3:codeIn K J "law" = true)
  (i4:KI K A)
  (u6:NV K "LAST_MOMENT" (9999) d1)
  (r7:NV K "LAST_HOUR" (23) d2)
  (u7:NV K "LEAST_AHEAD" (-12) d3)
  (r8:NV K "MOST_AHEAD" (14) d4)
  (u8:NV K "MOST_SHIFTS" (6) d5)
  (r9:NV K "MOST_STEP" (999) b4)
  (u9:NV K "MOST_DEEDS" (6) d6)
  (v0:NV K "MOST_WITHIN" (999) d7)
  (v1:NV K "LAST_RUNNER" (3) d8)
  (s0:NV K "MOST_TERM" (99) b5)
  (s4:NV K "DAY_HOURS" (24) d9)
  (s5:NV K "PLAN" (0) b6)
  (s6:NV K "LATE" (1) b7)
  (s7:NV K "AGAIN" (2) b8)
  (s8:NI K "LENGTHS" a)
  (c0:K.lookup a=some ⟨.type "dict",none,.dict #[⟨hashStr w "take",.str "take" f,.int 4 g⟩,⟨hashStr w "give",.str "give" i,.int 3 j⟩,⟨hashStr w "step",.str "step" k,.int 3 m⟩,⟨hashStr w "finish",.str "finish" n,.int 3 p⟩] r,#[]⟩)
  (v2:NV K "MOST_STEPS" (999) e0)
  (s9:NV K "MOST_GAPS" (999) b9)
  (t0:NI K "WORDS" q)
  (c5:K.lookup q=some ⟨.type "tuple",B,.seq #[.str "begun" t,.str "done" x,.str "left" y,.str "unsure" z] I,D⟩)
  (t1:NZ K "all")
  (t2:NZ K "any")
  (t3:NZ K "bool")
  (v3:NZ K "divmod")
  (v4:NZ K "enumerate")
  (t4:NZ K "int")
  (v5:NZ K "isinstance")
  (t5:NZ K "len")
  (t6:NZ K "list")
  (t7:NZ K "min")
  (v6:NZ K "range")
  (v7:NZ K "sorted")
  (t8:NZ K "str")
  (v8:NZ K "tuple")
  (t9:plainGet K d Str.empty=true)
  (u0:hasDictIn K d=true)
  (u4:PySem.W.plainOver K d=true)
  (u5:findIn K (.ref d) "__setattr__" = some (some (.builtin "object.__setattr__")))
  (j1:makesIn K d=true)
  (j2:KI K d)
  (c6:findIn K (.ref d) "begun" = some none)
  (c7:findIn K (.ref d) "deeds" = some none)
  (c2:findIn K (.ref d) "holder" = some none)
  (c8:findIn K (.ref d) "holds" = some none)
  (e4:findIn K (.ref d) "last" = some none)
  (e5:findIn K (.ref d) "rows" = some none)
  (c1:findIn K (.ref d) "settled" = some none)
  (c9:findIn K (.ref d) "until" = some none)
  (d0:findIn K (.ref d) "words" = some none)
  (e6:findIn K (.ref d) "zone" = some none)
  (i5:NI K "DueError" D_)
  (e7:nsIn (aA [g1,g2,g3] K) mainGlobals "ANY_ZONE" = some (some (.ref g1)))
  (e8:nsIn (aA [g1,g2,g3] K) mainGlobals "NO_DEEDS" = some (some (.ref g3)))
  (a7:nsIn (aA [g1,g2,g3] K) mainGlobals "Hall" = some (some (.ref d)))
  (l0:bx K (aA [g1,g2,g3] K) "is_whole" ES)
  (l1:bx K (aA [g1,g2,g3] K) "is_tuple_of" ET)
  (l2:bx K (aA [g1,g2,g3] K) "is_ahead" EU)
  (l3:bx K (aA [g1,g2,g3] K) "is_moment" EV)
  (l4:bx K (aA [g1,g2,g3] K) "is_runner" EW)
  (l5:bx K (aA [g1,g2,g3] K) "is_term" EY)
  (l6:bx K (aA [g1,g2,g3] K) "are_shifts" EZ)
  (l7:bx K (aA [g1,g2,g3] K) "is_zone" Fa)
  (l8:bx K (aA [g1,g2,g3] K) "has_word" Fb)
  (l9:bx K (aA [g1,g2,g3] K) "is_plan" Fc)
  (j3:bx K (aA [g1,g2,g3] K) "is_late" Fd)
  (j4:bx K (aA [g1,g2,g3] K) "is_deed" Fe)
  (j5:bx K (aA [g1,g2,g3] K) "are_deeds" Ff)
  (j6:bx K (aA [g1,g2,g3] K) "check_zone" Fg)
  (j7:bx K (aA [g1,g2,g3] K) "check_plan" Fh)
  (j8:bx K (aA [g1,g2,g3] K) "check_moment" Fi)
  (j9:bx K (aA [g1,g2,g3] K) "check_stretch" Fj)
  (k0:bx K (aA [g1,g2,g3] K) "check_deeds" Fk)
  (k1:bx K (aA [g1,g2,g3] K) "check_runner" Fm)
  (k2:bx K (aA [g1,g2,g3] K) "check_term" Fo)
  (k3:bx K (aA [g1,g2,g3] K) "shown" Fp)
  (k4:bx K (aA [g1,g2,g3] K) "time_of" Fq)
  (k5:bx K (aA [g1,g2,g3] K) "dues" Fs)
  (k6:bx K (aA [g1,g2,g3] K) "rows_between" Ft)
  (k7:bx K (aA [g1,g2,g3] K) "check_calendar" Fu)
  (k8:bx K (aA [g1,g2,g3] K) "calendar" Fv)
  (k9:bx K (aA [g1,g2,g3] K) "is_left_out" Fw)
  (m0:fQ K (aA [g1,g2,g3] K) d "__init__" "Hall.__init__" Fy)
  (m1:fQ K (aA [g1,g2,g3] K) d "is_held" "Hall.is_held" Fz)
  (m2:fQ K (aA [g1,g2,g3] K) d "check_call" "Hall.check_call" FC)
  (m3:fQ K (aA [g1,g2,g3] K) d "check_holder" "Hall.check_holder" FF)
  (m4:fQ K (aA [g1,g2,g3] K) d "take" "Hall.take" FH)
  (m5:fQ K (aA [g1,g2,g3] K) d "add_row" "Hall.add_row" FJ)
  (m6:fQ K (aA [g1,g2,g3] K) d "is_busy" "Hall.is_busy" FK)
  (m7:fQ K (aA [g1,g2,g3] K) d "first_unsettled" "Hall.first_unsettled" FL)
  (m8:fQ K (aA [g1,g2,g3] K) d "step" "Hall.step" FP)
  (m9:fQ K (aA [g1,g2,g3] K) d "step_behind_a_fall" "Hall.step_behind_a_fall" FQ)
  (n0:fQ K (aA [g1,g2,g3] K) d "step_ahead" "Hall.step_ahead" FT)
  (n4:fQ K (aA [g1,g2,g3] K) d "finish" "Hall.finish" FU)
  (n5:fQ K (aA [g1,g2,g3] K) d "held" "Hall.held" FV)
  (n6:fQ K (aA [g1,g2,g3] K) d "log" "Hall.log" FY)
  (n7:bx K (aA [g1,g2,g3] K) "check_call" FZ)
  (n8:bx K (aA [g1,g2,g3] K) "ask" Ga)
  (n9:bx K (aA [g1,g2,g3] K) "do" Gb)
  (o0:bx K (aA [g1,g2,g3] K) "run" Gc)
  (o1:bx K (aA [g1,g2,g3] K) "catch_up" Gf)
  (o2:bx K (aA [g1,g2,g3] K) "is_row" Gg)
  (o3:bx K (aA [g1,g2,g3] K) "check_rows" Gh)
  (o4:bx K (aA [g1,g2,g3] K) "walked_holds" Gi)
  (o5:bx K (aA [g1,g2,g3] K) "lasting_holds" Gj)
  (o6:bx K (aA [g1,g2,g3] K) "all_holds" Gk)
  (o7:bx K (aA [g1,g2,g3] K) "held_by" Gm)
  (o8:bx K (aA [g1,g2,g3] K) "holder_at" Gn)
  (o9:bx K (aA [g1,g2,g3] K) "nobody" Go)
  (p0:bx K (aA [g1,g2,g3] K) "gaps" Gp)
  (p1:bx K (aA [g1,g2,g3] K) "tally" Gq)
  (p2:bx K (aA [g1,g2,g3] K) "tallies" Gr)
  (p3:bx K (aA [g1,g2,g3] K) "long_done" Gs)
  (p4:bx K (aA [g1,g2,g3] K) "how_often" Gu)
  (p5:bx K (aA [g1,g2,g3] K) "shown_often" Gv)
  (p6:bx K (aA [g1,g2,g3] K) "_law_cell_at" Gw)
  (p7:bx K (aA [g1,g2,g3] K) "_law_mixed" Gx)
  (p8:bx K (aA [g1,g2,g3] K) "_law_draw" Gy)
  (p9:bx K (aA [g1,g2,g3] K) "_law_pick" Gz)
  (q0:bx K (aA [g1,g2,g3] K) "_law_zone" GA)
  (q1:bx K (aA [g1,g2,g3] K) "_law_list" GB)
  (e9:nsIn (aA [g1,g2,g3] K) mainGlobals "law" = some (some (.ref A)))
  (q2:(aA [g1,g2,g3] K).lookup A=some ⟨b3,b1,.func (fnOf "law" "law" (gu je) (fo je) (cS je) .none S U Y R J Z),b2⟩)
  (q3:codeIn (aA [g1,g2,g3] K) J "law" = true)
  (q4:keepIn (aA [g1,g2,g3] K) (.ref A)=true)
  (f0:nsIn (aA [g1,g2,g3] K) mainGlobals "LAST_MOMENT" = some (some (.int (9999) d1)))
  (f1:nsIn (aA [g1,g2,g3] K) mainGlobals "LAST_HOUR" = some (some (.int (23) d2)))
  (q5:nsIn (aA [g1,g2,g3] K) mainGlobals "LEAST_AHEAD" = some (some (.int (-12) d3)))
  (f2:nsIn (aA [g1,g2,g3] K) mainGlobals "MOST_AHEAD" = some (some (.int (14) d4)))
  (q6:nsIn (aA [g1,g2,g3] K) mainGlobals "MOST_SHIFTS" = some (some (.int (6) d5)))
  (f3:nsIn (aA [g1,g2,g3] K) mainGlobals "MOST_STEP" = some (some (.int (999) b4)))
  (f4:nsIn (aA [g1,g2,g3] K) mainGlobals "MOST_DEEDS" = some (some (.int (6) d6)))
  (q7:nsIn (aA [g1,g2,g3] K) mainGlobals "MOST_WITHIN" = some (some (.int (999) d7)))
  (f5:nsIn (aA [g1,g2,g3] K) mainGlobals "LAST_RUNNER" = some (some (.int (3) d8)))
  (f6:nsIn (aA [g1,g2,g3] K) mainGlobals "MOST_TERM" = some (some (.int (99) b5)))
  (f7:nsIn (aA [g1,g2,g3] K) mainGlobals "DAY_HOURS" = some (some (.int (24) d9)))
  (f8:nsIn (aA [g1,g2,g3] K) mainGlobals "PLAN" = some (some (.int (0) b6)))
  (f9:nsIn (aA [g1,g2,g3] K) mainGlobals "LATE" = some (some (.int (1) b7)))
  (g0:nsIn (aA [g1,g2,g3] K) mainGlobals "AGAIN" = some (some (.int (2) b8)))
  (g4:nsIn (aA [g1,g2,g3] K) mainGlobals "LENGTHS" = some (some (.ref a)))
  (L:(aA [g1,g2,g3] K).lookup a=some ⟨.type "dict",none,.dict #[⟨hashStr w "take",.str "take" f,.int 4 g⟩,⟨hashStr w "give",.str "give" i,.int 3 j⟩,⟨hashStr w "step",.str "step" k,.int 3 m⟩,⟨hashStr w "finish",.str "finish" n,.int 3 p⟩] r,#[]⟩)
  (g5:nsIn (aA [g1,g2,g3] K) mainGlobals "MOST_STEPS" = some (some (.int (999) e0)))
  (g6:nsIn (aA [g1,g2,g3] K) mainGlobals "MOST_GAPS" = some (some (.int (999) b9)))
  (g7:nsIn (aA [g1,g2,g3] K) mainGlobals "WORDS" = some (some (.ref q)))
  (a0:(aA [g1,g2,g3] K).lookup q=some ⟨.type "tuple",B,.seq #[.str "begun" t,.str "done" x,.str "left" y,.str "unsure" z] I,D⟩)
  (g8:nsIn (aA [g1,g2,g3] K) mainGlobals "all" = some none)
  (g9:nsIn (aA [g1,g2,g3] K) mainGlobals "any" = some none)
  (h0:nsIn (aA [g1,g2,g3] K) mainGlobals "bool" = some none)
  (q8:nsIn (aA [g1,g2,g3] K) mainGlobals "divmod" = some none)
  (q9:nsIn (aA [g1,g2,g3] K) mainGlobals "enumerate" = some none)
  (h1:nsIn (aA [g1,g2,g3] K) mainGlobals "int" = some none)
  (r0:nsIn (aA [g1,g2,g3] K) mainGlobals "isinstance" = some none)
  (h2:nsIn (aA [g1,g2,g3] K) mainGlobals "len" = some none)
  (h3:nsIn (aA [g1,g2,g3] K) mainGlobals "list" = some none)
  (h4:nsIn (aA [g1,g2,g3] K) mainGlobals "min" = some none)
  (h5:nsIn (aA [g1,g2,g3] K) mainGlobals "range" = some none)
  (r1:nsIn (aA [g1,g2,g3] K) mainGlobals "sorted" = some none)
  (h6:nsIn (aA [g1,g2,g3] K) mainGlobals "str" = some none)
  (h7:nsIn (aA [g1,g2,g3] K) mainGlobals "tuple" = some none)
  (r2:plainGet (aA [g1,g2,g3] K) d Str.empty=true)
  (r3:hasDictIn (aA [g1,g2,g3] K) d=true)
  (r4:PySem.W.plainOver (aA [g1,g2,g3] K) d=true)
  (r5:findIn (aA [g1,g2,g3] K) (.ref d) "__setattr__" = some (some (.builtin "object.__setattr__")))
  (h8:makesIn (aA [g1,g2,g3] K) d=true)
  (h9:keepIn (aA [g1,g2,g3] K) (.ref d)=true)
  (a1:findIn (aA [g1,g2,g3] K) (.ref d) "begun" = some none)
  (a2:findIn (aA [g1,g2,g3] K) (.ref d) "deeds" = some none)
  (O:findIn (aA [g1,g2,g3] K) (.ref d) "holder" = some none)
  (a3:findIn (aA [g1,g2,g3] K) (.ref d) "holds" = some none)
  (a8:findIn (aA [g1,g2,g3] K) (.ref d) "last" = some none)
  (a9:findIn (aA [g1,g2,g3] K) (.ref d) "rows" = some none)
  (M:findIn (aA [g1,g2,g3] K) (.ref d) "settled" = some none)
  (a4:findIn (aA [g1,g2,g3] K) (.ref d) "until" = some none)
  (a5:findIn (aA [g1,g2,g3] K) (.ref d) "words" = some none)
  (b0:findIn (aA [g1,g2,g3] K) (.ref d) "zone" = some none)
  (a6:nsIn (aA [g1,g2,g3] K) mainGlobals "DueError" = some (some (.ref D_)))
  (N:(a==sysModules)=false)
  (c3:excIn (aA [g1,g2,g3] K) D_ pH "ValueError.__new__" = true)
  (c4:BF (aA [g1,g2,g3] K) D_ xY=true) :
  ∃(fd:FuncData) (K':Frag) (HG:Hp),(∀s  v,BindsTo s fd ⟨[v],[]⟩ [("_law_script",v)])/\K'.In h/\(∀b u,HG b=some u->jZ K' h b u)/\GH mg HG/\∀base,K'.In base->base.Ns mainGlobals mg->bU l.prog w K' mg base (dt l.prog w) 13 fa fd ["_law_script"] (xN K' mg):=by
 obtain⟨HG,tg,gh⟩:=RU (mg:=mg) XK i8 i9 j0 (mg_of XK G e1) (mg_of XK G e2);have X:(aA [g1,g2,g3] K).In h:=RT XK fun b o e=>(tu e).1;generalize aA [g1,g2,g3] K=K at *;have e:=i6.symm.trans (mg_of X G e9);cases e;have i0:=oQ (st:=je) q2 q3 q4;have r6:FD K mg "law" je ["_law_script"] _ _:=⟨i0,mg_of X G e9,i0.binds fun _ _ _ _ _ _=>tN fun _=>rfl⟩
 have HC:cF K mg d:=⟨⟨r2,r3,r4,r5⟩,mg_of X G a7,h8,h9,a1,a2,O,a3,a8,a9,M,a4,a5,b0,m0.mf.md,m1.mf.md,m2.mf.md,m3.mf.md,m4.mf.md,m5.mf.md,m6.mf.md,m7.mf.md,m8.mf.md,m9.mf.md,n0.mf.md,n4.mf.md,n5.mf.md,n6.mf.md⟩
 have T:Tx l.prog w K mg:=⟨l0.df.fd X G,l1.df.fd X G,l2.df.fd X G,l3.df.fd X G,l4.df.fd X G,l5.df.fd X G,l6.df.fd X G,l7.df.fd X G,l8.df.fd X G,l9.df.fd X G,j3.df.fd X G,j4.df.fd X G,j5.df.fd X G,j6.df.fd X G,j7.df.fd X G,j8.df.fd X G,j9.df.fd X G,k0.df.fd X G,k1.df.fd X G,k2.df.fd X G,k3.df.fd X G,k4.df.fd X G,k5.df.fd X G,k6.df.fd X G,k7.df.fd X G,k8.df.fd X G,k9.df.fd X G,n7.df.fd X G,n8.df.fd X G,n9.df.fd X G,o0.df.fd X G,o1.df.fd X G,o2.df.fd X G,o3.df.fd X G,o4.df.fd X G,o5.df.fd X G,o6.df.fd X G,o7.df.fd X G,o8.df.fd X G,o9.df.fd X G,p0.df.fd X G,p1.df.fd X G,p2.df.fd X G,p3.df.fd X G,p4.df.fd X G,p5.df.fd X G,p6.df.fd X G,p7.df.fd X G,p8.df.fd X G,p9.df.fd X G,q0.df.fd X G,q1.df.fd X G,⟨_,mg_of X G f0⟩,⟨_,mg_of X G f1⟩,⟨_,mg_of X G q5⟩,⟨_,mg_of X G f2⟩,⟨_,mg_of X G q6⟩,⟨_,mg_of X G f3⟩,⟨_,mg_of X G f4⟩,⟨_,mg_of X G q7⟩,⟨_,mg_of X G f5⟩,⟨_,mg_of X G f6⟩,⟨_,mg_of X G f7⟩,⟨_,mg_of X G f8⟩,⟨_,mg_of X G f9⟩,⟨_,mg_of X G g0⟩,⟨_,mg_of X G g4,RV [⟨"take",4,f,g⟩,⟨"give",3,i,j⟩,⟨"step",3,k,m⟩,⟨"finish",3,n,p⟩] L (show(["take","give","step","finish"]:List Str).Nodup from by decide +kernel) N⟩,⟨_,mg_of X G g5⟩,⟨_,mg_of X G e7⟩,⟨_,mg_of X G e8⟩,⟨_,mg_of X G g6⟩,⟨_,mg_of X G g7,_,_,_,a0,rfl,rfl,(show(4:Nat)<=sizeLine from by decide),.cons ⟨_,rfl⟩ (.cons ⟨_,rfl⟩ (.cons ⟨_,rfl⟩ (.cons ⟨_,rfl⟩ (.nil))))⟩,mg_none_of X G g8,mg_none_of X G g9,mg_none_of X G h0,mg_none_of X G q8,mg_none_of X G q9,mg_none_of X G h1,mg_none_of X G r0,mg_none_of X G h2,mg_none_of X G h3,mg_none_of X G h4,mg_none_of X G h5,mg_none_of X G r1,mg_none_of X G h6,mg_none_of X G h7,⟨D_,⟨⟨mg_of X G a6,a6,c3⟩,c4,fun c C e=>mg_of X G e⟩⟩⟩;exact⟨fnOf "law" "law" (gu je) (fo je) (cS je) .none S U Y R J Z,K,HG,fun s v=>.of_eq rfl,X,tg,gh,fun base _ _=>(Tz _ _ _ T HC r6).imp fun vs H Q E h=>VY h.1 (fun ns hn=>VX hn) h.2⟩
theorem law_walk{l:PySem.W.OpenLaw}{K:Params->Frag}(n:l.most=some 63)(e:d.params.defaults=[])
  (o:∀w  h,g w h->(K w.params).In h)
  (F:∀w  mg  i  h,(K w.params).In h->h.Ns mainGlobals mg->mg d.name=some (.ref i)->
   ∃(fd:FuncData) (c:Frag) (j:Hp),(∀s  u,BindsTo s fd ⟨[u],[]⟩ [("_law_script",u)])/\c.In h/\(∀b u,j b=some u->jZ c h b u)/\GH mg j/\∀base,c.In base->base.Ns mainGlobals mg->bU l.prog w c mg base (dt l.prog w) 13 i fd ["_law_script"] (xN c mg)) :
  PySem.W.WalkO q a m g l.row.toRowW d [] (fun f vs=>PySem.call f vs):=
 RS (k:=13) (x:="_law_script") (CX:=fun w=>dt l.prog w) n e ⟨rfl,by decide,by decide⟩ o F (fun _ _ _ _ _ y=>by obtain⟨_,_,_,_,_,_,_,_,_,z⟩:=y;exact z)
end K3
namespace PySem.W.Fast
def tw2795447453231228735:=Nat
def tw546925759068391714:=Nat
def tw13743570121404972401:=Nat
def tw1222138809147558431:=Nat
def tw8228672558088152046:=Nat
def tw7881043213716674011:=Nat
def tw3797120097032073505:=Nat
def tw14709997905095942024:=Nat
def tw4268135306666619691:=Nat
def tw6498205701978917518:=Nat
def tw13663107859018791794:=Nat
def tw1589219743223962498:=Nat
def tw2662569441302252023:=Nat
def tw18001999403946217353:=Nat
def tw15813281088744129368:=Nat
def tw14298320007400429991:=Nat
def tw16756247638766931502:=Nat
def tw12516162232075457637:=Nat
def tw9012435045229927746:=Nat
def tw5998169626669775374:=Nat
def tw3739331764234958521:=Nat
def tw2938153361632597353:=Nat
def tw14910275474834842397:=Nat
def tw3496612821551573076:=Nat
def tw16786171490774702766:=Nat
def tw2182040275460849675:=Nat
def tw13604937779599567713:=Nat
def tw5850719913792701612:=Nat
def tw13809457077645932236:=Nat
def tw8595023939541479454:=Nat
def tw13365776773976300764:=Nat
def tw9844934186460667463:=Nat
def tw18210937280767562107:=Nat
def tw3446865552495312255:=Nat
def tw16987097900294698904:=Nat
def tw17073001992775873302:=Nat
def tw3553085986984029273:=Nat
def tw14668260556547035299:=Nat
def tw4888564936503296661:=Nat
def tw15378409468864546333:=Nat
def tw4348522974741534277:=Nat
def tw8751411931800716762:=Nat
def tw1551918516406192297:=Nat
def tw4531032579215846604:=Nat
def tw12513927877674837311:=Nat
def tw1985651051845003543:=Nat
def tw14067243014640236593:=Nat
def tw16476335824805888606:=Nat
def tw3268473778832957994:=Nat
def tw13529037904890295480:=Nat
def tw5821337236117282351:=Nat
def tw10014117928284747970:=Nat
def tw5103696595473884482:=Nat
def tw8450569277332537552:=Nat
def tw17440571822111611340:=Nat
def tw8276252085577934819:=Nat
def tw7226529822883916306:=Nat
def tw14476047212784554245:=Nat
def tw17412845229804320202:=Nat
def tw16604411552170340787:=Nat
def tw13411136964340389913:=Nat
def tw12328007255095302677:=Nat
def tw7325426728889136202:=Nat
def tw13812098375957340496:=Nat
def tw15622340058024801465:=Nat
def tw6716873384034152924:=Nat
def tw3588085516754634020:=Nat
def tw17059114549163862100:=Nat
def tw3295076535926785098:=Nat
def tw9225194013723734592:=Nat
def tw9021702016904406750:=Nat
def tw7823179005266641325:=Nat
def tw11414134734077311113:=Nat
def tw10491571081250267148:=Nat
def tw3024938993154609509:=Nat
def tw4303536591019338943:=Nat
def tw15878181440117915332:=Nat
def tw8942494610160698526:=Nat
def tw17377097246696977197:=Nat
def tw4262062539928215656:=Nat
def tw7457047648030856129:=Nat
def tw9772272478002216782:=Nat
def tw8695344548330150213:=Nat
def tw3276645885428198311:=Nat
def tw2206389918658146719:=Nat
def tw11349932558394115729:=Nat
def tw10587141009558766808:=Nat
def tw17903762272866532030:=Nat
def tw5484344314210458638:=Nat
def tw8492191148950598495:=Nat
def tw16541265775122691976:=Nat
def tw1427932779730708414:=Nat
def tw13878191688576623998:=Nat
def tw6493888808321058217:=Nat
def tw6366717615162523357:=Nat
def tw17153053953308850751:=Nat
def tw16140004364007368782:=Nat
def tw15599154309860480090:=Nat
def tw11806387053140726432:=Nat
def tw6771593288613103367:=Nat
def tw4742143002327511774:=Nat
def tw15081155938741207768:=Nat
def tw14450453299208017270:=Nat
def tw13004616229334773194:=Nat
def tw4044405571538368391:=Nat
def tw18292146448384830922:=Nat
def tw18085712919967238339:=Nat
def tw12432380143280502611:=Nat
def tw2439932361426150959:=Nat
def tw11302315408757763502:=Nat
def tw11237387445457359944:=Nat
def tw16943413821041375593:=Nat
def tw4289487049654737074:=Nat
def tw857546672121171113:=Nat
def tw2150357912911700426:=Nat
def tw10306290752701731512:=Nat
def tw10357959518688621:=Nat
def tw16978003215006533211:=Nat
def tw191984903940109617:=Nat
def tw10702884973843782922:=Nat
def tw10677071844681937216:=Nat
def tw4589328104411217363:=Nat
def tw8408945278603255837:=Nat
def tw10276395738238956655:=Nat
def tw18162428151827633880:=Nat
def tw12276626883243514885:=Nat
def tw10501986044777432699:=Nat
def tw3404378602347074879:=Nat
def tw17498149057853776791:=Nat
def tw7761599724541162276:=Nat
def tw16690133234128278997:=Nat
def tw10526575913912777726:=Nat
def tw1509502625973372993:=Nat
def tw6339955954967187220:=Nat
def tw5960690350986202546:=Nat
def tw17511350981166289194:=Nat
def tw2280123896627214216:=Nat
def tw16456247227385931289:=Nat
def tw14985110168970087208:=Nat
def tw14477686051916280020:=Nat
def tw12289774698427950621:=Nat
def tw9175404203954897578:=Nat
def tw8976223245665977736:=Nat
def tw8597553743528594198:=Nat
def tw5439462586874018715:=Nat
def tw164610596964779464:=Nat
def tw10949173154493209286:=Nat
def tw10179529738677885272:=Nat
def tw11062378368110961118:=Nat
def tw200304503933945750:=Nat
def tw8818659184406891150:=Nat
def tw8192498435579982794:=Nat
def tw3346438703316838176:=Nat
def tw13153063363464631168:=Nat
def tw6002638102288929356:=Nat
def tw3347393491154126562:=Nat
def tw13498921391963555067:=Nat
def tw8104990859234563839:=Nat
def tw3512137716214054903:=Nat
def tw12339544278500272785:=Nat
def tw6405159020315106526:=Nat
def tw7047569579326886894:=Nat
def tw17504266936584618080:=Nat
def tw16378455720370909941:=Nat
def tw8911155924516759144:=Nat
def tw18293555081641326644:=Nat
def tw15740171926501541519:=Nat
def tw14702629913151956355:=Nat
def tw17731349240997577484:=Nat
def tw16067175253672097343:=Nat
def tw6369100912590401932:=Nat
def tw11478906308588935142:=Nat
def tw1111158504010423156:=Nat
def tw5638865383018241645:=Nat
def tw5237962067811862158:=Nat
def tw7345323730954818217:=Nat
def tw1801422665477785434:=Nat
def tw18000471572911082856:=Nat
def tw15148513540650758236:=Nat
def tw8670623348234544342:=Nat
def tw13263501916259487654:=Nat
def tw16691763617836741521:=Nat
def tw8548708323933275757:=Nat
def tw7691423063461869173:=Nat
def tw7331352766590643481:=Nat
def tw13655325940039603694:=Nat
def tw16898007089357181066:=Nat
def tw8197653490084859499:=Nat
def tw14051410191012375384:=Nat
def tw7799250952226008229:=Nat
def tw5823902819879245044:=Nat
def tw5675686004572721041:=Nat
def tw17947192551468283185:=Nat
def tw13637420701636238376:=Nat
def tw12425631593880576199:=Nat
def tw11395785678232876843:=Nat
def tw8698228600849163379:=Nat
def tw4109281699176191707:=Nat
def tw17547138133650556758:=Nat
def tw17466337996815581686:=Nat
def tw1472036456288041293:=Nat
def tw119598774228478323:=Nat
def tw10734579746239896682:=Nat
def tw14961509129729554528:=Nat
def tw14961956755669150553:=Nat
def tw1079036896252826334:=Nat
def tw7348875313411485913:=Nat
def tw14688602105407194114:=Nat
def tw8087658259490740155:=Nat
def tw1853884106322928684:=Nat
def tw13685881521527604140:=Nat
def tw10523865082457744035:=Nat
def tw3508317208173492848:=Nat
def tw3456797062718638280:=Nat
def tw16132874598516453277:=Nat
def tw9061698904505265360:=Nat
def tw774181586235375123:=Nat
def tw7285765652050822895:=Nat
def tw5017893665605981112:=Nat
def tw17234504813452908618:=Nat
def tw4453592094005528667:=Nat
def tw4777501618885231872:=Nat
def tw3013204493701500266:=Nat
def tw2073991265884236132:=Nat
def tw13098658413451806191:=Nat
def tw11276275205245335841:=Nat
def tw8606570143590401735:=Nat
def tw7933539432943325404:=Nat
def tw773505959697987219:=Nat
def tw1894010674462300806:=Nat
def tw135616393932935148:=Nat
def tw13239497917254438742:=Nat
def tw11647336078903398355:=Nat
def tw9718329319604043846:=Nat
def tw8849745207822405075:=Nat
def tw8488554179444091907:=Nat
def tw8469963339493012048:=Nat
def tw7285032962374521363:=Nat
def tw643725111575538815:=Nat
def tw5892895517894486658:=Nat
def tw5237778855254344710:=Nat
def tw5050091241913711297:=Nat
def tw4152469637353320143:=Nat
def tw3992207881804967603:=Nat
def tw3446328991585477716:=Nat
def tw2929365759701902232:=Nat
def tw2226196187683784776:=Nat
def tw2216845328482479884:=Nat
def tw18434582361539228510:=Nat
def tw17155625668591993416:=Nat
def tw15405691085442890992:=Nat
def tw14663343022533575478:=Nat
def tw14053189217442073975:=Nat
def tw14007389135639859306:=Nat
def tw1374827864644205791:=Nat
def tw12966044961129926494:=Nat
def tw12746510104572272433:=Nat
def tw11845803178176425440:=Nat
def tw11775518304191894214:=Nat
def tw11576184842180492820:=Nat
def tw11381626000372734937:=Nat
def tw11361659815775991434:=Nat
def tw10733723297696011006:=Nat
def tw10505120555464310172:=Nat
def tw2186824727708774452:=Nat
def tw17421967607499535821:=Nat
def tw608938890485546974:=Nat
def tw18114545781833272466:=Nat
def tw17964767639744622461:=Nat
def tw17149814216275220150:=Nat
def tw15068074854345060664:=Nat
def tw9808660027767334720:=Nat
def tw7195955217399703805:=Nat
def tw1927355716002382167:=Nat
def tw18412474753800965528:=Nat
def tw14590256558124115158:=Nat
def tw13723838835599371078:=Nat
def tw13383370898560051107:=Nat
def tw5115152776036897022:=Nat
def tw14975173103714458896:=Nat
def tw9810981326849635703:=Nat
def tw4803155460638651696:=Nat
def tw16586779835619126339:=Nat
def tw2709277728651507860:=Nat
def tw5345062000486972195:=Nat
def tw9799357925376022775:=Nat
def tw3541885993347708189:=Nat
def tw2049800817735608108:=Nat
def tw2299453333067752791:=Nat
def tw9631500697345804000:=Nat
def tw8433240709590292682:=Nat
def tw8018986334409727612:=Nat
def tw7416415761909781299:=Nat
def tw7163158506168165398:=Nat
def tw5634408423827813703:=Nat
def tw4199859043608923643:=Nat
def tw1983845142181184659:=Nat
def tw1805003943837443134:=Nat
def tw17527336832389432436:=Nat
def tw16789374814783021863:=Nat
def tw16730121092466635824:=Nat
def tw15893835972002363004:=Nat
def tw14773722029553362580:=Nat
def tw14173119364636697738:=Nat
def tw1341809328098853780:=Nat
def tw12042476569198138521:=Nat
def tw11801630002414303270:=Nat
def tw11800902791193054814:=Nat
def tw11441619565902818416:=Nat
def tw11153176844290545439:=Nat
def tw10814168479741073389:=Nat
def tw10537641269344405037:=Nat
def tw5107726049689796467:=Nat
def tw18437583855488645107:=Nat
def tw15746883772405316856:=Nat
def tw6457250403283345360:=Nat
def tw6341478477816163070:=Nat
def tw5746266343247300916:=Nat
def tw4136659465821889659:=Nat
def tw3848404666920377892:=Nat
def tw3729891049886103957:=Nat
def tw2255843980474303255:=Nat
def tw18371335152321023402:=Nat
def tw13370124536891747107:=Nat
def tw12406771860244072684:=Nat
def tw11138896861320962394:=Nat
def tw11303550185203233831:=Nat
def tw9954251536125442695:=Nat
def tw3846834563780588609:=Nat
def tw2806832053380628981:=Nat
def tw17629639590266574881:=Nat
def tw17113030286132868899:=Nat
def tw1557314462524118731:=Nat
def tw12373675712733233574:=Nat
def tw12087413841701376938:=Nat
def tw13800826156538843573:=Nat
def tw13454200326805339607:=Nat
def tw8700569233900534829:=Nat
def tw12224977006044173788:=Nat
def tw6343747853034609138:=Nat
def tw2082205168925208265:=Nat
def tw599811480523188303:=Nat
def tw520557467263296099:=Nat
def tw4918887018413331163:=Nat
def tw3392202394717861437:=Nat
def tw2732999201412886212:=Nat
def tw17369194085278656192:=Nat
def tw1394442467797175628:=Nat
def tw13517629735478299638:=Nat
def tw12426277894452256352:=Nat
def tw17821456457082459406:=Nat
def tw14283540815206695986:=Nat
def tw1044497061446768874:=Nat
def tw9688137430262201792:=Nat
def tw8796889204985266146:=Nat
def tw8621156175093431875:=Nat
def tw6042483184533677790:=Nat
def tw5395075152757392002:=Nat
def tw443407578296541541:=Nat
def tw1553932610553359677:=Nat
def tw14806999173015066469:=Nat
def tw12720784516751637825:=Nat
def tw11765429717906583540:=Nat
def tw10246464846405332435:=Nat
def tw9850230260132011796:=Nat
def tw9458068145106829965:=Nat
def tw9285870874052287848:=Nat
def tw9028530113099280689:=Nat
def tw8826176834339137059:=Nat
def tw827024929889345807:=Nat
def tw7940869850384470091:=Nat
def tw7568608946830811514:=Nat
def tw6415026797376016460:=Nat
def tw6380947371238013391:=Nat
def tw626428920604149956:=Nat
def tw612768728502231343:=Nat
def tw602445792388535774:=Nat
def tw5933218549971961889:=Nat
def tw5206188561907540520:=Nat
def tw4230741532340147575:=Nat
def tw3996111599166314401:=Nat
def tw3715760996892941326:=Nat
def tw3591536918529366211:=Nat
def tw3491555351022791853:=Nat
def tw3221245071055040468:=Nat
def tw3189036127067633682:=Nat
def tw3088684112564087495:=Nat
def tw2235526856750184048:=Nat
def tw2185807747278858552:=Nat
def tw2114418431941299047:=Nat
def tw18327828009466272421:=Nat
def tw17369231052226150326:=Nat
def tw1614386106461883891:=Nat
def tw16085665639448974945:=Nat
def tw15816241845413750332:=Nat
def tw15541778717015038937:=Nat
def tw14973649116935248728:=Nat
def tw14959914256580349005:=Nat
def tw14349160505136601249:=Nat
def tw14319536223933413915:=Nat
def tw1387531447318911584:=Nat
def tw13757628253060401538:=Nat
def tw13459434989110111107:=Nat
def tw13329898922555534553:=Nat
def tw12962723302055686584:=Nat
def tw12858411894082379232:=Nat
def tw12140325141002062682:=Nat
def tw11392813613539530643:=Nat
def tw11375269197250892908:=Nat
def tw11101829715788454014:=Nat
def tw10937772395732964665:=Nat
def tw9942745601142647033:=Nat
def tw98550479418744327:=Nat
def tw9838844107405406115:=Nat
def tw9659025453118807678:=Nat
def tw965166129576062305:=Nat
def tw958308849208846948:=Nat
def tw9533791651716962390:=Nat
def tw9510201247797455759:=Nat
def tw9466539074764053157:=Nat
def tw9412854581946460683:=Nat
def tw9370793360444658305:=Nat
def tw9310192542466226977:=Nat
def tw9135449375031766303:=Nat
def tw9061483694227080347:=Nat
def tw878027888738273361:=Nat
def tw8704251471141243665:=Nat
def tw868463830936484203:=Nat
def tw8662445847253090195:=Nat
def tw8604538846865332799:=Nat
def tw8594699558711337077:=Nat
def tw8381365324699262649:=Nat
def tw8379177045246649762:=Nat
def tw8342455561475652181:=Nat
def tw8257240974271849890:=Nat
def tw8166592992836031546:=Nat
def tw8104680305050515297:=Nat
def tw7888397433601863874:=Nat
def tw7856170681631853555:=Nat
def tw7793465143015700070:=Nat
def tw7616159909491712344:=Nat
def tw7606244721701968484:=Nat
def tw7502775450445737485:=Nat
def tw7485083762253077098:=Nat
def tw7342080578169315970:=Nat
def tw7226438262344466300:=Nat
def tw7225392336232065712:=Nat
def tw7192231913511802129:=Nat
def tw7114000999602164079:=Nat
def tw7075520269753253222:=Nat
def tw7022336506803791461:=Nat
def tw6953314309236328044:=Nat
def tw6888067762933419512:=Nat
def tw687894463077963001:=Nat
def tw6774874881142667673:=Nat
def tw6662105059639821686:=Nat
def tw6586913662445719063:=Nat
def tw6584666582748801868:=Nat
def tw6576646977620371349:=Nat
def tw6569702063978944531:=Nat
def tw6500943002402820211:=Nat
def tw6388160220630320326:=Nat
def tw6372523005462604845:=Nat
def tw631396562584072529:=Nat
def tw6291352351837244406:=Nat
def tw6239130016650036219:=Nat
def tw614719834946997501:=Nat
def tw6093349388415438592:=Nat
def tw6084551984876734892:=Nat
def tw5987276077723330445:=Nat
def tw5960888056641012862:=Nat
def tw595990534992328706:=Nat
def tw5880724242184448582:=Nat
def tw5864363334162170497:=Nat
def tw5768552410840768660:=Nat
def tw5764054831877870459:=Nat
def tw5698721861476516265:=Nat
def tw5623590601624708592:=Nat
def tw5499104373824744955:=Nat
def tw5466578313389150561:=Nat
def tw5440148482503530462:=Nat
def tw5233077552898779208:=Nat
def tw5173141755171304215:=Nat
def tw5095742630971175536:=Nat
def tw4859728821338706027:=Nat
def tw4813128070450963539:=Nat
def tw4797713984176572073:=Nat
def tw4723172283497137543:=Nat
def tw4717883832329114662:=Nat
def tw4705733868181233025:=Nat
def tw4700064268930882927:=Nat
def tw4541785322825289026:=Nat
def tw4382637639044748554:=Nat
def tw4369928049944162925:=Nat
def tw4354411908365224516:=Nat
def tw4205698294648499459:=Nat
def tw4029408532507967471:=Nat
def tw3930256845016380613:=Nat
def tw3825394506927533599:=Nat
def tw3546417929338192688:=Nat
def tw3449646948508119556:=Nat
def tw3333396291870483043:=Nat
def tw2992895845076508143:=Nat
def tw2888334213717480053:=Nat
def tw2834724651571882290:=Nat
def tw2766791922226576012:=Nat
def tw271527501660978103:=Nat
def tw2675326096701036506:=Nat
def tw2547819785341883228:=Nat
def tw2235176216609293517:=Nat
def tw2201617745445115295:=Nat
def tw2196480211558991770:=Nat
def tw2125250359307690373:=Nat
def tw1974775357701469055:=Nat
def tw1974596514114836134:=Nat
def tw1970391302719643586:=Nat
def tw18353491893758238882:=Nat
def tw18214350879497865760:=Nat
def tw18162290466201512288:=Nat
def tw18109387060078284502:=Nat
def tw18085074345612772622:=Nat
def tw18022543958152397796:=Nat
def tw17975587602904068254:=Nat
def tw17912224292556582128:=Nat
def tw17855751526110591287:=Nat
def tw178028619877333555:=Nat
def tw17751508988261020212:=Nat
def tw17675781334285486857:=Nat
def tw17548043385233548843:=Nat
def tw1744584713835796102:=Nat
def tw17218016379252244539:=Nat
def tw17145941606499380518:=Nat
def tw16857482636574328609:=Nat
def tw16823938094719720671:=Nat
def tw1681257968374870741:=Nat
def tw16783363602389083879:=Nat
def tw16783095414462249861:=Nat
def tw16767322717125390856:=Nat
def tw16683369708299818352:=Nat
def tw16660657500293299452:=Nat
def tw16625471099398860246:=Nat
def tw16612071276927705840:=Nat
def tw16598018403784100239:=Nat
def tw16456826378075160494:=Nat
def tw16378254987829800246:=Nat
def tw16298910826664643857:=Nat
def tw16098557039684423965:=Nat
def tw1595431931799684987:=Nat
def tw15777482996859493306:=Nat
def tw15522995244750591360:=Nat
def tw15379692900348058:=Nat
def tw15295711252177151302:=Nat
def tw15258392197801141406:=Nat
def tw15199051957840534661:=Nat
def tw15113745633218104263:=Nat
def tw15075869287176706809:=Nat
def tw1475660532695406053:=Nat
def tw14645004025483501449:=Nat
def tw14499328766799550078:=Nat
def tw14426791963392563539:=Nat
def tw14408241903019791520:=Nat
def tw143740864576011219:=Nat
def tw14343546547482473958:=Nat
def tw1425314054976575993:=Nat
def tw14196683735741767953:=Nat
def tw14194740279151173620:=Nat
def tw14098799594825859889:=Nat
def tw14089160288747643289:=Nat
def tw13936943087530677735:=Nat
def tw13839552644878290115:=Nat
def tw13738277342112704608:=Nat
def tw13692231211235660165:=Nat
def tw13691012047498407939:=Nat
def tw13623245015592806949:=Nat
def tw13568230167836510229:=Nat
def tw13544205084320261413:=Nat
def tw13461183398282823140:=Nat
def tw13458210210245240484:=Nat
def tw13365160318998961790:=Nat
def tw13270932371805007236:=Nat
def tw13169809581562425392:=Nat
def tw13164880840165585963:=Nat
def tw1309455670430756993:=Nat
def tw12881722243029510665:=Nat
def tw12852264655292378862:=Nat
def tw12841822659686355007:=Nat
def tw12692360093897223571:=Nat
def tw12621490094278839394:=Nat
def tw12565479146523598703:=Nat
def tw12564614967518381521:=Nat
def tw12239195337966977946:=Nat
def tw11916938184481395632:=Nat
def tw11896472992012357206:=Nat
def tw11857222638942524720:=Nat
def tw11737751815303607112:=Nat
def tw11711495283911765935:=Nat
def tw11612947884370117739:=Nat
def tw11505220382307895912:=Nat
def tw11493325998549953892:=Nat
def tw11352926974544183495:=Nat
def tw11315068874851288403:=Nat
def tw1128191202242119614:=Nat
def tw109705751505598153:=Nat
def tw10917033851158752119:=Nat
def tw10913957963282286501:=Nat
def tw10901326250076198435:=Nat
def tw10882409844142412597:=Nat
def tw10880466201370616928:=Nat
def tw10853987705593966301:=Nat
def tw10682367366775338733:=Nat
def tw10564518984857348334:=Nat
def tw10495912740878787963:=Nat
def tw10428931702445794464:=Nat
def tw10425025577376712580:=Nat
def tw10419048258225296599:=Nat
def tw10345693763921649153:=Nat
def tw10122337546606672761:=Nat
def tw10107179849576463949:=Nat
def tw10081036940405024039:=Nat
def tw10038898340364415091:=Nat
def tw10024644630055831615:=Nat
def tw10063524949807449168:=Nat
def tw10513296098389797216:=Nat
def tw1055777361293105184:=Nat
def tw10688154402789493174:=Nat
def tw10762390051050251905:=Nat
def tw10917845757965804994:=Nat
def tw11507339983003384138:=Nat
def tw11521957164255616114:=Nat
def tw11779739445366991209:=Nat
def tw11883025045306536465:=Nat
def tw12050097455952604687:=Nat
def tw12382155343295044378:=Nat
def tw12412914670853149071:=Nat
def tw12446462772380323973:=Nat
def tw1251763204036345255:=Nat
def tw12688296781139902514:=Nat
def tw12769953317399445209:=Nat
def tw12926073818438202392:=Nat
def tw1293444497393033716:=Nat
def tw12977844847555582214:=Nat
def tw13251585731438136662:=Nat
def tw13269616496881058832:=Nat
def tw1330060149647798723:=Nat
def tw13594321952772698419:=Nat
def tw13825881290141972588:=Nat
def tw142092751988427208:=Nat
def tw14245071978251770573:=Nat
def tw14297786763993258773:=Nat
def tw14378471443677292070:=Nat
def tw14427340722623823880:=Nat
def tw1446695883287144631:=Nat
def tw15311311787846885491:=Nat
def tw15356327207791325592:=Nat
def tw1542080466227576869:=Nat
def tw15678512620056511078:=Nat
def tw1583345285767983889:=Nat
def tw15963327979499486773:=Nat
def tw16054979170314507126:=Nat
def tw16298875196386502675:=Nat
def tw16460190326633114648:=Nat
def tw16479362676745033383:=Nat
def tw16659440210492726110:=Nat
def tw16747314384586930425:=Nat
def tw17113007087267078169:=Nat
def tw17163215883289735425:=Nat
def tw17186315669910257921:=Nat
def tw17210737141115463356:=Nat
def tw17310051329992307549:=Nat
def tw17329336791605599733:=Nat
def tw17341702052238669411:=Nat
def tw17422982467641478370:=Nat
def tw17553817491159886628:=Nat
def tw17568822340416673927:=Nat
def tw17594745560222824754:=Nat
def tw17695656855776191842:=Nat
def tw18100219584254916252:=Nat
def tw18310886666147277921:=Nat
def tw18401128933382064815:=Nat
def tw18408740961623228156:=Nat
def tw1857118177777856729:=Nat
def tw1959396244411875020:=Nat
def tw2050399692491932350:=Nat
def tw2529169145112793711:=Nat
def tw2541225478477603839:=Nat
def tw2569674033359173619:=Nat
def tw2691836213969307734:=Nat
def tw2752174995980057595:=Nat
def tw2780625801542902609:=Nat
def tw2806620319491140828:=Nat
def tw2809504269695373262:=Nat
def tw3367614898321724337:=Nat
def tw3415398545542710280:=Nat
def tw3420031407087341119:=Nat
def tw3432318451308209174:=Nat
def tw344411986123531687:=Nat
def tw3484653196837362640:=Nat
def tw3498504636724683952:=Nat
def tw3500112281892218871:=Nat
def tw3504303085299126819:=Nat
def tw3563470705670639868:=Nat
def tw3593449727893361377:=Nat
def tw3610457012636702776:=Nat
def tw3702109789605209078:=Nat
def tw3843455196468164147:=Nat
def tw3868867556148294238:=Nat
def tw3907223659778252557:=Nat
def tw3995885481441091584:=Nat
def tw4152993764545697649:=Nat
def tw4163845124371138430:=Nat
def tw4254563714101773906:=Nat
def tw4275640466563667301:=Nat
def tw4289145651701702077:=Nat
def tw4304520059536085935:=Nat
def tw4352700485968292333:=Nat
def tw4372718863810411335:=Nat
def tw4474316072654773433:=Nat
def tw4523313161027808562:=Nat
def tw469802346275918317:=Nat
def tw47993848472499717:=Nat
def tw480585358964519373:=Nat
def tw4832093618083024158:=Nat
def tw4910369637927609539:=Nat
def tw4961110143145426778:=Nat
def tw496633338161194283:=Nat
def tw5181449512128506829:=Nat
def tw5276333440833647023:=Nat
def tw5508818299635234184:=Nat
def tw5559609231963806978:=Nat
def tw5645454493580657117:=Nat
def tw5788695135912404340:=Nat
def tw5836717756579944208:=Nat
def tw6148402931462451891:=Nat
def tw6158258373213991799:=Nat
def tw6253989508391625349:=Nat
def tw6488932359893986803:=Nat
def tw6568385900647482974:=Nat
def tw6597978278510199185:=Nat
def tw6860944254030292111:=Nat
def tw6948170653400292641:=Nat
def tw7127135295891117948:=Nat
def tw7227498960659385438:=Nat
def tw7339456668154654971:=Nat
def tw7343197529383734731:=Nat
def tw7390406882078379842:=Nat
def tw7391921332672081138:=Nat
def tw7593302148197452458:=Nat
def tw77307411965795786:=Nat
def tw7788488088763680370:=Nat
def tw7972247075132343813:=Nat
def tw820082290623460139:=Nat
def tw8314099038273866341:=Nat
def tw8412166685933041461:=Nat
def tw8427865599536648850:=Nat
def tw8484134628770790039:=Nat
def tw8608045487290013598:=Nat
def tw8834433260702794499:=Nat
def tw883876330837665802:=Nat
def tw9044924046031083231:=Nat
def tw9070535084179827467:=Nat
def tw9127904619585579646:=Nat
def tw927765683363757497:=Nat
def tw9286731678138421679:=Nat
def tw9359262066913151818:=Nat
def tw9537150859501796386:=Nat
def tw9691253516866865009:=Nat
def tw9755227626606704485:=Nat
def tw9777436170607368363:=Nat
def tw983891616501437176:=Nat
def tw995446643422328846:=Nat
end PySem.W.Fast
open PySem PySem.W PyProof.Rows
set_option maxRecDepth 100000 in
set_option maxHeartbeats 0 in
theorem PySem.Challenge.cw_duehall_k40_whole_again_and_kept_holds : PySem.Challenge.rw_duehall_k40_whole_again_and_kept.Holds := by
  w_on;o_law;k_head;(case hw => w_witness2)
  k_fill
  refine K3.law_walk (l := PySem.Challenge.rw_duehall_k40_whole_again_and_kept) rfl rfl (fun w h Y => PySem.W.kIn_of Y) ?F
  case F =>
    intro w mg fa h KX G hmg
    refine' K3.all_mk KX G hmg ?v26_ ?w1q ?w2q ?v21_ ?w3q ?a_Hallq ?a_lawq ?l_lawq ?c_lawq ?k_lawq ?v2_ ?v13_ ?v3_ ?v11_ ?v0_ ?v17_ ?v5_ ?v1_ ?v4_ ?v16_ ?v20_ ?v37_ ?v36_ ?v32_ ?v28_ ?w_LENGTHSq ?v9_ ?v19_ ?v33_ ?w_WORDSq ?z18_ ?z17_ ?z12_ ?z5_ ?z1_ ?z21_ ?z0_ ?z16_ ?z11_ ?z19_ ?z8_ ?z4_ ?z20_ ?z6_ ?pg_q ?hd_q ?po_q ?sa_q ?mks_q ?kpC_q ?n_begunq ?n_deedsq ?n_holderq ?n_holdsq ?n_lastq ?n_rowsq ?n_settledq ?n_untilq ?n_wordsq ?n_zoneq ?a_Dueq ?v29_ ?v30_ ?a_Hall ?l0 ?l1 ?l2 ?l3 ?l4 ?l5 ?l6 ?l7 ?l8 ?l9 ?l10 ?l11 ?l12 ?l13 ?l14 ?l15 ?l16 ?l17 ?l18 ?l19 ?l20 ?l21 ?l22 ?l23 ?l24 ?l25 ?l26 ?l27 ?l28 ?l29 ?l30 ?l31 ?l32 ?l33 ?l34 ?l35 ?l36 ?l37 ?l38 ?l39 ?l40 ?l41 ?l42 ?l43 ?l44 ?l45 ?l46 ?l47 ?l48 ?l49 ?l50 ?l51 ?l52 ?l53 ?l54 ?l55 ?l56 ?l57 ?l58 ?l59 ?l60 ?l61 ?l62 ?l63 ?l64 ?l65 ?a66 ?l66 ?c66 ?k66 ?v12_ ?v23_ ?v6_ ?v14_ ?v8_ ?v27_ ?v18_ ?v7_ ?v10_ ?v22_ ?v24_ ?v38_ ?v39_ ?v34_ ?v31_ ?w_LENGTHS ?v15_ ?v25_ ?v35_ ?w_WORDS ?z27_ ?z25_ ?z15_ ?z9_ ?z3_ ?z23_ ?z2_ ?z22_ ?z14_ ?z24_ ?z10_ ?z7_ ?z26_ ?z13_ ?pg_ ?hd_ ?po_ ?sa_ ?mks_ ?kpC_ ?n_begun ?n_deeds ?n_holder ?n_holds ?n_last ?n_rows ?n_settled ?n_until ?n_words ?n_zone ?a_Due ?y_LENGTHS ?x_Due ?x_tab
    (case v26_|w1q|w2q|v21_|w3q|a_Hallq|a_lawq|l_lawq|c_lawq|k_lawq|v2_|v13_|v3_|v11_|v0_|v17_|v5_|v1_|v4_|v16_|v20_|v37_|v36_|v32_|v28_|w_LENGTHSq|v9_|v19_|v33_|w_WORDSq|z18_|z17_|z12_|z5_|z1_|z21_|z0_|z16_|z11_|z19_|z8_|z4_|z20_|z6_|pg_q|hd_q|po_q|sa_q|mks_q|kpC_q|n_begunq|n_deedsq|n_holderq|n_holdsq|n_lastq|n_rowsq|n_settledq|n_untilq|n_wordsq|n_zoneq|a_Dueq => (first |unfold K3.LK |unfold K3.NI |unfold K3.NV |unfold K3.NZ |unfold K3.KI |skip);k_is)
    (case v29_|v30_|a_Hall|a66|l66|c66|k66|v12_|v23_|v6_|v14_|v8_|v27_|v18_|v7_|v10_|v22_|v24_|v38_|v39_|v34_|v31_|w_LENGTHS|v15_|v25_|v35_|w_WORDS|z27_|z25_|z15_|z9_|z3_|z23_|z2_|z22_|z14_|z24_|z10_|z7_|z26_|z13_|pg_|hd_|po_|sa_|mks_|kpC_|n_begun|n_deeds|n_holder|n_holds|n_last|n_rows|n_settled|n_until|n_words|n_zone|a_Due|y_LENGTHS|x_Due|x_tab => first |kernel_rfl |rfl)
    (case l0|l1|l2|l3|l4|l5|l6|l7|l8|l9|l10|l11|l12|l13|l14|l15|l16|l17|l18|l19|l20|l21|l22|l23|l24|l25|l26|l41|l42|l43|l44|l45|l46|l47|l48|l49|l50|l51|l52|l53|l54|l55|l56|l57|l58|l59|l60|l61|l62|l63|l64|l65 => exact⟨_,_,_,_,_,_,_,_,_,_,by k_is,by k_is,by kernel_rfl,by kernel_rfl,by kernel_rfl,by kernel_rfl⟩)
    (case l27|l28|l29|l30|l31|l32|l33|l34|l35|l36|l37|l38|l39|l40 => exact⟨_,_,_,_,_,_,_,_,_,_,by k_is,by k_is,by kernel_rfl,by kernel_rfl,by kernel_rfl,by kernel_rfl,by kernel_rfl⟩)
