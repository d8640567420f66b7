import PyProof.Rows.All
import Wide.All
import OpenK.AllK
import Wide.FinOn
import Lean
import PyProof.EqAt
import PyProof.EqKinds
import PyProof.TupleCall
import PySem.Challenge.RW_duehall_k31_whole_logs_told
abbrev q0a:=@List.getElem?_eq_some_iff
abbrev q0b:=@List.length_map
abbrev q0c:=@List.getElem?_eq_getElem
abbrev q0d:=@List.map_cons
abbrev q0e:=@List.mem_cons
abbrev q0f:=@List.mem_append
abbrev q0g:=@Option.map_eq_some_iff
abbrev q0h:=@List.mem_cons_self
abbrev q0i:=@List.length_cons
abbrev q0j:=@List.nodup_append
abbrev q0k:=@List.getElem?_map
abbrev q0l:=@Nat.lt_of_lt_of_le
abbrev q0m:=@List.size_toArray
abbrev q0n:=@List.flatten_cons
abbrev q0o:=@List.mem_singleton
abbrev q0p:=@List.not_mem_nil
abbrev q0q:=@Nat.ne_of_lt
abbrev q0r:=@Option.some.inj
abbrev q0s:=@Array.length_toList
abbrev q0t:=@List.lookup_cons
abbrev q0u:=@List.length_append
abbrev q0v:=@List.getElem?_set_ne
abbrev q0w:=@List.getElem?_set_self
abbrev q0x:=@List.append_assoc
abbrev q0y:=@List.nil_append
abbrev q0z:=@List.map_map
abbrev q0A:=@List.mem_of_getElem?
abbrev q0B:=@Array.getElem?_toList
abbrev q0C:=@List.length_set
abbrev q0D:=@List.mem_map
abbrev q0E:=@Nat.lt_irrefl
abbrev q0F:=@Bool.false_ne_true
abbrev q0G:=@List.append_nil
abbrev q0H:=@List.set_cons_zero
abbrev q0I:=@Bool.and_eq_true
abbrev q0J:=@Bool.false_eq_true
abbrev q0K:=@Option.bind_eq_some_iff
abbrev q0L:=@Nat.zero_le
abbrev q0M:=@List.getElem?_append_right
abbrev q0N:=@Nat.le_trans
abbrev q0O:=@List.all_eq_true
abbrev q0P:=@List.map_congr_left
abbrev q0Q:=@Array.getD_eq_getD_getElem?
abbrev q0R:=@Nat.lt_or_eq_of_le
abbrev q0S:=@List.getElem?_append_left
abbrev q0T:=@Array.getElem?_eq_getElem
abbrev q0U:=@List.pairwise_map
abbrev q0V:=@List.nodup_cons
abbrev q0W:=@Option.isSome_iff_exists
abbrev q0X:=@PySem.mem_of_lookup
abbrev q0Y:=@List.getElem?_eq_none
abbrev q0Z:=@Int.toNat_natCast
abbrev q00:=@List.ext_getElem?
abbrev q01:=@List.getD_eq_getElem?_getD
abbrev q02:=@Nat.ne_of_gt
abbrev q03:=@List.set_cons_succ
abbrev q04:=@List.length_nil
abbrev q05:=@List.drop_eq_getElem_cons
abbrev q06:=@Nat.lt_succ_self
abbrev q07:=@List.filterMap_cons
abbrev q08:=@Option.some.injEq
abbrev q09:=@Nat.le_of_lt_succ
abbrev q1a:=@List.mem_iff_getElem?
abbrev q1b:=@List.filterMap_cons_some
abbrev q1c:=@List.length_filter_le
abbrev q1d:=@List.mem_range
abbrev q1e:=@Nat.le_of_not_lt
abbrev q1f:=@Nat.le_add_right
abbrev q1g:=@List.filter_cons
abbrev q1h:=@List.length_replicate
abbrev q1i:=@Nat.succ_pos
abbrev q1j:=@List.getElem?_toArray
abbrev q1k:=@List.map_append
abbrev q1l:=@List.Pairwise.imp_of_mem
abbrev q1m:=@List.filterMap_cons_none
abbrev q1n:=@Array.getElem?_eq_some_iff
abbrev q1o:=@Int.le_refl
abbrev q1p:=@List.pairwise_mergeSort
abbrev q1q:=@List.nodup_nil
abbrev q1r:=@PySem.boot_len
abbrev q1s:=@Nat.lt_succ_of_lt
abbrev q1t:=@Nat.le_of_succ_le
abbrev q1u:=@Nat.le_succ
abbrev q1v:=@List.mergeSort_perm
abbrev q1w:=@List.length_take
abbrev q1x:=@List.getElem_mem
abbrev q1y:=@Nat.le_of_lt
abbrev q1z:=@List.getElem?_of_mem
abbrev q1A:=@Option.map_some
abbrev q1B:=@List.map_nil
abbrev q1C:=@List.getElem?_replicate
abbrev q1D:=@List.replicate_succ
abbrev q1E:=@PySem.F.plainAttrs_list
abbrev q1F:=@PySem.F.slot_list_count
abbrev q1G:=@PySem.F.type_list_count
abbrev q1H:=@Nat.not_lt
abbrev q1I:=@List.zip_cons_cons
abbrev q1J:=@List.mem_filterMap
abbrev q1K:=@List.sublist_flatten_of_mem
abbrev q1L:=@List.length_range
abbrev q1M:=@List.length_drop
abbrev q1N:=@List.drop_length
abbrev q1O:=@List.cons_append
abbrev q1P:=@List.mem_filter
abbrev q1Q:=@Nat.add_lt_add_left
abbrev q1R:=@PySem.F.args_tuple_add_2
abbrev q1S:=@List.Perm.eq_of_pairwise
abbrev q1T:=@Nat.mod_lt
abbrev q1U:=@PySem.F.entry_tuple_add
abbrev q1V:=@Nat.not_lt_zero
abbrev q1W:=@List.map_const'
abbrev q1X:=@List.getElem?_cons_zero
abbrev q1Y:=@List.foldl_cons
abbrev q1Z:=@List.length_pos_iff
abbrev q10:=@PySem.F.slot_tuple_add
abbrev q12:=@List.Sublist.refl
abbrev q14:=@PySem.F.slot_dict_get
abbrev q15:=@Nat.succ.inj
abbrev q16:=@List.take_append_drop
abbrev q17:=@Array.toList_map
abbrev q18:=@List.countP_cons
abbrev q19:=@List.getElem?_zip_eq_some
abbrev q2a:=@PySem.W.hideAll_none
abbrev q2b:=@List.getElem?_eq_none_iff
abbrev q2c:=@Array.getElem?_setIfInBounds
abbrev q2d:=@PySem.W.hideAll_get
abbrev q2e:=@PySem.W.plainGet_of
abbrev q2f:=@List.of_mem_zip
abbrev q2g:=@List.mem_flatten
abbrev q2h:=@List.Sublist.append
abbrev q2i:=@List.flatten_append
abbrev q2j:=@Nat.lt_succ_iff_lt_or_eq
abbrev q2k:=@Bool.eq_iff_iff
abbrev q2l:=@Bool.or_eq_true
abbrev q2m:=@PySem.F.excBase_ValueError
abbrev q2n:=@List.length_eq_zero_iff
abbrev q2o:=@List.length_eraseIdx_of_lt
abbrev q2p:=@List.perm_append_singleton
abbrev q2q:=@Nat.lt_of_le_of_lt
abbrev q2r:=@Nat.zero_add
abbrev q2s:=@PySem.W.callWith_K
abbrev q2t:=@List.map_singleton
abbrev q2u:=@List.filter_append
abbrev q2v:=@List.sublist_append_right
abbrev q2w:=@Array.size_map
abbrev q2x:=@PySem.F.plain_extend_loop
abbrev q2y:=@List.length_eq_one_iff
abbrev q2z:=@List.getElem?_take_of_lt
abbrev q2A:=@PySem.F.slot_list_append
abbrev q2B:=@PySem.F.type_list_append
abbrev q2C:=@List.foldl_append
abbrev q2D:=@Array.mem_toList_iff
abbrev q2E:=@PySem.F.args_dict_get_3
abbrev q2F:=@Bool.and_self
abbrev q2G:=@PySem.F.plain_list_iadd
abbrev q2H:=@List.cons.inj
abbrev q2I:=@List.getElem?_cons_succ
abbrev q2J:=@Option.getD_none
abbrev q2K:=@List.take_length
abbrev q2L:=@List.range'_succ
abbrev q2M:=@Option.bind_some
abbrev q2N:=@PySem.W.cellsFrom_some
abbrev q2O:=@PySem.F.entry_dict_get
abbrev q2P:=@Array.getElem?_eq_none
abbrev q2Q:=@List.drop_of_length_le
abbrev q2R:=@List.length_singleton
abbrev q2S:=@List.forIn_cons
abbrev q2T:=@PySem.W.methodCall_KW
abbrev q2U:=@List.cons.injEq
abbrev q2V:=@PySem.F.plain_set_new
abbrev q2W:=@PySem.F.slot_set_iter
abbrev q2X:=@List.countP_le_length
abbrev q2Y:=@List.drop_drop
abbrev q2Z:=@Bool.and_false
abbrev q20:=@List.any_cons
abbrev q21:=@List.all_cons
abbrev q22:=@List.map_take
abbrev q23:=@Nat.le_of_eq
abbrev q24:=@Nat.succ_add
abbrev q25:=@Int.le_trans
noncomputable section
set_option Elab.async false
set_option linter.all false
set_option maxRecDepth 100000
set_option compiler.extract_closed false
set_option genSizeOf false
set_option genInjectivity false
local macro_rules | `(tactic|lia)=>`(tactic|first|lia(splits:=9)|omega)
theorem aa:type_of% @PySem.wpAny_bind:=@PySem.wpAny_bind
theorem ao:type_of% @PySem.wpAny_pure:=@PySem.wpAny_pure
theorem aK:type_of% @PySem.Heap.get?_push_of_some:=@PySem.Heap.get?_push_of_some
theorem bo:type_of% @PySem.Heap.lt_size:=@PySem.Heap.lt_size
theorem aP:type_of% @Nat.le_refl:=@Nat.le_refl
theorem bq:type_of% @List.mem_append_right:=@List.mem_append_right
theorem bv:type_of% @List.mem_append_left:=@List.mem_append_left
theorem bH:type_of% @List.mem_cons_of_mem:=@List.mem_cons_of_mem
open PySem.W (instObj Frag plainGet findIn emptyDict keepIn kitOne kia_one fnOf codeIn nsIn excIn mg_of mg_none_of)
theorem Zq(_:0=0:=by rfl):0=0:=rfl
theorem Zr(_:0=0:=by decide):0=0:=rfl
theorem Zs(_:Nat->0=0:=by intro _;rfl):0=0:=rfl
section
local macro_rules | `(!$x)=>`(some $x)
local macro_rules | `(#[$x,$y])=>`(⟨$x,$y⟩) |`(#[$x,$y,$z,*])=>`(⟨$x,$y,$z,*⟩)
local macro_rules | `('b')=>`(by lia)
local macro_rules | `('c')=>`(by simp)
local macro_rules | `('d')=>`(by decide)
local macro_rules | `('f')=>`(by decide +kernel)
local macro_rules | `('g')=>`(by kernel_rfl)
local macro_rules | `('h')=>`(by intro _ _;rfl)
namespace L2
open PySem PySem.Spec PyProof.Rows
abbrev aQ:=Sum Int Str
noncomputable def lO:aQ->Value->Bool
 |.inl k,v=>Value.isInt k v
 |.inr x,v=>Value.isStrOf x v
noncomputable def Jv(w:World):aQ->Int
 |.inl k=>hashInt k
 |.inr x=>hashStr w x
theorem ju:∀{k v},lO k v=true->(∃i t,k=Sum.inl i/\v=Value.int i t)\/(∃x t,k=Sum.inr x/\v=Value.str x t)
 |.inl i,v,h=>by obtain⟨t,e⟩:=Value.isInt_shape h;exact .inl #[i,t,rfl,e]
 |.inr x,v,h=>by obtain⟨t,e⟩:=Value.isStrOf_shape h;exact .inr #[x,t,rfl,e]
theorem Jw(i t):lO (.inl i) (.int i t)=true:=by simp[lO,Value.isInt]
theorem Jx(x t):lO (.inr x) (.str x t)=true:=by simp[lO,Value.isStrOf]
theorem Jy(a b):decide ((Sum.inl a:aQ)=Sum.inl b)=(a==b):=by
 by_cases e:a=b
 .subst e;simp
 .rw[decide_eq_false (λq=>e (Sum.inl.inj q))];exact(beq_eq_false_iff_ne.mpr e).symm
theorem Jz(a b):decide ((Sum.inr a:aQ)=Sum.inr b)=decide (a=b):=by
 by_cases e:a=b
 .simp
 .rw[decide_eq_false (λq=>e (Sum.inr.inj q)),decide_eq_false e]
theorem JA(a b):decide ((Sum.inl a:aQ)=Sum.inr b)=false:=decide_eq_false (λq=>nomatch q)
theorem JB(a b):decide ((Sum.inr a:aQ)=Sum.inl b)=false:=decide_eq_false (λq=>nomatch q)
def ff(prog:Program)(w:World):PySem.KeyKind prog w aQ where
 is:=lO
 hash:=Jv w
 inj:=λv a b ha hb=>by
  rcases ju ha with⟨i,t,rfl,rfl⟩ |⟨x,t,rfl,rfl⟩
  .rcases ju hb with⟨j,u,rfl,e⟩ |⟨y,u,rfl,e⟩
   .injection e with e1 _;rw[e1]
   .exact nomatch e
  .rcases ju hb with⟨j,u,rfl,e⟩ |⟨y,u,rfl,e⟩
   .exact nomatch e
   .injection e with e1 _;rw[e1]
 byValue:=λk v h=>by rcases ju h with⟨i,t,rfl,rfl⟩ |⟨x,t,rfl,rfl⟩<;>rfl
 pyHash:=λhv h=>by
  rcases ju hv with⟨i,t,rfl,rfl⟩ |⟨x,t,rfl,rfl⟩
  .exact wpAny_pyHash_int h
  .exact wpAny_pyHash_str h
 eqBool:=λhu hv h=>by
  rcases ju hu with⟨i,t,rfl,rfl⟩ |⟨x,t,rfl,rfl⟩
  .rcases ju hv with⟨j,u,rfl,rfl⟩ |⟨y,u,rfl,rfl⟩
   .rw[Jy]at h;exact wpAny_eqBool_int h
   .rw[JA]at h;exact SeqAt.EqAt.int_str i t y u _ _ _ _ h
  .rcases ju hv with⟨j,u,rfl,rfl⟩ |⟨y,u,rfl,rfl⟩
   .rw[JB]at h;exact SeqAt.EqAt.str_int x t j u _ _ _ _ h
   .rw[Jz]at h;exact wpAny_eqBool_str h
 «strs»:=λk x t v h=>by
  rcases ju h with⟨i,u,rfl,e⟩ |⟨y,u,rfl,e⟩
  .exact nomatch e
  .injection e with e1 _
   subst e1;cases v<;>rfl
theorem JC(a w i t):(ff a w).is (.inl i) (.int i t)=true:=Jw i t
theorem JD(a w x t):(ff a w).is (.inr x) (.str x t)=true:=Jx x t
inductive V where
 |non |bl (b:Bool) |int (i:Int) |str (x:Str) |byt (b:Array UInt8) |flt (b:UInt64) |ref (a:Addr) |ty (n:String)
 deriving DecidableEq
def aX:V->Value->Prop
 |.non,u=>u=Value.none
 |.bl b,u=>u=Value.bool b
 |.int i,u=>∃t,u=Value.int i t
 |.str x,u=>∃t,u=Value.str x t
 |.byt b,u=>∃t,u=Value.bytes b t
 |.flt b,u=>∃t,u=Value.float b t
 |.ref a,u=>u=Value.ref a
 |.ty n,u=>u=Value.type n
abbrev bj:List V->List Value->Prop:=Paired aX
theorem bj.length(r:bj a b):a.length=b.length:=Paired.length r
theorem bj.get:∀{a b}{i:Nat}{x},bj a b->a[i]? = !x->∃u,b[i]? = !u/\aX x u
 |_,_,_,_,.nil,e=>by simp at e
 |_,_,0,_,.cons r _,e=>by simp at e;subst e;exact#[_,rfl,r]
 |_,_,i+1,x,.cons _ t,e=>by obtain⟨u,h1,h2⟩:=bj.get t (by simpa using e);exact#[u,by simpa using h1,h2]
theorem bj.set(r:aX x u):∀{a b} i,bj a b->bj (a.set i x) (b.set i u)
 |_,_,_,.nil=>.nil
 |_,_,0,.cons _ t=>.cons r t
 |_,_,i+1,.cons q t=>.cons q (bj.set r i t)
theorem bj.append:∀{a b c d},bj a c->bj b d->bj (a++b) (c++d):=by
 intro a b c d h s
 induction h with
 |nil=>exact s
 |cons r _ e=>exact .cons r e
theorem bj.take:∀{a b} n,bj a b->bj (a.take n) (b.take n)
 |_,_,0,_=>.nil
 |_,_,_+1,.nil=>.nil
 |_,_,n+1,.cons r t=>.cons r (bj.take n t)
theorem bj.drop:∀{a b} n,bj a b->bj (a.drop n) (b.drop n)
 |_,_,0,r=>r
 |_,_,_+1,.nil=>.nil
 |_,_,n+1,.cons _ t=>bj.drop n t
def eW:Option V->Option Value->Prop
 |some v,!u=>aX v u
 |none,none=>True
 |_,_=>False
def KV{κ:Type}:List (κ×V)->List (κ×Value)->Prop:=Paired λ(p:κ×V) (q:κ×Value)=>p.1=q.1/\aX p.2 q.2
noncomputable def kV:aQ->V
 |.inl i=>.int i
 |.inr x=>.str x
inductive HO where
 |lst (xs:List V)
 |tup (xs:List V)
 |dK (kvs:List (aQ×V)) |dT (kvs:List (List aQ×V))
 |set (S:Int->Bool) (n:Nat)
 |ins (C dx:Addr) (fs:List (Str×V))
 |own (x:Addr)
 |xd (fs:List (Str×V))
 |met (f x:Addr)
 |rng (lo hi:Int)
 |frz (o:Obj) (u:HO)
 |tbl (ps:Array Value)
 |ext (φ:Heap->Prop)
abbrev Hp:=Addr->Option HO
noncomputable def aL(H:Hp)(a:Addr)(o:HO):Hp:=λb=>if b=a then some o else H b
theorem cF:aL H a o a=!o:=by unfold aL;rw[if_pos rfl]
theorem bw(h:b≠a):aL H a o b=H b:=by unfold aL;rw[if_neg h]
theorem JE{H:Hp}(h:H a=!o)(c:H b=!u)(d:o≠u):a≠b:=by intro e;subst e;rw[h]at c;exact d (q0r c)
theorem iO{H:Hp}(h:H a=!o)(c:H b=none):a≠b:=by intro e;subst e;rw[h]at c;cases c
section
variable(P:Program)(w:World)
def cy(H:Hp)(h:Heap)(a:Addr):HO->Prop
 |.lst d=>d.length<=sizeLine/\∃(b:List Value) (n:Nat),bj d b/\h.get? a=some { cls:=.type "list",data:=.seq b.toArray n }
 |.tup d=>d.length<=sizeLine/\∃b:List Value,bj d b/\IsTup h a b.toArray
 |.dK c=>c.length<=sizeLine/\(a==sysModules)=false/\∃vs,KV c vs/\h.DictOf (ff P w) a vs
 |.dT c=>c.length<=sizeLine/\(a==sysModules)=false/\∃d:List (List aQ×Addr×Value),
   Paired (λ(p:List aQ×V) (q:List aQ×Addr×Value)=>p.1=q.1/\H q.2.1=!.tup (p.1.map kV)/\aX p.2 q.2.2) c d/\
   ∃o i l,h.get? a=!o/\o.ExactDict/\o.data=.dict i l/\i.toList=d.map (entryOfKey (tupleKind (ff P w)))/\(d.map (·.1)).Nodup
 |.set S n=>h.SetOf (intKind P w) a S n
 |.ins C g fs=>H g=!.own a/\fs.length<=1000/\g≠a/\h.get? a=!instObj C g/\
   ∃e,h.Ns1 g e/\(∀f,eW (fs.lookup f) (e f))/\PySem.Within e (fs.map (·.1))
 |.own _=>∃o,h.get? a=some o
 |.xd fs=>∃e,h.Ns1 a e/\∀f,eW (fs.lookup f) (e f)
 |.rng lo m=>∃t u v,h.get? a=some { cls:=.type "range",data:=.fields [.int lo t,.int m u,.int 1 v].toArray }
 |.frz o u=>h.get? a=!o/\cy H h a u
 |.tbl r=>h.get? a=some { cls:=.none,data:=.fields r }
 |.met f x=>h.get? a=some (PySem.W.methodObj (.ref f) (.ref x))
 |.ext φ=>φ h/\(∃o,h.get? a=!o)/\∀j k:Heap,φ j->(∀o,j.get? a=!o->k.get? a=!o)->φ k
def bM(H:Hp)(h:Heap):Prop:=∀a o,H a=!o->cy P w H h a o
end
theorem cy.lt(x:cy P w H h a o):a<h.objs.size:=by
 cases o with
 |lst c=>obtain⟨_,_,_,_,e⟩:=x;exact bo e
 |tup c=>obtain⟨_,_,_,p⟩:=x;exact p.lt
 |dK b=>obtain⟨_,_,_,_,o,_,_,e,_⟩:=x;exact bo e
 |dT b=>obtain⟨_,_,_,_,o,_,_,e,_⟩:=x;exact bo e
 |set S n=>obtain⟨o,_,_,_,e,_⟩:=x;exact bo e
 |ins C d fs=>obtain⟨_,_,_,e,_⟩:=x;exact bo e
 |own y=>obtain⟨_,e⟩:=x;exact bo e
 |xd fs=>obtain⟨_,⟨_,_,_,e,_⟩,_⟩:=x;exact bo e
 |rng lo g=>obtain⟨_,_,_,e⟩:=x;exact bo e
 |frz ob u=>obtain⟨e,_⟩:=x;exact bo e
 |tbl i=>exact bo (x)
 |met f y=>exact bo (x)
 |ext φ=>obtain⟨_,⟨_,e⟩,_⟩:=x;exact bo e
theorem Paired.mapP:∀{c:List α}{d},Paired F c d->(∀a b,F a b->G a b)->Paired G c d:=by
 intro c d h f
 induction h with
 |nil=>exact .nil
 |cons r _ e=>exact .cons (f _ _ r) e
theorem cy.stay(x:cy P w H h a o)(k:∀b u,(b=a\/H b=!.own a)->h.get? b=!u->h'.get? b=!u)
  (D:∀b,H b=!.own a->Z b=!.own a) (E:∀b l,H b=!.tup l->Z b=!.tup l):cy P w Z h' a o:=by
 induction o with
 |lst l=>obtain⟨z,j,n,r,e⟩:=x;exact#[z,j,n,r,k _ _ (.inl rfl) e]
 |tup l=>obtain⟨z,j,r,g,e,c⟩:=x;exact#[z,j,r,g,k _ _ (.inl rfl) e,c]
 |dK m=>obtain⟨z,y,vs,r,g,es,i,e,c⟩:=x;exact#[z,y,vs,r,g,es,i,k _ _ (.inl rfl) e,c]
 |dT m=>obtain⟨z,y,l,r,g,es,i,e,c⟩:=x;exact#[z,y,l,Paired.mapP r λp q z=>#[z.1,E _ _ z.2.1,z.2.2],g,es,i,k _ _ (.inl rfl) e,c]
 |set S n=>obtain⟨g,es,i,t,e,c⟩:=x;exact#[g,es,i,t,k _ _ (.inl rfl) e,c]
 |ins C J fs=>obtain⟨d,z,ne,e,s,⟨A,es,i,G,c⟩,r⟩:=x;exact#[D _ d,z,ne,k _ _ (.inl rfl) e,s,#[A,es,i,k _ _ (.inr d) G,c],r]
 |own y=>obtain⟨g,e⟩:=x;exact#[g,k _ _ (.inl rfl) e]
 |xd fs=>obtain⟨s,⟨A,es,i,e,c⟩,r⟩:=x;exact#[s,#[A,es,i,k _ _ (.inl rfl) e,c],r]
 |rng lo L=>obtain⟨t,u,v,e⟩:=x;exact#[t,u,v,k _ _ (.inl rfl) e]
 |frz g u I=>obtain⟨e,q⟩:=x;exact#[k _ _ (.inl rfl) e,I q]
 |tbl B=>exact k a _ (.inl rfl) x
 |met f y=>exact k a _ (.inl rfl) x
 |ext φ=>obtain⟨p,⟨o,e⟩,st⟩:=x;exact#[st _ _ p λo q=>k _ _ (.inl rfl) q,#[o,k _ _ (.inl rfl) e],st]
theorem bM.lt(x:bM P w H h)(e:H a=!o):a<h.objs.size:=(x a o e).lt
theorem bM.fresh{a:Addr}(x:bM P w H h)(e:h.objs.size<=a):H a=none:=by
 cases q:H a with
 |none=>rfl
 |some u=>exact absurd (q0l (x.lt q) e) (q0E _)
theorem bM.kept(x:bM P w H h)(k:∀b u,h.get? b=!u->h'.get? b=!u):bM P w H h':=λa o e=>(x a o e).stay (λb u _ q=>k b u q) (λ_ q=>q) λ_ _ q=>q
theorem bM.laid{a:Addr}(x:bM P w H h)(k:∀b u,h.get? b=!u->h'.get? b=!u)(f:h.objs.size<=a)(new:cy P w (aL H a o) h' a o):bM P w (aL H a o) h':=λb u e=>by
 have d:=x.fresh f
 by_cases hb:b=a
 .subst hb;rw[cF]at e;cases e;exact new
 .rw[bw hb]at e;exact(x b u e).stay (λc v _ q=>k c v q) (λc q=>by rw[bw (iO q d)];exact q) λc g q=>by rw[bw (iO q d)];exact q
def Rd(H:Hp)(a:Addr)(u:HO):Prop:=H a=!u\/∃o,H a=!.frz o u
theorem Rd.of(h:H a=!u):Rd H a u:=.inl h
theorem Rd.ok(r:Rd H a u)(x:bM P w H h):cy P w H h a u:=by
 rcases r with r |⟨o,r⟩
 .exact x a u r
 .obtain⟨_,q⟩:=x a _ r;exact q
def pk:Option HO->Prop
 |some (.lst _)=>True
 |some (.dK _)=>True
 |some (.dT _)=>True
 |some (.set _ _)=>True
 |some (.ins _ _ _)=>True
 |some (.ext _)=>True
 |_=>False
theorem bM.write(ok:bM P w H h)(g:pk (H x))(m:e=x\/H e=!.own x)(k:∀b u,b≠e->h.get? b=!u->Y.get? b=!u)(l:∃u,Y.get? e=!u)
  (new:cy P w (aL H x X) Y x X):bM P w (aL H x X) Y:=λb u q=>by
 have d:∀c y,H c=!.own y->c≠x:=λc y r z=>by subst z;rw[r]at g;exact g
 by_cases hb:b=x
 .subst hb;rw[cF]at q;cases q;exact new
 .rw[bw hb]at q
  by_cases a:b=e
  .have n:H b=!.own x:=by
    rcases m with z |z
    .exact absurd (a.trans z) hb
    .rw[a];exact z
   rw[q]at n;cases n;obtain⟨v,o⟩:=l;exact#[v,by rw[a];exact o]
  .refine(ok b u q).stay (λc v j r=>k c v ?_ r) (λc r=>by rw[bw (d c b r)];exact r) λc i r=>by rw[bw ((λc i r z=>by subst z;rw[r]at g;exact g) c i r)];exact r
   rcases j with rfl |j
   .exact a
   .rintro rfl;rcases m with z |z
    .exact d c b j z
    .rw[j]at z;cases z;exact hb rfl
structure Un (fs ex:List Addr) (H H':Hp) (h h':Heap):Prop where
 keep:∀b o,h.get? b=!o->H b=none->b∉fs->b∉ex->h'.get? b=some o
 slot:∀b o,h.get? b=!o->H b=none->b∈fs->b∉ex->∃sl,h'.get? b=some { o with slots:=sl }
 free:∀b o,h.get? b=!o->H b=none->b∉ex->H' b=none
 there:∀b o,h.get? b=!o->b∉ex->∃o',h'.get? b=some o'
 tups:∀b xs,H b=!.tup xs->H' b=some (.tup xs)
 frzs:∀b o u,H b=!.frz o u->H' b=some (.frz o u)
 tbls:∀b ps,H b=!.tbl ps->∃more,H' b=!.tbl (ps++more)
theorem Un.any(u:Un fs ex H S h h1)(q:h.get? b=!c)(n:H b=none)(d:b∉ex):∃f,h1.get? b=some { c with slots:=f }:=by
 by_cases hb:b∈fs
 .exact u.slot b c q n hb d
 .exact#[c.slots,u.keep b c q n hb d]
theorem Un.kept(k:∀b u,h.get? b=!u->h'.get? b=!u):Un fs ex H H h h':=
 #[λb c q _ _ _=>k b c q,λb c q _ _ _=>#[c.slots,k b c q],λ_ _ _ n _=>n,λb c q _=>#[c,k b c q],λ_ _ q=>q,λ_ _ _ q=>q,λ_ d q=>#[#[],by rw[q];simp]]
theorem Un.refl:Un fs ex H H h h:=Un.kept λ_ _ q=>q
theorem Un.laid{h:Heap}{a:Addr}(k:∀b u,h.get? b=!u->h'.get? b=!u)(hp:h.objs.size<=a)(hn:H a=none):Un fs ex H (aL H a o) h h' where
 keep:=λb u q _ _ _=>k b u q
 slot:=λb u q _ _ _=>#[u.slots,k b u q]
 free:=λb u q n _=>by rw[bw (q0q (q0l (bo q) hp))];exact n
 there:=λb u q _=>#[u,k b u q]
 tups:=λb xs q=>by rw[bw (iO q hn)];exact q
 frzs:=λb u xs q=>by rw[bw (iO q hn)];exact q
 tbls:=λb ps q=>#[#[],by rw[bw (iO q hn),q];simp]
theorem Un.write(d:pk (H x))(j:e=x\/H e=!.own x)(k:∀b u,b≠e->h.get? b=!u->h'.get? b=!u)(f:∃u,h'.get? e=!u):Un fs ex H (aL H x o) h h':=by
 have i:∀b,H b=none->b≠x:=λb n z=>by subst z;rw[n]at d;exact d
 have hb:∀b,H b=none->b≠e:=λb n z=>by
  subst z;rcases j with r |r
  .exact i b n r
  .rw[n]at r;cases r
 have g:∀b u,H b=!u->¬ pk (!u)->b≠x:=λb u q l z=>by subst z;rw[q]at d;exact l d
 refine#[λb u q n _ _=>k b u (hb b n) q,λb u q n _ _=>#[u.slots,k b u (hb b n) q],λb u q n _=>by rw[bw (i b n)];exact n,λb u q _=>?_,
  λb m q=>by rw[bw (g b _ q λz=>z)];exact q,λb u m q=>by rw[bw (g b _ q λz=>z)];exact q,λb p q=>#[#[],by rw[bw (g b _ q λz=>z),q];simp]]
 by_cases c:b=e
 .subst c;exact f
 .exact#[u,k b u c q]
noncomputable def rM(h:Heap)(H:Hp):List Addr:=(List.range h.objs.size).filter λa=>(H a).isSome
def jW(h:Heap)(H:Hp):Heap:=PySem.W.hideAll h (rM h H)
theorem JF(h H):(jW h H).objs.size=h.objs.size:=PySem.W.hideAll_size _ _
theorem JG(e:h.get? b=!o)(n:H b=none):(jW h H).get? b=!o:=
 q2d _ e λa=>by have q:=(q1P.mp a).2;rw[n]at q;simp at q
theorem JH(e:(jW h H).get? b=!o):h.get? b=!o/\H b=none:=by
 have a:=PySem.W.of_hideAll (rM h H) e;refine#[a,?_];cases q:H b with
 |none=>rfl
 |some x=>have z:(jW h H).get? b=none:=q2a (rM h H) (q1P.mpr #[q1d.mpr (bo a),by simp[q]]);rw[z]at e;cases e
structure Mod (K:Frag) (mg:Str->Option Value) (base:Heap):Prop where
 kin:K.In base
 glob:base.Ns mainGlobals mg
 blt:∃mb,base.Ns builtinsNs mb/\∀x:Str,x≠"__name__"->mb x=bootBuiltins x
 nolimit:base.NoLimit
structure Cx where
 prog:Program
 w:World
 K:Frag
 mg:Str->Option Value
 base:Heap
 A:Around
 N:List Str
 s₀:Shared
 H₀:Hp
 env:Env
 outer:List Env
 stack:List Env
 ex:List Addr
 fn:Str->Bool
 calm:Bool
 pn:List (Addr×Obj)
 xe:Value->Shared->Prop
noncomputable def bV(l:List Env):List Addr:=l.filterMap (·.frame)
abbrev Cx.fs(X:Cx):List Addr:=bV X.outer
def lP(a:Scope)(x:Str):Prop:=a.names.lookup x=!.local\/a.names.lookup x=!.cell\/a.names.lookup x=!.free
def Loc(a:Scope)(x:Str):Prop:=a.names.lookup x=!.local\/a.names.lookup x=!.cell
def JI(a:Env)(h:Heap)(m:Str->Option Value)(x:Str)(u:Value):Prop:=
 (a.kindOf x=!.local/\m x=!u)\/((a.kindOf x=!.cell\/a.kindOf x=!.free)/\∃c,a.cells.lookup x=!c/\h.IsCell c (!u))
structure Cx.Ok (X:Cx):Prop where
 mod:Mod X.K X.mg X.base
 kind:X.env.scope.kind=.function
 glob:X.env.globals=mainGlobals
 blt:X.env.builtins=builtinsNs
 above:X.s₀.heap.objs.size<=X.env.locals
 inj:∀x y c,X.env.cells.lookup x=!c->X.env.cells.lookup y=!c->x=y
 has:∀x,(X.env.kindOf x=!.cell\/X.env.kindOf x=!.free)->∃c,X.env.cells.lookup x=some c
 cab:∀x c,X.fn x=true->X.env.cells.lookup x=!c->X.s₀.heap.objs.size<=c
 hd:X.calm=true->X.A.handled=none
 frames:X.A.frames=some X.stack
 stk:X.stack=X.outer\/(X.stack=X.env::X.outer/\X.env.frame=!X.env.locals)
 exf:∀b∈X.ex,b≠X.env.locals/\∀x c,X.env.cells.lookup x=!c->c≠b
 bs:∀b o,X.base.get? b=!o->X.s₀.heap.get? b=!o/\X.H₀ b=none
 bsz:X.base.objs.size<=X.s₀.heap.objs.size
 noex:∀b o,X.base.get? b=!o->b∉X.ex
 exfs:∀b∈X.ex,b∉X.fs
 funs:X.s₀.heap.FunFrames X.base X.outer
 frf:∀b∈X.fs,X.H₀ b=none
structure Inv (X:Cx) (pins:List (Addr×Obj)) (Y:List (Option V)) (H:Hp) (s:Shared):Prop where
 ok:X.Ok
 os:s.os=X.s₀.os
 bare:AllBare s.gens
 base:Un X.fs X.ex X.H₀ H X.s₀.heap s.heap
 loc:∃m,s.heap.Ns X.env.locals m/\∀(i:Nat) (x:Str) (v:V),X.N[i]? = !x->Y[i]? = !!v->lP X.env.scope x->∃u,aX v u/\JI X.env s.heap m x u
 cell:∀x c,X.env.cells.lookup x=!c->∃v,s.heap.IsCell c v
 free:H X.env.locals=none
 freeC:∀x c,X.env.cells.lookup x=!c->H c=none
 pin:∀p∈X.pn++pins,s.heap.get? p.1=!p.2/\H p.1=none/\p.1≠X.env.locals/\p.1∉X.fs/\∀v,p.2.data≠.cell v
 hok:bM X.prog X.w H s.heap
 len:Y.length=X.N.length
theorem Cx.Ok.nofr{X:Cx}(ok:X.Ok)(e:X.base.get? b=!o):b∉X.fs:=λa=>by have:=(ok.funs.mem a).1;rw[e]at this;cases this
theorem Inv.bs(I:Inv X O Y H s):∀b o,X.base.get? b=!o->s.heap.get? b=!o/\H b=none:=λb o e=>#[I.base.keep b o (I.ok.bs b o e).1 (I.ok.bs b o e).2 (I.ok.nofr e) (I.ok.noex b o e),I.base.free b o (I.ok.bs b o e).1 (I.ok.bs b o e).2 (I.ok.noex b o e)]
theorem Inv.bk(I:Inv X O Y H s):∀b o,X.base.get? b=!o->s.heap.get? b=!o:=λb o e=>(I.bs b o e).1
theorem Inv.mod(I:Inv X O Y H s):Mod X.K X.mg X.base:=I.ok.mod
theorem Inv.kIn(I:Inv X O Y H s):X.K.In s.heap:=I.ok.mod.kin.keeps I.bk
theorem Inv.lt(I:Inv X O Y H s):X.env.locals<s.heap.objs.size:=let⟨_,a,_⟩:=I.loc;a.lt
theorem Inv.sz(I:Inv X O Y H s):X.s₀.heap.objs.size<=s.heap.objs.size:=q0N I.ok.above (q1y I.lt)
theorem Inv.nofs(I:Inv X O Y H s){a:Addr}(h:s.heap.objs.size<=a):a∉X.fs:=λc=>by obtain⟨_,o,b,_⟩:=I.ok.funs.mem c;exact absurd (q0l (bo b) (q0N I.sz h)) (q0E _)
theorem Inv.cne(I:Inv X O Y H s):∀x c,X.env.cells.lookup x=!c->c≠X.env.locals:=λx c e z=>by obtain⟨v,o,d,hd⟩:=I.cell x c e;obtain⟨m,⟨f,es,g,a,b,_⟩,_⟩:=I.loc;rw[z,a]at d;cases d;rw[b]at hd;cases hd
theorem Inv.funs(I:Inv X O Y H s):s.heap.FunFrames X.base X.outer:=by
 have all:∀(l:List Env),(∀b∈bV l,b∈X.fs)->X.s₀.heap.FunFrames X.base l->s.heap.FunFrames X.base l:=by
  intro l
  induction l with
  |nil=>intro _ _;trivial
  |cons env r g=>intro f h;obtain⟨i,⟨L,o,a,j,k,hd⟩,m⟩:=h;have c:=f L (by unfold bV;rw[q07,a];exact q0h);obtain⟨n,e⟩:=I.base.slot L o k (I.ok.frf L c) c λz=>I.ok.exfs L z c;exact#[i,#[L,_,a,j,e,hd],g (λb d=>f b (by unfold bV;rw[q07,a];exact bH _ d)) m]
 exact all X.outer (λ_ d=>d) I.ok.funs
theorem Inv.stack(I:Inv X O Y H s):s.heap.FunFrames X.base X.stack:=by
 rcases I.ok.stk with e |⟨e,a⟩
 .rw[e];exact I.funs
 .rw[e];obtain⟨m,b,_⟩:=I.loc;refine .cons (by rw[I.ok.kind];decide) a b ?_ I.funs;exact Heap.get?_none_of_le (q0N I.ok.bsz I.ok.above)
theorem Inv.stkSub(I:Inv X O Y H s):∀b∈bV X.stack,b∈X.env.locals::X.fs:=λb a=>by
 rcases I.ok.stk with e |⟨e,c⟩
 .rw[e]at a;exact bH _ a
 .rw[e]at a;unfold bV at a;rw[q07,c]at a;exact a
theorem Inv.stkFree(I:Inv X O Y H s):∀b∈bV X.stack,H b=none:=λb a=>by
 rcases q0e.mp (I.stkSub b a) with e |a
 .rw[e];exact I.free
 .obtain⟨_,o,c,_⟩:=I.ok.funs.mem a;exact I.base.free b o c (I.ok.frf b a) λz=>I.ok.exfs b z a
theorem Inv.step{ch:List Addr}(I:Inv X O Y H s)
  (f:∀b∈ch,(b∈X.ex\/X.s₀.heap.objs.size<=b)/\b≠X.env.locals/\(∀x c,X.env.cells.lookup x=!c->c≠b)/\∀p∈X.pn++O,p.1≠b)
  (keep:∀b o,b≠X.env.locals->b∉X.fs->b∉ch->s.heap.get? b=!o->H b=none->h'.get? b=!o)
  (slot:∀b o,b≠X.env.locals->b∈X.fs->b∉ch->s.heap.get? b=!o->H b=none->∃R,h'.get? b=some { o with slots:=R }) (free:∀b o,b∉ch->s.heap.get? b=!o->H b=none->J b=none)
  (there:∀b o,b∉ch->s.heap.get? b=!o->∃C,h'.get? b=!C)
  (G:∀b y,H b=!.tup y->J b=!.tup y) (L:∀b o u,H b=!.frz o u->J b=!.frz o u) (M:∀b N,H b=!.tbl N->∃more,J b=!.tbl (N++more))
  (ns:∀m,s.heap.Ns X.env.locals m->h'.Ns X.env.locals m) (S:bM X.prog X.w J h') (hg:AllBare g') :
  Inv X O Y J { s with heap:=h',gens:=g',drawn:=d',toks:=t' }:=by
 have D:∀b o,X.s₀.heap.get? b=!o->b≠X.env.locals:=λb o e=>q0q (q0l (bo e) I.ok.above);have j:∀b o,X.s₀.heap.get? b=!o->b∉X.ex->b∉ch:=λb o e a A=>by
  rcases(f b A).1 with z |z
  .exact a z
  .exact absurd (q0l (bo e) z) (q0E _)
 have g:∀x c,X.env.cells.lookup x=!c->∀v,s.heap.IsCell c v->h'.IsCell c v:=λx c e v ⟨o,B,hd⟩=>by
  have h:=λz=>(f c z).2.2.1 x c e rfl
  by_cases T:c∈X.fs
  .obtain⟨R,q⟩:=slot c o (I.cne x c e) T h B (I.freeC x c e);exact#[_,q,hd]
  .exact#[o,keep c o (I.cne x c e) T h B (I.freeC x c e),hd]
 refine#[I.ok,I.os,hg,#[λb o e n A a=>keep b o (D b o e) A (j b o e a) (I.base.keep b o e n A a) (I.base.free b o e n a),λb o e n A a=>?_,λb o e n a=>?_,λb o e a=>?_,λb y e=>G b y (I.base.tups b y e),λb o y e=>L b o y (I.base.frzs b o y e),λb N e=>?_],?_,λx c e=>?_,?_,λx c e=>?_,λp U=>?_,S,I.len]
 .obtain⟨R,t⟩:=I.base.slot b o e n A a;obtain⟨Q,E⟩:=slot b _ (D b o e) A (j b o e a) t (I.base.free b o e n a);exact#[Q,E]
 .obtain⟨C,t⟩:=I.base.there b o e a;exact free b C (j b o e a) t (I.base.free b o e n a)
 .obtain⟨C,t⟩:=I.base.there b o e a;exact there b C (j b o e a) t
 .obtain⟨m1,t⟩:=I.base.tbls b N e;obtain⟨m2,E⟩:=M b _ t;exact#[m1++m2,by rw[E,Array.append_assoc]]
 .obtain⟨m,hn,hl⟩:=I.loc;refine#[m,ns m hn,λi x v t E e3=>?_];obtain⟨u,r,l⟩:=hl i x v t E e3;refine#[u,r,?_];rcases l with l |⟨k,c,e,z⟩
  .exact .inl l
  .exact .inr #[k,c,e,g x c e _ z]
 .obtain⟨v,z⟩:=I.cell x c e;exact#[v,g x c e v z]
 .obtain⟨m,⟨o,_,_,B,_⟩,_⟩:=I.loc;exact free _ o (λz=>(f _ z).2.1 rfl) B I.free
 .obtain⟨v,o,B,hd⟩:=I.cell x c e;exact free c o (λz=>(f c z).2.2.1 x c e rfl) B (I.freeC x c e)
 .obtain⟨e,n,ne,Z,d⟩:=I.pin p U;have h:=λz=>(f p.1 z).2.2.2 p U rfl;exact#[keep p.1 p.2 ne Z h e n,free p.1 p.2 h e n,ne,Z,d]
theorem Inv.un(I:Inv X O Y H s)(u:Un X.fs [] H J s.heap h')(f:bM X.prog X.w J h'):Inv X O Y J { s with heap:=h',toks:=t' }:=by
 obtain⟨m,⟨o,es,l,h,r⟩,_⟩:=id I.loc;obtain⟨t,i⟩:=u.any h I.free 'c';exact I.step (ch:=[]) (λ_ z=>nomatch z) (λb o _ g _ e n=>u.keep b o e n g 'c') (λb o _ g _ e n=>u.slot b o e n g 'c') (λb o _ e n=>u.free b o e n 'c') (λb o _ e=>u.there b o e 'c') u.tups u.frzs u.tbls (λp j=>by
  obtain⟨q,c,d,a,k⟩:=j;rw[h]at a;cases a;exact#[_,c,d,i,k]) f I.bare
theorem Inv.call(I:Inv X O Y H s)(u:Un (bV X.stack) ch H J s.heap h')(j:bM X.prog X.w J h')(l:AllBare g')
  (d:∀b∈ch,(b∈X.ex\/X.s₀.heap.objs.size<=b)/\b≠X.env.locals/\(∀x c,X.env.cells.lookup x=!c->c≠b)/\∀p∈X.pn++O,p.1≠b) :
  Inv X O Y J { s with heap:=h',gens:=g',drawn:=d',toks:=t' }:=by
 obtain⟨m,⟨o,es,y,k,r⟩,_⟩:=id I.loc;obtain⟨C,g⟩:=u.any k I.free λz=>(d _ z).2.1 rfl;exact I.step d (λb o g v a e n=>u.keep b o e n (λz=>(q0e.mp (I.stkSub b z)).elim g v) a) (λb o _ _ a e n=>u.any e n a) (λb o a e n=>u.free b o e n a) (λb o a e=>u.there b o e a) u.tups u.frzs u.tbls (λA q=>by
  obtain⟨B,h,i,f,t⟩:=q;rw[k]at f;cases f;exact#[_,h,i,g,t]) j l
theorem Inv.turned(I:Inv X O Y H s)(k:∀b o,b≠it->s.heap.get? b=!o->h'.get? b=!o)(g:H it=none)(f:it≠X.env.locals)
  (l:it∈X.ex\/X.s₀.heap.objs.size<=it) (t:∀x c,X.env.cells.lookup x=!c->c≠it) (w:∀p∈X.pn++O,p.1≠it):Inv X O Y H { s with heap:=h',toks:=t' }:=by
 have d:∀b u,H b=!u->b≠it:=λb u e z=>by rw[z,g]at e;cases e
 refine I.step (ch:=[it]) (λb y=>?_) (λb o _ _ a e _=>k b o (λz=>a (by simp[z])) e) (λb o _ _ a e _=>#[o.slots,k b o (λz=>a (by simp[z])) e]) (λ_ _ _ _ n=>n)
  (λb o a e=>#[o,k b o (λz=>a (by simp[z])) e]) (λ_ _ e=>e) (λ_ _ _ e=>e) (λb A e=>#[#[],by rw[e];simp]) (λm h=>?_) (λb u e=>?_) I.bare
 .have e:=by simpa using y
  subst e;exact#[l,f,t,w]
 .obtain⟨o,es,i,j,r⟩:=h;exact#[o,es,i,k _ o f.symm j,r]
 .refine(I.hok b u e).stay (λc v a q=>k c v ?_ q) (λ_ q=>q) λ_ _ q=>q;rcases a with z |z
  .rw[z];exact d b u e
  .exact d c _ z
theorem Inv.tok(I:Inv X O Y H s)(t):Inv X O Y H { s with toks:=t }:=I.un Un.refl I.hok
theorem Inv.kept(I:Inv X O Y H s)(k:∀b u,s.heap.get? b=!u->h'.get? b=!u):Inv X O Y H { s with heap:=h',toks:=t' }:=I.un (Un.kept k) (I.hok.kept k)
theorem Inv.laid{a:Addr}(I:Inv X O Y H s)(k:∀b u,s.heap.get? b=!u->h'.get? b=!u)(c:s.heap.objs.size<=a)(new:cy X.prog X.w (aL H a o) h' a o) :
  Inv X O Y (aL H a o) { s with heap:=h',toks:=t' }:=I.un (Un.laid k c (I.hok.fresh c)) (I.hok.laid k c new)
theorem Inv.write(I:Inv X O Y H s)(c:pk (H x))(d:e=x\/H e=!.own x)(k:∀b u,b≠e->s.heap.get? b=!u->h'.get? b=!u)(a:∃u,h'.get? e=!u)
  (new:cy X.prog X.w (aL H x o) h' x o):Inv X O Y (aL H x o) { s with heap:=h',toks:=t' }:=I.un (Un.write c d k a) (I.hok.write c d k a new)
theorem Inv.pins_of(I:Inv X O Y H s)(h:∀p∈pins',s.heap.get? p.1=!p.2/\H p.1=none/\p.1≠X.env.locals/\p.1∉X.fs/\∀v,p.2.data≠.cell v):Inv X pins' Y H s:=
 #[I.ok,I.os,I.bare,I.base,I.loc,I.cell,I.free,I.freeC,λp a=>(q0f.mp a).elim (λz=>I.pin p (bv _ z)) (h p),I.hok,I.len]
theorem zw{N:List Str}(c:N.Nodup){j:Nat}(a:N[i]? = !x)(b:N[j]? = !x):i=j:=by obtain⟨f,d⟩:=q0a.mp a;obtain⟨g,e⟩:=q0a.mp b;exact(List.getElem_inj c).mp (d.trans e.symm)
theorem zx(I:Inv X O Y H s)(hN:X.N.Nodup)(T:X.N[i]? = !x)(B:Loc X.env.scope x)(r:aX v u)
  (h:∀s',Inv X O (Y.set i (!v)) H s'->(∃a,Heap.SameBut a s.heap s'.heap/\(a=X.env.locals\/X.env.cells.lookup x=!a))->Q () s') (hf:X.fn x=true\/X.env.scope.names.lookup x=!.local:=by first |exact .inl rfl |exact .inr rfl |assumption):wpAny M A (storeName X.env x u) Q E s:=by
 obtain⟨m,hn,hl⟩:=id I.loc;have Z:i<Y.length:=by rw[I.len];exact(q0a.mp T).1
 have cne:=I.cne;have g:∀{a:Addr}{h':Heap},(∃o,s.heap.get? a=!o/\H a=none)->Heap.SameBut a s.heap h'->bM X.prog X.w H h':=λ{a h'} ha f b ob e=>by
  obtain⟨_,_,C⟩:=ha;refine(I.hok b ob e).stay (λc w' t q=>(f.2 c ?_).trans q) (λ_ q=>q) λ_ _ q=>q;rintro rfl;rcases t with rfl |t
  .rw[C]at e;cases e
  .rw[C]at t;cases t
 rcases B with G |G
 .refine wpAny_storeName_local G hn (λh' a4 f=>?_) (by rw[I.ok.kind];rfl);obtain⟨oL,_,_,a5,_⟩:=id hn;refine h _ #[I.ok,I.os,I.bare,#[λb o e n S B=>(f.2 b (q0q (q0l (bo e) I.ok.above))).trans (I.base.keep b o e n S B),λb o e n S B=>?_,I.base.free,λb o e B=>?_,I.base.tups,I.base.frzs,I.base.tbls],#[_,a4,λj y v' l D e3=>?_],λy c e=>?_,I.free,I.freeC,λp hp=>?_,g #[oL,a5,I.free] f,by simpa using I.len] #[_,f,.inl rfl]
  .obtain⟨sl,l⟩:=I.base.slot b o e n S B;exact#[sl,(f.2 b (q0q (q0l (bo e) I.ok.above))).trans l]
  .obtain⟨o',l⟩:=I.base.there b o e B;exact#[o',(f.2 b (q0q (q0l (bo e) I.ok.above))).trans l]
  .by_cases L:j=i
   .subst L;rw[T]at l;cases l;rw[q0w Z]at D;cases D;exact#[u,r,.inl #[G,by simp]]
   .rw[q0v (Ne.symm L)]at D;obtain⟨u',r',q⟩:=hl j y v' l D e3;refine#[u',r',?_];rcases q with⟨k,e⟩ |⟨k,c,e,z⟩
    .refine .inl #[k,?_];have:y≠x:=λe=>L (zw hN l (e▸T));simp[this,e]
    .exact .inr #[k,c,e,z.sameBut f (cne y c e)]
  .obtain⟨w',z⟩:=I.cell y c e;exact#[w',z.sameBut f (cne y c e)]
  .obtain⟨e,n,ne,nf,d⟩:=I.pin p hp;exact#[(f.2 p.1 ne).trans e,n,ne,nf,d]
 .have R:X.fn x=true:=by
   rcases hf with z |z
   .exact z
   .rw[z]at G;cases G
  obtain⟨c,t⟩:=I.ok.has x (.inl G);obtain⟨w',z⟩:=I.cell x c t;refine wpAny_storeName_cell I.ok.kind G t z (λh' a0 f=>?_);obtain⟨oc,a1,a2⟩:=id z;refine h { s with heap:=h' } #[I.ok,I.os,I.bare,#[λb o e n S B=>(f.2 b (q0q (q0l (bo e) (I.ok.cab x c R t)))).trans (I.base.keep b o e n S B),λb o e n S B=>?_,I.base.free,λb o e B=>?_,I.base.tups,I.base.frzs,I.base.tbls],#[m,hn.sameBut f (Ne.symm (cne x c t)),λj y v' l D e3=>?_],λy c' e=>?_,I.free,I.freeC,λp hp=>?_,g #[oc,a1,I.freeC x c t] f,by simpa using I.len] #[c,f,.inr t]
  .obtain⟨sl,l⟩:=I.base.slot b o e n S B;exact#[sl,(f.2 b (q0q (q0l (bo e) (I.ok.cab x c R t)))).trans l]
  .obtain⟨o',l⟩:=I.base.there b o e B;exact#[o',(f.2 b (q0q (q0l (bo e) (I.ok.cab x c R t)))).trans l]
  .by_cases L:j=i
   .subst L;rw[T]at l;cases l;rw[q0w Z]at D;cases D;exact#[u,r,.inr #[.inl G,c,t,a0]]
   .rw[q0v (Ne.symm L)]at D;obtain⟨u',r',q⟩:=hl j y v' l D e3;refine#[u',r',?_];rcases q with q |⟨k,c',e,z'⟩
    .exact .inl q
    .refine .inr #[k,c',e,z'.sameBut f ?_];rintro rfl;exact L (zw hN l (I.ok.inj _ _ _ e t▸T))
  .by_cases a3:c' = c
   .subst a3;exact#[_,a0]
   .obtain⟨w2,z2⟩:=I.cell y c' e;exact#[w2,z2.sameBut f a3]
  .obtain⟨e,n,ne,nf,d⟩:=I.pin p hp;refine#[(f.2 p.1 ?_).trans e,n,ne,nf,d];intro q;rw[q,a1]at e;exact d w' (by rw[<-(q0r e)];exact a2)
theorem rN(I:Inv X O Y H s)(b:X.N.Nodup)(c:X.N[i]? = !x)(d:Loc X.env.scope x)(r:aX v u)
  (h:∀a,Inv X O (Y.set i (!v)) H a->Q () a) (e:X.fn x=true\/X.env.scope.names.lookup x=!.local:=by first |exact .inl rfl |exact .inr rfl |assumption):wpAny M A (storeName X.env x u) Q E s:=
 zx I b c d r (λa f _=>h a f) e
theorem Inv.call'(I:Inv X O Y H s)(g:a.os=s.os)(u:Un (bV X.stack) ch H J s.heap a.heap)(f:bM X.prog X.w J a.heap)(h:AllBare a.gens)
  (d:∀b∈ch,(b∈X.ex\/X.s₀.heap.objs.size<=b)/\b≠X.env.locals/\(∀x c,X.env.cells.lookup x=!c->c≠b)/\∀p∈X.pn++O,p.1≠b):Inv X O Y J a:=by
 obtain⟨h',i,j,t',k⟩:=a;subst g;exact I.call u f h d
abbrev XK:=Value->Option Addr->Hp->Prop
abbrev St:=List (Option V)
abbrev VK:=V->Hp->Prop
abbrev TE:=St->Hp->VK->Prop
abbrev TT:=St->Hp->(Bool->Hp->Prop)->Prop
abbrev TA:=St->Hp->(List V->Hp->Prop)->Prop
structure fh where
 nx:St->Hp->Prop
 rt:VK
 bk:St->Hp->Prop:=λ_ _=>False
 ct:St->Hp->Prop:=λ_ _=>False
abbrev TS:=fh->St->Hp->Prop
def EP(X:Cx)(a:List (Addr×Obj))(Y:St)(Q:VK)(u:Value)(c:Shared):Prop:=∃v b,Inv X a Y b c/\aX v u/\Q v b
def TP(X:Cx)(a:List (Addr×Obj))(Y:St)(Q:Bool->Hp->Prop)(b:Bool)(d:Shared):Prop:=∃c,Inv X a Y c d/\Q b c
def AP(X:Cx)(a:List (Addr×Obj))(Y:St)(Q:List V->Hp->Prop)(c:List Value)(d:Shared):Prop:=∃vs b,Inv X a Y b d/\bj vs c/\Q vs b
def SP(X:Cx)(a:List (Addr×Obj))(D:fh)(f:Flow)(d:Shared):Prop:=
 match f with
 |.next=>∃c b,Inv X a c b d/\D.nx c b
 |.brk=>∃c b,Inv X a c b d/\D.bk c b
 |.cont=>∃c b,Inv X a c b d/\D.ct c b
 |.ret u=>∃v c b,Inv X a c b d/\aX v u/\D.rt v b
def PE(X:Cx)(e:Expr)(t:TE):Prop:=
 ∀(a:List (Addr×Obj)) (s:Shared) (Y:St) (H:Hp) (Q:VK),Inv X a Y H s->t Y H Q->wpAny (model X.prog X.w) X.A (eval e X.env) (EP X a Y Q) X.xe s
def PT(X:Cx)(e:Expr)(t:TT):Prop:=
 ∀(a:List (Addr×Obj)) (s:Shared) (Y:St) (H:Hp) (Q:Bool->Hp->Prop),Inv X a Y H s->t Y H Q->wpAny (model X.prog X.w) X.A (isTrue e X.env (eval e X.env)) (TP X a Y Q) X.xe s
def PW(X:Cx)(e:Expr)(t:TT):Prop:=
 ∀(whole:Sem Value) (a:List (Addr×Obj)) (s:Shared) (Y:St) (H:Hp) (Q:Bool->Hp->Prop),Inv X a Y H s->t Y H Q->wpAny (model X.prog X.w) X.A (isTrue e X.env whole) (TP X a Y Q) X.xe s
theorem PW.pt(h:PW X e t):PT X e t:=h _
def PA(X:Cx)(b:List Expr)(t:TA):Prop:=
 ∀(pos:Pos) (a:List (Addr×Obj)) (s:Shared) (Y:St) (H:Hp) (Q:List V->Hp->Prop),Inv X a Y H s->t Y H Q->wpAny (model X.prog X.w) X.A (spliced (backTo pos (starEach b X.env))) (AP X a Y Q) X.xe s
def PS(X:Cx)(st:Stmt)(t:TS):Prop:=
 ∀(a:List (Addr×Obj)) (s:Shared) (Y:St) (H:Hp) (D:fh),Inv X a Y H s->t D Y H->wpAny (model X.prog X.w) X.A (exec st X.env) (SP X a D) X.xe s
def PSs(X:Cx)(st:List Stmt)(t:TS):Prop:=
 ∀(a:List (Addr×Obj)) (s:Shared) (Y:St) (H:Hp) (D:fh),Inv X a Y H s->t D Y H->wpAny (model X.prog X.w) X.A (execs st X.env) (SP X a D) X.xe s
theorem aR{t:Sem α}{Q b}(h:wpAny M A t Q E s)(c:∀a s,Q a s->b a s):wpAny M A t b E s:=wpAny_mono h c λ_ _ x=>x
def cu(i:Nat):TE:=λY H Q=>∃v,Y[i]? = !!v/\Q v H
def tC(v:V):TE:=λ_ H Q=>Q v H
theorem JJ{X:Cx}{pos}(j:X.N[i]? = !x)(k:lP X.env.scope x)(hd:autoParam ((x==("__debug__":Str))=false) Zr._auto_1)(f:autoParam ((x==("__classdict__":Str))=false) Zr._auto_1):PE X (.Name x pos) (cu i):=by
 intro d s Y H Q I h;obtain⟨v,e,h⟩:=h;obtain⟨m,n,o⟩:=I.loc;obtain⟨u,r,l⟩:=o i x v j e k;have fin:EP X d Y Q u s:=#[v,H,I,r,h]
 rcases l with⟨b,p⟩ |⟨b,c,g,a⟩
 .exact wpAny_Name (wpAny_loadName_local I.ok.kind b n p fin) hd
 .rcases b with b |b
  .exact wpAny_Name (wpAny_loadName_cell I.ok.kind b g a fin) hd
  .exact wpAny_Name (wpAny_loadName_free I.ok.kind b g a fin f) hd
theorem rO:PE X (.Constant (.int i) j pos) (tC (.int i)):=λ_ _ _ H _ I h=>wpAny_Constant_int #[.int i,H,I.tok _,#[_,rfl],h]
theorem JK:PE X (.Constant (.bool b) j pos) (tC (.bl b)):=λ_ _ _ H _ I h=>Constant_bool #[.bl b,H,I,rfl,h]
theorem zy:PE X (.Constant .none j pos) (tC .non):=λ_ _ _ H _ I h=>Constant_none #[.non,H,I,rfl,h]
theorem zG:PE X (.Constant (.str x) j pos) (tC (.str x)):=λ_ _ _ H _ I h=>Calls.Constant_str #[.str x,H,I.tok _,#[_,rfl],h]
def Gl(X:Cx)(x:Str):Prop:=X.env.kindOf x=!.globalImplicit
theorem pp{Y:St}(I:Inv X a Y H s)(b:Gl X x)(c:X.mg x=!u)(h:Q u s)
  (hd:autoParam ((x==("__debug__":Str))=false) Zr._auto_1):wpAny (model X.prog X.w) X.A (eval (.Name x pos) X.env) Q E s:=
 Calls.Name_function_global I.ok.kind b (Calls.loadGlobal_global (by rw[I.ok.glob];exact I.mod.glob.keeps I.bk) c h) hd
theorem jX{E}{Y:St}{pos}(I:Inv X a Y H s)(b:Gl X x)(c:X.mg x=none)(d:bootBuiltins x=!u)(h:Q u s)
  (e:autoParam (x≠"__name__") Zr._auto_1) (hd:autoParam ((x==("__debug__":Str))=false) Zr._auto_1):wpAny (model X.prog X.w) X.A (eval (.Name x pos) X.env) Q E s:=by
 obtain⟨f,h1,h2⟩:=I.mod.blt;exact Calls.Name_function_global I.ok.kind b (Calls.loadGlobal_builtin (by rw[I.ok.glob];exact I.mod.glob.keeps I.bk) c (by rw[I.ok.blt];exact h1.keeps I.bk) ((h2 x e).trans d) h) hd
theorem rP(a:Gl X x)(b:X.mg x=!u)(r:aX v u)(hd:autoParam ((x==("__debug__":Str))=false) Zr._auto_1):PE X (.Name x pos) (tC v):=
 λ_ _ _ H _ I h=>pp I a b #[v,H,I,r,h] hd
theorem jY{pos}(a:Gl X x)(b:X.mg x=none)(c:bootBuiltins x=!u)(r:aX v u)(d:autoParam (x≠"__name__") Zr._auto_1)(hd:autoParam ((x==("__debug__":Str))=false) Zr._auto_1):PE X (.Name x pos) (tC v):=
 λ_ _ _ H _ I h=>jX I a b c #[v,H,I,r,h] d hd
def tB(t:TE):TT:=λY H Q=>t Y H λx d=>∃c,x=.bl c/\Q c d
theorem JL(h:PE X e t)(f:autoParam (∀whole,isTrue e X.env whole=(do let v <-whole;standAt e.pos;holding [v] (truthy v))) Zs._auto_1):PT X e (tB t):=by refineλc s Y H Q I g=>isTrue_plain (aR (h c s Y H _ I g) λv m i=>?_) (f _);obtain⟨x,j,I1,k,l⟩:=i;obtain⟨d,rfl,q⟩:=l;cases k;exact wpAny_truthy_bool #[j,I1,q]
def JM(t u:TT):TT:=λY H Q=>t Y H λc d=>if c=true then u Y d Q else Q false d
def JN(t u:TT):TT:=λY H Q=>t Y H λc d=>if c=true then Q true d else u Y d Q
def JO(t:TT):TT:=λY H Q=>t Y H λc d=>Q (not c) d
theorem JP(f:PT X a L):PW X (.BoolOp .And [a] pos) L:=by
 refineλg d s Y H Q I h=>isTrue_and (aR (f d s Y H Q I h) λc i e=>?_);cases c with
 |true=>exact isTrue_and_nil e
 |false=>exact e
theorem JQ(f:PT X a L):PW X (.BoolOp .Or [a] pos) L:=by
 refineλg d s Y H Q I h=>isTrue_or (aR (f d s Y H Q I h) λc i e=>?_);cases c with
 |false=>exact isTrue_or_nil e
 |true=>exact e
theorem JR(g:PT X a L)(l:PW X (.BoolOp .And (b::rest) pos) G):PW X (.BoolOp .And (a::b::rest) pos) (JM L G):=by
 refineλi d s Y H Q I h=>isTrue_and (aR (g d s Y H _ I h) λc j k=>?_);obtain⟨e,I1,f⟩:=k;cases c with
 |true=>exact l i d j Y e Q I1 f
 |false=>exact#[e,I1,f]
theorem JS(g:PT X a L)(l:PW X (.BoolOp .Or (b::rest) pos) G):PW X (.BoolOp .Or (a::b::rest) pos) (JN L G):=by
 refineλi d s Y H Q I h=>isTrue_or (aR (g d s Y H _ I h) λc j k=>?_);obtain⟨e,I1,f⟩:=k;cases c with
 |true=>exact#[e,I1,f]
 |false=>exact l i d j Y e Q I1 f
theorem JT(e:PT X a L):PT X (.UnaryOp .Not a pos) (JO L):=λd s Y H Q I h=>isTrue_not (e d s Y H (λc f=>Q (not c) f) I h)
def JU(M tb:TE):TE:=λY H Q=>M Y H λx d=>∃c,x=.bl c/\if c=true then tb Y d Q else Q (.bl false) d
def JV(M tb:TE):TE:=λY H Q=>M Y H λx d=>∃c,x=.bl c/\if c=true then Q (.bl true) d else tb Y d Q
def JW(M:TE):TE:=λY H Q=>M Y H λx d=>∃c,x=.bl c/\Q (.bl (not c)) d
theorem JX(h:PE X a t):PE X (.BoolOp op [a] pos) t:=λc s Y H Q I d=>BoolOp_one (h c s Y H Q I d)
theorem JY(i:PE X a M)(l:PE X (.BoolOp .And (b::rest) pos) tb):PE X (.BoolOp .And (a::b::rest) pos) (JU M tb):=by
 refineλd s Y H Q I h=>BoolOp_and (aR (i d s Y H _ I h) λv j e=>?_);obtain⟨x,g,I1,k,f⟩:=e;obtain⟨c,rfl,f⟩:=f;cases k;apply wpAny_truthy_bool;cases c with
 |true=>exact l d j Y g Q I1 f
 |false=>exact#[.bl false,g,I1,rfl,f]
theorem JZ(i:PE X a M)(l:PE X (.BoolOp .Or (b::rest) pos) tb):PE X (.BoolOp .Or (a::b::rest) pos) (JV M tb):=by
 refineλd s Y H Q I h=>BoolOp_or (aR (i d s Y H _ I h) λv j e=>?_);obtain⟨x,g,I1,k,f⟩:=e;obtain⟨c,rfl,f⟩:=f;cases k;apply wpAny_truthy_bool;cases c with
 |false=>exact l d j Y g Q I1 f
 |true=>exact#[.bl true,g,I1,rfl,f]
theorem Ka(g:PE X a M):PE X (.UnaryOp .Not a pos) (JW M):=by refineλd s Y H Q I h=>UnaryOp_ (aR (g d s Y H _ I h) λv k e=>?_);obtain⟨x,i,I1,j,f⟩:=e;obtain⟨c,rfl,f⟩:=f;cases j;exact not_of (wpAny_truthy_bool #[.bl (not c),i,I1,rfl,f])
def Kb(t:TT)(M tb:TE):TE:=λY H Q=>t Y H λc d=>if c=true then M Y d Q else tb Y d Q
theorem Kc(j:PT X c L)(k:PE X a M)(m:PE X b tb):PE X (.IfExp c a b pos) (Kb L M tb):=by
 refineλe s Y H Q I h=>wpAny_IfExp (aR (j e s Y H _ I h) λd f l=>?_);obtain⟨g,I1,i⟩:=l;cases d with
 |true=>exact k e f Y g Q I1 i
 |false=>exact m e f Y g Q I1 i
def cG(K:Frag)(H:Hp)(a:Addr)(c:List V):Prop:=
 Rd H a (.lst c)\/
  ∃(o:Obj) (b:Array Value) (n:Nat),K.lookup a=!o/\o.cls=.type "list"/\o.dict=none/\o.data=.seq b n/\b.size<=sizeLine/\bj c b.toList
def dX(K:Frag)(H:Hp)(a:Addr)(c:List V):Prop:=
 Rd H a (.tup c)\/
  ∃(o:Obj) (b:Array Value) (n:Nat),K.lookup a=!o/\o.cls=.type "tuple"/\o.data=.seq b n/\b.size<=sizeLine/\bj c b.toList
noncomputable def Kd:Value->Option V
 |.none=>some .non
 |.bool b=>some (.bl b)
 |.int i _=>some (.int i)
 |.str x _=>some (.str x)
 |.bytes b _=>some (.byt b)
 |.float b _=>some (.flt b)
 |.ref a=>some (.ref a)
 |.type n=>some (.ty n)
 |_=>none
theorem aX.abs(r:aX x u):Kd u=!x:=by
 cases x with
 |non=>cases r;rfl
 |bl _=>cases r;rfl
 |int _=>obtain⟨t,rfl⟩:=r;rfl
 |str _=>obtain⟨t,rfl⟩:=r;rfl
 |byt _=>obtain⟨t,rfl⟩:=r;rfl
 |flt _=>obtain⟨t,rfl⟩:=r;rfl
 |ref _=>cases r;rfl
 |ty _=>cases r;rfl
theorem aX.inj(r:aX x u)(q:aX y u):x=y:=q0r (r.abs.symm.trans q.abs)
theorem bj.inj:∀{b a c},bj b c->bj a c->b=a:=by
 intro b a c h
 induction h generalizing a with
 |nil=>intro g;cases g;rfl
 |cons r _ d=>intro g;cases g with
  |cons e t'=>rw[r.inj e,d t']
theorem cG.of{K}(h:H a=!.lst N):cG K H a N:=.inl (.inl h)
theorem Inv.list{Y:St}(I:Inv X Q Y H s)(h:cG X.K H a N):∃b,bj N b/\PlainL s.heap a b.toArray/\N.length<=sizeLine:=by
 rcases h with h |⟨o,b,n,c,d,hd,f,g,r⟩
 .obtain⟨z,b,n,r,e⟩:=h.ok I.hok;exact#[b,r,#[_,n,e,rfl,rfl,rfl],z]
 .refine#[b.toList,r,#[o,n,I.kIn a o c,d,hd,by simpa using f],?_];have e:=r.length;simp only[q0s]at e;lia
theorem Inv.tuple{Y:St}(I:Inv X Q Y H s)(h:dX X.K H a N):∃b,bj N b/\IsTup s.heap a b.toArray/\N.length<=sizeLine:=by
 rcases h with h |⟨o,b,n,c,d,f,g,r⟩
 .obtain⟨z,b,r,p⟩:=h.ok I.hok;exact#[b,r,p,z]
 .refine#[b.toList,r,#[o,I.kIn a o c,d,n,by simpa using f],?_];have e:=r.length;simp only[q0s]at e;lia
theorem Inv.list_inj{Y:St}(I:Inv X Q Y H s)(h:cG X.K H a N)(i:cG X.K H a E):N=E:=by
 obtain⟨c,r,⟨o,n,e,_,_,d⟩,_⟩:=I.list h;obtain⟨b,j,⟨l,m,f,_,_,g⟩,_⟩:=I.list i;rw[e]at f;cases f;rw[d]at g;injection g with k _
 have:=by simpa using congrArg Array.toList k
 subst this;exact r.inj j
theorem Inv.tuple_inj{Y:St}(I:Inv X Q Y H s)(h:dX X.K H a N)(i:dX X.K H a E):N=E:=by
 obtain⟨c,r,⟨o,e,_,n,d⟩,_⟩:=I.tuple h;obtain⟨b,j,⟨l,f,_,m,g⟩,_⟩:=I.tuple i;rw[e]at f;cases f;rw[d]at g;injection g with k _
 have:=by simpa using congrArg Array.toList k
 subst this;exact r.inj j
def Ke:TS:=λD Y H=>D.nx Y H
def Kf(t u:TS):TS:=λD Y H=>t { D with nx:=u D } Y H
theorem Kg:PSs X [] Ke:=λ_ _ Y H _ I h=>wpAny_execs_nil #[Y,H,I,h]
theorem Kh{st:Stmt}(i:PS X st t)(j:PSs X rest u):PSs X (st::rest) (Kf t u):=by
 refineλa s Y H D I h=>wpAny_execs_cons (aR (i a s Y H { D with nx:=u D } I h) λf b q=>?_);cases f with
 |next=>obtain⟨c,d,g,q⟩:=q;exact j a b c d D g q
 |ret v=>exact q
 |brk=>exact q
 |cont=>exact q
theorem Ki{st:Stmt}(b:PS X st t):PSs X [st] t:=by
 refineλa s Y H D I h=>wpAny_execs_cons (aR (b a s Y H D I h) λf c q=>?_);cases f with
 |next=>exact wpAny_execs_nil q
 |ret v=>exact q
 |brk=>exact q
 |cont=>exact q
theorem Inv.quiet{Y:St}(I:Inv X a Y H s):interactive X.env=false:=by simp[interactive,I.ok.kind]
def Kj(C:TE):TS:=λD Y H=>C Y H λ_ a=>D.nx Y a
theorem vJ(c:PE X e C)(d:autoParam (swapsWith e none pos.line X.env=pure false) Zq._auto_1):PS X (.Expr e pos) (Kj C):=λa s Y H D I h=>wpAny_Expr_any (aR (c a s Y H _ I h) λv i b=>by obtain⟨x,f,I1,j,g⟩:=b;exact#[Y,f,I1,g]) I.quiet d
def Kk(C:TE):TS:=λD Y H=>C Y H D.rt
theorem zH(b:PE X e C):PS X (.Return (!e) pos) (Kk C):=λa s Y H D I h=>wpAny_Return_some (aR (b a s Y H _ I h) λv g ⟨x,c,I1,d,f⟩=>#[x,Y,c,I1,d,f])
def Kl(c:TT)(t u:TS):TS:=λD Y H=>c Y H λb a=>if b=true then t D Y a else u D Y a
theorem Km(l:PT X c g)(m:PSs X a t)(o:PSs X b u):PS X (.If c a b pos) (Kl g t u):=by
 refineλf s Y H D I h=>wpAny_If (aR (l f s Y H _ I h) λd i n=>?_);obtain⟨j,I1,k⟩:=n;cases d with
 |true=>exact m f i Y j D I1 k
 |false=>exact o f i Y j D I1 k
abbrev TG:=V->St->Hp->(St->Hp->Prop)->Prop
abbrev jZ:=List V->St->Hp->(St->Hp->Prop)->Prop
def PG(X:Cx)(target:Expr)(t:TG):Prop:=
 ∀(a:List (Addr×Obj)) (s:Shared) (Y:St) (H:Hp) (v:V) (u:Value) (Q:St->Hp->Prop),Inv X a Y H s->aX v u->t v Y H Q->
  wpAny (model X.prog X.w) X.A (assign target X.env u) (λ_ d=>∃b c,Inv X a b c d/\Q b c) X.xe s
def PGs(X:Cx)(e:List Expr)(t:jZ):Prop:=
 ∀(a:List (Addr×Obj)) (s:Shared) (Y:St) (H:Hp) (vs:List V) (b:List Value) (Q:St->Hp->Prop),Inv X a Y H s->bj vs b->t vs Y H Q->
  wpAny (model X.prog X.w) X.A (assignInOrder ((assignEach e X.env).map (·.2)) b) (λ_ f=>∃c d,Inv X a c d f/\Q c d) X.xe s
abbrev vK:=V->V->V->Hp->(Hp->Prop)->Prop
def zI(X:Cx)(t:vK):Prop:=
 ∀(a:List (Addr×Obj)) (s:Shared) (Y:St) (H:Hp) (o i v:V) (b c u:Value) (Q:Hp->Prop),Inv X a Y H s->aX o b->aX i c->aX v u->t o i v H Q->
  wpAny (model X.prog X.w) X.A (setItem b c u) (λ_ e=>∃d,Inv X a Y d e/\Q d) X.xe s
section
variable{X:Cx}{pos:Pos}
def rQ(i:Nat):TG:=λv Y H Q=>Q (Y.set i (!v)) H
theorem vL(b:X.N.Nodup)(c:X.N[i]? = !x)(d:Loc X.env.scope x)(e:X.fn x=true\/X.env.scope.names.lookup x=!.local:=by first |exact .inl rfl |exact .inr rfl |assumption):PG X (.Name x pos) (rQ i):=λa s Y H v u Q I r h=>wpAny_assign_Name (rN I b c d r (λg f=>#[_,H,f,h]) e)
def Kn:jZ:=λvs Y H Q=>vs=[]/\Q Y H
def Ko(t:TG)(u:jZ):jZ:=λvs Y H Q=>∃v r,vs=v::r/\t v Y H λa b=>u r a b Q
theorem zJ:PGs X [] Kn:=by intro a s Y H vs b Q I r h;obtain⟨e,h⟩:=h;subst e;cases r;exact assignInOrder_nil #[Y,H,I,h]
theorem vM(m:PG X e t)(n:PGs X b u)
  (c:autoParam ((assignEach (e::b) X.env).map (·.2)=assign e X.env::(assignEach b X.env).map (·.2)) Zq._auto_1):PGs X (e::b) (Ko t u):=by
 intro a s Y H vs o Q I r h;obtain⟨v,p,d,h⟩:=h;subst d;cases r with
 |cons r f=>rw[c];refine assignInOrder_cons (aR (m a s Y H _ _ _ I r h) λ_ g i=>?_);obtain⟨j,k,I1,l⟩:=i;exact n a g j k _ _ Q I1 f l
def Kp(K:Frag)(n:Nat)(t:jZ):TG:=λv Y H Q=>∃a b,v=.ref a/\dX K H a b/\b.length=n/\t b Y H Q
theorem zK{k}(j:X.calm=true)(h:PGs X d t)
  (l:autoParam ((assignEach d X.env).length=n) Zq._auto_1) (f:autoParam ((assignEach d X.env).findIdx? (·.1)=none) Zq._auto_1):PG X (.Tuple d k pos) (Kp X.K n t):=by
 intro c s Y H v u Q I r g;obtain⟨a,m,p,q,w,g⟩:=g;subst p;cases r;obtain⟨x,i,y,B⟩:=I.tuple q;exact assign_Tuple_tuple (I.ok.hd j) y (by simp[l,<-w,i.length]) f λz A=>h c _ Y H m _ Q (I.kept λb o e=>A b o (q0q (bo e)) e) (by simpa using i) g
def iP(d e:TE)(t:vK):TG:=λv Y H Q=>d Y H λo a=>e Y a λi b=>t o i v b λc=>Q Y c
theorem Kq(k:PE X o g)(l:PE X i j)(m:zI X t)
  (n:autoParam (∀v,assign (.Subscript o i pos) X.env v=(do
   let b <-holding [v] (eval o X.env);let c <-holding [v,b] (eval i X.env)
   standAt pos
   holding [v,b,c] (setItem b c v)
   release [v,b,c] [])) Zs._auto_1):PG X (.Subscript o i pos) (iP g j t):=by
 intro a s Y H v u Q I r h;rw[n];refine aa (wpAny_holding (aR (k a s Y H _ I h) λb p d=>?_));obtain⟨x,q,I1,w,z⟩:=d;refine aa (wpAny_holding (aR (l a p Y q _ I1 z) λc A e=>?_));obtain⟨y,B,C,D,E⟩:=e;refine aa (wpAny_standAt (aa (wpAny_holding (aR (m a A Y B x y v b c u _ C w D r E) λ_ M f=>?_))));obtain⟨G,J,L⟩:=f;exact wpAny_release #[Y,G,J,L]
def vN(a:TE)(g:TG):TS:=λD Y H=>a Y H λx b=>g x Y b D.nx
theorem vO(f:PE X e d)(i:PG X b g)(j:autoParam (swapsWithSole [b] e pos.line X.env=pure false) Zq._auto_1)(k:autoParam (swappedStores [b] e X.env=pure none) Zq._auto_1)
  (p:autoParam ((assignEach [b] X.env).map (·.2)=[assign b X.env]) Zq._auto_1):PS X (.Assign [b] e pos) (vN d g):=by
 refineλa s Y H D I h=>wpAny_Assign_stores (aR (f a s Y H _ I h) λv l c=>?_) j k;obtain⟨x,m,I1,n,o⟩:=c;rw[p];exact aR (i a l Y m x v _ I1 n o) λ_ r q=>q
theorem zL(f:X.N.Nodup)(g:X.N[i]? = !x)(j:Loc X.env.scope x)(k:PE X e d)(l:autoParam (swapsWith e (!.Name x a) pos.line X.env=pure false) Zq._auto_1)(m:X.fn x=true\/X.env.scope.names.lookup x=!.local:=by first |exact .inl rfl |exact .inr rfl |assumption) :
  PS X (.Assign [.Name x a] e pos) (vN d (rQ i)):=by
 intro b s Y H D I h;refine wpAny_Assign_Name (aR (k b s Y H _ I h) λv r c=>?_) l;obtain⟨y,n,I1,o,p⟩:=c;exact rN I1 f g j o (λt q=>#[_,n,q,p]) m
def Kr(i j:Nat)(a:TA):TS:=λD Y H=>a Y H λvs b=>∃v w,vs=[v,w]/\D.nx ((Y.set i (!v)).set j (!w)) b
theorem Ks(M:X.calm=true)(C:X.N.Nodup)(O:X.N[i]? = !x)(Q:X.N[j]? = !y)(r:i≠j)
  (E:X.env.scope.names.lookup x=!.local) (G:X.env.scope.names.lookup y=!.local) (R:PA X [a,b] B)
  (S:swappedStores [.Tuple [.Name x l,.Name y py] m pt] (.Tuple [a,b] n lK) X.env=pure (![x,y]))
  (T:autoParam (swapsWithSole [.Tuple [.Name x l,.Name y py] m pt] (.Tuple [a,b] n lK) pos.line X.env=pure false) Zq._auto_1) :
  PS X (.Assign [.Tuple [.Name x l,.Name y py] m pt] (.Tuple [a,b] n lK) pos) (Kr i j B):=by
 intro c s Y H D I h;rw[exec_Assign_arm];refine aa (wpAny_standAt ?_);rw[T];refine aa (ao ?_);rw[if_neg 'd'];refine aa (Tuple_ (aR (R _ c s Y H _ I h) λU d k=>?_));obtain⟨vs,J,I1,Z,t⟩:=k;obtain⟨v,w,e1,t⟩:=t;subst e1;obtain⟨f,g,rfl,rv,u⟩:∃f g,U=[f,g]/\aX v f/\aX w g:=by
  cases Z with
  |cons p q=>
   cases q with
   |cons p' q'=>cases q';exact#[_,_,rfl,p,p']
 refine wpAny_newObj_type ?_ (by show 2<=sizeLine;decide);rw[S];refine aa (ao (aa (wpAny_rule (aa (unpackItems_tuple (items:=[f,g].toArray) (I.ok.hd M) (IsTup.new d.heap _) λh' z=>?_)))));refine aa (assignInOrder_cons (wpAny_bindName (rN ((I1.kept λb o e=>aK _ e).kept (t':=d.toks) λb o e=>z b o (q0q (bo e)) e) C Q (.inl G) u (λs2 I4=>?_) (.inr G))));refine assignInOrder_cons (wpAny_bindName (rN I4 C O (.inl E) rv (λs3 L=>assignInOrder_nil (ao ?_)) (.inr E)));rw[List.set_comm _ _ r.symm]at L;exact#[_,J,L,t]
end
structure It where
 go:Nat->Hp->Prop
 yld:Nat->Hp->V->Hp->Prop
 stop:Nat->Hp->Prop
def gV(X:Cx)(a:List (Addr×Obj))(H:Hp)(b:Addr):Prop:=
 H b=none/\b≠X.env.locals/\b∉X.fs/\(b∈X.ex\/X.s₀.heap.objs.size<=b)/\(∀x c,X.env.cells.lookup x=!c->c≠b)/\∀p∈X.pn++a,p.1≠b
theorem Inv.fpOk{Y:St}{b:Addr}(I:Inv X a Y H s)(d:s.heap.objs.size<=b)(f:H' b=none):gV X a H' b:=by
 refine#[f,q02 (q0l I.lt d),I.nofs d,.inr (q0N I.sz d),λx c e z=>?_,λp g z=>absurd (q0l (bo (I.pin p g).1) (by rw[z];exact d)) (q0E _)]
 .obtain⟨v,q⟩:=I.cell x c e;exact absurd (q0l q.lt (by rw[z];exact d)) (q0E _)
structure gW (P:Program) (w:World) (K:Frag) (tg:Expr) (J:It) (fp:List Addr) (it:Addr) (tn:Nat->Heap->Prop):Prop where
 mem:it∈fp
 obj:∀i h,tn i h->∀b∈fp,∃o,h.get? b=!o/\∀v,o.data≠.cell v
 keep:∀i h h',tn i h->(∀b∈fp,∀o,h.get? b=!o->h'.get? b=!o)->tn i h'
 item:∀(X:Cx),X.prog=P->X.w=w->X.K=K->X.calm=true->∀(i:Nat) (pins:List (Addr×Obj)) (s:Shared) (Y:St) (H:Hp) (E:Value->Shared->Prop),Inv X pins Y H s->(∀b∈fp,gV X pins H b)->tn i s.heap->J.go i H->
  wpAny (model P w) X.A (pyNext (.ref it)) (λr s1=>∃u,r=!u/\
   wpAny (model P w) X.A (letOwnedTupleGo tg (.ref it) u) (λ_ s2=>∃x H',Inv X pins Y H' s2/\aX x u/\J.yld i H x H'/\tn (i+1) s2.heap/\∀b∈fp,H' b=none) E s1) E s
 done:∀(X:Cx),X.prog=P->X.w=w->X.K=K->X.calm=true->∀(i:Nat) (pins:List (Addr×Obj)) (s:Shared) (Y:St) (H:Hp) (E:Value->Shared->Prop),Inv X pins Y H s->(∀b∈fp,gV X pins H b)->tn i s.heap->J.stop i H->
  wpAny (model P w) X.A (pyNext (.ref it)) (λr s1=>r=none/\Inv X pins Y H s1) E s
 self:∀(A:Around) (i:Nat) (s:Shared) (Q:Value->Shared->Prop) (E:Value->Shared->Prop),tn i s.heap->Q (.ref it) s->wpAny (model P w) A (pyIter (.ref it)) Q E s
abbrev TI:=St->Hp->(It->Hp->Prop)->Prop
def zM(X:Cx)(a:List (Addr×Obj))(Y:St)(h:Expr)(R:It->Hp->Prop)(c:Value)(e:Shared):Prop:=
 ∃(it:Addr) (f:List Addr) (g:Nat->Heap->Prop) (J:It) (d:Hp),c=.ref it/\Inv X a Y d e/\gW X.prog X.w X.K h J f it g/\g 0 e.heap/\(∀b∈f,gV X a d b)/\R J d
def PI(X:Cx)(b iter:Expr)(c:TI):Prop:=
 ∀(a:List (Addr×Obj)) (s:Shared) (Y:St) (H:Hp) (R:It->Hp->Prop),Inv X a Y H s->c Y H R->
  wpAny (model X.prog X.w) X.A (eval iter X.env) (λv d=>wpAny (model X.prog X.w) X.A (pyIter v) (zM X a Y b R) X.xe d) X.xe s
theorem rR(c:s.heap.get? it=!o)(d:o.cls=.type n)(hd:o.data=.fields vs)
    (e:["enumerate","zip","dict_itemiterator","dict_reverseitemiterator","odict_iterator","itertools.zip_longest","itertools.pairwise"].contains n=false) (a:Q () s):wpAny M A (letOwnedTupleGo b (.ref it) u) Q E s:=by
  cases b<;>first
    |exact ao a
    | (cases u<;>first
        |exact ao a
        | (refine aa (wpAny_load c ?_)
           rw[d,hd];show wpAny M A (if (["enumerate","zip","dict_itemiterator","dict_reverseitemiterator","odict_iterator","itertools.zip_longest","itertools.pairwise"].contains n&&vs[0]?==!rawInt _)=true then _ else _) Q E s;rw[if_neg (by intro h;rw[e,Bool.false_and]at h;cases h)];exact ao a))
noncomputable def vP(K:Frag)(a:Addr):It:=
 ⟨λi H=>∃b x,cG K H a b/\b[i]? = !x,λi H x c=>c = H/\∀b,cG K H a b->b[i]? = !x,λi H=>∃b,cG K H a b/\b.length<=i⟩
noncomputable def rS(K:Frag)(a:Addr):It:=
 ⟨λi H=>∃b x,dX K H a b/\b[i]? = !x,λi H x c=>c = H/\∀b,dX K H a b->b[i]? = !x,λi H=>∃b,dX K H a b/\b.length<=i⟩
noncomputable def rT(lo:Int)(n:Nat):It:=#[λi _=>i<n,λi H x a=>a = H/\x=.int (lo+i),λi _=>n<=i]
theorem Kt{K}(a it):gW P w K tg (vP K a) [it] it (λi h=>h.IsListIter it a i) where
 mem:=by simp
 obj:=λi h st b hb=>by
  have e:=by simpa using hb
  subst e;obtain⟨o,e,c,d⟩:=st;exact#[o,e,λv z=>by rw[d]at z;cases z]
 keep:=λi h h' st k=>st.at λo e=>k it 'c' o e
 item:=by intro X hP hw hK hc i pins s Y H E I hf st hg;subst hP hw hK;obtain⟨xs,x,hq,hx⟩:=hg;obtain⟨its,rv,p,hz⟩:=I.list hq;obtain⟨u,hu,ru⟩:=rv.get hx;obtain⟨f0,f1,f2,f3,f4,f5⟩:=hf it 'c';refine wpAny_pyNext_list_item st p.isList (by simpa using hu) λh' st' sb=>?_;obtain⟨o,e,c,d⟩:=id st';exact#[u,rfl,rR e c d 'd' #[x,H,(I.turned (λb o hb e=>(sb.2 b hb).trans e) f0 f1 f3 f4 f5),ru,#[rfl,λys hy=>by rw[I.list_inj hy hq];exact hx],st',λb hb=>(hf b hb).1]]
 done:=by intro X hP hw hK hc i pins s Y H E I hf st hg;subst hP hw hK;obtain⟨xs,hq,hx⟩:=hg;obtain⟨its,rv,p,hz⟩:=I.list hq;obtain⟨f0,f1,f2,f3,f4,f5⟩:=hf it 'c';have hl:=rv.length;exact wpAny_pyNext_list_end (I.ok.hd hc) st p.isList (by simp;lia) λh' eb=>#[rfl,I.turned (λb o hb e=>eb b o hb e) f0 f1 f3 f4 f5]
 self:=λ_ _ _ _ _ st h=>wpAny_pyIter_listiter st h
theorem Ku{K}(a it):gW P w K tg (rS K a) [it] it (λi h=>h.IsTupleIter it a i) where
 mem:=by simp
 obj:=λi h st b hb=>by
  have e:=by simpa using hb
  subst e;obtain⟨o,e,c,d⟩:=st;exact#[o,e,λv z=>by rw[d]at z;cases z]
 keep:=λi h h' st k=>st.at λo e=>k it 'c' o e
 item:=by intro X hP hw hK hc i pins s Y H E I hf st hg;subst hP hw hK;obtain⟨xs,x,hq,hx⟩:=hg;obtain⟨its,rv,p,hz⟩:=I.tuple hq;obtain⟨u,hu,ru⟩:=rv.get hx;obtain⟨f0,f1,f2,f3,f4,f5⟩:=hf it 'c';refine wpAny_pyNext_tuple_item st (p) (by simpa using hu) λh' st' sb=>?_;obtain⟨o,e,c,d⟩:=id st';exact#[u,rfl,rR e c d 'd' #[x,H,(I.turned (λb o hb e=>(sb.2 b hb).trans e) f0 f1 f3 f4 f5),ru,#[rfl,λys hy=>by rw[I.tuple_inj hy hq];exact hx],st',λb hb=>(hf b hb).1]]
 done:=by intro X hP hw hK hc i pins s Y H E I hf st hg;subst hP hw hK;obtain⟨xs,hq,hx⟩:=hg;obtain⟨its,rv,p,hz⟩:=I.tuple hq;obtain⟨f0,f1,f2,f3,f4,f5⟩:=hf it 'c';have hl:=rv.length;exact wpAny_pyNext_tuple_end (I.ok.hd hc) st (p) (by simp;lia) λh' eb=>#[rfl,I.turned (λb o hb e=>eb b o hb e) f0 f1 f3 f4 f5]
 self:=λ_ _ _ _ _ st h=>wpAny_pyIter_tupleiter st h
theorem Kv{K}(it lo n):gW P w K tg (rT lo n) [it] it (λi h=>IsRangeIter h it (lo+(i:Nat) * 1) ((n:Int) - (i:Nat)) 1) where
 mem:=by simp
 obj:=λi h st b hb=>by
  have e:=by simpa using hb
  subst e;exact#[_,st,λv z=>by
   cases z]
 keep:=λi h h' st k=>k it 'c' _ st
 item:=by intro X hP hw hK hc i pins s Y H E I hf st hg;obtain⟨f0,f1,f2,f3,f4,f5⟩:=hf it 'c';refine (Walks.range (I.ok.hd hc) it lo 1 n).item i s _ _ hg st λv h' tk hv st' kk=>?_;obtain⟨t,rfl⟩:=hv;refine#[_,rfl,rR st' rfl rfl 'd' #[.int (lo+i),H,(I.turned (λb o hb e=>kk b o (by simpa using hb) e) f0 f1 f3 f4 f5),#[t,?_],#[rfl,rfl],st',λb hb=>(hf b hb).1]];rw[Int.mul_one]
 done:=by intro X hP hw hK hc i pins s Y H E I hf st hg;obtain⟨f0,f1,f2,f3,f4,f5⟩:=hf it 'c';exact wpAny_pyNext_range_end (I.ok.hd hc) st (by have:n<=i:=hg;lia) λh' eb=>#[rfl,I.turned (λb o hb e=>eb b o hb e) f0 f1 f3 f4 f5]
 self:=λ_ _ _ _ _ st h=>wpAny_pyIter_rangeiter st h
def Kw(K:Frag)(c:TE):TI:=λY H R=>c Y H λx b=>∃a,x=.ref a/\(∃d,cG K b a d)/\R (vP K a) b
def Kx(K:Frag)(c:TE):TI:=λY H R=>c Y H λx b=>∃a,x=.ref a/\(∃d,dX K b a d)/\R (rS K a) b
theorem Ky(i:PE X l g):PI X B l (Kw X.K g):=by
 refineλc s Y H R I h=>aR (i c s Y H _ I h) λv f d=>?_;obtain⟨x,j,I1,k,m⟩:=d;obtain⟨a,e,⟨u,n⟩,q⟩:=m;subst e;cases k;obtain⟨r,w,p,y⟩:=I1.list n;apply wpAny_pyIter_list p.isList;refine#[f.heap.objs.size,[f.heap.objs.size],_,_,j,rfl,I1.kept λb o e=>aK _ e,Kt a _,#[_,Heap.get?_push_size _ rfl,rfl,rfl],λb t=>?_,q];have e:=by simpa using t
 subst e;exact I1.fpOk (aP _) (I1.hok.fresh (aP _))
theorem zN(j:PE X l i):PI X B l (Kx X.K i):=by
 refineλc s Y H R I h=>aR (j c s Y H _ I h) λv d f=>?_;obtain⟨x,k,I1,m,n⟩:=f;obtain⟨a,e,⟨u,r⟩,q⟩:=n;subst e;cases m;obtain⟨g,w,p,y⟩:=I1.tuple r;apply wpAny_pyIter_tuple (p);refine#[d.heap.objs.size,[d.heap.objs.size],_,_,k,rfl,I1.kept λb o e=>aK _ e,Ku a _,#[_,Heap.get?_push_size _ rfl,rfl,rfl],λb t=>?_,q];have e:=by simpa using t
 subst e;exact I1.fpOk (aP _) (I1.hok.fresh (aP _))
theorem Kz{Y:St}{lo }(I:Inv X c Y H s)(i:-(2 ^ 62)<=lo)(j:lo<2 ^ 62)(k:-(2 ^ 62)<=a)(f:a<2 ^ 62)
  (q:R (rT lo (a - lo).toNat) H):wpAny (model X.prog X.w) X.A (pyIter (.ref s.heap.objs.size)) (zM X c Y B R) E { s with heap:=s.heap.push { cls:=.type "range",data:=.fields [.int lo t,.int a u,.int 1 v].toArray },toks:=d }:=by
 refine wpAny_pyIter_range (IsRange.new ..) (small_one i j k f) ?_;have I1:Inv X c Y H { s with heap:=s.heap.push { cls:=.type "range",data:=.fields [.int lo t,.int a u,.int 1 v].toArray },toks:=d }:=I.kept λb o e=>aK _ e;refine#[(s.heap.push { cls:=.type "range",data:=.fields [.int lo t,.int a u,.int 1 v].toArray }).objs.size,[(s.heap.push { cls:=.type "range",data:=.fields [.int lo t,.int a u,.int 1 v].toArray }).objs.size],_,_,H,rfl,
  I1.kept λb o e=>aK _ e,Kv _ lo (a - lo).toNat,?_,λb l=>?_,q]
 .have g:lo+((0:Nat)) * 1=lo:=by simp
  have h:(((a - lo).toNat)) - ((0:Nat))=Builtin.Range.rangeSize lo a 1:=by rw[rangeSize_one];split<;>lia
  rw[g,h];exact Heap.get?_push_size _ rfl
 .have e:b=(s.heap.push { cls:=.type "range",data:=.fields [.int lo t,.int a u,.int 1 v].toArray }).objs.size:=by simpa using l
  subst e;exact I1.fpOk (aP _) (I1.hok.fresh (aP _))
def KA(a:TA):TI:=λY H R=>a Y H λvs b=>∃j:Int,vs=[.int j]/\-(2 ^ 62)<=j/\j<2 ^ 62/\R (rT 0 j.toNat) b
theorem KB(g:Gl X "range")(i:X.mg "range" = none)(k:PA X [a] f)(l:autoParam (starEach [a] X.env=[(false,eval a X.env)]) Zq._auto_1):PI X B (.Call (.Name "range" p) [a] [] pos) (KA f):=by
 refineλb s Y H R I h=>Call_ (jX I g i boot_range (PyProof.Rows.callWith_type1 (aR (k pos b s Y H _ I h) λu v c=>?_) l rfl));obtain⟨vs,w,I1,m,d⟩:=c;obtain⟨j,e,d,n,q⟩:=d;subst e;cases m with
 |cons r o=>cases o;obtain⟨t,rfl⟩:=r;exact call_range_1 (Kz I1 'b' 'b' d n (by simpa using q))
def KC(d:TI)(g:TG)(j:TS):TS:=λD Y H=>d Y H λJ e=>∃W:Nat->Nat->St->Hp->Prop,(∃m,W 0 m Y e)/\∀i m Y H,W i m Y H->
 (J.stop i H/\D.nx Y H)\/(J.go i H/\∃N:St->Hp->Prop,(∀b a,N b a->∃c,c<m/\W (i+1) c b a)/\∀x a,J.yld i H x a->g x Y a λf h=>j { D with nx:=N,ct:=N,bk:=D.nx } f h)
noncomputable def pq(a:List Addr)(h:Heap):List (Addr×Obj):=a.filterMap λb=>(h.get? b).map λo=>(b,o)
theorem rV(c:b∈a)(e:h.get? b=!o):(b,o)∈pq a h:=q1J.mpr #[b,c,by rw[e];rfl]
theorem KD(c:p∈pq a h):p.1∈a/\h.get? p.1=!p.2:=by
 obtain⟨b,hb,e⟩:=q1J.mp c;cases q:h.get? b with
 |none=>rw[q]at e;cases e
 |some o=>rw[q]at e;have d:=q0r e;subst d;exact#[hb,q]
theorem Inv.pinned{Y:St}(I:Inv X a Y H s)(h:∀b∈c,gV X a H b)(i:∀b∈c,∃o,s.heap.get? b=!o/\∀v,o.data≠.cell v):Inv X (a++pq c s.heap) Y H s:=
 I.pins_of λp j=>(q0f.mp j).elim (λz=>I.pin p (bq _ z)) λz=>by obtain⟨g,e⟩:=KD z;obtain⟨k,f1,f2,_⟩:=h p.1 g;obtain⟨o,f,d⟩:=i p.1 g;rw[e]at f;cases f;exact#[e,k,f1,f2,d]
theorem Inv.unpinned{Y:St}(I:Inv X (a++c) Y H s):Inv X a Y H s:=I.pins_of λp b=>I.pin p (bq _ (bv _ b))
theorem KE(z:PassesOwn (model X.prog X.w) X.A X.env X.xe)(hc:X.calm=true)(hi:PI X B iter wi)(hg:PG X B g)(p:PSs X body tb)
  (hs:autoParam (∀x,foldedSetIterable iter X.env x=pure x) Zs._auto_1):PS X (.For B iter body [] pos) (KC wi g tb):=by
 refineλa s Y H D I h=>wpAny_For (aR (hi a s Y H _ I h) λv s1 h1=>aR h1 λa3 s2 h2=>?_) hs;obtain⟨it,C,tn,J,H2,e,I2,T,a0,f2,W,⟨m0,w0⟩,E⟩:=h2;subst e;have c:∀{q:Hp},(∀b∈C,q b=none)->∀b∈C,gV X a q b:=λhn b p=>#[hn b p,(f2 b p).2]
 refine codeAny_forLoop_any (λn s'=>∃i G q,Inv X a G q s'/\tn i s'.heap/\(∀b∈C,q b=none)/\W i n G q) ?_ m0 ⟨0,Y,H2,I2,a0,λb p=>(f2 b p).1,w0⟩;rintro n s3 ⟨i,L,H3,I3,M,O,w3⟩;rcases E i n L H3 w3 with⟨stop,qn⟩ |⟨go,N,hN,step⟩
 .refine wpAny_passesOwn z (aR (T.done X rfl rfl rfl hc i a s3 L H3 X.xe I3 (c O) M stop) λr s4 Q=>?_);obtain⟨hr,I4⟩:=Q;subst hr;exact wpAny_execs_nil #[L,H3,I4,qn]
 .refine wpAny_passesOwn z (aR (T.item X rfl rfl rfl hc i a s3 L H3 X.xe I3 (c O) M go) λr s4 R=>?_);obtain⟨u,hr,h4⟩:=R;subst hr;refine wpAny_passesOwn z (aR h4 λ_ s5 S=>?_);obtain⟨x,H5,I5,r5,y5,y,a1⟩:=S;refine wpAny_passesOwn z (aR (hg _ s5 L H5 x u _ (I5.pinned (c a1) (T.obj _ _ y)) r5 (step x H5 y5)) λ_ s6 U=>?_);obtain⟨Y6,H6,I6,q6⟩:=U;refine wpAny_passesOwn z (aR (p _ s6 Y6 H6 _ I6 q6) λf s7 t=>?_);have again:∀{j:St}{k:Hp},Inv X (a++pq C s5.heap) j k s7->N j k->∃m,m<n/\∃i G q,Inv X a G q s7/\tn i s7.heap/\(∀b∈C,q b=none)/\W i m G q:=λ{j k} l Z=>by obtain⟨m',hm,w7⟩:=hN j k Z;refine#[m',hm,i+1,j,k,l.unpinned,T.keep _ _ _ y λb p o e=>(l.pin (b,o) (bq _ (bq _ (rV p e)))).1,λb p=>?_,w7];obtain⟨o,e,d⟩:=T.obj _ _ y b p;exact(l.pin (b,o) (bq _ (bq _ (rV p e)))).2.1
  cases f with
  |next=>obtain⟨j,k,l,Z⟩:=t;exact again l Z
  |cont=>obtain⟨j,k,l,Z⟩:=t;exact again l Z
  |brk=>obtain⟨j,k,l,t⟩:=t;exact#[j,k,l.unpinned,t]
  |ret v=>obtain⟨x7,j,k,l,r7,t⟩:=t;exact#[x7,j,k,l.unpinned,r7,t]
abbrev R2:=V->V->Hp->VK->Prop
def cP(X:Cx)(f:Value->Value->Sem Value)(r:R2):Prop:=
 ∀(a:List (Addr×Obj)) (s:Shared) (Y:St) (H:Hp) (x y:V) (v u:Value) (Q:VK),Inv X a Y H s->aX x v->aX y u->r x y H Q->
  wpAny (model X.prog X.w) X.A (f v u) (EP X a Y Q) X.xe s
def vQ(X:Cx)(f:Value->Sem Value)(r:V->Hp->VK->Prop):Prop:=
 ∀(a:List (Addr×Obj)) (s:Shared) (Y:St) (H:Hp) (x:V) (v:Value) (Q:VK),Inv X a Y H s->aX x v->r x H Q->
  wpAny (model X.prog X.w) X.A (f v) (EP X a Y Q) X.xe s
def eX(X:Cx)(f:Value)(r:List V->Hp->VK->Prop):Prop:=
 ∀(a:List (Addr×Obj)) (s:Shared) (Y:St) (H:Hp) (b:List V) (c:List Value) (Q:VK),Inv X a Y H s->bj b c->r b H Q->
  wpAny (model X.prog X.w) X.A (call f c) (EP X a Y Q) X.xe s
def pA(r:R2)(a d:TE):TE:=λY H Q=>a Y H λx b=>d Y b λy c=>r x y c Q
def KF(r:V->Hp->VK->Prop)(a:TE):TE:=λY H Q=>a Y H λx b=>r x b Q
def rI(C:Int->Int->Prop)(g:Int->Int->V):R2:=λx y H Q=>∃i j,x=.int i/\y=.int j/\C i j/\Q (g i j) H
def jv(g:Int->Int->V):R2:=λx y H Q=>∃i j,x=.int i/\y=.int j/\Q (g i j) H
def rU(g:Int->V):V->Hp->VK->Prop:=λx H Q=>∃i,x=.int i/\Q (g i) H
theorem vR(k:PE X a D)(C:PE X b tb){Y:St}{R:V->V->Hp->Prop}(I:Inv X d Y H s)
  (h:D Y H λx i=>tb Y i λy e=>R x y e) {f:Value->Value->Sem Value}
  (l:∀v u g x y e,Inv X d Y e g->aX x v->aX y u->R x y e->wpAny (model X.prog X.w) X.A (f v u) Q X.xe g) :
  wpAny (model X.prog X.w) X.A (eval a X.env) (λv m=>wpAny (model X.prog X.w) X.A (eval b X.env) (λu n=>wpAny (model X.prog X.w) X.A (f v u) Q X.xe n) X.xe m) X.xe s:=by
 refine aR (k d s Y H _ I h) λv o j=>?_;obtain⟨x,i,I1,p,q⟩:=j;refine aR (C d o Y i _ I1 q) λu g j=>?_;obtain⟨y,e,r,t,B⟩:=j;exact l v u g x y e r p t B
theorem KG(e:cP X (binaryOp op) r)(f:PE X a D)(m:PE X b tb):PE X (.BinOp a op b pos) (pA r D tb):=λd s Y H Q I h=>wpAny_BinOp (vR f m I h λv u g x y i j k l q=>e d g Y i x y v u Q j k l q)
theorem KH(f:vQ X (unaryOp op) r)(g:PE X a D):PE X (.UnaryOp op a pos) (KF r D):=λd s Y H Q I h=>UnaryOp_ (aR (g d s Y H _ I h) λv i e=>by obtain⟨x,j,I1,k,l⟩:=e;exact f d i Y j x v Q I1 k l)
theorem rW{g:Int->Int->Int}
  (rule:∀i j  t u  s  Q  E,C i j->Q (.int (g i j) s.toks) { s with toks:=s.toks+1 }->wpAny (model X.prog X.w) X.A (f (.int i t) (.int j u)) Q E s) :
  cP X f (rI C λi j=>.int (g i j)):=by
 intro d s Y H x y v u Q I e k h;obtain⟨i,j,rfl,rfl,l,q⟩:=h;obtain⟨t,rfl⟩:=e;obtain⟨t',rfl⟩:=k;exact rule i j t t' s _ _ l #[.int (g i j),H,I.tok _,#[_,rfl],q]
theorem zO{g:Int->Int->Int}
  (rule:∀i j  t u  s  Q  E,Q (.int (g i j) s.toks) { s with toks:=s.toks+1 }->wpAny (model X.prog X.w) X.A (f (.int i t) (.int j u)) Q E s) :
  cP X f (jv λi j=>.int (g i j)):=by
 intro d s Y H x y v u Q I e k h;obtain⟨i,j,rfl,rfl,q⟩:=h;obtain⟨t,rfl⟩:=e;obtain⟨t',rfl⟩:=k;exact rule i j t t' s _ _ #[.int (g i j),H,I.tok _,#[_,rfl],q]
theorem vS{g:Int->Int->Bool}
  (rule:∀i j  t u  s  Q  E,Q (.bool (g i j)) s->wpAny (model X.prog X.w) X.A (f (.int i t) (.int j u)) Q E s) :
  cP X f (jv λi j=>.bl (g i j)):=by
 intro d s Y H x y v u Q I e k h;obtain⟨i,j,rfl,rfl,q⟩:=h;obtain⟨t,rfl⟩:=e;obtain⟨t',rfl⟩:=k;exact rule i j t t' s _ _ #[.bl (g i j),H,I,rfl,q]
def vT(i j:Int):Prop:=0<j/\j<1073741824
def vU(i j:Int):Prop:=0<=j/\j<=1000000/\i.natAbs<2 ^ 64
def pB(i j:Int):Prop:=(-(2 ^ 64)<i/\i<2 ^ 64)\/(-(2 ^ 64)<j/\j<2 ^ 64)
theorem pB.ok(h:pB i j):IntMulOk i j:=by
 rcases h with⟨h1,h2⟩ |⟨h1,h2⟩
 .exact .of_left (intBits_le_64 h1 h2)
 .exact .of_right (intBits_le_64 h1 h2)
theorem KJ:cP X (binaryOp .Add) (jv λi j=>.int (i+j)):=zO λ_ _ _ _ _ _ _ q=>add_int q
theorem KL:cP X (binaryOp .Sub) (jv λi j=>.int (i - j)):=zO λ_ _ _ _ _ _ _ q=>sub_int q
theorem KM:cP X (binaryOp .Mult) (rI pB λi j=>.int (i * j)):=rW λ_ _ _ _ _ _ _ d q=>mul_int q d.ok
theorem KN:cP X (binaryOp .FloorDiv) (rI vT λi j=>.int (i / j)):=rW λi j _ _ _ _ _ d q=>by have h1:=d.1;have h2:=d.2;exact floordiv_int 'b' (by rw[Int.fdiv_eq_ediv_of_nonneg i 'b'];exact q) (.inl (PyProof.noPylong_small 'b'))
theorem KO:cP X (binaryOp .Mod) (rI (λ_ j=>0<j) λi j=>.int (i % j)):=rW λi j _ _ _ _ _ d q=>mod_int' 'b' (by rw[Int.fmod_eq_emod_of_nonneg i 'b'];exact q)
theorem KP:cP X (binaryOp .Pow) (rI vU λi j=>.int (i ^ j.toNat)):=rW λ_ _ _ _ _ _ _ d q=>pow_int_small d.1 d.2.1 d.2.2 q
theorem KQ{g:Int->Int}
  (rule:∀i  t  s  Q  E,Q (.int (g i) s.toks) { s with toks:=s.toks+1 }->wpAny (model X.prog X.w) X.A (f (.int i t)) Q E s) :
  vQ X f (rU λi=>.int (g i)):=by
 intro d s Y H x v Q I e h;obtain⟨i,rfl,q⟩:=h;obtain⟨t,rfl⟩:=e;exact rule i t s _ _ #[.int (g i),H,I.tok _,#[_,rfl],q]
theorem KR:vQ X (unaryOp .USub) (rU λi=>.int (-i)):=KQ λ_ _ _ _ _ q=>neg_int q
theorem zP{Y:St}(I:Inv X d Y H s)(q:Q (.bl k) H)(e:k=f):EP X d Y Q (.bool f) s:=by subst e;exact#[.bl k,H,I,rfl,q]
theorem zQ:cP X (compareOp .Lt) (jv λi j=>.bl (decide (i<j))):=vS λ_ _ _ _ _ _ _ q=>lt_int q
theorem rX:cP X (compareOp .LtE) (jv λi j=>.bl (decide (i<=j))):=vS λ_ _ _ _ _ _ _ q=>le_int q
theorem zR:cP X (compareOp .Gt) (jv λi j=>.bl (decide (j<i))):=vS λ_ _ _ _ _ _ _ q=>gt_int q
theorem zS:cP X (compareOp .Is) (λx y H Q=>y=.non/\Q (.bl (decide (x=.non))) H):=by
 intro d s Y H x y v u Q I e f h;obtain⟨rfl,q⟩:=h;cases f;refine is_none_gen (zP I q ?_);cases x<;>first
  |(cases e;rfl)
  |(obtain⟨t,rfl⟩:=e;rfl)
theorem zT:cP X (compareOp .IsNot) (λx y H Q=>y=.non/\Q (.bl (not (decide (x=.non)))) H):=by
 intro d s Y H x y v u Q I e f h;obtain⟨rfl,q⟩:=h;cases f;refine isnot_none_gen (zP I q ?_);cases x<;>first
  |(cases e;rfl)
  |(obtain⟨t,rfl⟩:=e;rfl)
theorem bD(b)(h:autoParam (op≠.In) Zr._auto_1)(f:autoParam (op≠.NotIn) Zr._auto_1):behindInMarks op b=false:=by
 have d:(op==CmpOp.In)=false:=by cases op<;>first |rfl |exact absurd rfl h
 have e:(op==CmpOp.NotIn)=false:=by cases op<;>first |rfl |exact absurd rfl f
 cases b<;>simp[behindInMarks,d,e]
theorem KS(e:cP X (compareOp op) r)(f:PE X a A)(n:PE X b tb)(g:behindInMarks op b=false):PE X (.Compare a [op] [b] pos) (pA r A tb):=λd s Y H Q I h=>wpAny_Compare1 (vR f n I h λv u i x y j k l m q=>e d i Y j x y v u Q k l m q) g
def KU(t:TE):TT:=λY H Q=>t Y H λx d=>∃k,x=.bl k/\Q k d
theorem zU(f:cP X (compareOp op) r)(g:PE X a A)(J:PE X b tb)(i:behindInMarks op b=false):PT X (.Compare a [op] [b] pos) (KU (pA r A tb)):=by
 refineλd s Y H Q I h=>wpAny_isTrue_Compare1 (aR (g d s Y H _ I h) λv j ⟨x,l,I1,m,n⟩=>aR (J d j Y l _ I1 n) λu o ⟨y,q,t,w,B⟩=>
  aR (f d o Y q x y v u _ t m w B) λc L ⟨z,C,D,E,k,e,G⟩=>?_) i
 subst e;cases E;exact wpAny_truthy_bool #[C,D,G]
def KW(r e:R2)(A tb p:TE):TE:=λY H Q=>A Y H λx f=>tb Y f λy g=>r x y g λz d=>∃k,z=.bl k/\
 (if k=true then p Y d λh i=>e y h i Q else Q (.bl false) d)
theorem KY(q:cP X (compareOp op) r)(i:cP X (compareOp g) j)(t:PE X a A)(hb:PE X b tb)(w:PE X c p)
  (B:lastMarks [op,g] [b,c]=false:=by with_unfolding_all rfl):PE X (.Compare a [op,g] [b,c] pos) (KW r j A tb p):=by
 refineλf s Y H Q I h=>Compare_chain (aR (t f s Y H _ I h) λv C ⟨x,D,I1,E,G⟩=>chain_link (aR (hb f C Y D _ I1 G) λu J ⟨y,L,M,l,N⟩=>
  aR (q f J Y L x y v u _ M E l N) λd O ⟨z,m,n,R,k,e,o⟩=>?_)) B
 subst e;cases R;apply wpAny_truthy_bool;cases k with
 |false=>exact ite_ff #[.bl false,m,n,rfl,o]
 |true=>exact ite_tt (chain_last (aR (w f O Y m _ n o) λS T ⟨z',U,Z,r4,q4⟩=>i f T Y U y z' u S Q Z l r4 q4))
theorem eO:(sizeLine:Nat)<2 ^ 63:=by rw[sizeLine_eq];decide
theorem vals1(r:bj [x] d):∃u,d=[u]/\aX x u:=by
 cases r with
 |cons e f=>cases f;exact#[_,rfl,e]
theorem vals2(r:bj [x,y] d):∃u e,d=[u,e]/\aX x u/\aX y e:=by
 cases r with
 |cons f g=>
  cases g with
  |cons h i=>cases i;exact#[_,_,rfl,f,h]
theorem zV(g:X.calm=true):eX X (.builtin "max") (λe H Q=>∃i j,e=[.int i,.int j]/\Q (.int (if j>i then j else i)) H):=by
 intro f s Y H e l Q I r h;obtain⟨i,j,rfl,q⟩:=h;obtain⟨u,m,rfl,⟨t,rfl⟩,⟨t',rfl⟩⟩:=vals2 r;refine max_two_ints (I.ok.hd g) λn o k=>#[_,H,I.kept k,?_,q]
 by_cases d:j>i
 .rw[if_pos d,if_pos d];exact#[_,rfl]
 .rw[if_neg d,if_neg d];exact#[_,rfl]
structure fW (h:Heap) (x dx C:Addr) (mA:Str->Option Value):Prop where
 obj:h.get? x=some (instObj C dx)
 ns:h.Ns1 dx mA
 ne:dx≠x
theorem KZ{h:Heap}(n:h.Ns1 c d):∃f,h.get? c=!f/\∀name,PySem.W.lookIn name f=!d name:=by
 obtain⟨o,es,m,g,hd,i,_,j⟩:=n;refine#[o,g,λname=>?_];have e:=j name;unfold nsFind findBy at e;rw[<-Array.find?_toList]at e;unfold PySem.W.lookIn;rw[hd];dsimp only;split
 .rename_i y q;rw[q]at e;exact congrArg some e
 .rename_i q;rw[q]at e;have a:es.toList.any (·.refKey)=false:=by rw[List.any_eq_false];intro y k;obtain⟨z,t,b⟩:=i y (q2D.mp k);simp[DictEntry.refKey,b]
  rw[if_neg (by rw[a];exact q0F)];exact congrArg some e
theorem fW.look(I:fW h x b C c):∃a,PySem.W.InstAt h x (instObj C b) C (!a)/\∀name,PySem.W.lookIn name a=!c name:=
 let⟨a,d,e⟩:=KZ I.ns
 #[a,#[I.obj,rfl,rfl,d],e]
theorem La{K:Frag}(X:K.In s.heap)(I:fW s.heap x q C n)(b:plainGet K C name=true)(c:PySem.W.hasDictIn K C=true)
  (d:findIn K (.ref C) name=!none) (e:n name=!v) (a:PySem.W.handedIn v=true) (h:Q v { s with toks:=s.toks+1 }) :
  wpAny (model prog w) A (getAttr (.ref x) name expr) Q E s:=by
 obtain⟨i,J,g⟩:=I.look;exact PySem.W.get_value X J (q2e b).1 (PySem.W.findObj_own c d rfl (by rw[g,e])) a h
theorem Lb{K:Frag}(X:K.In s.heap)(I:fW s.heap x q C n)(a:plainGet K C name=true)
  (b:findIn K (.ref C) name=!!.ref f) (c:PySem.W.isFn K (.ref f)=true) (d:n name=none) (h:Q (.ref f,[.ref x]) s) :
  wpAny (model prog w) A (getMethod (.ref x) name i) Q E s:=by
 obtain⟨e,J,g⟩:=I.look;exact PySem.W.method_fn X J (q2e a).1 (q2e a).2 b (beq_iff_eq.mp c) (by show(PySem.W.lookIn name e).map (·.isSome)=!false;rw[g,d];rfl) h
theorem Lc{K:Frag}(X:K.In s.heap)(I:fW s.heap x q C n)
  (m:findIn K (.ref C) "__setattr__" = !!.builtin "object.__setattr__") (o:PySem.W.plainOver K C=true) (p:PySem.W.takerIn K C name=!none) (t:PySem.W.hasDictIn K C=true)
  (u:PySem.Within n l) (z:l.length<=sizeLine)
  (h:∀e,fW e x q C (λy=>if y=name then some v else n y)->Heap.SameBut q s.heap e->Q () { s with heap:=e,toks:=s.toks+2 }) :
  wpAny (model prog w) A (setAttr (.ref x) name v) Q E s:=by
 obtain⟨L,J,M⟩:=I.look;refine PySem.W.set_plain X J m (PySem.W.osa_open X J o p λb=>?_);obtain⟨N,B,g⟩:=PySem.W.any_some t;refine aa (ao (aa (aa (wpAny_loadPart I.obj (aa (PySem.W.Looks.here (PySem.W.looks_clsIn X B) ?_))))));rw[g];refine ao (aa (ao (aa (wpAny_nsSet1 I.ns λe c d=>?_))));obtain⟨O,G,H,i,j,k⟩:=c.count (PySem.Within.cons name v u);exact aa (wpAny_lookBehind i (by rw[j];exact pastItsLine_dict (q0N k (by rw[q0i];lia))) (ao (h _ #[(d.2 _ I.ne.symm).trans I.obj,c,I.ne] d)))
theorem Ld{s:Shared}{K:Frag}(X:K.In s.heap)(b:PySem.W.makesIn K C=true)
  (c:findIn K (.ref C) "__init__" = !!.ref f) (e:PySem.W.typeIn K (.ref f)=!.type "function")
  (h:codeAny (model prog w) (A.under (.builtin "type.__call__" #[.ref C::vs,a])) (.call (.ref f) #[.ref (s.heap.objs.size+1)::vs,a]) (PySem.W.InitBack (s.heap.objs.size+1) R)
   { s with heap:=(s.heap.push emptyDict).push (instObj C s.heap.objs.size) }) :
  codeAny (model prog w) A (.call (.ref C) #[vs,a]) R s:=by
 obtain⟨i,g,d,t,os⟩:=s;exact PySem.W.make_core (PySem.W.makes_of X b) (PySem.W.looks_findIn X c) (λself=>PySem.W.bind_fn X self e) (.inl rfl) h
noncomputable def cQ(f:Str)(v:V):List (Str×V)->List (Str×V)
 |[]=>[(f,v)]
 |(g,x)::r=>if g=f then(g,v)::r else(g,x)::cQ f v r
theorem zW(f g v):∀fs,(cQ f v fs).lookup g=if g=f then some v else fs.lookup g
 |[]=>by
  show List.lookup g [(f,v)]=_
  by_cases h:g=f
  .simp only[List.lookup,(beq_iff_eq.mpr h),if_pos h]
  .simp only[List.lookup,(beq_eq_false_iff_ne.mpr h),if_neg h]
 | (k,x)::r=>by
  rw[show cQ f v ((k,x)::r)=(if k=f then(k,v)::r else(k,x)::cQ f v r) from rfl]
  by_cases a:k=f
  .rw[if_pos a]
   by_cases h:g=k
   .simp only[List.lookup,(beq_iff_eq.mpr h),if_pos (h.trans a)]
   .simp only[List.lookup,(beq_eq_false_iff_ne.mpr h),if_neg (λe:g=f=>h (e.trans a.symm))]
  .rw[if_neg a]
   by_cases h:g=k
   .simp only[List.lookup,(beq_iff_eq.mpr h),if_neg (λe=>a (h.symm.trans e))]
   .simp only[List.lookup,(beq_eq_false_iff_ne.mpr h)];exact (zW f g v r)
theorem vV(f v):∀fs,f∈(cQ f v fs).map (·.1)/\∀g,g∈fs.map (·.1)->g∈(cQ f v fs).map (·.1)
 |[]=>#[by simp[cQ],λg h=>by simp at h]
 | (k,x)::r=>by
  obtain⟨b,c⟩:=vV f v r;rw[show cQ f v ((k,x)::r)=(if k=f then(k,v)::r else(k,x)::cQ f v r) from rfl]
  by_cases a:k=f
  .rw[if_pos a];subst a;exact#[by simp,λg h=>by simpa using h]
  .rw[if_neg a];refine#[?_,λg h=>?_]
   .rw[q0d];exact bH _ b
   .rw[q0d]at h ⊢;rcases q0e.mp h with e |e
    .exact q0e.mpr (.inl e)
    .exact bH _ (c g e)
theorem zX(f v):∀fs,(cQ f v fs).length<=fs.length+1
 |[]=>by simp[cQ]
 | (k,x)::r=>by
  have b:=zX f v r;rw[show cQ f v ((k,x)::r)=(if k=f then(k,v)::r else(k,x)::cQ f v r) from rfl]
  by_cases a:k=f
  .rw[if_pos a,q0i,q0i];lia
  .rw[if_neg a,q0i,q0i];lia
theorem eW.some_of(r:eW (!v) o):∃u,o=!u/\aX v u:=by
 cases o with
 |none=>exact(r).elim
 |some u=>exact#[u,rfl,r]
theorem eW.none_of(r:eW none o):o=none:=by
 cases o with
 |none=>rfl
 |some u=>exact(r).elim
theorem Lf(r:aX v u):PySem.W.handedIn u=true:=by
 cases v with
 |non=>cases(r);rfl
 |bl b=>cases(r);rfl
 |int i=>obtain⟨t,e⟩:=(r);cases e;rfl
 |str x=>obtain⟨t,e⟩:=(r);cases e;rfl
 |byt b=>obtain⟨t,e⟩:=(r);cases e;rfl
 |flt b=>obtain⟨t,e⟩:=(r);cases e;rfl
 |ref a=>cases(r);rfl
 |ty n=>cases(r);rfl
theorem rY(c:bM P w H h)(e:H a=!.ins C I fs):∃b,fW h a I C b/\(∀f,eW (fs.lookup f) (b f))/\PySem.Within b (fs.map (·.1))/\fs.length<=1000/\H I=!.own a:=by
 obtain⟨d,z,ne,ob,b,n,r,q⟩:=(c a _ e)
 exact#[b,#[ob,n,ne],r,q,z,d]
structure dm (K:Frag) (C:Addr):Prop where
 pg:plainGet K C Str.empty=true
 hd:PySem.W.hasDictIn K C=true
 po:PySem.W.plainOver K C=true
 sa:findIn K (.ref C) "__setattr__" = !some (.builtin "object.__setattr__")
theorem dm.get{K}(c:dm K C)(f):plainGet K C f=true:=c.pg
def cT(K:Frag)(C:Addr)(f:Str):Prop:=findIn K (.ref C) f=!none
theorem cT.taker{K}(n:cT K C f):PySem.W.takerIn K C f=!none:=by unfold PySem.W.takerIn;rw[n];rfl
structure iQ (K:Frag) (C:Addr) (m:Str) (f:Addr):Prop where
 at_:findIn K (.ref C) m=some (!.ref f)
 fn:PySem.W.isFn K (.ref f)=true
 kp:keepIn K (.ref f)=true
theorem zY{Y:St}(I:Inv X j Y H s)(e:H a=!.ins C i fs)(c:dm X.K C)(n:cT X.K C f)(l:fs.lookup f=!v)
  (h:∀u d,Inv X j Y H d->aX v u->Q u d):wpAny (model X.prog X.w) A (getAttr (.ref a) f b) Q E s:=by
 obtain⟨g,O,r,_,_,_⟩:=rY I.hok e;obtain⟨u,k,ru⟩:=eW.some_of (by rw[<-l];exact r f);exact La I.kIn O (c.get f) c.hd n k (Lf ru) (h u _ (I.tok _) ru)
theorem zZ{Y:St}(I:Inv X j Y H s)(e:H a=!.ins C i fs)(c:dm X.K C)(k:iQ X.K C m g)(l:fs.lookup m=none)
  (h:Q (.ref g,[.ref a]) s):wpAny (model X.prog X.w) A (getMethod (.ref a) m n) Q E s:=by
 obtain⟨b,O,r,_,_,_⟩:=rY I.hok e;exact Lb I.kIn O (c.get m) k.at_ k.fn (eW.none_of (by rw[<-l];exact r m)) h
theorem Aa{Y:St}(I:Inv X j Y H s)(e:H a=!.ins C i fs)(c:dm X.K C)(n:cT X.K C f)(N:fs.length<1000)(t:aX y u)
  (h:∀k,Inv X j Y (aL H a (.ins C i (cQ f y fs))) k->Q () k):wpAny (model X.prog X.w) A (setAttr (.ref a) f u) Q E s:=by
 obtain⟨l,O,r,m,_,p⟩:=rY I.hok e;refine Lc I.kIn O c.sa c.po n.taker c.hd m (by rw[q0b,sizeLine_eq];lia) λD d G=>h _ (I.write (by rw[e];exact True.intro) (.inr p) (λb q M z=>(G.2 b M).trans z) (let⟨o,_,_,J,_⟩:=d.ns;#[o,J]) (#[by rw[bw O.ne];exact p,?_,O.ne,d.obj,_,d.ns,λg=>?_,λg L=>?_]))
 .have:=zX f y fs;lia
 .rw[zW]
  by_cases q:g=f
  .rw[if_pos q,if_pos q];exact t
  .rw[if_neg q,if_neg q];exact r g
 .by_cases q:g=f
  .rw[q];exact(vV f y fs).1
  .refine(vV f y fs).2 g (m g λz=>L ?_);show(if g=f then some u else l g)=none;rw[if_neg q];exact z
theorem Inv.made{Y:St}(I:Inv X j Y H s):Inv X j Y (aL (aL H s.heap.objs.size (.own (s.heap.objs.size+1))) (s.heap.objs.size+1) (.ins C s.heap.objs.size []))
  { s with heap:=(s.heap.push emptyDict).push (instObj C s.heap.objs.size) }:=by
 have c:(s.heap.push emptyDict).get? s.heap.objs.size=!emptyDict:=Heap.get?_push_size s.heap rfl;have d:=by
  have:=Heap.get?_push_size (s.heap.push emptyDict) (o:=instObj C s.heap.objs.size) rfl
  rwa [Heap.size_push]at this
 apply (I.laid (o:=.own (s.heap.objs.size+1)) (t':=s.toks) (λb u q=>aK _ q) (aP _) #[_,c]).laid (λb u q=>aK _ q) (q23 (Heap.size_push _ _));have ne:s.heap.objs.size≠s.heap.objs.size+1:=q0q (q06 _);refine#[by rw[bw ne,cF],q0L _,ne,d,λ_=>none,(Heap.Ns1.of_empty (#[emptyDict,#[],_,c,rfl,(λe h=>absurd h 'c'),λ_=>rfl])).at λo q=>aK _ q,λ_=>True.intro,λy k=>absurd rfl k]
theorem Lg(g:attributeBase e f c (eval e c)=eval e c)
  (h:wpAny (model b w) A (eval e c) (λo d=>wpAny (model b w) A (getAttr o f true) Q E d) E s):wpAny (model b w) A (eval (.Attribute e f pos) c) Q E s:=
 Attribute_any_ h (by rw[arm_eval_Attribute,g])
def Lh(K:Frag)(c:TE)(f:Str):TE:=λY H Q=>c Y H λx b=>∃a C d fs v,x=.ref a/\b a=!.ins C d fs/\dm K C/\cT K C f/\fs.lookup f=!v/\Q v b
def Li(K:Frag)(d e:TE)(f:Str):TS:=λD Y H=>e Y H λy g=>d Y g λx b=>∃a C c fs,x=.ref a/\b a=!.ins C c fs/\dm K C/\cT K C f/\fs.length<1000/\
 D.nx Y (aL b a (.ins C c (cQ f y fs)))
def Ab(X:Cx)(op:Operator)(rd:V->V->Hp->VK->Prop):Prop:=
 ∀(a:List (Addr×Obj)) (s:Shared) (Y:St) (H:Hp) (x y:V) (u v:Value) (Q:VK),Inv X a Y H s->aX x u->aX y v->rd x y H Q->wpAny (model X.prog X.w) X.A (inplaceOp op u v) (EP X a Y Q) X.xe s
def Lj(K:Frag)(g h:TE)(rd:V->V->Hp->VK->Prop)(f:Str):TS:=λD Y H=>g Y H λx d=>∃a C i fs v,x=.ref a/\d a=!.ins C i fs/\dm K C/\cT K C f/\fs.lookup f=!v/\
 h Y d λy j=>rd v y j λz e=>∃c b,e a=!.ins C c b/\b.length<1000/\D.nx Y (aL e a (.ins C c (cQ f z b)))
theorem nE(j:PE X e k)(y:attributeBase e f X.env (eval e X.env)=eval e X.env):PE X (.Attribute e f pos) (Lh X.K k f):=by refineλb s Y H Q I h=>Lg y (aR (j b s Y H _ I h) λu z i=>?_);obtain⟨x,m,I1,p,a,C,A,fs,v,ex,t,c,n,l,q⟩:=i;subst ex;obtain rfl:u=Value.ref a:=p;exact zY I1 t c n l λB D w ru=>#[v,m,w,ru,q]
theorem rZ(j:PE X o k)(m:PE X value d)(p:swapsWith value (!.Attribute o f r) pos.line X.env=pure false):PS X (.Assign [.Attribute o f r] value pos) (Li X.K k d f):=by refineλb s Y H D I h=>plainObj_wpAny_Assign_Attribute (aR (m b s Y H _ I h) λu t ⟨y,v,I1,w,q⟩=>aR (j b t Y v _ I1 q) λz L i=>?_) p;obtain⟨x,M,A,B,a,C,N,fs,ex,E,c,n,l,G⟩:=i;subst ex;obtain rfl:z=Value.ref a:=B;exact Aa A E c n l w λO J=>#[Y,_,J,G]
theorem Lk(t:PE X o k)(w:PE X value d)(m:Ab X op rd):PS X (.AugAssign (.Attribute o f g) op value pos) (Lj X.K k d rd f):=by intro b s Y H D I h;refine wpAny_AugAssign_AttributeAny (aR (t b s Y H _ I h) λA s1 i=>?_);obtain⟨x,B,I1,E,a,C,dx,fs,v,ex,G,c,n,l,q⟩:=i;subst ex;obtain rfl:A=Value.ref a:=E;refine zY I1 G c n l λu J L ru=>aR (w b J Y B _ L q) λM N ⟨y,O,Q,R,S⟩=>aR (m b N Y O v y u M _ Q ru R S) λw4 s4 j=>?_;obtain⟨z,H3,T,U,Z,a0,p,l',q4⟩:=j;exact Aa T p c n l' U λs5 I5=>#[Y,_,I5,q4]
def Ll:V->V->Hp->VK->Prop:=λx y H Q=>∃i j,x=.int i/\y=.int j/\Q (.int (i+j)) H
theorem Lm:Ab X .Add Ll:=by
 rintro a s Y H x y u v Q I b c ⟨i,j,rfl,rfl,q⟩;obtain⟨t,rfl⟩:=(b)
 obtain⟨t',rfl⟩:=(c)
 exact PyProof.Rows.iadd_int #[.int (i+j),H,I.tok _,#[_,rfl],q]
inductive dq (K:Frag) (H:Hp):V->Value->Prop where
 |non:dq K H .non (.type "NoneType")
 |bl (x:Bool):dq K H (.bl x) (.type "bool")
 |int (i:Int):dq K H (.int i) (.type "int")
 |str (x:Str):dq K H (.str x) (.type "str")
 |flt (x:UInt64):dq K H (.flt x) (.type "float")
 |lst {a:Addr}{xs:List V}(e:H a=!.lst xs):dq K H (.ref a) (.type "list")
 |frz {a:Addr}{o:Obj}{xs:List V}(e:H a=!.frz o (.lst xs)):dq K H (.ref a) (.type "list")
 |tup {a:Addr}{xs:List V}(e:H a=!.tup xs):dq K H (.ref a) (.type "tuple")
 |dK {a:Addr}{kvs:List (aQ×V)}(e:H a=!.dK kvs):dq K H (.ref a) (.type "dict")
 |dT {a:Addr}{kvs:List (List aQ×V)}(e:H a=!.dT kvs):dq K H (.ref a) (.type "dict")
 |ins {a C dx:Addr}{fs:List (Str×V)}(e:H a=!.ins C dx fs) (cl:dm K C) (ha:findIn K (.ref C) "__class__" = !!.builtin "object.__class__")
   (hn:PySem.W.specialIn K (.builtin "object.__class__") "__get__" = !!.builtin "getset_descriptor.__get__") (htk:PySem.W.takesIn K (.builtin "object.__class__")=!true)
   (hm:PySem.W.mroIn K C (.type "object")=!true):dq K H (.ref a) (.ref C)
theorem pC{Y:St}(I:Inv X pins Y H s)(d:aX x u)(ty:dq X.K H x t)(e:kitOne X.K t c=!b)(h:∀l,Q (.bool b) { s with toks:=l }) :
  wpAny (model X.prog X.w) A (call (.builtin "isinstance") [u,c]) Q E s:=by
 cases ty with
 |non=>cases(d);exact kia_one PySem.W.kitx_none I.kIn True.intro e (λz=>nomatch z) h
 |bl y=>cases(d);exact kia_one PySem.W.kitx_bool I.kIn True.intro e (λz=>nomatch z) h
 |int i=>obtain⟨t,q⟩:=(d);cases q;exact kia_one PySem.W.kitx_int I.kIn True.intro e (λz=>nomatch z) h
 |str y=>obtain⟨t,q⟩:=(d);cases q;exact kia_one PySem.W.kitx_str I.kIn True.intro e (λz=>nomatch z) h
 |flt y=>obtain⟨t,q⟩:=(d);cases q;exact kia_one PySem.W.kitx_float I.kIn True.intro e (λz=>nomatch z) h
 | @lst a j f=>
  cases(d);obtain⟨_,_,n,_,h1⟩:=(I.hok a _ f)
  exact kia_one PySem.W.kitx_list I.kIn #[_,h1,rfl] e (λz=>nomatch z) h
 | @frz a ob j f=>
  cases(d);obtain⟨_,_,_,n,_,h1⟩:=(I.hok a _ f)
  exact kia_one PySem.W.kitx_list I.kIn #[_,h1,rfl] e (λz=>nomatch z) h
 | @tup a j f=>
  cases(d);obtain⟨_,_,_,p⟩:=(I.hok a _ f)
  obtain⟨o,h1,h2,_⟩:=p;exact kia_one PySem.W.kitx_tuple I.kIn #[o,h1,h2] e (λz=>nomatch z) h
 | @dK a g f=>
  cases(d);obtain⟨_,_,vs,_,p⟩:=(I.hok a _ f)
  obtain⟨o,es,m,h1,h2,_⟩:=p;exact kia_one PySem.W.kitx_dict I.kIn #[o,h1,h2.1] e (λz=>nomatch z) h
 | @dT a g f=>
  cases(d);obtain⟨_,_,j,_,o,es,m,h1,h2,_⟩:=(I.hok a _ f)
  exact kia_one PySem.W.kitx_dict I.kIn #[o,h1,h2.1] e (λz=>nomatch z) h
 | @ins a C D fs f cl r v k B=>cases(d);obtain⟨G,O,_⟩:=rY I.hok f;obtain⟨L,J,_⟩:=O.look;exact kia_one (PySem.W.kitx_own (cl.get _) cl.hd r v k B) I.kIn J e (λz=>nomatch z) h
structure bx (k:Nat) (A:Around):Prop where
 hd:A.handled=none
 dp:A.depth+3 * k+5<recursionLimit
 un:A.units+16 * k+200<cLine
theorem bx.mono(r:bx k A)(h:j<=k):bx j A:=#[r.hd,by have:=r.dp;lia,by have:=r.un;lia]
theorem bx.deeper(r:bx (k+1) A)(a):bx k (A.deeper a):=
 #[r.hd,by have:=r.dp;show A.depth+1+3 * k+5<_;lia,by have:=r.un;show A.units+3+16 * k+200<_;lia]
theorem Ln{A:Around}:(A.under (.builtin "type.__call__" #[.ref C::a,b])).depth=A.depth+1:=by first |rfl |simp
theorem Lo{A:Around}:(A.under (.builtin "type.__call__" #[.ref C::a,b])).units=A.units+1:=by first |rfl |simp
theorem bx.make(r:bx (k+1) A)(C a b):bx k (A.under (.builtin "type.__call__" #[.ref C::a,b])):=
 #[r.hd,by have:=r.dp;rw[Ln];lia,by have:=r.un;rw[Lo];lia]
theorem bx.depth(r:bx k A):A.depth<recursionLimit:=by have:=r.dp;lia
theorem bx.units(r:bx k A):A.units+64<cLine:=by have:=r.un;lia
def Ac:TA:=λ_ H Q=>Q [] H
def Ad(a:TE)(e:TA):TA:=λY H Q=>a Y H λx b=>e Y b λc d=>Q (x::c) d
theorem eB:PA X [] Ac:=λ_ _ _ _ H Q I h=>Calls.spliced_nil #[[],H,I,.nil,h]
theorem dJ(d:PE X e te)(f:PA X es t)(g:autoParam (starEach (e::es) X.env=(false,eval e X.env)::starEach es X.env) Zq._auto_1):PA X (e::es) (Ad te t):=by intro pos a s Y H Q I h;rw[g];refine Calls.spliced_cons (aR (d a s Y H _ I h) λu i b=>?_);obtain⟨x,j,I1,k,l⟩:=b;exact aR (f pos a i Y j _ I1 l) λr v c=>by obtain⟨m,n,o,p,q⟩:=c;exact#[x::m,n,o,.cons k p,q]
def Lp(t:TA):TE:=λY H Q=>t Y H λa b=>a.length<=sizeLine/\∀p,b p=none->Q (.ref p) (aL b p (.tup a))
def Lq(t:TA):TE:=λY H Q=>t Y H λa b=>a.length<=sizeLine/\∀p,b p=none->Q (.ref p) (aL b p (.lst a))
theorem vW(h:PA X es t):PE X (.Tuple es f pos) (Lp t):=by refineλa s Y H Q I g=>wpAny_Tuple_spliced (aR (h pos a s Y H _ I g) λi c ⟨j,d,I1,r,z,q⟩=>#[by rw[<-r.length];exact z,#[.ref c.heap.objs.size,aL d c.heap.objs.size (.tup j),I1.laid (λb u e=>aK _ e) (aP _) ?_,rfl,q _ (I1.hok.fresh (aP _))]]);exact#[z,i,r,#[_,Heap.get?_push_size _ rfl,rfl,_,rfl]]
theorem se(h:PA X es t):PE X (.List es pos) (Lq t):=by refineλa s Y H Q I f=>wpAny_List_spliced (aR (h pos a s Y H _ I f) λg c ⟨i,d,I1,r,z,q⟩=>#[by rw[<-r.length];exact z,#[.ref c.heap.objs.size,aL d c.heap.objs.size (.lst i),I1.laid (λb u e=>aK _ e) (aP _) ?_,rfl,q _ (I1.hok.fresh (aP _))]]);exact#[z,g,0,r,Heap.get?_push_size _ rfl]
abbrev Sp:=List V->Hp->VK->XK->Prop
abbrev iR:=List Env->Hp->Shared->XK->Value->Shared->Prop
structure fX (P:Program) (w:World) (K:Frag) (mg:Str->Option Value) (base:Heap) (A:Around) (outer:List Env) (s:Shared) (H:Hp):Prop where
 frames:A.frames=some outer
 mod:Mod K mg base
 bs:∀b o,base.get? b=!o->s.heap.get? b=!o/\H b=none
 bsz:base.objs.size<=s.heap.objs.size
 funs:s.heap.FunFrames base outer
 frf:∀b∈bV outer,H b=none
 hok:bM P w H s.heap
 bare:AllBare s.gens
def CE(a:List Env)(P:Program)(w:World)(H:Hp)(s:Shared)(Q:VK)(u:Value)(b:Shared):Prop:=
 ∃v c,b.os=s.os/\AllBare b.gens/\Un (bV a) [] H c s.heap b.heap/\bM P w c b.heap/\aX v u/\Q v c
def CR(c:iR)(a:List Env)(P:Program)(w:World)(H:Hp)(s:Shared)(Q:VK)(E:XK)(r:Result)(b:Shared):Prop:=
 match r with
 |.ok (.ret u)=>CE a P w H s Q u b
 |.ok _=>False
 |.error e=>c a H s E e b
structure cD (P:Program) (w:World) (K:Frag) (mg:Str->Option Value) (base:Heap) (CX:iR) (k:Nat) (f:Addr) (fd:FuncData) (ps:List Str) (sp:Sp):Prop where
 len:∀vs H Q E,sp vs H Q E->vs.length=ps.length
 run:∀(A:Around) (outer:List Env) (s:Shared) (H:Hp) (args:Args) (us:List Value) (vs:List V) (Q:VK) (E:XK),bx k A->fX P w K mg base A outer s H->BindsTo s fd args (ps.zip us)->bj vs us->sp vs H Q E->
  codeAny (model P w) A (.call (.ref f) args) (CR CX outer P w H s Q E) s
theorem cD.imp{K}(F:cD P w K g base c k f fd d e)
  (h:∀vs H Q E,b vs H Q E->e vs H Q E):cD P w K g base c k f fd d b:=
 #[λvs H Q E q=>F.len vs H Q E (h _ _ _ _ q),λA a s H args i vs Q E j l o m n=>F.run A a s H args i vs Q E j l o m (h _ _ _ _ n)]
theorem fX.make{K}(e:fX P w K b base A a s H)(C c)(d) :
  fX P w K b base (A.under (.builtin "type.__call__" #[.ref C::c,d])) a s H:=#[by first |exact e.frames |(simpa[pushEnvs] using e.frames),e.mod,e.bs,e.bsz,e.funs,e.frf,e.hok,e.bare]
theorem Inv.env0{Y:St}(I:Inv X pins Y H s):fX X.prog X.w X.K X.mg X.base X.A X.stack s H:=
 #[I.ok.frames,I.ok.mod,I.bs,q0N I.ok.bsz I.sz,I.stack,I.stkFree,I.hok,I.bare]
theorem Inv.after{Y:St}(I:Inv X pins Y H s)(h:CE X.stack X.prog X.w H s Q u s'):EP X pins Y Q u s':=by obtain⟨v,c,os,bare,un,hok,r,q⟩:=h;obtain⟨e,g,d,t,a⟩:=s';obtain rfl:a = s.os:=os;exact#[v,c,I.call un hok bare (λb z=>absurd z 'c'),r,q]
def jw(K:Frag)(fd:FuncData)(b:List Str)(c:List Value):Prop:=
 ∀(s:Shared) (a:List Value),K.In s.heap->(a++c).length=b.length->BindsTo s fd #[a,[]] (b.zip (a++c))
theorem jw.all{K}(h:∀a,a.length=b.length->bindArgs fd #[a,[]]=pure (b.zip a)):jw K fd b []:=λs a _ c=>by rw[q0G]at c ⊢;exact .of_eq (h a c)
structure Mk (K:Frag) (C f:Addr):Prop where
 makes:PySem.W.makesIn K C=true
 init:findIn K (.ref C) "__init__" = some (!.ref f)
 fn:PySem.W.isFn K (.ref f)=true
 kp:keepIn K (.ref C)=true
def PK(X:Cx)(b:List Keyword)(t:TA):Prop:=
 ∀(pos:Pos) (a:List (Addr×Obj)) (s:Shared) (Y:St) (H:Hp) (Q:List V->Hp->Prop),Inv X a Y H s->t Y H Q->wpAny (model X.prog X.w) X.A (evalAll ((backToKw pos (keywordEach b X.env)).map (·.2))) (AP X a Y Q) X.xe s
theorem Lr:PK X [] Ac:=λ_ _ _ _ H Q I h=>wpAny_evalAll_nil #[[],H,I,.nil,h]
theorem Ls(b:PE X e te)(c:PK X kws t):PK X (#[nm,e,kpos]::kws) (Ad te t):=λpos a s Y H Q I h=>wpAny_evalAll_cons (aa (aR (b a s Y H _ I h) λu d ⟨x,g,I1,i,j⟩=>aa (wpAny_standAt (ao (aR (c pos a d Y g _ I1 j) λy z ⟨l,n,q,r,w⟩=>#[x::l,n,q,.cons i r,w])))))
structure cx (N P:List Str) (sc:Scope):Prop where
 kind:sc.kind=.function
 co:sc.isCoroutine=false
 gen:sc.isGenerator=false
 nd:N.Nodup
 pre:N.take P.length=P
 par:∀x∈P,sc.names.lookup x=!.local\/sc.names.lookup x=some .cell
 nofree:∀y∈sc.names,y.2≠.free
theorem Ae{kindOf}:∀{binds m},(∀v,(x,v)∉binds)->bindL kindOf binds m x=m x
 |[],_,_=>rfl
 | (n,v)::r,m,h=>by
  unfold bindL;rw[Ae λw a=>h w (bH _ a)];split
  .have:x≠n:=by rintro rfl;exact h v q0h
   simp[this]
  .rfl
theorem Af{kindOf}:∀{binds m},(∀v,(x,v)∉binds)->bindC kindOf binds m x=m x
 |[],_,_=>rfl
 | (n,v)::r,m,h=>by
  unfold bindC;rw[Af λw a=>h w (bH _ a)];split
  .rfl
  .have:x≠n:=by rintro rfl;exact h v q0h
   simp[this]
theorem Ag{kindOf}:∀{P:List Str}{vs}{i:Nat}{m},P.Nodup->P[i]? = !x->vs[i]? = !v->kindOf x=!.local->
  bindL kindOf (P.zip vs) m x=some v
 |[],_,_,_,_,h,_,_=>by simp at h
 |_::_,[],_,_,_,_,h,_=>by simp at h
 |p::P,w::vs,0,m,nd,h1,h2,a=>by simp at h1 h2;subst h1;subst h2;show bindL kindOf ((p,w)::P.zip vs) m p=_;unfold bindL;rw[Ae λv b=>(q0V.mp nd).1 (q2f b).1,if_pos a];simp
 |p::P,w::vs,i+1,m,nd,h1,h2,a=>by unfold bindL;exact Ag (q0V.mp nd).2 (by simpa using h1) (by simpa using h2) a
theorem Ah{kindOf}:∀{P:List Str}{vs}{i:Nat}{m},P.Nodup->P[i]? = !x->vs[i]? = !v->kindOf x≠!.local->
  bindC kindOf (P.zip vs) m x=some v
 |[],_,_,_,_,h,_,_=>by simp at h
 |_::_,[],_,_,_,_,h,_=>by simp at h
 |p::P,w::vs,0,m,nd,h1,h2,a=>by simp at h1 h2;subst h1;subst h2;show bindC kindOf ((p,w)::P.zip vs) m p=_;unfold bindC;rw[Af λv b=>(q0V.mp nd).1 (q2f b).1,if_neg a];simp
 |p::P,w::vs,i+1,m,nd,h1,h2,a=>by unfold bindC;exact Ah (q0V.mp nd).2 (by simpa using h1) (by simpa using h2) a
noncomputable def start(N:List Str)(vs:List V):St:=vs.map some++List.replicate (N.length - vs.length) none
noncomputable def im(CX:iR)(P:Program)(w:World)(K:Frag)(mg:Str->Option Value)(base:Heap)(N:List Str)(qual:Str)(scope:Scope)(f:Addr)(cd:Value)(A:Around)(outer:List Env)(s:Shared)(H:Hp)(E:XK):Cx where
 prog:=P
 w:=w
 K:=K
 mg:=mg
 base:=base
 A:=A.deeper (envOfC qual scope s.heap.objs.size f cd)
 N:=N
 s₀:=s
 H₀:=H
 env:=envOfC qual scope s.heap.objs.size f cd
 outer:=outer
 stack:=envOfC qual scope s.heap.objs.size f cd::outer
 ex:=[]
 calm:=true
 fn:=λ_=>true
 pn:=[]
 xe:=λe s'=>wpAny (model P w) (A.deeper (envOfC qual scope s.heap.objs.size f cd)) (leaving (envOfC qual scope s.heap.objs.size f cd) e) (λ_ s''=>CX outer H s E e s'') (λe' s''=>CX outer H s E e' s'') s'
theorem Ai{a:Scope}(h:a.names.lookup x=!.cell):∃c,(cellsFrom n a.names []).lookup x=!c:=q0W.mp (q2N a.names n [] (.inl h))
theorem Lu{K}
  (S:cx N o d) (hd:A.handled=none) (m:fX P w K M base A g s H) (Z:vs.length=o.length) (r:bj vs L)
  (x:InCallC s s.heap.objs.size (bindL (envOfC j d s.heap.objs.size f G).kindOf (o.zip L) λ_=>none) (cellsFrom (s.heap.objs.size+1) d.names []) (bindC (envOfC j d s.heap.objs.size f G).kindOf (o.zip L) λ_=>none) Q) :
  Inv (im O P w K M base N j d f G A g s H E) [] (start N vs) H Q:=by
 have U:=by have:=congrArg List.length S.pre;rw[q1w]at this;lia
 obtain⟨J,tk,rfl,R⟩:=x.done;have t:∀b:Addr,b∉(im O P w K M base N j d f G A g s H E).ex:=λb z=>absurd (show b∈([]) from z) 'c';refine#[#[m.mod,S.kind,rfl,rfl,aP _,λy z c J l=>name_of_addr x.apart (q0X J) (q0X l),λy B=>?_,λy c _ h=>q1y (x.above y c (q0X h)),λ_=>hd,Around.frames_deeper m.frames,.inr #[rfl,rfl],λb z=>absurd z (t b),m.bs,m.bsz,λb _ _=>t b,λb z=>absurd z (t b),m.funs,m.frf],
  rfl,m.bare,Un.kept R,#[_,x.toInCall.ns,λi y v J l h3=>?_],λy c h=>#[_,x.cell y c h],m.hok.fresh (aP _),λy c h=>m.hok.fresh (q1y (x.above y c (q0X h))),λp C=>absurd (show p∈([]) from C) 'c',m.hok.kept R,?_]
 .rcases B with B |B
  .exact Ai B
  .exact absurd rfl (S.nofree _ (q0X B))
 .have I:i<vs.length:=by
   unfold start at l
   by_cases I:i<vs.length
   .exact I
   .rw[q0M (by simpa using I)]at l;rw[q1C]at l;split at l<;>cases l
  have X:vs[i]? = !v:=by
   unfold start at l;rw[q0S (by simpa using I),q0k]at l;cases e:vs[i]? with
   |none=>rw[e]at l;cases l
   |some a=>rw[e]at l;cases l;rfl
  obtain⟨u,T,Y⟩:=r.get X;have C:o[i]? = !y:=by rw[<-S.pre,q2z 'b'];exact J
  have D:o.Nodup:=by rw[<-S.pre];exact S.nd.sublist (List.take_sublist _ _)
  refine#[u,Y,?_];rcases S.par y (q0A C) with k |k
  .exact .inl #[k,Ag D C T k]
  .obtain⟨c,e⟩:=Ai k;refine .inr #[.inl k,c,e,?_];have q:=x.cell y c e;rw[Ah D C T (by show d.names.lookup y≠_;rw[k];decide)]at q;exact q
 .unfold start;show _=N.length;rw[q0u,q0b,q1h];lia
theorem Lv{K}{kV }
  (lk:K.lookup f=!#[oc,od,.func (fnOf name d h body a dV kV p pm Z g ct),M]) (R:codeIn K g d=true) (S:cx N D a)
  (len:∀vs H Q E,O vs H Q E->vs.length=D.length)
  (j:∀A  c  s  H  vs  Q  E,bx k (A.deeper (envOfC d a s.heap.objs.size f g))->O vs H Q E->
   ∃t,PSs (im C P w K L base N d a f g A c s H E) body t/\t { nx:=λ_ i=>Q .non i,rt:=Q } (start N vs) H) :
  cD P w K L base C (k+1) f (fnOf name d h body a dV kV p pm Z g ct) D O:=by
 refine#[len,λA c s H args us vs Q E T z hb r B=>?_];have KX:=z.mod.kin.keeps λb o e=>(z.bs b o e).1;have l:∀y∈D.zip us,a.names.lookup y.1=!.local\/(a.names.lookup y.1=!.cell/\((cellsFrom (s.heap.objs.size+1) a.names []).lookup y.1).isSome=true):=λ⟨n,v⟩ hy=>by
  rcases S.par n (q2f hy).1 with q |q
  .exact .inl q
  .exact .inr #[q,q2N _ _ _ (.inl q)]
 refine codeAny_call_function T.depth (KX _ _ lk) rfl S.co S.gen rfl (PySem.W.codeRec_of KX R) (hb _ _ _ _ (wpAny_newFunctionEnv_cells S.kind l λa0 he s1 x=>?_));subst he;refine#[(z.mod.nolimit.keeps λb o e=>(z.bs b o e).1).keeps x.toInCall.keep,codeAny_func ?_];obtain⟨t,ht,hq⟩:=j A c s H vs Q E (T.deeper _) B;refine wpAny_mono (ht [] s1 (start N vs) H _ (Lu S T.hd z (len _ _ _ _ B) r x) hq) (λfl X m=>?_) λe X m=>m;have fin:∀{G:St}{i:Hp}{v:V}{u:Value},Inv (im C P w K L base N d a f g A c s H E) [] G i X->aX v u->Q v i->CE c P w H s Q u X:=
  λ{G i v u} J Y q=>#[v,i,J.os,J.bare,J.base,J.hok,Y,q]
 cases fl with
 |ret u=>obtain⟨v,G,i,J,Y,q⟩:=m;exact fin J Y q
 |next=>obtain⟨G,i,J,q⟩:=m;exact fin (v:=V.non) J rfl q
 |brk=>obtain⟨_,_,_,q⟩:=m;exact False.elim q
 |cont=>obtain⟨_,_,_,q⟩:=m;exact False.elim q
def vX(r:List V->Hp->VK->Prop)(t:TA):TE:=λY H Q=>t Y H λvs a=>r vs a Q
theorem lQ{p:Pos}{pos:Pos}{id:String}(f:eX X (.builtin id) r)(g:Gl X x)(i:X.mg x=none)(j:bootBuiltins x=!.builtin id)(k:PA X (e::es) t)(l:autoParam (x≠"__name__") Zr._auto_1)(c:autoParam ((x==("__debug__":Str))=false) Zr._auto_1)
  (m:autoParam (starEach (e::es) X.env=(false,eval e X.env)::starEach es X.env) Zq._auto_1) (d:autoParam ((backTo pos (starEach es X.env)).any (·.1)=false) Zq._auto_1):PE X (.Call (.Name x p) (e::es) [] pos) (vX r t):=by
 refineλa s Y H Q I h=>wpAny_Call_Name_kw (jX I g i j ?_ l c);exact PyProof.Rows.callWith_builtin1 (aR (k pos a s Y H _ I h) λn o b=>by obtain⟨vs,q,I1,u,v⟩:=b;exact f a o Y q vs n Q I1 u v) m d
theorem sf{p:Pos}{pos:Pos}(d:eX X (.type T) r)(f:Gl X x)(g:X.mg x=none)(i:bootBuiltins x=!.type T)(j:PA X (e::es) t)(k:autoParam (x≠"__name__") Zr._auto_1)(b:autoParam ((x==("__debug__":Str))=false) Zr._auto_1)
  (l:autoParam (starEach (e::es) X.env=(false,eval e X.env)::starEach es X.env) Zq._auto_1) (c:autoParam ((backTo pos (starEach es X.env)).any (·.1)=false) Zq._auto_1):PE X (.Call (.Name x p) (e::es) [] pos) (vX r t):=by
 refineλa s Y H Q I h=>wpAny_Call_Name_kw (jX I f g i ?_ k b);exact PyProof.Rows.callWith_type1 (aR (j pos a s Y H _ I h) λm n ⟨vs,o,I1,q,u⟩=>d a n Y o vs m Q I1 q u) l c
end L2
namespace HT
open PySem PyProof.Rows
noncomputable def lexLt:List Int->List Int->Bool
 |[],[]=>false
 |[],_::_=>true
 |_::_,[]=>false
 |x::a,y::b=>if x=y then lexLt a b else decide (x<y)
theorem lexLt_cons(x y a b):lexLt (x::a) (y::b)=if x=y then lexLt a b else decide (x<y):=rfl
theorem lexLt_nil_nil:lexLt [] []=false:=rfl
theorem Lw(y a):lexLt [] (y::a)=true:=rfl
theorem Lx(x a):lexLt (x::a) []=false:=rfl
theorem Ly(A s a t c u):∃e,SeqAt.EqAt A s (.int a t) (.int c u) e/\(e=true↔a=c):=
 #[(a==c),SeqAt.EqAt.int_int a t c u,by simp]
theorem Lz(A s a t c u b w E Q)(h:Q (.bool (decide (a<c))) s) :
  wpAny (model b w) A (richCompare .Lt (.int a t) (.int c u)) Q E s:=
 (PyProof.Rows.lt_int h)
section
open PySem.SeqAt
open PySem.AutoSeq1 (wpAny_loadPart')
open PySem.MeetsSeq PySem.MeetsSeq2 PySem.MeetsSeq3
theorem LA(l b)(items f)(n Y dd M sl N L G)(T:IntsAre items.toList L)(U:IntsAre f.toList G) :
  Meets (Builtin.«tuple.__lt__» #[[.ref l,.ref b],[]])
   (λ_ R s=>s.heap.get? l=some { cls:=.type "tuple",dict:=dd,data:=.seq items n,slots:=sl }/\s.heap.get? b=some { cls:=.type "tuple",dict:=M,data:=.seq f Y,slots:=N }/\
    R (.ok (.ret (.bool (lexLt L G)))) s):=
 .of_wp λv w A R s h=>by
  obtain⟨H,g,d,I,os⟩:=s;obtain⟨Z,hb,h⟩:=h;have f2:=AutoSeq1.sub_tuple_tuple;have z1:items.size=L.length:=by rw[<-T.length];simp
  have z2:f.size=G.length:=by rw[<-U.length];simp
  wp_walk using wpAny_loadPart' Z,wpAny_loadPart' hb,wpAny_forIn_list _ (λrest b O=>b.1=none/\O = #[H,g,d,I,os]/\∃(vs J:List Value) (j k:List Int),rest=vs.zip J/\
   IntsAre vs j/\IntsAre J k/\j.length+f.size=k.length+items.size/\R (.ok (.ret (.bool (lexLt j k)))) #[H,g,d,I,os]) _
  case turn=>
   rintro⟨y,x⟩ rest b O ⟨z,rfl,vs,J,j,k,m,B,o,i,p⟩;cases B with
   |nil=>rw[List.zip_nil_left]at m;cases m
   |cons a t D=>
    cases o with
    |nil=>rw[List.zip_nil_right]at m;cases m
    |cons c u E=>
     rw[q1I]at m;injection m with Q C
     injection Q with hy hx
     subst hy hx;rw[lexLt_cons]at p;simp only[q0i]at i;obtain⟨e,he,r⟩:=Ly A.in1 #[H,g,d,I,os] a t c u;refine aa (he v w _ _ ?_);cases e with
     |true=>
      rw[if_pos (r.mp rfl)]at p
      wp_walk
      exact#[rfl,rfl,_,_,_,_,C,D,E,by lia,p]
     |false=>
      rw[if_neg (λq=>absurd (r.mpr q) q0F)]at p;have S:=Lz A.in1 #[H,g,d,I,os] a t c u v w
      wp_walk using S
      exact#[_,rfl,by simpa using p]
  case fin=>
   rintro⟨b1,b2⟩ O ⟨z,rfl,vs,J,j,k,m,B,o,i,p⟩;simp only at z;subst z;have X:lexLt j k = decide (items.size<f.size):=by
    cases B with
    |nil=>
     cases o with
     |nil=>simp only[q04]at i;rw[lexLt_nil_nil];exact(decide_eq_false 'b').symm
     |cons c u hw=>simp only[q04,q0i]at i;rw[Lw];exact(decide_eq_true 'b').symm
    |cons a t X=>
     cases o with
     |nil=>simp only[q04,q0i]at i;rw[Lx];exact(decide_eq_false 'b').symm
     |cons c u hw=>rw[q1I]at m;cases m
   rw[X]at p
   wp_walk
   exact#[_,rfl,by simpa[Builtin.Tuple.tupleCompareSizes] using p]
  case h=>exact#[rfl,rfl,items.toList,f.toList,L,G,rfl,T,U,by lia,h]
end
theorem lt_tupInts(p:IsTup s.heap l items)(v:IsTup s.heap b a)(q:IntsAre items.toList g)(r:IntsAre a.toList c)
  (t:A.units<cLine) (h:Q (.bool (lexLt g c)) s):wpAny (model prog w) A (compareOp .Lt (.ref l) (.ref b)) Q E s:=by
 obtain⟨⟨cls,dd,data,sl⟩,k,m,n,hd⟩:=id p;obtain⟨⟨o,i,data2,j⟩,d,e,u,f⟩:=id v;subst m hd e f;exact richCompare_meets_room (op:=.Lt) #[_,k,rfl] #[_,d,rfl] PySem.F.slot_tuple_lt PySem.F.entry_tuple_lt (PySem.F.args_tuple_lt_2 _ _) (LA l b items a n u dd i sl j g c q r)
  #[k,d,#[(λx=>nomatch x),h]] t
theorem cat_tup(q:IsTup s.heap t vs.toArray)(r:IsTup s.heap b a.toArray)(l:vs≠[])
  (u:a=[]->Q (.ref t) s) (v:a≠[]->Q (.ref s.heap.objs.size) { s with heap:=s.heap.push { cls:=.type "tuple",data:=.seq (vs++a).toArray } })
  (k:vs.length+a.length<=sizeLine):wpAny (model prog w) A (binaryOp .Add (.ref t) (.ref b)) Q E s:=by
 obtain⟨⟨cls,dd,data,sl⟩,i,m,n,hd⟩:=id q;obtain⟨⟨o,d,data2,f⟩,c,g,p,h⟩:=id r;subst m hd g h;have e:vs.toArray++a.toArray=(vs++a).toArray:=by simp
 by_cases j:a=[]
 .exact concat_meets #[_,i,rfl] #[_,c,rfl] noFill_tuple_add seq_tuple_add q10 q1U (q1R _ _)
   (tuple_addW1 t b vs.toArray a.toArray n p dd d sl f (by simpa using l) (by simp[j])) #[i,c,u j]
 .refine concat_meets #[_,i,rfl] #[_,c,rfl] noFill_tuple_add seq_tuple_add q10 q1U (q1R _ _)
   (tuple_addW2 t b vs.toArray a.toArray n p dd d sl f (by simpa using l) (by simpa using j) (by rw[q0m,q0m];exact k)) #[i,c,?_]
  rw[e];exact v j
noncomputable def sIx(n d:Nat):Option Int->Nat
 |none=>d
 |some v=>if v<0 then(v+(n:Int)).toNat else min v.toNat n
theorem sIx_none(n d):sIx n d none=d:=rfl
theorem sIx_nat(n d k:Nat):sIx n d (!(k:Int))=min k n:=by show(if k<0 then(k+(n:Int)).toNat else min (k:Int).toNat n)=min k n;rw[if_neg 'b',q0Z]
theorem LB(n d)(hd:d<=n)(o):sIx n d o<=n:=by
 cases o with
 |none=>exact hd
 |some v=>
  show(if v<0 then(v+n).toNat else min v.toNat n)<=n
  by_cases a:v<0
  .rw[if_pos a];lia
  .rw[if_neg a];exact Nat.min_le_right _ _
theorem Aj(v)(n d:Nat):(if v<0 then max (v+(n:Int)) 0 else min v (n:Int))=((sIx n d (!v):Nat):Int):=by
 show(if v<0 then max (v+n) 0 else min v n)=(((if v<0 then(v+n).toNat else min v.toNat n)))
 by_cases a:v<0
 .lia
 .lia
theorem LC(lo a)(n:Nat):Builtin.Slice.sliceAdjust lo a 1 (n:Int)=(((sIx n 0 lo:Nat):Int),((sIx n n a:Nat):Int)):=by
 refine Prod.ext ?_ ?_
 .cases lo with
  |none=>rfl
  |some v=>exact Aj v n 0
 .cases a with
  |none=>rfl
  |some v=>exact Aj v n n
theorem LD(i j:Nat):Builtin.Slice.slicePlaces (i:Int) (j:Int) 1=j - i:=by
 unfold Builtin.Slice.slicePlaces;split<;>lia
theorem Ak(p:IsPart v o)(h:Q o s):wpAny (model prog w) A (Builtin.Slice.slicePartIndex v) Q E s:=by
 cases p with
 |none=>exact slicePart_none h
 |int i t=>exact slicePart_int h
theorem Al{lo }{n:Nat}(g:s.heap.IsSliceOf f d e .none)(k:IsPart d lo)(i:IsPart e a)
  (h:Q (((sIx n 0 lo:Nat):Int),1,sIx n n a - sIx n 0 lo) s):wpAny (model prog w) A (Builtin.Slice.sliceApplied (.ref f) (pure (n:Int))) Q E s:=by
 obtain⟨os,b,j,c⟩:=id g;refine aa (aa (wpAny_field b c rfl (aa (wpAny_field b c rfl (aa (wpAny_field b c rfl (ao (aa (slicePart_none ?_)))))))));rw[if_neg 'd'];refine aa (Ak k (aa (Ak i (aa (ao ?_)))));show wpAny _ _ (match Builtin.Slice.sliceAdjust lo a 1 n with |(lo,a)=>pure (lo,(1:Int),Builtin.Slice.slicePlaces lo a 1)) _ _ s;rw[LC lo a n];show wpAny _ _ (pure (((sIx n 0 lo):Int),(1),Builtin.Slice.slicePlaces ((sIx n 0 lo)) ((sIx n n a)) 1)) _ _ s;rw[LD];exact ao h
theorem LF(a:Array Value)(i k:Nat):((List.range k).filterMap λ(m:Nat)=>a[((i:Int)+(m:Int) * 1).toNat]?).toArray=((a.toList.drop i).take k).toArray:=by
 have e:(λ(m:Nat)=>a[(i+(m:Int) * 1).toNat]?)=λm=>a[i+m]?:=by
  funext m;have:(i+(m:Int) * 1).toNat=i+m:=by lia
  rw[this]
 rw[e];have:=pick_run a i k;rw[List.filterMap_map]at this;have b:((λx=>a[x]?)∘λx=>i+x)=λm=>a[i+m]?:=rfl;rw[b]at this;rw[this]
theorem getItem_tuple_cut{lo }(c:IsTup s.heap t items)(l:s.heap.IsSliceOf i j k .none)(u:IsPart j lo)(n:IsPart k b)
  (o:¬ (sIx items.size 0 lo=0/\sIx items.size items.size b=items.size))
  (h:Q (.ref s.heap.objs.size) { s with heap:=s.heap.push { cls:=.type "tuple",data:=.seq ((items.toList.drop (sIx items.size 0 lo)).take (sIx items.size items.size b - sIx items.size 0 lo)).toArray } })
  (p:items.size<=sizeLine):wpAny (model prog w) A (getItem (.ref t) (.ref i)) Q E s:=by
 have a:=by show((items.toList.drop (sIx items.size 0 lo)).take (sIx items.size items.size b - sIx items.size 0 lo)).toArray.size<=sizeLine;rw[q0m,q1w,q1M,q0s];lia
 obtain⟨os,d,e,r⟩:=id l;unfold getItem
 try with_reducible apply wpAny_holding
 first |refine aa (ao ?_) |skip
 refine aa (wpAny_sequenceKey c.typeIs 'd' ?_);refine aa (wpAny_callSpecial?_slot c.typeIs PyProof.Rows.slot_tuple_getitem
  (wpAny_call_entry PyProof.Rows.slot_tuple_getitem c.typeIs entry_tuple_getitem ?_ (args_tuple_getitem _ _)))
 show wpAny _ _ (Builtin.Tuple.tupleItemsOf (.ref t) >>= _) _ _ s;refine aa (tupleItemsOf_ c (aa (wpAny_typeOf (#[os,d,e]) ?_)));rw[if_pos 'd'];refine aa (Al l u n ?_);show wpAny _ _ (if (((sIx items.size 0 lo):Int)==0&&(1)==1&&(sIx items.size items.size b - sIx items.size 0 lo)==items.size)=true then _ else _) _ _ s;rw[if_neg (by intro q;rw[q0I,q0I]at q;exact o #[by lia,by lia]),LF]
 first
  |exact aa (wpAny_newObj_type (ao #[_,rfl,ao h]) a)
  |exact aa (wpAny_newObj_type (aa (ao (ao #[_,rfl,ao h]))) a)
  |exact aa (aa (wpAny_newObj_type (ao (ao #[_,rfl,ao h])) a))
  |exact aa (aa (wpAny_newObj_type (ao #[_,rfl,ao h]) a))
end HT
namespace L2
open PySem PySem.Spec PyProof.Rows
abbrev TO:=St->Hp->(Option Int->Hp->Prop)->Prop
def PO(X:Cx)(e:Option Expr)(t:TO):Prop:=
 ∀(a:List (Addr×Obj)) (s:Shared) (Y:St) (H:Hp) (Q:Option Int->Hp->Prop),Inv X a Y H s->t Y H Q->
  wpAny (model X.prog X.w) X.A (evalPart e X.env) (λu c=>∃o b,Inv X a Y b c/\IsPart u o/\Q o b) X.xe s
def LG:TO:=λ_ H Q=>Q none H
def LH(t:TE):TO:=λY H Q=>t Y H λx a=>∃i,x=.int i/\Q (!i) a
theorem Am:PO X none LG:=by intro a s Y H Q I h;rw[evalPart_none];exact ao #[none,H,I,.none,h]
theorem An(h:PE X e te):PO X (!e) (LH te):=by intro a s Y H Q I c;rw[evalPart_some];refine aR (h a s Y H _ I c) λu j b=>?_;obtain⟨x,d,I1,f,g⟩:=b;obtain⟨i,rfl,q⟩:=g;obtain⟨t,rfl⟩:=f;exact#[!i,d,I1,.int i t,q]
def jx(X:Cx)(r:V->Option Int->Option Int->Hp->VK->Prop):Prop:=
 ∀(a:List (Addr×Obj)) (s:Shared) (Y:St) (H:Hp) (x:V) (v b c:Value) (lo hi:Option Int) (d:Addr) (Q:VK),Inv X a Y H s->aX x v->s.heap.IsSliceOf d b c .none->IsPart b lo->IsPart c hi->r x lo hi H Q->
  ∃T id,typeLookup (.type T) "__getitem__" = pure (!.builtin id)/\s.TypeIs v T/\wpAny (model X.prog X.w) X.A (getItem v (.ref d)) (EP X a Y Q) X.xe s
theorem jx.or(h:jx X r)(l:jx X b):jx X (λx lo hi H Q=>r x lo hi H Q\/b x lo hi H Q):=by
 intro a s Y H x v c d lo hi j Q I f g k i q;rcases q with q |q
 .exact h a s Y H x v c d lo hi j Q I f g k i q
 .exact l a s Y H x v c d lo hi j Q I f g k i q
def LI(r:V->Option Int->Option Int->Hp->VK->Prop)(te:TE)(tl th:TO):TE:=λY H Q=>te Y H λx a=>tl Y a λl b=>th Y b λu c=>r x l u c Q
theorem Ao{lo:Option Expr}(k:jx X r)(m:PE X e te)(n:PO X lo tl)(o:PO X hi th):PE X (.Subscript e (.Slice lo hi none p2) pos) (LI r te tl th):=by refineλa s Y H Q I h=>Subscript_ (aR (m a s Y H _ I h) λv p d=>?_);obtain⟨x,t,I1,y,z⟩:=d;refine wpAny_Slice (aR (n a p Y t _ I1 z) λg B ⟨l,C,D,pl,E⟩=>aR (o a B Y C _ D E) λi c f=>?_);obtain⟨u,j,G,J,L⟩:=f;rw[evalPart_none];apply ao;obtain⟨T,id,hT,N,O⟩:=k a { c with heap:=c.heap.push { cls:=.type "slice",data:=.fields [g,i,.none].toArray } } Y j x v g i l u c.heap.objs.size Q (G.kept λb R q=>aK _ q) y (Heap.IsSliceOf.new ..) pl J L;exact tail_any N hT O (by with_unfolding_all rfl)
def jy(a:List V)(lo hi:Option Int):List V:=(a.drop (HT.sIx a.length 0 lo)).take (HT.sIx a.length a.length hi - HT.sIx a.length 0 lo)
theorem Ap(a lo hi):(jy a lo hi).length<=a.length:=by unfold jy;rw[q1w,q1M];lia
def LJ(K:Frag):V->Option Int->Option Int->Hp->VK->Prop:=λx lo hi H Q=>∃a b,x=.ref a/\dX K H a b/\
 ¬ (HT.sIx b.length 0 lo=0/\HT.sIx b.length b.length hi=b.length)/\∀p,H p=none->Q (.ref p) (aL H p (.tup (jy b lo hi)))
theorem LL:jx X (LJ X.K):=by
 intro g s Y H x v u w lo hi y Q I k l t m h;obtain⟨a,d,rfl,n,p,q⟩:=h;cases k;obtain⟨f,r,i,j⟩:=I.tuple n;have c:f.toArray.size=d.length:=by rw[q0m];exact r.length.symm
 refine#["tuple",_,PyProof.Rows.slot_tuple_getitem.lookup,i.typeIs,HT.getItem_tuple_cut i l t m (by rw[c];exact p) ?_ (by rw[c];exact j)];rw[c];refine#[.ref s.heap.objs.size,_,I.laid (λb z q=>aK _ q) (aP _) ?_,rfl,q _ (I.hok.fresh (aP _))];exact#[q0N (Ap d lo hi) j,_,(r.drop (HT.sIx d.length 0 lo)).take (HT.sIx d.length d.length hi - HT.sIx d.length 0 lo),IsTup.new _ _]
def LM(K:Frag):R2:=λx y H Q=>∃a b d c,x=.ref a/\y=.ref b/\dX K H a d/\dX K H b c/\d≠[]/\d.length+c.length<=sizeLine/\
 (c=[]->Q (.ref a) H)/\(c≠[]->∀p,H p=none->Q (.ref p) (aL H p (.tup (d++c))))
theorem bj.nil_iff(r:bj a b):b=[]↔a=[]:=by
 cases r with
 |nil=>simp
 |cons _ _=>simp
theorem LO:cP X (binaryOp .Add) (LM X.K):=by intro f s Y H x y v u Q I j k h;obtain⟨a,b,l,m,rfl,rfl,n,hb,p,g,r,t⟩:=h;cases j;cases k;obtain⟨A,d,B,_⟩:=I.tuple n;obtain⟨i,c,p2,_⟩:=I.tuple hb;refine HT.cat_tup B p2 (λz=>p (d.nil_iff.mp z)) (λz=>#[.ref a,H,I,rfl,r (c.nil_iff.mp z)]) (λz=>?_) (by rw[<-d.length,<-c.length];exact g);refine#[.ref s.heap.objs.size,_,I.laid (λb C q=>aK _ q) (aP _) ?_,rfl,t (λw=>z (c.nil_iff.mpr w)) _ (I.hok.fresh (aP _))];exact#[by rw[q0u];exact g,_,d.append c,IsTup.new _ _]
noncomputable def dt(n:Nat)(i:Int):Option Nat:=if 0<=i then(if i<n then some i.toNat else none) else if -(n:Int)<=i then some (i+n).toNat else none
def bN{α:Type}(a:List α)(i:Int):Option α:=(dt a.length i).bind λj=>a[j]?
theorem Aq(h:dt n i=!j):seqIndex? i n=!j/\j<n/\-(n:Int)<=i/\i<n:=by
 unfold dt at h
 by_cases a:0<=i
 .rw[if_pos a]at h
  by_cases h1:i<n
  .rw[if_pos h1]at h;exact#[by rw[seqIndex_of a h1,(q0r h)],by lia,by lia,h1]
  .rw[if_neg h1]at h;cases h
 .rw[if_neg a]at h
  by_cases h1:-n<=i
  .rw[if_pos h1]at h;exact#[by rw[seqIndex_neg 'b' h1,(q0r h)],by lia,h1,by lia]
  .rw[if_neg h1]at h;cases h
theorem Ar(h:bN a i=!v):∃j,seqIndex? i a.length=!j/\a[j]? = !v/\j<a.length/\-(a.length:Int)<=i/\i<a.length:=by
 unfold bN at h;cases e:dt a.length i with
 |none=>rw[e]at h;cases h
 |some j=>rw[e]at h;obtain⟨c,h2,h3,b⟩:=Aq e;exact#[j,c,h,h2,h3,b]
def pD(b:Expr):Prop:=∀o i,subscripted b false o i=operate [o,i] (getItem o i)
def ka(X:Cx)(r:R2):Prop:=
 ∀(value slice:Expr) (a:List (Addr×Obj)) (s:Shared) (Y:St) (H:Hp) (x y:V) (v u:Value) (Q:VK),Inv X a Y H s->aX x v->aX y u->r x y H Q->
  subscripted slice false v u=operate [v,u] (getItem v u)->wpAny (model X.prog X.w) X.A (subscriptTail value slice v u) (EP X a Y Q) X.xe s
def sg(X:Cx)(id:String)(r:V->List V->Hp->VK->Prop):Prop:=
 ∀(a:List (Addr×Obj)) (s:Shared) (Y:St) (H:Hp) (x:V) (b:List V) (v:Value) (c:List Value) (Q:VK),Inv X a Y H s->aX x v->bj b c->r x b H Q->
  wpAny (model X.prog X.w) X.A (call (.builtin id) (v::c)) (EP X a Y Q) X.xe s
theorem ka.or(h:ka X r)(i:ka X d):ka X (λx y H Q=>r x y H Q\/d x y H Q):=by
 intro value slice c s Y H x y v u Q I e f q g;rcases q with q |q
 .exact h value slice c s Y H x y v u Q I e f q g
 .exact i value slice c s Y H x y v u Q I e f q g
theorem vY(d:ka X r)(e:PE X a ta)(m:PE X b tb)(f:pD b):PE X (.Subscript a b pos) (pA r ta tb):=λc s Y H Q I h=>Subscript_ (vR e m I h λv u g x y i j k l q=>d a b c g Y i x y v u Q j k l q (f _ _))
def vZ(K:Frag):R2:=λx y H Q=>∃p c i v,x=.ref p/\y=.int i/\cG K H p c/\bN c i=!v/\Q v H
def wa(K:Frag):R2:=λx y H Q=>∃p c i v,x=.ref p/\y=.int i/\dX K H p c/\bN c i=!v/\Q v H
theorem wb:ka X (vZ X.K):=by
 intro value slice c s Y H x y v u Q I m n h g;obtain⟨p,G,i,z,rfl,rfl,o,A,q⟩:=h;cases m;obtain⟨t,rfl⟩:=n;obtain⟨d,r,pl,J⟩:=I.list o;obtain⟨j,h1,h2,h3,B,C⟩:=Ar A;obtain⟨w,k,e⟩:=r.get h2;have D:=r.length;have L:=eO;have fin:EP X c Y Q w s:=#[z,H,I,e,q]
 by_cases l:0<=i
 .have f:=by rw[seqIndex_of l C]at h1;exact q0r h1
  exact item_listR pl.isList l 'b' (by rw[f];simpa using k) fin g
 .have f:(i+d.toArray.size).toNat=j:=by rw[seqIndex_neg 'b' B]at h1;rw[q0m,<-D];exact q0r h1
  exact subscriptTail_builtinR pl.isList.typeIs slot_list_getitem.lookup
   (wpAny_getItem_list_neg pl.isList 'b' (by rw[q0m]<;>lia) 'b' (by rw[f];simpa using k) #[rfl,fin]) g
theorem LP:ka X (wa X.K):=by
 intro value slice c s Y H x y v u Q I e f h g;obtain⟨p,B,i,z,rfl,rfl,k,l,q⟩:=h;cases e;obtain⟨t,rfl⟩:=f;obtain⟨m,r,pl,C⟩:=I.tuple k;obtain⟨j,h1,h2,h3,D,E⟩:=Ar l;obtain⟨w,n,d⟩:=r.get h2;have G:=eO;exact subscriptTail_builtinR pl.typeIs slot_tuple_getitem.lookup
  (getItem_tuple pl 'b' 'b' (by rw[q0m,<-r.length];exact h1) (by simpa using n) #[rfl,(#[z,H,I,d,q])]) g
theorem LQ(c:List Value)(n j u):Obj.mapSeq (·.setIfInBounds j u) { cls:=.type "list",data:=.seq c.toArray n } = { cls:=.type "list",data:=.seq (c.set j u).toArray n }:=by simp[Obj.mapSeq]
theorem Inv.lst{Y:St}(I:Inv X d Y H s)(h:H p=!.lst f) :
  ∃(c:List Value) (n:Nat),bj f c/\s.heap.get? p=some { cls:=.type "list",data:=.seq c.toArray n }/\f.length<=sizeLine:=by
 obtain⟨z,c,n,r,e⟩:=I.hok p _ h;exact#[c,n,r,e,z]
theorem Inv.lstUpd{Y:St}{g :List Value}(I:Inv X d Y H s)(h:H p=!.lst l)
  (m:s.heap.get? p=some { cls:=.type "list",data:=.seq g.toArray n }) (k:f { cls:=.type "list",data:=.seq g.toArray n } = { cls:=.type "list",data:=.seq c.toArray j }) (r:bj i c) (o:i.length<=sizeLine) (t) :
  Inv X d Y (aL H p (.lst i)) { s with heap:=s.heap.update p f,toks:=t }:=by
 have e:(s.heap.update p f).get? p=some { cls:=.type "list",data:=.seq c.toArray j }:=by rw[Heap.get?_update_self f m (by rw[k]<;>rfl),k]
 exact I.write (by rw[h];trivial) (.inl rfl) (λb u v q=>(Heap.get?_update_other _ _ v.symm).trans q) #[_,e] (#[o,c,j,r,e])
def LR:V->V->V->Hp->(Hp->Prop)->Prop:=λo i v H Q=>∃p c k j,o=.ref p/\i=.int k/\H p=!.lst c/\dt c.length k=!j/\Q (aL H p (.lst (c.set j v)))
theorem LU:zI X LR:=by
 intro c s Y H o i v G J u Q I z A B h;obtain⟨p,C,k,j,rfl,rfl,m,D,q⟩:=h;cases z;obtain⟨t,rfl⟩:=A;obtain⟨d,n,r,f,E⟩:=I.lst m;obtain⟨e,h2,h3,w⟩:=Aq D;have g:=r.length;have L:=eO;have x:=
  I.lstUpd m f (LQ d n j u) (r.set B j) (by rw[q0C];exact E) s.toks
 by_cases y:0<=k
 .have l:=by rw[seqIndex_of y w]at e;exact q0r e
  exact PySem.W.ki_setAt f y 'b' (by rw[q0m,<-g];exact w) (by rw[l];exact#[_,x,q])
 .have l:(k+d.toArray.size).toNat=j:=by rw[seqIndex_neg 'b' h3]at e;rw[q0m,<-g];exact q0r e
  exact PySem.W.ki_setBack f 'b' (by rw[q0m,<-g];exact h3) 'b' (by rw[l];exact#[_,x,q])
theorem LV(lo c n):(sliceBounds lo c none n).1=((HT.sIx n 0 lo:Nat):Int)/\(sliceBounds lo c none n).2.1=((HT.sIx n n c:Nat):Int)/\(sliceBounds lo c none n).2.2=1:=by
 refine#[?_,?_,rfl]
 .cases lo with
  |none=>simp[sliceBounds,HT.sIx]
  |some i=>
   simp only[sliceBounds,HT.sIx,q2J]
   by_cases h:i<0
   .simp only[h]<;>lia
   .simp only[h]<;>lia
 .cases c with
  |none=>simp[sliceBounds,HT.sIx]
  |some i=>
   simp only[sliceBounds,HT.sIx,q2J]
   by_cases h:i<0
   .simp only[h]<;>lia
   .simp only[h]<;>lia
theorem LW(c:List Value)(lo d):slicePick c.toArray lo d none=((c.drop (HT.sIx c.length 0 lo)).take (HT.sIx c.length c.length d - HT.sIx c.length 0 lo)).toArray:=by obtain⟨e,h2,h3⟩:=LV lo d c.toArray.size;unfold slicePick;rw[e,h2,h3];simp only[sliceRange_one,pick_run]<;>rfl
def LX(K:Frag):V->Option Int->Option Int->Hp->VK->Prop:=λx lo d H Q=>∃a c,x=.ref a/\cG K H a c/\∀p,H p=none->Q (.ref p) (aL H p (.lst (jy c lo d)))
theorem As:jx X (LX X.K):=by intro f s Y H x v t u lo e w Q I i j p k h;obtain⟨a,c,rfl,l,q⟩:=h;cases i;obtain⟨m,r,g,n⟩:=I.list l;have d:=r.length;refine#["list",_,slot_list_getitem.lookup,g.isList.typeIs,wpAny_getItem_list_slice g.isList j p k .none 'c' ?_ (by rw[q0m]<;>lia)];rw[LW,<-d];refine#[.ref s.heap.objs.size,_,I.laid (λb y q=>aK _ q) (aP _) ?_,rfl,q _ (I.hok.fresh (aP _))];exact#[q0N (Ap c lo e) n,_,0,(r.drop (HT.sIx c.length 0 lo)).take (HT.sIx c.length c.length e - HT.sIx c.length 0 lo),Heap.get?_push_size _ rfl]
noncomputable def kb:V->Bool
 |.non=>true
 |.bl _=>true
 |.int _=>true
 |.str _=>true
 |_=>false
noncomputable def kc:V->V->Bool
 |.non,.non=>true
 |.bl a,.bl b=>a==b
 |.bl a,.int b=>(if a then 1 else 0)==b
 |.int a,.bl b=>a==(if b then 1 else 0)
 |.int a,.int b=>a==b
 |.str a,.str b=>a==b
 |_,_=>false
theorem LY(d:aX y u)(c:aX x v)(f:kb y=true)(e:kb x=true):SeqAt.EqAt A s u v (kc y x):=by
 cases y with
 |non=>
  cases d;cases x with
  |non=>cases c;exact SeqAt.EqAt.same _
  |bl b=>cases c;exact SeqAt.EqAt.none_bool b
  |int b=>obtain⟨t,rfl⟩:=c;exact SeqAt.EqAt.none_int b t
  |str b=>obtain⟨t,rfl⟩:=c;exact SeqAt.EqAt.none_str b t
  |_=>exact absurd (e) q0F
 |bl a=>
  cases d;cases x with
  |non=>cases c;exact SeqAt.EqAt.bool_none a
  |bl b=>cases c;exact SeqAt.EqAt.bool_bool a b
  |int b=>obtain⟨t,rfl⟩:=c;exact SeqAt.EqAt.bool_int a b t
  |str b=>obtain⟨t,rfl⟩:=c;exact SeqAt.EqAt.bool_str a b t
  |_=>exact absurd (e) q0F
 |int a=>
  obtain⟨t',rfl⟩:=d;cases x with
  |non=>cases c;exact SeqAt.EqAt.int_none a t'
  |bl b=>cases c;exact SeqAt.EqAt.int_bool a t' b
  |int b=>obtain⟨t,rfl⟩:=c;exact SeqAt.EqAt.int_int a t' b t
  |str b=>obtain⟨t,rfl⟩:=c;exact SeqAt.EqAt.int_str a t' b t
  |_=>exact absurd (e) q0F
 |str a=>
  obtain⟨t',rfl⟩:=d;cases x with
  |non=>cases c;exact SeqAt.EqAt.str_none a t'
  |bl b=>cases c;exact SeqAt.EqAt.str_bool a t' b
  |int b=>obtain⟨t,rfl⟩:=c;exact SeqAt.EqAt.str_int a t' b t
  |str b=>obtain⟨t,rfl⟩:=c;exact SeqAt.EqAt.str_str a t' b t
  |_=>exact absurd (e) q0F
 |_=>exact absurd (f) q0F
theorem ke:eX X (.builtin "len") (λi H Q=>∃p d,i=[.ref p]/\(cG X.K H p d\/dX X.K H p d)/\Q (.int d.length) H):=by
 intro j s Y H i m Q I r h;obtain⟨p,d,rfl,e,q⟩:=h;obtain⟨u,rfl,k⟩:=vals1 r;cases k;have n:=eO;rcases e with e |e
 .obtain⟨f,g,pl,l⟩:=I.list e;have c:=g.length;exact Calls.call_len_list pl.isList (by simp only[q0m]<;>lia) #[.int d.length,H,I.tok _,#[s.toks+1,by rw[q0m,c]],q]
 .obtain⟨f,g,pl,l⟩:=I.tuple e;have c:=g.length;exact len_tuple pl (by simp only[q0m]<;>lia) #[.int d.length,H,I.tok _,#[s.toks+1,by rw[q0m,c]],q]
theorem LZ:eX X (.type "list") (λz H Q=>∃p f,z=[.ref p]/\(cG X.K H p f\/dX X.K H p f)/\∀l,H l=none->Q (.ref l) (aL H l (.lst f))):=by
 intro j s Y H z C Q I r h;obtain⟨p,f,rfl,k,q⟩:=h;obtain⟨u,rfl,B⟩:=vals1 r;cases B;have fin:∀(c:List Value),bj f c->f.length<=sizeLine->∀(d:Heap) (g:Nat),(∀b A,s.heap.get? b=!A->d.get? b=!A)->
   d.get? s.heap.objs.size=some { cls:=.type "list",dict:=none,data:=.seq c.toArray g,slots:=#[] }->EP X j Y Q (.ref s.heap.objs.size) { s with heap:=d }:=λc i m d g v e=>
  #[.ref s.heap.objs.size,_,I.laid v (aP _) (show cy X.prog X.w _ d _ (.lst f) from#[m,c,g,i,e]),rfl,q _ (I.hok.fresh (aP _))]
 rcases k with k |k
 .obtain⟨c,i,pl,m⟩:=I.list k;have t:=i.length;obtain⟨o,x,y,n,hd⟩:=pl.isList;exact call_list_seq p (.inl rfl) x y hd (λd g v e=>fin c i m d g v e) (by simp only[q0m]<;>lia)
 .obtain⟨c,i,pl,m⟩:=I.tuple k;have t:=i.length;obtain⟨o,x,y,n,hd⟩:=pl;exact call_list_seq p (.inr rfl) x y hd (λd g v e=>fin c i m d g v e) (by simp only[q0m]<;>lia)
theorem At:eX X (.type "tuple") (λk H Q=>∃p f,k=[.ref p]/\((cG X.K H p f/\∀l,H l=none->Q (.ref l) (aL H l (.tup f)))\/(dX X.K H p f/\Q (.ref p) H))):=by
 intro c s Y H k y Q I r h;obtain⟨p,f,rfl,h⟩:=h;obtain⟨u,rfl,t⟩:=vals1 r;cases t;rcases h with⟨i,q⟩ |⟨i,q⟩
 .obtain⟨d,j,pl,m⟩:=I.list i;have n:=j.length;refine call_tuple_list pl.isList (λg x=>?_) (by simp only[q0m]<;>lia);have I1:=I.kept (t':=s.toks) x;exact#[.ref g.objs.size,_,(I1.laid (λb o e=>aK _ e) (aP _) (show cy X.prog X.w _ _ _ (.tup f) from#[m,d,j,IsTup.new _ _])),rfl,q _ (I1.hok.fresh (aP _))]
 .obtain⟨d,j,pl,m⟩:=I.tuple i;exact call_tuple_same pl #[.ref p,H,I,rfl,q]
def Au(K:Frag)(T:String)(x:V)(H:Hp):Prop:=match x with
 |.str _=>T="str"
 |.int _=>T="int"
 |.ref p=>(T="list"/\∃d,cG K H p d)\/(T="tuple"/\∃o,K.lookup p=!o/\o.cls=.type "tuple"/\o.dict=none)\/
   (T="dict"/\((∃c,H p=!.dK c)\/∃c,H p=!.dT c))\/(T="set"/\∃S n,H p=!.set S n)
 |_=>False
theorem Ma{Y:St}(I:Inv X f Y H s)(r:aX x v)(ty:Au X.K T x H) :
  s.TypeIs v T/\∀a,v=.ref a->∃j,s.heap.get? a=!j/\j.dict=none:=by
 cases x with
 |str z=>obtain⟨t,rfl⟩:=r;cases(ty);exact#[typeIs_str s z t,λ_ e=>nomatch e]
 |int i=>obtain⟨t,rfl⟩:=r;cases(ty);exact#[typeIs_int s i t,λ_ e=>nomatch e]
 |ref p=>
  cases r;rcases ty with⟨rfl,q,k⟩ |⟨rfl,o,d,l,hd⟩ |⟨rfl,d⟩ |⟨rfl,S,n,d⟩
  .obtain⟨m,_,pl,_⟩:=I.list k;refine#[pl.isList.typeIs,λa e=>?_];cases e;obtain⟨o,n,e,c,hd,_⟩:=pl;exact#[o,e,hd]
  .refine#[#[o,I.kIn p o d,l],λa e=>?_];cases e;exact#[o,I.kIn _ o d,hd]
  .have z:∃o,s.heap.get? p=!o/\o.ExactDict:=by
    rcases d with⟨g,d⟩ |⟨g,d⟩
    .obtain⟨_,_,_,_,o,_,_,e,ex,_⟩:=I.hok p _ d;exact#[o,e,ex]
    .obtain⟨_,_,_,_,o,_,_,e,ex,_⟩:=I.hok p _ d;exact#[o,e,ex]
   obtain⟨o,e,ex⟩:=z;refine#[#[o,e,ex.1],λa h=>?_];cases h;exact#[o,e,ex.2.1]
  .obtain⟨o,_,_,_,e,ex,_⟩:=I.hok p _ d;refine#[#[o,e,ex.1],λa h=>?_];cases h;exact#[o,e,ex.2.1]
 |_=>exact False.elim ty
def Mb(K:Frag)(T:String)(r:V->List V->Hp->VK->Prop)(f:TE)(t:TA):TE:=λY H Q=>f Y H λx c=>Au K T x c/\t Y c λd e=>r x d e Q
theorem sh{apos:Pos}{cpos:Pos}{id:String}(L:PlainAttrs T)(slot:Slot T name id)(l:typeOf (.builtin id)=pure (.type "method_descriptor"))(p:sg X id r)(q:PE X o to)(u:PA X (e::es) t)
  (f:autoParam (attributeBase o name X.env (eval o X.env)=eval o X.env) Zq._auto_1)
  (i:autoParam (((backTo cpos (starEach (e::es) X.env)).all (λx=>not x.1)&&(backToKw cpos (keywordEach [] X.env)).all (λx=>x.1.isSome)
   && decide ((e::es).length+([]:List Keyword).length+(if ([]:List Keyword).isEmpty then 0 else 1)<30))=true) Zq._auto_1)
  (g:autoParam ((apos.endLine==cpos.line)=true) Zq._auto_1) (w:autoParam (starEach (e::es) X.env=(false,eval e X.env)::starEach es X.env) Zq._auto_1) (d:autoParam ((backTo cpos (starEach es X.env)).any (·.1)=false) Zq._auto_1) :
  PE X (.Call (.Attribute o name apos) (e::es) [] cpos) (Mb X.K T r to t):=by
 refineλc s Y H Q I h=>wpAny_Call_method_late f i g rfl (aR (q c s Y H _ I h) λv y j=>?_);obtain⟨x,z,I1,m,ty,A⟩:=j;obtain⟨M,h2⟩:=Ma I1 m ty;refine#[T,id,L,slot,l,M,h2,?_];have n:=u cpos c y Y z _ I1 A;rw[w]at n ⊢;exact Calls.callWith_builtin (by show(false||(backTo cpos (starEach es X.env)).any (·.1))=false;rw[d]<;>rfl) (Calls.evalArgs_plain (aR n λB C k=>by obtain⟨vs,D,E,G,J⟩:=k;exact p c C Y D x vs v B Q E m G J))
def Mc(X:Cx)(id:String)(r:V->List V->Hp->VK->Prop):Prop:=
 ∀(a:List (Addr×Obj)) (s:Shared) (Y:St) (H:Hp) (x:V) (b:List V) (v:Value) (c:List Value) (Q:VK),Inv X a Y H s->aX x v->bj b c->r x b H Q->
  wpAny (model X.prog X.w) X.A (call (.builtin id) (v::c)) (EP X a Y Q) X.xe s
theorem bj.one:∀{x a},bj [x] a->∃u,a=[u]/\aX x u:=by
 intro x a h;cases h with
 |cons r t=>cases t;exact#[_,rfl,r]
theorem Inv.lset{Y:St}{a :List Value}(I:Inv X pins Y H s)(c:H l=!.lst xs)
  (e:s.heap.get? l=some { cls:=.type "list",data:=.seq a.toArray n }) (d:f a.toArray=its'.toArray) (g:bj ys its') (h:ys.length<=sizeLine) :
  Inv X pins Y (aL H l (.lst ys)) { s with heap:=s.heap.update l (Obj.mapSeq f),toks:=t' }:=by
 have q:=PySem.IsL.update e f;rw[d]at q;exact I.write (by rw[c];exact trivial) (.inl rfl) (λk u j i=>(Heap.get?_update_other s.heap (Obj.mapSeq f) j.symm).trans i) #[_,q] (#[h,its',_,g,q])
theorem Inv.lnew{Y:St}(I:Inv X pins Y H s)(c:bj ys a)(d:ys.length<=sizeLine) :
  Inv X pins Y (aL H s.heap.objs.size (.lst ys)) { s with heap:=s.heap.push { cls:=.type "list",data:=.seq a.toArray },toks:=t' }:=
 I.laid (λ_ _ q=>aK _ q) (aP _) #[d,a,0,c,Heap.get?_push_size _ rfl]
theorem Inv.fresh{Y:St}(I:Inv X pins Y H s):H s.heap.objs.size=none:=I.hok.fresh (aP _)
theorem Inv.lstM{Y:St}(I:Inv X pins Y H s)(c:H l=!.lst xs):xs.length<=sizeLine/\∃(a:List Value) (n:Nat),bj xs a/\xs.length=a.length/\s.heap.get? l=some { cls:=.type "list",data:=.seq a.toArray n }:=by obtain⟨z,a,n,r,e⟩:=I.hok l _ c;exact#[z,a,n,r,r.length,e]
def Md:V->List V->Hp->VK->Prop:=λx vs H Q=>∃l a y,x=.ref l/\vs=[y]/\H l=!.lst a/\a.length<sizeLine/\Q .non (aL H l (.lst (a++[y])))
theorem Av:Mc X "list.append" Md:=by intro b s Y H x vs v g Q I d f h;obtain⟨l,i,y,rfl,rfl,c,j,q⟩:=h;cases d;obtain⟨u,rfl,ru⟩:=f.one;obtain⟨z,a,n,r,k,e⟩:=I.lstM c;refine call_meets F.slot_list_append #[_,e,rfl] F.entry_list_append (F.args_list_append_2 _ _) (PySem.list_append l a.toArray n u (by rw[q0m];lia)) #[e,#[.non,_,I.lset c e 'c' (r.append (.cons ru .nil)) ?_,rfl,q]];rw[q0u,q2R];lia
def Aw:R2:=λx y H Q=>∃l b a c,x=.ref l/\y=.ref b/\H l=!.lst a/\H b=!.lst c/\a.length+c.length<=sizeLine/\∀p,H p=none->Q (.ref p) (aL H p (.lst (a++c)))
theorem Me:cP X (binaryOp .Add) Aw:=by
 intro d s Y H x y v u Q I f g h;obtain⟨l,b,p,t,rfl,rfl,i,hB,w,q⟩:=h;cases f;cases g;obtain⟨z,c,n,r,A,e⟩:=I.lstM i;obtain⟨B,a,C,j,k,m⟩:=I.lstM hB;refine PySem.P.add_list e m ?_ (by rw[q0m,q0m];lia);have o:c.toArray++a.toArray=(c++a).toArray:=by simp
 rw[o];exact#[.ref _,_,I.lnew (r.append j) (by rw[q0u];lia),rfl,q _ I.fresh]
end L2
namespace Att
open PySem PySem.W PySem.Calls PyProof.Rows
theorem Mf:∀c  vs,WellAll P h vs (c.map WData.int)->IntsAre vs c:=by
 intro c
 induction c with
 |nil=>intro vs w;rw[q1B]at w;cases w;exact .nil
 |cons n c d=>
  intro vs w;rw[q0d]at w;cases w with
  |cons a b=>cases a;exact .cons _ _ (d _ b)
theorem Mg{l:OpenLaw}(p:l.most=!n)
  (e:l.row.toRowW.claim.pre args=true) (k:WellAll P h c args) :
  ∃a vs b,c=[Value.ref a]/\args=[WData.list (b.map WData.int)]/\h.get? a=some { cls:=.type "list",data:=.seq vs.toArray }/\IntsAre vs b/\b.length<=n:=by
 obtain⟨d,r,rfl,h1,h2⟩:=hasAllW_cons ((pre_splitW e).1);obtain rfl:=hasAllW_nil h2;obtain⟨w,rfl,h3⟩:=hasW_list h1;obtain⟨b,rfl⟩:=items_int h3;have f:b.length<=n:=by
  have j:=condW_of (by have i:=(holds_andW ((pre_splitW e).2)).1;rw[p]at i;exact i) (w_not (w_lt w_lit (w_len_list (w_arg rfl))));rw[q0b]at j;refine q1e λq=>?_;first
   |(rw[decide_eq_true s]at j;exact absurd j 'd')
   |(lia)
 cases k with
 |cons t u=>
  cases u;cases t with
  |list v g=>exact#[_,_,b,rfl,rfl,v,Mf b _ g,f]
theorem Mh(l:OpenLaw)(args):l.row.toRowW.claim.post args (.bool true) args=true:=
 postW_of
  (by first |rfl |decide |simp)
  (w_eq_bool (w_res rfl) w_lit) rfl
theorem attach_call{l:OpenLaw}
  (I:l.most=!n) (u:d.params.defaults=[])
  (call:∀w  A c  s v  h  o  pm m e  a  vs  t,
   Ground q b [] B w A s v c.heap->C w c.heap->
   c.heap.get? h=!o->o.data=.func (docDef d.name d.params d.body d.scope pm m e)->c.heap.CodeRec m d.name->s d.name=!.ref h->
   c.heap.get? a=some { cls:=.type "list",data:=.seq vs.toArray }->IntsAre vs t->t.length<=n->c.gens = #[]->
   codeAny (model l.prog w) callerA (.call (.ref h) #[[.ref a],[]]) (λr p=>r=.ok (.ret (.bool true))/\OldK c.heap p.heap/\p.os=c.os/\AllBare p.gens) c) :
  WalkO q b B C l.row.toRowW d [] (λf vs=>PySem.call f vs):=by
 intro w A c s v G J h o pm m e dV kV L hd x D y M args E as i H N z O;obtain rfl:dV=.none:=Dflts.none D u;obtain rfl:kV=.none:=Dflts.noKw D;obtain⟨a,vs,t,rfl,rfl,j,g,k⟩:=Mg I i z;refine enter_call (codeAny_mono (call w A c s v h o pm m e a vs t G J L (fd_plain hd) x y j g k M) λr p Q=>?_);obtain⟨rfl,h2,h3,T⟩:=Q;exact#[.inl #[.bool true,.bool true,[],rfl,λ_=>rfl,.bool true,Mh l _,λ_=>#[List.Pairwise.nil,λ_ U=>(nomatch U)]],h2,h3,T]
end Att
namespace L2
open PySem PySem.Spec PyProof.Rows
theorem Mi:∀{vs a},IntsAre vs a->bj (a.map V.int) vs:=by
 intro vs a h
 induction h with
 |nil=>exact .nil
 |cons n t _ b=>exact .cons #[t,rfl] b
def wc(H:Hp):Prop:=∀b,H b=none\/∃o a,H b=!.frz o (.lst a)
theorem Mj{K}
  (Y:K.In c.heap) (p:c.heap.Ns mainGlobals E) (g:c.heap.Ns builtinsNs M) (O:∀x:Str,x≠"__name__"->M x=bootBuiltins x) (t:c.heap.NoLimit) (hg:c.gens = #[])
  (L:c.heap.get? a=some { cls:=.type "list",data:=.seq vs.toArray }) (Z:IntsAre vs G) (hl:G.length<=sizeLine) (hr:bx k callerA)
  (F:∀base,K.In base->base.Ns mainGlobals E->cD P w K E base U k N fd [x] X) (l:∀s  u,BindsTo s fd #[[u],[]] [(x,u)])
  (hsp:∀H,wc H->cG K H a (G.map V.int)->X [.ref a] H (λv _=>v=.bl true) λ_ _ _=>False)
  (Q:∀H e i,U [] H c (λ_ _ _=>False) e i->False) :
  codeAny (model P w) callerA (.call (.ref N) #[[.ref a],[]]) (λr i=>r=.ok (.ret (.bool true))/\OldK c.heap i.heap/\i.os=c.os/\AllBare i.gens) c:=by
 have rv:=Mi Z;have y:=Z.length;have core:∀H:Hp,wc H->cG K H a (G.map V.int)->bM P w H c.heap->(∀b,H b≠none->b=a)->(H a≠none->K.lookup a=none)->
   codeAny (model P w) callerA (.call (.ref N) #[[.ref a],[]]) (λr i=>r=.ok (.ret (.bool true))/\OldK c.heap i.heap/\i.os=c.os/\AllBare i.gens) c:=by
  intro H hO hS I hA hK;have f:∀{b:Addr}{o:Obj},c.heap.get? b=!o->H b=none->(jW c.heap H).get? b=!o:=λe n=>JG e n;have R:∀{b:Addr}{o:Obj}{J:Array DictEntry}{A:Nat},c.heap.get? b=!o->o.data=.dict J A->H b=none:=λ{b o J A} e d=>by
   cases q:H b with
   |none=>rfl
   |some u=>have S:b=a:=hA b (by rw[q];simp);subst S;rw[L]at e;cases e;cases d
  have j:∀{b:Addr}{m:Str->Option Value},c.heap.Ns b m->(jW c.heap H).Ns b m:=λ{b m} B=>by obtain⟨o,J,A,e,d,r⟩:=B;exact#[o,J,A,f e (R e d),d,r]
  have C:=λb o e=>f (Y b o e) (by
   cases q:H b with
   |none=>rfl
   |some u=>
    have S:b=a:=hA b (by rw[q];simp);subst S;rw[hK (by rw[q];simp)]at e;cases e)
  refine codeAny_mono ((F _ C (j p)).run callerA [] c H #[[.ref a],[]] [.ref a] [.ref a] _ _ hr (#[rfl,(#[C,j p,#[M,j g,O],let⟨mc,h1,h2⟩:=t;#[mc,j h1,h2]]),λb o e=>JH e,q23 (JF _ _),trivial,λb g=>absurd (show b∈([]:List Addr) from g) 'c',I,.of_eq hg]) (l c (.ref a)) (.cons rfl .nil) (hsp H hO hS)) λr i h=>?_;cases r with
  |error e=>exact(Q H e i h).elim
  |ok fl=>
   cases fl with
   |next=>exact False.elim h
   |brk=>exact False.elim h
   |cont=>exact False.elim h
   |ret u=>
    obtain⟨v,H',os,bare,un,D,r',q⟩:=h;subst q;obtain rfl:u=Value.bool true:=r';refine#[rfl,OldK.of_keep λb o e=>?_,os,bare];cases q:H b with
    |none=>exact un.keep b o e q (by intro z;exact absurd (show b∈([]:List Addr) from z) 'c') 'c'
    |some u=>
     rcases hO b with z |⟨ob,xs,z⟩
     .rw[q]at z;cases z
     .have z2:=un.frzs b ob _ z;obtain⟨e1,_⟩:=I b _ z;obtain⟨e2,_⟩:=D b _ z2;rw[e]at e1;cases e1;exact e2
 cases T:K.lookup a with
 |some o=>have e:=Y a o T;rw[L]at e;cases e;refine core (λ_=>none) (λ_=>.inl rfl) (.inr #[_,vs.toArray,_,T,rfl,rfl,rfl,by rw[q0m,y];exact hl,by simpa using rv]) (λb u z=>by cases z) (λb z=>absurd rfl z) λz=>absurd rfl z
 |none=>
  refine core (λb=>if b=a then some (.frz { cls:=.type "list",data:=.seq vs.toArray } (.lst (G.map V.int))) else none) (λb=>?_) (.inl (.inr #[{ cls:=.type "list",data:=.seq vs.toArray },if_pos rfl])) (λb u z=>?_) (λb z=>?_) λ_=>T
  .by_cases g:b=a
   .exact .inr #[_,_,if_pos g]
   .exact .inl (if_neg g)
  .by_cases g:b=a
   .have z':=(if_pos g).symm.trans z;cases z';subst g;exact#[L,by rw[q0b];exact hl,vs,_,rv,L]
   .have z':=(if_neg g).symm.trans z;cases z'
  .by_cases g:b=a
   .exact g
   .exact absurd (if_neg g) z
theorem walk_of{l:PySem.W.OpenLaw}{K:Params->Frag}{CX:World->iR}{sp:World->Sp}
  (J:l.most=!n) (y:n<=sizeLine) (z:d.params.defaults=[]) (L:bx k callerA)
  (M:∀w  h,D w h->(K w.params).In h)
  (F:∀w  m  r  h,(K w.params).In h->h.Ns mainGlobals m->m d.name=!.ref r->
   ∃fd,(∀s  u,BindsTo s fd #[[u],[]] [(x,u)])/\
    ∀base,(K w.params).In base->base.Ns mainGlobals m->cD l.prog w (K w.params) m base (CX w) k r fd [x] (sp w))
  (hsp:∀w  H  a (t:List Int),t.length<=n->wc H->cG (K w.params) H a (t.map V.int)->sp w [.ref a] H (λv _=>v=.bl true) λ_ _ _=>False)
  (A:∀w  H  s  e  B,CX w [] H s (λ_ _ _=>False) e B->False) :
  PySem.W.WalkO q i I D l.row.toRowW d [] (λf vs=>PySem.call f vs):=by
 refine Att.attach_call J z λw s₀ N m Z r o pm cd O a vs t G Q ho hd R C p j c S=>?_;have E:=M w _ Q;obtain⟨fd,hb,U⟩:=F w m r _ E G.T.g C;exact Mj E G.T.g G.T.b G.T.builtins G.T.nolimit S p j (q0N c y) L U hb (λH X Y=>hsp w H a t c X Y) λH e B=>A w H N e B
noncomputable def gz(s:Stmt)(j:Nat):Stmt:=match s with
 |.ClassDef _ _ _ body _ _ _ _ _ _ _=>body.getD j (.Pass ⟨0,0,0,0⟩)
 |_=>.Pass ⟨0,0,0,0⟩
noncomputable def kf(s:Stmt):Arguments:=match s with
 |.FunctionDef _ a _ _ _ _ _ _ _ _=>a
 |_=>{ posonlyargs:=[],args:=[],vararg:=none,kwonlyargs:=[],kw_defaults:=[],kwarg:=none,defaults:=[] }
noncomputable def ip(s:Stmt):List Stmt:=match s with
 |.FunctionDef _ _ b _ _ _ _ _ _ _=>b
 |_=>[]
noncomputable def dY(s:Stmt):Scope:=match s with
 |.FunctionDef _ _ _ _ _ _ a _ _ _=>a
 |_=>{ kind:=.function,names:=[],isGenerator:=false,isCoroutine:=false }
structure nF (K:Frag) (x qual:Str) (st:Stmt) (f:Addr) (fd:FuncData):Prop where
 ex:∃(oc:Value) (od:Option Addr) (kV doc pm:Value) (an:Option Addr) (cdv ct:Value) (osl:Array (Option Value)),
  fd=fnOf x qual (kf st) (ip st) (dY st) .none kV doc pm an cdv ct/\K.lookup f=!#[oc,od,.func fd,osl]/\codeIn K cdv qual=true
 kp:keepIn K (.ref f)=true
theorem nF.binds{K:Frag}{st}(F:nF K x a st f fd)
  (h:∀kV b pm  e  c i  g,g.length=d.length->bindArgs (fnOf x a (kf st) (ip st) (dY st) .none kV b pm e c i) #[g,[]]=pure (d.zip g)):jw K fd d []:=by
 obtain⟨l,m,kV,b,pm,e,c,i,j,rfl,lk,k⟩:=F.ex;exact .all (h kV b pm e c i)
theorem pE{K:Frag}{st}{kV }(l:K.lookup f=!#[i,j,.func (fnOf x a (kf st) (ip st) (dY st) .none kV d pm g b h),e])
  (c:codeIn K b a=true) (k:keepIn K (.ref f)=true):nF K x a st f (fnOf x a (kf st) (ip st) (dY st) .none kV d pm g b h):=#[#[i,j,kV,d,pm,g,b,h,e,rfl,l,c],k]
theorem jz(a:bx k A):A.units+1<cLine:=q2q (Nat.add_le_add_left 'd' _) a.units
section
variable{X:Cx}
theorem pv(i){pos}(b:autoParam (X.N[i]? = !x) Zq._auto_1)(c:lP X.env.scope x:=by first |exact Or.inl rfl |exact Or.inr (Or.inl rfl) |exact Or.inr (Or.inr rfl))(hd:autoParam ((x==("__debug__":Str))=false) Zr._auto_1)
  (a:autoParam ((x==("__classdict__":Str))=false) Zr._auto_1):PE X (.Name x pos) (cu i):=JJ b c hd a
end
theorem fi{B:Prop}(h:B):if false=true then A else B:=by rw[if_neg q0F];exact h
theorem fj{B:Prop}(h:A):if true=true then A else B:=by rw[if_pos rfl];exact h
def bI(H a:Hp):Prop:=∀b o,H b=!o->a b=!o
theorem bI.trans(a:bI H d)(b:bI d e):bI H e:=λc o h=>b c o (a c o h)
theorem bI.free(e:bI H a)(h:a l=Option.none):H l=Option.none:=by
 cases q:H l with
 |none=>rfl
 |some o=>rw[e l o q]at h;cases h
theorem bI.seq{K}(e:bI H b)(h:cG K H a c):cG K b a c:=by
 rcases h with(h |⟨o,h⟩) |h
 .exact .inl (.inl (e _ _ h))
 .exact .inl (.inr #[o,e _ _ h])
 .exact .inr h
end L2
set_option maxHeartbeats 4000000
namespace L2
open PySem PySem.Spec PyProof.Rows
section
variable{κ:Type}[DecidableEq κ]
noncomputable def fY(a:List (κ×V))(k:κ):Option V:=(a.find? λb=>decide (b.1=k)).map (·.2)
noncomputable def fA(a:List (κ×V))(k:κ)(v:V):List (κ×V):=
 if (a.any λb=>decide (b.1=k))=true then a.map (λb=>if b.1=k then(b.1,v) else b) else a++[(k,v)]
theorem si{p:κ×V}(e:p.1=k):fY (p::r) k=!p.2:=by simp[fY,e]
theorem sj{p:κ×V}(e:¬ p.1=k):fY (p::r) k=fY r k:=by simp[fY,e]
theorem sk(k):∀a:List (κ×V),(a.any λb=>decide (b.1=k))=(fY a k).isSome
 |[]=>rfl
 |p::r=>by
  rw[q20]
  by_cases e:p.1=k
  .simp only[si e,decide_eq_true e,Bool.true_or,Option.isSome_some]
  .rw[sj e,decide_eq_false e,Bool.false_or];exact sk k r
theorem Ax(a)(k:κ)(v):(fA a k v).length<=a.length+1:=by
 unfold fA;split
 .rw[q0b];lia
 .rw[q0u,q0i,q04];lia
theorem Ml{a:List (κ×V)}(v)(h:fY a k=none):fA a k v=a++[(k,v)]:=by unfold fA;rw[sk,h];exact if_neg 'd'
theorem eW.isSome_eq(r:eW o u):o.isSome=u.isSome:=by
 cases o with
 |none=>cases u with
  |none=>rfl
  |some _=>exact(r).elim
 |some _=>cases u with
  |none=>exact(r).elim
  |some _=>rfl
theorem eW.getD(r:eW o u)(rd:aX d a):aX (o.getD d) (u.getD a):=by
 cases o with
 |none=>cases u with
  |none=>exact rd
  |some _=>exact(r).elim
 |some _=>cases u with
  |none=>exact(r).elim
  |some _=>exact r
theorem KV.val(r:KV a vs)(k:κ):eW (fY a k) (valueAt vs k):=by
 induction r with
 |nil=>exact True.intro
 | @cons p q i c h t g=>
  obtain⟨f,h2⟩:=h
  by_cases e:p.1=k
  .have b:valueAt (q::c) k=!q.2:=by simp[valueAt,(f.symm.trans e)]
   rw[si e,b];exact h2
  .have d:¬ q.1=k:=λz=>e (f.trans z);have b:valueAt (q::c) k=valueAt c k:=by simp[valueAt,d]
   rw[sj e,b];exact g
theorem KV.any(r:KV a vs)(k:κ):(a.any λb=>decide (b.1=k))=vs.any λb=>decide (b.1=k):=by
 induction r with
 |nil=>rfl
 |cons h t c=>rw[q20,q20,c,h.1]
theorem KV.repl(r:KV b vs)(k:κ)(d:aX y u) :
  KV (b.map λa=>if a.1=k then(a.1,y) else a) (vs.map λa=>if a.1=k then(a.1,u) else a):=by
 induction r with
 |nil=>exact .nil
 | @cons p q g i h t f=>
  rw[q0d,q0d];refine .cons ?_ f;obtain⟨c,h2⟩:=h
  by_cases e:p.1=k
  .rw[if_pos e,if_pos (c.symm.trans e)];exact#[c,d]
  .rw[if_neg e,if_neg (λz=>e (c.trans z))];exact#[c,h2]
theorem KV.put(r:KV a vs)(k:κ)(b:aX y u):KV (fA a k y) (stored vs k u):=by
 unfold fA stored;rw[r.any k]
 by_cases e:(vs.any λc=>decide (c.1=k))=true
 .rw[if_pos e,if_pos e];exact r.repl k b
 .rw[if_neg e,if_neg e];exact Paired.snoc r #[rfl,b]
theorem KV.length{a:List (κ×V)}(r:KV a vs):a.length=vs.length:=Paired.length r
end
theorem sr(r:aX (kV k) u):(ff P w).is k u=true:=by
 cases k with
 |inl i=>obtain⟨t,e⟩:=(r);subst e;exact JC P w i t
 |inr x=>obtain⟨t,e⟩:=(r);subst e;exact JD P w x t
theorem Ay:∀{a b},bj (a.map kV) b->ItemsAre (ff P w) a b
 |[],_,r=>by rw[q1B]at r;cases r;exact .nil
 |k::a,_,r=>by
  rw[q0d]at r;cases r with
  |cons h t=>exact .cons (sr h) (Ay t)
abbrev KT(H:Hp):List (List aQ×V)->List (List aQ×Addr×Value)->Prop:=Paired λp q=>p.1=q.1/\H q.2.1=!.tup (p.1.map kV)/\aX p.2 q.2.2
theorem KT.val(r:KT H a f)(k):eW (fY a k) ((atKey f k).map (·.2)):=by
 induction r with
 |nil=>exact True.intro
 | @cons p q j c h t i=>
  obtain⟨g,_,h2⟩:=h
  by_cases e:p.1=k
  .have b:atKey (q::c) k=!q.2:=by simp[atKey,(g.symm.trans e)]
   rw[si e,b];exact h2
  .have d:¬ q.1=k:=λz=>e (g.trans z);have b:atKey (q::c) k=atKey c k:=by simp[atKey,d]
   rw[sj e,b];exact i
theorem KT.repl(r:KT H a d)(k)(f:aX y u) :
  KT H (a.map λc=>if c.1=k then(c.1,y) else c) (d.map (putAt k u)):=by
 induction r with
 |nil=>exact .nil
 | @cons p q i j h t g=>
  rw[q0d,q0d];refine .cons ?_ g;obtain⟨b,h2,h3⟩:=h;unfold putAt
  by_cases e:p.1=k
  .rw[if_pos e,if_pos (b.symm.trans e)];exact#[b,h2,f]
  .rw[if_neg e,if_neg (λz=>e (b.trans z))];exact#[b,h2,h3]
theorem KT.put(r:KT H a c)(k)(g:H b=!.tup (k.map kV))(d:aX y u) :
  KT H (fA a k y) (storedH c k b u):=by
 have e:(a.any λf=>decide (f.1=k))=(atKey c k).isSome:=by rw[sk,(r.val k).isSome_eq,Option.isSome_map]
 unfold fA storedH;rw[e]
 by_cases q:(atKey c k).isSome=true
 .rw[if_pos q,if_pos q];exact r.repl k d
 .rw[if_neg q,if_neg q];exact Paired.snoc r #[rfl,g,d]
theorem KT.keeps(r:KT H a d)(f:∀b e,H b=!.tup e->c b=!.tup e):KT c a d:=
 Paired.mapP r λ_ _ z=>#[z.1,f _ _ z.2.1,z.2.2]
theorem Az(ok:bM P w H h)(e:Rd H a u):cy P w H h a u:=e.ok ok
theorem pF(ok:bM P w H h)(e:Rd H a (.dK b)):b.length<=sizeLine/\(a==sysModules)=false/\∃vs,KV b vs/\h.DictOf (ff P w) a vs:=
 Az ok e
theorem AA(ok:bM P w H h)(e:H a=!.dK b):b.length<=sizeLine/\(a==sysModules)=false/\∃vs,KV b vs/\h.DictOf (ff P w) a vs:=pF ok (.inl e)
theorem su(ok:bM P w H h)(e:H a=!.tup (b.map kV)):(tupleKind (ff P w)).is h b a:=by
 obtain⟨_,c,r,o,h1,h2,n,h3⟩:=(ok a _ e)
 exact#[o,c.toArray,n,h1,h2,h3,by simpa using Ay r]
theorem pG(ok:bM P w H h)(e:Rd H a (.dT b)):b.length<=sizeLine/\(a==sysModules)=false/\
  ∃d,KT H b d/\h.DictOfH (tupleKind (ff P w)) a d:=by
 obtain⟨z,y,d,r,o,es,g,h1,h2,h3,i,j⟩:=(Az ok e)
 refine#[z,y,d,r,o,es,g,h1,h2,h3,i,λx c=>?_,j];have all:∀{l:List (List aQ×V)}{m:List (List aQ×Addr×Value)},KT H l m->∀x∈m,(tupleKind (ff P w)).is h x.1 x.2.1:=by
  intro l m q
  induction q with
  |nil=>exactλx c=>nomatch c
  | @cons p q n s f t k=>
   intro x c;rcases q0e.mp c with e |c
   .subst e;exact su ok (by rw[<-f.1];exact f.2.1)
   .exact k x c
 exact all r x c
theorem Mm(ok:bM P w H h)(e:H a=!.dT b):b.length<=sizeLine/\(a==sysModules)=false/\
  ∃c,KT H b c/\h.DictOfH (tupleKind (ff P w)) a c:=pG ok (.inl e)
def iS(H:Hp)(a:Addr)(y:V)(r:Option V):Prop:=
 (∃c k,Rd H a (.dK c)/\y=kV k/\r=fY c k)\/∃c k b,Rd H a (.dT c)/\y=.ref b/\H b=!.tup (k.map kV)/\r=fY c k
def lR(H:Hp)(a:Addr)(y v:V)(d:Hp):Prop:=
 (∃c k,H a=!.dK c/\y=kV k/\c.length<sizeLine/\d = aL H a (.dK (fA c k v)))\/
 ∃c k b,H a=!.dT c/\y=.ref b/\H b=!.tup (k.map kV)/\c.length<sizeLine/\d = aL H a (.dT (fA c k v))
theorem iS.k{k}(e:H a=!.dK b):iS H a (kV k) (fY b k):=.inl #[b,k,.inl e,rfl,rfl]
theorem iS.t{k}(e:H a=!.dT c)(d:H b=!.tup (k.map kV)):iS H a (.ref b) (fY c k):=.inr #[c,k,b,.inl e,rfl,d,rfl]
theorem lR.k{k}(e:H a=!.dK b)(c:b.length<sizeLine):lR H a (kV k) v (aL H a (.dK (fA b k v))):=.inl #[b,k,e,rfl,c,rfl]
theorem lR.t{k}(e:H a=!.dT c)(d:H b=!.tup (k.map kV))(f:c.length<sizeLine) :
  lR H a (.ref b) v (aL H a (.dT (fA c k v))):=.inr #[c,k,b,e,rfl,d,f,rfl]
theorem Inv.big{Y:St}(I:Inv X pins Y H s):sysModules<s.heap.objs.size:=Nat.lt_trans 'd' ((I.mod.glob.keeps I.bk).lt)
theorem Mo{Y:St}(t:A.units+1<cLine)(I:Inv X pins Y H s)(g:iS H a y (!v))(n:aX y u)(h:∀d q,Inv X pins Y H q->aX v d->Q d q) :
  wpAny (model X.prog X.w) A (getItem (.ref a) u) Q E s:=by
 rcases g with⟨f,k,e,i,l⟩ |⟨f,k,b,e,i,x,l⟩
 .subst i;obtain⟨z,hd,vs,rel,dd⟩:=pF I.hok e;obtain⟨d,j,c⟩:=eW.some_of (by rw[l];exact rel.val k);exact wpAny_getItem_of (sr n) dd.mapOf j (h d _ (I.tok _) c)
 .subst i;cases(n);obtain⟨z,hd,B,rel,dd⟩:=pG I.hok e;obtain⟨d,j,c⟩:=eW.some_of (by rw[l];exact rel.val k);obtain⟨p,C,m⟩:=q0g.mp j;apply wpAny_getItem_heap (tupleKind_room_in1 t) (su I.hok x) dd C;rw[m];exact h d _ (I.tok _) c
theorem AB{Y:St}(I:Inv X pins Y H s)(f:pk (H a))(g:Heap.SameBut a s.heap c)(h:∃q,c.get? a=!q)(new:cy X.prog X.w (aL H a d) c a d) :
  Inv X pins Y (aL H a d) { s with heap:=c,toks:=t' }:=
 I.write f (.inl rfl) (λb q i z=>(g.2 b i).trans z) h new
theorem Mp(z:b.length<=sizeLine)(hd:(a==sysModules)=false)(rel:KV b vs)(e:c.DictOf (ff P w) a vs) :
  cy P w d c a (.dK b):=#[z,hd,vs,rel,e]
theorem Mq{Y:St}(M:A.units+1<cLine)(I:Inv X pins Y H s)(g:lR H a y v x)(B:aX y u)(C:aX v r)(h:∀D,Inv X pins Y x D->Q () D) :
  wpAny (model X.prog X.w) A (setItem (.ref a) u r) Q E s:=by
 rcases g with⟨d,k,e,j,l,m⟩ |⟨d,k,b,e,j,G,l,m⟩
 .subst j m;obtain⟨z,hd,vs,rel,dd⟩:=AA I.hok e;exact wpAny_setItem_pairs (hsz:=(by rw[<-rel.length];exact z)) (sr B) dd λJ f t=>h _ (AB I (by rw[e];exact True.intro) t (let⟨q,_,_,i,_⟩:=f;#[q,i]) (Mp (by have:=Ax d k v;lia) hd (rel.put k C) f))
 .subst j m;cases(B);obtain⟨z,hd,O,rel,dd⟩:=Mm I.hok e;refine wpAny_setItem_heap (hsz:=(by rw[<-Paired.length rel];exact z)) (tupleKind_room_in1 M) (su I.hok G) dd λJ f t=>h _ ?_;obtain⟨q,es,R,i,h2,h3,S,_,T⟩:=f;refine AB I (by rw[e];exact True.intro) t #[q,i] #[(by have:=Ax d k v;lia),hd,_,(rel.put k G C).keeps λc U L=>?_,q,es,R,i,h2,h3,S,T];rw[bw (JE L e (λz=>nomatch z))];exact L
def pH(i:Expr):Prop:=∀a b,subscripted i false a b=operate [a,b] (getItem a b)
theorem AC{id}
  (g:typeLookup (.type T) "__getitem__" = pure (!.builtin id)) (j:pH slice)
  (h:wpAny (model a w) A (eval value b) (λo e=>wpAny (model a w) A (eval slice b) (λi c=>c.TypeIs o T/\wpAny (model a w) A (getItem o i) Q E c) E e) E s) :
  wpAny (model a w) A (eval (.Subscript value slice pos) b) Q E s:=by
 refine Subscript_ (wpAny_mono h (λo e k=>wpAny_mono k (λi c d=>?_) λ_ _ x=>x) λ_ _ x=>x);obtain⟨hT,d⟩:=d;apply aa;rw[getitemInPython_of_ne hT.not_modules];refine aa (wpAny_specialOf hT g ?_);have fin:wpAny (model a w) A (subscripted slice false o i) (λr f=>wpAny (model a w) A (letTemporaryGo value o r >>= λ_=>pure r) Q E f) E c:=by rw[j o i];exact wpAny_operating (wpAny_mono d (λr f l=>aa (wpAny_letTemporaryGo (ao l))) λ_ _ x=>x)
 first
  |exact ao (aa fin)
  |exact aa (ao (aa fin))
  |exact aa fin
theorem Mr{Y:St}(I:Inv X c Y H s)(g:iS H a y o):s.TypeIs (.ref a) "dict":=by
 rcases g with⟨d,k,e,_,_⟩ |⟨d,k,b,e,_,_,_⟩
 .obtain⟨_,_,vs,_,dd⟩:=pF I.hok e;exact dd.typeIs
 .obtain⟨_,_,f,_,dd⟩:=pG I.hok e;exact dd.typeIs
def Ms(c ty:TE):TE:=λY H Q=>c Y H λx d=>ty Y d λy b=>∃a v,x=.ref a/\iS b a y (!v)/\Q v b
def Mt(c ty d:TE):TS:=λD Y H=>d Y H λv e=>c Y e λx f=>ty Y f λy g=>∃a b,x=.ref a/\lR g a y v b/\D.nx Y b
theorem AD(j:X.A.units+1<cLine)(k:PE X o td)(l:PE X i ty)(m:pH i):PE X (.Subscript o i pos) (Ms td ty):=by refineλb s Y H Q I h=>AC PySem.F.slot_dict_getitem.lookup m (aR (k b s Y H _ I h) λu n ⟨x,p,I1,q,r⟩=>aR (l b n Y p _ I1 r) λC D c=>?_);obtain⟨y,t,f,w,a,v,ex,g,z⟩:=c;subst ex;obtain rfl:u=Value.ref a:=q;exact#[Mr f g,Mo j f g w λE G B d=>#[v,t,B,d,z]]
theorem AE(d:X.A.units+1<cLine)(f:PE X o td)(j:PE X i ty)(k:PE X value tv)(l:swapsWith value (!.Subscript o i pos') pos.line X.env=pure false) :
  PS X (.Assign [.Subscript o i pos'] value pos) (Mt td ty tv):=by
 refineλb s Y H D I h=>wpAny_Assign_Subscript (aR (k b s Y H _ I h) λr m ⟨v,n,I1,p,q⟩=>aR (f b m Y n _ I1 q) λu t ⟨x,w,z,B,C⟩=>aR (j b t Y w _ z C) λN O c=>?_) l;obtain⟨y,Q,E,G,a,J,ex,g,L⟩:=c;subst ex;obtain rfl:u=Value.ref a:=B;exact Mq d E g G p λR M=>#[Y,J,M,L]
theorem Mu(h:Heap)(a:sysModules<h.objs.size):cy P w H (h.push { cls:=.type "dict",data:=.dict #[] }) h.objs.size (.dK []):=
 #[q0L _,beq_eq_false_iff_ne.mpr (Ne.symm (q0q a)),[],.nil,Heap.DictOf.new h]
theorem Mw(h:Heap)(a:sysModules<h.objs.size):cy P w H (h.push { cls:=.type "dict",data:=.dict #[] }) h.objs.size (.dT []):=
 #[q0L _,beq_eq_false_iff_ne.mpr (Ne.symm (q0q a)),[],.nil,_,#[],0,Heap.get?_push_size _ rfl,#[rfl,rfl,rfl],rfl,rfl,q1q]
def Mx:TE:=λ_ H Q=>∀p,H p=none->Q (.ref p) (aL H p (.dK []))
def My:TE:=λ_ H Q=>∀p,H p=none->Q (.ref p) (aL H p (.dT []))
theorem Mz:PE X (.Dict [] [] pos) Mx:=λb s Y H Q I h=>wpAny_Dict_empty #[.ref s.heap.objs.size,_,I.laid (λ_ _ q=>aK _ q) (aP _) (Mu s.heap I.big),rfl,h _ (I.hok.fresh (aP _))]
theorem AF:PE X (.Dict [] [] pos) My:=λb s Y H Q I h=>wpAny_Dict_empty #[.ref s.heap.objs.size,_,I.laid (λ_ _ q=>aK _ q) (aP _) (Mw s.heap I.big),rfl,h _ (I.hok.fresh (aP _))]
structure M2 (X:Cx) (o:Expr) (m:Str) (apos:Pos) (e f:Expr) (cpos:Pos):Prop where
 base:attributeBase o m X.env (eval o X.env)=eval o X.env
 few:((backTo cpos (starEach [e,f] X.env)).all (λx=>not x.1)&&(backToKw cpos (keywordEach [] X.env)).all (λx=>x.1.isSome)
  && decide (([e,f]:List Expr).length+([]:List Keyword).length+(if ([]:List Keyword).isEmpty then 0 else 1)<30))=true
 line:(apos.endLine==cpos.line)=true
 trees:backTo cpos (starEach [e,f] X.env)=[(false,eval e X.env),(false,eval f X.env)]
def we(H:Hp)(a:Addr):Prop:=(∃b,Rd H a (.dK b))\/∃b,Rd H a (.dT b)
theorem MA{Y:St}(I:Inv X f Y H s)(d:we H a) :
  s.TypeIs (.ref a) "dict"/\(∀b,Value.ref a=.ref b->∃c,s.heap.get? b=!c/\c.dict=none)/\(a==sysModules)=false:=by
 rcases d with⟨g,e⟩ |⟨g,e⟩
 .obtain⟨_,hd,vs,_,dd⟩:=pF I.hok e;refine#[dd.typeIs,λb q=>?_,hd];cases q;obtain⟨c,_,_,h1,h2,_⟩:=dd;exact#[c,h1,h2.2.1]
 .obtain⟨_,hd,h,_,dd⟩:=pG I.hok e;refine#[dd.typeIs,λb q=>?_,hd];cases q;obtain⟨c,_,_,h1,h2,_⟩:=dd;exact#[c,h1,h2.2.1]
theorem MB{Y:St}(n:A.units+1<cLine)(I:Inv X pins Y H s)(g:iS H a y o)(i:aX y u)(rd:aX d r)(h:∀j m,Inv X pins Y H m->aX (o.getD d) j->Q j m) :
  wpAny (model X.prog X.w) A (call (.builtin "dict.get") [.ref a,u,r]) Q E s:=by
 rcases g with⟨c,k,e,f,l⟩ |⟨c,k,b,e,f,p,l⟩
 .subst f;obtain⟨z,hd,vs,rel,dd⟩:=pF I.hok e;refine call_meetsIn q14 dd.typeIs q2O (q2E ..) (meets_dict_get_default (ff X.prog X.w) a (sr i) hd r) #[_,dd.mapOf,h _ _ (I.tok _) ?_];rw[l];exact(rel.val k).getD rd
 .subst f;cases(i);obtain⟨z,hd,q,rel,dd⟩:=pG I.hok e;refine call_meetsIn q14 dd.typeIs q2O (q2E ..) (meetsH_dict_get_default (tupleKind (ff X.prog X.w)) a b hd r) #[tupleKind_room_in1 n,k,q,su I.hok p,dd,h _ _ (I.tok _) ?_];rw[l];exact(rel.val k).getD rd
def MC(d ty e:TE):TE:=λY H Q=>d Y H λx b=>∃a,x=.ref a/\we b a/\ty Y b λy f=>e Y f λz c=>∃o,iS c a y o/\Q (o.getD z) c
theorem ME(i:X.A.units+1<cLine)(j:PE X o td)(k:PE X e ty)(l:PE X f tx)(m:M2 X o "get" apos e f cpos):PE X (.Call (.Attribute o "get" apos) [e,f] [] cpos) (MC td ty tx):=by
 refineλb s Y H Q I h=>wpAny_Call_method m.base m.few m.line PySem.F.plainAttrs_dict q14 PySem.F.type_dict_get (aR (j b s Y H _ I h) λu n p=>?_);obtain⟨x,q,I1,r,a,ex,d,t⟩:=p;subst ex;obtain rfl:u=Value.ref a:=r;obtain⟨v,w,_⟩:=MA I1 d;refine#[v,w,?_];rw[m.trees];refine Calls.callWith_builtin rfl (Calls.evalArgs_plain (Calls.spliced_cons (aR (k b n Y q _ I1 t) λR B ⟨y,C,D,E,G⟩=>
  Calls.spliced_cons (aR (l b B Y C _ D G) λfv S ⟨z,J,L,M,T,g,N⟩=>Calls.spliced_nil ?_))))
 exact MB i L g E M λU Z O c=>#[_,J,O,c,N]
noncomputable def dL(b:Env):List (Str×NameKind)->List (Str×Addr)->List (Str×Addr)
 |[],a=>a
 |(n,k)::r,a=>if k==.free then dL b r ((n,(b.cells.lookup n).getD 0)::a) else dL b r a
theorem AH(d):∀b  e,(∀y∈b,y.2=.free->(d.cells.lookup y.1).isSome=true)->
  (forIn b e λ(x:Str×NameKind) (g:List (Str×Addr))=>if (x.2==NameKind.free)=true then(do let c <-cellOf d x.1;pure (ForInStep.yield ((x.1,c)::g))) else(pure (ForInStep.yield g):Sem (ForInStep (List (Str×Addr)))))=pure (dL d b e)
 |[],e,_=>rfl
 | (n,k)::r,e,h=>by
  have i:=λa=>AH d r a λy l=>h y (bH _ l);rw[q2S];unfold dL
  by_cases f:(k==NameKind.free)=true
  .obtain⟨c,j⟩:=q0W.mp (h (n,k) q0h (by simpa using f));simp only[f];have:cellOf d n=pure c:=by unfold cellOf;rw[j]
   rw[this,j];exact i _
  .simp only[f];exact i _
theorem AI(h:∀y∈a.names,y.2=.free->(b.cells.lookup y.1).isSome=true):closureFor a b=pure (dL b a.names []):=congrArg (λm=>m >>= pure) (AH b a.names [] h)
theorem wg:∀{a f c},(∀y∈a,y.2=.free->(b.cells.lookup y.1).isSome=true)->
  (∀c,f.lookup x=!c->b.cells.lookup x=!c)->(dL b a f).lookup x=!c->b.cells.lookup x=some c
 |[],_,_,_,g,h=>g _ h
 | (n,k)::r,f,c,i,g,h=>by
  unfold dL at h
  by_cases j:(k==NameKind.free)=true
  .rw[if_pos j]at h;refine wg (λy l=>i y (bH _ l)) (λo e=>?_) h;rw[q0t]at e;cases m:x==n with
   |true=>
    rw[m]at e;have:=by simpa using m
    subst this;obtain⟨d,hd⟩:=q0W.mp (i (x,k) q0h (by simpa using j));rw[hd]at e ⊢;exact e
   |false=>rw[m]at e;exact g _ e
  .rw[if_neg j]at h;exact wg (λy l=>i y (bH _ l)) g h
theorem sv:∀{a acc},((x,NameKind.free)∈a\/(acc.lookup x).isSome=true)->((dL env a acc).lookup x).isSome=true
 |[],_,h=>by rcases h with h |h;cases h;exact h
 | (n,k)::r,acc,h=>by
  unfold dL
  by_cases b:(k==NameKind.free)=true
  .rw[if_pos b];apply sv;rw[q0t];cases c:x==n with
   |true=>exact .inr rfl
   |false=>
    rcases h with h |h
    .rcases q0e.mp h with e |h
     .cases e;simp at c
     .exact .inl h
    .exact .inr h
  .rw[if_neg b];apply sv;rcases h with h |h
   .rcases q0e.mp h with e |h
    .cases e;simp at b
    .exact .inl h
   .exact .inr h
noncomputable abbrev fZ(a:Env):Str×NameKind->Str×NameKind:=λ(n,k)=>if (k==NameKind.free&&a.scope.kind==.function&&a.kindOf n==!.cell) then(n,NameKind.cell) else(n,k)
theorem wh:∀{a:List (Str×NameKind)}{x}{k},a.lookup x=!k->
  (a.map (fZ env)).lookup x=!k\/(k=.free/\(a.map (fZ env)).lookup x=!.cell)
 |[],_,_,h=>by simp at h
 | (n,k)::r,x,f,h=>by
  rw[q0d];have e:fZ env (n,k)=(n,k)\/(k=.free/\fZ env (n,k)=(n,.cell)):=by
   by_cases c:(k==NameKind.free&&env.scope.kind==.function&&env.kindOf n==!.cell)=true
   .refine .inr #[?_,if_pos c];cases k<;>first |rfl |(simp at c)
   .exact .inl (if_neg c)
  cases b:x==n with
  |true=>
   simp only[q0t,b]at h;cases h;rcases e with e |⟨d,e⟩
   .rw[e];exact .inl (by simp only[q0t,b])
   .rw[e];exact .inr #[d,by simp only[q0t,b]]
  |false=>simp only[q0t,b]at h;rcases e with e |⟨d,e⟩<;>(rw[e];simp only[q0t,b];exact (@wh env r x f) h)
theorem AJ:∀{a:List (Str×NameKind)}{x},a.lookup x=none->(a.map (fZ env)).lookup x=none
 |[],_,_=>rfl
 | (n,k)::r,x,h=>by
  rw[q0d];have e:fZ env (n,k)=(n,k)\/fZ env (n,k)=(n,.cell):=by
   by_cases c:(k==NameKind.free&&env.scope.kind==.function&&env.kindOf n==!.cell)=true
   .exact .inr (if_pos c)
   .exact .inl (if_neg c)
  cases b:x==n with
  |true=>simp only[q0t,b]at h;cases h
  |false=>simp only[q0t,b]at h;rcases e with e |e<;>(rw[e];simp only[q0t,b];exact (@AJ env r x) h)
theorem MG(I:Nat->Shared->Prop)
  (turn:∀n s,I n s->wpAny (model prog w) A (pyNext it) (λr j=>match r with
   |none=>R (.ok .next) j
   |some v=>wpAny (model prog w) A (letOwnedTupleGo target it v) (λ_ i=>wpAny (model prog w) A (assign target a v) (λ_ o=>
     wpAny (model prog w) A (forIn f true λc r=>if r=true then do let ok <-isTrue c a (eval c a);pure (ForInStep.yield ok) else pure (ForInStep.yield r)) (λok k=>
      if ok=true then wpAny (model prog w) A (eval e a) (λx p=>
       wpAny (model prog w) A (call (.builtin "list.append") [g,x]) (λ_ q=>∃m,m<n/\I m q) (λ_ _=>False) p) (λ_ _=>False) k
      else ∃m,m<n/\I m k) (λ_ _=>False) o) (λ_ _=>False) i) (λ_ _=>False) j) (λ_ _=>False) s)
  (n) (h:I n s) :
  codeAny (model prog w) A (.compLoop (.ListComp e [#[target,iter,f,0]] d pos) 0 it g a) R s:=by
 refine codeAny_loop rfl I (λn s C=>?_) n h;refine wpAny_noted (wpAny_noRaise ?_);rw[compTurn_list];refine aa (wpAny_standAt (aa (wpAny_mono (turn n s C) (λr j t=>?_) λ_ _ b=>b)));cases r with
 |none=>exact ao t
 |some v=>
  refine aa (wpAny_mono t (λ_ i l=>?_) λ_ _ b=>b);refine aa (wpAny_mono l (λ_ o y=>aa (wpAny_mono y (λok k u=>?_) λ_ _ b=>b)) λ_ _ b=>b);cases ok with
  |false=>exact ao #[rfl,u]
  |true=>exact aa (aa (wpAny_mono u (λx p z=>aa (wpAny_mono z (λ_ q B=>ao (ao #[rfl,B])) λ_ _ b=>b)) λ_ _ b=>b))
theorem sx:∀a  n  b,((x,NameKind.cell)∉a)->(cellsFrom n a b).lookup x=b.lookup x
 |[],_,_,_=>rfl
 | (y,k)::r,n,b,h=>by
  unfold cellsFrom;have c:=λz=>h (bH _ z);split
  .rename_i d;rw[sx r _ _ c,q0t];have:(x==y)=false:=by
    cases e:x==y with
    |false=>rfl
    |true=>exact absurd (by rw[eq_of_beq e,<-eq_of_beq d];exact q0h) h
   rw[this]
  .exact sx r _ _ c
theorem wj:∀a (h:Heap)  b,(cellsFrom h.objs.size a b).lookup x=!c->b.lookup x=!c\/(h.objs.size<=c/\(x,NameKind.cell)∈a/\(pushCells h a).IsCell c none)
 |[],_,_,e=>.inl e
 | (y,k)::r,h,b,e=>by
  unfold cellsFrom at e;unfold pushCells;split at e
  .rename_i d;rw[if_pos d];have sz:(h.push { cls:=.type "cell",data:=.cell none }).objs.size=h.objs.size+1:=Heap.size_push ..;rw[<-sz]at e;rcases wj r _ _ e with z |⟨f,g,i⟩
   .rw[q0t]at z;split at z
    .rename_i j;cases z;refine .inr #[aP _,?_,#[_,pushCells_keeps r _ _ _ (Heap.get?_push_size _ rfl),rfl]];rw[eq_of_beq j,<-eq_of_beq d];exact q0h
    .exact .inl z
   .exact .inr #[by rw[sz]at f;lia,bH _ g,i]
  .rename_i d;rw[if_neg d];rcases wj r _ _ e with z |⟨f,g,i⟩
   .exact .inl z
   .exact .inr #[f,bH _ g,i]
theorem wm:∀a  n  b,(x,NameKind.cell)∈a->(cellsFrom n a b).lookup x=!c->n<=c
 | (y,k)::r,n,b,f,e=>by
  unfold cellsFrom at e
  by_cases d:(x,NameKind.cell)∈r
  .split at e
   .have:=wm r _ _ d e;lia
   .exact wm r _ _ d e
  .rcases q0e.mp f with z |z
   .cases z;rw[if_pos (by rfl),sx r _ _ d,q0t,beq_self_eq_true]at e;cases e;exact aP _
   .exact absurd z d
theorem wn:∀a  n  b,((x,NameKind.cell)∈a\/(b.lookup x).isSome=true)->((cellsFrom n a b).lookup x).isSome=true
 |[],_,_,h=>by rcases h with h |h;cases h;exact h
 | (y,k)::r,n,b,h=>by
  unfold cellsFrom;split
  .rename_i c;apply wn r _ _;rcases h with h |h
   .rcases q0e.mp h with z |z
    .cases z;right;rw[q0t,beq_self_eq_true];rfl
    .exact .inl z
   .right;rw[q0t];split
    .rfl
    .exact h
  .rename_i c;apply wn r _ _;rcases h with h |h
   .rcases q0e.mp h with z |z
    .cases z;exact absurd rfl c
    .exact .inl z
   .exact .inr h
theorem wo{c:Addr}{lo:Nat}:∀i (n:Nat) (d:List (Str×Addr)),(∀x y c,lo<=c->d.lookup x=!c->d.lookup y=!c->x=y)->(∀x c,d.lookup x=!c->c<n)->lo<=c->(cellsFrom n i d).lookup x=!c->(cellsFrom n i d).lookup y=!c->x=y
 |[],_,_,h,_,l,g,f=>h _ _ _ l g f
 | (z,k)::r,n,d,h,hb,l,g,f=>by
  unfold cellsFrom at g f;split at g
  .rename_i j;rw[if_pos j]at f;refine wo r (n+1) ((z,n)::d) (λx y c l g f=>?_) (λx c e=>?_) l g f
   .rw[q0t]at g f;split at g<;>split at f
    .rename_i a _ b;rw[eq_of_beq a,eq_of_beq b]
    .cases g;exact absurd (hb _ _ f) (q0E _)
    .cases f;exact absurd (hb _ _ g) (q0E _)
    .exact h _ _ _ l g f
   .rw[q0t]at e;split at e
    .cases e;exact q06 _
    .exact q1s (hb _ _ e)
  .rename_i j;rw[if_neg j]at f;exact wo r n d h hb l g f
theorem MH
  (h:Q { scope,locals:=s.heap.objs.size,globals,cells:=cellsFrom (s.heap.objs.size+1) scope.names cl,qual,func:=none,code:=a.code,frame:=a.frame,builtins:=a.builtins } { s with heap:=pushCells (s.heap.push { cls:=.type "dict",data:=.dict #[] }) scope.names }) :
  wpAny M A (newFunctionEnv scope globals cl [] qual none .none (!a)) Q E s:=by
 refine aa (wpAny_alloc (aa (wpAny_layCells _ (λname kind cells=>by cases b:kind==NameKind.cell<;>simp[b]) _ _ _ _ ?_)));rw[Heap.size_push ..];exact aa (ao (ao h))
abbrev bT(X:Cx)(scope:Scope)(N':List Str)(C:Addr)(fp:List Addr)(s₂:Shared)(H₂:Hp)(pl:List (Addr×Obj)):Cx where
 prog:=X.prog
 w:=X.w
 K:=X.K
 mg:=X.mg
 base:=X.base
 A:=X.A
 N:=N'
 s₀:=s₂
 H₀:=H₂
 env:=compEnvC scope (cellsFrom (C+1) scope.names (dL X.env scope.names [])) C X.env
 outer:=X.stack
 stack:=X.stack
 ex:=fp
 fn:=λy=>scope.names.lookup y==some .cell
 calm:=X.calm
 pn:=X.pn++pl
 xe:=λ_ _=>False
structure ae (X:Cx) (scope:Scope) (own capN:List Str) (caps:List Nat):Prop where
 kind:scope.kind=.function
 one:∀y∈scope.names,scope.names.lookup y.1=some y.2
 free:∀y∈scope.names,y.2=.free->X.env.kindOf y.1=!.cell\/X.env.kindOf y.1=some .free
 loc:∀y∈scope.names,y.2=.local->scope.names.lookup y.1=some .local
 caps:caps.map (λj=>X.N[j]?)=capN.map some
 capf:∀x∈capN,scope.names.lookup x=!.free
noncomputable def ga(own:List Str)(a:List Nat)(Y:St):St:=own.map (λ_=>none)++a.map (λj=>(Y[j]?).getD none)
theorem ae.cells{caps:List Nat}(S:ae X scope own capN caps)(ok:X.Ok):∀y∈scope.names,y.2=.free->(X.env.cells.lookup y.1).isSome=true:=λy a b=>by obtain⟨c,d⟩:=ok.has y.1 (S.free y a b);rw[d];rfl
theorem ae.cl{caps:List Nat}(S:ae X scope own capN caps)(ok:X.Ok)(h:(dL X.env scope.names []).lookup x=!c):X.env.cells.lookup x=!c:=
 wg (S.cells ok) (λ_ e=>by simp at e) h
theorem MI{Y:St}{C:Addr}{fp:List Addr}(S:ae X scope own capN caps)(I:Inv X f Y H₂ B)
  (hf:∀b∈fp,gV X f H₂ b) (M:∀b∈fp,b<B.heap.objs.size) (t:B.heap.objs.size<=C) (O:∀b o,B.heap.get? b=!o->L.get? b=!o) (hn:L.Ns C m) (Q:∀x c,(cellsFrom (C+1) scope.names (dL X.env scope.names [])).lookup x=!c->(dL X.env scope.names []).lookup x=!c\/(C+1<=c/\L.IsCell c none)) :
  Inv (bT X scope (own++capN) C fp B H₂ f) [] (ga own caps Y) H₂ { B with heap:=L,toks:=tk }:=by
 have cl:=λ{x:Str}{c:Addr}=>S.cl (x:=x) (c:=c) I.ok;have lt:∀{x:Str}{c:Addr},X.env.cells.lookup x=!c->c<B.heap.objs.size:=λe=>by obtain⟨v,q⟩:=I.cell _ _ e;exact q.lt
 have D:∀{x:Str}{c:Addr},X.env.cells.lookup x=!c->C+1<=c->False:=λe z=>absurd (q0l (lt e) (q0N t (q1t z))) (q0E _);have a:=λ{x c} e=>(Q x c e).imp (λz=>cl z) λz=>z;have r:∀x,((relabel scope X.env).names.lookup x=!.cell\/(relabel scope X.env).names.lookup x=!.free)->scope.names.lookup x=!.free\/scope.names.lookup x=!.cell:=λx H=>by
  cases e:scope.names.lookup x with
  |none=>have z:(relabel scope X.env).names.lookup x=none:=AJ (env:=X.env) e;rw[z]at H;rcases H with q |q<;>cases q
  |some k=>
   rcases wh (env:=X.env) e with z |⟨z,_⟩
   .have z':(relabel scope X.env).names.lookup x=!k:=z;rw[z']at H;rcases H with q |q
    .cases q;exact .inr rfl
    .cases q;exact .inl rfl
   .rw[z];exact .inl rfl
 have stk:∀b,b≠X.env.locals->b∉X.fs->b∉bV X.stack:=λb J g z=>(q0e.mp (I.stkSub b z)).elim J g;refine#[#[I.ok.mod,S.kind,I.ok.glob,I.ok.blt,t,λx y c J g=>?inj,λx H=>?_,λx c h e=>?cab,I.ok.hd,I.ok.frames,.inl rfl,λb A=>#[?_,λx c h=>?exf],
   I.bs,q0N I.ok.bsz I.sz,λb o e A=>?_,λb A=>stk b (hf b A).2.1 (hf b A).2.2.1,I.stack,I.stkFree],
  rfl,I.bare,Un.kept O,#[m,hn,λi x v J g h3=>?_],λx c h=>?_,I.hok.fresh t,λx c h=>?frc,λp hp=>?_,I.hok.kept O,?_]
 case inj=>
  rcases a J with R |⟨R,_⟩<;>rcases a g with z2 |⟨z2,_⟩
  .exact I.ok.inj x y c R z2
  .exact(D R z2).elim
  .exact(D z2 R).elim
  .exact wo (lo:=C+1) scope.names (C+1) (dL X.env scope.names []) (λx y c l e _=>(D (cl e) l).elim) (λx c e=>Nat.lt_succ_of_le (q0N (q1y (lt (cl e))) t)) R J g
 case cab=>have e1:=eq_of_beq (h);have:=wm scope.names (C+1) (dL X.env scope.names []) (q0X e1) e;exact q0N t (q1t this)
 case exf=>
  rcases a h with z |⟨z,_⟩
  .exact(hf b A).2.2.2.2.1 x c z
  .exact Ne.symm (q0q (q0l (M b A) (q0N t (q1t z))))
 case frc=>
  rcases a h with z |⟨z,_⟩
  .exact I.freeC x c z
  .exact I.hok.fresh (q0N t (q1t z))
 .refine q0W.mp (wn scope.names (C+1) (dL X.env scope.names []) ?_);rcases r x H with q |q
  .exact .inr (sv (env:=X.env) (.inl (q0X q)))
  .exact .inl (q0X q)
 .exact q0q (q0l (M b A) t)
 .rcases(hf b A).2.2.2.1 with z |z
  .exact I.ok.noex b o e z
  .exact absurd (q0l (bo (I.ok.bs b o e).1) z) (q0E _)
 .
  have hi:own.length<=i:=by
   refine q1e λa1=>?_;unfold ga at g;rw[q0S (by simpa using a1),q0k]at g;cases q:own[i]? with
   |none=>rw[q]at g;cases g
   |some y=>rw[q]at g;cases g
  have T:capN[i - own.length]? = !x:=by
   have:(own++capN)[i]? = !x:=J
   rwa [q0M hi]at this
  have U:(caps.map (λj=>(Y[j]?).getD none))[i - own.length]? = !!v:=by
   unfold ga at g
   rwa [q0M (by simpa using hi),q0b]at g
  rw[q0k]at U;obtain⟨j,hj,s⟩:=q0g.mp U;have hX:X.N[j]? = !x:=by have q:=congrArg (λl=>l[i - own.length]?) S.caps;simp only[q0k,hj,T,q1A]at q;exact q0r q
  have hY:Y[j]? = !!v:=by
   cases q:Y[j]? with
   |none=>rw[q]at s;cases s
   |some z=>rw[q]at s;simp at s;rw[s]
  have E:=S.capf x (q0A T);have w:(x,NameKind.free)∈scope.names:=q0X E;have Z:=S.free _ w rfl;obtain⟨m',a3,hl⟩:=I.loc;obtain⟨u,ru,l⟩:=hl j x v hX hY (Z.elim (λq=>.inr (.inl q)) λq=>.inr (.inr q));refine#[u,ru,.inr #[?_,?_]]
  .rcases wh (env:=X.env) E with z |⟨_,z⟩
   .exact .inr z
   .exact .inl z
  .rcases l with⟨l,_⟩ |⟨_,c,hc,G⟩
   .have l':X.env.kindOf x=!.local:=l;rcases Z with q |q<;>(rw[l']at q;cases q)
   .obtain⟨c',a0⟩:=q0W.mp (sv (env:=X.env) (acc:=[]) (.inl w));have:=cl a0;rw[hc]at this;cases this;obtain⟨o,ho,hd⟩:=G;have nc:(x,NameKind.cell)∉scope.names:=λz=>by have:=S.one _ z;rw[E]at this;cases this
    exact#[c,(sx scope.names (C+1) (dL X.env scope.names []) nc).trans a0,o,O c o ho,hd]
 .rcases a h with z |⟨_,z⟩
  .obtain⟨v,o,ho,hd⟩:=I.cell x c z;exact#[v,o,O c o ho,hd]
  .exact#[_,z]
 .have a2:p∈X.pn++f:=by simpa using hp
  obtain⟨e,n,ne,nf,d⟩:=I.pin p a2;exact#[O _ _ e,n,q0q (q0l (bo e) t),stk p.1 ne nf,d]
 .unfold ga;have hl:=congrArg List.length S.caps;simp only[q0b]at hl;rw[q0u,q0u,q0b,q0b,hl]
def nG(X:Cx)(b:List Expr)(t:TT):Prop:=
 ∀(a:List (Addr×Obj)) (s:Shared) (Y:St) (H:Hp) (Q:Bool->Hp->Prop),Inv X a Y H s->t Y H Q->
  wpAny (model X.prog X.w) X.A (forIn b true λc r=>if r=true then do let ok <-isTrue c X.env (eval c X.env);pure (ForInStep.yield ok) else pure (ForInStep.yield r)) (TP X a Y Q) X.xe s
def MJ:TT:=λ_ H Q=>Q true H
theorem MK:nG X [] MJ:=λ_ _ _ H _ I h=>wpAny_tests_nil #[H,I,h]
theorem ML(h:PT X c t):nG X [c] t:=λa s Y H Q I q=>wpAny_tests_one (h a s Y H Q I q)
def kg(own:List Str)(d:List Nat)(k:TI)(g:TG)(l:TT)(n:TE):TE:=λY H Q=>k Y H λJ o=>∃W:Nat->Nat->List V->St->Hp->Prop,(∃m,W 0 m [] (ga own d Y) o)/\∀i m a f H,W i m a f H->
 (J.stop i H/\a.length<=sizeLine/\∀p,H p=none->Q (.ref p) (aL H p (.lst a)))\/
 (J.go i H/\∀x h,J.yld i H x h->g x f h λe q=>l e q λb j=>if b=true then n e j λy r=>a.length<sizeLine/\∃c,c<m/\W (i+1) c (a++[y]) e r else ∃c,c<m/\W (i+1) c a e j)
theorem AK{Y:St}{RR:Value->Addr->Result->Shared->Prop}(S:ae X scope own capN caps)(hc:X.calm=true)(hi:PI X tg iter wi)
  (c6:∀C E s₂ H₂ pl,PG (bT X scope (own++capN) C E s₂ H₂ pl) tg g/\nG (bT X scope (own++capN) C E s₂ H₂ pl) ifs tc/\PE (bT X scope (own++capN) C E s₂ H₂ pl) elt te)
  (I:Inv X f Y H s) (h:kg own caps wi g tc te Y H Q)
  (c7:∀D C  s'  M  m,Inv X f Y M s'->gV X f M C->s'.heap.Ns C m->Q (.ref D) M->RR (.ref D) C (.ok .next) s') :
  wpAny (model X.prog X.w) X.A (eval iter X.env) (λx s₁=>wpAny (model X.prog X.w) X.A (pyIter x) (λit s₂=>wpAny (model X.prog X.w) X.A (newList []) (λb4 s₃=>
   wpAny (model X.prog X.w) X.A (newFunctionEnv scope X.env.globals (dL X.env scope.names []) [] X.env.qual none .none (!X.env)) (λa8 s₄=>
    codeAny (model X.prog X.w) X.A (.compStart (.ListComp elt [#[tg,iter,ifs,0]] scope pos) 0 it b4 { a8 with scope:=relabel scope X.env }) (RR b4 a8.locals) s₄) X.xe s₃) X.xe s₂) X.xe s₁) X.xe s:=by
 refine aR (hi f s Y H _ I h) λv s1 h1=>aR h1 λd4 B h2=>?_;obtain⟨it,E,tn,J,Z,e,I2,T,b1,f2,W,⟨m0,w0⟩,b5⟩:=h2;subst e;have a0:∀b∈E,b<B.heap.objs.size:=λb t=>by obtain⟨o,e,_⟩:=T.obj _ _ b1 b t;exact bo e
 refine wpAny_newObj_type (MH ?_);dsimp only;generalize a4:B.heap.push { cls:=.type "list",dict:=none,data:=.seq ([]:List Value).toArray }=G;have hC:G.objs.size=B.heap.objs.size+1:=by rw[<-a4,Heap.size_push]
 have l:B.heap.objs.size<=G.objs.size:=by rw[hC];exact q1u _
 have a5:B.heap.objs.size≠G.objs.size:=by rw[hC];exact q0q (q06 _)
 have below:∀b,b<B.heap.objs.size->b≠G.objs.size:=λb t=>by rw[hC];exact q0q (q1s t)
 have b6:(G.push { cls:=.type "dict",data:=.dict #[] }).objs.size=G.objs.size+1:=Heap.size_push ..;have L:∀x c,(cellsFrom (G.objs.size+1) scope.names (dL X.env scope.names [])).lookup x=!c->(dL X.env scope.names []).lookup x=!c\/(G.objs.size+1<=c/\(pushCells (G.push { cls:=.type "dict",data:=.dict #[] }) scope.names).IsCell c none):=λx c e=>by rw[<-b6]at e ⊢;exact(wj scope.names _ _ e).imp (λz=>z) λb7=>by obtain⟨z1,_,z2⟩:=b7;exact#[z1,z2]
 have a1:(pushCells (G.push { cls:=.type "dict",data:=.dict #[] }) scope.names).Ns G.objs.size (λ_=>none):=(Heap.Ns.new G (.type "dict")).keeps (pushCells_keeps _ _);have old:∀b o,B.heap.get? b=!o->(pushCells (G.push { cls:=.type "dict",data:=.dict #[] }) scope.names).get? b=!o:=λb o e=>pushCells_keeps _ _ b o (aK _ (a4▸aK _ e));have a2:(pushCells (G.push { cls:=.type "dict",data:=.dict #[] }) scope.names).get? B.heap.objs.size=some { cls:=.type "list",dict:=none,data:=.seq ([]:List Value).toArray }:=pushCells_keeps _ _ _ _ (aK _ (a4▸Heap.get?_push_size _ rfl));generalize pushCells (G.push { cls:=.type "dict",data:=.dict #[] }) scope.names=h₁ at L a1 old a2 ⊢;generalize c8:G.objs.size=C at a1 a5 l below L ⊢;generalize j:B.heap.objs.size=D at a2 a5 ⊢;clear a4 hC c8 b6 G;obtain⟨hg,ht,he⟩:=c6 C E B Z f;have a6:∀x c,(cellsFrom (C+1) scope.names (dL X.env scope.names [])).lookup x=!c->c≠D:=λx c e z=>by
  rcases L x c e with e |⟨e,_⟩
  .obtain⟨v,q⟩:=I2.cell x c (S.cl I2.ok e);exact absurd q.lt (by rw[z,j];exact q0E _)
  .rw[j]at l;exact absurd (q2q l (q0l (q06 C) e)) (by rw[z];exact q0E _)
 have a7:D∉bV X.stack:=λz=>by
  rcases q0e.mp (I2.stkSub D z) with q |q
  .exact absurd I2.lt (by rw[<-q,j];exact q0E _)
  .exact I2.nofs (by rw[j];exact aP _) q
 have a3:∀p∈X.pn++f,p.1≠D:=λp N z=>absurd (bo (I2.pin p N).1) (by rw[z,j];exact q0E _);have a9:∀{Y':St}{M:Hp}{s':Shared}{O:List Value}{k:Nat},Inv (bT X scope (own++capN) C E B Z f) [] Y' M s'->s'.heap.get? D=some { cls:=.type "list",data:=.seq O.toArray k }->M D=none->
   Inv (bT X scope (own++capN) C E B Z f) [(D,{ cls:=.type "list",data:=.seq O.toArray k })] Y' M s':=λJ e n=>J.pins_of λp N=>by
  obtain rfl:=q0o.mp N;exact#[e,n,a5,a7,λv z=>by cases z]
 have b2:∀{M:Hp}{o:Obj},(∀b∈E,M b=none)->∀b∈E,gV (bT X scope (own++capN) C E B Z f) [(D,o)] M b:=λhn b t=>by
  obtain⟨f0,f1,c9,f3,f4,f5⟩:=f2 b t;refine#[hn b t,q0q (q0l (a0 b t) (by rw[j];rw[j]at l;exact l)),λz=>(q0e.mp (I2.stkSub b z)).elim f1 c9,.inl t,λx c e=>?cl,λp N=>?_]
  case cl=>
   rcases L x c e with e |⟨e,_⟩
   .exact f4 x c (S.cl I2.ok e)
   .exact Ne.symm (q0q (q0l (a0 b t) (q0N (by rw[j];rw[j]at l;exact l) (q1t e))))
  rcases q0f.mp N with N |N
  .exact f5 p N
  .obtain rfl:=q0o.mp N;intro z;have z':D=b:=z;exact absurd (a0 b t) (by rw[<-z',j];exact q0E _)
 have b0:codeAny (model X.prog X.w) X.A (.compLoop (.ListComp elt [#[tg,iter,ifs,0]] scope pos) 0 (.ref it) (.ref D) (compEnvC scope (cellsFrom (C+1) scope.names (dL X.env scope.names [])) C X.env)) (RR (.ref D) C) { B with heap:=h₁,toks:=B.toks }:=by
  refine MG (λn s'=>∃i ys O k Y' M,Inv (bT X scope (own++capN) C E B Z f) [(D,{ cls:=.type "list",data:=.seq O.toArray k })] Y' M s'/\tn i s'.heap/\(∀b∈E,M b=none)/\bj ys O/\W i n ys Y' M) ?_ m0
   ⟨0,[],[],0,_,Z,a9 (MI S I2 f2 a0 (by rw[j];rw[j]at l;exact l) old a1 L) a2 (I2.hok.fresh (by rw[j];exact aP _)),T.keep _ _ _ b1 λb _ o e=>old b o e,λb t=>(f2 b t).1,.nil,w0⟩
  rintro n s3 ⟨i,ys,O,k,Y3,H3,I3,b8,b9,r3,w3⟩;rcases b5 i n ys Y3 H3 w3 with⟨stop,hz,qn⟩ |⟨go,step⟩
  .refine aR (T.done (bT X scope (own++capN) C E B Z f) rfl rfl rfl hc i _ s3 Y3 H3 _ I3 (b2 b9) b8 stop) λr s4 c0=>?_;obtain⟨hr,R⟩:=c0;subst hr;obtain⟨eD,nD,_⟩:=R.pin (D,_) (bq _ (q0o.mpr rfl));have U:H3 D=none:=nD;have I5:Inv X f Y (aL H3 D (.lst ys)) s4:=by
    refine I2.call' (ch:=E) R.os #[R.base.keep,R.base.slot,λb o e n hx=>?_,R.base.there,λb xs e=>?_,λb o u e=>?_,λb ps e=>?_] (λb u e=>?_) R.bare λb t=>#[(f2 b t).2.2.2.1,(f2 b t).2.1,(f2 b t).2.2.2.2.1,(f2 b t).2.2.2.2.2]
    .rw[bw (by intro z;exact absurd (bo e) (by rw[z,j];exact q0E _))];exact R.base.free b o e n hx
    .have q:=R.base.tups b xs e;rw[bw (iO q U)];exact q
    .have q:=R.base.frzs b o u e;rw[bw (iO q U)];exact q
    .obtain⟨more,q⟩:=R.base.tbls b ps e;exact#[more,by rw[bw (iO q U)];exact q]
    .by_cases t:b=D
     .subst t;rw[cF]at e;cases e;exact#[hz,O,k,r3,eD]
     .rw[bw t]at e;exact(R.hok b u e).stay (λ_ _ _ q=>q) (λc q=>by rw[bw (iO q U)];exact q) λc xs q=>by rw[bw (iO q U)];exact q
   obtain⟨m,hm,_⟩:=R.loc;exact c7 D C s4 _ m I5 (I2.fpOk (by rw[j];rw[j]at l;exact l) (by rw[bw (Ne.symm a5)];exact R.free)) hm (qn D U)
  .refine aR (T.item (bT X scope (own++capN) C E B Z f) rfl rfl rfl hc i _ s3 Y3 H3 _ I3 (b2 b9) b8 go) λr s4 c1=>?_;obtain⟨u,hr,h4⟩:=c1;subst hr;refine aR h4 λ_ s5 c2=>?_;obtain⟨x,H5,I5,r5,y5,b3,d0⟩:=c2;have d1:=I5.pinned (b2 d0) (T.obj _ _ b3);refine aR (hg _ s5 Y3 H5 x u _ d1 r5 (step x H5 y5)) λ_ s6 c3=>?_;obtain⟨Y6,H6,I6,q6⟩:=c3;refine aR (ht _ s6 Y6 H6 _ I6 q6) λok s7 c4=>?_;obtain⟨H7,I7,q7⟩:=c4;have dN:∀{Y8:St}{H8:Hp}{s8:Shared},Inv (bT X scope (own++capN) C E B Z f) ([(D,{ cls:=.type "list",data:=.seq O.toArray k })]++pq E s5.heap) Y8 H8 s8->tn (i+1) s8.heap/\(∀b∈E,H8 b=none):=λ{Y8 H8 s8} I8=>by refine#[T.keep _ _ _ b3 λb t o e=>(I8.pin (b,o) (bq _ (bq _ (rV t e)))).1,λb t=>?_];obtain⟨o,e,d⟩:=T.obj _ _ b3 b t;exact(I8.pin (b,o) (bq _ (bq _ (rV t e)))).2.1
   cases ok with
   |false=>obtain⟨m',hm,w7⟩:=q7;obtain⟨t7,n7⟩:=dN I7;exact#[m',hm,i+1,ys,O,k,Y6,H7,I7.unpinned,t7,n7,r3,w7]
   |true=>
    refine aR (he _ s7 Y6 H7 _ I7 q7) λu8 s8 c5=>?_;obtain⟨y,H8,I8,r8,hz,m',hm,w8⟩:=c5;obtain⟨t8,n8⟩:=dN I8;have I9:=I8.unpinned;obtain⟨eD,nD,d2,d5,_⟩:=I9.pin (D,_) (bq _ (q0o.mpr rfl));have hl:=r3.length;refine call_meets F.slot_list_append #[_,eD,rfl] F.entry_list_append (F.args_list_append_2 _ _) (PySem.list_append D O.toArray k u8 (by rw[q0m];lia)) #[eD,?_];have q:=PySem.IsL.update eD (λa=>a.push u8);have e2:O.toArray.push u8=(O++[u8]).toArray:=by simp
    rw[e2]at q;have keep:∀b o,b≠D->s8.heap.get? b=!o->(s8.heap.update D (Obj.mapSeq λa=>a.push u8)).get? b=!o:=λb o t e=>(Heap.get?_update_other s8.heap _ (Ne.symm t)).trans e;exact#[m',hm,i+1,ys++[y],O++[u8],_,Y6,H8,a9 (by refine(I9.pins_of (pins':=[]) λp N=>absurd N 'c').turned (t':=s8.toks) (it:=D) keep nD d2 (.inr (by rw[j];exact aP _)) a6 λp N=>?_;exact a3 p (by simpa using N)) q nD,T.keep _ _ _ t8 λb t o e=>keep b o (by intro z;exact absurd (a0 b t) (by rw[z,j];exact q0E _)) e,n8,r3.append (.cons r8 .nil),w8]
 exact codeAny_compStart_list b0 (wpAny_noRaise (T.self _ 0 _ _ _ (T.keep _ _ _ b1 λb _ o e=>old b o e) b0))
theorem sy(S:ae X scope own capN caps)(n:X.calm=true)(p:PI X tg iter wi)
  (a:∀C c d i k,PG (bT X scope (own++capN) C c d i k) tg g/\nG (bT X scope (own++capN) C c d i k) ifs tc/\PE (bT X scope (own++capN) C c d i k) elt te)
  (r:autoParam (∀x,foldedSetIterable iter X.env x=pure x) Zs._auto_1):PE X (.ListComp elt [#[tg,iter,ifs,0]] scope pos) (kg own caps wi g tc te):=by
 intro l s Y H Q I h;rw[eval_ListComp];exact wpAny_comprehension_free rfl r (AI (S.cells I.ok)) S.kind S.loc (AK S n p a I h λD C t u m v f w q=>#[m,w,λz j=>#[.ref D,u,v.turned (λb o y e=>(j.2 b y).trans e) f.1 f.2.1 f.2.2.2.1 f.2.2.2.2.1 f.2.2.2.2.2,rfl,q]])
theorem MM{c}(B:X.N.Nodup)(j:X.N[i]? = !y)(E:Loc X.env.scope y)(S:ae X scope own capN caps)(G:X.calm=true)(J:PI X tg iter wi)
  (k:∀C l n p w,PG (bT X scope (own++capN) C l n p w) tg g/\nG (bT X scope (own++capN) C l n p w) ifs tc/\PE (bT X scope (own++capN) C l n p w) elt te)
  (r:autoParam (swapsWith (.ListComp elt [#[tg,iter,ifs,0]] scope pos) (!.Name y py) c.line X.env=pure true) Zq._auto_1)
  (L:autoParam (∀x,foldedSetIterable iter X.env x=pure x) Zs._auto_1) (M:X.fn y=true\/X.env.scope.names.lookup y=!.local:=by first |exact .inl rfl |exact .inr rfl |assumption) :
  PS X (.Assign [.Name y py] (.ListComp elt [#[tg,iter,ifs,0]] scope pos) c) (vN (kg own caps wi g tc te) (rQ i)):=by
 intro d s Y H D I h;rw[exec_Assign_Name_used _ _ _ _ r];refine aa (wpAny_standAt (aa (aa (wpAny_mono (wpAny_comprehension_free rfl L (AI (S.cells I.ok)) S.kind S.loc ?_) (λ_ t O=>ao (ao O)) λ_ _ e=>e))));refine AK S G J k I h λDa C t R m T f U q=>wpAny_assign_Name (zx T B j E (v:=.ref Da) rfl (λZ I2 ⟨a,sb,ha⟩=>#[m,?_,λh' u=>?_]) M)
 .apply U.sameBut sb;rcases ha with z |z
  .rw[z];exact f.2.1
  .exact Ne.symm (f.2.2.2.2.1 y a z)
 .exact#[_,R,I2.turned (λb o hb e=>(u.2 b hb).trans e) f.1 f.2.1 f.2.2.2.1 f.2.2.2.2.1 f.2.2.2.2.2,q]
end L2
namespace L2
open PySem
theorem wq{α:Type}{c a b:α}{l}(h:c∈a::l):c∈a::b::l:=by
 rcases q0e.mp h with h |h
 .exact h▸.head _
 .exact .tail _ (.tail _ h)
theorem MN(h:Q (s.heap.get? a) s):wpAny M A (loadIfAlive a) Q E s:=by intro Γ p b;unfold loadIfAlive;rw[Sem.wp_loadIfAlive];exact ao h Γ p b
abbrev fB(h:Heap)(z TI TO:Addr)(a f1:Value):Prop:=
 h.get? z=some { cls:=.type "zip",dict:=none,data:=.fields [a,f1,.bool false,.ref TI,.ref TO].toArray,slots:=#[] }
abbrev dM(h:Heap)(T:Addr)(a b c:Value):Prop:=h.get? T=some { cls:=.type "tuple",data:=.seq [a,b,c].toArray }
theorem wt(hT:dM s.heap T a b c)
  (h:∀d,d.get? T=some { cls:=.type "tuple",data:=.seq (([a,b,c].toArray:Array Value).setIfInBounds k x) }->Heap.SameBut T s.heap d->Q () { s with heap:=d }) :
  wpAny (model prog w) A (updateSeq T (·.setIfInBounds k x)) Q E s:=by
 refine wpAny_updateSeq hT rfl (h _ ?_ (Heap.SameBut.update ..));rw[Heap.get?_update_self _ hT rfl];simp[Obj.mapSeq]
theorem MO{TI TO }{Q:Value->Shared->Prop}
  (nd:[z,TI,TO,n,r,B].Nodup) (hl:∀l∈[l1,l2,l3],∀j∈[z,TI,TO,n,r,B],l≠j)
  (hz:fB s.heap z TI TO .none (.bool false)) (a6:dM s.heap TI (.ref n) (.ref r) (.ref B)) (a7:dM s.heap TO a b c)
  (h1:s.heap.IsListIter n l1 k) (h2:s.heap.IsListIter r l2 k) (h3:s.heap.IsListIter B l3 k) (a8:s.heap.IsList l1 xs) (a9:s.heap.IsList l2 ys) (b0:s.heap.IsList l3 zs)
  (hx:xs[k]? = !x) (hy:ys[k]? = !y) (hv:zs[k]? = !v)
  (hQ:∀H,fB H z TI TO (rawInt s.heap.objs.size) (.bool false)->dM H TO x y v->H.IsListIter n l1 (k+1)->H.IsListIter r l2 (k+1)->H.IsListIter B l3 (k+1)->dM H s.heap.objs.size x y v->H.objs.size=s.heap.objs.size+1->
   (∀c o,c∉[z,TO,n,r,B]->s.heap.get? c=!o->H.get? c=!o)->Q (.ref s.heap.objs.size) { s with heap:=H }) :
  wpAny (model prog w) A (Builtin.«zip.__next__» #[[.ref z],[]]) (λfin s'=>∃v,fin=.done (.ret v)/\Q v s') E s:=by
 simp only[q0V,q0e,q0p,or_false,not_or,not_false_eq_true,and_true,q1q]at nd;obtain⟨⟨c0,C,z1,z2,z3⟩,⟨b9,c6,c7,c8⟩,⟨I,J,L⟩,⟨a0,a1⟩,a2⟩:=nd;have n1:∀j∈[z,TI,TO,n,r,B],l1≠j:=hl l1 'c';have n2:∀j∈[z,TI,TO,n,r,B],l2≠j:=hl l2 'c';have n3:∀j∈[z,TI,TO,n,r,B],l3≠j:=hl l3 'c';show wpAny _ _ (field (.ref z) 2 >>= _) _ _ _;refine aa (wpAny_field hz rfl (x:=.bool false) rfl ?_);show wpAny _ _ (field (.ref z) 3 >>= _) _ _ _;refine aa (wpAny_field hz rfl (x:=.ref TI) rfl ?_);refine aa (wpAny_seqItems a6 rfl ?_);refine aa ?_;unfold Builtin.SmallTypes.ownedTupleIsFree;refine aa (wpAny_field hz rfl (x:=.none) rfl (ao ?_));simp only[if_true];refine aa (wpAny_rule ?_);refine aa (wpAny_field hz rfl (x:=.ref TO) rfl ?_);refine aa (wpAny_setField_rec hz 'c' λh₁ U d=>?_)
 replace U:fB h₁ z TI TO .ellipsis (.bool false):=U
 refine aa ?_;refine aa (aa (wpAny_onRaise ?_));refine aa (wpAny_nextOf_list_item (h1.extBut d.extBut (Ne.symm z1)) (a8.extBut d.extBut (n1 z 'c')) hx λh₂ b1 f=>ao ?_);have N:dM h₂ TO a b c:=f.extBut _ _ I (d.extBut _ _ (Ne.symm C) a7);refine aa (wpAny_seqItems N rfl ?_);refine aa (wt N λh₃ D g=>?_)
 replace D:dM h₃ TO x b c:=D
 refine aa (wpAny_letGo (ao ?_));refine aa (aa (wpAny_onRaise ?_));refine aa (wpAny_nextOf_list_item (((h2.extBut d.extBut (Ne.symm z2)).extBut f.extBut (Ne.symm a0)).extBut g.extBut (Ne.symm J))
  (((a9.extBut d.extBut (n2 z 'c')).extBut f.extBut (n2 n 'c')).extBut g.extBut (n2 TO 'c')) hy λh₄ b2 i=>ao ?_)
 have O:dM h₄ TO x b c:=i.extBut _ _ J D;refine aa (wpAny_seqItems O rfl ?_);refine aa (wt O λh₅ G m=>?_)
 replace G:dM h₅ TO x y c:=G
 refine aa (wpAny_letGo (ao ?_));refine aa (aa (wpAny_onRaise ?_));refine aa (wpAny_nextOf_list_item (((((h3.extBut d.extBut (Ne.symm z3)).extBut f.extBut (Ne.symm a1)).extBut g.extBut (Ne.symm L)).extBut i.extBut (Ne.symm a2)).extBut m.extBut (Ne.symm L))
  (((((b0.extBut d.extBut (n3 z 'c')).extBut f.extBut (n3 n 'c')).extBut g.extBut (n3 TO 'c')).extBut i.extBut (n3 r 'c')).extBut m.extBut (n3 TO 'c')) hv λh₆ b3 t=>ao ?_)
 have R:dM h₆ TO x y c:=t.extBut _ _ L G;refine aa (wpAny_seqItems R rfl ?_);refine aa (wt R λh p u=>?_)
 replace p:dM h TO x y v:=p
 refine aa (wpAny_letGo (ao (ao ?_)));refine aa (wpAny_seqItems p rfl ?_);refine aa (wpAny_newTuple ?_);have a3:h.objs.size=s.heap.objs.size:=by rw[u.1,t.1,m.1,i.1,g.1,f.1,d.1]
 have a4:fB h z TI TO .ellipsis (.bool false):=u.extBut _ _ C (t.extBut _ _ z3 (m.extBut _ _ C (i.extBut _ _ z2 (g.extBut _ _ C (f.extBut _ _ z1 U)))));have b5:h.IsListIter n l1 (k+1):=((((b1.extBut g.extBut (Ne.symm I)).extBut i.extBut a0).extBut m.extBut (Ne.symm I)).extBut t.extBut a1).extBut u.extBut (Ne.symm I);have b6:h.IsListIter r l2 (k+1):=((b2.extBut m.extBut (Ne.symm J)).extBut t.extBut a2).extBut u.extBut (Ne.symm J);have b7:h.IsListIter B l3 (k+1):=b3.extBut u.extBut (Ne.symm L);have S:z<h.objs.size:=bo a4;refine aa ?_;unfold Builtin.SmallTypes.ownedTupleHandOut;refine aa (wpAny_setField_rec (aK _ a4) 'c' λh₉ X Y=>?_)
 replace X:fB h₉ z TI TO (rawInt h.objs.size) (.bool false):=X
 refine wpAny_setField_rec X 'c' λhA M Z=>?_
 have up:∀c o,c≠z->h.get? c=!o->hA.get? c=!o:=λc o c1 e=>Z.extBut _ _ c1 (Y.extBut _ _ c1 (aK _ e));have a5:dM hA h.objs.size x y v:=Z.extBut _ _ (q02 S) (Y.extBut _ _ (q02 S) (Heap.get?_push_size _ rfl));have T:hA.objs.size=h.objs.size+1:=by rw[Z.1,Y.1,Heap.size_push]
 rw[a3]at M a5 T;refine ao #[_,rfl,?_];show Q (.ref h.objs.size) _;rw[a3];exact hQ hA M (up _ _ (Ne.symm C) p) (b5.at λo e=>up _ o (Ne.symm z1) e) (b6.at λo e=>up _ o (Ne.symm z2) e) (b7.at λo e=>up _ o (Ne.symm z3) e) a5 T λc o hc e=>up c o (λq=>hc (by simp[q])) ((λc o hc e=>by simp only[q0e,q0p,or_false,not_or]at hc;obtain⟨c1,c2,c3,c4,c5⟩:=hc;exact u.extBut _ _ c2 (t.extBut _ _ c5 (m.extBut _ _ c2 (i.extBut _ _ c4 (g.extBut _ _ c2 (f.extBut _ _ c3 (d.extBut _ _ c1 e))))))) c o hc e)
theorem AL{TI TO T:Addr}(b:f1=.bool false\/f1=.bool true)(a:fB s.heap z TI TO (rawInt T) f1)(hT:s.heap.get? T=!g)
  (f:∀c,fB c z TI TO (rawInt T) (.bool true)->Heap.SameBut z s.heap c->Q false { s with heap:=c }):wpAny (model prog w) A (Builtin.SmallTypes.ownedTupleIsFree (.ref z)) Q E s:=by
 refine aa (wpAny_field a rfl rfl (aa (MN ?_)));rw[q0Z,hT];refine aa (wpAny_field a rfl rfl ?_);rcases b with rfl |rfl
 .exact aa (wpAny_setField_rec a 'c' λh d e=>ao (f h d e))
 .exact ao (f s.heap a (Heap.SameBut.refl ..))
theorem MP{TI TO T:Addr}{Q:Value->Shared->Prop}
  (nd:[z,TI,TO,d,g,h].Nodup) (G:∀l∈[p,q,r],∀j∈[z,TI,TO,d,g,h],l≠j) (H:f1=.bool false\/f1=.bool true)
  (I:fB s.heap z TI TO (rawInt T) f1) (hT:s.heap.get? T=!oT) (J:dM s.heap TI (.ref d) (.ref g) (.ref h))
  (h1:s.heap.IsListIter d p k) (h2:s.heap.IsListIter g q k) (h3:s.heap.IsListIter h r k) (L:s.heap.IsList p Y) (M:s.heap.IsList q Z) (N:s.heap.IsList r zs)
  (hx:Y[k]? = !x) (hy:Z[k]? = !y) (hv:zs[k]? = !v)
  (hQ:∀m,fB m z TI TO (rawInt T) (.bool true)->m.IsListIter d p (k+1)->m.IsListIter g q (k+1)->m.IsListIter h r (k+1)->dM m s.heap.objs.size x y v->m.objs.size=s.heap.objs.size+1->
   (∀c o,c∉[z,d,g,h]->s.heap.get? c=!o->m.get? c=!o)->Q (.ref s.heap.objs.size) { s with heap:=m }) :
  wpAny (model prog w) A (Builtin.«zip.__next__» #[[.ref z],[]]) (λfin s'=>∃v,fin=.done (.ret v)/\Q v s') E s:=by
 simp only[q0V,q0e,q0p,or_false,not_or,not_false_eq_true,and_true,q1q]at nd;obtain⟨⟨a1,a2,z1,z2,z3⟩,⟨a0,a3,a4,a5⟩,⟨a6,a7,a8⟩,⟨t,u⟩,B⟩:=nd;have n2:=G q 'c';have O:∀j∈[z,TI,TO,d,g,h],r≠j:=G r 'c';show wpAny _ _ (field (.ref z) 2 >>= _) _ _ _;refine aa (wpAny_field I rfl (x:=.bool false) rfl ?_);refine aa (wpAny_field I rfl (x:=.ref TI) rfl ?_);refine aa (wpAny_seqItems J rfl ?_);refine aa (AL H I hT λh₁ R a=>?_);refine aa ?_;simp only[List.forIn_toArray,q2S,List.forIn_nil];refine aa (aa (wpAny_holding ?_));refine aa (wpAny_nextOf_list_item (h1.extBut a.extBut (Ne.symm z1)) (L.extBut a.extBut ((G p 'c') z 'c')) hx λh₂ S b=>ao (ao ?_));refine aa (aa (wpAny_holding ?_));refine aa (wpAny_nextOf_list_item ((h2.extBut a.extBut (Ne.symm z2)).extBut b.extBut (Ne.symm t)) ((M.extBut a.extBut (n2 z 'c')).extBut b.extBut (n2 d 'c')) hy λh₃ U f=>ao (ao ?_));refine aa (aa (wpAny_holding ?_));refine aa (wpAny_nextOf_list_item (((h3.extBut a.extBut (Ne.symm z3)).extBut b.extBut (Ne.symm u)).extBut f.extBut (Ne.symm B)) (((N.extBut a.extBut (O z 'c')).extBut b.extBut (O d 'c')).extBut f.extBut (O g 'c')) hv λC X i=>ao (ao (ao ?_)));show wpAny _ _ (newTuple [x,y,v] >>= _) _ _ _;refine aa (wpAny_newTuple ?_);refine ao #[_,rfl,?_];have n:C.objs.size=s.heap.objs.size:=by rw[i.1,f.1,b.1,a.1]
 rw[n];refine hQ _ (aK _ (i.extBut _ _ z3 (f.extBut _ _ z2 (b.extBut _ _ z1 R)))) (((S.extBut f.extBut t).extBut i.extBut u).at λo e=>aK _ e) ((U.extBut i.extBut B).at λo e=>aK _ e)
  (X.at λo e=>aK _ e) ?_ (by rw[Heap.size_push,n]) λc o D e=>aK _ ((λc o D e=>by simp only[q0e,q0p,or_false,not_or]at D;obtain⟨c1,c2,c3,c4⟩:=D;exact i.extBut _ _ c4 (f.extBut _ _ c3 (b.extBut _ _ c2 (a.extBut _ _ c1 e)))) c o D e)
 rw[<-n];exact Heap.get?_push_size _ rfl
theorem MQ{TI TO T:Addr}(B:A.handled=none)
  (v:[z,TI,TO,a,f,g].Nodup) (C:∀l∈[d,l2,l3],∀j∈[z,TI,TO,a,f,g],l≠j) (h:f1=.bool false\/f1=.bool true)
  (i:fB s.heap z TI TO (rawInt T) f1) (hT:s.heap.get? T=!y) (m:dM s.heap TI (.ref a) (.ref f) (.ref g))
  (h1:s.heap.IsListIter a d k) (n:s.heap.IsList d t) (D:t[k]? = none)
  (G:∀p e,(∀c o,c∉[z,a]->s.heap.get? c=!o->p.get? c=!o)->(∃o,p.get? e=!o/\o.cls=.type "StopIteration")->E (.ref e) { s with heap:=p }) :
  wpAny (model prog w) A (Builtin.«zip.__next__» #[[.ref z],[]]) Q E s:=by
 simp only[q0V,q0e,not_or]at v;obtain⟨⟨H,I,J,z2,z3⟩,⟨u,L,M,N⟩,⟨O,R,S⟩,⟨U,X⟩,Y⟩:=v;show wpAny _ _ (field (.ref z) 2 >>= _) _ _ _;refine aa (wpAny_field i rfl rfl (aa (wpAny_field i rfl rfl ?_)));refine aa (wpAny_seqItems m rfl ?_);refine aa (AL h i hT λh₁ a0 b=>aa ?_);simp only[List.forIn_toArray,q2S];refine aa (aa (wpAny_holding ?_));refine aa (wpAny_nextOf_list_end B (h1.extBut b.extBut (Ne.symm J)) (n.extBut b.extBut ((C d 'c') z 'c')) D λh₂ e q he=>G h₂ e (λc o r x=>?_) he);simp only[q0e,q0p,or_false,not_or]at r;exact q _ _ r.2 (b.extBut _ _ r.1 x)
structure Z3 (h:Heap) (z TI TO i1 i2 i3 l1 l2 l3:Addr) (xs ys zs:Array Value) (S:Addr) (i:Nat):Prop where
 zrec:∃(f0 f1:Value),fB h z TI TO f0 f1/\(f1=.bool false\/f1=.bool true)/\((i=0/\f0=.none/\f1=.bool false)\/(0<i/\∃(T:Addr) (oT:Obj),f0=rawInt T/\h.get? T=!oT/\T∉[S,z,TO,i1,i2,i3]))
 ti:dM h TI (.ref i1) (.ref i2) (.ref i3)
 to:∃a b c,dM h TO a b c
 h1:h.IsListIter i1 l1 i
 h2:h.IsListIter i2 l2 i
 h3:h.IsListIter i3 l3 i
 l1:h.IsList l1 xs
 l2:h.IsList l2 ys
 l3:h.IsList l3 zs
def sA(h:Heap)(n:Addr)(b c d:Array Value)(a:List Value):Prop:=
 ∀(j:Nat) (v:Value),a[j]? = !v->∃(T:Addr) (x y u:Value),v=Value.ref T/\n<=T/\dM h T x y u/\b[j]? = !x/\c[j]? = !y/\d[j]? = !u
theorem MR{TI TO }
  (D:[z,TI,TO,f,g,h].Nodup) (Y:∀l∈[u,B,C],∀j∈[z,TI,TO,f,g,h],l≠j) (st:Z3 s.heap z TI TO f g h u B C R U X S i) (hS:S<s.heap.objs.size)
  (hx:R[i]? = !x) (hy:U[i]? = !y) (hv:X[i]? = !v)
  (hQ:∀k,Z3 k z TI TO f g h u B C R U X S (i+1)->dM k s.heap.objs.size x y v->k.objs.size=s.heap.objs.size+1->(∀c o,c∉[z,TO,f,g,h]->s.heap.get? c=!o->k.get? c=!o)->Q (!.ref s.heap.objs.size) { s with heap:=k }) :
  wpAny (model prog w) A (pyNext (.ref z)) Q E s:=by
 obtain⟨⟨f0,f1,N,Z,hf⟩,ti,⟨a,b,c,to⟩,h1,h2,h3,m,n,p⟩:=st;have hT:s.TypeIs (.ref z) "zip":=#[_,N,rfl]
 have lt:∀{c o},s.heap.get? c=!o->s.heap.objs.size≠c:=λe=>q02 (bo e);have sub:∀l∈[u,B,C],l∉[z,TO,f,g,h]:=λl hm z'=>by simp only[q0e,q0p,or_false]at z';rcases z' with q |q |q |q |q<;>exact Y l hm _ 'c' q
 have G:TI∉[z,TO,f,g,h]:=by simp only[q0V,q0e,q0p,or_false,not_or,and_true,q1q]at D;obtain⟨⟨H,I,z1,z2,z3⟩,⟨r,J,L,M⟩,_⟩:=D;simp only[q0e,q0p,or_false,not_or];exact#[Ne.symm H,r,J,L,M]
 unfold pyNext;refine aa (wpAny_attempt (wpAny_callSpecial?_slot hT F.slot_zip_next (wpAny_call_entry F.slot_zip_next hT F.entry_zip_next ?_ (F.args_zip_next_1 _))));rcases hf with⟨hi,rfl,rfl⟩ |⟨hi,T,oT,rfl,eT,nT⟩
 .refine MO D Y N ti to h1 h2 h3 m n p hx hy hv λk a1 a2 a3 a4 a5 O a7 t=>ao ?_;exact hQ k #[#[_,_,a1,.inl rfl,.inr #[q1i _,_,_,rfl,O,(by simp only[q0e,q0p,or_false,not_or];exact#[q02 hS,lt N,lt to,(by obtain⟨_,e,_⟩:=h1;exact lt e),(by obtain⟨_,e,_⟩:=h2;exact lt e),(by obtain⟨_,e,_⟩:=h3;exact lt e)])]],t _ _ G ti,#[_,_,_,a2],a3,a4,a5,m.at λo e=>t _ o (sub u 'c') e,n.at λo e=>t _ o (sub B 'c') e,p.at λo e=>t _ o (sub C 'c') e] O a7 t
 .refine MP D Y Z N eT ti h1 h2 h3 m n p hx hy hv λk a1 a3 a4 a5 O a7 t=>ao ?_;have d:∀c o,c∉[z,TO,f,g,h]->s.heap.get? c=!o->k.get? c=!o:=λc o hc e=>t c o (λq=>hc (wq q)) e;refine hQ k #[#[_,_,a1,.inr rfl,.inr #[q1i _,_,_,rfl,d T oT (λq=>nT (bH _ q)) eT,nT]],d _ _ G ti,#[a,b,c,t _ _ (by simp only[q0V,q0e,q0p,or_false,not_or,and_true,q1q]at D;obtain⟨⟨H,I,z1,z2,z3⟩,⟨r,J,L,M⟩,⟨a9,b0,b1⟩,_⟩:=D;simp only[q0e,q0p,or_false,not_or];exact#[Ne.symm I,a9,b0,b1]) to],a3,a4,a5,m.at λo e=>d _ o (sub u 'c') e,n.at λo e=>d _ o (sub B 'c') e,p.at λo e=>d _ o (sub C 'c') e] O a7 d
theorem MS{TI TO }(x:A.handled=none)
  (R:[z,TI,TO,d,f,g].Nodup) (y:∀l∈[q,r,t],∀j∈[z,TI,TO,d,f,g],l≠j) (st:Z3 s.heap z TI TO d f g q r t n u v S i) (U:0<i) (B:n[i]? = none)
  (C:∀h,(∀c o,c∉[z,d]->s.heap.get? c=!o->h.get? c=!o)->Q none { s with heap:=h }) :
  wpAny (model prog w) A (pyNext (.ref z)) Q E s:=by
 obtain⟨⟨X,f1,p,k,D⟩,ti,⟨a,b,c,to⟩,h1,h2,h3,m,G,H⟩:=st;have hT:s.TypeIs (.ref z) "zip":=#[_,p,rfl]
 rcases D with⟨I,_⟩ |⟨_,T,Y,rfl,J,Z⟩
 .omega
 .refine aa (wpAny_attempt (wpAny_callSpecial?_slot hT F.slot_zip_next
   (wpAny_call_entry F.slot_zip_next hT F.entry_zip_next (MQ x R y k p J ti h1 m B λh e L M=>?_) (F.args_zip_next_1 _))))
  obtain⟨o,N,O⟩:=M;exact aa (wpAny_isInstance #[o,N,O] isSubtype_stop (ao (C _ L)))
theorem Z3.keep{TI TO }(st:Z3 h z TI TO d f g r s t v x y S i)(B:S∉[z,TI,TO,d,f,g,r,s,t])(k:∀b o,b≠S->h.get? b=!o->u.get? b=!o) :
  Z3 u z TI TO d f g r s t v x y S i:=by
 simp only[q0e,q0p,or_false,not_or]at B;obtain⟨D,E,G,H,I,J,L,M,N⟩:=B;obtain⟨⟨O,f1,Q,j,l⟩,ti,⟨a,b,c,to⟩,h1,h2,h3,m,n,p⟩:=st;refine#[#[O,f1,k _ _ (Ne.symm D) Q,j,?_],k _ _ (Ne.symm E) ti,#[a,b,c,k _ _ (Ne.symm G) to],h1.at λo e=>k _ o (Ne.symm H) e,h2.at λo e=>k _ o (Ne.symm I) e,h3.at λo e=>k _ o (Ne.symm J) e,m.at λo e=>k _ o (Ne.symm L) e,n.at λo e=>k _ o (Ne.symm M) e,p.at λo e=>k _ o (Ne.symm N) e];rcases l with l |⟨U,T,X,e,Y,C⟩
 .exact .inl l
 .exact .inr #[U,T,X,e,k _ _ (λq=>C (by simp[q])) Y,C]
noncomputable abbrev cZ(a:Array Value)(v:Value)(c:Nat):Nat:=if (a.push v).size==a.size then c else c+1
theorem MT{TI TO }(hh:A.handled=none)
  (nd:[z,TI,TO,p,D,E].Nodup) (hl:∀l∈[l1,l2,l3],∀j∈[z,TI,TO,p,D,E],l≠j) (hS:S∉[z,TI,TO,p,D,E,l1,l2,l3]) (I:∀j∈[S,z,TI,TO,p,D,E],j<n₀)
  (e2:J.size=h.size) (e3:L.size=h.size) (a6:0<h.size) (hn:h.size<=sizeLine) (res) :
  ∀k i  s  a  c,h.size - i=k->i<=h.size->Z3 s.heap z TI TO p D E l1 l2 l3 h J L S i->n₀<=s.heap.objs.size->s.heap.get? S=some { cls:=.type "list",dict:=none,data:=.seq a.toArray c,slots:=#[] }->a.length=i->sA s.heap n₀ h J L a->
  (∀n d c',(∀b o,b∉[S,z,TO,p,D,E]->s.heap.get? b=!o->n.get? b=!o)->n.get? S=some { cls:=.type "list",dict:=none,data:=.seq d.toArray c',slots:=#[] }->d.length=h.size->sA n n₀ h J L d->R (.ok (.ret res)) { s with heap:=n })->
  codeAny (model prog w) A (.builtin "list.extend.loop" #[[.ref S,.ref z,res],[]]) R s:=by
 intro k
 induction k with
 |zero=>
  intro i s a c hk hi st r B f tr hR;have M:i=h.size:=by lia
  refine codeAny_builtin F.entry_extend_loop ?_;rw[Around.under_plainId F.plain_extend_loop _];show wpAny _ A.in1 (pyNext (.ref z) >>= _) _ _ s;have nS:S∉[z,p]:=λq=>hS (by simp only[q0e,q0p,or_false]at q ⊢;rcases q with q |q<;>simp[q]);refine aa (MS hh nd hl st 'b' (by rw[M];exact q2P (aP _)) λn g=>?_);refine ao (hR n a c (λb o I e=>g b o (λq=>I (by simp only[q0e,q0p,or_false]at q ⊢;rcases q with q |q<;>simp[q])) e) (g S _ nS B) (f.trans M) λj v G=>?_);obtain⟨T,x,y,u,e,hT,t,q⟩:=tr j v G;refine#[T,x,y,u,e,hT,g T _ (λm=>?_) t,q];simp only[q0e,q0p,or_false]at m;rcases m with m |m
  .exact absurd (I z 'c') (by rw[<-m];exact q1H.mpr hT)
  .exact absurd (I p 'c') (by rw[<-m];exact q1H.mpr hT)
 |succ k ih=>
  intro i s a c hk hi st r B f tr hR;have N:i<h.size:=by lia
  refine codeAny_builtin F.entry_extend_loop ?_;rw[Around.under_plainId F.plain_extend_loop _];show wpAny _ A.in1 (pyNext (.ref z) >>= _) _ _ s;refine aa (MR nd hl st (bo B) (x:=h[i]) (y:=J[i]) (v:=L[i]) (q0T N) (q0T 'b') (q0T 'b') λn a0 a1 O g=>?_);have nS:S∉[z,TO,p,D,E]:=λq=>hS (bv [l1,l2,l3] (wq q));have Q:=g S _ nS B;have ha:a.toArray.size=i:=by rw[q0m];exact f
  refine aa ?_;have old:∀b o,b≠S->n.get? b=!o->(n.update S (Obj.mapSeq (·.push (.ref s.heap.objs.size)))).get? b=!o:=λb o I e=>(Heap.get?_update_other _ _ (Ne.symm I)).trans e;have big:∀T,n₀<=T->T∉[S,z,TO,p,D,E]:=λT hT m=>by simp only[q0e,q0p,or_false]at m;rcases m with m |m |m |m |m |m<;>exact absurd (I T (by rw[m];simp)) (q1H.mpr hT)
  refine wpAny_updateSeq Q rfl (ao #[plainId_quiet F.plain_extend_loop _,ih (i+1) _ (a++[.ref s.heap.objs.size]) (cZ a.toArray (.ref s.heap.objs.size) c) 'b' N (a0.keep hS old) ?_ ?_ (by rw[q0u,f];rfl) ?_ λa2 d c' U X a3 Y=>?_])
   (by rw[ha];lia) (by show(a.toArray.push _).size<=sizeLine+1;rw[Array.size_push,ha];lia)
  .rw[(Heap.SameBut.update ..).1,O];exact Nat.le_succ_of_le r
  .have q:=Heap.get?_update_self (Obj.mapSeq (·.push (Value.ref s.heap.objs.size))) Q rfl;have e:a.toArray.push (Value.ref s.heap.objs.size)=(a++[Value.ref s.heap.objs.size]).toArray:=by simp
   have q':(n.update S (Obj.mapSeq (·.push (Value.ref s.heap.objs.size)))).get? S=some { cls:=.type "list",dict:=none,data:=.seq (a.toArray.push (Value.ref s.heap.objs.size)) (cZ a.toArray (Value.ref s.heap.objs.size) c),slots:=#[] }:=q;rw[e]at q';exact q'
  .intro j v G
   by_cases a4:j<a.length
   .rw[q0S a4]at G;obtain⟨T,x,y,u,e,hT,t,q⟩:=tr j v G;have Z:=big T hT;exact#[T,x,y,u,e,hT,old T _ (λC=>Z (by simp[C])) (g T _ (λC=>Z (bH _ C)) t),q]
   .have a5:j=a.length:=by have:=(q0a.mp G).1;rw[q0u,q2R]at this;lia
    subst a5;rw[q0M (aP _),Nat.sub_self]at G;cases G;have Z:=big s.heap.objs.size r;refine#[s.heap.objs.size,h[i],J[i],L[i],rfl,r,old _ _ (λC=>Z (by simp[C])) a1,?_,?_,?_]<;>(rw[f];exact q0T 'b')
  .refine hR a2 d c' (λb o H e=>U b o H (old b o (λC=>H (by simp[C])) (g b o (λC=>H (bH _ C)) e))) X a3 Y
namespace F3
theorem zip_no_len:typeLookup (.type "zip") "__len__" = pure none:=by rw[typeLookup_type,builtinLookup_eq_fast];kernel_rfl
theorem zip_no_hint:typeLookup (.type "zip") "__length_hint__" = pure none:=by rw[typeLookup_type,builtinLookup_eq_fast];kernel_rfl
theorem typeCall_zip_3(a b c):checkTypeCall "zip" #[[a,b,c],[]]=pure ():=by kernel_rfl
theorem newCall_zip_3(a b c):checkBuiltinCall "zip.__new__" #[[.type "zip",a,b,c],[]]=pure ():=by kernel_rfl
theorem args_object_init_4(a b c d):argsOk "object.__init__" #[[a,b,c,d],[]]:=by unfold argsOk;rw[signature?_of (n:=['_','_','t','i','n','i','_','_']) 'g' F.owner_object];kernel_rfl
end F3
noncomputable abbrev zA(h:Heap)(a:Addr):Heap:=h.push { cls:=.type "list_iterator",data:=.fields [.ref a,.int 0 0].toArray }
abbrev zB(h:Heap)(a b:Addr):Heap:=(zA h a).push { cls:=.type "list_iterator",data:=.fields [.ref b,.int 0 0].toArray }
abbrev zC(h:Heap)(a b c:Addr):Heap:=(zB h a b).push { cls:=.type "list_iterator",data:=.fields [.ref c,.int 0 0].toArray }
abbrev zD(h:Heap)(a b c:Addr):Heap:=(zC h a b c).push { cls:=.type "tuple",data:=.seq [.ref h.objs.size,.ref (zA h a).objs.size,.ref (zB h a b).objs.size].toArray }
abbrev zE(h:Heap)(a b c:Addr):Heap:=(zD h a b c).push { cls:=.type "tuple",data:=.seq [.none,.none,.none].toArray }
abbrev zF(h:Heap)(a b c:Addr):Heap:=(zE h a b c).push { cls:=.type "zip",data:=.fields [.none,.bool false,.bool false,.ref (zC h a b c).objs.size,.ref (zD h a b c).objs.size].toArray }
theorem MU(a b c)(o p q) :
  Meets (Builtin.«zip.__new__» #[[.type "zip",.ref a,.ref b,.ref c],[]]) (λ_ R s=>s.heap.IsList a o/\s.heap.IsList b p/\s.heap.IsList c q/\
   R (.ok (.ret (.ref (zE s.heap a b c).objs.size))) { s with heap:=zF s.heap a b c }):=
 .of_wp λt w A R s h=>by
  obtain⟨e,g,d,f,os⟩:=s;obtain⟨i,j,k,h⟩:=h;have r:=sub_zip;have l:Heap.IsList (Shared.heap #[e,g,d,f,os]) a o:=i;have m:Heap.IsList (Shared.heap #[e.push { cls:=.type "list_iterator",data:=.fields [.ref a,.int 0 0].toArray },g,d,f,os]) b p:=Heap.IsList.push j _;have n:Heap.IsList (Shared.heap #[(e.push { cls:=.type "list_iterator",data:=.fields [.ref a,.int 0 0].toArray }).push { cls:=.type "list_iterator",data:=.fields [.ref b,.int 0 0].toArray },g,d,f,os]) c q:=Heap.IsList.push (Heap.IsList.push k _) _
  wp_walk using wpAny_pyIter_list l,wpAny_pyIter_list m,wpAny_pyIter_list n
  exact#[_,rfl,h]
theorem MV{s:Shared}(f:s.heap.IsList a q)(g:s.heap.IsList b r)(i:s.heap.IsList d t)
  (h:∀e,fB e (s.heap.objs.size+5) (s.heap.objs.size+3) (s.heap.objs.size+4) .none (.bool false)->dM e (s.heap.objs.size+3) (.ref s.heap.objs.size) (.ref (s.heap.objs.size+1)) (.ref (s.heap.objs.size+2))->
   dM e (s.heap.objs.size+4) .none .none .none->e.IsListIter s.heap.objs.size a 0->e.IsListIter (s.heap.objs.size+1) b 0->e.IsListIter (s.heap.objs.size+2) d 0->e.objs.size=s.heap.objs.size+6->
   (∀c o,s.heap.get? c=!o->e.get? c=!o)->Q (.ref (s.heap.objs.size+5)) { s with heap:=e }) :
  wpAny (model prog w) A (call (.type "zip") [.ref a,.ref b,.ref d]) Q E s:=by
 refine callType_new F.called_zip 'd' (F3.typeCall_zip_3 _ _ _) (F3.newCall_zip_3 _ _ _) (λobj=>F3.args_object_init_4 obj _ _ _) F.entry_zip_new
  (MU a b d q r t) #[f,g,i,?_]
 have j:(zA s.heap a).objs.size=s.heap.objs.size+1:=Heap.size_push ..;have k:(zB s.heap a b).objs.size=s.heap.objs.size+2:=by rw[Heap.size_push,j]
 have l:(zC s.heap a b d).objs.size=s.heap.objs.size+3:=by rw[Heap.size_push,k]
 have m:(zD s.heap a b d).objs.size=s.heap.objs.size+4:=by rw[Heap.size_push,l]
 have n:(zE s.heap a b d).objs.size=s.heap.objs.size+5:=by rw[Heap.size_push,m]
 have y:(zF s.heap a b d).objs.size=s.heap.objs.size+6:=by rw[Heap.size_push,n]
 have p:(zF s.heap a b d).get? (zE s.heap a b d).objs.size=!_:=Heap.get?_push_size _ rfl;have u:(zF s.heap a b d).get? (zD s.heap a b d).objs.size=!_:=aK _ (Heap.get?_push_size _ rfl);have v:(zF s.heap a b d).get? (zC s.heap a b d).objs.size=!_:=aK _ (aK _ (Heap.get?_push_size _ rfl));have g3:(zF s.heap a b d).get? (zB s.heap a b).objs.size=!_:=aK _ (aK _ (aK _ (Heap.get?_push_size _ rfl)));have g2:(zF s.heap a b d).get? (zA s.heap a).objs.size=!_:=aK _ (aK _ (aK _ (aK _ (Heap.get?_push_size _ rfl))));have g1:(zF s.heap a b d).get? s.heap.objs.size=!_:=aK _ (aK _ (aK _ (aK _ (aK _ (Heap.get?_push_size _ rfl)))));show _/\_;rw[l,m,n]at p;rw[j,k,l]at v;rw[m]at u;rw[k]at g3;rw[j]at g2;rw[n];exact#[#[_,p,rfl],h _ p v u #[_,g1,rfl,rfl] #[_,g2,rfl,rfl] #[_,g3,rfl,rfl] y λc o x=>
  aK _ (aK _ (aK _ (aK _ (aK _ (aK _ x)))))]
theorem MW{s:Shared}{TI TO :Addr}(hh:A.handled=none)
  (nd:[z,TI,TO,k,n,p].Nodup) (hl:∀l∈[x,y,B],∀j∈[z,TI,TO,k,n,p],l≠j) (C:∀j∈[z,TI,TO,k,n,p,x,y,B],j<s.heap.objs.size)
  (D:fB s.heap z TI TO .none (.bool false)) (ti:dM s.heap TI (.ref k) (.ref n) (.ref p)) (to:dM s.heap TO .none .none .none)
  (h1:s.heap.IsListIter k x 0) (h2:s.heap.IsListIter n y 0) (h3:s.heap.IsListIter p B 0) (T:s.heap.IsList x g) (U:s.heap.IsList y R) (X:s.heap.IsList B S)
  (e2:R.size=g.size) (e3:S.size=g.size) (G:0<g.size) (hn:g.size<=sizeLine)
  (hQ:∀f r c,(∀b o,b∉[z,TO,k,n,p]->s.heap.get? b=!o->f.get? b=!o)->f.get? s.heap.objs.size=some { cls:=.type "list",dict:=none,data:=.seq r.toArray c,slots:=#[] }->r.length=g.size->sA f (s.heap.objs.size+1) g R S r->
   Q (.ref s.heap.objs.size) { s with heap:=f }):wpAny (model prog w) A (call (.type "list") [.ref z]) Q E s:=by
 have H:s.heap.objs.size∉[z,TI,TO,k,n,p,x,y,B]:=λhm=>q0E _ (C _ hm);have Y:s.heap.objs.size≠z:=λe=>H (by simp[e]);refine callType_codes (Q₁:=λobj s₁=>obj=.ref s.heap.objs.size/\s₁ = { s with heap:=s.heap.push { cls:=.type "list",data:=.seq #[] } }) F.called_list (F.typeCall_list_1 _) F.entry_list_init
  (code_list_new _ #[rfl,rfl]) λobj s₁ h₁=>?_
 obtain⟨rfl,rfl⟩:=h₁;have O:(s.heap.push { cls:=.type "list",data:=.seq #[] }).get? s.heap.objs.size=some { cls:=.type "list",data:=.seq #[] }:=Heap.get?_push_size _ rfl;have t:∀f,fB f z TI TO .none (.bool false)->Shared.TypeIs { s with heap:=f } (.ref z) "zip":=λf q=>#[_,q,rfl]
 refine#[#[_,O,rfl],F.args_list_init_2 _ _,?_];refine aa ?_;unfold Builtin.List.listItems;refine aa (wpAny_seqItems O rfl (ao ?_));refine aa (wpAny_updateSeq O rfl ?_);have u:=Heap.get?_update_self (Obj.mapSeq (λ_=>(#[]:Array Value))) O rfl;refine aa (wpAny_letGo ?_);generalize I:(s.heap.push { cls:=.type "list",data:=.seq #[] }).update s.heap.objs.size (Obj.mapSeq (λ_=>(#[]:Array Value)))=i at u ⊢;have d:∀b o,s.heap.get? b=!o->i.get? b=!o:=λb o e=>by rw[<-I];exact(Heap.get?_update_other _ _ (q02 (bo e))).trans ((λb o e=>aK _ e) b o e)
 have HU:i.objs.size=s.heap.objs.size+1:=by rw[<-I,(Heap.SameBut.update ..).1,Heap.size_push]
 unfold Builtin.List.listExtendWith;refine aa (wpAny_typeOf (t _ (d _ _ D)) ?_);have g1:Builtin.List.listSameRef (.ref s.heap.objs.size) (.ref z)=false:=by simp[Builtin.List.listSameRef,Y]
 have g2:(Value.type "zip"==Value.type "list")=false:=by decide
 have g3:(Value.type "zip"==Value.type "tuple")=false:=by decide
 simp only[g1,g2,g3,Bool.or_false,q0J,if_false];refine aa (wpAny_pyIter_zip (s:={ s with heap:=i }) (d _ _ D) ?_);refine aa (wpAny_holding ?_);unfold Builtin.List.listLengthHint;refine aa (wpAny_specialOf (t _ (d _ _ D)) F3.zip_no_len ?_);refine aa (wpAny_specialOf (t _ (d _ _ D)) F3.zip_no_hint ?_);refine ao ?_;refine aa (wpAny_rule ?_);refine aa ?_;refine aa (wpAny_updateSeq u rfl ?_);have J:=Heap.get?_update_self (Obj.mapSeq (·.push Value.none)) u rfl;refine wpAny_updateSeq (hz:=by seq_fits) J rfl ?_;have L:=Heap.get?_update_self (Obj.mapSeq (·.pop)) J rfl;generalize M:(i.update s.heap.objs.size (Obj.mapSeq (·.push Value.none))).update s.heap.objs.size (Obj.mapSeq (·.pop))=H2 at L ⊢;have a:∀b o,s.heap.get? b=!o->H2.get? b=!o:=λb o e=>by rw[<-M];exact(Heap.get?_update_other _ _ (q02 (bo e))).trans ((Heap.get?_update_other _ _ (q02 (bo e))).trans (d b o e))
 have HV:H2.objs.size=s.heap.objs.size+1:=by
  rw[<-M,(Heap.SameBut.update ..).1,
   (Heap.SameBut.update ..).1,HU]
 refine ao #[plainId_quiet F.plain_extend_loop _,MT (A:=A.in1) (n₀:=s.heap.objs.size+1) (show A.in1.handled=none from hh) nd hl H (λj Z=>?_) e2 e3 G hn _ g.size 0 _ [] _ rfl (q0L _)
  #[#[_,_,a _ _ D,.inl rfl,.inl #[rfl,rfl,rfl]],a _ _ ti,#[_,_,_,a _ _ to],h1.at λo e=>a _ o e,h2.at λo e=>a _ o e,h3.at λo e=>a _ o e,T.at λo e=>a _ o e,U.at λo e=>a _ o e,X.at λo e=>a _ o e]
  (q23 HV.symm) L rfl (λj v h=>by simp at h) λf N c' a0 a1 a2 a3=>?_]
 .rcases q0e.mp Z with rfl |Z
  .exact q06 _
  .exact q1s (C j (bv [x,y,B] Z))
 .refine#[rfl,hQ f N c' (λb o hb e=>a0 b o (λm=>?_) (a b o e)) a1 a2 a3];rcases q0e.mp m with q |q
  .exact absurd (bo e) (by rw[q];exact q0E _)
  .exact hb q
end L2
namespace L2
open PySem PySem.Spec PyProof.Rows
noncomputable def cS:List PyData->Bool
 |[]=>true
 |.tuple _::_=>true
 |_::ds=>not ds.isEmpty&&cS ds
def nH(H:Hp)(a:Addr)(b:List V)(c:List PyData):Prop:=H a=!.tup b\/(∃o,H a=!.frz o (.tup b))/\cS c=true
theorem nH.mono(s:bI H c)(h:nH H a d f):nH c a d f:=h.imp (λe=>s _ _ e) λb=>by obtain⟨⟨o,e⟩,k⟩:=b;exact#[#[o,s _ _ e],k]
theorem nH.rd(h:nH H a b c):Rd H a (.tup b):=h.imp id λz=>z.1
mutual
inductive DV (H:Hp):V->PyData->Prop where
 |non:DV H .non .none
 |bl (b:Bool):DV H (.bl b) (.bool b)
 |int (i:Int):DV H (.int i) (.int i)
 |str (x:Str):DV H (.str x) (.str x)
 |lst {a:Addr}{xs:List V}{ds:List PyData}:H a=!.lst xs->aH H xs ds->DV H (.ref a) (.list ds)
 |tup {a:Addr}{xs:List V}{ds:List PyData}:nH H a xs ds->aH H xs ds->DV H (.ref a) (.tuple ds)
inductive aH (H:Hp):List V->List PyData->Prop where
 |nil:aH H [] []
 |cons {x:V}{xs:List V}{d:PyData}{ds:List PyData}:DV H x d->aH H xs ds->aH H (x::xs) (d::ds)
end
theorem DV.mono(s:bI H H'):∀{v d},DV H v d->DV H' v d:=λh=>DV.rec .non .bl .int .str (λh _ k=>.lst (s _ _ h) k) (λh _ k=>.tup (h.mono s) k) .nil (λ_ _ a b=>.cons a b) h
theorem aH.mono(s:bI H H'):∀{vs c},aH H vs c->aH H' vs c:=λh=>aH.rec .non .bl .int .str (λh _ k=>.lst (s _ _ h) k) (λh _ k=>.tup (h.mono s) k) .nil (λ_ _ a b=>.cons a b) h
theorem aH.length:∀{vs a},aH H vs a->vs.length=a.length:=by
 intro vs a
 induction a generalizing vs with
 |nil=>intro h;cases h;rfl
 |cons d a b=>intro h;cases h with
  |cons _ r=>exact congrArg (·+1) (b r)
theorem aH.append:∀{vs b a c},aH H vs a->aH H b c->aH H (vs++b) (a++c):=by
 intro vs b a c
 induction a generalizing vs with
 |nil=>intro h s;cases h;exact s
 |cons d a e=>intro h s;cases h with
  |cons h r=>exact .cons h (e r s)
theorem aH.get:∀{vs a}{i:Nat}{d},aH H vs a->a[i]? = !d->∃v,vs[i]? = !v/\DV H v d
 |_,_,_,_,.nil,e=>by simp at e
 |_,_,0,_,.cons h _,e=>by simp at e;subst e;exact#[_,rfl,h]
 |_,_,i+1,d,.cons _ r,e=>by obtain⟨v,h1,h2⟩:=r.get (by simpa using e);exact#[v,by simpa using h1,h2]
theorem aH.get':∀{vs a}{i:Nat}{v},aH H vs a->vs[i]? = !v->∃d,a[i]? = !d/\DV H v d
 |_,_,_,_,.nil,e=>by simp at e
 |_,_,0,_,.cons h _,e=>by simp at e;subst e;exact#[_,rfl,h]
 |_,_,i+1,d,.cons _ r,e=>by obtain⟨v,h1,h2⟩:=r.get' (by simpa using e);exact#[v,by simpa using h1,h2]
theorem aH.drop:∀{vs a} n,aH H vs a->aH H (vs.drop n) (a.drop n)
 |_,_,0,r=>r
 |_,_,_+1,.nil=>.nil
 |_,_,n+1,.cons _ r=>r.drop n
theorem bA(h:H a=none):bI H (aL H a o):=λb u e=>by rw[bw (iO e h)];exact e
theorem DV.tup_inv(h:DV H v (.tuple c)):∃a b,v=.ref a/\Rd H a (.tup b)/\aH H b c:=by cases h with |tup h r=>exact#[_,_,rfl,h.rd,r]
theorem DV.tup_invK(h:DV H v (.tuple b))(d:cS b=false):∃a c,v=.ref a/\H a=!.tup c/\aH H c b:=by cases h with |tup h r=>exact#[_,_,rfl,h.elim id (λz=>by rw[d]at z;cases z.2),r]
theorem DV.lst_inv(h:DV H v (.list c)):∃a b,v=.ref a/\H a=!.lst b/\aH H b c:=by cases h with |lst h r=>exact#[_,_,rfl,h,r]
theorem DV.int_inv(h:DV H v (.int i)):v=.int i:=by cases h;rfl
theorem DV.str_inv(h:DV H v (.str x)):v=.str x:=by cases h;rfl
theorem DV.bl_inv(h:DV H v (.bool b)):v=.bl b:=by cases h;rfl
theorem DV.non_inv(h:DV H v .none):v=.non:=by cases h;rfl
theorem Inv.reads{Y:St}(I:Inv X pins Y H s)(h:DV H v d):aX v u->∃as,Reads s.heap u d as:=
 DV.rec (motive_2:=λvs p _=>∀a,bj vs a->∃as,ReadsAll s.heap a p as)
  (λu r=>by cases r;exact#[_,.none]) (λb u r=>by cases r;exact#[_,.bool b]) (λi u r=>by obtain⟨t,rfl⟩:=r;exact#[_,.int i t]) (λx u r=>by obtain⟨t,rfl⟩:=r;exact#[_,.str x t])
  (λh q k u r=>by
   cases r;obtain⟨_,f,n,g,e⟩:=I.hok _ _ h;obtain⟨as,z⟩:=k _ g;exact#[_,reads_list_at e rfl rfl (by simpa using z)])
  (λh q k u r=>by
   cases r;obtain⟨_,f,g,o,e,c,n,d⟩:=h.rd.ok I.hok;obtain⟨as,z⟩:=k _ g;exact#[_,reads_tuple_at e c d (by simpa using z)])
  (λa r=>by cases r;exact#[_,.nil])
  (λh q j l a r=>by
   cases r with
   |cons r m=>
   obtain⟨as,z⟩:=j _ r;obtain⟨bs,z'⟩:=l _ m;exact#[_,.cons z z']) h u
def wu(neg:Bool):R2:=λx y H Q=>∃d e,DV H x d/\DV H y e/\SeqAt.shaped d=true/\SeqAt.shaped e=true/\Q (.bl (PyData.eqv d e != neg)) H
theorem AM(b:X.A.units+64<cLine):cP X (compareOp .Eq) (wu false):=by intro a s Y H x y v u Q I c f h;obtain⟨d,e,h1,h2,h3,g,q⟩:=h;obtain⟨as,i⟩:=I.reads h1 c;obtain⟨bs,j⟩:=I.reads h2 f;exact eq_dataH i j h3 g b #[_,H,I,by show Value.bool (PyData.eqv d e)=Value.bool (PyData.eqv d e != false);rw[Bool.bne_false],q]
theorem MX(b:X.A.units+64<cLine):cP X (compareOp .NotEq) (wu true):=by intro a s Y H x y v u Q I c f h;obtain⟨d,e,h1,h2,h3,g,q⟩:=h;obtain⟨as,i⟩:=I.reads h1 c;obtain⟨bs,j⟩:=I.reads h2 f;exact ne_dataH i j h3 g b #[_,H,I,by show Value.bool (not (PyData.eqv d e))=Value.bool (PyData.eqv d e != true);rw[Bool.bne_true],q]
@[simp]noncomputable def wv:PyData->String
 |.none=>"NoneType"
 |.bool _=>"bool"
 |.int _=>"int"
 |.str _=>"str"
 |.list _=>"list"
 |.tuple _=>"tuple"
 |.dict _=>"dict"
def MY:List V->Hp->VK->Prop:=λa H Q=>∃x d n b,a=[x,.ty n]/\DV H x d/\(∀K:Frag,kitOne K (.type (wv d)) (.type n)=!b)/\Q (.bl b) H
theorem MZ:eX X (.builtin "isinstance") MY:=by
 intro g s Y H k m Q I r h;obtain⟨x,d,n,b,rfl,hd,e,q⟩:=h;obtain⟨u,w,rfl,f,l⟩:=vals2 r;cases l;have fin:∀j,EP X g Y Q (.bool b) { s with toks:=j }:=λj=>#[.bl b,H,I.tok j,rfl,q]
 cases hd with
 |non=>exact pC I f .non (e _) fin
 |bl c=>exact pC I f (.bl c) (e _) fin
 |int i=>exact pC I f (.int i) (e _) fin
 |str z=>exact pC I f (.str z) (e _) fin
 |lst h r=>exact pC I f (.lst h) (e _) fin
 | @tup a k ds h r=>cases(f);obtain⟨_,_,_,p⟩:=h.rd.ok I.hok;obtain⟨o,h1,h2,_⟩:=p;exact kia_one PySem.W.kitx_tuple I.kIn #[o,h1,h2] (e _) (λz=>nomatch z) fin
theorem Inv.turnedNew{Y:St}{ch:List Addr}{a:Addr}(I:Inv X pins Y H s)(f:∀b∈ch,gV X pins H b)(k:∀b d,b∉ch->s.heap.get? b=!d->h'.get? b=!d)(p:s.heap.objs.size<=a)
  (there:∀b∈ch,∀d,s.heap.get? b=!d->∃l,h'.get? b=!l) (new:cy X.prog X.w (aL H a o) h' a o):Inv X pins Y (aL H a o) { s with heap:=h',toks:=t' }:=by
 have i:=I.hok.fresh p;have j:∀b u,H b=!u->b∉ch:=λb u e z=>by rw[(f b z).1]at e;cases e
 refine I.step (λb h=>#[(f b h).2.2.2.1,(f b h).2.1,(f b h).2.2.2.2.1,(f b h).2.2.2.2.2]) (λb d _ _ g e _=>k b d g e) (λb d _ _ g e _=>#[d.slots,k b d g e])
  (λb d _ e n=>by rw[bw (q0q (q0l (bo e) p))];exact n) (λb d g e=>#[d,k b d g e]) (λb x e=>bA i b _ e) (λb d u e=>bA i b _ e) (λb C e=>#[#[],by rw[bA i b _ e];simp]) (λm y=>?_) (λb u e=>?_) I.bare
 .obtain⟨t,es,A,B,r⟩:=y;exact#[t,es,A,k _ t (λz=>(f _ z).2.1 rfl) B,r]
 .by_cases h:b=a
  .subst h;rw[cF]at e;cases e;exact new
  .rw[bw h]at e;refine(I.hok b u e).stay (λc v g q=>k c v ?_ q) (λc q=>bA i c _ q) λc x q=>bA i c _ q;rcases g with z |z
   .rw[z];exact j b u e
   .exact j c _ z
def AN(K:Frag)(a:Addr):It:=
 ⟨λi H=>∃b x,cG K H a b/\b[i]? = !x,λi H v c=>∃T x,v=.ref T/\H T=none/\c = aL H T (.tup [.int i,x])/\∀b,cG K H a b->b[i]? = !x,λi H=>∃b,cG K H a b/\b.length<=i⟩
theorem Na{K}(a e it)(hne:e≠it):gW P w K (.Tuple elts kk tpos) (AN K a) [e,it] e (λi h=>(∃old,IsEnum h e it i old)/\h.IsListIter it a i) where
 mem:=by simp
 obj:=λi h st b hb=>by
  obtain⟨⟨old,he⟩,o,e1,c,d⟩:=st;rcases q0e.mp hb with rfl |hb
  .exact#[_,he,λv z=>by cases z]
  .obtain rfl:=q0o.mp hb;exact#[o,e1,λv z=>by rw[d]at z;cases z]
 keep:=λi h h' st k=>#[st.1.elim λold he=>#[old,k e 'c' _ he],st.2.at λo e'=>k it 'c' o e']
 item:=by
  intro X hP hw hK hc i pins s Y H E I hf st hg;subst hP hw hK;obtain⟨⟨old,he⟩,hit⟩:=st;obtain⟨xs,x,hq,hx⟩:=hg;obtain⟨its,rv,p,hz⟩:=I.list hq;obtain⟨u,hu,ru⟩:=rv.get hx;refine wpAny_pyNext_enum_item he hit p.isList (by simpa using hu) hne λh' ho hi' hT hsz hk=>#[_,rfl,wpAny_letOwnedTupleGo_enum ho λh2 he2 hs2=>?_];have I1:Inv X pins Y (aL H s.heap.objs.size (.tup [.int i,x])) { s with heap:=h2,toks:=s.toks+1 }:=by
   refine I.turnedNew hf (λb ob hb q=>by simp only[q0e,q0p,or_false,not_or]at hb;exact(hs2.2 b hb.1).trans (hk b ob hb.1 hb.2 q)) (aP _) (λb hb ob q=>?_) (#[by show 2<=sizeLine;decide,[.int i s.toks,u],.cons #[_,rfl] (.cons ru .nil),#[_,(hs2.2 _ (q02 (bo he))).trans hT,rfl,_,rfl]])
   .rcases q0e.mp hb with rfl |hb
    .exact#[_,he2]
    .obtain rfl:=q0o.mp hb;obtain⟨o,e1,_⟩:=hi';exact#[o,(hs2.2 b hne.symm).trans e1]
  refine#[.ref s.heap.objs.size,_,I1,rfl,#[_,x,rfl,I.hok.fresh (aP _),rfl,λys hy=>by rw[I.list_inj hy hq];exact hx],#[#[_,by simpa using he2],hi'.at λo e1=>(hs2.2 it hne.symm).trans e1],λb hb=>?_];have hb':b<s.heap.objs.size:=by
   rcases q0e.mp hb with rfl |hb
   .exact bo he
   .obtain rfl:=q0o.mp hb;obtain⟨o,e1,_⟩:=hit;exact bo e1
  rw[bw (q0q hb')];exact(hf b hb).1
 done:=by intro X hP hw hK hc i pins s Y H E I hf st hg;subst hP hw hK;obtain⟨⟨old,he⟩,hit⟩:=st;obtain⟨xs,hq,hx⟩:=hg;obtain⟨its,rv,p,hz⟩:=I.list hq;obtain⟨f0,f1,f2,f3,f4,f5⟩:=hf it 'c';have hl:=rv.length;exact wpAny_pyNext_enum_end (I.ok.hd hc) he hit p.isList (by simp;lia) λh' eb=>#[rfl,I.turned (λb o hb e=>eb b o hb e) f0 f1 f3 f4 f5]
 self:=λ_ _ _ _ _ st h=>st.1.elim λ_ he=>wpAny_pyIter_enum he h
def Nb(K:Frag)(c:TA):TI:=λY H R=>c Y H λvs b=>∃a d,vs=[.ref a]/\cG K b a d/\R (AN K a) b
theorem Nc(k:Gl X "enumerate")(m:X.mg "enumerate" = none)(n:PA X [a] i)(o:autoParam (starEach [a] X.env=[(false,eval a X.env)]) Zq._auto_1):PI X (.Tuple elts kk tpos) (.Call (.Name "enumerate" p) [a] [] pos) (Nb X.K i):=by
 refineλd s Y H R I h=>Call_ (jX I k m (show bootBuiltins "enumerate" = some (.type "enumerate") by decide +kernel) (PyProof.Rows.callWith_type1 (aR (n pos d s Y H _ I h) λC c e=>?_) o rfl));obtain⟨vs,r,I1,t,v⟩:=e;obtain⟨l,D,rfl,w,q⟩:=v;obtain⟨u,rfl,ru⟩:=vals1 t;cases ru;obtain⟨x,E,p,G⟩:=I1.list w;refine call_enumerate_list p.isList λy j z A B=>?_;apply wpAny_pyIter_enum j;refine#[c.heap.objs.size+1,[c.heap.objs.size+1,c.heap.objs.size],_,_,r,rfl,I1.kept B,Na l _ _ (Nat.succ_ne_self _),#[#[_,j],z],λb g=>?_,q];have f:c.heap.objs.size<=b:=by
  rcases q0e.mp g with rfl |g
  .exact q1u _
  .obtain rfl:=q0o.mp g;exact aP _
 exact I1.fpOk f (I1.hok.fresh f)
end L2
namespace L2.L3
open PySem PySem.Spec PyProof.Rows
noncomputable def au(O:List Addr)(H:Hp):Hp:=λb=>if b∈O then none else H b
theorem gb(h:H b=!o)(n:b∉O):au O H b=!o:=by unfold au;rw[if_neg n];exact h
theorem cR(h:au O H b=!o):H b=!o/\b∉O:=by
 unfold au at h
 by_cases e:b∈O
 .rw[if_pos e]at h;cases h
 .rw[if_neg e]at h;exact#[h,e]
theorem gc(h:Rd (au O H) a u):Rd H a u/\a∉O:=by
 rcases h with h |⟨o,h⟩
 .obtain⟨e,n⟩:=cR h;exact#[.inl e,n]
 .obtain⟨e,n⟩:=cR h;exact#[.inr #[o,e],n]
theorem kh:bI (au O H) H:=λb o h=>(cR h).1
structure aT (O:List Addr) (H:Hp) (O':List Addr) (H':Hp):Prop where
 keep:∀b o,b∉O->H b=!o->H' b=some o
 new:∀a∈O',a∈O\/H a=none
theorem aT.refl:aT O H O H:=#[λ_ _ _ h=>h,λ_ h=>.inl h]
theorem aT.trans(a:aT f H1 g H2)(b:aT g H2 i j):aT f H1 i j:=by
 have k:∀c o,c∉f->H1 c=!o->c∉g:=λc o d e z=>(a.new c z).elim d λn=>by rw[n]at e;cases e
 refine#[λc o d e=>b.keep c o (k c o d e) (a.keep c o d e),λc h=>?_]
 by_cases d:c∈f
 .exact .inl d
 .refine .inr ?_;cases e:H1 c with
  |none=>rfl
  |some o=>
   rcases b.new c h with z |z
   .exact absurd z (k c o d e)
   .rw[a.keep c o d e]at z;cases z
theorem aT.same(s:bI H H'):aT O H O H':=#[λb o _ e=>s b o e,λ_ h=>.inl h]
theorem aT.hid(s:aT O H O' H'):bI (au O H) (au O' H'):=λb o e=>by
 obtain⟨a,n⟩:=cR e;refine gb (s.keep b o n a) λz=>?_;rcases s.new b z with q |q
 .exact n q
 .rw[q]at a;cases a
theorem lS(s:bI H H'):bI (au O H) (au O H'):=(aT.same s).hid
theorem sB(s:∀a∈O',a∈O):bI (au O H) (au O' H):=λb o e=>by obtain⟨c,n⟩:=cR e;exact gb c λz=>n (s b z)
set_option genInjectivity true in
inductive Fl where
 |d (x:PyData) |l (ds:List PyData) |m (tk:Bool) (kvs:List (PyData×PyData))
set_option genInjectivity true in
inductive Bx where
 |l (ds:List PyData) |m (tk:Bool) (kvs:List (PyData×PyData)) |o (C:Addr) (fs:List (Str×Fl)) |sd (fs:List (Str×Fl)) |ll (xs:List (List PyData)) |pr (C:Addr) (fs:List (Str×Fl)) (d:PyData) |oo (C:Addr) (fss:List (List (Str×Fl)))
set_option genInjectivity true in
inductive af where
 |dat (d:PyData)
 |own (io:Bool) (b:Bx)
 |scr (ns:List Int)
 |exc (c:Str)
 |vw (b:Bx)
abbrev ak:=List (Option af)
structure Fx where
 H₀:Hp
 A₀:List Addr
 O₀:List Addr
 I₀:Nat->Addr
def jA(K:Frag)(H:Hp)(a:Addr)(c:List Int):Prop:=c.length<=63/\((∃o,H a=!.frz o (.lst (c.map V.int)))\/
 ∃(o:Obj) (b:Array Value) (n:Nat),K.lookup a=!o/\o.cls=.type "list"/\o.dict=none/\o.data=.seq b n/\b.size<=sizeLine/\bj (c.map V.int) b.toList)
theorem jA.sq{K}(h:jA K H a c):cG K H a (c.map V.int):=h.2.elim (λb=>by obtain⟨o,e⟩:=b;exact .inl (.inr #[o,e])) .inr
theorem jA.mono{K}(h:jA K H a d)(k:∀o u,H a=!.frz o u->c a=!.frz o u):jA K c a d:=#[h.1,h.2.imp (λb=>by obtain⟨o,e⟩:=b;exact#[o,k _ _ e]) id]
def Nd(K:Frag)(a:Addr)(c:Str)(h:Heap):Prop:=∃C o,nsIn K mainGlobals c=!!.ref C/\h.get? a=!o/\o.cls=.ref C
noncomputable def gA:aQ->PyData
 |.inl i=>.int i
 |.inr x=>.str x
def pI(a:List aQ):PyData:=.tuple (a.map gA)
def iq(G H:Hp)(a:Addr):Bool->List (PyData×PyData)->Prop
 |false,b=>∃c:List (aQ×V),H a=!.dK c/\Paired (λ(p:aQ×V) (q:PyData×PyData)=>gA p.1=q.1/\DV G p.2 q.2) c b
 |true,b=>∃c:List (List aQ×V),H a=!.dT c/\Paired (λ(p:List aQ×V) (q:PyData×PyData)=>pI p.1=q.1/\DV G p.2 q.2) c b
def gB(G H:Hp)(v:V):Fl->List Addr->Prop
 |.d x,b=>b=[]/\DV G v x
 |.l ds,b=>∃a e,v=.ref a/\b=[a]/\H a=!.lst e/\aH G e ds
 |.m f c,b=>∃a,v=.ref a/\b=[a]/\iq G H a f c
inductive bt (G H:Hp):List (Str×V)->List (Str×Fl)->List (List Addr)->Prop where
 |nil:bt G H [] [] []
 |cons {n:Str}{v:V}{f:Fl}{fp:List Addr}{gs:List (Str×V)}{fs:List (Str×Fl)}{fps:List (List Addr)}:gB G H v f fp->bt G H gs fs fps->bt G H ((n,v)::gs) ((n,f)::fs) (fp::fps)
def sC(G H:Hp)(b:Addr)(a:List PyData):Prop:=∃vs,H b=!.lst vs/\aH G vs a
def Nf(G H:Hp)(C b:Addr)(fs:List (Str×Fl))(e:List Addr):Prop:=∃c d a,e=b::c::a.flatten/\H b=!.ins C c d/\H c=!.own b/\bt G H d fs a
inductive bR (G H:Hp) (C:Addr):List Addr->List (List (Str×Fl))->List (List Addr)->Prop where
 |nil:bR G H C [] [] []
 |cons {b:Addr}{fs:List (Str×Fl)}{fp:List Addr}{bs:List Addr}{fss:List (List (Str×Fl))}{fps:List (List Addr)}:Nf G H C b fs fp->bR G H C bs fss fps->bR G H C (b::bs) (fs::fss) (fp::fps)
def fC(G H:Hp)(a:Addr):Bx->List Addr->Prop
 |.l ds,c=>c=[a]/\∃g,H a=!.lst g/\aH G g ds
 |.m k i,c=>c=[a]/\iq G H a k i
 |.o C fs,c=>∃f e b,c=a::f::b.flatten/\H a=!.ins C f e/\H f=!.own a/\bt G H e fs b
 |.sd fs,c=>∃e b,c=a::b.flatten/\H a=!.dK (e.map λp=>(Sum.inr p.1,p.2))/\bt G H e fs b
 |.ll g,c=>∃bs:List Addr,c=a::bs/\H a=!.lst (bs.map V.ref)/\Paired (sC G H) bs g
 |.pr C fs d,c=>∃h v f e b,G a=!.tup [.ref h,v]/\c=h::f::b.flatten/\H h=!.ins C f e/\H f=!.own h/\bt G H e fs b/\DV G v d
 |.oo C j,c=>∃bs b,c=a::b.flatten/\H a=!.lst (bs.map V.ref)/\bR G H C bs j b
def Mv:HO->Prop
 |.lst _=>True
 |.dK _=>True
 |.dT _=>True
 |.ins _ _ _=>True
 |.own _=>True
 |_=>False
def eE(K:Frag)(H:Hp)(O:List Addr)(v:V):af->List Addr->Prop
 |.dat d,_=>DV (au O H) v d
 |.own _ b,e=>∃a,v=.ref a/\fC (au O H) H a b e
 |.scr ns,_=>∃a,v=.ref a/\jA K H a ns
 |.exc c,_=>∃a φ,v=.ref a/\au O H a=!.ext φ/\∀h,φ h->Nd K a c h
 |.vw b,_=>∃a e,v=.ref a/\fC (au O H) (au O H) a b e
theorem iq.keep(h:iq G H a c b)(k:H' a=H a)(g:bI G G'):iq G' H' a c b:=by
 cases c with
 |false=>obtain⟨d,e,p⟩:=h;exact#[d,k.trans e,Paired.mapP p λ_ _ z=>#[z.1,DV.mono g z.2]]
 |true=>obtain⟨d,e,p⟩:=h;exact#[d,k.trans e,Paired.mapP p λ_ _ z=>#[z.1,DV.mono g z.2]]
theorem iq.live(h:iq G H a c b):∃o,H a=!o/\Mv o:=by
 cases c with
 |false=>obtain⟨d,e,p⟩:=h;exact#[_,e,trivial]
 |true=>obtain⟨d,e,p⟩:=h;exact#[_,e,trivial]
theorem gB.keep(h:gB G H v f fp)(k:∀c∈fp,H' c=H c)(g:bI G G'):gB G' H' v f fp:=by
 cases f with
 |d x=>exact#[h.1,DV.mono g h.2]
 |l ds=>obtain⟨a,j,e,b,i,n⟩:=h;exact#[a,j,e,b,(k a (by simp[b])).trans i,aH.mono g n]
 |m p o=>obtain⟨a,e,b,i⟩:=h;exact#[a,e,b,i.keep (k a (by simp[b])) g]
theorem gB.live(h:gB G H v f fp):∀c∈fp,∃o,H c=!o/\Mv o:=by
 cases f with
 |d x=>obtain⟨rfl,_⟩:=h;intro c b;cases b
 |l ds=>obtain⟨a,j,g,rfl,e,k⟩:=h;intro c b;obtain rfl:=q0o.mp b;exact#[_,e,trivial]
 |m n i=>obtain⟨a,g,rfl,e⟩:=h;intro c b;obtain rfl:=q0o.mp b;exact e.live
theorem bt.keep(h:bt G H f fs d)(k:∀c∈d.flatten,H' c=H c)(g:bI G G'):bt G' H' f fs d:=by
 induction h with
 |nil=>exact .nil
 |cons a b i=>exact .cons (a.keep (λc e=>k c (by simp[e])) g) (i λc e=>k c (by rw[q0n];exact bq _ e))
theorem bt.live(h:bt G H f fs e):∀c∈e.flatten,∃o,H c=!o/\Mv o:=by
 induction h with
 |nil=>intro c d;cases d
 |cons a b g=>
  intro c d;rw[q0n]at d;rcases q0f.mp d with d |d
  .exact a.live c d
  .exact g c d
theorem Lls.keep(h:Paired (sC G H) bs f)(k:∀c∈bs,H' c=H c)(g:bI G G'):Paired (sC G' H') bs f:=by
 induction h with
 |nil=>exact .nil
 |cons a b i=>obtain⟨vs,e,d⟩:=a;exact .cons #[vs,(k _ q0h).trans e,aH.mono g d] (i λc j=>k c (bH _ j))
theorem Lls.live(h:Paired (sC G H) bs g):∀c∈bs,∃o,H c=!o/\Mv o:=by
 induction h with
 |nil=>intro c f;cases f
 |cons a b i=>
  intro c f;obtain⟨vs,e,d⟩:=a;rcases q0e.mp f with rfl |f
  .exact#[_,e,trivial]
  .exact i c f
theorem bR.keep(h:bR G H C bs d b)(k:∀c∈b.flatten,H' c=H c)(g:bI G G'):bR G' H' C bs d b:=by
 induction h with
 |nil=>exact .nil
 |cons o _ j=>obtain⟨i,l,b,rfl,m,n,f⟩:=o;exact .cons #[i,l,b,rfl,(k _ 'c').trans m,(k i 'c').trans n,f.keep (λc e=>k c (by simp[e])) g] (j λc e=>k c (by rw[q0n];exact bq _ e))
theorem bR.live(h:bR G H C bs e d):∀c∈d.flatten,∃o,H c=!o/\Mv o:=by
 induction h with
 |nil=>intro c b;cases b
 |cons o _ g=>
  obtain⟨k,l,d,rfl,i,j,f⟩:=o;intro c b;rw[q0n]at b;rcases q0f.mp b with b |b
  .rcases q0e.mp b with rfl |b
   .exact#[_,i,trivial]
   .rcases q0e.mp b with rfl |b
    .exact#[_,j,trivial]
    .exact f.live c b
  .exact g c b
theorem fC.keep(h:fC G H a b fp)(k:∀c∈fp,H' c=H c)(g:bI G G'):fC G' H' a b fp:=by
 cases b with
 |l ds=>obtain⟨rfl,s,e,d⟩:=h;exact#[rfl,s,(k a 'c').trans e,aH.mono g d]
 |m z u=>obtain⟨rfl,d⟩:=h;exact#[rfl,d.keep (k a 'c') g]
 |o C fs=>obtain⟨p,q,i,rfl,j,r,f⟩:=h;exact#[p,q,i,rfl,(k a 'c').trans j,(k p 'c').trans r,f.keep (λc n=>k c (by simp[n])) g]
 |sd fs=>obtain⟨q,i,rfl,j,f⟩:=h;exact#[q,i,rfl,(k a 'c').trans j,f.keep (λc n=>k c (by simp[n])) g]
 |ll s=>obtain⟨bs,rfl,j,f⟩:=h;exact#[bs,rfl,(k a 'c').trans j,Lls.keep f (λc n=>k c (by simp[n])) g]
 |pr C fs d=>obtain⟨t,v,p,q,i,w,rfl,j,r,f,x⟩:=h;exact#[t,v,p,q,i,g _ _ w,rfl,(k t 'c').trans j,(k p 'c').trans r,f.keep (λc n=>k c (by simp[n])) g,DV.mono g x]
 |oo C y=>obtain⟨bs,i,rfl,j,f⟩:=h;exact#[bs,i,rfl,(k a 'c').trans j,bR.keep f (λc n=>k c (bH _ n)) g]
theorem fC.live(h:fC G H a b fp):∀c∈fp,∃o,H c=!o/\Mv o:=by
 cases b with
 |l ds=>obtain⟨rfl,p,e,d⟩:=h;intro c g;obtain rfl:=q0o.mp g;exact#[_,e,trivial]
 |m t q=>obtain⟨rfl,d⟩:=h;intro c g;obtain rfl:=q0o.mp g;exact d.live
 |o C fs=>
  obtain⟨r,n,j,rfl,i,k,f⟩:=h;intro c g;rcases q0e.mp g with rfl |g
  .exact#[_,i,trivial]
  .rcases q0e.mp g with rfl |g
   .exact#[_,k,trivial]
   .exact f.live c g
 |sd fs=>
  obtain⟨n,j,rfl,i,f⟩:=h;intro c g;rcases q0e.mp g with rfl |g
  .exact#[_,i,trivial]
  .exact f.live c g
 |ll p=>
  obtain⟨bs,rfl,i,f⟩:=h;intro c g;rcases q0e.mp g with rfl |g
  .exact#[_,i,trivial]
  .exact Lls.live f c g
 |pr C fs d=>
  obtain⟨u,v,r,n,j,w,rfl,i,k,f,x⟩:=h;intro c g;rcases q0e.mp g with rfl |g
  .exact#[_,i,trivial]
  .rcases q0e.mp g with rfl |g
   .exact#[_,k,trivial]
   .exact f.live c g
 |oo C s=>
  obtain⟨bs,j,rfl,i,f⟩:=h;intro c g;rcases q0e.mp g with rfl |g
  .exact#[_,i,trivial]
  .exact bR.live f c g
theorem eE.keep{K}(h:eE K H O v c fp)(s:aT O H j H')(k:∀b∈fp,H' b=H b)(z:∀b o u,H b=!.frz o u->H' b=!.frz o u):eE K H' j v c fp:=by
 cases c with
 |dat d=>exact DV.mono s.hid h
 |own io b=>obtain⟨a,e,q⟩:=h;exact#[a,e,q.keep k s.hid]
 |scr ns=>obtain⟨a,f,q⟩:=h;exact#[a,f,q.mono λo u w=>z _ _ _ w]
 |exc c=>obtain⟨a,φ,f,g,q⟩:=h;exact#[a,φ,f,s.hid _ _ g,q]
 |vw b=>obtain⟨a,i,f,q⟩:=h;exact#[a,i,f,q.keep (λc l=>by obtain⟨o,g,_⟩:=q.live c l;rw[g];exact s.hid _ _ g) s.hid]
structure cb (K:Frag) (F:Fx) (H:Hp) (Y:St) (U:ak) (W:List (List Addr)):Prop where
 at_:∀(i:Nat) (c:af),U[i]? = !!c->∃v fp,Y[i]? = !!v/\W[i]? = !fp/\eE K H (W.flatten++F.O₀) v c fp
 nd:(W.flatten++F.O₀).Nodup
 kept:∀b o,b∉F.A₀->F.H₀ b=!o->H b=some o
 new:∀a∈W.flatten,a∈F.A₀\/F.H₀ a=none
 live:∀a∈W.flatten++F.O₀,∃o,H a=!o/\Mv o
 len:U.length=Y.length
 lw:W.length=U.length
 io:∀(i:Nat) (b:Bx),U[i]? = !!.own true b->Y[i]? = !some (.ref (F.I₀ i))
def aD(K:Frag)(F:Fx)(H:Hp)(Y:St)(U:ak)(O:List Addr):Prop:=∃W,cb K F H Y U W/\O=W.flatten++F.O₀
theorem iU{α:Type}{l:List α}{x y}(e:(l.set i x)[j]? = !y):(j=i/\y=x/\i<l.length)\/(j≠i/\l[j]? = !y):=by
 by_cases b:j=i
 .subst b;have a:=by
   have:=(q0a.mp e).1
   rwa [q0C]at this
  rw[q0w a]at e;exact .inl #[rfl,(q0r e).symm,a]
 .rw[q0v (Ne.symm b)]at e;exact .inr #[b,e]
theorem gd{α:Type}{W:List (List α)}{c}{a}(h:a∈(W.set i c).flatten):a∈c\/∃j l,j≠i/\W[j]? = !l/\a∈l:=by
 obtain⟨l,f,d⟩:=q2g.mp h;obtain⟨j,g⟩:=q1z f;rcases iU g with⟨_,rfl,_⟩ |⟨b,e⟩
 .exact .inl d
 .exact .inr #[j,l,b,e,d]
theorem bZ{α:Type}{W:List (List α)}{j:Nat}{l}{a}(h:W[j]? = !l)(b:a∈l):a∈W.flatten:=q2g.mpr #[l,q0A h,b]
theorem Ng{α:Type}{W:List (List α)}{b l}{a}(c:j≠i)(h:W[j]? = !l)(d:a∈l):a∈(W.set i b).flatten:=bZ (by rw[q0v c.symm];exact h) d
theorem AO{α:Type}{W:List (List α)}{b}{a}(c:i<W.length)(d:a∈b):a∈(W.set i b).flatten:=bZ (q0w c) d
theorem kI{α:Type}:∀{W:List (List α)}{i j:Nat}{l m}{a},W.flatten.Nodup->W[i]? = !l->W[j]? = !m->i≠j->a∈l->a∉m
 |[],_,_,_,_,_,_,h,_,_,_=>by simp at h
 |w::W,0,0,_,_,_,_,_,_,d,_=>absurd rfl d
 |w::W,0,j+1,l,m,a,nd,h1,h2,_,b=>λc=>by
  have e:=by simpa using h1
  subst e;rw[q0n]at nd;exact(q0j.mp nd).2.2 a b a (bZ (by simpa using h2) c) rfl
 |w::W,i+1,0,l,m,a,nd,h1,h2,_,b=>λc=>by
  have e:=by simpa using h2
  subst e;rw[q0n]at nd;exact(q0j.mp nd).2.2 a c a (bZ (by simpa using h1) b) rfl
 |w::W,i+1,j+1,l,m,a,nd,h1,h2,d,b=>kI (by rw[q0n]at nd;exact(q0j.mp nd).2.1) (by simpa using h1) (by simpa using h2) 'b' b
theorem sD{α:Type}[DecidableEq α]:∀{W:List (List α)}{i}{fp O},(W.flatten++O).Nodup->fp.Nodup->(∀a∈fp,(∀j l,j≠i->W[j]? = !l->a∉l)/\a∉O)->((W.set i fp).flatten++O).Nodup
 |[],i,fp,O,h,_,_=>by simpa using h
 |w::W,0,fp,O,h,f,hd=>by
  rw[q0H,q0n,q0x];rw[q0n,q0x]at h;refine q0j.mpr #[f,(q0j.mp h).2.1,λa d b c e=>?_];subst e;rcases q0f.mp c with c |c
  .obtain⟨l,g,k⟩:=q2g.mp c;obtain⟨j,m⟩:=q1z g;exact(hd a d).1 (j+1) l 'b' (by simpa using m) k
  .exact(hd a d).2 c
 |w::W,i+1,fp,O,h,f,hd=>by
  rw[q03,q0n,q0x];rw[q0n,q0x]at h;obtain⟨o,h2,h3⟩:=q0j.mp h;refine q0j.mpr #[o,(sD h2 f λa d=>#[λj l m e=>(hd a d).1 (j+1) l 'b' (by simpa using e),(hd a d).2]),λa d b c e=>?_];subst e;rcases q0f.mp c with c |c
  .rcases gd c with c |⟨j,l,m,e,g⟩
   .exact(hd a c).1 0 w 'b' 'c' d
   .exact h3 a d a (bv _ (bZ e g)) rfl
  .exact h3 a d a (bq _ c) rfl
section
variable{K:Frag}{F:Fx}{H H':Hp}{Y:St}{U:ak}{O O':List Addr}{W:List (List Addr)}
theorem cb.nofrz(st:cb K F H Y U W)(h:b∈W.flatten++F.O₀):H b≠!.frz o u:=λz=>by obtain⟨a,e,m⟩:=st.live b h;rw[z]at e;cases e;exact m
theorem cb.put(st:cb K F H Y U W)(r:i<U.length)
  (keep:∀j l b,j≠i->W[j]? = !l->b∈l->H' b=H b) (f:∀b∈F.O₀,H' b=H b) (frz:∀b o,b∉W.flatten++F.O₀->H b=!o->H' b=!o)
  (C:fp.Nodup) (ap:∀a∈fp,(∀j l,j≠i->W[j]? = !l->a∉l)/\a∉F.O₀) (new:∀a∈fp,a∈W.flatten\/H a=none) (s:∀a∈fp,∃o,H' a=!o/\Mv o)
  (A:aT (W.flatten++F.O₀) H ((W.set i fp).flatten++F.O₀) H'->eE K H' ((W.set i fp).flatten++F.O₀) v c fp) (t:∀b,c=.own true b->v=.ref (F.I₀ i)) :
  cb K F H' (Y.set i (!v)) (U.set i (!c)) (W.set i fp)/\aT (W.flatten++F.O₀) H ((W.set i fp).flatten++F.O₀) H':=by
 have k:aT (W.flatten++F.O₀) H ((W.set i fp).flatten++F.O₀) H':=#[frz,λa h=>by
  rcases q0f.mp h with h |h
  .rcases gd h with h |⟨j,l,_,e,n⟩
   .exact(new a h).imp (bv _) id
   .exact .inl (bv _ (bZ e n))
  .exact .inl (bq _ h)]
 refine#[#[λj d e=>?_,sD st.nd C ap,λb o p e=>?_,λa h=>?_,λa h=>?_,by rw[q0C,q0C,st.len],by rw[q0C,q0C,st.lw],λj b e=>?_],k]
 .rcases iU e with⟨rfl,g,_⟩ |⟨m,g⟩
  .cases g;exact#[v,fp,q0w (by rw[<-st.len];exact r),q0w (by rw[st.lw];exact r),A k]
  .obtain⟨w,l,h1,h2,h3⟩:=st.at_ j d g;exact#[w,l,by rw[q0v m.symm];exact h1,by rw[q0v m.symm];exact h2,h3.keep k (λb D=>keep j l b m h2 D) (λb o u e=>frz b _ (λz=>st.nofrz z e) e)]
 .have g:=st.kept b o p e
  by_cases y:b∈F.O₀
  .rw[f b y];exact g
  .refine frz b o (λz=>?_) g;rcases q0f.mp z with z |z
   .rcases st.new b z with q |q
    .exact p q
    .rw[q]at e;cases e
   .exact y z
 .rcases gd h with h |⟨j,l,_,e,n⟩
  .rcases new a h with q |q
   .exact st.new a q
   .by_cases p:a∈F.A₀
    .exact .inl p
    .refine .inr ?_;cases e:F.H₀ a with
     |none=>rfl
     |some o=>rw[st.kept a o p e]at q;cases q
  .exact st.new a (bZ e n)
 .rcases q0f.mp h with h |h
  .rcases gd h with h |⟨j,l,m,e,n⟩
   .exact s a h
   .obtain⟨o,h1,h2⟩:=st.live a (bv _ (bZ e n));exact#[o,by rw[keep j l a m e n];exact h1,h2]
  .obtain⟨o,h1,h2⟩:=st.live a (bq _ h);exact#[o,by rw[f a h];exact h1,h2]
 .rcases iU e with⟨rfl,g,_⟩ |⟨m,g⟩
  .rw[q0w (by rw[<-st.len];exact r),t b (q0r g).symm]
  .rw[q0v m.symm];exact st.io j b g
theorem cb.grow(st:cb K F H Y U W)(s:bI H H'):cb K F H' Y U W where
 at_:=λi c e=>let⟨v,fp,h1,h2,h3⟩:=st.at_ i c e;#[v,fp,h1,h2,h3.keep (.same s) (λb hb=>by
  obtain⟨o,e1,_⟩:=st.live b (bv _ (bZ h2 hb));rw[e1];exact s _ _ e1) λb o u e=>s _ _ e]
 nd:=st.nd
 kept:=λb o n e=>s b o (st.kept b o n e)
 new:=st.new
 live:=λa h=>let⟨o,e,m⟩:=st.live a h;#[o,s _ _ e,m]
 len:=st.len
 lw:=st.lw
 io:=st.io
theorem aD.grow(st:aD K F H Y U O)(s:bI H H'):aD K F H' Y U O:=let⟨W,h,e⟩:=st;#[W,h.grow s,e]
theorem aD.nofree(st:aD K F H Y U O):∀p,H p=none->p∉O:=λp a z=>by obtain⟨W,h,rfl⟩:=st;obtain⟨o,e,_⟩:=h.live p z;rw[a]at e;cases e
theorem aD.dat(st:aD K F H Y U O){i:Nat}(e:U[i]? = !!.dat d):∃v,Y[i]? = !!v/\DV (au O H) v d:=by obtain⟨W,h,rfl⟩:=st;obtain⟨v,a,h1,h2,h3⟩:=h.at_ i _ e;exact#[v,h1,h3]
theorem aD.scr(st:aD K F H Y U O){i:Nat}(e:U[i]? = !!.scr b):∃a,Y[i]? = !!.ref a/\jA K H a b:=by obtain⟨W,h,rfl⟩:=st;obtain⟨v,c,h1,h2,a,rfl,h3⟩:=h.at_ i _ e;exact#[a,h1,h3]
theorem aD.set(st:aD K F H Y U O)(h:DV (au O H) v d):aD K F H (Y.set i (!v)) (U.set i (!.dat d)) O:=by
 obtain⟨W,st,rfl⟩:=st;refine#[W,#[λj c e=>?_,st.nd,st.kept,st.new,st.live,by rw[q0C,q0C,st.len],by rw[q0C,st.lw],λj b e=>?_],rfl]
 rotate_left
 .rcases iU e with⟨rfl,a,_⟩ |⟨g,a⟩
  .cases a
  .rw[q0v g.symm];exact st.io j b a
 rcases iU e with⟨rfl,a,f⟩ |⟨g,a⟩
 .cases a;obtain⟨k,m⟩:∃k,W[j]? = !k:=#[W[j]'(by rw[st.lw];exact f),q0c _]
  exact#[v,k,q0w (by rw[<-st.len];exact f),m,h]
 .obtain⟨w,l,h1,h2,h3⟩:=st.at_ j c a;exact#[w,l,by rw[q0v g.symm];exact h1,h2,h3]
theorem aD.box(st:aD K F H Y U O)(e:U[i]? = !!.own io b):∃a m,Y[i]? = !!.ref a/\fC (au O H) H a b m/\(∀c∈m,c∈O)/\
  ∀H'  t  f,(∀c o,c∉m->H c=!o->H' c=!o)->f.Nodup->(∀c∈f,c∈m\/H c=none)->(∀G,(∀O',aT O H O' H'->G=au O' H'->(∀c∈f,c∈O')->bI (au O H) G/\fC G H' a t f))->
   ∃O',aD K F H' Y (U.set i (!.own io t)) O'/\aT O H O' H'/\(∀c∈O',c∈f\/c∈O):=by
 obtain⟨W,st,rfl⟩:=st;obtain⟨v,m,h1,h2,a,rfl,h3⟩:=st.at_ i _ e;have A:=(q0a.mp e).1;refine#[a,m,h1,h3,λc d=>bv _ (bZ h2 d),λH' t f keep M w N=>?_];have p:=(q0j.mp st.nd).1;have B:=λc d z=>(q0j.mp st.nd).2.2 c (bZ h2 d) c z rfl;have ap:∀c∈f,(∀j l,j≠i->W[j]? = !l->c∉l)/\c∉F.O₀:=λc d=>by
  rcases w c d with q |q
  .exact#[λj l n k z=>kI p h2 k n.symm q z,B c q]
  .refine#[λj l _ k z=>?_,λz=>?_]
   .obtain⟨o,g,_⟩:=st.live c (bv _ (bZ k z));rw[q]at g;cases g
   .obtain⟨o,g,_⟩:=st.live c (bq _ z);rw[q]at g;cases g
 have frz:∀c o,c∉W.flatten++F.O₀->H c=!o->H' c=!o:=λc o d I=>keep c o (λz=>d (bv _ (bZ h2 z))) I;have x:aT (W.flatten++F.O₀) H ((W.set i f).flatten++F.O₀) H':=#[frz,λc h=>by
  rcases q0f.mp h with h |h
  .rcases gd h with h |⟨j,l,_,k,y⟩
   .exact(w c h).imp (λz=>bv _ (bZ h2 z)) id
   .exact .inl (bv _ (bZ k y))
  .exact .inl (bq _ h)]
 have s:=(N _ _ x rfl (λc d=>bv _ (AO (by rw[st.lw];exact A) d))).2;obtain⟨C,J⟩:=st.put (c:=.own io t) A (λj l c n k d=>by obtain⟨o,g,_⟩:=st.live c (bv _ (bZ k d));rw[g];exact keep c o (λz=>kI p k h2 n d z) g) (λc d=>by obtain⟨o,g,_⟩:=st.live c (bq _ d);rw[g];exact keep c o (λz=>B c z d) g) frz M ap (λc d=>(w c d).imp (λz=>bZ h2 z) id) (λc d=>s.live c d) (λ_=>#[a,rfl,s]) (λQ z=>by cases z;have:=st.io i b e;rw[h1]at this;exact(q0r (q0r this)));have L:Y.set i (!.ref a)=Y:=by
  apply q00;intro j
  by_cases n:j=i
  .subst n;rw[q0w (q0a.mp h1).1,h1]
  .rw[q0v (Ne.symm n)]
 rw[L]at C;refine#[_,#[_,C,rfl],J,λc d=>?_];rcases q0f.mp d with d |d
 .rcases gd d with d |⟨j,l,_,k,y⟩
  .exact .inl d
  .exact .inr (bv _ (bZ k y))
 .exact .inr (bq _ d)
theorem aD.freeze(st:aD K F H Y U O)(e:U[i]? = !!.own false (.l b)) :
  ∃v O',Y[i]? = !!v/\aD K F H Y (U.set i (!.dat (.list b))) O'/\aT O H O' H/\DV (au O' H) v (.list b):=by
 obtain⟨W,st,rfl⟩:=st;obtain⟨v,u,h1,h2,a,rfl,rfl,w,h3,o⟩:=st.at_ i _ e;have g:a∉(W.set i []).flatten++F.O₀:=λz=>by
  rcases q0f.mp z with z |z
  .rcases gd z with z |⟨j,l,d,q,r⟩
   .cases z
   .exact kI ((q0j.mp st.nd).1) h2 q d.symm q0h r
  .exact(q0j.mp st.nd).2.2 a (bZ h2 q0h) a z rfl
 have k:aT (W.flatten++F.O₀) H ((W.set i []).flatten++F.O₀) H->DV (au ((W.set i []).flatten++F.O₀) H) (.ref a) (.list b):=λs=>.lst (gb h3 g) (aH.mono s.hid o);obtain⟨m,n⟩:=st.put (c:=.dat (.list b)) ((q0a.mp e).1) (λ_ _ _ _ _ _=>rfl) (λ_ _=>rfl) (λ_ _ _ e=>e) q1q (λa h=>by cases h) (λa h=>by cases h) (λa h=>by cases h) (λs=>k s) (λ_ z=>by cases z);have t:Y.set i (!.ref a)=Y:=by
  apply q00;intro j
  by_cases d:j=i
  .subst d;rw[q0w (q0a.mp h1).1,h1]
  .rw[q0v (Ne.symm d)]
 rw[t]at m;exact#[_,_,h1,#[_,m,rfl],n,k n]
end
abbrev DT:=ak->(PyData->ak->Prop)->Prop
def Mn(t:DT):Prop:=∀U Q a,(∀d b,Q d b->a d b)->t U Q->t U a
def fE(K:Frag)(F:Fx)(t:DT):TE:=λY H Q=>∃U O,aD K F H Y U O/\t U λd c=>∀v a b,aD K F a Y c b->aT O H b a->DV (au b a) v d->Q v a
structure DE (X:Cx) (F:Fx) (e:Expr) (t:DT):Prop where
 mn:Mn t
 pe:PE X e (fE X.K F t)
theorem _root_.L2.PE.imp(h:PE X e t)(k:∀Y H Q,t' Y H Q->t Y H Q):PE X e t':=λa s Y H Q I q=>h a s Y H Q I (k Y H Q q)
theorem _root_.L2.PT.imp(h:PT X e t)(k:∀Y H Q,t' Y H Q->t Y H Q):PT X e t':=λa s Y H Q I q=>h a s Y H Q I (k Y H Q q)
theorem _root_.L2.PS.imp(h:PS X e t)(k:∀D Y H,t' D Y H->t D Y H):PS X e t':=λa s Y H D I q=>h a s Y H D I (k D Y H q)
theorem _root_.L2.PSs.imp(h:PSs X e t)(k:∀D Y H,t' D Y H->t D Y H):PSs X e t':=λa s Y H D I q=>h a s Y H D I (k D Y H q)
def dC(d:PyData):DT:=λU Q=>Q d U
def dV(i:Nat):DT:=λU Q=>(∃d,U[i]? = !!.dat d/\Q d U)\/∃c,U[i]? = !!.own false (.l c)/\Q (.list c) (U.set i (!.dat (.list c)))
theorem Nh:Mn (dC d):=λ_ _ _ h q=>h _ _ q
theorem pJ(h:PE X e (tC v))(hd:∀H,DV H v d):DE X F e (dC d):=
 #[Nh,h.imp λY H Q c=>by obtain⟨U,O,st,q⟩:=c;exact q v H O st .refl (hd _)]
theorem ay:DE X F (.Constant (.int i) j pos) (dC (.int i)):=pJ rO λ_=>.int i
theorem iV:DE X F (.Constant (.bool i) j pos) (dC (.bool i)):=pJ JK λ_=>.bl i
theorem fF:DE X F (.Constant .none j pos) (dC .none):=pJ zy λ_=>.non
theorem bL:DE X F (.Constant (.str x) j pos) (dC (.str x)):=pJ zG λ_=>.str x
theorem Ni(i)(h:PE X (.Name x pos) (cu i)):DE X F (.Name x pos) (dV i):=
 #[λ_ _ _ k q=>q.imp (λc=>by obtain⟨d,e,q⟩:=c;exact#[d,e,k _ _ q]) λf=>by obtain⟨d,e,q⟩:=f;exact#[d,e,k _ _ q],h.imp λY H Q g=>by
  obtain⟨U,O,st,q⟩:=g;rcases q with⟨d,e,q⟩ |⟨ds,e,q⟩
  .obtain⟨v,h1,h2⟩:=st.dat e;exact#[v,h1,q v H O st .refl h2]
  .obtain⟨v,j,h1,h2,h3,l⟩:=st.freeze e;exact#[v,h1,q v H j h2 h3 l]]
abbrev D2:=PyData->PyData->(PyData->Prop)->Prop
def cU(f:D2)(ta tb:DT):DT:=λU Q=>ta U λx c=>tb c λy g=>f x y λd=>Q d g
structure fG (r:R2) (f:D2):Prop where
 mn:∀x y Q Q',(∀d,Q d->Q' d)->f x y Q->f x y Q'
 ok:∀(O:List Addr) (H:Hp) (u v:V) (x y:PyData) (Q:VK),(∀p,H p=none->p∉O)->DV (au O H) u x->DV (au O H) v y->f x y (λd=>∀w H',bI H H'->DV (au O H') w d->Q w H')->r u v H Q
theorem sE(o:fG r f)(l:Mn ta)(E:Mn tb){K}:∀Y H Q,fE K F (cU f ta tb) Y H Q->pA r (fE K F ta) (fE K F tb) Y H Q:=λY H Q c=>by obtain⟨U,O,st,q⟩:=c;refine#[U,O,st,l _ _ _ (λx m n v1 G p h s t=>?_) q];refine#[m,p,h,E _ _ _ (λy I u v z i g j A=>?_) n];refine o.ok i z v1 v x y Q g.nofree (DV.mono j.hid t) A (o.mn _ _ _ _ (λd B w C k D=>?_) u);exact B w C i (g.grow k) (s.trans (j.trans (.same k))) D
theorem pK(o:fG r f)(c:Mn ta)(i:Mn tb):Mn (cU f ta tb):=λ_ _ _ k q=>c _ _ _ (λ_ _ d=>i _ _ _ (λ_ _ g=>o.mn _ _ _ _ (λ_ h=>k _ _ h) g) d) q
theorem kJ(g:cP X (binaryOp op) r)(o:fG r f)(c:DE X F a ta)(d:DE X F b tb):DE X F (.BinOp a op b pos) (cU f ta tb):=
 #[pK o c.mn d.mn,(KG g c.pe d.pe).imp (sE o c.mn d.mn)]
theorem nI(g:cP X (compareOp op) r)(o:fG r f)(c:DE X F a ta)(d:DE X F b tb)(h:behindInMarks op b=false):DE X F (.Compare a [op] [b] pos) (cU f ta tb):=
 #[pK o c.mn d.mn,(KS g c.pe d.pe h).imp (sE o c.mn d.mn)]
theorem Nj(g:ka X r)(o:fG r f)(c:DE X F a ta)(d:DE X F b tb)(h:pD b):DE X F (.Subscript a b pos) (cU f ta tb):=
 #[pK o c.mn d.mn,(vY g c.pe d.pe h).imp (sE o c.mn d.mn)]
def fI(C:Int->Int->Prop)(g:Int->Int->PyData):D2:=λx y Q=>∃i j,x=.int i/\y=.int j/\C i j/\Q (g i j)
theorem sF(hg:∀i j H,DV H (g i j) (g' i j)):fG (rI C g) (fI C g') where
 mn:=λ_ _ _ _ k zq1a=>by obtain⟨i,j,e1,e2,c,q⟩:=zq1a;exact#[i,j,e1,e2,c,k _ q]
 ok:=λO H u v x y Q hO h1 h2 zq2a=>by obtain⟨i,j,e1,e2,c,q⟩:=zq2a;subst e1 e2;exact#[i,j,h1.int_inv,h2.int_inv,c,q _ H (λ_ _ h=>h) (hg i j _)]
theorem kL(hg:∀i j H,DV H (g i j) (g' i j)):fG (jv g) (fI (λ_ _=>True) g') where
 mn:=λ_ _ _ _ k zq1a=>by obtain⟨i,j,e1,e2,c,q⟩:=zq1a;exact#[i,j,e1,e2,c,k _ q]
 ok:=λO H u v x y Q hO h1 h2 zq2a=>by obtain⟨i,j,e1,e2,_,q⟩:=zq2a;subst e1 e2;exact#[i,j,h1.int_inv,h2.int_inv,q _ H (λ_ _ h=>h) (hg i j _)]
def pL(neg:Bool):D2:=λx y Q=>SeqAt.shaped x=true/\SeqAt.shaped y=true/\Q (.bool (PyData.eqv x y != neg))
theorem ww:fG (wu neg) (pL neg) where
 mn:=λ_ _ _ _ k zq1a=>by obtain⟨e1,e2,q⟩:=zq1a;exact#[e1,e2,k _ q]
 ok:=λO H u v x y Q hO h1 h2 zq2a=>by obtain⟨e1,e2,q⟩:=zq2a;exact#[x,y,DV.mono kh h1,DV.mono kh h2,e1,e2,q _ H (λ_ _ h=>h) (.bl _)]
@[simp]noncomputable def isNone:PyData->Bool
 |.none=>true
 |_=>false
def sG:D2:=λx y Q=>y=.none/\Q (.bool (isNone x))
def wx:D2:=λx y Q=>y=.none/\Q (.bool (not (isNone x)))
theorem AQ(h:DV H v d):decide (v=.non)=isNone d:=by cases h<;>first |rfl |(exact decide_eq_false (λz=>by cases z))
theorem AR:fG (λx y H Q=>y=.non/\Q (.bl (decide (x=.non))) H) sG where
 mn:=λ_ _ _ _ k zq1a=>by obtain⟨e,q⟩:=zq1a;exact#[e,k _ q]
 ok:=λO H u v x y Q hO h1 h2 zq2a=>by obtain⟨e,q⟩:=zq2a;subst e;exact#[h2.non_inv,by rw[AQ h1];exact q _ H (λ_ _ h=>h) (.bl _)]
theorem AS:fG (λx y H Q=>y=.non/\Q (.bl (not (decide (x=.non)))) H) wx where
 mn:=λ_ _ _ _ k zq1a=>by obtain⟨e,q⟩:=zq1a;exact#[e,k _ q]
 ok:=λO H u v x y Q hO h1 h2 zq2a=>by obtain⟨e,q⟩:=zq2a;subst e;exact#[h2.non_inv,by rw[AQ h1];exact q _ H (λ_ _ h=>h) (.bl _)]
def AU:D2:=λx y Q=>∃c i d,x=.tuple c/\y=.int i/\bN c i=!d/\Q d
def AV:D2:=λx y Q=>∃c i d,x=.list c/\y=.int i/\bN c i=!d/\Q d
theorem AW(h:aH H vs c)(e:bN c i=!d):∃v,bN vs i=!v/\DV H v d:=by
 unfold bN at e ⊢;rw[h.length];cases q:dt c.length i with
 |none=>rw[q]at e;cases e
 |some j=>rw[q]at e;exact h.get e
theorem AY{K}:fG (wa K) AU where
 mn:=λ_ _ _ _ k zq1a=>by obtain⟨ds,i,d,e1,e2,e3,q⟩:=zq1a;exact#[ds,i,d,e1,e2,e3,k _ q]
 ok:=λO H u v x y Q hO h1 h2 zq2a=>by obtain⟨ds,i,d,e1,e2,e3,q⟩:=zq2a;subst e1 e2;obtain⟨a,xs,rfl,ha,hd⟩:=h1.tup_inv;obtain⟨w,ew,hw⟩:=AW hd e3;exact#[a,xs,i,w,rfl,h2.int_inv,.inl (gc ha).1,ew,q w H (λ_ _ h=>h) hw]
theorem AZ{K}:fG (vZ K) AV where
 mn:=λ_ _ _ _ k zq1a=>by obtain⟨ds,i,d,e1,e2,e3,q⟩:=zq1a;exact#[ds,i,d,e1,e2,e3,k _ q]
 ok:=λO H u v x y Q hO h1 h2 zq2a=>by obtain⟨ds,i,d,e1,e2,e3,q⟩:=zq2a;subst e1 e2;obtain⟨a,xs,rfl,ha,hd⟩:=h1.lst_inv;obtain⟨w,ew,hw⟩:=AW hd e3;exact#[a,xs,i,w,rfl,h2.int_inv,.of (cR ha).1,ew,q w H (λ_ _ h=>h) hw]
theorem ir(f:H p=none)(g:p∉O)(h:aH (au O H) c d):DV (au O (aL H p (.lst c))) (.ref p) (.list d):=
 .lst (gb cF g) (aH.mono (lS (bA f)) h)
theorem nJ(f:H p=none)(g:p∉O)(h:aH (au O H) c d):DV (au O (aL H p (.tup c))) (.ref p) (.tuple d):=
 .tup (.inl (gb cF g)) (aH.mono (lS (bA f)) h)
def wy:D2:=λx y Q=>∃c d,x=.list c/\y=.list d/\c.length+d.length<=sizeLine/\Q (.list (c++d))
theorem Nk:fG Aw wy where
 mn:=λ_ _ _ _ k zq1a=>by obtain⟨ds,es,e1,e2,e3,q⟩:=zq1a;exact#[ds,es,e1,e2,e3,k _ q]
 ok:=λO H u v x y Q hO h1 h2 zq2a=>by obtain⟨ds,es,e1,e2,e3,q⟩:=zq2a;subst e1 e2;obtain⟨a,xs,rfl,ha,hd⟩:=h1.lst_inv;obtain⟨b,ys,rfl,hb,he⟩:=h2.lst_inv;refine#[a,b,xs,ys,rfl,rfl,(cR ha).1,(cR hb).1,by rw[hd.length,he.length];exact e3,λp hp=>q _ _ (bA hp) (ir hp (hO p hp) (hd.append he))]
def wz:D2:=λx y Q=>∃c d,x=.tuple c/\y=.tuple d/\c.length+d.length<=sizeLine/\Q (.tuple (c++d))
theorem lT{B:Prop}(h:if true=true then A else B):A:=by rw[if_pos rfl]at h;exact h
theorem lU{B:Prop}(h:if false=true then A else B):B:=by rw[if_neg q0F]at h;exact h
abbrev dB:=ak->(List PyData->ak->Prop)->Prop
def sH(t:dB):Prop:=∀U Q a,(∀d b,Q d b->a d b)->t U Q->t U a
def Ba(K:Frag)(F:Fx)(t:dB):TA:=λY H Q=>∃U O,aD K F H Y U O/\t U λd c=>∀vs a b,aD K F a Y c b->aT O H b a->aH (au b a) vs d->Q vs a
structure DA (X:Cx) (F:Fx) (es:List Expr) (t:dB):Prop where
 mn:sH t
 pa:PA X es (Ba X.K F t)
theorem _root_.L2.PA.imp(h:PA X e t)(k:∀Y H Q,t' Y H Q->t Y H Q):PA X e t':=λpos a s Y H Q I q=>h pos a s Y H Q I (k Y H Q q)
def Nl:dB:=λU Q=>Q [] U
def Nm(ta:DT)(h:dB):dB:=λU Q=>ta U λd f=>h f λi g=>Q (d::i) g
theorem Nn:DA X F [] Nl:=#[λ_ _ _ k q=>k _ _ q,eB.imp λY H Q d=>by obtain⟨U,O,st,q⟩:=d;exact q [] H O st .refl .nil]
theorem No(g:DE X F e ta)(h:DA X F es tA)(o:autoParam (starEach (e::es) X.env=(false,eval e X.env)::starEach es X.env) Zq._auto_1):DA X F (e::es) (Nm ta tA):=
 #[λ_ _ _ k q=>g.mn _ _ _ (λ_ _ i=>h.mn _ _ _ (λ_ _ j=>k _ _ j) i) q,(dJ g.pe h.pa o).imp λY H Q f=>by obtain⟨U,O,st,q⟩:=f;exact 
  #[U,O,st,g.mn _ _ _ (λd p i v y r l s t=>#[p,r,l,h.mn _ _ _ (λA z j vs u w m n x=>j (v::vs) u w m (s.trans n) (.cons (DV.mono n.hid t) x)) i]) q]]
def Np(t:dB):DT:=λU Q=>t U λd f=>d.length<=sizeLine/\Q (.tuple d) f
def Nq(t:dB):DT:=λU Q=>t U λd f=>d.length<=sizeLine/\Q (.list d) f
theorem Nr(h:DA X F es tA):DE X F (.Tuple es l pos) (Np tA):=
 #[λ_ _ _ k q=>h.mn _ _ _ (λ_ _ d=>#[d.1,k _ _ d.2]) q,(vW h.pa).imp λY H Q f=>by obtain⟨U,O,st,q⟩:=f;exact 
  #[U,O,st,h.mn _ _ _ (λs o d vs r m g n j=>#[by rw[j.length];exact d.1,λp i=>d.2 _ _ m (g.grow (bA i)) (n.trans (.same (bA i))) (nJ i (g.nofree p i) j)]) q]]
theorem Nt(h:DA X F es tA):DE X F (.List es pos) (Nq tA):=
 #[λ_ _ _ k q=>h.mn _ _ _ (λ_ _ d=>#[d.1,k _ _ d.2]) q,(se h.pa).imp λY H Q f=>by obtain⟨U,O,st,q⟩:=f;exact 
  #[U,O,st,h.mn _ _ _ (λr n d vs o l g m j=>#[by rw[j.length];exact d.1,λp i=>d.2 _ _ l (g.grow (bA i)) (m.trans (.same (bA i))) (ir i (g.nofree p i) j)]) q]]
def Nu(ta:DT):DT:=λU Q=>ta U λd f=>∃i,d=.int i/\Q (.int (-i)) f
theorem Nv(j:DE X F a ta):DE X F (.UnaryOp .USub a pos) (Nu ta):=
 #[λ_ _ _ k q=>j.mn _ _ _ (λ_ _ f=>by obtain⟨i,e,q⟩:=f;exact#[i,e,k _ _ q]) q,(KH KR j.pe).imp λY H Q g=>by obtain⟨U,O,st,q⟩:=g;exact 
  #[U,O,st,j.mn _ _ _ (λd s h v m n l o p=>by obtain⟨i,e,r⟩:=h;subst e;exact#[i,p.int_inv,r _ m n l o (.int _)]) q]]
def Nw(ta:DT):DT:=λU Q=>ta U λd f=>∃b,d=.bool b/\Q (.bool (not b)) f
theorem Nx(j:DE X F a ta):DE X F (.UnaryOp .Not a pos) (Nw ta):=
 #[λ_ _ _ k q=>j.mn _ _ _ (λ_ _ f=>by obtain⟨i,e,q⟩:=f;exact#[i,e,k _ _ q]) q,(Ka j.pe).imp λY H Q g=>by obtain⟨U,O,st,q⟩:=g;exact 
  #[U,O,st,j.mn _ _ _ (λd s h v m n l o p=>by obtain⟨i,e,r⟩:=h;subst e;exact#[i,p.bl_inv,r _ m n l o (.bl _)]) q]]
def Ny(ta tb:DT):DT:=λU Q=>ta U λd f=>∃b,d=.bool b/\if b=true then tb f Q else Q (.bool false) f
def Nz(ta tb:DT):DT:=λU Q=>ta U λd f=>∃b,d=.bool b/\if b=true then Q (.bool true) f else tb f Q
theorem NA(h:DE X F a ta):DE X F (.BoolOp op [a] pos) ta:=#[h.mn,JX h.pe]
theorem NB(l:DE X F a ta)(n:DE X F (.BoolOp .And (b::rest) pos) tb):DE X F (.BoolOp .And (a::b::rest) pos) (Ny ta tb):=
 #[λ_ _ _ k q=>l.mn _ _ _ (λ_ _ f=>by obtain⟨i,e,q⟩:=f;exact#[i,e,by cases i<;>first |exact k _ _ q |exact n.mn _ _ _ k q]) q,(JY l.pe n.pe).imp λY H Q g=>by obtain⟨U,O,st,q⟩:=g;exact 
  #[U,O,st,l.mn _ _ _ (λd s h v t o j p u=>by
   obtain⟨i,e,r⟩:=h;subst e;refine#[i,u.bl_inv,?_];cases i with
   |true=>exact fj #[s,o,j,n.mn _ _ _ (λd C x w y z m A B=>x w y z m (p.trans A) B) (lT r)]
   |false=>exact fi (lU r _ t o j p (.bl _))) q]]
theorem NC(l:DE X F a ta)(n:DE X F (.BoolOp .Or (b::rest) pos) tb):DE X F (.BoolOp .Or (a::b::rest) pos) (Nz ta tb):=
 #[λ_ _ _ k q=>l.mn _ _ _ (λ_ _ f=>by obtain⟨i,e,q⟩:=f;exact#[i,e,by cases i<;>first |exact k _ _ q |exact n.mn _ _ _ k q]) q,(JZ l.pe n.pe).imp λY H Q g=>by obtain⟨U,O,st,q⟩:=g;exact 
  #[U,O,st,l.mn _ _ _ (λd s h v t o j p u=>by
   obtain⟨i,e,r⟩:=h;subst e;refine#[i,u.bl_inv,?_];cases i with
   |false=>exact fi #[s,o,j,n.mn _ _ _ (λd C x w y z m A B=>x w y z m (p.trans A) B) (lU r)]
   |true=>exact fj (lT r _ t o j p (.bl _))) q]]
def wA(p f:Int->Int->Bool)(ta tb tc:DT):DT:=λU Q=>ta U λx g=>tb g λy d=>∃i j,x=.int i/\y=.int j/\if p i j=true then tc d (λz h=>∃k,z=.int k/\Q (.bool (f j k)) h) else Q (.bool false) d
theorem ND(Z:cP X (compareOp op) (jv λi j=>.bl (p i j)))(s:cP X (compareOp f) (jv λi j=>.bl (M i j)))(t:DE X F a ta)(L:DE X F b tb)(A:DE X F c tc)
  (hm:lastMarks [op,f] [b,c]=false:=by with_unfolding_all rfl):DE X F (.Compare a [op,f] [b,c] pos) (wA p M ta tb tc):=
 #[λ_ _ _ k q=>t.mn _ _ _ (λ_ _ B=>L.mn _ _ _ (λ_ _ ⟨i,j,C,D,d⟩=>#[i,j,C,D,by
   by_cases h:p i j=true
   .rw[if_pos h]at d ⊢;exact A.mn _ _ _ (λ_ _ g=>by obtain⟨l,e,E⟩:=g;exact#[l,e,k _ _ E]) d
   .rw[if_neg h]at d ⊢;exact k _ _ d]) B) q,
  (KY Z s t.pe L.pe A.pe hm).imp λY H Q m=>by obtain⟨U,O,st,q⟩:=m;exact 
  #[U,O,st,t.mn _ _ _ (λx U1 B v H1 O1 G N d1=>#[U1,O1,G,L.mn _ _ _ (λy U2 n w H2 R o I S=>by
   obtain⟨i,j,C,D,d⟩:=n;subst C D;refine#[i,j,(DV.mono I.hid d1).int_inv,S.int_inv,p i j,rfl,?_]
   by_cases h:p i j=true
   .rw[if_pos h]at d ⊢;exact#[U2,R,o,A.mn _ _ _ (λz U3 r u H3 O3 J T d3=>by obtain⟨l,e,E⟩:=r;subst e;exact#[j,l,(DV.mono T.hid S).int_inv,d3.int_inv,E _ H3 O3 J (N.trans (I.trans T)) (.bl _)]) d]
   .rw[if_neg h]at d ⊢;exact d _ H2 R o (N.trans I) (.bl _)) B]) q]]
abbrev cN:=ak->(Bool->ak->Prop)->Prop
def iu(t:cN):Prop:=∀U Q a,(∀d b,Q d b->a d b)->t U Q->t U a
def iW(K:Frag)(F:Fx)(t:cN):TT:=λY H Q=>∃U O,aD K F H Y U O/\t U λb d=>∀a c,aD K F a Y d c->aT O H c a->Q b a
structure DB (X:Cx) (F:Fx) (e:Expr) (t:cN):Prop where
 mn:iu t
 pt:PT X e (iW X.K F t)
def gC(ta:DT):cN:=λU Q=>ta U λd f=>∃b,d=.bool b/\Q b f
theorem Bb(h:Mn ta):iu (gC ta):=λ_ _ _ k q=>h _ _ _ (λ_ _ d=>by obtain⟨b,e,f⟩:=d;exact#[b,e,k _ _ f]) q
theorem Bc{K}(h:Mn ta):∀Y H Q,iW K F (gC ta) Y H Q->fE K F ta Y H λx j=>∃k,x=.bl k/\Q k j:=λY H Q f=>by obtain⟨U,O,st,q⟩:=f;exact 
 #[U,O,st,h _ _ _ (λd r g v l m i n o=>by obtain⟨b,e,p⟩:=g;subst e;exact#[b,o.bl_inv,p l m i n]) q]
theorem dZ(h:DE X F e ta)(d:autoParam (∀whole,isTrue e X.env whole=(do let v <-whole;standAt e.pos;holding [v] (truthy v))) Zs._auto_1):DB X F e (gC ta):=#[Bb h.mn,(JL h.pe d).imp (Bc h.mn)]
theorem lV(h:cP X (compareOp op) r)(o:fG r f)(d:DE X F a ta)(g:DE X F b tb)(i:behindInMarks op b=false):DB X F (.Compare a [op] [b] pos) (gC (cU f ta tb)):=
 #[Bb (pK o d.mn g.mn),(zU h d.pe g.pe i).imp λY H Q q=>sE o d.mn g.mn Y H _ (Bc (pK o d.mn g.mn) Y H Q q)]
def NE(t:cN):cN:=λU Q=>t U λb d=>Q (not b) d
theorem NF(h:DB X F a tA):DB X F (.UnaryOp .Not a pos) (NE tA):=#[λ_ _ _ k q=>h.mn _ _ _ (λ_ _ q=>k _ _ q) q,(JT h.pt).imp λY H Q d=>by obtain⟨U,O,st,q⟩:=d;exact#[U,O,st,h.mn _ _ _ (λb m g i j f l=>g i j f l) q]]
structure DW (X:Cx) (F:Fx) (e:Expr) (t:cN):Prop where
 mn:iu t
 pw:PW X e (iW X.K F t)
theorem _root_.L2.PW.imp(h:PW X e t)(k:∀Y H Q,t' Y H Q->t Y H Q):PW X e t':=λf d s Y H Q I q=>h f d s Y H Q I (k Y H Q q)
theorem DW.db(h:DW X F e t):DB X F e t:=#[h.mn,h.pw.pt]
def NG(t u:cN):cN:=λU Q=>t U λb d=>if b=true then u d Q else Q false d
def NH(t u:cN):cN:=λU Q=>t U λb d=>if b=true then Q true d else u d Q
theorem NJ(h:DB X F a tA):DW X F (.BoolOp .And [a] pos) tA:=#[h.mn,JP h.pt]
theorem NK(h:DB X F a tA):DW X F (.BoolOp .Or [a] pos) tA:=#[h.mn,JQ h.pt]
theorem NL{tB:cN}(g:DB X F a tA)(i:DW X F (.BoolOp .And (b::rest) pos) tB):DW X F (.BoolOp .And (a::b::rest) pos) (NG tA tB):=
 #[λ_ _ _ k q=>g.mn _ _ _ (λb _ q=>by cases b<;>first |exact k _ _ q |exact i.mn _ _ _ k q) q,(JR g.pt i.pw).imp λY H Q d=>by obtain⟨U,O,st,q⟩:=d;exact 
  #[U,O,st,g.mn _ _ _ (λb n j o l f m=>by
   cases b with
   |true=>exact fj #[n,l,f,i.mn _ _ _ (λb u p r s h t=>p r s h (m.trans t)) (lT j)]
   |false=>exact fi (lU j o l f m)) q]]
theorem NM{tB:cN}(g:DB X F a tA)(i:DW X F (.BoolOp .Or (b::rest) pos) tB):DW X F (.BoolOp .Or (a::b::rest) pos) (NH tA tB):=
 #[λ_ _ _ k q=>g.mn _ _ _ (λb _ q=>by cases b<;>first |exact k _ _ q |exact i.mn _ _ _ k q) q,(JS g.pt i.pw).imp λY H Q d=>by obtain⟨U,O,st,q⟩:=d;exact 
  #[U,O,st,g.mn _ _ _ (λb n j o l f m=>by
   cases b with
   |false=>exact fi #[n,l,f,i.mn _ _ _ (λb u p r s h t=>p r s h (m.trans t)) (lU j)]
   |true=>exact fj (lT j o l f m)) q]]
def NN(t:cN)(ta tb:DT):DT:=λU Q=>t U λb d=>if b=true then ta d Q else tb d Q
theorem NO(i:DB X F c tA)(j:DE X F a ta)(r:DE X F b tb):DE X F (.IfExp c a b pos) (NN tA ta tb):=
 #[λ_ _ _ k q=>i.mn _ _ _ (λb _ q=>by cases b<;>first |exact j.mn _ _ _ k q |exact r.mn _ _ _ k q) q,(Kc i.pt j.pe r.pe).imp λY H Q g=>by obtain⟨U,O,st,q⟩:=g;exact 
  #[U,O,st,i.mn _ _ _ (λb s t y u h w=>by
   cases b with
   |true=>exact fj #[s,u,h,j.mn _ _ _ (λd x l v m n f o p=>l v m n f (w.trans o) p) (lT t)]
   |false=>exact fi #[s,u,h,r.mn _ _ _ (λd x l v m n f o p=>l v m n f (w.trans o) p) (lU t)]) q]]
abbrev DN:=List PyData->(PyData->Prop)->Prop
structure iw (r:List V->Hp->VK->Prop) (f:DN):Prop where
 mn:∀xs Q Q',(∀d,Q d->Q' d)->f xs Q->f xs Q'
 ok:∀(O:List Addr) (H:Hp) (vs:List V) (xs:List PyData) (Q:VK),(∀p,H p=none->p∉O)->aH (au O H) vs xs->f xs (λd=>∀w H',bI H H'->DV (au O H') w d->Q w H')->r vs H Q
def lW(f:DN)(t:dB):DT:=λU Q=>t U λb a=>f b λd=>Q d a
theorem sI{K}(o:iw r f)(h:sH tA):∀Y H Q,fE K F (lW f tA) Y H Q->vX r (Ba K F tA) Y H Q:=λY H Q a=>by obtain⟨U,O,st,q⟩:=a;exact 
 #[U,O,st,h _ _ _ (λt u i vs j c b k l=>o.ok c j vs t Q b.nofree l (o.mn _ _ _ (λd m w n g s=>m w n c (b.grow g) (k.trans (.same g)) s) i)) q]
theorem sJ(o:iw r f)(h:sH tA):Mn (lW f tA):=λ_ _ _ k q=>h _ _ _ (λ_ _ a=>o.mn _ _ _ (λ_ b=>k _ _ b) a) q
theorem gX{pos:Pos}{p:Pos}{id:String}(d:eX X (.builtin id) r)(o:iw r f)(g:Gl X x)(h:X.mg x=none)(i:bootBuiltins x=!.builtin id)(a:DA X F (e::es) tA)(j:autoParam (x≠"__name__") Zr._auto_1)(b:autoParam ((x==("__debug__":Str))=false) Zr._auto_1)
  (k:autoParam (starEach (e::es) X.env=(false,eval e X.env)::starEach es X.env) Zq._auto_1) (c:autoParam ((backTo pos (starEach es X.env)).any (·.1)=false) Zq._auto_1):DE X F (.Call (.Name x p) (e::es) [] pos) (lW f tA):=
 #[sJ o a.mn,(lQ d g h i a.pa j b k c).imp (sI o a.mn)]
theorem Be{pos:Pos}{p:Pos}(d:eX X (.type T) r)(o:iw r f)(g:Gl X x)(h:X.mg x=none)(i:bootBuiltins x=!.type T)(a:DA X F (e::es) tA)(j:autoParam (x≠"__name__") Zr._auto_1)(b:autoParam ((x==("__debug__":Str))=false) Zr._auto_1)
  (k:autoParam (starEach (e::es) X.env=(false,eval e X.env)::starEach es X.env) Zq._auto_1) (c:autoParam ((backTo pos (starEach es X.env)).any (·.1)=false) Zq._auto_1):DE X F (.Call (.Name x p) (e::es) [] pos) (lW f tA):=
 #[sJ o a.mn,(sf d g h i a.pa j b k c).imp (sI o a.mn)]
def Bf(n:String)(a:DT):DT:=λU Q=>a U λd c=>∃b,(∀K:Frag,kitOne K (.type (wv d)) (.type n)=!b)/\Q (.bool b) c
theorem ki{pos:Pos}{p:Pos}(m:Gl X "isinstance")(n:X.mg "isinstance" = none)(h:DE X F e ta)(o:PE X (.Name x p2) (tC (.ty T)))
  (l:autoParam (starEach [e,.Name x p2] X.env=(false,eval e X.env)::starEach [.Name x p2] X.env) Zq._auto_1) (g:autoParam (starEach [.Name x p2] X.env=(false,eval (.Name x p2) X.env)::starEach [] X.env) Zq._auto_1) (i:autoParam ((backTo pos (starEach [.Name x p2] X.env)).any (·.1)=false) Zq._auto_1) :
  DE X F (.Call (.Name "isinstance" p) [e,.Name x p2] [] pos) (Bf T ta):=
 #[λ_ _ _ k q=>h.mn _ _ _ (λ_ _ a=>by obtain⟨b,e,q⟩:=a;exact#[b,e,k _ _ q]) q,
  (lQ MZ m n 'f' (dJ h.pe (dJ o eB g) l) 'd' 'd' l i).imp λY H Q c=>by obtain⟨U,O,st,q⟩:=c;exact 
  #[U,O,st,h.mn _ _ _ (λd y f v r s j t u=>by obtain⟨b,e,w⟩:=f;exact#[v,d,T,b,rfl,DV.mono kh u,e,w _ r s j t (.bl b)]) q]]
structure fH (g:Heap) (H:Hp) (h:Heap) (a:Addr) (C:Value) (fl:Option Value):Prop where
 gh:∀b o,g.get? b=!o->∃o',h.get? b=some o'
 lo:g.get? a=none
 un:H a=none
 ob:∃oe vs a0,h.get? a=!oe/\oe.cls=C/\oe.data=.fields vs/\vs[0]? = !a0/\
  ((fl=none/\vs[1]? = !.none)\/∃T oT ts f,fl=!f/\vs[1]? = !.ref T/\g.get? T=none/\H T=none/\T≠a/\h.get? T=!oT/\oT.data=.fields ts/\ts[3]? = !f)
structure Ch (g:Heap) (H:Hp) (fs:List Addr) (h h':Heap):Prop where
 keep:∀b o,h.get? b=!o->((∃o',g.get? b=!o')\/H b≠none)->b∉fs->h'.get? b=some o
 slot:∀b o,b∈fs->h.get? b=!o->∃sl,h'.get? b=some { o with slots:=sl }
 there:∀b o,h.get? b=!o->∃o',h'.get? b=!o'
theorem Ch.refl:Ch g H fs h h:=#[λ_ _ e _ _=>e,λb o _ e=>#[o.slots,e],λb o e=>#[o,e]]
theorem Ch.trans(x:Ch g H fs h h1)(y:Ch g H fs h1 h2):Ch g H fs h h2 where
 keep:=λb o e q n=>y.keep b o (x.keep b o e q n) q n
 slot:=λb o m e=>let⟨_,e1⟩:=x.slot b o m e;let⟨sl,e2⟩:=y.slot b _ m e1;#[sl,e2]
 there:=λb o e=>let⟨o1,e1⟩:=x.there b o e;y.there b o1 e1
theorem bM.some_of(k:bM P w H h)(e:h.get? b=none):H b=none:=by
 cases q:H b with
 |none=>rfl
 |some u=>
  exfalso;have:∀(u:HO),cy P w H h b u->∃o,h.get? b=!o:=by
   intro u
   induction u with
   |lst z=>exactλd=>by obtain⟨_,_,_,_,e⟩:=d;exact#[_,e]
   |tup z=>exactλg=>by obtain⟨_,_,_,o,e,_⟩:=g;exact#[_,e]
   |dK t=>exactλi=>by obtain⟨_,_,_,_,o,_,_,e,_⟩:=i;exact#[_,e]
   |dT t=>exactλj=>by obtain⟨_,_,_,_,o,_,_,e,_⟩:=j;exact#[_,e]
   |set S n=>exactλl=>by obtain⟨o,_,_,_,e,_⟩:=l;exact#[_,e]
   |ins C A fs=>exactλm=>by obtain⟨_,_,_,e,_⟩:=m;exact#[_,e]
   |own y=>exactλp=>by obtain⟨_,e⟩:=p;exact#[_,e]
   |xd fs=>exactλr=>by obtain⟨_,⟨_,_,_,e,_⟩,_⟩:=r;exact#[_,e]
   |rng lo B=>exactλs=>by obtain⟨_,_,_,e⟩:=s;exact#[_,e]
   |frz ob u _=>exactλa=>by obtain⟨e,_⟩:=a;exact#[_,e]
   |tbl D=>exactλe=>#[_,e]
   |met f y=>exactλe=>#[_,e]
   |ext φ=>exactλc=>by obtain⟨_,⟨_,e⟩,_⟩:=c;exact#[_,e]
  obtain⟨o,v⟩:=this u (k b u q);rw[e]at v;cases v
theorem Bg{h :Heap}:∀{l},(∀b∈bV l,a.get? b=none)->h.FunFrames base l->h.FunFrames a l
 |[],_,_=>trivial
 |c::r,hb,⟨f,⟨L,o,d,_,g,hd⟩,i⟩=>by
  have e:bV (c::r)=L::bV r:=by unfold bV;rw[q07,d]
  exact#[f,#[L,o,d,hb L (by rw[e];exact q0h),g,hd],Bg (λb h=>hb b (by rw[e];exact bH _ h)) i]
theorem Bh{L:Addr}(v:A.frames=!env::outer)(y:s.heap.FunFrames base (env::outer))(hf:env.frame=!L)(hk:∀b,s.heap.get? b=none->H b=none)
  (gh:∀b o,g.get? b=!o->∃i,s.heap.get? b=!i) (lo:g.get? a=none) (un:H a=none) (he:s.heap.get? a=!u) (hc:u.cls=C) (hd:u.data=.fields vs) (B:1<vs.size) (h0:vs[0]? = !O)
  (h:∀f,Ch g H (bV (env::outer)) s.heap f->fH g H f a C (!rawInt L)->Q () { s with heap:=f }) :
  wpAny M A (do let x <-frameOf env;let pl <-entryPlaceOf L d;let b <-EntryCells.newEntry head x .none (rawInt L) .none pl;setField (.ref a) 1 b) Q E s:=by
 refine wpAny_entryW v (Bg (λb m=>q2a _ (bH _ m)) y) hf he (λb o e=>PySem.W.of_hideAll _ e) (q2a _ q0h) hd B h0 λf k=>?_;obtain⟨k1,k2,k3,k4⟩:=k;obtain⟨D,G,T,oT,R,S,⟨e2,I⟩,e3,e4,U,X,Y,Z,e9⟩:=k3;have p:∀b o,b∈bV (env::outer)->s.heap.get? b=!o->∃p,f.get? b=some { o with slots:=p }:=λb o m e=>by obtain⟨_,i,c,J⟩:=y.mem m;rw[e]at c;cases c;exact k4 b o e J
 have kp:=λb o e r t=>k1 b o (q2d _ e λz=>(q0e.mp z).elim r t);have hT:g.get? T=none/\H T=none:=by
  cases q:s.heap.get? T with
  |some o=>
   exfalso
   by_cases j:T∈bV (env::outer)
   .obtain⟨_,i,c,J⟩:=y.mem j;rw[q]at c;cases c;obtain⟨N,l⟩:=p T o j q;rw[Y]at l;cases l;exact J R Z
   .rw[q2d _ q (λz=>(q0e.mp z).elim X j)]at U;cases U
  |none=>
   refine#[?_,hk T q];cases q2:g.get? T with
   |none=>rfl
   |some o=>obtain⟨i,c⟩:=gh T o q2;rw[q]at c;cases c
 have ch:Ch g H (bV (env::outer)) s.heap f:=#[λb o e q n=>kp b o e (λz=>?_) n,λb o m e=>p b o m e,λb o e=>?_]
 .refine h f ch #[λb o e=>?_,lo,un,D,G,O,S,e2.trans hc,e3,I,.inr #[T,oT,R,_,rfl,e4,hT.1,hT.2,X,Y,Z,e9]];obtain⟨i,c⟩:=gh b o e;exact ch.there b i c
 .subst z;rcases q with⟨i,q⟩ |q
  .rw[lo]at q;cases q
  .exact q un
 .by_cases t:b∈bV (env::outer)
  .obtain⟨N,c⟩:=p b o t e;exact#[_,c]
  .by_cases r:b=a
   .subst r;exact#[_,S]
   .exact#[o,kp b o e r t]
theorem NP{h:Heap}(i:h.FunFrames base l)(hT:h.get? T=!d)(hd:d.data=.fields e):(h.update T f).FunFrames base l:=
 i.of_keeps λb o c j=>#[o,by rw[Heap.get?_update_other _ _ (λz=>j e (by subst z;rw[hT]at c;cases c;exact hd))];exact c,rfl]
theorem Bi(hT:h.get? T=!c)(hd:c.data=.fields i)(j:g.get? T=none)(k:H T=none)(d:T∉fs):Ch g H fs h (h.update T (Obj.mapFields f)):=by
 refine#[λb o e q n=>?_,λb o m e=>#[o.slots,?_],λb o e=>?_]
 .rw[Heap.get?_update_other _ _ (λz=>?_)]
  .exact e
  .subst z;rcases q with⟨l,q⟩ |q
   .rw[j]at q;cases q
   .exact q k
 .rw[Heap.get?_update_other _ _ (λz=>d (by rw[z];exact m))];exact e
 .by_cases z:b=T
  .subst z;exact#[_,(Heap.get?_update_self _ hT (Obj.isFreed_of_fields (Obj.data_mapFields hd f)))]
  .exact#[o,by rw[Heap.get?_update_other _ _ (Ne.symm z)];exact e]
theorem Bj{L:Addr}(j:A.frames=!env::outer)(r:s.heap.FunFrames base (env::outer))(t:env.frame=!L)(I:∀b,s.heap.get? b=none->H b=none)(x:fH g H s.heap a C fl)
  (h:∀k,Ch g H (bV (env::outer)) s.heap k->fH g H k a C (!rawInt L)->Q () { s with heap:=k }):wpAny M A (noteFrame (.ref a) env) Q E s:=by
 obtain⟨G,lo,un,J,vs,O,l,u,hd,v,R⟩:=x;unfold noteFrame;simp only[t];rcases R with⟨_,h1⟩ |⟨T,S,N,f,_,h1,m,n,p,hT,c,h3⟩
 .refine aa (wpAny_field l hd h1 ?_);rw[if_neg 'd'];exact Bh j r t I G lo un l u hd (q1n.mp h1).1 v h
 .refine aa (wpAny_field l hd h1 ?_);rw[if_pos 'c'];refine aa (wpAny_field hT c h3 ?_)
  by_cases d:(f==rawInt L)=true
  .rw[if_pos d];have e:=by simpa using d
   subst e;exact ao (h s.heap .refl #[G,lo,un,J,vs,O,l,u,hd,v,.inr #[T,S,N,_,rfl,h1,m,n,p,hT,c,h3]])
  .rw[if_neg d];refine aa (wpAny_setField hT c (q1n.mp h3).1 ?_);have D:=Bi (f:=(·.setIfInBounds 3 Value.none)) hT c m n (λz=>by obtain⟨_,B,i,U⟩:=r.mem z;rw[hT]at i;cases i;exact U N c);refine Bh j (NP r hT c) t (λb e=>?_) (λb o e=>?_) lo un ?_ u hd (q1n.mp h1).1 v λk ch X=>h k (D.trans ch) X
   .apply I b;cases q:s.heap.get? b with
    |none=>rfl
    |some o=>obtain⟨B,i⟩:=D.there b o q;rw[show({ s with heap:=s.heap.update T (Obj.mapFields (·.setIfInBounds 3 Value.none)) }:Shared).heap=s.heap.update T (Obj.mapFields (·.setIfInBounds 3 Value.none)) from rfl]at e;rw[e]at i;cases i
   .obtain⟨B,i⟩:=G b o e;exact D.there b B i
   .rw[Heap.get?_update_other _ _ p];exact l
theorem wB(l)(m:∀b∈fs,∃o,s.heap.get? b=!o/\∀vs,o.data≠.fields vs)(x:fH g H s.heap a C (!fv))
  (h:∀n,Ch g H fs s.heap n->fH g H n a C (!(l.elim Value.none λf=>rawInt f))->Q () { s with heap:=n }):wpAny M A (setFlight (.ref a) l) Q E s:=by
 obtain⟨O,lo,un,u,vs,v,q,y,hd,B,D⟩:=x;rcases D with⟨z,_⟩ |⟨T,R,G,f,_,h1,d,i,j,hT,c,h3⟩
 .cases z
 .refine aa (wpAny_field q hd h1 ?_);rw[if_pos 'c'];have k:=(q1n.mp h3).1;have t:=Bi (f:=(·.setIfInBounds 3 (l.elim Value.none λf=>rawInt f))) hT c d i (λz=>by obtain⟨o,r,I⟩:=m T z;rw[hT]at r;cases r;exact I G c);refine wpAny_setField hT c k (h _ t #[λb o e=>?_,lo,un,u,vs,v,?_,y,hd,B,.inr #[T,_,_,_,rfl,h1,d,i,j,Heap.get?_update_self _ hT (Obj.isFreed_of_fields (Obj.data_mapFields c _)),Obj.data_mapFields c _,?_]])
  .obtain⟨J,N⟩:=O b o e;exact t.there b J N
  .rw[Heap.get?_update_other _ _ j];exact q
  .simp[k]
theorem wC{h:Heap}(c:h.FunFrames base l):∀b∈bV l,∃o,h.get? b=!o/\∀vs,o.data≠.fields vs:=λb d=>let⟨_,o,e,n⟩:=c.mem d;#[o,e,n]
theorem Ch.frames(c:Ch g H fs h d)(f:∀b∈bV l,b∈fs)(j:h.FunFrames base l):d.FunFrames base l:=by
 induction l with
 |nil=>trivial
 |cons env r k=>
  obtain⟨m,⟨L,o,i,n,p,hd⟩,q⟩:=j;have e:bV (env::r)=L::bV r:=by unfold bV;rw[q07,i]
  obtain⟨v,t⟩:=c.slot L o (f L (by rw[e];exact q0h)) p;exact#[m,#[L,_,i,n,t,hd],k (λb u=>f b (by rw[e];exact bH _ u)) q]
theorem NQ(c:A.frames=!env::outer)(e:s.heap.FunFrames base (env::outer))(i:env.frame=!L)(j:∀b,s.heap.get? b=none->H b=none)(x:fH g H s.heap a C fl)
  (h:∀d,Ch g H (bV (env::outer)) s.heap d->fH g H d a C (!.none)->Q () { s with heap:=d }):wpAny M A (leaving env (.ref a)) Q E s:=by
 refine aa (Bj c e i j x λn f k=>wB none (wC (f.frames (λ_ h=>h) e)) k λo l m=>h o (f.trans l) m)
structure lX (X:Cx) (pins:List (Addr×Obj)) (g:Heap):Prop where
 s0:∀b o,X.s₀.heap.get? b=!o->b∉X.ex->∃o',g.get? b=some o'
 loc:∃o,g.get? X.env.locals=some o
 cell:∀x c,X.env.cells.lookup x=!c->∃o,g.get? c=some o
 pin:∀p∈X.pn++pins,∃o,g.get? p.1=!o
theorem _root_.L2.Inv.cov{Y:St}(I:Inv X pins Y H s):lX X pins s.heap:=by
 refine#[λb o e n=>I.base.there b o e n,?_,λx c e=>?_,λp d=>#[_,(I.pin p d).1]]
 .obtain⟨m,⟨o,es,f,a,_⟩,_⟩:=I.loc;exact#[o,a]
 .obtain⟨v,o,a,_⟩:=I.cell x c e;exact#[o,a]
theorem _root_.L2.Inv.stkIn{Y:St}(I:Inv X pins Y H s)(h:b∉bV X.stack):b∉X.fs:=by
 rcases I.ok.stk with e |⟨e,a⟩
 .rw[e]at h;exact h
 .rw[e]at h;unfold bV at h;rw[q07,a]at h;exactλz=>h (bH _ z)
theorem _root_.L2.Inv.stkOut{Y:St}(I:Inv X pins Y H s)(h:b∉X.fs)(a:b≠X.env.locals):b∉bV X.stack:=λz=>(q0e.mp (I.stkSub b z)).elim a h
theorem NR{h h':Heap}(k:∀o,h.get? a=!o->∃b,h'.get? a=some { o with slots:=b })(c:h.Ns a m):h'.Ns a m:=by obtain⟨o,es,d,e,hd,r⟩:=c;obtain⟨b,f⟩:=k o e;exact#[_,es,d,f,hd,r]
theorem _root_.L2.Inv.ch{Y:St}(I:Inv X pins Y H s)(C:lX X pins g)(c:Ch g H (bV X.stack) s.heap h'):Inv X pins Y H { s with heap:=h' }:=by
 have G:∀x a,X.env.cells.lookup x=!a->∀o,s.heap.get? a=!o->∃A,h'.get? a=!A/\A.data=o.data:=λx a e o h=>by
  by_cases t:a∈bV X.stack
  .obtain⟨T,y⟩:=c.slot a o t h;exact#[_,y,rfl]
  .exact#[o,c.keep a o h (.inl (C.cell x a e)) t,rfl]
 refine#[I.ok,I.os,I.bare,#[λb o e n B w=>?_,λb o e n B w=>?_,λb o e n w=>I.base.free b o e n w,λb o e w=>?_,I.base.tups,I.base.frzs,I.base.tbls],?_,λx a e=>?_,I.free,I.freeC,λp J=>?_,λb u e=>?_,I.len]
 .refine c.keep b o (I.base.keep b o e n B w) (.inl (C.s0 b o e w)) (I.stkOut B λz=>?_);have f:=bo e;rw[z]at f;exact q0E _ (q0l f I.ok.above)
 .obtain⟨T,y⟩:=I.base.slot b o e n B w
  by_cases t:b∈bV X.stack
  .obtain⟨E,N⟩:=c.slot b _ t y;exact#[E,N]
  .exact absurd B (I.stkIn t)
 .obtain⟨O,y⟩:=I.base.there b o e w;exact c.there b O y
 .obtain⟨m,Q,R⟩:=I.loc;refine#[m,NR (λo h=>?_) Q,λi x v j f D=>?_]
  .by_cases t:X.env.locals∈bV X.stack
   .exact c.slot _ o t h
   .exact#[o.slots,c.keep _ o h (.inl C.loc) t]
  .obtain⟨u,r,l⟩:=R i x v j f D;refine#[u,r,?_];rcases l with l |⟨k,a,e,o,h,hd⟩
   .exact .inl l
   .obtain⟨A,j,f⟩:=G x a e o h;exact .inr #[k,a,e,A,j,f.trans hd]
 .obtain⟨v,o,h,hd⟩:=I.cell x a e;obtain⟨A,j,f⟩:=G x a e o h;exact#[v,A,j,f.trans hd]
 .obtain⟨j,f,D,L,S⟩:=I.pin p J;exact#[c.keep _ _ j (.inl (C.pin p J)) (I.stkOut L D),f,D,L,S]
 .refine(I.hok b u e).stay (λd v hd q=>(λb o e n=>c.keep b o e (.inr n) λz=>n (I.stkFree b z)) d v q ?_) (λ_ q=>q) λ_ _ q=>q;rcases hd with rfl |hd
  .rw[e];exactλz=>by cases z
  .rw[hd];exactλz=>by cases z
def ej(P:Program)(w:World):iR:=λb H s E e c=>∃a C d,e=.ref a/\c.os=s.os/\AllBare c.gens/\Un (bV b) [] H d s.heap c.heap/\bM P w d c.heap/\fH s.heap d c.heap a C (!.none)/\E C none d
structure NS (X:Cx) (pins:List (Addr×Obj)) (Y:St) (H:Hp) (s:Shared) (e:Value) (c:Str):Prop where
 inv:Inv X pins Y H s
 ex:∃a C g fl,e=.ref a/\lX X pins g/\fH g H s.heap a C fl/\X.mg c=!C
noncomputable def glob(x:Str):Option PyData:=if x="ANY_ZONE" then some (.tuple [.int 0,.tuple []]) else if x="NO_DEEDS" then some (.tuple []) else none
noncomputable def gD:HO->Bool
 |.tup _=>true
 |.frz _ (.tup _)=>true
 |_=>false
theorem NT(h:gD u=true):¬ Mv u:=λm=>by
 cases u with
 |tup _=>exact m
 |frz _ _=>exact m
 |_=>cases h
def pM(H:Hp):Hp:=λb=>match H b with
 |some u=>if gD u=true then some u else none
 |none=>none
theorem NU(h:pM H b=!o):gD o=true/\H b=!o:=by
 unfold pM at h;split at h
 .rename_i u e;split at h
  .rename_i t;cases h;exact#[t,e]
  .cases h
 .cases h
theorem NW(t:gD u=true)(h:H b=!u):pM H b=!u:=by unfold pM;rw[h];exact if_pos t
def GH(a:Str->Option Value)(H:Hp):Prop:=∀x d u,glob x=!d->a x=!u->∃v,aX v u/\DV (pM H) v d
def GF(a:Str->Option Value)(F:Fx):Prop:=GH a λb=>if b∈F.A₀ then none else F.H₀ b
theorem GH.mono(g:GH c H)(k:∀b u,gD u=true->H b=!u->a b=!u):GH c a:=λx d u i j=>by obtain⟨v,r,f⟩:=g x d u i j;exact#[v,r,DV.mono (λb o e=>by obtain⟨t,h⟩:=NU e;exact NW t (k b o t h)) f]
theorem GF.at{K}(g:GF a F)(st:aD K F H Y U O):GH a H:=GH.mono g λb d t e=>by
 obtain⟨W,st,rfl⟩:=st;split at e
 .cases e
 .rename_i c;exact st.kept b _ c e
theorem GH.frame(g:GH d H)(h:∀a∈A,∃o,H a=!o/\Mv o):GF d #[H,A,O,io]:=GH.mono g λb f t e=>by show(if b∈A then none else H b)=_;rw[if_neg,e];intro z;obtain⟨o,c,m⟩:=h b z;rw[e]at c;cases c;exact NT t m
theorem GF.into{K}(g:GF b F)(st:aD K F H Y U O):GF b #[H,[],c,io]:=(g.at st).frame λa h=>by cases h
def fJ(X:Cx)(F:Fx)(E:Str->ak->Prop):Prop:=GF X.mg F/\∀(pins:List (Addr×Obj)) (Y:St) (H:Hp) (s:Shared) (e:Value) (c:Str) (U:ak) (O:List Addr),NS X pins Y H s e c->aD X.K F H Y U O->E c U->X.xe e s
theorem fH.weak(x:fH g H h a C j)(k:∀b o,c.get? b=!o->∃d,g.get? b=!d):fH c H h a C j:=by
 have l:∀b,g.get? b=none->c.get? b=none:=λb e=>by
  cases q:c.get? b with
  |none=>rfl
  |some o=>obtain⟨d,i⟩:=k b o q;rw[e]at i;cases i
 obtain⟨z,lo,un,m,vs,n,p,r,hd,t,u⟩:=x;refine#[λb o e=>let⟨d,i⟩:=k b o e;z b d i,l a lo,un,m,vs,n,p,r,hd,t,u.imp id ?_];rintro⟨T,v,w,f,h1,h2,h3,y⟩;exact#[T,v,w,f,h1,h2,l T h3,y]
theorem _root_.L2.Inv.flies{Y:St}(I:Inv X pins Y H s)(h:ej X.prog X.w X.stack H s E e f):∃a C c,e=.ref a/\Inv X pins Y c f/\lX X pins s.heap/\fH s.heap c f.heap a C (!.none)/\E C none c:=by obtain⟨a,C,c,j,os,bare,un,hok,ex,q⟩:=h;obtain⟨k,g,d,t,i⟩:=f;obtain rfl:i = s.os:=os;exact#[a,C,c,j,I.call un hok bare (λb z=>absurd z 'c'),I.cov,ex,q]
theorem NX{K}
  (v:GF m F) (x:∀c C p y r B,m c=!C->aD K F r y p B->n c p->E C none r):fJ (im (ej P w) P w K m base N i d f j A h s H E) F n:=by
 refine#[v,?_];rintro t Y k D e c U O ⟨I,a,C,g,R,G,u,ex,L⟩ st q;subst G;refine NQ I.ok.frames I.stack rfl (λb z=>bM.some_of I.hok z) ex λS ch l=>?_;have J:=I.ch u ch;refine#[a,C,k,rfl,J.os,J.bare,J.base,J.hok,l.weak λb o Q=>u.s0 b o Q (by intro z;cases z),x c C U Y k O L st q]
noncomputable def Fx.plus(F:Fx)(a:List Addr):Fx:={ F with O₀:=a++F.O₀ }
theorem Fx.plus_plus{F:Fx}:(F.plus l).plus m=F.plus (m++l):=by unfold Fx.plus;simp
structure iX (K:Frag) (F:Fx) (H:Hp) (Y:St) (U:ak) (O:List Addr) (v:V) (c:af) (fp:List Addr):Prop where
 st:aD K (F.plus fp) H Y U O
 at_:eE K H O v c fp
 new:∀a∈fp,a∈F.A₀\/F.H₀ a=none
theorem iY(h:∀a∈O',a∈O):aT O H O' H:=#[λ_ _ _ e=>e,λa z=>.inl (h a z)]
theorem cb.less{K:Frag}(st:cb K F H Y U W)(d:b.H₀=F.H₀)(f:b.A₀=F.A₀)(g:b.I₀=F.I₀)(m:b.O₀.Sublist F.O₀):cb K b H Y U W:=by have sub:(W.flatten++b.O₀).Sublist (W.flatten++F.O₀):=q2h (q12 _) m;have mem:∀a∈W.flatten++b.O₀,a∈W.flatten++F.O₀:=λa h=>sub.subset h;refine#[λi c e=>?_,st.nd.sublist sub,by rw[d,f];exact st.kept,by rw[d,f];exact st.new,λa h=>st.live a (mem a h),st.len,st.lw,by rw[g];exact st.io];obtain⟨v,fp,j,k,l⟩:=st.at_ i c e;exact#[v,fp,j,k,l.keep (iY mem) (λ_ _=>rfl) (λ_ _ _ e=>e)]
theorem aD.unplus{K:Frag}(st:aD K (F.plus fp) H Y U O):∃O',aD K F H Y U O'/\aT O H O' H/\(∀a∈fp,a∉O'):=by
 obtain⟨W,st,rfl⟩:=st;refine#[_,#[W,(st.less rfl rfl rfl (q2v _ _)),rfl],iY λa h=>?_,λa d z=>?_]
 .rcases q0f.mp h with h |h
  .exact bv _ h
  .exact bq _ (bq _ h)
 .obtain⟨_,e,f⟩:=q0j.mp st.nd;rcases q0f.mp z with z |z
  .exact f a z a (bv _ d) rfl
  .exact(q0j.mp e).2.2 a d a z rfl
theorem iX.drop{K:Frag}(r:iX K F H Y U O v c fp):∃O',aD K F H Y U O'/\aT O H O' H:=let⟨O',h1,h2,_⟩:=r.st.unplus;#[O',h1,h2]
@[simp]noncomputable def frz:af->Option PyData
 |.dat d=>some d
 |.own _ (.l ds)=>some (.list ds)
 |_=>none
theorem iX.frz{K:Frag}(r:iX K F H Y U O v c fp)(e:frz c=!d):∃O',aD K F H Y U O'/\aT O H O' H/\DV (au O' H) v d:=by
 obtain⟨O',h1,h2,h3⟩:=r.st.unplus;refine#[O',h1,h2,?_];have f:=r.at_;cases c with
 |dat x=>cases e;exact DV.mono h2.hid f
 |scr ns=>cases e
 |exc c=>cases e
 |vw c=>cases e
 |own io b=>
  cases b with
  |l ds=>cases e;obtain⟨a,rfl,rfl,i,g,h⟩:=f;exact .lst (gb g (h3 a 'c')) (aH.mono h2.hid h)
  |m _ _=>cases e
  |o _ _=>cases e
  |sd _=>cases e
  |ll _=>cases e
  |pr _ _ _=>cases e
  |oo _ _=>cases e
theorem NY{K:Frag}(st:aD K F H Y U O)(h:DV (au O H) v d):iX K F H Y U O v (.dat d) []:=#[st,h,λa h=>by cases h]
theorem aD.put1{K:Frag}{io:Bool}(st:aD K (F.plus fp) H Y U O)(s:eE K H O v c fp)(new:∀a∈fp,a∈F.A₀\/F.H₀ a=none)(n:i<U.length)(o:∀b,c=.own true b->v=.ref (F.I₀ i)) :
  ∃O',aD K F H (Y.set i (!v)) (U.set i (!c)) O'/\aT O H O' H:=by
 obtain⟨W,st,rfl⟩:=st;obtain⟨t,u,r⟩:=q0j.mp st.nd;obtain⟨x,y,A⟩:=q0j.mp u;have sub:∀a∈(W.set i fp).flatten++F.O₀,a∈W.flatten++(fp++F.O₀):=λa h=>by
  rcases q0f.mp h with h |h
  .rcases gd h with h |⟨j,l,_,e,q⟩
   .exact bq _ (bv _ h)
   .exact bv _ (bZ e q)
  .exact bq _ (bq _ h)
 have f:=iY (H:=H) sub;refine#[_,#[W.set i fp,#[λj d e=>?_,sD (q0j.mpr #[t,y,λa k b B=>r a k b (bq _ B)]) x λa k=>#[λj l _ e z=>r a (bZ e z) a (bv _ k) rfl,λz=>A a k a z rfl],st.kept,λa h=>?_,λa h=>st.live a (sub a h),by rw[q0C,q0C,st.len],by rw[q0C,q0C,st.lw],λj b e=>?_],rfl],f]
 .rcases iU e with⟨rfl,g,_⟩ |⟨m,g⟩
  .cases g;exact#[v,fp,q0w (by rw[<-st.len];exact n),q0w (by rw[st.lw];exact n),s.keep f (λ_ _=>rfl) (λ_ _ _ e=>e)]
  .obtain⟨w,l,h1,h2,h3⟩:=st.at_ j d g;exact#[w,l,by rw[q0v m.symm];exact h1,by rw[q0v m.symm];exact h2,h3.keep f (λ_ _=>rfl) (λ_ _ _ e=>e)]
 .rcases gd h with h |⟨j,l,_,e,q⟩
  .exact new a h
  .exact st.new a (bZ e q)
 .rcases iU e with⟨rfl,g,_⟩ |⟨m,g⟩
  .rw[q0w (by rw[<-st.len];exact n),o b (q0r g).symm]
  .rw[q0v m.symm];exact st.io j b g
theorem aD.take{K:Frag}(st:aD K F H Y U O)(e:U[i]? = !!.own io b):∃a fp O',Y[i]? = !!.ref a/\aD K (F.plus fp) H Y (U.set i none) O'/\fC (au O' H) H a b fp/\aT O H O' H/\aT O' H O H/\(∀a∈fp,a∈F.A₀\/F.H₀ a=none)/\(io=true->a=F.I₀ i):=by
 obtain⟨W,st,rfl⟩:=st;obtain⟨v,fp,h1,h2,a,rfl,h3⟩:=st.at_ i _ e;obtain⟨D,J,L⟩:=q0j.mp st.nd;have E:∀x∈(W.set i []).flatten++(fp++F.O₀),x∈W.flatten++F.O₀:=λx h=>by
  rcases q0f.mp h with h |h
  .rcases gd h with h |⟨j,l,_,g,m⟩
   .cases h
   .exact bv _ (bZ g m)
  .rcases q0f.mp h with h |h
   .exact bv _ (bZ h2 h)
   .exact bq _ h
 have M:∀x∈W.flatten++F.O₀,x∈(W.set i []).flatten++(fp++F.O₀):=λx h=>by
  rcases q0f.mp h with h |h
  .obtain⟨l,m,f⟩:=q2g.mp h;obtain⟨j,n⟩:=q1z m
   by_cases s:j=i
   .subst s;rw[h2]at n;cases n;exact bq _ (bv _ f)
   .exact bv _ (Ng s n f)
  .exact bq _ (bq _ h)
 have t:=by
  have:∀{W:List (List Addr)}{i:Nat}{l:List Addr},W.flatten.Nodup->W[i]? = !l->l.Nodup:=λ{W i l} R m=>R.sublist (by
   have:=q0A m;exact q1K this)
  exact this D h2
 have u:=by
  obtain⟨A,_,B⟩:=q0j.mp (sD st.nd q1q (λa h=>by cases h));refine q0j.mpr #[A,q0j.mpr #[t,J,λx f y o z=>L x (bZ h2 f) y o z],λx f y o z=>?_];subst z;rcases q0f.mp o with o |o
  .rcases gd f with f |⟨j,l,n,g,m⟩
   .cases f
   .exact kI D h2 g n.symm o m
  .exact B x f x o rfl
 have p:=iY (H:=H) E;refine#[a,fp,_,h1,#[W.set i [],#[λj d g=>?_,u,st.kept,λx h=>?_,λx h=>st.live x (E x h),by rw[q0C,st.len],by rw[q0C,q0C,st.lw],λj N g=>?_],rfl],h3.keep (λ_ _=>rfl) p.hid,p,(iY M),λx f=>st.new x (bZ h2 f),λC=>?_]
 .rcases iU g with⟨rfl,r,_⟩ |⟨n,r⟩
  .cases r
  .obtain⟨w,l,A,Q,B⟩:=st.at_ j d r;exact#[w,l,A,by rw[q0v n.symm];exact Q,B.keep p (λ_ _=>rfl) (λ_ _ _ e=>e)]
 .rcases gd h with h |⟨j,l,_,g,m⟩
  .cases h
  .exact st.new x (bZ g m)
 .rcases iU g with⟨rfl,r,_⟩ |⟨n,r⟩
  .cases r
  .exact st.io j N r
 .subst C;have:=st.io i b e;rw[h1]at this;cases this;rfl
theorem aD.swap{K:Frag}{F:Fx}(st:aD K (F.plus L) H Y U O)(keep:∀b o,b∉L->H b=!o->H' b=!o)(D:L'.Nodup)(new:∀a∈L',a∈L\/H a=none)(t:∀a∈L,a∈F.A₀\/F.H₀ a=none)(l:∀a∈L',∃o,H' a=!o/\Mv o) :
  ∃O',aD K (F.plus L') H' Y U O'/\aT O H O' H'/\(∀a∈L',a∈O')/\(∀a∈O',a∈L'\/a∈O/\a∉L)/\∀a∈O,a∉L->a∈O':=by
 obtain⟨W,st,rfl⟩:=st;obtain⟨w,x,p⟩:=q0j.mp st.nd;obtain⟨E,y,A⟩:=q0j.mp x;have wl:=λa h z=>p a h a (bv _ z) rfl;have ol:=λa h z=>A a z a h rfl;have j:=λa h=>st.live a (by
  rcases q0f.mp h with h |h
  .exact bv _ h
  .exact bq _ (bq _ h))
 have kp:∀a∈W.flatten++F.O₀,H' a=H a:=λa h=>by obtain⟨o,e,_⟩:=j a h;rw[e];exact keep a o ((q0f.mp h).elim (wl a) (ol a)) e
 have ap:∀a∈L',a∉W.flatten++F.O₀:=λa h z=>by
  rcases new a h with q |q
  .rcases q0f.mp z with z |z
   .exact wl a z q
   .exact ol a z q
  .obtain⟨o,e,_⟩:=j a z;rw[q]at e;cases e
 have f:aT (W.flatten++(L++F.O₀)) H (W.flatten++(L'++F.O₀)) H':=#[λb o d e=>keep b o (λz=>d (bq _ (bv _ z))) e,λa h=>by
  rcases q0f.mp h with h |h
  .exact .inl (bv _ h)
  .rcases q0f.mp h with h |h
   .exact(new a h).imp (λz=>bq _ (bv _ z)) id
   .exact .inl (bq _ (bq _ h))]
 refine#[_,#[W,#[λi c e=>?_,?_,λb o d e=>?_,st.new,λa h=>?_,st.len,st.lw,st.io],rfl],f,λa h=>bq _ (bv _ h),λa h=>?_,λa h C=>?_]
 .obtain⟨v,fp,h1,h2,h3⟩:=st.at_ i c e;exact#[v,fp,h1,h2,h3.keep f (λb d=>kp b (bv _ (bZ h2 d))) (λb o u e=>keep b _ (λz=>st.nofrz (bq _ (bv _ z)) e) e)]
 .refine q0j.mpr #[w,q0j.mpr #[D,y,λa k b d z=>?_],λa k b d z=>?_]
  .subst z;exact ap a k (bq _ d)
  .subst z;rcases q0f.mp d with d |d
   .exact ap a d (bv _ k)
   .exact p a k a (bq _ d) rfl
 .by_cases r:b∈L
  .rcases t b r with q |q
   .exact absurd q d
   .have s:F.H₀ b=!o:=e;rw[q]at s;cases s
  .exact keep b o r (st.kept b o d e)
 .rcases q0f.mp h with h |h
  .obtain⟨o,g,n⟩:=j a (bv _ h);exact#[o,by rw[kp a (bv _ h)];exact g,n]
  .rcases q0f.mp h with h |h
   .exact l a h
   .obtain⟨o,g,n⟩:=j a (bq _ h);exact#[o,by rw[kp a (bq _ h)];exact g,n]
 .rcases q0f.mp h with h |h
  .exact .inr #[bv _ h,wl a h]
  .rcases q0f.mp h with h |h
   .exact .inl h
   .exact .inr #[bq _ (bq _ h),ol a h]
 .rcases q0f.mp h with h |h
  .exact bv _ h
  .rcases q0f.mp h with h |h
   .exact absurd h C
   .exact bq _ (bq _ h)
abbrev ix:=ak->(af->ak->Prop)->Prop
def Bk(t:ix):Prop:=∀U Q a,(∀c b,Q c b->a c b)->t U Q->t U a
def Oa(K:Frag)(F:Fx)(t:ix):TE:=λY H Q=>∃U O,aD K F H Y U O/\t U λc d=>∀v a b e,iX K F a Y d b v c e->aT O H b a->Q v a
structure DO (X:Cx) (F:Fx) (e:Expr) (t:ix):Prop where
 mn:Bk t
 pe:PE X e (Oa X.K F t)
def Ob(t:ix):DT:=λU Q=>t U λc a=>∃d,frz c=!d/\Q d a
theorem DO.de(h:DO X F e to):DE X F e (Ob to):=
 #[λ_ _ _ k q=>h.mn _ _ _ (λ_ _ a=>by obtain⟨d,e,q⟩:=a;exact#[d,e,k _ _ q]) q,h.pe.imp λY H Q g=>by
 obtain⟨U,O,st,q⟩:=g;exact#[U,O,st,h.mn _ _ _ (λc n b v i o p r s=>by
  obtain⟨d,e,q⟩:=b;obtain⟨j,f,l,m⟩:=r.frz e;exact q v i j f (s.trans l) m) q]]
abbrev eF:=PyData->ak->(ak->Prop)->Prop
def kM(K:Frag)(F:Fx)(t:eF):TG:=λv Y H Q=>∃U O d,aD K F H Y U O/\DV (au O H) v d/\t d U λe=>∀b a c,aD K F a b e c->aT O H c a->Q b a
structure DG (X:Cx) (F:Fx) (tg:Expr) (t:eF):Prop where
 mn:∀d U Q Q',(∀U',Q U'->Q' U')->t d U Q->t d U Q'
 pg:PG X tg (kM X.K F t)
abbrev kN:=List PyData->ak->(ak->Prop)->Prop
def Oc(K:Frag)(F:Fx)(t:kN):jZ:=λvs Y H Q=>∃U O d,aD K F H Y U O/\aH (au O H) vs d/\t d U λe=>∀b a c,aD K F a b e c->aT O H c a->Q b a
structure pN (X:Cx) (F:Fx) (tg:List Expr) (t:kN):Prop where
 mn:∀d U Q Q',(∀U',Q U'->Q' U')->t d U Q->t d U Q'
 pg:PGs X tg (Oc X.K F t)
theorem _root_.L2.PG.imp(h:PG X e t)(k:∀v Y H Q,t' v Y H Q->t v Y H Q):PG X e t':=λa s Y H v u Q I r q=>h a s Y H v u Q I r (k v Y H Q q)
theorem _root_.L2.PGs.imp(h:PGs X e t)(k:∀v Y H Q,t' v Y H Q->t v Y H Q):PGs X e t':=λa s Y H v u Q I r q=>h a s Y H v u Q I r (k v Y H Q q)
def gN(i:Nat):eF:=λd U Q=>Q (U.set i (!.dat d))
theorem Od(h:PG X (.Name x pos) (rQ i)):DG X F (.Name x pos) (gN i):=#[λ_ _ _ _ k q=>k _ q,h.imp λv Y H Q a=>by obtain⟨U,O,d,st,hd,q⟩:=a;exact q _ H O (st.set hd) .refl]
def Oe:kN:=λa U Q=>a=[]/\Q U
def Of(t:eF)(u:kN):kN:=λb U Q=>∃d r,b=d::r/\t d U λa=>u r a Q
theorem Og:pN X F [] Oe:=#[λ_ _ _ _ k q=>#[q.1,k _ q.2],zJ.imp λvs Y H Q a=>by
 obtain⟨U,O,ds,st,hd,e,q⟩:=a;subst e;cases hd;exact#[rfl,q _ H O st .refl]]
theorem Oh(h:DG X F e t)(i:pN X F es ts)(l:autoParam ((assignEach (e::es) X.env).map (·.2)=assign e X.env::(assignEach es X.env).map (·.2)) Zq._auto_1):pN X F (e::es) (Of t ts):=
 #[λ_ _ _ _ k a=>by obtain⟨d,r,e,q⟩:=a;exact#[d,r,e,h.mn _ _ _ _ (λ_ c=>i.mn _ _ _ _ k c) q],(vM h.pg i.pg l).imp λvs Y H Q b=>by
  obtain⟨U,O,ds,st,hd,d,r,e,q⟩:=b;subst e;cases hd with
  |cons hd m=>
   exact#[_,_,rfl,U,O,d,st,hd,h.mn _ _ _ _ (λn c y z o f j=>#[n,o,r,f,aH.mono j.hid m,i.mn _ _ _ _ (λA p s u v g w=>p s u v g (j.trans w)) c]) q]]
def Oi(n:Nat)(t:kN):eF:=λd U Q=>∃a,d=.tuple a/\a.length=n/\t a U Q
theorem Oj{pos:Pos}{k }(j:X.calm=true)(h:pN X F es ts)(m:autoParam ((assignEach es X.env).length=n) Zq._auto_1)(f:autoParam ((assignEach es X.env).findIdx? (·.1)=none) Zq._auto_1):DG X F (.Tuple es k pos) (Oi n ts):=
 #[λ_ _ _ _ k b=>by obtain⟨g,e,l,q⟩:=b;exact#[g,e,l,h.mn _ _ _ _ k q],(zK j h.pg m f).imp λv Y H Q c=>by
  obtain⟨U,O,d,st,hd,g,e,l,q⟩:=c;subst e;obtain⟨a,o,rfl,p,i⟩:=hd.tup_inv;exact#[a,o,rfl,.inl (gc p).1,by rw[i.length];exact l,U,O,g,st,i,q]]
structure eG where
 nx:ak->Prop
 rt:af->ak->Prop
 bk:ak->Prop:=λ_=>False
 ct:ak->Prop:=λ_=>False
abbrev eI:=eG->ak->Prop
structure gf (K:Frag) (F:Fx) (O:List Addr) (H:Hp) (D:fh) (DD:eG):Prop where
 nx:∀Y' H' U' O',aD K F H' Y' U' O'->aT O H O' H'->DD.nx U'->D.nx Y' H'
 rt:∀v Y' H' c U' O' fp,iX K F H' Y' U' O' v c fp->aT O H O' H'->DD.rt c U'->D.rt v H'
 bk:∀Y' H' U' O',aD K F H' Y' U' O'->aT O H O' H'->DD.bk U'->D.bk Y' H'
 ct:∀Y' H' U' O',aD K F H' Y' U' O'->aT O H O' H'->DD.ct U'->D.ct Y' H'
theorem gf.later{K}(f:gf K F O H D e)(s:aT O H b d):gf K F b d D e:=
 #[λY H U O st a q=>f.nx Y H U O st (s.trans a) q,λv Y H c U O g r a q=>f.rt v Y H c U O g r (s.trans a) q,λY H U O st a q=>f.bk Y H U O st (s.trans a) q,λY H U O st a q=>f.ct Y H U O st (s.trans a) q]
def Bl(K:Frag)(F:Fx)(t:eI):TS:=λD Y H=>∃U O a,aD K F H Y U O/\t a U/\gf K F O H D a
def DS(X:Cx)(F:Fx)(s:Stmt)(t:eI):Prop:=PS X s (Bl X.K F t)
def iy(X:Cx)(F:Fx)(s:List Stmt)(t:eI):Prop:=PSs X s (Bl X.K F t)
def Ol:eI:=λD U=>D.nx U
def Om(t u:eI):eI:=λD U=>t { D with nx:=λa=>u D a } U
theorem Oo:iy X F [] Ol:=Kg.imp λD Y H a=>by obtain⟨U,O,b,st,q,f⟩:=a;exact f.nx Y H U O st .refl q
theorem Op{st:Stmt}(j:DS X F st t)(k:iy X F rest u):iy X F (st::rest) (Om t u):=
 (Kh j k).imp λD Y H a=>by obtain⟨U,O,c,s,q,f⟩:=a;exact#[U,O,_,s,q,#[λl m d g b h i=>#[d,g,c,b,i,f.later h],f.rt,f.bk,f.ct]]
theorem Oq{st:Stmt}(h:DS X F st t):iy X F [st] t:=Ki h
def sK(te:DT)(tg:eF):eI:=λD U=>te U λd a=>tg d a D.nx
theorem Ot{pos:Pos}(h:DE X F e te)(i:DG X F a tg)(j:autoParam (swapsWithSole [a] e pos.line X.env=pure false) Zq._auto_1)(k:autoParam (swappedStores [a] e X.env=pure none) Zq._auto_1)
  (B:autoParam ((assignEach [a] X.env).map (·.2)=[assign a X.env]) Zq._auto_1):DS X F (.Assign [a] e pos) (sK te tg):=
 (vO h.pe i.pg j k B).imp λD Y H b=>by obtain⟨U,O,C,st,q,f⟩:=b;exact#[U,O,st,h.mn _ _ _ (λd l m v E n c o p=>#[l,n,d,c,p,i.mn _ _ _ _ (λr s w y z g A=>f.nx w y r z g (o.trans A) s) m]) q]
theorem Ou{pos:Pos}(h:X.N.Nodup)(j:X.N[i]? = !x)(k:Loc X.env.scope x)(g:DE X F e te)(l:autoParam (swapsWith e (!.Name x a) pos.line X.env=pure false) Zq._auto_1)
  (m:X.fn x=true\/X.env.scope.names.lookup x=!.local:=by first |exact .inl rfl |exact .inr rfl |assumption):DS X F (.Assign [.Name x a] e pos) (sK te (gN i)):=
 (zL h j k g.pe l m).imp λD Y H b=>by obtain⟨U,O,w,st,q,f⟩:=b;exact#[U,O,st,g.mn _ _ _ (λd y n v o p c r s=>f.nx _ o _ p (c.set s) r n) q]
def Ov(te:DT):eI:=λD U=>te U λd a=>D.rt (.dat d) a
theorem Ox(c:DE X F e te):DS X F (.Return (!e) pos) (Ov te):=
 (zH c.pe).imp λD Y H a=>by obtain⟨U,O,m,st,q,f⟩:=a;exact#[U,O,st,c.mn _ _ _ (λd g h v i j b k l=>f.rt v Y i (.dat d) g j [] (NY b l) k h) q]
def Oy(to:ix):eI:=λD U=>to U λc a=>D.rt c a
theorem Oz(b:DO X F e to):DS X F (.Return (!e) pos) (Oy to):=
 (zH b.pe).imp λD Y H a=>by obtain⟨U,O,l,st,q,f⟩:=a;exact#[U,O,st,b.mn _ _ _ (λc d g v h i j r k=>f.rt v Y h c d i j r k g) q]
def OA(i:Nat)(to:ix):eI:=λD U=>to U λc a=>i<a.length/\(∀b,c≠.own true b)/\D.nx (a.set i (!c))
theorem OB{pos:Pos}(j:X.N.Nodup)(k:X.N[i]? = !x)(l:Loc X.env.scope x)(h:DO X F e to)(m:autoParam (swapsWith e (!.Name x a) pos.line X.env=pure false) Zq._auto_1)
  (n:X.fn x=true\/X.env.scope.names.lookup x=!.local:=by first |exact .inl rfl |exact .inr rfl |assumption):DS X F (.Assign [.Name x a] e pos) (OA i to):=
 (zL j k l h.pe m n).imp λD Y H o=>by
 obtain⟨U,O,E,st,q,f⟩:=o;exact#[U,O,st,h.mn _ _ _ (λc G d v p I J r s=>by
  obtain⟨w,y,A⟩:=d;obtain⟨B,g,C⟩:=aD.put1 (io:=true) r.st r.at_ r.new w (λb z=>absurd z (y b));exact f.nx _ p _ B g (s.trans C) A) q]
def OC(to:ix):eI:=λD U=>to U λ_ a=>D.nx a
theorem OD(b:DO X F e to)(d:autoParam (swapsWith e none pos.line X.env=pure false) Zq._auto_1):DS X F (.Expr e pos) (OC to):=
 (vJ b.pe d).imp λD Y H g=>by
 obtain⟨U,O,k,st,q,f⟩:=g;exact#[U,O,st,b.mn _ _ _ (λc l h v m n o r i=>by
  obtain⟨p,a,j⟩:=r.drop;exact f.nx _ _ _ _ a (i.trans j) h) q]
def OE(tc:cN)(t u:eI):eI:=λD U=>tc U λb a=>if b=true then t D a else u D a
theorem OF(g:DB X F c tc)(m:iy X F a t)(o:iy X F b u):DS X F (.If c a b pos) (OE tc t u):=
 (Km g.pt m o).imp λD Y H n=>by
 obtain⟨U,O,h,st,q,f⟩:=n;exact#[U,O,st,g.mn _ _ _ (λb i j p k d l=>by
  cases b with
  |true=>exact fj #[i,k,h,d,lT j,f.later l]
  |false=>exact fi #[i,k,h,d,lU j,f.later l]) q]
set_option genInjectivity true in
inductive wD where
 |rt (c:af) (outs:List Bx) |ex (c:Str) (outs:List Bx) |bad
abbrev FM:=List af->wD
inductive aU (K:Frag) (H:Hp) (O:List Addr):List V->List af->List (List Addr)->Prop where
 |nil:aU K H O [] [] []
 |dat {v:V}{d:PyData}{vs:List V}{cs:List af}{fps:List (List Addr)}:DV (au O H) v d->aU K H O vs cs fps->aU K H O (v::vs) (.dat d::cs) ([]::fps)
 |oth {v:V}{c:af}{vs:List V}{cs:List af}{fps:List (List Addr)}:(∀d,c≠.dat d)->(∀io b,c≠.own io b)->eE K H O v c []->aU K H O vs cs fps->aU K H O (v::vs) (c::cs) ([]::fps)
 |own {a:Addr}{b:Bx}{fp:List Addr}{vs:List V}{cs:List af}{fps:List (List Addr)}:fC (au O H) H a b fp->aU K H O vs cs fps->aU K H O (.ref a::vs) (.own true b::cs) (fp::fps)
inductive bf (H:Hp) (O:List Addr):List V->List af->List Bx->List (List Addr)->Prop where
 |nil:bf H O [] [] [] []
 |skip {v:V}{c:af}{vs:List V}{cs:List af}{bs:List Bx}{fps:List (List Addr)}:(∀io b,c≠.own io b)->bf H O vs cs bs fps->bf H O (v::vs) (c::cs) bs fps
 |own {a:Addr}{io:Bool}{b b':Bx}{fp:List Addr}{vs:List V}{cs:List af}{bs:List Bx}{fps:List (List Addr)}:fC (au O H) H a b' fp->bf H O vs cs bs fps->bf H O (.ref a::vs) (.own io b::cs) (b'::bs) (fp::fps)
structure kj (H H':Hp) (L L' O₀:List Addr):Prop where
 nd:(L'++O₀).Nodup
 live:∀a∈L',∃o,H' a=!o/\Mv o
 keep:∀b o,b∉L->H b=!o->H' b=some o
 new:∀a∈L',a∈L\/H a=none
def gE(K:Frag)(k:Str->Option Value)(f:FM):Sp:=λvs H Q E=>GH k H/\∃(i:List af) (d:List (List Addr)) (h:List Addr),aU K H (d.flatten++h) vs i d/\(d.flatten++h).Nodup/\(∀a∈d.flatten++h,∃o,H a=!o/\Mv o)/\
 match f i with
 |.rt c e=>∀v g j b,eE K g (b.flatten++j++h) v c j->bf g (b.flatten++j++h) vs i e b->kj H g d.flatten (b.flatten++j) h->Q v g
 |.ex c e=>∀C g b,k c=!C->bf g (b.flatten++h) vs i e b->kj H g d.flatten b.flatten h->E C none g
 |.bad=>False
theorem aU.len{K}(h:aU K H O vs c b):vs.length=c.length/\b.length=c.length:=by
 induction h with
 |nil=>exact#[rfl,rfl]
 |dat _ _ a=>exact#[congrArg Nat.succ a.1,congrArg Nat.succ a.2]
 |oth _ _ _ _ a=>exact#[congrArg Nat.succ a.1,congrArg Nat.succ a.2]
 |own _ _ a=>exact#[congrArg Nat.succ a.1,congrArg Nat.succ a.2]
theorem aU.get{K}(h:aU K H O vs d a):∀(i:Nat)  c,d[i]? = !c->∃v f,vs[i]? = !v/\a[i]? = !f/\eE K H O v c f:=by
 induction h with
 |nil=>intro i c e;simp at e
 |dat h _ b=>
  intro i c e;cases i with
  |zero=>simp at e;subst e;exact#[_,_,rfl,rfl,h]
  |succ i=>exact b i c (by simpa using e)
 |oth _ _ h _ b=>
  intro i c e;cases i with
  |zero=>simp at e;subst e;exact#[_,_,rfl,rfl,h]
  |succ i=>exact b i c (by simpa using e)
 |own h _ b=>
  intro i c e;cases i with
  |zero=>simp at e;subst e;exact#[_,_,rfl,rfl,#[_,rfl,h]]
  |succ i=>exact b i c (by simpa using e)
theorem aU.mono{K}(h:aU K H O vs d a)(s:aT O H c H):aU K H c vs d a:=by
 induction h with
 |nil=>exact .nil
 |dat h _ b=>exact .dat (DV.mono s.hid h) b
 |oth h1 h2 h _ b=>exact .oth h1 h2 (h.keep s (λ_ _=>rfl) (λ_ _ _ e=>e)) b
 |own h _ b=>exact .own (h.keep (λ_ _=>rfl) s.hid) b
theorem bf.mono(h:bf H O vs d bs a)(s:aT O H c H):bf H c vs d bs a:=by
 induction h with
 |nil=>exact .nil
 |skip h1 _ b=>exact .skip h1 b
 |own h _ b=>exact .own (h.keep (λ_ _=>rfl) s.hid) b
set_option genInjectivity true in
inductive gY where
 |nx (U:ak) |rt (c:af) (U:ak) |bk (U:ak) |ct (U:ak) |ex (c:Str) (U:ak) |bad
abbrev SM:=ak->gY
def wpS(E:Str->ak->Prop)(m:SM):eI:=λD U=>match m U with
 |.nx a=>D.nx a
 |.rt c a=>D.rt c a
 |.bk a=>D.bk a
 |.ct a=>D.ct a
 |.ex c a=>E c a
 |.bad=>False
@[simp]noncomputable def em:List af->ak->Option (List Bx)
 |[],_=>some []
 |.own _ _::a,some (.own true b)::U=>(em a U).map (b::·)
 |.own _ _::_,_=>none
 |_::a,_::U=>em a U
 |_::_,[]=>none
@[simp] def bu(n N:Nat)(m:SM):FM:=λa=>if a.length=n then(match m (a.map some++List.replicate (N - n) none) with
 |.nx U=>(match em a U with |some o=>.rt (.dat .none) o |none=>.bad)
 |.rt c U=>(match em a U with |some o=>.rt c o |none=>.bad)
 |.ex c U=>(match em a U with |some o=>.ex c o |none=>.bad)
 |_=>.bad) else .bad
theorem wE{α:Type}{l:List α}{x}{r}(h:l.drop k=x::r):l[k]? = !x/\l.drop (k+1)=r:=by
 constructor
 .rw[<-List.head?_drop,h];rfl
 .rw[<-q2Y,h];rfl
theorem wF{K:Frag}(st:cb K F H Y U W):∀l  vs  k  g,vs.length=l.length->(∀(i:Nat) io b,l[i]? = !.own io b->vs[i]? = !.ref (F.I₀ (k+i)))->em l (U.drop k)=!g->
  ∃j,bf H (W.flatten++F.O₀) vs l g j/\j.flatten.Sublist (W.drop k).flatten
 |[],[],k,g,_,_,e=>by cases e;exact#[[],.nil,by simp]
 |[],_::_,_,_,m,_,_=>by cases m
 |_::_,[],_,_,m,_,_=>by cases m
 |c::l,v::vs,k,g,m,hI,e=>by
  have p:=q15 m;have t:∀(i:Nat) io b,l[i]? = !.own io b->vs[i]? = !.ref (F.I₀ (k+1+i)):=λi io b h=>by have:=hI (i+1) io b (by simpa using h);rw[show k+1+i=k+(i+1) by lia];simpa using this
  have y:(W.drop (k+1)).flatten.Sublist (W.drop k).flatten:=by
   cases A:W.drop k with
   |nil=>rw[show W.drop (k+1)=[] from by rw[<-q2Y,A];rfl];exact q12 _
   |cons w r=>rw[(wE A).2,q0n];exact q2v _ _
  cases hd:U.drop k with
  |nil=>
   rw[hd]at e;cases c with
   |own io b=>cases e
   |dat d=>cases e
   |scr n=>cases e
   |exc n=>cases e
   |vw n=>cases e
  |cons x r=>
   obtain⟨I,h2⟩:=wE hd;rw[hd]at e;have f:(∀io b,c≠.own io b)->em l r=!g->∃j,bf H (W.flatten++F.O₀) (v::vs) (c::l) g j/\j.flatten.Sublist (W.drop k).flatten:=λJ L=>by obtain⟨j,o,s⟩:=wF st l vs (k+1) g p t (by rw[h2];exact L);exact#[j,.skip J o,s.trans y]
   cases c with
   |dat d=>exact f (λ_ _ z=>by cases z) e
   |scr n=>exact f (λ_ _ z=>by cases z) e
   |exc n=>exact f (λ_ _ z=>by cases z) e
   |vw n=>exact f (λ_ _ z=>by cases z) e
   |own io b=>
    cases x with
    |none=>cases e
    |some x=>
     cases x with
     |dat d=>cases e
     |scr n=>cases e
     |exc n=>cases e
     |vw n=>cases e
     |own B M=>
      cases B with
      |false=>cases e
      |true=>
       cases q:em l r with
       |none=>simp[em,q]at e
       |some N=>
        simp[em,q]at e;subst e;obtain⟨j,o,s⟩:=wF st l vs (k+1) N p t (by rw[h2];exact q);obtain⟨u,O,Q,C,a,rfl,R⟩:=st.at_ k _ I;have E:=st.io k M I;rw[Q]at E;have S:a=F.I₀ k:=by cases E;rfl
        have D:v=.ref a:=by rw[S];simpa using (hI 0 io b rfl)
        subst D;refine#[O::j,.own R o,?_];cases A:W.drop k with
        |nil=>rw[<-List.head?_drop,A]at C;cases C
        |cons w Z=>obtain⟨G,X⟩:=wE A;rw[C]at G;cases G;rw[q0n,q0n];rw[X]at s;exact q2h (q12 _) s
theorem sL{α:Type}(n):(List.replicate n ([]:List α)).flatten=[]:=by induction n with |zero=>rfl |succ n a=>rw[q1D,q0n,a];rfl
noncomputable def kl(N n:Nat)(a:List af):ak:=a.map some++List.replicate (N - n) none
noncomputable def nK(vs:List V)(i:Nat):Addr:=match vs[i]? with
 |some (.ref a)=>a
 |_=>0
theorem OG{K:Frag}(p:aU K H (g.flatten++n) vs j g)(r:(g.flatten++n).Nodup)(live:∀a∈g.flatten++n,∃o,H a=!o/\Mv o)(t:j.length<=N.length) :
  cb K #[H,g.flatten,n,nK vs] H (start N vs) (kl N.length j.length j) (g++List.replicate (N.length - j.length) []):=by
 have l:(g++List.replicate (N.length - j.length) ([])).flatten=g.flatten:=by rw[q2i,sL,q0G]
 obtain⟨s,l2⟩:=p.len;have get:∀(i:Nat) c,(kl N.length j.length j)[i]? = !!c->j[i]? = !c:=λi c e=>by
  unfold kl at e
  by_cases h:i<j.length
  .rw[q0S (by simpa using h),q0k]at e;obtain⟨d,h1,h2⟩:=q0g.mp e;cases h2;exact h1
  .rw[q0M (by simpa using q1e h),q1C]at e;split at e<;>cases e
 have put:∀(i:Nat) v,vs[i]? = !v->(start N vs)[i]? = !!v:=λi v e=>by unfold start;rw[q0S (by simpa using(q0a.mp e).1),q0k,e];rfl
 refine#[λi c e=>?_,by rw[l];exact r,λ_ _ _ h=>h,λa h=>.inl (by rw[l]at h;exact h),by rw[l];exact live,?_,?_,λi b e=>?_]
 .obtain⟨v,q,h1,h2,h3⟩:=p.get i c (get i c e);exact#[v,q,put i v h1,by rw[q0S (q0a.mp h2).1];exact h2,by rw[l];exact h3]
 .unfold kl start;rw[q0u,q0u,q0b,q0b,q1h,q1h,s]
 .unfold kl;rw[q0u,q0u,q0b,q1h,q1h,l2]
 .obtain⟨v,q,h1,h2,a,rfl,h3⟩:=p.get i _ (get i _ e);rw[put i _ h1];show _=!!V.ref (nK vs i);unfold nK;rw[h1]
theorem aU.ios{K:Frag}(h:aU K H O vs d c):∀(i:Nat) io b,d[i]? = !.own io b->vs[i]? = !.ref (nK vs (0+i)):=λi io b e=>by obtain⟨v,g,h1,_,a,rfl,_⟩:=h.get i _ e;rw[q2r];unfold nK;rw[h1]
theorem wG{K:Frag}{st:Stmt}(Fn:nF K x qual st f fd)(S:cx N ps (dY st))(hN:ps.length<=N.length)
  (a0:∀B  A  u  s  H  E  F  Z,bx k (A.deeper (envOfC qual (dY st) s.heap.objs.size f B))->fJ (im (ej P w) P w K mg base N qual (dY st) f B A u s H E) F Z->
   iy (im (ej P w) P w K mg base N qual (dY st) f B A u s H E) F (ip st) (wpS Z m)):cD P w K mg base (ej P w) (k+1) f fd ps (gE K mg (bu ps.length N.length m)):=by
 obtain⟨oc,od,kV,a4,pm,an,B,ct,a5,rfl,lk,a1⟩:=Fn.ex;have G:∀vs H Q E,gE K mg (bu ps.length N.length m) vs H Q E->vs.length=ps.length:=λvs H Q E L=>by
  obtain⟨_,l,y,O₀,M,_,_,q⟩:=L;rw[M.len.1];unfold bu at q
  by_cases h:l.length=ps.length
  .exact h
  .rw[if_neg h]at q;exact q.elim
 refine Lv lk a1 S G λA u s H vs Q E hr O=>?_;have a6:=G vs H Q E O;obtain⟨gh,l,y,O₀,M,nd,live,q⟩:=O;obtain⟨l1,l2⟩:=M.len;have R:l.length=ps.length:=by lia
 let F:Fx:=#[H,y.flatten,O₀,nK vs]
 have T:=OG (N:=N) M nd live 'b';have fin:∀{X:St}{j:Hp}{n:ak}{J:List Addr}{fp:List Addr}{g:List Bx},aD K (F.plus fp) j X n J->(∀a∈fp,a∈F.A₀\/F.H₀ a=none)->em l n = !g->∃d,bf j (d.flatten++fp++O₀) vs l g d/\kj H j y.flatten (d.flatten++fp) O₀/\aT J j (d.flatten++fp++O₀) j:=by
  rintro X j n J fp g ⟨W,p,rfl⟩ a2 t;obtain⟨d,o,sb⟩:=wF p l vs 0 g l1 (λi io b e=>M.ios i io b e) t;have Y:=sb;have sub:(d.flatten++fp++O₀).Sublist (W.flatten++(fp++O₀)):=by rw[q0x];exact q2h Y (q12 _)
  have D:aT (W.flatten++(fp++O₀)) j (d.flatten++fp++O₀) j:=iY λa h=>sub.subset h;refine#[d,o.mono D,#[p.nd.sublist sub,λa h=>p.live a (sub.subset (bv _ h)),λb o hb e=>p.kept b o hb e,λa h=>?_],D];rcases q0f.mp h with h |h
  .exact p.new a (Y.subset h)
  .exact a2 a h
 have a3:bu ps.length N.length m l=(match m (kl N.length ps.length l) with
  |.nx U=>(match em l U with |some o=>.rt (.dat .none) o |none=>.bad)
  |.rt c U=>(match em l U with |some o=>.rt c o |none=>.bad)
  |.ex c U=>(match em l U with |some o=>.ex c o |none=>.bad)
  |_=>.bad):=by unfold bu kl;rw[if_pos R]
 rw[a3]at q;rw[R]at T;let Z:=λc n=>∃g,em l n = !g/\∀C j d,mg c=!C->bf j (d.flatten++O₀) vs l g d->kj H j y.flatten d.flatten O₀->E C none j;refine#[_,a0 B A u s H E F Z hr (NX (gh.frame λa h=>live a (bv _ h)) λc C n X j J I p ⟨g,t,k⟩=>?_),?_]
 .obtain⟨d,o,b,_⟩:=fin (fp:=[]) p (λa h=>by cases h) t;rw[q0G]at o b;exact k C j d I o b
 .refine#[kl N.length ps.length l,_,⟨λn=>∃g,em l n = !g/\∀j d,bf j (d.flatten++[]++O₀) vs l g d->kj H j y.flatten (d.flatten++[]) O₀->Q .non j,λc n=>∃g,em l n = !g/\∀v j fp d,eE K j (d.flatten++fp++O₀) v c fp->bf j (d.flatten++fp++O₀) vs l g d->kj H j y.flatten (d.flatten++fp) O₀->Q v j,λ_=>False,λ_=>False⟩,#[_,T,rfl],?_,?_]
  .unfold wpS;cases I:m (kl N.length ps.length l) with
   |nx n=>
    rw[I]at q;cases t:em l n with
    |none=>simp[t]at q
    |some g=>simp only[t]at q;exact#[g,t,λj d o b=>q .non j [] d .non o b]
   |rt c n=>
    rw[I]at q;cases t:em l n with
    |none=>simp[t]at q
    |some g=>simp only[t]at q;exact#[g,t,q]
   |ex c n=>
    rw[I]at q;cases t:em l n with
    |none=>simp[t]at q
    |some g=>simp only[t]at q;exact#[g,t,q]
   |bk n=>rw[I]at q;exact q
   |ct n=>rw[I]at q;exact q
   |bad=>rw[I]at q;exact q
  .refine#[λX j n J p s' ⟨g,t,k⟩=>?_,λv X j c n J fp r s' ⟨g,t,k⟩=>?_,λ_ _ _ _ _ _ z=>z.elim,λ_ _ _ _ _ _ z=>z.elim]
   .obtain⟨d,o,b,_⟩:=fin (fp:=[]) p (λa h=>by cases h) t;exact k j d o b
   .obtain⟨d,o,b,D⟩:=fin r.st r.new t;exact k v j fp d (r.at_.keep D (λ_ _=>rfl) (λ_ _ _ e=>e)) o b
inductive AX where
 |d (x:PyData) |s (j:Nat)
inductive du (Y:St) (G:Hp):List V->List AX->Prop where
 |nil:du Y G [] []
 |d {v:V}{x:PyData}{vs:List V}{as:List AX}:DV G v x->du Y G vs as->du Y G (v::vs) (.d x::as)
 |s {v:V}{j:Nat}{vs:List V}{as:List AX}:Y[j]? = !!v->du Y G vs as->du Y G (v::vs) (.s j::as)
abbrev iz:=ak->(List AX->ak->Prop)->Prop
def Bm(t:iz):Prop:=∀U Q a,(∀d b,Q d b->a d b)->t U Q->t U a
def OH(K:Frag)(F:Fx)(t:iz):TA:=λY H Q=>∃U O,aD K F H Y U O/\t U λas c=>∀vs a b,aD K F a Y c b->aT O H b a->du Y (au b a) vs as->Q vs a
structure DX (X:Cx) (F:Fx) (es:List Expr) (t:iz):Prop where
 mn:Bm t
 pa:PA X es (OH X.K F t)
def OI:iz:=λU Q=>Q [] U
def OJ(te:DT)(t:iz):iz:=λU Q=>te U λd a=>t a λas b=>Q (.d d::as) b
def OL(j:Nat)(t:iz):iz:=λU Q=>(∃c,U[j]? = !!c)/\t U λas a=>Q (.s j::as) a
theorem OM:DX X F [] OI:=#[λ_ _ _ k q=>k _ _ q,eB.imp λY H Q a=>by obtain⟨U,O,st,q⟩:=a;exact q [] H O st .refl .nil]
theorem ON(b:DE X F e te)(c:DX X F es tX)(m:autoParam (starEach (e::es) X.env=(false,eval e X.env)::starEach es X.env) Zq._auto_1):DX X F (e::es) (OJ te tX):=
 #[λ_ _ _ k q=>b.mn _ _ _ (λ_ _ f=>c.mn _ _ _ (λ_ _ g=>k _ _ g) f) q,(dJ b.pe c.pa m).imp λY H Q a=>by obtain⟨U,O,st,q⟩:=a;exact 
  #[U,O,st,b.mn _ _ _ (λd n f v y o h r s=>#[n,o,h,c.mn _ _ _ (λas z g vs t u i l w=>g (v::vs) t u i (r.trans l) (.d (DV.mono l.hid s) w)) f]) q]]
theorem OO(i:PE X (.Name x p) (cu j))(d:DX X F es tX)(l:autoParam (starEach (.Name x p::es) X.env=(false,eval (.Name x p) X.env)::starEach es X.env) Zq._auto_1):DX X F (.Name x p::es) (OL j tX):=
 #[λ_ _ _ k a=>by obtain⟨h,q⟩:=a;exact#[h,d.mn _ _ _ (λ_ _ f=>k _ _ f) q],(dJ i d.pa l).imp λY H Q b=>by
  obtain⟨U,O,st,⟨c,m⟩,q⟩:=b;obtain⟨W,h,rfl⟩:=id st;obtain⟨v,u,h1,h2,h3⟩:=h.at_ j c m;exact#[v,h1,U,_,st,d.mn _ _ _ (λas w f vs n o g r t=>f (v::vs) n o g r (.s h1 t)) q]]
@[simp]noncomputable def iA(U:ak):List AX->Option (List af×List (Nat×Bool))
 |[]=>some ([],[])
 |.d x::as=>(match iA U as with |some (e,a)=>!(.dat x::e,a) |none=>none)
 |.s j::as=>(match iA U as with
  |some (e,a)=>(match U[j]? with
   |some (!.own io b)=>if a.any (λp=>p.1==j) then none else some (.own true b::e,(j,io)::a)
   |some (!c)=>some (c::e,a)
   |_=>none)
  |none=>none)
@[simp]noncomputable def gF:List (Nat×Bool)->ak->ak
 |[],U=>U
 |(j,_)::r,U=>(gF r U).set j none
@[simp]noncomputable def dN:List (Nat×Bool)->List Bx->ak->ak
 |(j,io)::r,b::bs,U=>dN r bs (U.set j (!.own io b))
 |_,_,U=>U
theorem Bn:(gF a U).length=U.length:=by
 induction a with
 |nil=>rfl
 |cons p r b=>obtain⟨j,io⟩:=p;rw[gF,q0C,b]
theorem OP(h:∀p∈a,p.1≠i):(gF a U)[i]? = U[i]?:=by
 induction a with
 |nil=>rfl
 |cons p r b=>obtain⟨j,io⟩:=p;rw[gF,q0v (h (j,io) q0h),b λq c=>h q (bH _ c)]
inductive fk (Y:St) (F:Fx) (n:Nat):List V->List af->List (Nat×Bool)->Prop where
 |nil:fk Y F n [] [] []
 |skip {v:V}{c:af}{vs:List V}{cs:List af}{js:List (Nat×Bool)}:(∀io b,c≠.own io b)->fk Y F n vs cs js->fk Y F n (v::vs) (c::cs) js
 |own {a:Addr}{io:Bool}{b:Bx}{j:Nat}{vs:List V}{cs:List af}{js:List (Nat×Bool)}:Y[j]? = !!.ref a->(io=true->a=F.I₀ j)->j<n->fk Y F n vs cs js->fk Y F n (.ref a::vs) (.own true b::cs) ((j,io)::js)
section
variable{K:Frag}{F:Fx}{H H':Hp}{Y:St}{U:ak}{O O':List Addr}
theorem wH(st:aD K F H Y U O):∀as  vs  r  t,iA U as=!(r,t)->du Y (au O H) vs as->
  ∃f O',aD K (F.plus f.flatten) H Y (gF t U) O'/\aU K H O' vs r f/\aT O H O' H/\aT O' H O H/\(∀a∈f.flatten,a∈F.A₀\/F.H₀ a=none)/\fk Y F U.length vs r t
 |[],vs,r,t,e,h=>by cases e;cases h;refine#[[],O,st,.nil,.refl,.refl,?_,.nil];intro a h;cases h
 |.d x::as,vs,r,t,e,h=>by
  cases h with
  |d w E=>
   unfold iA at e;cases q:iA U as with
   |none=>rw[q]at e;cases e
   |some p=>obtain⟨k,g⟩:=p;rw[q]at e;simp only[q08,Prod.mk.injEq]at e;obtain⟨T,X⟩:=e;obtain⟨f,O',l,o,m,A,B,C⟩:=wH st as _ k g q E;subst T X;exact#[[]::f,O',l,.dat (DV.mono m.hid w) o,m,A,B,.skip (λ_ _ z=>by cases z) C]
 |.s j::as,vs,r,t,e,h=>by
  cases h with
  | @s v _ vs _ w E=>
   unfold iA at e;cases q:iA U as with
   |none=>rw[q]at e;cases e
   |some p=>
    obtain⟨k,g⟩:=p;rw[q]at e;obtain⟨f,O',l,o,m,A,B,C⟩:=wH st as _ k g q E;cases u:U[j]? with
    |none=>rw[u]at e;cases e
    |some Z=>
     cases Z with
     |none=>rw[u]at e;cases e
     |some c=>
      rw[u]at e;obtain⟨W,G,I⟩:=id st;obtain⟨D,a0,h1,h2,h3⟩:=G.at_ j c u;rw[w]at h1;have J:D = v:=by cases h1;rfl
      subst J;rw[<-I]at h3;have other:(∀io b,c≠.own io b)->∃f O',aD K (F.plus f.flatten) H Y (gF g U) O'/\aU K H O' (D::vs) (c::k) f/\aT O H O' H/\aT O' H O H/\(∀a∈f.flatten,a∈F.A₀\/F.H₀ a=none)/\fk Y F U.length (D::vs) (c::k) g:=λN=>by
       refine#[[]::f,O',l,?_,m,A,B,.skip N C];cases c with
       |dat d=>exact .dat (DV.mono m.hid h3) o
       |own io b=>exact absurd rfl (N io b)
       |scr ns=>exact .oth (λ_ z=>by cases z) (λ_ _ z=>by cases z) (eE.keep (c:=.scr ns) (fp:=[]) h3 m (λ_ _=>rfl) (λ_ _ _ e=>e)) o
       |exc n=>exact .oth (λ_ z=>by cases z) (λ_ _ z=>by cases z) (eE.keep (c:=.exc n) (fp:=[]) h3 m (λ_ _=>rfl) (λ_ _ _ e=>e)) o
       |vw n=>exact .oth (λ_ z=>by cases z) (λ_ _ z=>by cases z) (eE.keep (c:=.vw n) (fp:=[]) h3 m (λ_ _=>rfl) (λ_ _ _ e=>e)) o
      cases c with
      |dat d=>simp only[q08,Prod.mk.injEq]at e;rw[<-e.1,<-e.2];exact other (λ_ _ z=>by cases z)
      |scr ns=>simp only[q08,Prod.mk.injEq]at e;rw[<-e.1,<-e.2];exact other (λ_ _ z=>by cases z)
      |exc n=>simp only[q08,Prod.mk.injEq]at e;rw[<-e.1,<-e.2];exact other (λ_ _ z=>by cases z)
      |vw n=>simp only[q08,Prod.mk.injEq]at e;rw[<-e.1,<-e.2];exact other (λ_ _ z=>by cases z)
      |own io b=>
       by_cases L:g.any (λp=>p.1==j)=true
       .simp only[if_pos L]at e;cases e
       .simp only[if_neg L,q08,Prod.mk.injEq]at e;rw[<-e.1,<-e.2];obtain⟨a,fp,O2,Q,R,t3,S,t5,t6,t7⟩:=l.take (i:=j) (io:=io) (b:=b) (by rw[OP (λp hp z=>L (List.any_eq_true.mpr #[p,hp,by simp[z]]))];exact u);rw[w]at Q;have J:D = .ref a:=by cases Q;rfl
        subst J;rw[Fx.plus_plus]at R;refine#[fp::f,O2,R,.own t3 (o.mono S),m.trans S,t5.trans A,λx y=>?_,.own w t7 (q0a.mp u).1 C];rcases q0f.mp y with y |y
        .exact t6 x y
        .exact B x y
theorem Bo(t:fk Y F n vs m o):∀{d e U O},U.length=n->aD K (F.plus (e.flatten++fp)) H Y U O->bf H O vs m d e->(∀a∈e.flatten,a∈F.A₀\/F.H₀ a=none)->
  ∃O',aD K (F.plus fp) H Y (dN o d U) O'/\aT O H O' H:=by
 induction t with
 |nil=>intro d e U O h st f k;cases f;exact#[O,st,.refl]
 |skip g _ p=>
  intro d e U O h st f k;cases f with
  |skip _ f=>exact p h st f k
  |own _ _=>exact absurd rfl (g _ _)
 | @own a io b j vs m o h1 h2 h3 t p=>
  intro d e U O h st f k;cases f with
  |skip g _=>exact absurd rfl (g _ _)
  | @own _ _ _ y f1 _ _ bs A hb f=>
   have q:aD K ((F.plus (A.flatten++fp)).plus f1) H Y U O:=by rw[Fx.plus_plus,<-q0x];exact st
   obtain⟨E,l,u⟩:=aD.put1 (io:=true) (c:=.own io y) q #[a,rfl,hb] (λx r=>k x (by rw[q0n];exact bv _ r)) (by rw[h];exact h3) (λb z=>by cases z;rw[h2 rfl];rfl);have B:Y.set j (!.ref a)=Y:=by
    apply q00;intro i
    by_cases w:i=j
    .subst w;rw[q0w (q0a.mp h1).1,h1]
    .rw[q0v (Ne.symm w)]
   rw[B]at l;obtain⟨C,s,D⟩:=p (by rw[q0C];exact h) l (f.mono u) (λx r=>k x (by rw[q0n];exact bq _ r));exact#[C,s,u.trans D]
end
def iZ(f:FM)(E:Str->ak->Prop)(Q:af->ak->Prop)(as:List AX)(U:ak):Prop:=match iA U as with
 |some (d,b)=>(match f d with
  |.rt c a=>Q c (dN b a (gF b U))
  |.ex c a=>E c (dN b a (gF b U))
  |.bad=>False)
 |none=>False
def Bp(f:FM)(E:Str->ak->Prop)(t:iz):ix:=λU Q=>t U λas a=>iZ f E Q as a
theorem OQ(h:∀c d,Q c d->b c d)(q:iZ f E Q as U):iZ f E b as U:=by
 unfold iZ at q ⊢;split
 .rename_i i j e;rw[e]at q;simp only at q;split
  .rename_i a;rw[a]at q;exact h _ _ q
  .rename_i a;rw[a]at q;exact q
  .rename_i a;rw[a]at q;exact q
 .rename_i e;rw[e]at q;exact q
theorem wI{Y:St}(hx:fJ X F E)(G:cD X.prog X.w X.K X.mg X.base (ej X.prog X.w) k g fd ps (gE X.K X.mg f))(hr:bx k X.A)(hb:jw X.K fd ps [])
  (I:Inv X m Y H s) (r:bj vs us) (st:aD X.K F H Y U O) (ax:du Y (au O H) vs as) (q:iZ f E QC as U) (hQ:∀c L,QC c L->∀v b S M,iX X.K F b Y L S v c M->aT O H S b->Q v b) :
  wpAny (model X.prog X.w) X.A (call (.ref g) us) (EP X m Y Q) X.xe s:=by
 unfold iZ at q;cases hc:iA U as with
 |none=>rw[hc]at q;exact q.elim
 |some p=>
  obtain⟨cs,js⟩:=p;rw[hc]at q;simp only at q;obtain⟨i,O2,T,ar,s1,a6,nw,ja⟩:=wH st as vs cs js hc ax;obtain⟨W,y,Z⟩:=id T;have a2:(W.flatten++(i.flatten++F.O₀)).Nodup:=y.nd;have l:∀a,a∈O2↔a∈i.flatten++(W.flatten++F.O₀):=λa=>by
   rw[Z];show a∈W.flatten++(i.flatten++F.O₀)↔_;simp only[q0f];constructor
   .rintro(h |h |h)<;>simp[h]
   .rintro(h |h |h)<;>simp[h]
  have perm:(i.flatten++(W.flatten++F.O₀)).Perm (W.flatten++(i.flatten++F.O₀)):=by rw[<-q0x,<-q0x];exact List.Perm.append_right _ List.perm_append_comm
  have a0:(i.flatten++(W.flatten++F.O₀)).Nodup:=perm.nodup_iff.mpr a2;have a3:aT O2 H (i.flatten++(W.flatten++F.O₀)) H:=iY λa h=>(l a).mpr h;have N:∀(b:Hp) (n:List Addr) (a:Addr),(a∈n++(W.flatten++F.O₀))->a∈n\/(a∈O2/\a∉i.flatten):=λb n a h=>by
   rcases q0f.mp h with h |h
   .exact .inl h
   .refine .inr #[(l a).mpr (bq _ h),λz=>?_];exact(q0j.mp a0).2.2 a z a h rfl
  have j:∀(b:Hp) (n:List Addr),kj H b i.flatten n (W.flatten++F.O₀)->∃B,aD X.K (F.plus n) b Y (gF js U) B/\aT O2 H B b/\∀a,a∈B↔a∈n++(W.flatten++F.O₀):=λb n t=>by
   obtain⟨B,t1,t2,t3,t4,t5⟩:=T.swap (H':=b) (L':=n) t.keep (q0j.mp t.nd).1 t.new nw t.live;refine#[B,t1,t2,λa=>#[λh=>?_,λh=>?_]]
   .rcases t4 a h with z |⟨z1,z2⟩
    .exact bv _ z
    .rcases q0f.mp ((l a).mp z1) with z |z
     .exact absurd z z2
     .exact bq _ z
   .rcases N b n a h with z |⟨z1,z2⟩
    .exact t3 a z
    .exact t5 a z1 z2
  have r2:bj (vs++[]) (us++[]):=by rw[q0G,q0G];exact r
  let EX:XK:=λC _ b=>∃c L S,X.mg c=!C/\aD X.K F b Y L S/\E c L;have sp:gE X.K X.mg f vs H Q EX:=by
   refine#[hx.1.at st,cs,i,W.flatten++F.O₀,ar.mono a3,a0,λa h=>?_,?_]
   .exact y.live a (by have:=(l a).mpr h;rw[Z]at this;exact this)
   .cases hf:f cs with
    |bad=>rw[hf]at q;exact q
    |rt c a1=>
     rw[hf]at q;simp only at q ⊢;intro v b M d a4 R t;obtain⟨B,t1,t2,t3⟩:=j b (d.flatten++M) t;have D:aT (d.flatten++M++(W.flatten++F.O₀)) b B b:=iY λa h=>(t3 a).mp h;have J:∀a∈d.flatten++M,a∈F.A₀\/F.H₀ a=none:=λa h=>by
      rcases t.new a h with z |z
      .exact nw a z
      .by_cases hA:a∈F.A₀
       .exact .inl hA
       .refine .inr ?_;cases e:F.H₀ a with
        |none=>rfl
        |some o=>have:=y.kept a o hA e;rw[z]at this;cases this
     have lj:(gF js U).length=U.length:=Bn;obtain⟨O4,u1,u2⟩:=Bo (fp:=M) ja lj t1 (R.mono D) λa h=>J a (bv _ h);exact hQ c _ q v b O4 M #[u1,a4.keep (D.trans u2) (λ_ _=>rfl) (λ_ _ _ e=>e),λa h=>J a (bq _ h)] (s1.trans (t2.trans u2))
    |ex c a1=>
     rw[hf]at q;simp only at q ⊢;intro C b d hm R t;obtain⟨B,t1,t2,t3⟩:=j b d.flatten t;have D:aT (d.flatten++(W.flatten++F.O₀)) b B b:=iY λa h=>(t3 a).mp h;have J:∀a∈d.flatten,a∈F.A₀\/F.H₀ a=none:=λa h=>by
      rcases t.new a h with z |z
      .exact nw a z
      .by_cases hA:a∈F.A₀
       .exact .inl hA
       .refine .inr ?_;cases e:F.H₀ a with
        |none=>rfl
        |some o=>have:=y.kept a o hA e;rw[z]at this;cases this
     have lj:(gF js U).length=U.length:=Bn;obtain⟨O4,u1,u2⟩:=Bo (fp:=[]) ja lj (by rw[q0G];exact t1) (R.mono D) J;exact#[c,_,O4,hm,u1,q]
  have hl:(us++[]).length=ps.length:=by rw[q0G,<-r.length];exact G.len _ _ _ _ sp
  refine wpAny_call (codeAny_mono (G.run X.A X.stack s H #[us,[]] us vs Q EX hr I.env0 (by have:=hb s us I.kIn hl;rw[q0G]at this;exact this) r sp) λr s' hq=>?_);cases r with
  |error e=>obtain⟨a,C,b,e1,I',cv,ex,c,L,S,hm,a5,hE⟩:=I.flies hq;exact hx.2 m Y b s' e c L S #[I',a,C,s.heap,_,e1,cv,ex,hm] a5 hE
  |ok fl=>
   cases fl with
   |ret u=>exact I.after hq
   |next=>exact False.elim hq
   |brk=>exact False.elim hq
   |cont=>exact False.elim hq
theorem OR{pos:Pos}{p:Pos}(M:fJ X F E)(G:cD X.prog X.w X.K X.mg X.base (ej X.prog X.w) k g fd ps (gE X.K X.mg f))(N:bx k X.A)(R:Gl X x)(S:X.mg x=!.ref g)(T:keepIn X.K (.ref g)=true)(hb:jw X.K fd ps [])
  (t:DX X F (e::es) tX) (u:autoParam ((x==("__debug__":Str))=false) Zr._auto_1) (Z:autoParam (starEach (e::es) X.env=(false,eval e X.env)::starEach es X.env) Zq._auto_1) (y:autoParam ((backTo pos (starEach es X.env)).any (·.1)=false) Zq._auto_1) :
  DO X F (.Call (.Name x p) (e::es) [] pos) (Bp f E tX):=by
 refine#[λU Q Q' k q=>t.mn _ _ _ (λas b i=>OQ k i) q,λj s Y H Q I l=>?_];obtain⟨U,O,st,q⟩:=l;refine wpAny_Call_Name_kw (pp I R S ?_ u);refine q2s I.ok.mod.kin T (aR (t.pa pos j s Y H (λvs m=>∃as b d,aD X.K F m Y b d/\aT O H d m/\du Y (au d m) vs as/\iZ f E (λc D=>∀v n o z,iX X.K F n Y D o v c z->aT O H o n->Q v n) as b) I #[U,O,st,t.mn _ _ _ (λas b i vs m d a J B=>#[as,b,d,a,J,B,i]) q]) λus J L=>#[by obtain⟨_,_,I1,_⟩:=L;exact I1.kIn,?_]) Z y;obtain⟨vs,m,I1,r,as,b,d,a,C,B,i⟩:=L;exact wI M G N hb I1 r a B i λc D h v n o z res s2=>h v n o z res (C.trans s2)
def kO(H:Hp)(O:List Addr):Prop:=∀a∈O,∃o,H a=!o/\Mv o
theorem kO.nofree(h:kO H O):∀p,H p=none->p∉O:=λp a z=>by obtain⟨o,e,_⟩:=h p z;rw[a]at e;cases e
theorem aD.live{K}(st:aD K F H Y U O):kO H O:=by obtain⟨W,h,rfl⟩:=st;exact h.live
abbrev ec:=ak->(List PyData->ak->Prop)->Prop
def Wk(O:List Addr)(H:Hp)(J:It)(c:List PyData):Prop:=∀e b,aT O H e b->kO b e->
 (∀i d,c[i]? = !d->J.go i b/\∀x a,J.yld i b x a->bI b a/\DV (au e a) x d)/\J.stop c.length b
def pO(K:Frag)(F:Fx)(s:ec):TI:=λY H R=>∃U O,aD K F H Y U O/\s U λb d=>∀J a c,aD K F a Y d c->aT O H c a->Wk c a J b->R J a
structure DI (X:Cx) (F:Fx) (tg iter:Expr) (s:ec):Prop where
 mn:∀U Q Q',(∀d U',Q d U'->Q' d U')->s U Q->s U Q'
 pi:PI X tg iter (pO X.K F s)
theorem _root_.L2.PI.imp(h:PI X b e t)(k:∀Y H Q,t' Y H Q->t Y H Q):PI X b e t':=λa s Y H Q I q=>h a s Y H Q I (k Y H Q q)
def iL(te:DT):ec:=λU Q=>te U λd f=>∃c,d=.list c/\Q c f
def iT(te:DT):ec:=λU Q=>te U λd f=>∃c,d=.tuple c/\Q c f
theorem OS{K}(l:au O H a=!.lst c)(hd:aH (au O H) c k):Wk O H (vP K a) k:=λu w s ok=>by obtain⟨t,m⟩:=cR l;have h2:=s.keep a _ m t;refine#[λi d e=>?_,#[c,.of h2,by rw[hd.length];exact aP _]];obtain⟨v,j,n⟩:=(aH.mono s.hid hd).get e;refine#[#[c,v,.of h2,j],λx o f=>?_];obtain⟨q,r⟩:=f;subst q;have:=r c (.of h2);rw[j]at this;cases this;exact#[λ_ _ h=>h,n]
theorem OT{K}(n:Rd (au O H) a (.tup c))(hd:aH (au O H) c m):Wk O H (rS K a) m:=λz q s ok=>by
 obtain⟨y,k⟩:=gc n;have h2:Rd q a (.tup c):=y.imp (λe=>s.keep a _ k e) λf=>by obtain⟨o,e⟩:=f;exact#[o,s.keep a _ k e]
 refine#[λi d e=>?_,#[c,.inl h2,by rw[hd.length];exact aP _]];obtain⟨v,l,r⟩:=(aH.mono s.hid hd).get e;refine#[#[c,v,.inl h2,l],λx t g=>?_];obtain⟨u,w⟩:=g;subst u;have:=w c (.inl h2);rw[l]at this;cases this;exact#[λ_ _ h=>h,r]
theorem OU(h:DE X F e te):DI X F tg e (iL te):=
 #[λ_ _ _ k q=>h.mn _ _ _ (λ_ _ c=>by obtain⟨l,e,q⟩:=c;exact#[l,e,k _ _ q]) q,(Ky h.pe).imp λY H R f=>by obtain⟨U,O,st,q⟩:=f;exact 
  #[U,O,st,h.mn _ _ _ (λd u g v m n i o r=>by
   obtain⟨l,e,s⟩:=g;subst e;obtain⟨a,t,rfl,j,hd⟩:=r.lst_inv;exact#[a,rfl,#[t,.of (cR j).1],s _ m n i o (OS j hd)]) q]]
theorem OV(h:DE X F e te):DI X F tg e (iT te):=
 #[λ_ _ _ k q=>h.mn _ _ _ (λ_ _ c=>by obtain⟨l,e,q⟩:=c;exact#[l,e,k _ _ q]) q,(zN h.pe).imp λY H R f=>by obtain⟨U,O,st,q⟩:=f;exact 
  #[U,O,st,h.mn _ _ _ (λd u g v m n i o r=>by
   obtain⟨l,e,s⟩:=g;subst e;obtain⟨a,t,rfl,j,hd⟩:=r.tup_inv;exact#[a,rfl,#[t,.inl (gc j).1],s _ m n i o (OT j hd)]) q]]
noncomputable def intsFrom(lo:Int)(n:Nat):List PyData:=(List.range n).map λ(i:Nat)=>PyData.int (lo+i)
theorem sM(lo n):(intsFrom lo n).length=n:=by unfold intsFrom;rw[q0b,q1L]
theorem OW{lo}:Wk O H (rT lo n) (intsFrom lo n):=λr t s ok=>by refine#[λi d e=>?_,by rw[sM];exact aP _];unfold intsFrom at e;rw[q0k]at e;obtain⟨j,k,l⟩:=q0g.mp e;obtain⟨c,g⟩:=q0a.mp k;rw[q1L]at c;rw[List.getElem_range]at g;subst g l;exact#[c,λx m f=>by obtain⟨o,q⟩:=f;subst o q;exact#[λ_ _ h=>h,.int _]]
def Bq(t:dB):ec:=λU Q=>t U λd c=>∃j:Int,d=[.int j]/\-(2 ^ 62)<=j/\j<2 ^ 62/\Q (intsFrom 0 j.toNat) c
theorem nL(l:Gl X "range")(m:X.mg "range" = none)(h:DA X F [a] tA)(n:autoParam (starEach [a] X.env=[(false,eval a X.env)]) Zq._auto_1):DI X F tg (.Call (.Name "range" p) [a] [] pos) (Bq tA):=
 #[λ_ _ _ k q=>h.mn _ _ _ (λ_ _ c=>by obtain⟨j,e,h1,h2,q⟩:=c;exact#[j,e,h1,h2,k _ _ q]) q,(KB l m h.pa n).imp λY H R f=>by obtain⟨U,O,st,q⟩:=f;exact 
  #[U,O,st,h.mn _ _ _ (λx w g vs o s i t u=>by
   obtain⟨j,e,h1,h2,v⟩:=g;subst e;cases u with
   |cons d r=>
    cases r;obtain rfl:=d.int_inv;exact#[j,rfl,h1,h2,v _ o s i t OW]) q]]
noncomputable def numbered(c:List PyData):List PyData:=c.mapIdx λi d=>PyData.tuple [.int i,d]
def iE(t:dB):ec:=λU Q=>t U λf d=>∃c,f=[.list c]/\Q (numbered c) d
theorem OX(E:Gl X "enumerate")(G:X.mg "enumerate" = none)(t:DA X F [a] tA)(I:autoParam (starEach [a] X.env=[(false,eval a X.env)]) Zq._auto_1):DI X F (.Tuple c D f) (.Call (.Name "enumerate" p) [a] [] pos) (iE tA):=
 #[λ_ _ _ k q=>t.mn _ _ _ (λ_ _ g=>by obtain⟨j,e,q⟩:=g;exact#[j,e,k _ _ q]) q,(Nc E G t.pa I).imp λY H R h=>by obtain⟨U,O,st,q⟩:=h;exact 
  #[U,O,st,t.mn _ _ _ (λds U1 l vs J L u M N=>by
   obtain⟨es,e,w⟩:=l;subst e;cases N with
   |cons d r=>
    cases r;obtain⟨a,o,rfl,Q,hd⟩:=d.lst_inv;obtain⟨m,z⟩:=cR Q;refine#[a,o,rfl,.of m,w _ J L u M λO' H' s ok=>?_];have h2:=s.keep a _ z m;refine#[λi d e=>?_,#[o,.of h2,by unfold numbered;rw[List.length_mapIdx,hd.length];exact aP _]];unfold numbered at e;rw[List.getElem?_mapIdx]at e;obtain⟨d0,S,Z⟩:=q0g.mp e;subst Z;obtain⟨v,C,dv⟩:=(aH.mono s.hid hd).get S;refine#[#[o,v,.of h2,C],λx a0 n=>?_];obtain⟨T,y,w,B,q3,q4⟩:=n;subst w q3;have:=q4 o (.of h2);rw[C]at this;cases this;exact#[bA B,nJ B (ok.nofree T B) (.cons (.int _) (.cons dv .nil))]) q]]
def OY(s:ec)(g:eF)(f:eI):eI:=λD U=>s U λa c=>∃b:Nat->ak->Prop,b 0 c/\(∀i d U,a[i]? = !d->b i U->g d U λe=>f { D with nx:=b (i+1),ct:=b (i+1),bk:=D.nx } e)/\∀U,b a.length U->D.nx U
theorem OZ(hp:PassesOwn (model X.prog X.w) X.A X.env X.xe)(hc:X.calm=true)(hi:DI X F tg iter s)(hg:DG X F tg g)(hb:iy X F body tb)(hs:autoParam (∀x,foldedSetIterable iter X.env x=pure x) Zs._auto_1):DS X F (.For tg iter body [] pos) (OY s g tb):=
 (KE hp hc hi.pi hg.pg hb hs).imp λD Y H y=>by
  obtain⟨U,O,DD,st,q,f⟩:=y;refine#[U,O,st,hi.mn _ _ _ (λa U1 z J N B R S wk=>?_) q];obtain⟨Q,i0,step,fin⟩:=z;refine⟨λi m T C=>∃l u,aD X.K F C T l u/\aT B N u C/\Q i l/\i<=a.length/\m=a.length - i,#[a.length,U1,B,R,.refl,i0,q0L _,rfl],?_⟩;rintro i m T C ⟨l,u,n,Z,iv,a4,rfl⟩;obtain⟨w1,w2⟩:=wk u C Z n.live
  by_cases o:i<a.length
  .obtain⟨go,yld⟩:=w1 i a[i] (q0c o);refine .inr ⟨go,λY2 E=>∃c p,aD X.K F E Y2 c p/\aT B N p E/\Q (i+1) c,λY2 E G=>by obtain⟨c,p,a0,s2,a1⟩:=G;exact#[a.length - (i+1),by lia,c,p,a0,s2,a1,o,rfl],λx E hy=>?_⟩;obtain⟨sm,dv⟩:=yld x E hy;refine#[l,u,a[i],n.grow sm,dv,hg.mn _ _ _ _ (λc q2 Y3 H3 O3 a2 s3=>?_) (step i a[i] l (q0c o) iv)];have r:=Z.trans ((aT.same sm).trans s3);have I:∀t h j k,aD X.K F h t j k->aT O3 H3 k h->Q (i+1) j->∃c p,aD X.K F h t c p/\aT B N p h/\Q (i+1) c:=λt h j k b L M=>#[j,k,b,r.trans L,M]
   exact#[c,O3,_,a2,q2,#[I,λv t h d j k a3 b L M=>f.rt v t h d j k a3 b (S.trans (r.trans L)) M,λt h j k b L M=>f.nx t h j k b (S.trans (r.trans L)) M,I]]
  .have e:i=a.length:=by lia
   subst e;exact .inl #[w2,f.nx T C l u n (S.trans Z) (fin l iv)]
@[simp]noncomputable def pP:Option (Option af)->Option af
 |some (!.dat d)=>some (.dat d)
 |some (!.scr ns)=>some (.scr ns)
 |some (!.vw b)=>some (.vw b)
 |_=>none
def fm(own:List Str)(a:List Nat)(U:ak):ak:=own.map (λ_=>none)++a.map λj=>pP U[j]?
def pQ(own:List Str)(f:List Nat)(s:ec)(g:eF)(l:cN)(m:DT):DT:=λU Q=>s U λc j=>∃e:Nat->List PyData->ak->Prop,e 0 [] (fm own f j)/\
 (∀i d a h,c[i]? = !d->e i a h->g d h λn=>l n λb k=>if b=true then m k λy o=>a.length<sizeLine/\e (i+1) (a++[y]) o else e (i+1) a k)/\
 ∀a h,e c.length a h->a.length<=sizeLine/\Q (.list a) j
def km(s:ec):Prop:=∀U Q a,(∀d b,Q d b->a d b)->s U Q->s U a
theorem wJ(d:km s):Mn (pQ own caps s g tc te):=λ_ _ _ k q=>d _ _ _ (λ_ _ a=>by obtain⟨e,f,h1,h2⟩:=a;exact#[e,f,h1,λb c h=>#[(h2 b c h).1,k _ _ (h2 b c h).2]]) q
theorem wK{P:af->V->Prop}(b:∀j∈caps,∀c,f j=!c->∃v,Y[j]? = !!v/\P c v){i:Nat}(e:(own.map (λ_=>none)++caps.map f)[i]? = !!c):∃v,(ga own caps Y)[i]? = !!v/\P c v:=by
 unfold ga
 by_cases a:i<own.length
 .rw[q0S (by simpa using a),q0k]at e;cases h:own[i]? with
  |none=>rw[h]at e;cases e
  |some y=>rw[h]at e;cases e
 .rw[q0M (by simpa using q1e a),q0b,q0k]at e;rw[q0M (by simpa using q1e a),q0b,q0k];obtain⟨j,h1,h2⟩:=q0g.mp e;obtain⟨v,d,k⟩:=b j (q0A h1) c h2;rw[h1];exact#[v,by show some ((Y[j]?).getD none)=_;rw[d];rfl,k]
abbrev sN(K:Frag)(H:Hp)(O:List Addr)(c:af)(v:V):Prop:=(∀io b,c≠.own io b)/\eE K H O v c []
theorem Br{K:Frag}(f:aD K F l Y e m)(j:Nat)(c)(a:pP e[j]? = !c):∃v,Y[j]? = !!v/\sN K l m c v:=by
 obtain⟨W,h,rfl⟩:=id f;cases h3:e[j]? with
 |none=>rw[h3]at a;cases a
 |some o=>
  cases o with
  |none=>rw[h3]at a;cases a
  |some n=>
   rw[h3]at a;obtain⟨v,p,i,_,k⟩:=h.at_ j n h3;cases n with
   |dat d=>cases a;exact#[v,i,(λ_ _ z=>by cases z),k]
   |scr ns=>cases a;exact#[v,i,(λ_ _ z=>by cases z),k]
   |own _ _=>cases a
   |exc _=>cases a
   |vw b=>cases a;exact#[v,i,(λ_ _ z=>by cases z),k]
theorem Bs{K:Frag}(l:∀j∈caps,∀c,f j=!c->∃v,Y[j]? = !!v/\sN K d L c v)(q:L.Nodup)(m:kO d L):aD K #[d,[],L,λ_=>0] d (ga own caps Y) (own.map (λ_=>none)++caps.map f) L:=by
 have k:(List.replicate (own.map (λ_=>none)++caps.map f).length ([])).flatten++L=L:=by rw[sL];rfl
 refine#[List.replicate (own.map (λ_=>none)++caps.map f).length [],#[λi c e=>?_,by rw[k];exact q,λ_ _ _ h=>h,λa h=>?_,by rw[k];exact m,by unfold ga;simp,by simp,λi b e=>?_],k.symm]
 .obtain⟨v,o,_,p⟩:=wK l e;refine#[v,[],o,?_,by rw[k];exact p];rw[q1C,if_pos (q0a.mp e).1]
 .rw[sL]at h;cases h
 .obtain⟨_,_,n,_⟩:=wK l e;exact absurd rfl (n true b)
abbrev pR(K:Frag)(f:Fx)(a:List PyData)(h:Nat->List PyData->ak->Prop):Nat->Nat->List V->St->Hp->Prop:=λi m j k b=>∃c d e,aD K f b k c d/\h i e c/\aH (au d b) j e/\i<=a.length/\m=a.length - i
theorem wL{K:Frag}{r:Fx->Prop}(w:r h)(R:∀d U Q L,(∀c,Q c->L c)->g d U Q->g d U L)(S:iu tc)(T:Mn te)
  (step:∀i d e c,a[i]? = !d->k i e c->g d c λz=>tc z λb m=>if b=true then te m λy A=>e.length<sizeLine/\k (i+1) (e++[y]) A else k (i+1) e m)
  (j) (C:aD K h B M c t) (X:k i l c) (Y:aH (au t B) e l) (o:bI B n) (Z:DV (au t n) x a[i]) :
  ∃f,r f/\kM K f g x M n λu n=>∃f,r f/\iW K f tc u n λb D=>if b=true then ∃f,r f/\fE K f te u D λy E=>e.length<sizeLine/\∃p,p<a.length - i/\pR K h a k (i+1) p (e++[y]) u E else ∃p,p<a.length - i/\pR K h a k (i+1) p e u D:=by
 refine#[h,w,c,t,a[i],C.grow o,Z,R _ _ _ _ (λz q2 Y3 D O3 G s3=>?_) (step i a[i] l c (q0c j) X)];refine#[h,w,z,O3,G,S _ _ _ (λb m N E H q s4=>?_) q2];have I:=aH.mono s4.hid (aH.mono s3.hid (aH.mono (lS o) Y));cases b with
 |false=>exact fi #[a.length - (i+1),by lia,m,H,l,q,lU N,I,j,rfl]
 |true=>refine fj #[h,w,m,H,q,T _ _ _ (λy A O v H5 O5 J s5 dy=>?_) (lT N)];exact#[by rw[I.length];exact O.1,a.length - (i+1),by lia,A,O5,l++[y],J,O.2,(aH.mono s5.hid I).append (.cons dy .nil),j,rfl]
theorem Bt{K:Frag}{M:Fx->Prop}(hP:∀A Y B C O2,aD K F A Y B C->M #[A,[],O2,λ_=>0])(hs:km s)(hg:∀d U Q Q',(∀r,Q r->Q' r)->g d U Q->g d U Q')(ht:iu tc)(he:Mn te):∀Y  H  Q,(∃U O,aD K F H Y U O/\s U λf B=>∃u:Nat->List PyData->ak->Prop,u 0 [] (fm own caps B)/\
   (∀i d l r,f[i]? = !d->u i l r->g d r λU2=>tc U2 λb U3=>if b=true then te U3 λy U4=>l.length<sizeLine/\u (i+1) (l++[y]) U4 else u (i+1) l U3)/\
   ∀l r,u f.length l r->l.length<=sizeLine/\∀n D vs p,aD K F n Y B D->aT O H D n->aH (au D n) vs l->n p=none->Q (.ref p) (aL n p (.lst vs)))->
  kg own caps (pO K F s) (λv Y H Q=>∃t,M t/\kM K t g v Y H Q) (λY H Q=>∃t,M t/\iW K t tc Y H Q) (λY H Q=>∃t,M t/\fE K t te Y H Q) Y H Q:=λY H Q E=>by
 obtain⟨U,O,st,q⟩:=E;refine#[U,O,st,hs _ _ _ (λf B G J A C k s1 wk=>?_) q];obtain⟨u,i0,step,fin⟩:=G;obtain⟨W,N,R⟩:=id k;refine#[pR K #[A,[],C,λ_=>0] f u,#[f.length,fm own caps B,C,[],Bs (λj _ c h=>Br k j c h) (by rw[R];exact N.nd) k.live,i0,.nil,q0L _,rfl],?_];rintro i m l Y' n ⟨r,D,ds,w,iv,S,hi,rfl⟩;obtain⟨W',h',I⟩:=id w;have T:=λb o e=>h'.kept b o 'c' e;have X:aT C A D n:=#[λb o _ e=>T b o e,λa h=>by
  rw[I]at h;rcases q0f.mp h with h |h
  .exact(h'.new a h).elim (λz=>absurd z 'c') .inr
  .exact .inl h]
 obtain⟨w1,w2⟩:=wk D n X w.live
 by_cases L:i<f.length
 .obtain⟨go,yld⟩:=w1 i f[i] (q0c L);refine .inr #[go,λx H2 hy=>?_];obtain⟨Z,dx⟩:=yld x H2 hy;exact wL (hP _ _ _ _ _ k) hg ht he step L w iv S Z dx
 .obtain rfl:i=f.length:=by lia
  obtain⟨hz,q⟩:=fin ds r iv;exact .inl #[w2,by rw[S.length];exact hz,λp hp=>q n C l p (k.grow T) (s1.trans (.same T)) (aH.mono (sB λa h=>by rw[I];exact bq _ h) S) hp]
theorem Bu{K:Frag}{i:Fx->Prop}(t:∀k Y l u w,aD K F k Y l u->i #[k,[],w,λ_=>0])(m:km s)(x:∀d U Q n,(∀c,Q c->n c)->g d U Q->g d U n)(y:iu tc)(A:Mn te):∀Y H Q,fE K F (pQ own caps s g tc te) Y H Q->
  kg own caps (pO K F s) (λv Y H Q=>∃a,i a/\kM K a g v Y H Q) (λY H Q=>∃a,i a/\iW K a tc Y H Q) (λY H Q=>∃a,i a/\fE K a te Y H Q) Y H Q:=λY H Q z=>by
 obtain⟨U,O,st,q⟩:=z;refine Bt t m x y A Y H Q #[U,O,st,m _ _ _ (λB l z=>?_) q];obtain⟨C,D,step,fin⟩:=z;exact#[C,D,step,λr c h=>#[(fin r c h).1,λJ E vs p f G I j=>(fin r c h).2 (.ref p) _ E (f.grow λb o e=>bA j _ _ e) (G.trans (.same λb o e=>bA j _ _ e)) (ir j (f.nofree p j) I)]]
def lY(X:Cx)(F:Fx)(a:List Expr)(t:cN):Prop:=iu t/\nG X a (iW X.K F t)
def Pa:cN:=λU Q=>Q true U
theorem Pb:lY X F [] Pa:=#[λ_ _ _ k q=>k _ _ q,λa s Y H Q I b=>by obtain⟨U,O,st,q⟩:=b;exact MK a s Y H Q I (q H O st .refl)]
theorem Pc(h:DB X F c t):lY X F [c] t:=#[h.mn,ML h.pt]
theorem Pd(k:GF X.mg F)(S:ae X scope own capN caps)(l:X.calm=true)(j:DI X F tg iter s)
  (c:∀C d e f h b,GF X.mg b->DG (bT X scope (own++capN) C d e f h) b tg g/\lY (bT X scope (own++capN) C d e f h) b ifs tc/\DE (bT X scope (own++capN) C d e f h) b elt te)
  (m:autoParam (∀x,foldedSetIterable iter X.env x=pure x) Zs._auto_1):DE X F (.ListComp elt [#[tg,iter,ifs,0]] scope pos) (pQ own caps s g tc te):=by
 obtain⟨n,o,p⟩:=c 0 [] (PySem.start X.prog).1 (λ_=>none) [] F k;refine#[wJ j.mn,(sy S l j.pi (λC d e f h=>#[λa s Y H v u Q I r ⟨b,i,q⟩=>(c C d e f h b i).1.pg a s Y H v u Q I r q,λa s Y H Q I ⟨b,i,q⟩=>(c C d e f h b i).2.1.2 a s Y H Q I q,λa s Y H Q I ⟨b,i,q⟩=>(c C d e f h b i).2.2.pe a s Y H Q I q]) m).imp (Bu (λ_ _ _ _ _ st=>k.into st) j.mn n.mn o.1 p.mn)]
theorem Pe{e}(z:X.N.Nodup)(n:X.N[i]? = !y)(A:Loc X.env.scope y)(w:GF X.mg F)(S:ae X scope own capN caps)(B:X.calm=true)(o:DI X F tg iter s)
  (c:∀C h j k l b,GF X.mg b->DG (bT X scope (own++capN) C h j k l) b tg g/\lY (bT X scope (own++capN) C h j k l) b ifs tc/\DE (bT X scope (own++capN) C h j k l) b elt te)
  (p:autoParam (swapsWith (.ListComp elt [#[tg,iter,ifs,0]] scope pos) (!.Name y py) e.line X.env=pure true) Zq._auto_1)
  (E:autoParam (∀x,foldedSetIterable iter X.env x=pure x) Zs._auto_1) (G:X.fn y=true\/X.env.scope.names.lookup y=!.local:=by first |exact .inl rfl |exact .inr rfl |assumption) :
  DS X F (.Assign [.Name y py] (.ListComp elt [#[tg,iter,ifs,0]] scope pos) e) (sK (pQ own caps s g tc te) (gN i)):=by
 obtain⟨J,L,M⟩:=c 0 [] (PySem.start X.prog).1 (λ_=>none) [] F w;refine(MM z n A S B o.pi (λC h j k l=>#[λa s Y H v u Q I r ⟨b,m,q⟩=>(c C h j k l b m).1.pg a s Y H v u Q I r q,λa s Y H Q I ⟨b,m,q⟩=>(c C h j k l b m).2.1.2 a s Y H Q I q,λa s Y H Q I ⟨b,m,q⟩=>(c C h j k l b m).2.2.pe a s Y H Q I q]) p E G).imp
  λD Y H ⟨U,O,DD,st,q,f⟩=>Bu (λ_ _ _ _ _ st=>w.into st) o.mn J.mn L.1 M.mn Y H _ #[U,O,st,wJ o.mn _ _ _ (λd U1 R v T Z t s1 d1=>f.nx _ T _ Z (t.set d1) s1 R) q]
end L2.L3
namespace L2
open PySem PySem.Spec PyProof.Rows
theorem Inv.track{Y:St}(I:Inv X pins Y H s)(f:gV X pins H a)(new:cy X.prog X.w (aL H a o) s.heap a o):Inv X pins Y (aL H a o) s:=by
 have g:=f.1;refine I.step (λb h=>by obtain rfl:=q0o.mp h;exact#[f.2.2.2.1,f.2.1,f.2.2.2.2.1,f.2.2.2.2.2]) (λb d _ _ _ e _=>e) (λb d _ _ _ e _=>#[d.slots,e])
  (λb d i _ n=>by rw[bw (λz=>i (by simp[z]))];exact n) (λb d _ e=>#[d,e]) (λb j e=>bA g b _ e) (λb d u e=>bA g b _ e) (λb l e=>#[#[],by rw[bA g b _ e];simp]) (λm k=>k) (λb u e=>?_) I.bare
 by_cases h:b=a
 .subst h;rw[cF]at e;cases e;exact new
 .rw[bw h]at e;exact(I.hok b u e).stay (λ_ _ _ q=>q) (λc q=>bA g c _ q) λc j q=>bA g c _ q
theorem vals3(r:bj [x,y,z] a):∃u v w,a=[u,v,w]/\aX x u/\aX y v/\aX z w:=by
 cases r with
 |cons b r=>cases r with
  |cons c r=>cases r with
   |cons d r=>cases r;exact#[_,_,_,rfl,b,c,d]
def Pf(t:TA):TE:=λY H Q=>t Y H λvs d=>∃k l m e g h,vs=[.ref k,.ref l,.ref m]/\d k=!.lst e/\d l=!.lst g/\d m=!.lst h/\g.length=e.length/\h.length=e.length/\0<e.length/\
 ∀p f (j:List Addr),bI d f->d p=none->f p=!.lst (j.map V.ref)->j.length=e.length->(∀(i:Nat) (q:Addr),j[i]? = !q->∃x y z,e[i]? = !x/\g[i]? = !y/\h[i]? = !z/\d q=none/\f q=!.tup [x,y,z])->Q (.ref p) f
theorem Bv:∀{acc},(∀(j:Nat)  w,acc[j]? = !w->∃T,w=Value.ref T)->∃d:List Addr,acc=d.map Value.ref
 |[],_=>#[[],rfl]
 |v::r,h=>by obtain⟨T,e⟩:=h 0 v rfl;obtain⟨d,f⟩:=Bv λj w e=>h (j+1) w (by simpa using e);exact#[T::d,by rw[f,e];rfl]
theorem Pg(t:sA h n f g i d):∃k:List Addr,d=k.map Value.ref:=
 Bv λj w e=>by obtain⟨T,_,_,_,e,_⟩:=t j w e;exact#[T,e]
theorem Ph{pos:Pos}{p1:Pos}(hc:X.calm=true)(c2:Gl X "list")(c3:X.mg "list" = none)(c4:Gl X "zip")(c5:X.mg "zip" = none)(ha:PA X [a,b,c] t)
  (he:autoParam (starEach [.Call (.Name "zip" p2) [a,b,c] [] pos2] X.env=[(false,eval (.Call (.Name "zip" p2) [a,b,c] [] pos2) X.env)]) Zq._auto_1)
  (hs:autoParam (starEach [a,b,c] X.env=(false,eval a X.env)::starEach [b,c] X.env) Zq._auto_1) (c6:autoParam ((backTo pos2 (starEach [b,c] X.env)).any (·.1)=false) Zq._auto_1) :
  PE X (.Call (.Name "list" p1) [.Call (.Name "zip" p2) [a,b,c] [] pos2] [] pos) (Pf t):=by
 intro g s Y H Q I h;refine wpAny_Call_Name_kw (jX I c2 c3 (show bootBuiltins "list" = some (.type "list") by decide +kernel) ?_ 'd' 'd');refine PyProof.Rows.callWith_type1 ?_ (by rw[he];rfl) rfl;rw[he];show wpAny _ _ (spliced [(false,eval (.Call (.Name "zip" p2) [a,b,c] [] pos2) X.env)]) _ _ s;refine Calls.spliced_cons ?_;refine wpAny_Call_Name_kw (jX I c4 c5 boot_zip ?_ 'd' 'd');refine PyProof.Rows.callWith_type1 (aR (ha pos2 g s Y H _ I h) λus d U=>?_) hs c6;obtain⟨vs,B,I1,r1,q1⟩:=U;obtain⟨l1,l2,l3,A,R,S,rfl,h1,N,h3,e2,e3,e6,q⟩:=q1;obtain⟨u1,u2,u3,rfl,c7,c8,c9⟩:=vals3 r1;cases c7;cases c8;cases c9;obtain⟨z1,Z,n1,a0,g1⟩:=I1.hok _ _ h1;obtain⟨z2,a6,n2,a7,g2⟩:=I1.hok _ _ N;obtain⟨z3,a8,n3,a9,g3⟩:=I1.hok _ _ h3;have L1:d.heap.IsList l1 Z.toArray:=#[_,g1,rfl,_,rfl]
 have b0:d.heap.IsList l2 a6.toArray:=#[_,g2,rfl,_,rfl]
 have b1:d.heap.IsList l3 a8.toArray:=#[_,g3,rfl,_,rfl]
 have b2:=a0.length;have e7:=a7.length;have e8:=a9.length;refine MV L1 b0 b1 λv hz d0 d1 sZ d2 d3 d4 hk=>?_;refine Calls.spliced_nil ?_;have b3:l1<d.heap.objs.size:=bo g1;have b4:l2<d.heap.objs.size:=bo g2;have b5:l3<d.heap.objs.size:=bo g3;have ge:∀j∈[d.heap.objs.size+5,d.heap.objs.size+3,d.heap.objs.size+4,d.heap.objs.size,d.heap.objs.size+1,d.heap.objs.size+2],d.heap.objs.size<=j:=λj w=>by
  simp only[q0e,q0p,or_false]at w;rcases w with rfl |rfl |rfl |rfl |rfl |rfl
  all_goals first |exact aP _ |exact q1f _ _
 have I2:Inv X g Y B { d with heap:=v }:=I1.kept (t':=d.toks) hk;refine MW (s:={ d with heap:=v }) (I1.ok.hd hc) (by generalize d.heap.objs.size=n;simp only[q0V,q0e,q0p,or_false,not_or,not_false_eq_true,and_true,q1q];refine#[#[?_,?_,?_,?_,?_],#[?_,?_,?_,?_],#[?_,?_,?_],#[?_,?_],?_]<;>exact(by intro e;exact absurd (show(_:Nat)=_ from e) 'b')) (λl hl j w=>?_) (λj w=>?_) hz d0 d1 sZ d2 d3 (L1.at λo e=>hk _ _ e) (b0.at λo e=>hk _ _ e) (b1.at λo e=>hk _ _ e)
  (by simp only[q0m];lia) (by simp only[q0m];lia) (by simp only[q0m];lia) (by simp only[q0m];lia) λN e9 cc pX hS hl tr=>?_
 .simp only[q0e,q0p,or_false]at hl;rcases hl with rfl |rfl |rfl
  .exact q0q (q0l b3 (ge j w))
  .exact q0q (q0l b4 (ge j w))
  .exact q0q (q0l b5 (ge j w))
 .show j<v.objs.size;rw[d4];simp only[q0e,q0p,or_false]at w;generalize d.heap.objs.size=n at *;rcases w with rfl |rfl |rfl |rfl |rfl |rfl |rfl |rfl |rfl
  .exact q06 _
  .exact q1Q (show(3:Nat)<6 by decide) _
  .exact q1Q (show(4:Nat)<6 by decide) _
  .exact Nat.lt_add_of_pos_right 'd'
  .exact q1Q (show(1:Nat)<6 by decide) _
  .exact q1Q (show(2:Nat)<6 by decide) _
  .exact q0l b3 (q1f _ _)
  .exact q0l b4 (q1f _ _)
  .exact q0l b5 (q1f _ _)
 .
  have kp:∀b ob,d.heap.get? b=!ob->N.get? b=!ob:=λb ob e=>pX b ob (λz=>absurd (ge b (wq z)) (Nat.not_le.mpr (bo e))) (hk b ob e);have I3:Inv X g Y B { d with heap:=N }:=I1.kept (t':=d.toks) kp;obtain⟨f,C⟩:=Pg tr;have big:∀b,v.objs.size<=b->gV X g B b:=λb O=>I2.fpOk O (I2.hok.fresh O);have D:f.length=A.length:=by have:=congrArg List.length C;rw[q0b]at this;rw[<-this,hl,q0m];exact b2.symm
  have vq:∀f:List Addr,bj (f.map V.ref) (f.map Value.ref):=λf=>by
   induction f with
   |nil=>exact .nil
   |cons q r ih=>exact .cons rfl ih
  have I4:Inv X g Y (aL B v.objs.size (.lst (f.map V.ref))) { d with heap:=N }:=I3.track (big _ (aP _)) #[by rw[q0b,D];exact z1,_,_,vq f,by rw[<-C];exact hS];have all:∀k,k<=f.length->∃u,bI B u/\Inv X g Y u { d with heap:=N }/\u v.objs.size=!.lst (f.map V.ref)/\(∀b,v.objs.size<b->u b=none\/∃row,u b=!.tup row)/\
    ∀(i:Nat) (q:Addr),i<k->f[i]? = !q->∃x y z,A[i]? = !x/\R[i]? = !y/\S[i]? = !z/\B q=none/\u q=!.tup [x,y,z]:=λk=>by
   induction k with
   |zero=>exactλ_=>#[_,bA (big _ (aP _)).1,I4,cF,λb O=>.inl (by rw[bw (q02 O)];exact(big b (q1y O)).1),λi q h=>absurd h (q1V _)]
   |succ k ih=>
    intro b6;obtain⟨u,sm,J,hp,E,m⟩:=ih (q1t b6);have b7:k<f.length:=b6;have G:f[k]? = some f[k]:=q0c b7;obtain⟨T,x',y',u',eT,hT,b8,ex,ey,eu⟩:=tr k (.ref f[k]) (by rw[C,q0k,G];rfl);cases eT;have p:v.objs.size<f[k]:=hT;have kx:k<A.length:=by rw[<-D];exact b7
    have vx:A[k]? = some A[k]:=q0c kx;have vy:R[k]? = !R[k]''b':=q0c 'b';have vz:S[k]? = !S[k]''b':=q0c 'b';obtain⟨w1,d5,d6⟩:=a0.get vx;obtain⟨w2,d7,d8⟩:=a7.get vy;obtain⟨w3,d9,e0⟩:=a9.get vz;have e1:x' = w1:=by simp only[q1j]at ex;rw[d5]at ex;exact(q0r ex).symm
    have e4:y' = w2:=by simp only[q1j]at ey;rw[d7]at ey;exact(q0r ey).symm
    have e5:u' = w3:=by simp only[q1j]at eu;rw[d9]at eu;exact(q0r eu).symm
    subst e1 e4 e5;have rel:bj [A[k],R[k]''b',S[k]''b'] [x',y',u']:=.cons d6 (.cons d8 (.cons e0 .nil));have b9:B f[k]=none:=(big _ (q1y p)).1;rcases E f[k] p with hn |⟨row,hr⟩
    .refine#[aL u f[k] (.tup [A[k],R[k]''b',S[k]''b']),λb o e=>bA hn _ _ (sm b o e),J.track #[hn,(big _ (q1y p)).2] #[by show 3<=sizeLine;decide,_,rel,#[_,b8,rfl,_,rfl]],
      by rw[bw (q0q p)];exact hp,λb O=>?_,λi q L M=>?_]
     .by_cases e:b=f[k]
      .subst e;exact .inr #[_,cF]
      .rw[bw e];exact E b O
     .rcases q2j.mp L with L |rfl
      .obtain⟨x,y,z,a1,a2,a3,a4,a5⟩:=m i q L M;exact#[x,y,z,a1,a2,a3,a4,bA hn _ _ a5]
      .rw[G]at M;cases M;exact#[_,_,_,vx,vy,vz,b9,cF]
    .have same:row=[A[k],R[k]''b',S[k]''b']:=by
      obtain⟨_,c0,rv,o,eo,co,n,dn⟩:=J.hok _ _ hr;have c1:N.get? f[k]=!o:=eo;rw[b8]at c1;cases c1;have d':([x',y',u'].toArray:Array Value)=c0.toArray:=by injection dn
      have:c0=[x',y',u']:=by have:=congrArg Array.toList d';simpa using this.symm
      subst this;exact rv.inj rel
     refine#[u,sm,J,hp,E,λi q L M=>?_];rcases q2j.mp L with L |rfl
     .exact m i q L M
     .rw[G]at M;cases M;exact#[_,_,_,vx,vy,vz,b9,by rw[hr,same]]
  obtain⟨u,sm,J,hp,_,m⟩:=all f.length (aP _);exact#[.ref v.objs.size,u,J,rfl,q v.objs.size u f sm (big _ (aP _)).1 hp D λi qq e=>m i qq (q0a.mp e).1 e]
theorem Pj(E:X.calm=true):eX X (.builtin "all") (λp H Q=>∃(l:Addr) (bs:List Bool),p=[.ref l]/\H l=!.lst (bs.map V.bl)/\Q (.bl (bs.all id)) H):=by
 intro y s Y H p U Q I r h;obtain⟨l,bs,rfl,G,q⟩:=h;obtain⟨u,rfl,ru⟩:=vals1 r;cases ru;obtain⟨z,d,n,B,e⟩:=I.hok _ _ G;have L:s.heap.IsList l d.toArray:=#[_,e,rfl,_,rfl]
 have f:=bo e;have len:=B.length;rw[q0b]at len;refine call_all_walk (wpAny_pyIter_list L (#[s.heap.objs.size,_,_,_,_,_,λi=>bs.getD i true,rfl,Walks.list (A:=X.A.in1) (I.ok.hd E) s.heap.objs.size l (q0q f) d.toArray,#[#[_,Heap.get?_push_size _ rfl,rfl,rfl],L.push _],?_,λZ tk J=>?_]))
 .intro i v M N E' O k;have g:=by simpa using O
  have f:i<bs.length:=by rw[len];exact(q0a.mp g).1
  obtain⟨w,C,m⟩:=B.get (by rw[q0k,q0c f];rfl);rw[g]at C;cases C;cases m;apply wpAny_truthy_bool;have:bs.getD i true=bs[i]:=by simp[f]
  have k:N (bs.getD i true) M:=k;rw[this]at k;exact k
 .have R:(List.range d.toArray.size).all (λi=>bs.getD i true)=bs.all id:=by
   rw[q0m,<-len,q2k,q0O,q0O];constructor
   .intro h b T;obtain⟨i,g,rfl⟩:=List.getElem_of_mem T;have:=h i (q1d.mpr g);simpa[g] using this
   .intro h i g;have j:=q1d.mp g;have:=h bs[i] (q1x j);simpa[j] using this
  rw[R];exact#[.bl (bs.all id),H,I.kept λb o D=>J b o (λS=>absurd (bo D) (by rw[q0o.mp S];exact q0E _)) (aK _ D),rfl,q]
end L2
namespace L2.L3
open PySem PySem.Spec PyProof.Rows
def Bw:DN:=λb Q=>∃a,(b=[.list a]\/b=[.tuple a])/\Q (.int a.length)
theorem lZ{K}:iw (λxs H Q=>∃p ys,xs=[.ref p]/\(cG K H p ys\/dX K H p ys)/\Q (.int ys.length) H) Bw where
 mn:=λ_ _ _ k zq1a=>by obtain⟨ds,e,q⟩:=zq1a;exact#[ds,e,k _ q]
 ok:=λO H vs xs Q hO hd zq2a=>by
  obtain⟨ds,e,q⟩:=zq2a;rcases e with rfl |rfl
  .cases hd with
   |cons d r=>cases r;obtain⟨a,ys,rfl,ha,hy⟩:=d.lst_inv;exact#[a,ys,rfl,.inl (.of (cR ha).1),by rw[hy.length];exact q _ H (λ_ _ h=>h) (.int _)]
  .cases hd with
   |cons d r=>cases r;obtain⟨a,ys,rfl,ha,hy⟩:=d.tup_inv;exact#[a,ys,rfl,.inr (.inl (gc ha).1),by rw[hy.length];exact q _ H (λ_ _ h=>h) (.int _)]
theorem wM(h:aH H vs [a,b]):∃x y,vs=[x,y]/\DV H x a/\DV H y b:=by cases h with |cons d r=>cases r with |cons c r=>cases r;exact#[_,_,rfl,d,c]
theorem gi(h:aH H vs [a]):∃x,vs=[x]/\DV H x a:=by cases h with |cons d r=>cases r;exact#[_,rfl,d]
theorem wN(h:aH H vs [a,b,c]):∃x y z,vs=[x,y,z]/\DV H x a/\DV H y b/\DV H z c:=by cases h with |cons d r=>cases r with |cons f r=>cases r with |cons e r=>cases r;exact#[_,_,_,rfl,d,f,e]
def By:DN:=λa Q=>∃i j:Int,a=[.int i,.int j]/\Q (.int (max i j))
theorem Bz:iw (λxs H Q=>∃i j,xs=[.int i,.int j]/\Q (.int (if j>i then j else i)) H) By where
 mn:=λ_ _ _ k zq1a=>by obtain⟨i,j,e,q⟩:=zq1a;exact#[i,j,e,k _ q]
 ok:=λO H vs xs Q hO hd zq2a=>by
  obtain⟨i,j,e,q⟩:=zq2a;subst e;obtain⟨x,y,rfl,h1,h2⟩:=wM hd;have e:(if j>i then j else i)=max i j:=by split<;>lia
  exact#[i,j,by rw[h1.int_inv,h2.int_inv],by rw[e];exact q _ H (λ_ _ h=>h) (.int _)]
def BA:DN:=λb Q=>(∃a,b=[.list a]/\Q (.tuple a))\/∃a,b=[.tuple a]/\Q (.tuple a)
theorem BB{K}:iw (λxs H Q=>∃p ys,xs=[.ref p]/\((cG K H p ys/\∀l,H l=none->Q (.ref l) (aL H l (.tup ys)))\/(dX K H p ys/\Q (.ref p) H))) BA where
 mn:=λ_ _ _ k q=>q.imp (λzq1a=>by obtain⟨i,e,q⟩:=zq1a;exact#[i,e,k _ q]) λzq2a=>by obtain⟨i,e,q⟩:=zq2a;exact#[i,e,k _ q]
 ok:=λO H vs xs Q hO hd q=>by
  rcases q with⟨ds,e,q⟩ |⟨ds,e,q⟩
  .subst e;obtain⟨x,rfl,h1⟩:=gi hd;obtain⟨a,ys,rfl,ha,hy⟩:=h1.lst_inv;exact#[a,ys,rfl,.inl #[.of (cR ha).1,λp hp=>q _ _ (bA hp) (nJ hp (hO p hp) hy)]]
  .subst e;obtain⟨x,rfl,h1⟩:=gi hd;obtain⟨a,ys,e,ha,hy⟩:=h1.tup_inv;subst e;exact#[a,ys,rfl,.inr #[.inl (gc ha).1,q _ H (λ_ _ h=>h) h1]]
def BC:DN:=λa Q=>∃bs:List Bool,a=[.list (bs.map .bool)]/\Q (.bool (bs.all id))
theorem wO:∀{bs:List Bool}{vs},aH H vs (bs.map PyData.bool)->vs=bs.map V.bl
 |[],_,h=>by cases h;rfl
 |b::r,_,h=>by
  cases h with
  |cons d q=>rw[d.bl_inv,wO q];rfl
theorem Pk:iw (λxs H Q=>∃(l:Addr) (bs:List Bool),xs=[.ref l]/\H l=!.lst (bs.map V.bl)/\Q (.bl (bs.all id)) H) BC where
 mn:=λ_ _ _ k zq1a=>by obtain⟨bs,e,q⟩:=zq1a;exact#[bs,e,k _ q]
 ok:=λO H vs xs Q hO hd zq2a=>by obtain⟨bs,e,q⟩:=zq2a;subst e;obtain⟨x,rfl,h1⟩:=gi hd;obtain⟨a,ys,rfl,ha,hy⟩:=h1.lst_inv;exact#[a,bs,rfl,by rw[(cR ha).1,wO hy],q _ H (λ_ _ h=>h) (.bl _)]
noncomputable def pS(as bs a:List PyData):List PyData:=(as.zip (bs.zip a)).map λq=>PyData.tuple [q.1,q.2.1,q.2.2]
def BD(t:dB):DT:=λU Q=>t U λc b=>∃as bs a,c=[.list as,.list bs,.list a]/\bs.length=as.length/\a.length=as.length/\0<as.length/\Q (.list (pS as bs a)) b
theorem BE:∀{H vs a},vs.length=a.length->(∀(i:Nat) v d,vs[i]? = !v->a[i]? = !d->DV H v d)->aH H vs a
 |_,[],[],_,_=>.nil
 |_,[],_::_,e,_=>by cases e
 |_,_::_,[],e,_=>by cases e
 |H,v::vs,d::a,e,h=>.cons (h 0 v d rfl rfl) (BE (by simpa using e) λi b c f g=>h (i+1) b c (by simpa using f) (by simpa using g))
theorem Pl{pos:Pos}{p1:Pos}(hc:X.calm=true)(t:Gl X "list")(u:X.mg "list" = none)(w:Gl X "zip")(A:X.mg "zip" = none)(B:DA X F [a,b,c] tA)
  (he:autoParam (starEach [.Call (.Name "zip" p2) [a,b,c] [] pos2] X.env=[(false,eval (.Call (.Name "zip" p2) [a,b,c] [] pos2) X.env)]) Zq._auto_1)
  (hs:autoParam (starEach [a,b,c] X.env=(false,eval a X.env)::starEach [b,c] X.env) Zq._auto_1) (C:autoParam ((backTo pos2 (starEach [b,c] X.env)).any (·.1)=false) Zq._auto_1) :
  DE X F (.Call (.Name "list" p1) [.Call (.Name "zip" p2) [a,b,c] [] pos2] [] pos) (BD tA):=
 #[λ_ _ _ k q=>B.mn _ _ _ (λ_ _ g=>by obtain⟨x,y,z,e,h1,h2,h3,q⟩:=g;exact#[x,y,z,e,h1,h2,h3,k _ _ q]) q,(Ph hc t u w A B.pa he hs C).imp λY H Q h=>by obtain⟨U,O,st,q⟩:=h;exact 
  #[U,O,st,B.mn _ _ _ (λds U1 j vs H1 D l s1 E=>by
   obtain⟨as,bs,cs,e,l1,l2,l3,q1⟩:=j;subst e;obtain⟨x,y,z,rfl,h1,h2,h3⟩:=wN E;obtain⟨a1,xs,rfl,G,n⟩:=h1.lst_inv;obtain⟨a2,ys,rfl,I,S⟩:=h2.lst_inv;obtain⟨a3,zs,rfl,J,T⟩:=h3.lst_inv;refine#[a1,a2,a3,xs,ys,zs,rfl,(cR G).1,(cR I).1,(cR J).1,by rw[n.length,S.length];exact l1,by rw[n.length,T.length];exact l2,by rw[n.length];exact l3,λp H2 qs L hp M hl o=>?_];have Z:=l.nofree;refine q1 _ H2 D (l.grow L) (s1.trans (.same L)) (.lst (gb M (Z p hp)) (BE ?_ λi v d e1 N=>?_))
   .unfold pS;rw[q0b,q0b,List.length_zip,List.length_zip,hl,n.length];lia
   .rw[q0k]at e1;obtain⟨qq,e3,e4⟩:=q0g.mp e1;subst e4;obtain⟨x,y,z,g1,g2,g3,g4,g5⟩:=o i qq e3;unfold pS at N;rw[q0k]at N;obtain⟨⟨d0,E,d2⟩,e5,e6⟩:=q0g.mp N;subst e6;obtain⟨e7,e8⟩:=q19.mp e5;obtain⟨e9,R⟩:=q19.mp e8;obtain⟨dx,k1,k2⟩:=n.get' g1;obtain⟨dy,k3,k4⟩:=S.get' g2;obtain⟨dz,k5,k6⟩:=T.get' g3;have r:=e7;have s:=e9;have f:=R;rw[k1]at r;rw[k3]at s;rw[k5]at f;cases r;cases s;cases f;have m:=lS (O:=D) L;exact .tup (.inl (gb g5 (Z qq g4))) (.cons (DV.mono m k2) (.cons (DV.mono m k4) (.cons (DV.mono m k6) .nil)))) q]]
def BF(te:DT)(k:Nat):DT:=λU Q=>te U λd g=>∃f,d=.list f/\Q (.list (f.drop k)) g
theorem Pn{k :Nat}(o:DE X F e te):DE X F (.Subscript e (.Slice (!.Constant (.int (k:Int)) j A) none none s) pos) (BF te k):=
 #[λ_ _ _ k q=>o.mn _ _ _ (λ_ _ f=>by obtain⟨r,e,q⟩:=f;exact#[r,e,k _ _ q]) q,(Ao As o.pe (An rO) Am).imp λY H Q g=>by obtain⟨U,O,st,q⟩:=g;exact 
  #[U,O,st,o.mn _ _ _ (λd B i v C t l u w=>by
   obtain⟨r,e,x⟩:=i;subst e;obtain⟨a,m,rfl,y,z⟩:=w.lst_inv;refine#[k,rfl,a,m,rfl,.of (cR y).1,λp n=>x _ _ t (l.grow (bA n)) (u.trans (.same (bA n))) (ir n (l.nofree p n) ?_)];have:jy m (!k) none=m.drop k:=by
    unfold jy;rw[HT.sIx_none,HT.sIx_nat]
    by_cases h:k<=m.length
    .rw[Nat.min_eq_left h,List.take_of_length_le (by rw[q1M];exact aP _)]
    .rw[Nat.min_eq_right 'b',q2Q (aP _),q2Q 'b'];simp
   rw[this];exact z.drop k) q]]
def BH(i:Nat):DT:=λU Q=>∃d,U[i]? = !!.scr d/\(d.length<=63->Q (.int d.length) U)
theorem BI{F:Fx}{pos:Pos}{p:Pos}(n:Gl X "len")(o:X.mg "len" = none)(h:PE X (.Name x p1) (cu i))(l:autoParam (starEach [.Name x p1] X.env=(false,eval (.Name x p1) X.env)::starEach [] X.env) Zq._auto_1)(g:autoParam ((backTo pos (starEach [] X.env)).any (·.1)=false) Zq._auto_1) :
  DE X F (.Call (.Name "len" p) [.Name x p1] [] pos) (BH i):=
 #[λ_ _ _ k d=>by obtain⟨j,e,q⟩:=d;exact#[j,e,λh=>k _ _ (q h)],(lQ ke n o q1r (dJ h eB l) 'd' 'd' l g).imp λY H Q f=>by
  obtain⟨U,O,st,j,e,q⟩:=f;obtain⟨s,r,m⟩:=st.scr e;refine#[_,r,s,j.map V.int,rfl,.inl m.sq,?_];rw[q0b];exact q m.1 _ H O st .refl (.int _)]
def BJ(i:Nat)(te:DT):DT:=λU Q=>∃f,U[i]? = !!.scr f/\te U λd g=>∃k n,d=.int k/\bN f k=!n/\Q (.int n) g
theorem Po{g:α->β}{l}{n}(h:bN l k=!n):bN (l.map g) k=!g n:=by
 unfold bN at h ⊢;rw[q0b];cases q:dt l.length k with
 |none=>rw[q]at h;cases h
 |some j=>rw[q]at h;show(l.map g)[j]? = !g n;rw[q0k];have h:l[j]? = !n:=h;rw[h];rfl
theorem BK(h:PE X (.Name x p1) (cu i))(s:DE X F e te)(t:pD e):DE X F (.Subscript (.Name x p1) e pos) (BJ i te):=
 #[λ_ _ _ k f=>by obtain⟨r,e,q⟩:=f;exact#[r,e,s.mn _ _ _ (λ_ _ g=>by obtain⟨G,n,v,y,q⟩:=g;exact#[G,n,v,y,k _ _ q]) q],(vY wb h s.pe t).imp λY H Q j=>by
  obtain⟨U,O,st,r,e,q⟩:=j;obtain⟨E,I,t⟩:=st.scr e;refine#[_,I,U,O,st,s.mn _ _ _ (λd N l w C J A D L=>?_) q];obtain⟨k,n,v,y,M⟩:=l;subst v;exact#[E,r.map V.int,k,.int n,rfl,L.int_inv,(t.mono λo u q=>D.keep _ _ (λz=>by obtain⟨R,e,m⟩:=st.live _ z;rw[q]at e;cases e;exact m) q).sq,Po y,M _ C J A D (.int _)]]
def Pp(K:Frag):R2:=λx y H Q=>∃a b d,x=.ref a/\y=.ref b/\cG K H a (d.map V.int)/\H b=!.lst []/\Q (.bl (decide (d=[]))) H
theorem BL:∀{d:List Int}{f},bj (d.map V.int) f->∃as,ReadsAll h f (d.map PyData.int) as
 |[],_,r=>by cases r;exact#[_,.nil]
 |n::d,_,r=>by
  cases r with
  |cons g r=>obtain⟨t,rfl⟩:=g;obtain⟨as,q⟩:=BL r;exact#[_,.cons (.int n t) q]
theorem Pq(l:X.A.units+64<cLine):cP X (compareOp .Eq) (Pp X.K):=by
 intro g s Y H x y v u Q I m t h;obtain⟨a,b,d,rfl,rfl,h1,h2,q⟩:=h;cases m;cases t;obtain⟨w,z,⟨o,n,e,B,_,C⟩,L⟩:=I.list h1;obtain⟨_,j,M,f,D⟩:=I.hok _ _ h2;cases f;obtain⟨as,E⟩:=BL z;have G:PyData.eqv (.list (d.map .int)) (.list [])=decide (d=[]):=by cases d<;>rfl
 refine eq_dataH (reads_list_at e B C (by simpa using E)) (reads_list_at D rfl rfl .nil) ?_ 'd' l (by rw[G];exact#[.bl _,H,I,rfl,q]);unfold SeqAt.shaped;have J:PyData.canLay0 (.list (d.map .int))=true:=by
  have:∀d:List Int,PyData.canLayAll0 (d.map .int)=true:=λd=>by
   induction d with
   |nil=>rfl
   |cons n r k=>rw[q0d];simp only[PyData.canLayAll0,PyData.canLay0,k,q2F]
  simp only[PyData.canLay0,this]
 have dp:PyData.depth (.list (d.map .int))<=64:=by
  have:∀d:List Int,PyData.depthAll (d.map .int)<=1:=λd=>by
   induction d with
   |nil=>simp[PyData.depthAll]
   |cons n r k=>rw[q0d];simp only[PyData.depthAll,PyData.depth];lia
  have:=this d;simp only[PyData.depth];lia
 rw[J,Bool.true_and];exact decide_eq_true dp
def BM(i:Nat):cN:=λU Q=>∃d,U[i]? = !!.scr d/\Q (decide (d=[])) U
theorem Pr(m:X.A.units+64<cLine)(h:PE X (.Name x p1) (cu i)):DB X F (.Compare (.Name x p1) [.Eq] [.List [] l] pos) (BM i):=
 #[λ_ _ _ k d=>by obtain⟨j,e,q⟩:=d;exact#[j,e,k _ _ q],(zU (Pq m) h (se eB) (bD _)).imp λY H Q f=>by
  obtain⟨U,O,st,j,e,q⟩:=f;obtain⟨r,n,o⟩:=st.scr e;refine#[_,n,q0L _,λp g=>#[r,p,j,rfl,rfl,(bA g).seq o.sq,cF,_,rfl,q _ O (st.grow (bA g)) (.same (bA g))]]]
structure FD (K:Frag) (mg:Str->Option Value) (x:Str) (st:Stmt) (ps:List Str) (g:Addr) (fd:FuncData):Prop where
 fn:nF K x x st g fd
 mgf:mg x=some (.ref g)
 b:jw K fd ps []
section
variable{X:Cx}{scope:Scope}{own capN:List Str}{caps:List Nat}
theorem ae.of(h1:autoParam (scope.kind=.function) Zq._auto_1)(h2:autoParam ((scope.names.all λy=>scope.names.lookup y.1==!y.2)=true) Zq._auto_1)
  (h3:autoParam ((scope.names.all λy=>y.2 != .free||(X.env.kindOf y.1==some .cell||X.env.kindOf y.1==!.free))=true) Zq._auto_1)
  (h4:autoParam ((scope.names.all λy=>y.2 != .local||scope.names.lookup y.1==!.local)=true) Zq._auto_1) (h5:autoParam (caps.map (λj=>X.N[j]?)=capN.map some) Zq._auto_1)
  (h6:autoParam ((capN.all λx=>scope.names.lookup x==!.free)=true) Zq._auto_1):ae X scope own capN caps where
 kind:=h1
 one:=λy hy=>eq_of_beq (q0O.mp h2 y hy)
 free:=λy hy e=>by
  have:=q0O.mp h3 y hy;rw[e]at this;rw[q2l]at this;rcases this with z |z
  .exact absurd z 'd'
  .rw[q2l]at z;exact z.imp (λz=>eq_of_beq z) λz=>eq_of_beq z
 loc:=λy hy e=>by
  have:=q0O.mp h4 y hy;rw[e]at this;rw[q2l]at this;rcases this with z |z
  .exact absurd z 'd'
  .exact eq_of_beq z
 caps:=h5
 capf:=λx hx=>eq_of_beq (q0O.mp h6 x hx)
end
abbrev qI(g:Int->Int->Int):D2:=fI (λ_ _=>True) λi j=>.int (g i j)
abbrev qB(g:Int->Int->Bool):D2:=fI (λ_ _=>True) λi j=>.bool (g i j)
theorem Ps(d:DE X F a ta)(f:DE X F b tb):DE X F (.BinOp a .Add b pos) (cU (qI λi j=>i+j) ta tb):=kJ KJ (kL λ_ _ _=>.int _) d f
theorem Pt(d:DE X F a ta)(f:DE X F b tb):DE X F (.BinOp a .Sub b pos) (cU (qI λi j=>i - j) ta tb):=kJ KL (kL λ_ _ _=>.int _) d f
theorem Pu(d:DE X F a ta)(f:DE X F b tb):DE X F (.BinOp a .Mult b pos) (cU (fI pB λi j=>.int (i * j)) ta tb):=kJ KM (sF λ_ _ _=>.int _) d f
theorem Pw(d:DE X F a ta)(f:DE X F b tb):DE X F (.BinOp a .FloorDiv b pos) (cU (fI vT λi j=>.int (i / j)) ta tb):=kJ KN (sF λ_ _ _=>.int _) d f
theorem Px(d:DE X F a ta)(f:DE X F b tb):DE X F (.BinOp a .Mod b pos) (cU (fI (λ_ j=>0<j) λi j=>.int (i % j)) ta tb):=kJ KO (sF λ_ _ _=>.int _) d f
theorem Py(d:DE X F a ta)(f:DE X F b tb):DE X F (.BinOp a .Add b pos) (cU wy ta tb):=kJ Me Nk d f
theorem Pz(d:DE X F a ta)(f:DE X F b tb):DE X F (.Compare a [.Lt] [b] pos) (cU (qB λi j=>decide (i<j)) ta tb):=nI zQ (kL λ_ _ _=>.bl _) d f (bD _)
theorem PB(d:DE X F a ta)(f:DE X F b tb):DE X F (.Compare a [.LtE] [b] pos) (cU (qB λi j=>decide (i<=j)) ta tb):=nI rX (kL λ_ _ _=>.bl _) d f (bD _)
theorem PC(d:DE X F a ta)(f:DE X F b tb):DE X F (.Compare a [.Gt] [b] pos) (cU (qB λi j=>decide (j<i)) ta tb):=nI zR (kL λ_ _ _=>.bl _) d f (bD _)
theorem PD(d:DE X F a ta)(f:DE X F b tb):DB X F (.Compare a [.Lt] [b] pos) (gC (cU (qB λi j=>decide (i<j)) ta tb)):=lV zQ (kL λ_ _ _=>.bl _) d f (bD _)
theorem PH(d:DE X F a ta)(f:DE X F b tb):DB X F (.Compare a [.LtE] [b] pos) (gC (cU (qB λi j=>decide (i<=j)) ta tb)):=lV rX (kL λ_ _ _=>.bl _) d f (bD _)
theorem PJ(d:DE X F a ta)(f:DE X F b tb):DB X F (.Compare a [.Gt] [b] pos) (gC (cU (qB λi j=>decide (j<i)) ta tb)):=lV zR (kL λ_ _ _=>.bl _) d f (bD _)
theorem PL(d:X.A.units+64<cLine)(f:DE X F a ta)(g:DE X F b tb):DE X F (.Compare a [.Eq] [b] pos) (cU (pL false) ta tb):=nI (AM d) ww f g (bD _)
theorem PM(d:X.A.units+64<cLine)(f:DE X F a ta)(g:DE X F b tb):DB X F (.Compare a [.Eq] [b] pos) (gC (cU (pL false) ta tb)):=lV (AM d) ww f g (bD _)
theorem PN(d:X.A.units+64<cLine)(f:DE X F a ta)(g:DE X F b tb):DB X F (.Compare a [.NotEq] [b] pos) (gC (cU (pL true) ta tb)):=lV (MX d) ww f g (bD _)
theorem PQ(d:DE X F a ta)(f:DE X F b tb):DE X F (.Compare a [.Is] [b] pos) (cU sG ta tb):=nI zS AR d f (bD _)
theorem PR(d:DE X F a ta)(f:DE X F b tb):DB X F (.Compare a [.Is] [b] pos) (gC (cU sG ta tb)):=lV zS AR d f (bD _)
theorem PU(d:DE X F a ta)(f:DE X F b tb):DB X F (.Compare a [.IsNot] [b] pos) (gC (cU wx ta tb)):=lV zT AS d f (bD _)
theorem PV(d:DE X F a ta)(h:DE X F b tb)(f:DE X F c tc)(g:lastMarks [.LtE,.LtE] [b,c]=false:=by with_unfolding_all rfl):DE X F (.Compare a [.LtE,.LtE] [b,c] pos) (wA (λi j=>decide (i<=j)) (λi j=>decide (i<=j)) ta tb tc):=ND rX rX d h f g
theorem eJ(d:Gl X x)(f:X.mg x=!.int i t)(hd:autoParam ((x==("__debug__":Str))=false) Zr._auto_1):DE X F (.Name x pos) (dC (.int i)):=pJ (v:=.int i) (rP d f #[t,rfl] hd) λ_=>.int i
mutual
theorem BN:∀(d:PyData),d.canLay0=true->PyData.eqv d d=true
 |.none,_=>rfl
 |.bool b,_=>by simp[PyData.eqv]
 |.int i,_=>by simp[PyData.eqv]
 |.str s,_=>by simp[PyData.eqv]
 |.list xs,h=>by rw[PyData.eqv];exact wP xs (by simpa[PyData.canLay0] using h)
 |.tuple xs,h=>by rw[PyData.eqv];exact wP xs (by simpa[PyData.canLay0] using h)
 |.dict kvs,h=>by simp[PyData.canLay0]at h
theorem wP:∀(ds:List PyData),PyData.canLayAll0 ds=true->PyData.eqvAll ds ds=true
 |[],_=>rfl
 |x::xs,h=>by simp only[PyData.canLayAll0,q0I]at h;rw[PyData.eqvAll,BN x h.1,wP xs h.2];rfl
theorem BO(h:SeqAt.shaped d=true):PyData.eqv d d=true:=BN d (SeqAt.canLay_of_shaped h)
end
end L2.L3
namespace L2
open PySem PySem.Spec PyProof.Rows
def BP(K:Frag):R2:=λx y H Q=>∃a b c d,x=.ref a/\y=.ref b/\dX K H a c/\dX K H b d/\c.length+d.length<=sizeLine/\
 (c=[]->Q (.ref b) H)/\(c≠[]->d=[]->Q (.ref a) H)/\(c≠[]->d≠[]->∀p,H p=none->Q (.ref p) (aL H p (.tup (c++d))))
theorem PX:cP X (binaryOp .Add) (BP X.K):=by
 intro c s Y H x y v u Q I m o h;obtain⟨a,b,p,z,rfl,rfl,q,hb,A,B,C,D⟩:=h
 by_cases i:p=[]
 .subst i;cases m;cases o;obtain⟨j,E,G,_⟩:=I.tuple q;obtain⟨d,N,J,_⟩:=I.tuple hb;have L:=E.nil_iff.mpr rfl;subst L;obtain⟨⟨cls,dd,data,sl⟩,r,t,n,hd⟩:=id G;obtain⟨⟨w,k,data2,l⟩,e,f,M,g⟩:=id J;subst t hd f g;exact concat_meets #[_,r,rfl] #[_,e,rfl] noFill_tuple_add seq_tuple_add q10 q1U (q1R _ _)
   (tuple_addW0 a b [].toArray d.toArray n M dd k sl l rfl) #[r,e,.ref b,H,I,rfl,B rfl]
 .exact LO c s Y H _ _ v u Q I m o #[a,b,p,z,rfl,rfl,q,hb,i,A,C i,D i]
end L2
namespace L2.L3
open PySem PySem.Spec PyProof.Rows
theorem PY{K}:fG (BP K) wz where
 mn:=λ_ _ _ _ k zq1a=>by obtain⟨ds,es,e1,e2,e3,q⟩:=zq1a;exact#[ds,es,e1,e2,e3,k _ q]
 ok:=λO H u v x y Q hO h1 h2 zq2a=>by
  obtain⟨ds,es,e1,e2,e3,q⟩:=zq2a;subst e1 e2;obtain⟨a,xs,rfl,ha,hd⟩:=id h1.tup_inv;obtain⟨b,ys,rfl,hb,he⟩:=id h2.tup_inv;refine#[a,b,xs,ys,rfl,rfl,.inl (gc ha).1,.inl (gc hb).1,by rw[hd.length,he.length];exact e3,λz=>?_,λ_ z=>?_,λ_ _ p hp=>q _ _ (bA hp) (nJ hp (hO p hp) (hd.append he))]
  .subst z;cases hd;exact q _ H (λ_ _ h=>h) h2
  .subst z;cases he;rw[q0G]at q;exact q _ H (λ_ _ h=>h) h1
theorem PZ(c:DE X F a ta)(d:DE X F b tb):DE X F (.BinOp a .Add b pos) (cU wz ta tb):=kJ PX PY c d
theorem Qa(c:DE X F a ta)(d:DE X F b tb):DE X F (.BinOp a .Pow b pos) (cU (fI vU λi j=>.int (i ^ j.toNat)) ta tb):=kJ KP (sF λ_ _ _=>.int _) c d
set_option genInjectivity true in
inductive fK (α:Type) where
 |ok (a:α) (U:ak) |ex (c:Str) (U:ak) |bad
@[simp]noncomputable def fK.bind{α β:Type}(o:fK α)(k:α->ak->fK β):fK β:=match o with
 |.ok a U=>k a U
 |.ex c U=>.ex c U
 |.bad=>.bad
@[simp]noncomputable def lift{α:Type}(o:Option α)(U:ak):fK α:=match o with
 |some a=>.ok a U
 |none=>.bad
abbrev XM(α:Type):=ak->fK α
def wp{α:Type}(E:Str->ak->Prop)(m:XM α):ak->(α->ak->Prop)->Prop:=λU Q=>match m U with
 |.ok a b=>Q a b
 |.ex c b=>E c b
 |.bad=>False
theorem aE:∀U (Q e:α->ak->Prop),(∀d b,Q d b->e d b)->wp E m U Q->wp E m U e:=λU Q e k q=>by
 unfold wp at q ⊢;generalize m U=o at q ⊢;cases o with
 |ok a b=>exact k _ _ q
 |ex c b=>exact q
 |bad=>exact q
theorem bK{k:α->XM β}(h:wp E (λU=>(m U).bind k) U Q):wp E m U λa b=>wp E (k a) b Q:=by
 unfold wp at h ⊢;simp only at h;generalize m U=o at h ⊢;cases o with
 |ok a b=>exact h
 |ex c b=>exact h
 |bad=>exact h
theorem cJ{o:Option α}(h:wp E (lift o) U Q):∃a,o=!a/\Q a U:=by
 cases o with
 |some a=>exact#[a,rfl,h]
 |none=>exact h.elim
theorem DE.imp(h:DE X F e t)(f:Mn t')(k:∀U Q,t' U Q->t U Q):DE X F e t':=#[f,h.pe.imp λY H Q d=>by obtain⟨U,O,st,q⟩:=d;exact#[U,O,st,k U _ q]]
theorem DO.imp(h:DO X F e t)(f:Bk t')(k:∀U Q,t' U Q->t U Q):DO X F e t':=#[f,h.pe.imp λY H Q d=>by obtain⟨U,O,st,q⟩:=d;exact#[U,O,st,k U _ q]]
theorem DA.imp(h:DA X F es t)(f:sH t')(k:∀U Q,t' U Q->t U Q):DA X F es t':=#[f,h.pa.imp λY H Q d=>by obtain⟨U,O,st,q⟩:=d;exact#[U,O,st,k U _ q]]
theorem DX.imp(h:DX X F es t)(f:Bm t')(k:∀U Q,t' U Q->t U Q):DX X F es t':=#[f,h.pa.imp λY H Q d=>by obtain⟨U,O,st,q⟩:=d;exact#[U,O,st,k U _ q]]
theorem DB.imp(h:DB X F e t)(f:iu t')(k:∀U Q,t' U Q->t U Q):DB X F e t':=#[f,h.pt.imp λY H Q d=>by obtain⟨U,O,st,q⟩:=d;exact#[U,O,st,k U _ q]]
theorem DW.imp(h:DW X F e t)(f:iu t')(k:∀U Q,t' U Q->t U Q):DW X F e t':=#[f,h.pw.imp λY H Q d=>by obtain⟨U,O,st,q⟩:=d;exact#[U,O,st,k U _ q]]
theorem iy.imp(h:iy X F d t)(k:∀D U,t' D U->t D U):iy X F d t':=PSs.imp h λD Y H g=>by obtain⟨U,O,i,st,q,f⟩:=g;exact#[U,O,i,st,k i U q,f]
theorem DS.imp(h:DS X F s t)(k:∀D U,t' D U->t D U):DS X F s t':=PS.imp h λD Y H d=>by obtain⟨U,O,g,st,q,f⟩:=d;exact#[U,O,g,st,k g U q,f]
abbrev FE(X:Cx)(F:Fx)(E:Str->ak->Prop)(e:Expr)(m:XM PyData):Prop:=DE X F e (wp E m)
abbrev FO(X:Cx)(F:Fx)(E:Str->ak->Prop)(e:Expr)(m:XM af):Prop:=DO X F e (wp E m)
abbrev FB(X:Cx)(F:Fx)(E:Str->ak->Prop)(e:Expr)(m:XM Bool):Prop:=DB X F e (wp E m)
abbrev FW(X:Cx)(F:Fx)(E:Str->ak->Prop)(e:Expr)(m:XM Bool):Prop:=DW X F e (wp E m)
abbrev FA(X:Cx)(F:Fx)(E:Str->ak->Prop)(es:List Expr)(m:XM (List PyData)):Prop:=DA X F es (wp E m)
abbrev FX(X:Cx)(F:Fx)(E:Str->ak->Prop)(es:List Expr)(m:XM (List AX)):Prop:=DX X F es (wp E m)
abbrev FI(X:Cx)(F:Fx)(E:Str->ak->Prop)(d iter:Expr)(m:XM (List PyData)):Prop:=DI X F d iter (wp E m)
abbrev GM:=PyData->ak->Option ak
def eP(g:GM):eF:=λd U Q=>match g d U with
 |some f=>Q f
 |none=>False
abbrev FG(X:Cx)(F:Fx)(d:Expr)(g:GM):Prop:=DG X F d (eP g)
abbrev FS(X:Cx)(F:Fx)(E:Str->ak->Prop)(s:Stmt)(m:SM):Prop:=DS X F s (wpS E m)
abbrev jb(X:Cx)(F:Fx)(E:Str->ak->Prop)(s:List Stmt)(m:SM):Prop:=iy X F s (wpS E m)
@[simp]noncomputable def xC(d:PyData):XM PyData:=λU=>.ok d U
@[simp]noncomputable def xV(i:Nat):XM PyData:=λU=>match U[i]? with
 |some (!.dat d)=>.ok d U
 |some (!.own false (.l ds))=>.ok (.list ds) (U.set i (!.dat (.list ds)))
 |_=>.bad
theorem ag(h:DE X F e (dC d)):FE X F E e (xC d):=h.imp aE λ_ _ q=>q
theorem Qb(h:DE X F e (dV i)):FE X F E e (xV i):=h.imp aE λU Q q=>by
 unfold wp xV at q;unfold dV;cases h:U[i]? with
 |none=>rw[h]at q;exact q.elim
 |some o=>
  rw[h]at q;cases o with
  |none=>exact q.elim
  |some c=>
   cases c with
   |dat d=>exact .inl #[d,rfl,q]
   |scr n=>exact q.elim
   |exc n=>exact q.elim
   |vw n=>exact q.elim
   |own io f=>
    cases io with
    |true=>exact q.elim
    |false=>
     cases f with
     |l ds=>exact .inr #[ds,rfl,q]
     |m _ _=>exact q.elim
     |o _ _=>exact q.elim
     |sd _=>exact q.elim
     |ll _=>exact q.elim
     |pr _ _ _=>exact q.elim
     |oo _ _=>exact q.elim
@[simp] def aj(g:PyData->PyData->Option PyData)(a b:XM PyData):XM PyData:=λU=>(a U).bind λx d=>(b d).bind λy=>lift (g x y)
def F2(f:D2)(g:PyData->PyData->Option PyData):Prop:=∀x y d Q,g x y=!d->Q d->f x y Q
theorem gj(k:F2 f g)(h:DE X F e (cU f (wp E i) (wp E j))):FE X F E e (aj g i j):=h.imp aE λU Q q=>by refine aE _ _ _ (λx p l=>?_) (bK q);refine aE _ _ _ (λy r m=>?_) (bK l);obtain⟨d,n,o⟩:=cJ m;exact k x y d _ n o
@[simp] def aZ(m:XM PyData):XM Bool:=λU=>(m U).bind λd=>lift (match d with |.bool b=>!b |_=>none)
theorem BQ(q:wp E (aZ m) U Q):gC (wp E m) U Q:=aE _ _ _ (λd i g=>by
 obtain⟨b,f,h⟩:=cJ g;cases d with
 |bool j=>cases f;exact#[_,rfl,h]
 |_=>cases f) (bK q)
theorem me(k:F2 f g)(h:DB X F e (gC (cU f (wp E i) (wp E j)))):FB X F E e (aZ (aj g i j)):=h.imp aE λU Q q=>by refine aE _ _ _ (λx r m=>?_) (bK (BQ q));refine aE _ _ _ (λy s n=>?_) (bK m);obtain⟨d,o,p⟩:=cJ n;exact k x y d _ o p
theorem ed(h:DB X F e (gC (wp E m))):FB X F E e (aZ m):=h.imp aE λU Q q=>BQ q
@[simp]noncomputable def gI(g:Int->Int->PyData):PyData->PyData->Option PyData:=λx y=>match x,y with
 |.int i,.int j=>some (g i j)
 |_,_=>none
@[simp]noncomputable def nM(C:Int->Int->Bool)(g:Int->Int->PyData):PyData->PyData->Option PyData:=λx y=>match x,y with
 |.int i,.int j=>if C i j=true then some (g i j) else none
 |_,_=>none
theorem kP:F2 (fI (λ_ _=>True) g) (gI g):=λx y d Q e q=>by
 unfold gI at e;split at e
 .cases e;exact#[_,_,rfl,rfl,trivial,q]
 .cases e
theorem sO(h:∀i j,C i j=true->P i j):F2 (fI P g) (nM C g):=λx y d Q e q=>by
 unfold nM at e;split at e
 .split at e
  .rename_i f;cases e;exact#[_,_,rfl,rfl,h _ _ f,q]
  .cases e
 .cases e
noncomputable def kQ(i j:Int):Bool:=(decide (-(2 ^ 64)<i)&&decide (i<2 ^ 64))||(decide (-(2 ^ 64)<j)&&decide (j<2 ^ 64))
noncomputable def sP(_ j:Int):Bool:=decide (0<j)&&decide (j<1073741824)
noncomputable def pT(_ j:Int):Bool:=decide (0<j)
noncomputable def sQ(i j:Int):Bool:=decide (0<=j)&&decide (j<=1000000)&&decide (i.natAbs<2 ^ 64)
theorem Qc(i j)(h:kQ i j=true):pB i j:=by unfold kQ at h;simp only[q2l,q0I,decide_eq_true_eq]at h;exact h
theorem Qd(i j)(h:sP i j=true):vT i j:=by unfold sP at h;simp only[q0I,decide_eq_true_eq]at h;exact h
theorem Qe(i j)(h:pT i j=true):0<j:=by unfold pT at h;simpa using h
theorem Qf(i j)(h:sQ i j=true):vU i j:=by unfold sQ at h;simp only[q0I,decide_eq_true_eq]at h;exact#[h.1.1,h.1.2,h.2]
noncomputable def aI(neg:Bool):PyData->PyData->Option PyData:=λx y=>if (SeqAt.shaped x&&SeqAt.shaped y)=true then some (.bool (PyData.eqv x y != neg)) else none
theorem wQ:F2 (pL neg) (aI neg):=λx y d Q e q=>by
 unfold aI at e;split at e
 .rename_i h;cases e;exact#[(Bool.and_eq_true_iff.mp h).1,(Bool.and_eq_true_iff.mp h).2,q]
 .cases e
@[simp] def nN:PyData->PyData->Option PyData:=λx y=>match y with |.none=>!.bool (isNone x) |_=>none
@[simp] def jB:PyData->PyData->Option PyData:=λx y=>match y with |.none=>!.bool (not (isNone x)) |_=>none
theorem BS:F2 sG nN:=λx y d Q e q=>by
 unfold nN at e;split at e
 .cases e;exact#[rfl,q]
 .cases e
theorem BT:F2 wx jB:=λx y d Q e q=>by
 unfold jB at e;split at e
 .cases e;exact#[rfl,q]
 .cases e
@[simp]noncomputable def mf:PyData->PyData->Option PyData:=λx y=>match x,y with
 |.list ds,.list es=>if ds.length+es.length<=sizeLine then some (.list (ds++es)) else none
 |_,_=>none
@[simp]noncomputable def eZ:PyData->PyData->Option PyData:=λx y=>match x,y with
 |.tuple ds,.tuple es=>if ds.length+es.length<=sizeLine then some (.tuple (ds++es)) else none
 |_,_=>none
theorem Qg:F2 wy mf:=λx y d Q e q=>by
 unfold mf at e;split at e
 .split at e
  .rename_i h;cases e;exact#[_,_,rfl,rfl,h,q]
  .cases e
 .cases e
theorem Qh:F2 wz eZ:=λx y d Q e q=>by
 unfold eZ at e;split at e
 .split at e
  .rename_i h;cases e;exact#[_,_,rfl,rfl,h,q]
  .cases e
 .cases e
@[simp] def ko(a:XM PyData):XM PyData:=λU=>(a U).bind λd=>lift (match d with |.int i=>!.int (-i) |_=>none)
theorem nO(h:FE X F E a f):FE X F E (.UnaryOp .USub a pos) (ko f):=(Nv h).imp aE λU Q q=>aE _ _ _ (λd l j=>by
 obtain⟨y,g,k⟩:=cJ j;cases d with
 |int i=>cases g;exact#[i,rfl,k]
 |_=>cases g) (bK q)
@[simp] def BU(a:XM PyData):XM PyData:=λU=>(a U).bind λd=>lift (match d with |.bool b=>!.bool (not b) |_=>none)
theorem Qi(h:FE X F E a f):FE X F E (.UnaryOp .Not a pos) (BU f):=(Nx h).imp aE λU Q q=>aE _ _ _ (λd k i=>by
 obtain⟨y,g,j⟩:=cJ i;cases d with
 |bool b=>cases g;exact#[b,rfl,j]
 |_=>cases g) (bK q)
@[simp]noncomputable def BV(b:XM PyData)(d:PyData):XM PyData:=λf=>match d with
 |.bool true=>b f
 |.bool false=>.ok (.bool false) f
 |_=>.bad
@[simp]noncomputable def BW(b:XM PyData)(d:PyData):XM PyData:=λf=>match d with
 |.bool true=>.ok (.bool true) f
 |.bool false=>b f
 |_=>.bad
@[simp] def fo(a b:XM PyData):XM PyData:=λU=>(a U).bind (BV b)
@[simp] def wR(a b:XM PyData):XM PyData:=λU=>(a U).bind (BW b)
theorem fL(i:FE X F E a h)(j:FE X F E (.BoolOp .And (b::rest) pos) f):FE X F E (.BoolOp .And (a::b::rest) pos) (fo h f):=(NB i j).imp aE λU Q q=>aE _ _ _ (λd l g=>by
 cases d with
 |bool b=>cases b with
  |true=>exact#[true,rfl,fj g]
  |false=>exact#[false,rfl,fi g]
 |_=>exact g.elim) (bK q)
theorem BX(i:FE X F E a h)(j:FE X F E (.BoolOp .Or (b::rest) pos) f):FE X F E (.BoolOp .Or (a::b::rest) pos) (wR h f):=(NC i j).imp aE λU Q q=>aE _ _ _ (λd l g=>by
 cases d with
 |bool b=>cases b with
  |true=>exact#[true,rfl,fj g]
  |false=>exact#[false,rfl,fi g]
 |_=>exact g.elim) (bK q)
theorem gZ(h:FE X F E a d):FE X F E (.BoolOp op [a] pos) d:=NA h
@[simp] def wS(p f:Int->Int->Bool)(a b c:XM PyData):XM PyData:=λU=>(a U).bind λx g=>(b g).bind λy d=>match x,y with
 |.int i,.int j=>if p i j=true then(c d).bind (λz=>lift (match z with |.int k=>!.bool (f j k) |_=>none)) else .ok (.bool false) d
 |_,_=>.bad
theorem Qj(h:DE X F e (wA p l (wp E o) (wp E r) (wp E n))):FE X F E e (wS p l o r n):=h.imp aE λU Q q=>by
 refine aE _ _ _ (λx w t=>?_) (bK q);refine aE _ _ _ (λy A f=>?_) (bK t);cases x with
 |int i=>cases y with
  |int j=>
   refine#[i,j,rfl,rfl,?_]
   by_cases g:p i j=true
   .simp only[if_pos g]at f;rw[if_pos g];refine aE _ _ _ (λz B u=>?_) (bK f);obtain⟨d,s,v⟩:=cJ u;cases z with
    |int k=>cases s;exact#[k,rfl,v]
    |_=>cases s
   .simp only[if_neg g]at f;rw[if_neg g];exact f
  |_=>exact f.elim
 |_=>exact f.elim
@[simp] def fM(a:XM Bool):XM Bool:=λU=>(a U).bind λb d=>.ok (not b) d
theorem gk(h:FB X F E a f):FB X F E (.UnaryOp .Not a pos) (fM f):=(NF h).imp aE λU Q q=>aE _ _ _ (λd g i=>i) (bK q)
@[simp] def wT(a b:XM Bool):XM Bool:=λU=>(a U).bind λx d=>if x=true then b d else .ok false d
@[simp] def pU(a b:XM Bool):XM Bool:=λU=>(a U).bind λx d=>if x=true then .ok true d else b d
theorem BY(h:FB X F E a d):FW X F E (.BoolOp .And [a] pos) d:=NJ h
theorem sR(h:FB X F E a d):FW X F E (.BoolOp .Or [a] pos) d:=NK h
theorem BZ(j:FB X F E a h)(l:FW X F E (.BoolOp .And (b::rest) pos) f):FW X F E (.BoolOp .And (a::b::rest) pos) (wT h f):=(NL j l).imp aE λU Q q=>aE _ _ _ (λd g i=>by
 cases d with
 |true=>exact fj i
 |false=>exact fi i) (bK q)
theorem sS(j:FB X F E a h)(l:FW X F E (.BoolOp .Or (b::rest) pos) f):FW X F E (.BoolOp .Or (a::b::rest) pos) (pU h f):=(NM j l).imp aE λU Q q=>aE _ _ _ (λd g i=>by
 cases d with
 |true=>exact fj i
 |false=>exact fi i) (bK q)
theorem nP(h:FW X F E e d):FB X F E e d:=h.db
@[simp] def mh{α:Type}(t:XM Bool)(a b:XM α):XM α:=λU=>(t U).bind λx d=>if x=true then a d else b d
theorem sT{mt}(j:FB X F E c mt)(l:FE X F E a f)(m:FE X F E b g):FE X F E (.IfExp c a b pos) (mh mt f g):=(NO j l m).imp aE λU Q q=>aE _ _ _ (λd h i=>by
 cases d with
 |true=>exact fj i
 |false=>exact fi i) (bK q)
@[simp]noncomputable def aM:XM (List PyData):=λU=>.ok [] U
@[simp] def av(a:XM PyData)(r:XM (List PyData)):XM (List PyData):=λU=>(a U).bind λd f=>(r f).bind λh g=>.ok (d::h) g
theorem bc:FA X F E [] aM:=Nn.imp aE λ_ _ q=>q
theorem Qk(l:FE X F E e i)(m:FA X F E es h)(n:autoParam (starEach (e::es) X.env=(false,eval e X.env)::starEach es X.env) Zq._auto_1):FA X F E (e::es) (av i h):=(No l m n).imp aE λU Q q=>aE _ _ _ (λd j o=>aE _ _ _ (λg f p=>p) (bK o)) (bK q)
@[simp] def cn(a:XM (List PyData)):XM PyData:=λU=>(a U).bind λd=>lift (if d.length<=sizeLine then some (.tuple d) else none)
@[simp] def gl(a:XM (List PyData)):XM PyData:=λU=>(a U).bind λd=>lift (if d.length<=sizeLine then some (.list d) else none)
theorem cH(h:FA X F E es g):FE X F E (.Tuple es i pos) (cn g):=(Nr h).imp aE λU Q q=>aE _ _ _ (λm l j=>by
 obtain⟨d,f,k⟩:=cJ j;split at f
 .rename_i h;cases f;exact#[h,k]
 .cases f) (bK q)
theorem jc(h:FA X F E es g):FE X F E (.List es pos) (gl g):=(Nt h).imp aE λU Q q=>aE _ _ _ (λl k i=>by
 obtain⟨d,f,j⟩:=cJ i;split at f
 .rename_i h;cases f;exact#[h,j]
 .cases f) (bK q)
@[simp] def cV(g:List PyData->Option PyData)(a:XM (List PyData)):XM PyData:=λU=>(a U).bind λd=>lift (g d)
def FN(f:DN)(g:List PyData->Option PyData):Prop:=∀h d Q,g h=!d->Q d->f h Q
theorem fq(j:FN f g)(h:DE X F e (lW f (wp E i))):FE X F E e (cV g i):=h.imp aE λU Q q=>aE _ _ _ (λn o k=>by
 obtain⟨d,l,m⟩:=cJ k;exact j n d _ l m) (bK q)
@[simp]noncomputable def gm:List PyData->Option PyData:=λd=>match d with
 |[.list ds]=>some (.int ds.length)
 |[.tuple ds]=>some (.int ds.length)
 |_=>none
theorem mi:FN Bw gm:=λf d Q e q=>by
 unfold gm at e;split at e
 .cases e;exact#[_,.inl rfl,q]
 .cases e;exact#[_,.inr rfl,q]
 .cases e
@[simp]noncomputable def sU:List PyData->Option PyData:=λd=>match d with
 |[.int i,.int j]=>some (.int (max i j))
 |_=>none
theorem Cb:FN By sU:=λf d Q e q=>by
 unfold sU at e;split at e
 .cases e;exact#[_,_,rfl,q]
 .cases e
@[simp]noncomputable def pV:List PyData->Option PyData:=λd=>match d with
 |[.list ds]=>some (.tuple ds)
 |[.tuple ds]=>some (.tuple ds)
 |_=>none
theorem Cc:FN BA pV:=λf d Q e q=>by
 unfold pV at e;split at e
 .cases e;exact .inl #[_,rfl,q]
 .cases e;exact .inr #[_,rfl,q]
 .cases e
noncomputable def bools?:List PyData->Option (List Bool)
 |[]=>some []
 |.bool i::r=>(bools? r).map (i::·)
 |_::_=>none
theorem wU:∀{g f},bools? g=!f->g=f.map .bool
 |[],_,e=>by cases e;rfl
 |d::r,f,e=>by
  cases d with
  |bool i=>
   cases q:bools? r with
   |none=>simp[bools?,q]at e
   |some l=>simp[bools?,q]at e;subst e;rw[wU q];rfl
  |_=>cases e
def nQ:List PyData->Option PyData:=λd=>match d with
 |[.list ds]=>(bools? ds).map λbs=>.bool (bs.all id)
 |_=>none
theorem Ql:FN BC nQ:=λh d Q e q=>by
 unfold nQ at e;split at e
 .obtain⟨bs,f,g⟩:=q0g.mp e;rw[wU f];subst g;exact#[bs,rfl,q]
 .cases e
@[simp]noncomputable def sV(i:Nat):XM PyData:=λU=>match U[i]? with
 |some (!.scr ns)=>if ns.length<=63 then .ok (.int ns.length) U else .bad
 |_=>.bad
@[simp] def sW(i:Nat)(a:XM PyData):XM PyData:=λU=>match U[i]? with
 |some (!.scr ns)=>(a U).bind λd=>lift (match d with |.int k=>(bN ns k).map .int |_=>none)
 |_=>.bad
@[simp]noncomputable def wV(i:Nat):XM Bool:=λU=>match U[i]? with
 |some (!.scr ns)=>.ok (decide (ns=[])) U
 |_=>.bad
theorem Cd(h:DE X F e (BH i)):FE X F E e (sV i):=h.imp aE λU Q q=>by
 unfold wp sV at q;cases h:U[i]? with
 |none=>rw[h]at q;exact q.elim
 |some o=>
  rw[h]at q;cases o with
  |none=>exact q.elim
  |some c=>
   cases c with
   |scr ns=>
    simp only at q
    by_cases d:ns.length<=63
    .rw[if_pos d]at q;exact#[ns,h,λ_=>q]
    .rw[if_neg d]at q;exact q.elim
   |_=>exact q.elim
theorem Ce(h:DE X F e (BJ i (wp E f))):FE X F E e (sW i f):=h.imp aE λU Q q=>by
 unfold wp sW at q;cases h:U[i]? with
 |none=>rw[h]at q;exact q.elim
 |some o=>
  rw[h]at q;cases o with
  |none=>exact q.elim
  |some c=>
   cases c with
   |scr ns=>
    refine#[ns,h,aE _ _ _ (λd s j=>?_) (bK q)];obtain⟨y,g,l⟩:=cJ j;cases d with
    |int k=>obtain⟨n,p,r⟩:=q0g.mp g;subst r;exact#[k,n,rfl,p,l]
    |_=>cases g
   |_=>exact q.elim
theorem Qm(h:DB X F e (BM i)):FB X F E e (wV i):=h.imp aE λU Q q=>by
 unfold wp wV at q;cases h:U[i]? with
 |none=>rw[h]at q;exact q.elim
 |some o=>
  rw[h]at q;cases o with
  |none=>exact q.elim
  |some c=>
   cases c with
   |scr ns=>exact#[ns,h,q]
   |_=>exact q.elim
@[simp]noncomputable def aA(i:Nat):GM:=λd U=>!U.set i (!.dat d)
theorem Qn(h:DG X F e (gN i)):FG X F e (aA i):=#[λd U Q g k q=>k _ q,h.pg.imp λv Y H Q f=>by obtain⟨U,O,d,st,hd,q⟩:=f;exact#[U,O,d,st,hd,q]]
abbrev kq:=List PyData->ak->Option ak
def nR(g:kq):kN:=λd U Q=>match g d U with
 |some f=>Q f
 |none=>False
abbrev sX(X:Cx)(F:Fx)(d:List Expr)(g:kq):Prop:=pN X F d (nR g)
@[simp]noncomputable def jd:kq:=λd U=>match d with |[]=>!U |_=>none
@[simp] def cE(t:GM)(u:kq):kq:=λg U=>match g with |d::r=>(t d U).bind λf=>u r f |[]=>none
theorem Qo:∀d U  Q f,(∀h,Q h->f h)->eP g d U Q->eP g d U f:=λd U Q f k q=>by
 unfold eP at q ⊢;generalize g d U=o at q ⊢;cases o with
 |some h=>exact k _ q
 |none=>exact q
theorem Cf:∀d U  Q f,(∀h,Q h->f h)->nR g d U Q->nR g d U f:=λd U Q f k q=>by
 unfold nR at q ⊢;generalize g d U=o at q ⊢;cases o with
 |some h=>exact k _ q
 |none=>exact q
theorem nU:sX X F [] jd:=#[Cf,Og.pg.imp λv Y H Q f=>by
 obtain⟨U,O,d,st,hd,q⟩:=f;exact#[U,O,d,st,hd,by
 cases d with
 |nil=>exact#[rfl,q]
 |cons _ _=>exact q.elim]]
theorem ee(k:FG X F e g)(l:sX X F es f)(i:autoParam ((assignEach (e::es) X.env).map (·.2)=assign e X.env::(assignEach es X.env).map (·.2)) Zq._auto_1):sX X F (e::es) (cE g f):=#[Cf,(Oh k l i).pg.imp λv Y H Q j=>by
 obtain⟨U,O,d,st,hd,q⟩:=j;exact#[U,O,d,st,hd,by
 unfold nR cE at q;cases d with
 |nil=>exact q.elim
 |cons d r=>
  refine#[d,r,rfl,?_];unfold eP;simp only at q;cases h:g d U with
  |none=>rw[h]at q;exact q
  |some m=>rw[h]at q;exact q]]
@[simp]noncomputable def gG(n:Nat)(t:kq):GM:=λd U=>match d with |.tuple ds=>if ds.length=n then t ds U else none |_=>none
theorem nV{pos:Pos}{k }(j:X.calm=true)(h:sX X F es i)(l:autoParam ((assignEach es X.env).length=n) Zq._auto_1)(f:autoParam ((assignEach es X.env).findIdx? (·.1)=none) Zq._auto_1):FG X F (.Tuple es k pos) (gG n i):=#[Qo,(Oj j h l f).pg.imp λv Y H Q m=>by
 obtain⟨U,O,d,st,hd,q⟩:=m;exact#[U,O,d,st,hd,by
 unfold eP gG at q;cases d with
 |tuple ds=>
  simp only at q
  by_cases g:ds.length=n
  .rw[if_pos g]at q;exact#[ds,rfl,g,q]
  .rw[if_neg g]at q;exact q.elim
 |_=>exact q.elim]]
@[simp]noncomputable def aJ:XM (List AX):=λU=>.ok [] U
@[simp] def aw(a:XM PyData)(r:XM (List AX)):XM (List AX):=λU=>(a U).bind λd f=>(r f).bind λas g=>.ok (.d d::as) g
@[simp] def ba(j:Nat)(r:XM (List AX)):XM (List AX):=λU=>match U[j]? with
 |some (!_)=>(r U).bind λas d=>.ok (.s j::as) d
 |_=>.bad
theorem aN:FX X F E [] aJ:=OM.imp aE λ_ _ q=>q
theorem Qp(j:FE X F E e g)(l:FX X F E es h)(n:autoParam (starEach (e::es) X.env=(false,eval e X.env)::starEach es X.env) Zq._auto_1):FX X F E (e::es) (aw g h):=(ON j l n).imp aE λU Q q=>aE _ _ _ (λd i o=>aE _ _ _ (λr f p=>p) (bK o)) (bK q)
theorem Qq(g:PE X (.Name x p) (cu j))(i:FX X F E es d)(l:autoParam (starEach (.Name x p::es) X.env=(false,eval (.Name x p) X.env)::starEach es X.env) Zq._auto_1):FX X F E (.Name x p::es) (ba j d):=(OO g i l).imp aE λU Q q=>by
 unfold wp ba at q;cases h:U[j]? with
 |none=>rw[h]at q;exact q.elim
 |some o=>
  rw[h]at q;cases o with
  |none=>exact q.elim
  |some c=>exact#[#[c,h],aE _ _ _ (λas f n=>n) (bK (q))]
@[simp] def mj(f:FM)(as:List AX):XM af:=λU=>match iA U as with
 |some (h,g)=>(match f h with
  |.rt c d=>.ok c (dN g d (gF g U))
  |.ex c d=>.ex c (dN g d (gF g U))
  |.bad=>.bad)
 |none=>.bad
@[simp] def aS(f:FM)(a:XM (List AX)):XM af:=λU=>(a U).bind (mj f)
theorem Qr(h:DO X F e (Bp g E (wp E j))):FO X F E e (aS g j):=h.imp aE λU Q q=>aE _ _ _ (λas m d=>by
 unfold wp mj at d;unfold iZ;cases l:iA m as with
 |none=>rw[l]at d;exact d
 |some p=>
  obtain⟨n,o⟩:=p;rw[l]at d;simp only at d ⊢;cases i:g n with
  |rt c f=>rw[i]at d;exact d
  |ex c f=>rw[i]at d;exact d
  |bad=>rw[i]at d;exact d) (bK q)
@[simp] def aV(a:XM af):XM PyData:=λU=>(a U).bind λc=>lift (frz c)
theorem bh(h:FO X F E e d):FE X F E e (aV d):=h.de.imp aE λU Q q=>aE _ _ _ (λc g f=>cJ f) (bK q)
@[simp]noncomputable def bW:SM:=λU=>.nx U
@[simp]noncomputable def aC(m k:SM):SM:=λU=>match m U with
 |.nx d=>k d
 |o=>o
theorem ck:jb X F E [] bW:=Oo.imp λ_ _ q=>q
theorem fb{st:Stmt}(d:FS X F E st m)(f:jb X F E rest k):jb X F E (st::rest) (aC m k):=(Op d f).imp λD U q=>by
 show wpS E m _ U;unfold wpS aC at q;unfold wpS;generalize m U=o at q ⊢;cases o with
 |nx g=>exact q
 |_=>exact q
theorem dD{st:Stmt}(h:FS X F E st m):jb X F E [st] m:=Oq h
@[simp]noncomputable def dE{α:Type}(o:fK α)(k:α->ak->gY):gY:=match o with
 |.ok a U=>k a U
 |.ex c U=>.ex c U
 |.bad=>.bad
theorem fN{m}{k:α->SM}(q:wpS E (λU=>dE (m U) k) D U):wp E m U λa d=>wpS E (k a) D d:=by
 unfold wpS dE at q;unfold wp;simp only at q;generalize m U=o at q ⊢;cases o with
 |ok a d=>exact q
 |ex c d=>exact q
 |bad=>exact q
@[simp]noncomputable def wW(o:Option ak):gY:=match o with
 |some U=>.nx U
 |none=>.bad
@[simp] def bF(m:XM PyData)(g:GM):SM:=λU=>dE (m U) λd f=>wW (g d f)
theorem jC(q:wpS E (bF m g) D U):sK (wp E m) (eP g) D U:=aE _ _ _ (λd h f=>by
 unfold wpS wW at f;unfold eP;simp only at f;generalize g d h=o at f ⊢;cases o with
 |some i=>exact f
 |none=>exact f) (fN q)
theorem Qs{pos:Pos}(f:FE X F E e m)(h:FG X F d g)(i:autoParam (swapsWithSole [d] e pos.line X.env=pure false) Zq._auto_1)(j:autoParam (swappedStores [d] e X.env=pure none) Zq._auto_1)
  (k:autoParam ((assignEach [d] X.env).map (·.2)=[assign d X.env]) Zq._auto_1):FS X F E (.Assign [d] e pos) (bF m g):=(Ot f h i j k).imp λD U q=>jC q
theorem Cg{pos:Pos}(f:X.N.Nodup)(g:X.N[i]? = !x)(h:Loc X.env.scope x)(j:FE X F E e m)(k:autoParam (swapsWith e (!.Name x d) pos.line X.env=pure false) Zq._auto_1)
  (l:X.fn x=true\/X.env.scope.names.lookup x=!.local:=by first |exact .inl rfl |exact .inr rfl |assumption):FS X F E (.Assign [.Name x d] e pos) (bF m (aA i)):=(Ou f g h j k l).imp λD U q=>jC q
@[simp]noncomputable def wX(i:Nat)(c:af):SM:=λd=>if i<d.length then(match c with |.own true _=>.bad |c=>.nx (d.set i (!c))) else .bad
@[simp] def iB(i:Nat)(m:XM af):SM:=λU=>dE (m U) (wX i)
theorem Qt{pos:Pos}(j:X.N.Nodup)(l:X.N[i]? = !x)(n:Loc X.env.scope x)(o:FO X F E e m)(p:autoParam (swapsWith e (!.Name x g) pos.line X.env=pure false) Zq._auto_1)
  (r:X.fn x=true\/X.env.scope.names.lookup x=!.local:=by first |exact .inl rfl |exact .inr rfl |assumption):FS X F E (.Assign [.Name x g] e pos) (iB i m):=(OB j l n o p r).imp λD U q=>aE _ _ _ (λc s f=>by
 unfold wpS wX at f
 by_cases h:i<s.length
 .simp only[if_pos h]at f;cases c with
  |own io b=>cases io with
   |true=>exact f.elim
   |false=>exact#[h,(λ_ z=>by cases z),f]
  |dat d=>exact#[h,(λ_ z=>by cases z),f]
  |scr d=>exact#[h,(λ_ z=>by cases z),f]
  |exc d=>exact#[h,(λ_ z=>by cases z),f]
  |vw d=>exact#[h,(λ_ z=>by cases z),f]
 .simp only[if_neg h]at f) (fN q)
@[simp] def bz(m:XM PyData):SM:=λU=>dE (m U) λd f=>.rt (.dat d) f
@[simp] def er(m:XM af):SM:=λU=>dE (m U) λc d=>.rt c d
@[simp] def iD(m:XM af):SM:=λU=>dE (m U) λ_ d=>.nx d
theorem Ci(g:FE X F E e m):FS X F E (.Return (!e) pos) (bz m):=(Ox g).imp λD U q=>aE _ _ _ (λc f h=>h) (fN q)
theorem Cj(g:FO X F E e m):FS X F E (.Return (!e) pos) (er m):=(Oz g).imp λD U q=>aE _ _ _ (λc f h=>h) (fN q)
theorem Qu(f:FO X F E e m)(g:autoParam (swapsWith e none pos.line X.env=pure false) Zq._auto_1):FS X F E (.Expr e pos) (iD m):=(OD f g).imp λD U q=>aE _ _ _ (λc d h=>h) (fN q)
@[simp] def bO(t:XM Bool)(a b:SM):SM:=λU=>dE (t U) λx d=>if x=true then a d else b d
theorem Ck{mt}(m:FB X F E d mt)(n:jb X F E l f)(o:jb X F E i g):FS X F E (.If d l i pos) (bO mt f g):=(OF m n o).imp λD U q=>aE _ _ _ (λx h j=>by
 cases x with
 |true=>exact fj j
 |false=>exact fi j) (fN q)
noncomputable def cK(d n:String):Option Bool:=if d=n then some true else
 if d="bool"/\n="int" then some true else
 if (d="int"\/d="bool"\/d="str"\/d="list"\/d="tuple"\/d="NoneType")/\(n="int"\/n="bool"\/n="str"\/n="list"\/n="tuple") then some false else none
theorem Qv(h:cK d n=!b)(K):kitOne K (.type d) (.type n)=!b:=by
 unfold cK at h;split at h
 .rename_i e;cases h;subst e;unfold kitOne;rw[if_pos 'c']
 .split at h
  .rename_i e;cases h;obtain⟨rfl,rfl⟩:=e;rfl
  .rename_i a c;split at h
   .rename_i e;cases h;obtain⟨f,g⟩:=e;rcases f with rfl |rfl |rfl |rfl |rfl |rfl<;>rcases g with rfl |rfl |rfl |rfl |rfl<;>first |rfl |(exact absurd rfl a) |(exact absurd #[rfl,rfl] c)
   .cases h
@[simp] def jD(n:String)(a:XM PyData):XM PyData:=λU=>(a U).bind λd=>lift ((cK (wv d) n).map .bool)
theorem kr(h:DE X F e (Bf n (wp E f))):FE X F E e (jD n f):=h.imp aE λU Q q=>aE _ _ _ (λd m g=>by
 obtain⟨y,i,j⟩:=cJ g;obtain⟨b,k,l⟩:=q0g.mp i;subst l;exact#[b,Qv k,j]) (bK q)
noncomputable def cw(g:GM)(b:SM):List PyData->SM
 |[],U=>.nx U
 |d::r,U=>(match g d U with
  |some h=>(match b h with
   |.nx f=>cw g b r f
   |.ct f=>cw g b r f
   |.bk f=>.nx f
   |o=>o)
  |none=>.bad)
@[simp] def fO(s:XM (List PyData))(g:GM)(b:SM):SM:=λU=>dE (s U) (cw g b)
theorem Qw(t:PassesOwn (model X.prog X.w) X.A X.env X.xe)(u:X.calm=true)(f:FI X F E n iter s)(v:FG X F n g)(G:jb X F E body l)(y:autoParam (∀x,foldedSetIterable iter X.env x=pure x) Zs._auto_1):FS X F E (.For n iter body [] pos) (fO s g l):=
 (OZ t u f v G y).imp λD U q=>aE _ _ _ (λj p z=>by
  refine#[λi U=>wpS E (cw g l (j.drop i)) D U,z,λi d U hd f=>?_,λU h=>?_]
  .have e:j.drop i=d::j.drop (i+1):=by obtain⟨r,B⟩:=q0a.mp hd;rw[<-B];exact q05 r
   simp only[e]at f;unfold wpS cw at f;unfold eP;generalize g d U=o at f ⊢;cases o with
   |none=>exact f
   |some p=>
    show wpS E l _ p;simp only at f;unfold wpS;generalize l p=C at f ⊢;cases C with
    |nx m=>exact f
    |ct m=>exact f
    |bk m=>exact f
    |rt c m=>exact f
    |ex c m=>exact f
    |bad=>exact f
  .simp only[q1N]at h;exact h) (fN q)
@[simp] def dG(a:XM PyData):XM (List PyData):=λU=>(a U).bind λd=>lift (match d with |.list ds=>!ds |_=>none)
@[simp] def kt(a:XM PyData):XM (List PyData):=λU=>(a U).bind λd=>lift (match d with |.tuple ds=>!ds |_=>none)
theorem DI.imp(h:DI X F g iter t)(l:∀U Q i,(∀d j,Q d j->i d j)->t' U Q->t' U i)(k:∀U Q,t' U Q->t U Q):DI X F g iter t':=#[l,h.pi.imp λY H Q f=>by obtain⟨U,O,st,q⟩:=f;exact#[U,O,st,k U _ q]]
theorem hF(h:FE X F E e f):FI X F E i e (dG f):=(OU h).imp aE λU Q q=>aE _ _ _ (λd l j=>by
 obtain⟨y,g,k⟩:=cJ j;cases d with
 |list ds=>cases g;exact#[_,rfl,k]
 |_=>cases g) (bK q)
theorem ml(h:FE X F E e f):FI X F E i e (kt f):=(OV h).imp aE λU Q q=>aE _ _ _ (λd l j=>by
 obtain⟨y,g,k⟩:=cJ j;cases d with
 |tuple ds=>cases g;exact#[_,rfl,k]
 |_=>cases g) (bK q)
@[simp] def gn(g:List PyData->Option (List PyData))(a:XM (List PyData)):XM (List PyData):=λU=>(a U).bind λd=>lift (g d)
@[simp] def cp:List PyData->Option (List PyData):=λd=>match d with
 |[.int j]=>if (decide (-(2 ^ 62)<=j)&&decide (j<2 ^ 62))=true then some (intsFrom 0 j.toNat) else none
 |_=>none
theorem nW(h:DI X F f e (Bq (wp E g))):FI X F E f e (gn cp g):=h.imp aE λU Q q=>aE _ _ _ (λl k i=>by
 obtain⟨y,d,j⟩:=cJ i;unfold cp at d;split at d
 .split at d
  .rename_i h;cases d;simp only[q0I,decide_eq_true_eq]at h;exact#[_,rfl,h.1,h.2,j]
  .cases d
 .cases d) (bK q)
@[simp] def ku:List PyData->Option (List PyData):=λd=>match d with
 |[.list ds]=>some (numbered ds)
 |_=>none
theorem Qx(h:DI X F f e (iE (wp E g))):FI X F E f e (gn ku g):=h.imp aE λU Q q=>aE _ _ _ (λl k i=>by
 obtain⟨y,d,j⟩:=cJ i;unfold ku at d;split at d
 .cases d;exact#[_,rfl,j]
 .cases d) (bK q)
noncomputable def bB(g:GM)(t:XM Bool)(m:XM PyData):List PyData->List PyData->ak->Option (List PyData)
 |[],f,_=>some f
 |d::r,f,U=>(match g d U with
  |some i=>(match t i with
   |.ok true h=>(match m h with
    |.ok y j=>if f.length<sizeLine then bB g t m r (f++[y]) j else none
    |_=>none)
   |.ok false h=>bB g t m r f h
   |_=>none)
  |none=>none)
@[simp] def je(own:Nat)(d:List Nat)(U:ak):ak:=List.replicate own none++d.map λj=>pP U[j]?
@[simp] def wY(own:Nat)(d:List Nat)(g:GM)(t:XM Bool)(m:XM PyData)(f:List PyData):XM PyData:=λh=>lift ((bB g t m f [] (je own d h)).bind λi=>if i.length<=sizeLine then some (.list i) else none) h
@[simp] def ef(own:Nat)(d:List Nat)(s:XM (List PyData))(g:GM)(t:XM Bool)(m:XM PyData):XM PyData:=λU=>(s U).bind (wY own d g t m)
abbrev eg:Str->ak->Prop:=λ_ _=>False
theorem Cm(q:wp E (ef own.length j s g t m) U Q):pQ own j (wp E s) (eP g) (wp eg t) (wp eg m) U Q:=aE _ _ _ (λl r G=>by
 obtain⟨y,H,A⟩:=cJ G;obtain⟨n,I,u⟩:=q0K.mp H;have B:n.length<=sizeLine/\y=.list n:=by
  split at u
  .rename_i h;cases u;exact#[h,rfl]
  .cases u
 have J:fm own j r=je own.length j r:=by unfold fm je;rw[q1W]
 refine#[λi p U=>bB g t m (l.drop i) p U=!n,by rw[J];exact I,λi d p U hd f=>?_,λp U h=>?_]
 .have e:l.drop i=d::l.drop (i+1):=by obtain⟨v,L⟩:=q0a.mp hd;rw[<-L];exact q05 v
  simp only[e]at f;unfold bB at f;unfold eP;cases C:g d U with
  |none=>rw[C]at f;cases f
  |some M=>
   rw[C]at f;simp only at f ⊢;unfold wp;cases w:t M with
   |ex c D=>rw[w]at f;cases f
   |bad=>rw[w]at f;cases f
   |ok b D=>
    rw[w]at f;cases b with
    |false=>exact fi f
    |true=>
     apply fj;simp only at f ⊢;cases z:m D with
     |ex c N=>rw[z]at f;cases f
     |bad=>rw[z]at f;cases f
     |ok O N=>
      rw[z]at f;simp only at f ⊢;split at f
      .rename_i h;exact#[h,f]
      .cases f
 .simp only[q1N]at h;have:=q0r h
  subst this;rw[B.2]at A;exact#[B.1,A]) (bK q)
abbrev mr(X:Cx)(F:Fx)(E:Str->ak->Prop)(d:List Expr)(m:XM Bool):Prop:=lY X F d (wp E m)
noncomputable def cW:XM Bool:=λU=>.ok true U
theorem jE:mr X F E [] cW:=#[aE,λd s Y H Q I f=>by obtain⟨U,O,st,q⟩:=f;exact Pb.2 d s Y H Q I #[U,O,st,q]]
theorem kR(h:FB X F E c d):mr X F E [c] d:=Pc h
theorem iF(w:GF X.mg F)(S:ae X d own f h)(y:X.calm=true)(z:own.length=n)(A:FI X F E l iter s)
  (o:∀C p r u v k,GF X.mg k->FG (bT X d (own++f) C p r u v) k l g/\mr (bT X d (own++f) C p r u v) k eg j t/\FE (bT X d (own++f) C p r u v) k eg i m)
  (B:autoParam (∀x,foldedSetIterable iter X.env x=pure x) Zs._auto_1):FE X F E (.ListComp i [#[l,iter,j,0]] d pos) (ef n h s g t m):=by
 subst z;exact(Pd w S y A o B).imp aE λU Q q=>Cm q
theorem wZ{j}(H:X.N.Nodup)(r:X.N[i]? = !y)(I:Loc X.env.scope y)(J:GF X.mg F)(S:ae X f own capN caps)(L:X.calm=true)(M:own.length=n)(O:FI X F E o iter s)
  (u:∀C v w z B p,GF X.mg p->FG (bT X f (own++capN) C v w z B) p o g/\mr (bT X f (own++capN) C v w z B) p eg l t/\FE (bT X f (own++capN) C v w z B) p eg k m)
  (A:autoParam (swapsWith (.ListComp k [#[o,iter,l,0]] f pos) (!.Name y py) j.line X.env=pure true) Zq._auto_1)
  (R:autoParam (∀x,foldedSetIterable iter X.env x=pure x) Zs._auto_1) (T:X.fn y=true\/X.env.scope.names.lookup y=!.local:=by first |exact .inl rfl |exact .inr rfl |assumption) :
  FS X F E (.Assign [.Name y py] (.ListComp k [#[o,iter,l,0]] f pos) j) (bF (ef n caps s g t m) (aA i)):=by
 subst M;exact(Pe H r I J S L O u A R T).imp λD U q=>wJ aE U _ _ (λd G h=>h) (Cm (jC q))
theorem aD.fresh{K:Frag}(st:aD K F H Y U O)(c:H p=none)(d:Mv o):∃O',aD K (F.plus [p]) (aL H p o) Y U O'/\aT O H O' (aL H p o):=by obtain⟨O',h1,h2,_⟩:=aD.swap (L:=[]) (L':=[p]) st (λb u _ e=>bA c b u e) 'c' (λa h=>.inr (by obtain rfl:=q0o.mp h;exact c)) (λa h=>by cases h) (λa h=>by obtain rfl:=q0o.mp h;exact#[o,cF,d]);exact#[O',h1,h2]
theorem aD.new1{K:Frag}(st:aD K F H Y U O)(c:H p=none):∀a∈[p],a∈F.A₀\/F.H₀ a=none:=λa h=>by
 obtain rfl:=q0o.mp h
 by_cases b:a∈F.A₀
 .exact .inl b
 .refine .inr ?_;cases e:F.H₀ a with
  |none=>rfl
  |some o=>obtain⟨W,h,_⟩:=st;have:=h.kept a o b e;rw[c]at this;cases this
def Qy(t:dB):ix:=λU Q=>t U λd f=>d.length<=sizeLine/\Q (.own false (.l d)) f
theorem Qz(h:DA X F es j):DO X F (.List es pos) (Qy j):=
 #[λ_ _ _ k q=>h.mn _ _ _ (λ_ _ d=>#[d.1,k _ _ d.2]) q,(se h.pa).imp λY H Q f=>by obtain⟨U,O,st,q⟩:=f;exact 
  #[U,O,st,h.mn _ _ _ (λw t d vs u v g r l=>#[by rw[l.length];exact d.1,λp m=>by
   obtain⟨s,i,n⟩:=g.fresh (o:=.lst vs) m trivial;exact d.2 _ _ s [p] #[i,#[p,rfl,rfl,vs,cF,aH.mono n.hid l],g.new1 m] (r.trans n)]) q]]
@[simp] def kw(a:XM (List PyData)):XM af:=λU=>(a U).bind λd=>lift (if d.length<=sizeLine then some (.own false (.l d)) else none)
theorem nX(h:FA X F E es g):FO X F E (.List es pos) (kw g):=(Qz h).imp aE λU Q q=>aE _ _ _ (λl k i=>by
 obtain⟨d,f,j⟩:=cJ i;split at f
 .rename_i h;cases f;exact#[h,j]
 .cases f) (bK q)
@[simp]noncomputable def pW(i:Nat)(d:PyData):SM:=λf=>match f[i]? with
 |some (!.own io (.l ds))=>if ds.length<sizeLine then .nx (f.set i (!.own io (.l (ds++[d])))) else .bad
 |_=>.bad
@[simp] def jf(i:Nat)(m:XM PyData):SM:=λU=>match U[i]? with
 |some (!.own _ (.l _))=>dE (m U) (pW i)
 |_=>.bad
theorem Cn{pos:Pos}(Q:PE X (.Name x r) (cu i))(R:FE X F E e m)(z:autoParam (swapsWith (.Call (.Attribute (.Name x r) "append" apos) [e] [] g) none pos.line X.env=pure false) Zq._auto_1)
  (n:autoParam (attributeBase (.Name x r) "append" X.env (eval (.Name x r) X.env)=eval (.Name x r) X.env) Zq._auto_1)
  (t:autoParam (((backTo g (starEach [e] X.env)).all (λx=>not x.1)&&(backToKw g (keywordEach [] X.env)).all (λx=>x.1.isSome)&&decide (([e]:List Expr).length+([]:List Keyword).length+(if ([]:List Keyword).isEmpty then 0 else 1)<30))=true) Zq._auto_1)
  (p:autoParam ((apos.endLine==g.line)=true) Zq._auto_1) (N:autoParam (starEach [e] X.env=(false,eval e X.env)::starEach [] X.env) Zq._auto_1) (j:autoParam ((backTo g (starEach [] X.env)).any (·.1)=false) Zq._auto_1) :
  FS X F E (.Expr (.Call (.Attribute (.Name x r) "append" apos) [e] [] g) pos) (jf i m):=
 (vJ (sh q1E q2A q2B Av Q (dJ R.pe eB N) n t p N j) z).imp λD Y H u=>by
  obtain⟨U,O,DD,st,q,f⟩:=u;unfold wpS jf at q;cases A:U[i]? with
  |none=>rw[A]at q;exact q.elim
  |some o=>
   rw[A]at q;cases o with
   |none=>exact q.elim
   |some S=>
    cases S with
    |dat d=>exact q.elim
    |scr d=>exact q.elim
    |exc d=>exact q.elim
    |vw d=>exact q.elim
    |own T Z=>
     cases Z with
     |m _ _=>exact q.elim
     |o _ _=>exact q.elim
     |sd _=>exact q.elim
     |ll _=>exact q.elim
     |pr _ _ _=>exact q.elim
     |oo _ _=>exact q.elim
     |l a0=>
      obtain⟨a,fp,v,⟨_,xs,hH,_⟩,_,_⟩:=st.box A;refine#[_,v,.inl #[rfl,xs,.of hH],U,O,st,aE _ _ _ (λd U1 h w H1 O1 B s1 d1=>?_) (fN q)];unfold wpS pW at h;cases h1:U1[i]? with
      |none=>rw[h1]at h;exact h.elim
      |some o=>
       rw[h1]at h;cases o with
       |none=>exact h.elim
       |some c1=>
        cases c1 with
        |dat d=>exact h.elim
        |scr d=>exact h.elim
        |exc d=>exact h.elim
        |vw d=>exact h.elim
        |own a2 b1=>
         cases b1 with
         |m _ _=>exact h.elim
         |o _ _=>exact h.elim
         |sd _=>exact h.elim
         |ll _=>exact h.elim
         |pr _ _ _=>exact h.elim
         |oo _ _=>exact h.elim
         |l ds=>
          simp only at h;obtain⟨a1,a3,y,⟨e1,C,I,hd⟩,hO,up⟩:=B.box h1;rw[v]at y;cases y;subst e1
          by_cases J:ds.length<sizeLine
          .rw[if_pos J]at h;refine#[a,C,w,rfl,rfl,I,by rw[hd.length];exact J,?_];obtain⟨O2,L,s2,_⟩:=up (aL H1 a (.lst (C++[w]))) (.l (ds++[d])) [a] (λc o M e=>by rw[bw (by simpa using M)];exact e) 'c' (λc M=>.inl M) (λG O' s hG _=>by
            subst hG;exact#[s.hid,rfl,C++[w],cF,(aH.mono s.hid hd).append (.cons (DV.mono s.hid d1) .nil)])
           exact f.nx _ _ _ _ L (s1.trans s2) h
          .rw[if_neg J]at h;exact h.elim
@[simp]noncomputable def QA:af->Option PyData
 |.dat (.list ds)=>some (.int ds.length)
 |.dat (.tuple ds)=>some (.int ds.length)
 |.own _ (.l ds)=>some (.int ds.length)
 |_=>none
@[simp] def xa(i:Nat):XM PyData:=λU=>match U[i]? with
 |some (!c)=>lift (QA c) U
 |_=>.bad
theorem QB{F:Fx}{E:Str->ak->Prop}{pos:Pos}{p }(u:Gl X "len")(w:X.mg "len" = none)(h:PE X (.Name x k) (cu i))(t:autoParam (starEach [.Name x k] X.env=(false,eval (.Name x k) X.env)::starEach [] X.env) Zq._auto_1)(r:autoParam ((backTo pos (starEach [] X.env)).any (·.1)=false) Zq._auto_1) :
  FE X F E (.Call (.Name "len" p) [.Name x k] [] pos) (xa i):=
 #[aE,(lQ ke u w q1r (dJ h eB t) 'd' 'd' t r).imp λY H Q f=>by
  obtain⟨U,O,st,q⟩:=f;unfold wp xa at q;cases m:U[i]? with
  |none=>rw[m]at q;exact q.elim
  |some o=>
   rw[m]at q;cases o with
   |none=>exact q.elim
   |some y=>
    cases y with
    |scr d=>exact q.elim
    |exc d=>exact q.elim
    |vw d=>exact q.elim
    |dat d=>
     obtain⟨v,n,hd⟩:=st.dat m;cases d with
     |list ds=>obtain⟨a,g,rfl,s,j⟩:=hd.lst_inv;exact#[_,n,a,g,rfl,.inl (.of (cR s).1),by rw[j.length];exact q _ H O st .refl (.int _)]
     |tuple ds=>obtain⟨a,g,rfl,s,j⟩:=hd.tup_inv;exact#[_,n,a,g,rfl,.inr (.inl (gc s).1),by rw[j.length];exact q _ H O st .refl (.int _)]
     |_=>exact q.elim
    |own io b=>
     cases b with
     |l ds=>obtain⟨a,A,n,⟨_,g,z,j⟩,_,_⟩:=st.box m;exact#[_,n,a,g,rfl,.inl (.of z),by rw[j.length];exact q _ H O st .refl (.int _)]
     |_=>exact q.elim]
noncomputable def fP:PyData->Option aQ
 |.int i=>some (.inl i)
 |.str x=>some (.inr x)
 |_=>none
def ft:List PyData->Option (List aQ)
 |[]=>some []
 |d::r=>(match fP d,ft r with |some k,!l=>!k::l |_,_=>none)
def dA:Bool->PyData->Option (List aQ)
 |false,d=>(fP d).map λk=>[k]
 |true,.tuple ds=>ft ds
 |true,_=>none
abbrev eQ:=List (PyData×PyData)
def et(a:Bool):eQ->List aQ->Option PyData
 |[],_=>none
 |p::r,k=>if dA a p.1=some k then some p.2 else et a r k
def kz(a:Bool)(k:List aQ)(v:PyData):eQ->eQ
 |[]=>[]
 |p::r=>(if dA a p.1=some k then(p.1,v) else p)::kz a k v r
def gH(b:Bool)(a:eQ)(d:PyData)(k:List aQ)(v:PyData):eQ:=if (et b a k).isSome=true then kz b k v a else a++[(d,v)]
theorem xb(h:DV G v d)(e:fP d=!k):v=kV k:=by
 cases d with
 |int i=>cases e;exact h.int_inv
 |str x=>cases e;exact h.str_inv
 |_=>cases e
theorem xc:fP (gA k)=!k:=by cases k<;>rfl
theorem Co(e:fP d=!k):d=gA k:=by
 cases d with
 |int i=>cases e;rfl
 |str x=>cases e;rfl
 |_=>cases e
theorem Cp:∀{a},ft (a.map gA)=some a
 |[]=>rfl
 |k::r=>by show(match fP (gA k),ft (r.map gA) with |some k,!l=>!k::l |_,_=>none)=_;rw[xc,Cp]
theorem sY:∀{b a},ft b=!a->b=a.map gA
 |[],a,e=>by cases e;rfl
 |d::r,a,e=>by
  unfold ft at e;cases h1:fP d with
  |none=>rw[h1]at e;cases e
  |some k=>
   cases h2:ft r with
   |none=>rw[h1,h2]at e;cases e
   |some l=>rw[h1,h2]at e;cases e;rw[Co h1,sY h2];rfl
theorem Cq:∀{vs}{a:List aQ},aH G vs (a.map gA)->vs=a.map kV:=by
 intro vs a
 induction a generalizing vs with
 |nil=>intro h;cases h;rfl
 |cons k r b=>intro h;cases h with
  |cons h1 h2=>rw[xb h1 xc,b h2];rfl
theorem xf[DecidableEq κ]{R:κ->PyData->Prop}{G}{g}{inj:κ->List aQ}(i:∀k d,R k d->dA g d=!inj k)(j:∀a b,inj a=inj b->a=b) :
  ∀{f}{c:eQ} k,Paired (λ(p:κ×V) (q:PyData×PyData)=>R p.1 q.1/\DV G p.2 q.2) f c->(fY f k=none/\et g c (inj k)=none)\/∃v d,fY f k=!v/\et g c (inj k)=!d/\DV G v d:=by
 intro f c k h
 induction h with
 |nil=>exact .inl #[rfl,rfl]
 | @cons p q r s h t l=>
  by_cases e:p.1=k
  .refine .inr #[p.2,q.2,si e,?_,h.2];unfold et;rw[if_pos (by rw[i _ _ h.1,e])]
  .rw[sj e];unfold et;rw[if_neg (by rw[i _ _ h.1];exactλz=>e (j _ _ (q0r z)))];exact l
theorem QD[DecidableEq κ]{R:κ->PyData->Prop}{G}{i}{inj:κ->List aQ}(j:∀k d,R k d->dA i d=!inj k)(l:∀a b,inj a=inj b->a=b){v}{x}(m:DV G v x) :
  ∀{f}{c:eQ} k,Paired (λ(p:κ×V) (q:PyData×PyData)=>R p.1 q.1/\DV G p.2 q.2) f c->Paired (λ(p:κ×V) (q:PyData×PyData)=>R p.1 q.1/\DV G p.2 q.2) (f.map λg=>if g.1=k then(g.1,v) else g) (kz i (inj k) x c):=by
 intro f c k h
 induction h with
 |nil=>exact .nil
 | @cons p q r s h t n=>
  refine .cons ?_ n;dsimp only
  by_cases e:p.1=k
  .rw[if_pos e,if_pos (by rw[j _ _ h.1,e])];exact#[h.1,m]
  .rw[if_neg e,if_neg (by rw[j _ _ h.1];exactλz=>e (l _ _ (q0r z)))];exact h
theorem QE:∀{a b}{c:List α}{vs},Paired R a b->Paired R c vs->Paired R (a++c) (b++vs):=by
 intro a b c vs h s
 induction h with
 |nil=>exact s
 |cons h _ d=>exact .cons h d
theorem Cr[DecidableEq κ]{R:κ->PyData->Prop}{G}{g}{inj:κ->List aQ}(i:∀k d,R k d->dA g d=!inj k)(j:∀a b,inj a=inj b->a=b){v}{x d}(l:DV G v x)
  {m}{c:eQ}{k}(hd:R k d) (h:Paired (λ(p:κ×V) (q:PyData×PyData)=>R p.1 q.1/\DV G p.2 q.2) m c):Paired (λ(p:κ×V) (q:PyData×PyData)=>R p.1 q.1/\DV G p.2 q.2) (fA m k v) (gH g c d (inj k) x):=by
 rcases xf i j k h with⟨e,f⟩ |⟨n,o,e,f,_⟩
 .rw[Ml v e];unfold gH;rw[f,if_neg 'c'];exact QE h (.cons #[hd,l] .nil)
 .unfold gH;rw[f,if_pos (by rfl)];unfold fA;rw[if_pos (by rw[sk,e];rfl)];exact QD i j l k h
theorem Cs:∀k  d,gA k=d->dA false d=![k]:=λk d e=>by subst e;show(fP (gA k)).map _=_;rw[xc];rfl
theorem sZ:∀(a b:aQ),[a]=[b]->a=b:=λa b e=>by cases e;rfl
theorem pX:∀k  d,pI k=d->dA true d=!k:=λk d e=>by subst e;exact Cp
@[simp] def gJ(a:Bool)(d:PyData):Option (List aQ):=match d with
 |.tuple []=>none
 |d=>dA a d
theorem Ct(e:gJ a d=!k):dA a d=!k/\d≠.tuple []:=by
 unfold gJ at e;split at e
 .cases e
 .rename_i h;exact#[e,h]
theorem xg:∀{ds k},ft ds=!k->ds≠[]->cS ds=false
 |[],_,_,h=>absurd rfl h
 |[d],k,e,_=>by cases d<;>first |rfl |(simp[ft,fP]at e)
 |d::f::r,k,e,_=>by
  unfold ft at e;split at e
  .rename_i g l a b;cases d<;>first |(exact(by simpa[cS] using (xg b 'c'))) |(exfalso;simp[fP]at a)
  .cases e
theorem xh{kvs:eQ}(h:iq G H a tk kvs)(j:bI G H)(g:DV G y d)(e:gJ tk d=!k):∃o,iS H a y o/\((o=none/\et tk kvs k=none)\/∃v x,o=!v/\et tk kvs k=!x/\DV G v x):=by
 obtain⟨e,c⟩:=Ct e;cases tk with
 |false=>obtain⟨l,f,pr⟩:=h;obtain⟨m,n,p⟩:=q0g.mp e;subst p;obtain rfl:=xb g n;exact#[_,.k f,xf Cs sZ m pr]
 |true=>
  obtain⟨l,f,pr⟩:=h;cases d with
  |tuple ds=>obtain⟨b,q,rfl,hb,i⟩:=g.tup_invK (xg e λz=>c (by rw[z]));rw[sY e]at i;rw[Cq i]at hb;exact#[_,.t f (j _ _ hb),xf pX (λ_ _ z=>z) k pr]
  |_=>cases e
theorem Cu{kvs:eQ}(h:iq G H a tk kvs)(p:bI G H)(i:DV G y d)(j:DV G v x)(e:gJ tk d=!k)(l:kvs.length<sizeLine) :
  ∃o,lR H a y v (aL H a o)/\Mv o/\∀c,bI G c->iq c (aL H a o) a tk (gH tk kvs d k x):=by
 obtain⟨e,f⟩:=Ct e;cases tk with
 |false=>obtain⟨q,g,pr⟩:=h;obtain⟨u,m,r⟩:=q0g.mp e;subst r;obtain rfl:=xb i m;refine#[_,.k g (by rw[Paired.length pr];exact l),trivial,λc s=>#[_,cF,Cr Cs sZ (DV.mono s j) (Co m).symm (Paired.mapP pr λ_ _ z=>#[z.1,DV.mono s z.2])]]
 |true=>
  obtain⟨q,g,pr⟩:=h;cases d with
  |tuple ds=>obtain⟨b,w,rfl,hb,n⟩:=i.tup_invK (xg e λz=>f (by rw[z]));rw[sY e]at n;rw[Cq n]at hb;exact#[_,.t g (p _ _ hb) (by rw[Paired.length pr];exact l),trivial,λc s=>#[_,cF,Cr pX (λ_ _ z=>z) (DV.mono s j) (by unfold pI;rw[<-sY e]) (Paired.mapP pr λ_ _ z=>#[z.1,DV.mono s z.2])]]
  |_=>cases e
theorem QF{kvs:eQ}(h:iq G H a tk kvs):we H a:=by
 cases tk with
 |false=>obtain⟨b,c,_⟩:=h;exact .inl #[b,.of c]
 |true=>obtain⟨b,c,_⟩:=h;exact .inr #[b,.of c]
noncomputable def eK(U:ak)(i:Nat):Option (Bool×Bool×eQ):=match U[i]? with
 |some (!.own io (.m b a))=>some (io,b,a)
 |_=>none
theorem nY(h:eK U i=!(io,b,a)):U[i]? = !!.own io (.m b a):=by
 unfold eK at h;split at h
 .rename_i e;cases h;exact e
 .cases h
noncomputable def mu(d:Bool):XM af:=λU=>.ok (.own false (.m d [])) U
theorem xi(i):FO X F E (.Dict [] [] pos) (mu i):=by
 refine#[aE,?_];cases i with
 |false=>apply Mz.imp;rintro Y H Q ⟨U,O,st,q⟩ p f;obtain⟨g,d,h⟩:=st.fresh (o:=.dK []) f trivial;exact q _ _ g [p] #[d,#[p,rfl,rfl,[],cF,.nil],st.new1 f] h
 |true=>apply AF.imp;rintro Y H Q ⟨U,O,st,q⟩ p f;obtain⟨g,d,h⟩:=st.fresh (o:=.dT []) f trivial;exact q _ _ g [p] #[d,#[p,rfl,rfl,[],cF,.nil],st.new1 f] h
def tf(i:Nat)(d:PyData):XM PyData:=λU=>lift (match eK U i with
 |some (_,g,f)=>(gJ g d).bind λk=>et g f k
 |none=>none) U
def tm(i:Nat)(m:XM PyData):XM PyData:=λU=>match eK U i with
 |some _=>(m U).bind (tf i)
 |none=>.bad
theorem QG{X:Cx}(st:aD X.K F H Y U O)(q:wp E (tf i d) U Q)(n:DV (au O H) w d) :
  ∃v,Y[i]? = !!v/\∃a u y,v=.ref a/\iS H a w (!u)/\DV (au O H) u y/\Q y U:=by
 obtain⟨y,h,s⟩:=cJ q;cases m:eK U i with
 |none=>rw[m]at h;cases h
 |some p=>
  obtain⟨io,l,f⟩:=p;rw[m]at h;obtain⟨k,t,j⟩:=q0K.mp h;obtain⟨a,B,z,⟨_,hd⟩,_,_⟩:=st.box (nY m);obtain⟨o,g,r⟩:=xh hd kh n t;rcases r with⟨rfl,e⟩ |⟨v,x,rfl,e,A⟩
  .rw[e]at j;cases j
  .rw[e]at j;cases j;exact#[_,z,a,v,_,rfl,g,A,s]
theorem QH(n:X.A.units+1<cLine)(o:PE X (.Name x l) (cu i))(r:FE X F E e m)(s:pH e:=by intro _ _;rfl):FE X F E (.Subscript (.Name x l) e pos) (tm i m):=
 #[aE,(AD n o r.pe s).imp λY H Q f=>by
  obtain⟨U,O,st,q⟩:=f;unfold wp tm at q;cases j:eK U i with
  |none=>rw[j]at q;exact q.elim
  |some p=>
   rw[j]at q;obtain⟨io,L,t⟩:=p;obtain⟨M,N,g,_,_,_⟩:=st.box (nY j);refine#[_,g,U,O,st,aE _ _ _ (λd R z w B C h D G=>?_) (bK q)];obtain⟨v,h1,a,u,y,h2,h3,I,J⟩:=QG h z G;rw[g]at h1;cases h1;exact#[a,u,h2,h3,J u B C h D I]]
def pY(i:Nat)(d y:PyData):XM PyData:=λU=>lift (match eK U i with
 |some (_,g,f)=>(gJ g d).map λk=>(et g f k).getD y
 |none=>none) U
def nZ(i:Nat)(m n:XM PyData):XM PyData:=λU=>match eK U i with
 |some _=>(m U).bind λd f=>(n f).bind λy=>pY i d y
 |none=>.bad
theorem Cv(hu:X.A.units+1<cLine)(hv:PE X (.Name x G) (cu i))(he:FE X F E e m)(hf:FE X F E f n)(mm:M2 X (.Name x G) "get" apos e f h:=by exact#[rfl,rfl,rfl,rfl]):FE X F E (.Call (.Attribute (.Name x G) "get" apos) [e,f] [] h) (nZ i m n):=
 #[aE,(ME hu hv he.pe hf.pe mm).imp λY H Q s=>by
  obtain⟨U,O,st,q⟩:=s;unfold wp nZ at q;cases I:eK U i with
  |none=>rw[I]at q;exact q.elim
  |some p=>
   rw[I]at q;obtain⟨io,J,t⟩:=p;obtain⟨a0,fp,u,⟨_,L⟩,_,_⟩:=st.box (nY I);refine#[_,u,a0,rfl,QF L,U,O,st,aE _ _ _ (λd M q1 w H1 O1 N T d1=>?_) (bK q)];refine#[M,O1,N,aE _ _ _ (λy R q2 z Z O2 j S d2=>?_) (bK q1)];obtain⟨r,C,D⟩:=cJ q2;cases l:eK R i with
   |none=>rw[l]at C;cases C
   |some p=>
    obtain⟨a2,a3,a1⟩:=p;rw[l]at C;obtain⟨k,e2,e3⟩:=q0g.mp C;subst e3;obtain⟨a,a4,B,⟨_,hd⟩,_,_⟩:=j.box (nY l);rw[u]at B;cases B;obtain⟨o,g,r⟩:=xh hd kh (DV.mono S.hid d1) e2;refine#[o,g,?_];rcases r with⟨rfl,e⟩ |⟨v,x,rfl,e,hx⟩
    .rw[e]at D;exact D _ Z O2 j (T.trans S) d2
    .rw[e]at D;exact D _ Z O2 j (T.trans S) hx]
def oa(i:Nat)(y d:PyData):SM:=λU=>match eK U i with
 |some (io,g,f)=>(match gJ g d with
  |some k=>if f.length<sizeLine then .nx (U.set i (!.own io (.m g (gH g f d k y)))) else .bad
  |none=>.bad)
 |none=>.bad
def og(i:Nat)(mk:XM PyData)(y:PyData):SM:=λU=>match eK U i with
 |some _=>dE (mk U) (oa i y)
 |none=>.bad
def mw(i:Nat)(mk d:XM PyData):SM:=λU=>dE (d U) (og i mk)
theorem QI(Z:X.A.units+1<cLine)(hv:PE X (.Name x I) (cu i))(t:FE X F E e mk)(hf:FE X F E f C)(hs:autoParam (swapsWith f (!.Subscript (.Name x I) e j) pos.line X.env=pure false) Zq._auto_1) :
  FS X F E (.Assign [.Subscript (.Name x I) e j] f pos) (mw i mk C):=
 (AE Z hv t.pe hf.pe hs).imp λD Y H zz=>by
 obtain⟨U,O,DD,st,q,f⟩:=zz;exact#[U,O,st,aE _ _ _ (λy R u vy H1 O1 v s1 d1=>by
  unfold wpS og at u;cases J:eK R i with
  |none=>rw[J]at u;exact u.elim
  |some p=>
   rw[J]at u;obtain⟨io,tk,a1⟩:=p;obtain⟨S,fp,z,_,_,_⟩:=v.box (nY J);refine#[_,z,R,O1,v,aE _ _ _ (λd U2 h w H2 O2 L T d2=>?_) (fN u)];unfold wpS oa at h;cases n:eK U2 i with
   |none=>rw[n]at h;exact h.elim
   |some p=>
    rw[n]at h;obtain⟨a2,r,l⟩:=p;simp only at h;cases t:gJ r d with
    |none=>rw[t]at h;exact h.elim
    |some k=>
     rw[t]at h;simp only at h
     by_cases M:l.length<sizeLine
     .rw[if_pos M]at h;obtain⟨a,a3,B,⟨e2,hd⟩,_,up⟩:=L.box (nY n);rw[z]at B;cases B;subst e2;obtain⟨o,g,C,hp⟩:=Cu hd kh d2 (DV.mono T.hid d1) t M;refine#[_,_,rfl,g,?_];obtain⟨O3,N,s3,_⟩:=up (aL H2 S o) (.m r (gH r l d k y)) [S] (λc o Q e=>by rw[bw (by simpa using Q)];exact e) 'c' (λc Q=>.inl Q) (λG O' s hG _=>by
       subst hG;exact#[s.hid,rfl,hp _ s.hid])
      exact f.nx _ _ _ _ N (s1.trans (T.trans s3)) h
     .rw[if_neg M]at h;exact h.elim) (fN q)]
@[simp] def xj:List PyData->Option PyData:=λf=>match f with
 |[.list as,.list bs,.list d]=>if bs.length=as.length/\d.length=as.length/\0<as.length then some (.list (pS as bs d)) else none
 |_=>none
theorem QJ(h:DE X F e (BD (wp E g))):FE X F E e (cV xj g):=h.imp aE λU Q q=>aE _ _ _ (λl k i=>by
 obtain⟨d,f,j⟩:=cJ i;unfold xj at f;split at f
 .split at f
  .rename_i h;cases f;exact#[_,_,_,rfl,h.1,h.2.1,h.2.2,j]
  .cases f
 .cases f) (bK q)
@[simp]noncomputable def Cw(k:Nat):PyData->Option PyData:=λd=>match d with |.list ds=>!.list (ds.drop k) |_=>none
@[simp] def xU(g:PyData->Option PyData)(a:XM PyData):XM PyData:=λU=>(a U).bind λd=>lift (g d)
theorem QK(h:DE X F e (BF (wp E f) k)):FE X F E e (xU (Cw k) f):=h.imp aE λU Q q=>aE _ _ _ (λd l i=>by
 obtain⟨y,g,j⟩:=cJ i;cases d with
 |list ds=>cases g;exact#[_,rfl,j]
 |_=>cases g) (bK q)
noncomputable abbrev pZ:List Value:=[.type "ValueError",.type "Exception",.type "BaseException",.type "object"]
def xk(h:Heap)(C:Addr):Prop:=∃c N e q bs a f sub g b n i j k l m d,h.get? C=!excClassObj e q C N bs c a f sub g b n i j k l m "ValueError.__new__"/\h.Ns N d/\d "__init__" = none/\OwnTail h pZ c
theorem xl{K}(X:K.In h)(e:excIn K C pZ "ValueError.__new__" = true):xk h C:=by
 unfold excIn at e;split at e
 .rename_i j k m n;split at e
  .rename_i I o p q r s J t d a;have f:=e;simp only[q0I,beq_iff_eq]at f;obtain⟨⟨⟨⟨⟨u,v⟩,g⟩,w⟩,b⟩,i⟩:=f;obtain⟨x,y,L,z,A,B,D,E,G,c,H⟩:=k;obtain⟨l⟩:=m;simp at g d a b i;subst u v g d a;exact#[o,z,x,A,y,B,D,E,G,c,j,p,q,r,s,t,_,X _ _ n,.of_isNs (PySem.W.isNs_of_in X b),PySem.W.nsMap_none_of_in X b i,PySem.W.tail_of_in X w]
  .cases e
 .cases e
structure EC (K:Frag) (mg:Str->Option Value) (c:Str) (C:Addr):Prop where
 mg:mg c=some (.ref C)
 ns:nsIn K mainGlobals c=some (!.ref C)
 ex:excIn K C pZ "ValueError.__new__" = true
@[simp]noncomputable def jg(c:Str):SM:=λU=>.ex c U
theorem _root_.L2.Inv.madeX{Y:St}(I:Inv X a Y H s)(m:Heap.MadeExcOf s.heap c e C d):Inv X a Y H { s with heap:=c }/\lX X a s.heap/\fH s.heap H c e C none:=by obtain⟨t,h1,h2,h3⟩:=m.there;refine#[I.ch I.cov #[λb o q _ _=>m.keeps b o q,λb o _ q=>#[o.slots,m.keeps b o q],λb o q=>#[o,m.keeps b o q]],I.cov,#[λb o q=>#[o,m.keeps b o q],m.new,(λb z=>bM.some_of I.hok z) e m.new,_,_,_,h1,rfl,rfl,rfl,.inl #[rfl,rfl]]]
theorem jF{i}{j}{np a pos k}(v:fJ X F E)(x:X.A.handled=none)(y:Gl X c)(l:EC X.K X.mg c C)(n:autoParam ((c==("__debug__":Str))=false) Zr._auto_1)
  (o:autoParam (starEach [.Constant (.str i) j k] X.env=(false,eval (.Constant (.str i) j k) X.env)::starEach [] X.env) Zq._auto_1) :
  FS X F E (.Raise (!.Call (.Name c np) [.Constant (.str i) j k] [] a) none pos) (jg c):=λb s Y H D I d=>by
 obtain⟨U,O,DD,st,q,f⟩:=d;obtain⟨z,N,B,G,bs,g,J,sub,L,p,dd,M,Q,R,S,Z,mN,hC,hN,t,T⟩:=xl I.ok.mod.kin l.ex;refine wpAny_Raise_call_subU (nm:=B) (q:=G) (N:=N) (bs:=bs) (hdct:=g) (sn:=J) (sub:=sub) (ab:=L) (col:=p) (dd:=dd) (k0:=M) (k1:=Q) (k2:=R) (k3:=S) (k5:=Z)
  q2m 'd' q2m (T.hasType 'd') x (by rw[o];rfl) t (pp I y l.mg #[rfl,?_] n)
 have w:=(dJ (zG) eB o) a b s Y H (λvs u=>vs.length=1/\u=H) I (#[rfl,rfl]);rw[o]at w ⊢;refine Calls.evalArgs_plain (aR w λus s2 h=>?_);obtain⟨vs,u,I1,r,h1,h2⟩:=h;subst h2;refine#[rfl,by rw[<-r.length,h1];decide,I1.bk _ _ hC,hN.keeps I1.bk,T.keeps I1.bk,λh' e m=>?_];obtain⟨I2,cv,ex⟩:=I1.madeX m;exact v.2 b Y _ _ _ c U O #[I2,e,.ref C,s2.heap,none,rfl,cv,ex,l.mg] st q
noncomputable def tp(K:Frag)(C D:Addr):Bool:=match K.lookup C with
 |some ⟨_,_,.cls a,_⟩=>a.mro.contains (.ref D)
 |_=>false
noncomputable def Cy(K:Frag)(C:Addr):Bool:=findIn K (.ref C) "__getattribute__"==some (!.builtin "BaseException.__getattribute__")&&findIn K (.ref C) "__class__"==some (!.builtin "object.__class__")&&findIn K (.ref C) "__getattr__"==some none &&
 PySem.W.mroIn K C (.type "BaseException")==some true&&PySem.W.mroIn K C (.type "object")==!true
def Cz(K:Frag)(D:Addr)(l:List Str):Bool:=l.all λc=>match nsIn K mainGlobals c with
 |some (!.ref C)=>excIn K C pZ "ValueError.__new__"&&tp K C D&&Cy K C&&(kitOne K (.ref C) (.type "ValueError")==!true)&&l.all λd=>match nsIn K mainGlobals d with
  |some (!.ref a)=>kitOne K (.ref C) (.ref a)==some (c==d)
  |_=>false
 |_=>false
structure XT (K:Frag) (mg:Str->Option Value) (l:List Str) (D:Addr):Prop where
 top:EC K mg "DueError" D
 tab:Cz K D l=true
 mgs:∀c C,nsIn K mainGlobals c=!!.ref C->mg c=!.ref C
theorem XT.at_{K}(x:XT K b l D)(h:c∈l):∃C,EC K b c C/\tp K C D=true/\Cy K C=true/\kitOne K (.ref C) (.type "ValueError")=!true/\
  ∀d∈l,∃a,b d=!.ref a/\nsIn K mainGlobals d=!!.ref a/\kitOne K (.ref C) (.ref a)=!c==d:=by
 have t:=q0O.mp x.tab c h;split at t
 .rename_i C e;simp only[q0I]at t;obtain⟨⟨⟨⟨g,i⟩,j⟩,k⟩,m⟩:=t;refine#[C,#[x.mgs c C e,e,g],i,j,by simpa using k,λd hd=>?_];have u:=q0O.mp m d hd;split at u
  .rename_i a f;exact#[a,x.mgs d a f,f,by simpa using u]
  .cases u
 .cases t
theorem QL{K}
  (X:K.In h) (e:tp K C D=true) (p:h.get? C=!excClassObj f q C N bs d b g sub i c r j k l m n a):(Value.ref C::d).contains (.ref D)=true:=by
 unfold tp at e;split at e
 .rename_i o;have:=X _ _ o;rw[p]at this;cases this;exact e
 .cases e
theorem QM{os}
  (I:xk h C) (xd:xk h D) (J:∀{o q N bs k a p sub r i H s u v w x c},h.get? C=!excClassObj o q C N bs k a p sub r i H s u v w x c->(Value.ref C::k).contains (.ref D)=true)
  (L:h.get? e=!n) (j:n.cls=.ref C) (O:Q true #[h,g,d,t,os]):wpAny M A (excMatches (.ref e) (.ref D)) Q E #[h,g,d,t,os]:=by
 obtain⟨k,N,o,q,bs,a,p,sub,r,i,H,s,u,v,w,x,mN,y,_,_,_⟩:=I;obtain⟨l,N',R,q',S,m,T,z,U,B,Y,Z,a0,a1,a2,a3,a4,G,_,_,T'⟩:=xd;have cB:(Value.ref D::l).contains (.type "BaseException")=true:=by rw[List.contains_cons,T'.hasType (b:=true) 'd',Bool.or_true]
 have f:=tc_notTuple;repeat (first |(with_reducible refine wpAny_loadPart_at L ?_;rw[j]) |with_reducible apply wpAny_loadPart_at G |(with_reducible apply wpAny_isSubtype_exc G;rw[cB]) |(with_reducible apply wpAny_isSubtype_exc y;rw[(J y)]) |wp_step)
 exact O
noncomputable abbrev mx(X:Cx)(A:Around)(b:Bool)(a:List (Addr×Obj))(c:Value->Shared->Prop):Cx:={ X with A:=A,calm:=b,pn:=a,xe:=c }
theorem _root_.L2.Inv.re{Y:St}(I:Inv X pins Y H s)(A b xe)(a:A.frames=X.A.frames)(d:b=true->A.handled=none):Inv (mx X A b (X.pn++pins) xe) [] Y H s:=
 #[#[I.ok.mod,I.ok.kind,I.ok.glob,I.ok.blt,I.ok.above,I.ok.inj,I.ok.has,I.ok.cab,d,a.trans I.ok.frames,I.ok.stk,I.ok.exf,I.ok.bs,I.ok.bsz,I.ok.noex,I.ok.exfs,I.ok.funs,I.ok.frf],I.os,I.bare,I.base,I.loc,I.cell,I.free,I.freeC,λp c=>I.pin p (by simpa using c),I.hok,I.len]
theorem _root_.L2.Inv.unre{Y:St}(ok:X.Ok)(I:Inv (mx X A b (X.pn++pins) xe) pins' Y H s):Inv X pins Y H s:=
 #[ok,I.os,I.bare,I.base,I.loc,I.cell,I.free,I.freeC,λp a=>I.pin p (bv _ a),I.hok,I.len]
theorem tq(ok:X.Ok)(h:SP (mx X A b (X.pn++pins) xe) pins' D f d):SP X pins D f d:=by
 cases f with
 |next=>obtain⟨a,c,I,q⟩:=h;exact#[a,c,I.unre ok,q]
 |brk=>obtain⟨a,c,I,q⟩:=h;exact#[a,c,I.unre ok,q]
 |cont=>obtain⟨a,c,I,q⟩:=h;exact#[a,c,I.unre ok,q]
 |ret u=>obtain⟨v,a,c,I,r,q⟩:=h;exact#[v,a,c,I.unre ok,r,q]
noncomputable def Fx.here(F:Fx)(H:Hp)(L:List Addr):Fx:=#[H,L,F.O₀,F.I₀]
theorem cb.here{K:Frag}(st:cb K F H Y U W):cb K (F.here H W.flatten) H Y U W:=#[st.at_,st.nd,λ_ _ _ e=>e,λ_ h=>.inl h,st.live,st.len,st.lw,st.io]
theorem xm{K:Frag}(st:cb K F H Y U W)(h:a∈W.flatten\/H a=none):a∈F.A₀\/F.H₀ a=none:=by
 rcases h with h |h
 .exact st.new a h
 .by_cases b:a∈F.A₀
  .exact .inl b
  .refine .inr ?_;cases e:F.H₀ a with
   |none=>rfl
   |some o=>have:=st.kept a o b e;rw[h]at this;cases this
theorem dO{K:Frag}(st:cb K F H Y U W)(c:aD K ((F.here H W.flatten).plus fp) H' Y' U' O'):aD K (F.plus fp) H' Y' U' O':=by
 obtain⟨f,h,e⟩:=c;refine#[f,#[h.at_,h.nd,λb o d e=>h.kept b o (λz=>?_) (st.kept b o d e),λa g=>(by have q:=xm st (h.new a g);exact q),h.live,h.len,h.lw,h.io],e];rcases st.new b z with q |q
 .exact d q
 .rw[show F.H₀ b=some o from e]at q;cases q
theorem QN{K:Frag}{F:Fx}{W:List (List Addr)}(c:aD K (F.here H W.flatten) H' Y' U' O'):aT (W.flatten++F.O₀) H O' H':=by
 obtain⟨g,h,rfl⟩:=c;refine#[λb o f e=>h.kept b o (λz=>f (bv _ z)) e,λa d=>?_];rcases q0f.mp d with z |z
 .exact(h.new a z).imp (bv _) id
 .exact .inl (bq _ z)
theorem gf.here{K:Frag}(st:cb K F H Y U W)(f:gf K F O H D e):gf K (F.here H W.flatten) O H D e:=
 #[λY' H' U' O' d b q=>f.nx Y' H' U' O' (dO (fp:=[]) st d) b q,λv Y' H' c U' O' g r b q=>f.rt v Y' H' c U' O' g #[dO st r.st,r.at_,λa h=>xm st (r.new a h)] b q,
  λY' H' U' O' d b q=>f.bk Y' H' U' O' (dO (fp:=[]) st d) b q,λY' H' U' O' d b q=>f.ct Y' H' U' O' (dO (fp:=[]) st d) b q]
noncomputable def qa(l:List Str)(b e:SM):SM:=λU=>match b U with
 |.ex c f=>if c∈l then(match e f with |.rt d a=>.rt d a |_=>.bad) else .bad
 |o=>o
theorem QO{X:Cx}{np }{p}{Y:St}
  (t:XT X.K X.mg l D) (R:Gl X "DueError") (j:X.stack=X.env::X.outer) (u:X.env.frame=!X.env.locals) (S:c∈l) (J:Inv X d Y H s) (T:lX X d g) (ex:fH g H s.heap a C O) (U:X.mg c=!C)
  (h:∀v,Inv X d Y H v->fH g H v.heap a C (!.none)->codeAny (model X.prog X.w) (X.A.mark (!.ref a)) (.handlers (.ref a) [.ExceptHandler none p (G::i) e] X.env) (λr m=>match r with
     |.ok f=>(match p with
      |none=>Q f m
      |some n=>wpAny (model X.prog X.w) X.A (do bindName X.env n .none;unbindBehindTheSuite X.env n e) (λ_ y=>Q f y) k m)
     |.error x=>cameBackBy (model X.prog X.w) X.A X.env k x m) v) :
  wpAny (model X.prog X.w) X.A (noteFrame (.ref a) X.env) (λ_ m=>wpAny (model X.prog X.w) X.A (setFlight (.ref a) none) (λ_ y=>wpAny (model X.prog X.w) X.A (handleBy (.ref a) X.env [.ExceptHandler (!.Name "DueError" np) p (G::i) e]) Q k y) k m) k s:=by
 have stk:=by have:=J.stack;rw[j]at this;exact this
 refine Bj (by rw[J.ok.frames,j]) stk u (λb z=>bM.some_of J.hok z) ex λh1 I x1=>wB none (wC (I.frames (λ_ h=>h) stk)) x1 λh2 c2 L=>?_;have o:=J.ch T (by rw[j];exact I.trans c2);refine wpAny_handleBy_cons (codeAny_handlers_test ?_) (by intro q;cases q);refine pp (o.re (X.A.mark (!.ref a)) false X.xe rfl (λz=>by cases z)) R t.top.mg ?_ 'd';obtain⟨M,N,hu,_⟩:=t.at_ S;obtain⟨oe,vs,a0,he,B,_⟩:=L.ob;exact QM (xl o.kIn N.ex) (xl o.kIn t.top.ex) (λhC=>QL o.kIn hu hC) he (B.trans (q0r (U.symm.trans N.mg))) (h _ o L)
theorem QP(xt:XT X.K X.mg l D)(hg:Gl X "DueError")(m:X.stack=X.env::X.outer)(a0:X.env.frame=!X.env.locals)
  (hG:GF X.mg F) (hb:∀t pn Q y,fJ (mx X X.A X.calm pn Q) t y->PassesOwn (model X.prog X.w) X.A X.env Q->jb (mx X X.A X.calm pn Q) t y body R)
  (hs:∀t e pn Q,GF X.mg t->jb (mx X (X.A.mark (!e)) false pn Q) t eg (b₀::j) S) :
  FS X F E (.Try body [.ExceptHandler (!.Name "DueError" np) none (b₀::j) n] [] [] pos) (qa l R S):=λb s Y H D' I B=>by
 obtain⟨U,O,T,st,q,f⟩:=B;obtain⟨W,k,rfl⟩:=id st;have G:GF X.mg (F.here H W.flatten):=(hG.at st).frame λa h=>k.live a (bv _ h);let y:=λc Z=>c∈l/\∃d i,S Z = .rt d i/\T.rt d i;have q1:wpS y R T U:=by
  unfold wpS qa at q;unfold wpS;generalize R U=o at q ⊢;cases o with
  |ex c Z=>
   simp only at q
   by_cases L:c∈l
   .rw[if_pos L]at q;refine#[L,?_];generalize S Z = o2 at q ⊢;cases o2 with
    |rt d i=>exact#[d,i,rfl,q]
    |_=>exact q.elim
   .rw[if_neg L]at q;exact q.elim
  |_=>exact q
 refine wpAny_Try_except (aR (hb (F.here H W.flatten) (X.pn++b) _ y ?_ PassesOwn.looking [] s Y H D' (I.re X.A X.calm _ rfl I.ok.hd) #[U,_,T,#[W,k.here,rfl],q1,f.here k]) λfw s1 h=>?_)
 .refine#[G,?_];rintro a1 Y' H' s' e c Z O' ⟨J1,a,C,g,fl,e1,cv,ex,hm⟩ M ⟨L,d,i,a2,hd⟩;subst e1;have N:lX X b g:=#[cv.s0,cv.loc,cv.cell,λp hp=>cv.pin p (bv _ hp)]
  refine QO xt hg m a0 L (J1.unre I.ok) N ex hm λs3 J3 x3=>codeAny_handlers_suite ?_;refine wB none (wC (by have:=J3.stack;rw[m]at this;exact this)) x3 λh4 c4 x4=>aR (hs (F.here H W.flatten) (.ref a) (X.pn++b) _ G [] _ _ _ #[λ_ _=>False,D'.rt,λ_ _=>False,λ_ _=>False] ((J3.ch N (by rw[m];exact c4)).re (X.A.mark (!.ref a)) false _ rfl (λz=>by cases z)) #[_,O',#[λ_=>False,λd i=>T.rt d i,λ_=>False,λ_=>False],M,?_,?_]) λfw s6 h6=>?_
  .unfold wpS;rw[a2];exact hd
  .refine#[λ_ _ _ _ _ _ z=>z.elim,λv Y2 H2 c2 U2 O2 fp r s2 qq=>?_,λ_ _ _ _ _ _ z=>z.elim,λ_ _ _ _ _ _ z=>z.elim];exact f.rt v Y2 H2 c2 _ O2 fp #[dO k r.st,r.at_,λx hx=>xm k (r.new x hx)] ((QN M).trans s2) qq
  .cases fw with
   |next=>obtain⟨_,_,_,z⟩:=h6;exact z.elim
   |brk=>obtain⟨_,_,_,z⟩:=h6;exact z.elim
   |cont=>obtain⟨_,_,_,z⟩:=h6;exact z.elim
   |ret u=>obtain⟨v,Y7,H7,J8,r8,q8⟩:=h6;exact#[v,_,H7,J8.unre I.ok,r8,q8]
 .cases fw with
  |next=>exact wpAny_execs_nil (tq I.ok h)
  |brk=>exact tq I.ok h
  |cont=>exact tq I.ok h
  |ret u=>exact tq I.ok h
noncomputable def qb:Value->V
 |.bool b=>.bl b
 |.int i _=>.int i
 |.str x _=>.str x
 |_=>.non
theorem CA(r:aX v z)(f:kb v=true):qb z=v:=by
 cases v with
 |non=>cases r;rfl
 |bl b=>cases r;rfl
 |int i=>obtain⟨t,rfl⟩:=r;rfl
 |str i=>obtain⟨t,rfl⟩:=r;rfl
 |_=>cases f
theorem QQ(e:aX y u)(f:kb y=true):∀{c a},bj c a->c.all kb=true->(∀z∈a,SeqAt.EqAt A s z u (kc (qb z) y))/\a.map qb=c:=by
 intro c a h
 induction h with
 |nil=>exactλ_=>#[(λ_ h=>by cases h),rfl]
 |cons h _ g=>
  intro b;rw[q21,q0I]at b;obtain⟨i,h2⟩:=g b.2;refine#[λz d=>?_,?_]
  .rcases q0e.mp d with rfl |d
   .rw[CA h b.1];exact LY h e b.1 f
   .exact i z d
  .rw[q0d,h2,CA h b.1]
def CB:V->List V->Hp->VK->Prop:=λx vs H Q=>∃l d y,x=.ref l/\vs=[y]/\H l=!.lst d/\d.all kb=true/\kb y=true/\Q (.int (d.countP λz=>kc z y:Nat)) H
theorem xn:sg X "list.count" CB:=by
 intro f s Y H x vs v w Q I g i h;obtain⟨l,j,y,rfl,rfl,k,m,o,q⟩:=h;cases g;obtain⟨u,rfl,ru⟩:=i.one;obtain⟨z,d,n,r,B,e⟩:=I.lstM k;obtain⟨t,h2⟩:=QQ ru o r m;refine call_meets F.slot_list_count #[_,e,rfl] F.entry_list_count (F.args_list_count_2 _ _) (SeqAt.list_countAt l d.toArray n none #[] u λz=>kc (qb z) y) #[e,λz p=>t z (by simpa using p),#[.int _,H,I.tok _,#[_,rfl],?_]];have:d.countP (λz=>kc (qb z) y)=j.countP λz=>kc z y:=by rw[<-h2,List.countP_map];rfl
 rw[this];exact q
@[simp]noncomputable def CC:af->Option (List PyData)
 |.dat (.list ds)=>some ds
 |.own _ (.l ds)=>some ds
 |_=>none
@[simp] def gK(U:ak)(i:Nat):Option (List PyData):=match U[i]? with
 |some (!c)=>CC c
 |_=>none
theorem tt{K}(st:aD K F H Y U O)(h:gK U i=!j):∃p vs,Y[i]? = !!.ref p/\H p=!.lst vs/\aH (au O H) vs j:=by
 unfold gK at h;split at h
 .rename_i c e;unfold CC at h;split at h
  .cases h;obtain⟨v,d,hd⟩:=st.dat e;obtain⟨p,f,rfl,k,g⟩:=hd.lst_inv;exact#[p,f,d,(cR k).1,g]
  .cases h;obtain⟨p,m,d,⟨_,f,l,g⟩,_⟩:=st.box e;exact#[p,f,d,l,g]
  .cases h
 .cases h
@[simp]noncomputable def oh:PyData->Option V
 |.none=>some .non
 |.bool b=>some (.bl b)
 |.int i=>some (.int i)
 |.str x=>some (.str x)
 |_=>none
@[simp] def kA:List PyData->Option (List V)
 |[]=>some []
 |d::r=>(match oh d,kA r with |some v,!l=>!v::l |_,_=>none)
theorem CD(h:DV G v d)(e:oh d=!w):v=w/\kb v=true:=by
 cases d with
 |none=>cases e;rw[h.non_inv];exact#[rfl,rfl]
 |bool b=>cases e;rw[h.bl_inv];exact#[rfl,rfl]
 |int b=>cases e;rw[h.int_inv];exact#[rfl,rfl]
 |str b=>cases e;rw[h.str_inv];exact#[rfl,rfl]
 |_=>cases e
theorem QR:∀{vs g f},aH G vs f->kA f=!g->vs=g/\vs.all kb=true:=by
 intro vs g f
 induction f generalizing vs g with
 |nil=>intro h e;cases h;cases e;exact#[rfl,rfl]
 |cons d f i=>
  intro h e;cases h with
  |cons h t=>
  unfold kA at e;cases h1:oh d with
  |none=>rw[h1]at e;cases e
  |some w=>
   cases h2:kA f with
   |none=>rw[h1,h2]at e;cases e
   |some l=>rw[h1,h2]at e;cases e;obtain⟨j,f1⟩:=CD h h1;obtain⟨k,f2⟩:=i t h2;exact#[by rw[j,k],by rw[q21,f1,f2];rfl]
@[simp] def gp(f:List PyData)(y:PyData):Option PyData:=match kA f,oh y with
 |some d,!w=>some (.int (d.countP λz=>kc z w:Nat))
 |_,_=>none
@[simp] def xo(g:List PyData->PyData->Option PyData)(i:Nat)(d:PyData):XM PyData:=λU=>lift (match gK U i with
 |some ds=>g ds d
 |none=>none) U
@[simp] def kB(g:List PyData->PyData->Option PyData)(i:Nat)(m:XM PyData):XM PyData:=λU=>match gK U i with
 |some _=>(m U).bind (xo g i)
 |none=>.bad
theorem xp{apos f}{id}(slot:Slot "list" J id)(L:typeOf (.builtin id)=pure (.type "method_descriptor"))(hm:sg X id r)
  (hg:∀G l xs I y d z H Q,H l=!.lst xs->aH G xs I->DV G y d->g I d=!z->(∀u,DV G u z->Q u H)->r (.ref l) [y] H Q)
  (hv:PE X (.Name x s) (cu i)) (he:FE X F E e m)
  (j:autoParam (attributeBase (.Name x s) J X.env (eval (.Name x s) X.env)=eval (.Name x s) X.env) Zq._auto_1)
  (t:autoParam (((backTo f (starEach [e] X.env)).all (λx=>not x.1)&&(backToKw f (keywordEach [] X.env)).all (λx=>x.1.isSome)&&decide (([e]:List Expr).length+([]:List Keyword).length+(if ([]:List Keyword).isEmpty then 0 else 1)<30))=true) Zq._auto_1)
  (n:autoParam ((apos.endLine==f.line)=true) Zq._auto_1) (hs:autoParam (starEach [e] X.env=(false,eval e X.env)::starEach [] X.env) Zq._auto_1) (h:autoParam ((backTo f (starEach [] X.env)).any (·.1)=false) Zq._auto_1) :
  FE X F E (.Call (.Attribute (.Name x s) J apos) [e] [] f) (kB g i m):=
 #[aE,(sh q1E slot L hm hv (dJ he.pe eB hs) j t n hs h).imp λY H Q v=>by
  obtain⟨U,O,st,q⟩:=v;unfold wp kB at q;cases M:gK U i with
  |none=>rw[M]at q;exact q.elim
  |some a0=>
   rw[M]at q;obtain⟨p,N,A,R,_⟩:=tt st M;refine#[_,A,.inl #[rfl,N,.of R],U,O,st,aE _ _ _ (λd S q1 w H1 O1 B s1 d1=>?_) (bK q)];obtain⟨z,D,q2⟩:=cJ q1;cases h1:gK S i with
   |none=>rw[h1]at D;cases D
   |some a1=>
    rw[h1]at D;obtain⟨p',a2,C,T,Z⟩:=tt B h1;rw[A]at C;cases C;exact hg _ _ _ _ _ _ _ _ _ T Z d1 D λu hu=>q2 u H1 O1 B s1 hu]
theorem xq:∀G l f g y d z H Q,H l=!.lst f->aH G f g->DV G y d->gp g d=!z->(∀u,DV G u z->Q u H)->CB (.ref l) [y] H Q:=λG l f g y d z H Q h i j e q=>by
 unfold gp at e;split at e
 .rename_i k w h1 h2;cases e;obtain⟨rfl,f1⟩:=QR i h1;obtain⟨rfl,f2⟩:=CD j h2;exact#[l,f,y,rfl,rfl,h,f1,f2,q _ (.int _)]
 .cases e
@[simp]noncomputable def qc(U:ak)(i:Nat):Option (Bool×List PyData):=match U[i]? with
 |some (!.own io (.l ds))=>some (io,ds)
 |_=>none
theorem QS(h:qc U i=!(io,d)):U[i]? = !!.own io (.l d):=by
 unfold qc at h;split at h
 .rename_i e;cases h;exact e
 .cases h
@[simp] def dH:=gI λi j=>.int (i+j)
@[simp] def iP:=gI λi j=>.int (i - j)
@[simp] def oi:=nM kQ λi j=>.int (i * j)
@[simp] def CF:=nM sP λi j=>.int (i / j)
@[simp] def oj:=nM pT λi j=>.int (i % j)
@[simp] def om:=gI λi j=>.bool (decide (i<j))
@[simp] def tu:=gI λi j=>.bool (decide (i<=j))
@[simp] def kS:=gI λi j=>.bool (decide (j<i))
theorem eL(d:FE X F E a ma)(f:FE X F E b mb):FE X F E (.BinOp a .Add b pos) (aj dH ma mb):=gj kP (Ps d f)
theorem on(d:FE X F E a ma)(f:FE X F E b mb):FE X F E (.BinOp a .Sub b pos) (aj iP ma mb):=gj kP (Pt d f)
theorem qd(d:FE X F E a ma)(f:FE X F E b mb):FE X F E (.BinOp a .Mult b pos) (aj oi ma mb):=gj (sO Qc) (Pu d f)
theorem QT(d:FE X F E a ma)(f:FE X F E b mb):FE X F E (.BinOp a .FloorDiv b pos) (aj CF ma mb):=gj (sO Qd) (Pw d f)
theorem qe(d:FE X F E a ma)(f:FE X F E b mb):FE X F E (.BinOp a .Mod b pos) (aj oj ma mb):=gj (sO Qe) (Px d f)
theorem tw(d:FE X F E a ma)(f:FE X F E b mb):FE X F E (.BinOp a .Add b pos) (aj mf ma mb):=gj Qg (Py d f)
theorem qf(d:FE X F E a ma)(f:FE X F E b mb):FE X F E (.BinOp a .Add b pos) (aj eZ ma mb):=gj Qh (PZ d f)
theorem CG(d:FE X F E a ma)(f:FE X F E b mb):FE X F E (.Compare a [.Lt] [b] pos) (aj om ma mb):=gj kP (Pz d f)
theorem QU(d:FE X F E a ma)(f:FE X F E b mb):FE X F E (.Compare a [.LtE] [b] pos) (aj tu ma mb):=gj kP (PB d f)
theorem QV(d:FE X F E a ma)(f:FE X F E b mb):FE X F E (.Compare a [.Gt] [b] pos) (aj kS ma mb):=gj kP (PC d f)
theorem CH(d:FE X F E a ma)(f:FE X F E b mb):FB X F E (.Compare a [.Lt] [b] pos) (aZ (aj om ma mb)):=me kP (PD d f)
theorem QW(d:FE X F E a ma)(f:FE X F E b mb):FB X F E (.Compare a [.LtE] [b] pos) (aZ (aj tu ma mb)):=me kP (PH d f)
theorem qg(d:FE X F E a ma)(f:FE X F E b mb):FB X F E (.Compare a [.Gt] [b] pos) (aZ (aj kS ma mb)):=me kP (PJ d f)
theorem my(d:X.A.units+64<cLine)(f:FE X F E a ma)(g:FE X F E b mb):FE X F E (.Compare a [.Eq] [b] pos) (aj (aI false) ma mb):=gj wQ (PL d f g)
theorem dP(d:X.A.units+64<cLine)(f:FE X F E a ma)(g:FE X F E b mb):FB X F E (.Compare a [.Eq] [b] pos) (aZ (aj (aI false) ma mb)):=me wQ (PM d f g)
theorem qh(d:X.A.units+64<cLine)(f:FE X F E a ma)(g:FE X F E b mb):FB X F E (.Compare a [.NotEq] [b] pos) (aZ (aj (aI true) ma mb)):=me wQ (PN d f g)
theorem QX(d:FE X F E a ma)(f:FE X F E b mb):FE X F E (.Compare a [.Is] [b] pos) (aj nN ma mb):=gj BS (PQ d f)
theorem xr(d:FE X F E a ma)(f:FE X F E b mb):FE X F E (.Compare a [.IsNot] [b] pos) (aj jB ma mb):=gj BT (nI zT AS d f (bD _))
theorem QY(d:FE X F E a ma)(f:FE X F E b mb):FB X F E (.Compare a [.Is] [b] pos) (aZ (aj nN ma mb)):=me BS (PR d f)
theorem xu(d:FE X F E a ma)(f:FE X F E b mb):FB X F E (.Compare a [.IsNot] [b] pos) (aZ (aj jB ma mb)):=me BT (PU d f)
theorem QZ(d:FE X F E a ma)(h:FE X F E b mb)(f:FE X F E c mc)(g:lastMarks [.LtE,.LtE] [b,c]=false:=by with_unfolding_all rfl):FE X F E (.Compare a [.LtE,.LtE] [b,c] pos) (wS (λi j=>decide (i<=j)) (λi j=>decide (i<=j)) ma mb mc):=Qj (PV d h f g)
@[simp] def aG:PyData->PyData->Option PyData:=λx y=>match x,y with
 |.tuple ds,.int i=>bN ds i
 |.list ds,.int i=>bN ds i
 |_,_=>none
def CI:D2:=λx y Q=>AU x y Q\/AV x y Q
theorem Ra{K}:fG (λx y H Q=>wa K x y H Q\/vZ K x y H Q) CI where
 mn:=λx y Q Q' k h=>h.imp (AY (K:=K).mn x y Q Q' k) (AZ (K:=K).mn x y Q Q' k)
 ok:=λO H u v x y Q hO h1 h2 h=>h.imp (AY.ok O H u v x y Q hO h1 h2) (AZ.ok O H u v x y Q hO h1 h2)
theorem Rb:F2 CI aG:=λx y d Q e q=>by
 unfold aG at e;split at e
 .exact .inl #[_,_,_,rfl,rfl,e,q]
 .exact .inr #[_,_,_,rfl,rfl,e,q]
 .cases e
theorem aY(d:FE X F E a ma)(g:FE X F E b mb)(f:pD b:=by intro _ _;rfl):FE X F E (.Subscript a b pos) (aj aG ma mb):=gj Rb (Nj (ka.or LP wb) Ra d g f)
noncomputable def xv:Expr->Bool
 |.Starred ..=>true
 |_=>false
theorem xw(h:xv e=false):starEach (e::b) a=(false,eval e a)::starEach b a:=by cases e<;>first |rfl |cases h
theorem aB(g:FE X F E e d)(h:FA X F E es f)(i:autoParam (xv e=false) Zq._auto_1):FA X F E (e::es) (av d f):=Qk g h (xw i)
theorem az(g:FE X F E e d)(h:FX X F E es f)(i:autoParam (xv e=false) Zq._auto_1):FX X F E (e::es) (aw d f):=Qp g h (xw i)
theorem bC(f:PE X (.Name x p) (cu j))(g:FX X F E es d):FX X F E (.Name x p::es) (ba j d):=Qq f g (xw rfl)
@[simp] def CJ:=nM sQ λi j=>.int (i ^ j.toNat)
theorem Rc(d:FE X F E a ma)(f:FE X F E b mb):FE X F E (.BinOp a .Pow b pos) (aj CJ ma mb):=gj (sO Qf) (Qa d f)
noncomputable def bP(f:Str)(v:Fl):List (Str×Fl)->List (Str×Fl)
 |[]=>[(f,v)]
 |(g,x)::r=>if g=f then(g,v)::r else(g,x)::bP f v r
noncomputable def gL:Option Fl->Bool
 |none=>true
 |some (.d _)=>true
 |_=>false
def ca(C:Addr)(U:ak)(i:Nat):Option (Bool×List (Str×Fl)):=match U[i]? with
 |some (!.own io (.o a fs))=>if a = C then some (io,fs) else none
 |_=>none
theorem jG(h:ca C U i=!(io,fs)):U[i]? = !!.own io (.o C fs):=by
 unfold ca at h;split at h
 .rename_i e;split at h
  .rename_i a;cases h;rw[e,a]
  .cases h
 .cases h
theorem qi(h:bt G H b fs a)(f):(b.lookup f=none/\fs.lookup f=none)\/∃v x c,b.lookup f=!v/\fs.lookup f=!x/\gB G H v x c/\c∈a:=by
 induction h with
 |nil=>exact .inl #[rfl,rfl]
 | @cons n v x c b fs a h1 h2 g=>
  by_cases e:f=n
  .subst e;exact .inr #[v,x,c,by simp,by simp,h1,q0h]
  .have i:(f==n)=false:=by simpa using e
   rw[q0t,q0t,i];rcases g with q |⟨j,k,d,l,m,o,p⟩
   .exact .inl q
   .exact .inr #[j,k,d,l,m,o,bH _ p]
theorem CL{α:Type}:∀{W:List (List α)}{i:Nat}{l},W.flatten.Nodup->W[i]? = !l->l.Nodup
 |w::W,0,l,nd,h=>by simp only[q1X,q08]at h;subst h;rw[q0n]at nd;exact(q0j.mp nd).1
 |w::W,i+1,l,nd,h=>by rw[q0n]at nd;exact CL (q0j.mp nd).2.1 (by simpa using h)
theorem aD.boxN{K}(st:aD K F H Y U O)(e:U[i]? = !!.own io b):∃a n,Y[i]? = !!.ref a/\fC (au O H) H a b n/\(∀c∈n,c∈O)/\n.Nodup/\
  ∀g  w  f,(∀c o,c∉n->H c=!o->g c=!o)->f.Nodup->(∀c∈f,c∈n\/H c=none)->(∀G,(∀p,aT O H p g->G=au p g->(∀c∈f,c∈p)->bI (au O H) G/\fC G g a w f))->
   ∃p,aD K F g Y (U.set i (!.own io w)) p/\aT O H p g/\(∀c∈p,c∈f\/c∈O):=by
 obtain⟨W,st,rfl⟩:=st;obtain⟨v,n,h1,h2,a,rfl,h3⟩:=st.at_ i _ e;have C:=(q0a.mp e).1;have x:i<W.length:=by rw[st.lw];exact C
 refine#[a,n,h1,h3,λc d=>bv _ (bZ h2 d),(CL (q0j.mp st.nd).1 h2),λg w f keep Q y R=>?_];have s:=(q0j.mp st.nd).1;have D:=λc d z=>(q0j.mp st.nd).2.2 c (bZ h2 d) c z rfl;have ap:∀c∈f,(∀j l,j≠i->W[j]? = !l->c∉l)/\c∉F.O₀:=λc d=>by
  rcases y c d with q |q
  .exact#[λj l r m z=>kI s h2 m r.symm q z,D c q]
  .refine#[λj l _ m z=>?_,λz=>?_]
   .obtain⟨o,k,_⟩:=st.live c (bv _ (bZ m z));rw[q]at k;cases k
   .obtain⟨o,k,_⟩:=st.live c (bq _ z);rw[q]at k;cases k
 have frz:∀c o,c∉W.flatten++F.O₀->H c=!o->g c=!o:=λc o d L=>keep c o (λz=>d (bv _ (bZ h2 z))) L;have A:aT (W.flatten++F.O₀) H ((W.set i f).flatten++F.O₀) g:=#[frz,λc h=>by
  rcases q0f.mp h with h |h
  .rcases gd h with h |⟨j,l,_,m,B⟩
   .exact(y c h).imp (λz=>bv _ (bZ h2 z)) id
   .exact .inl (bv _ (bZ m B))
  .exact .inl (bq _ h)]
 have u:=(R _ _ A rfl (λc d=>bv _ (AO x d))).2;obtain⟨E,M⟩:=st.put (c:=.own io w) C (λj l c r m d=>by obtain⟨o,k,_⟩:=st.live c (bv _ (bZ m d));rw[k];exact keep c o (λz=>kI s m h2 r d z) k) (λc d=>by obtain⟨o,k,_⟩:=st.live c (bq _ d);rw[k];exact keep c o (λz=>D c z d) k) frz Q ap (λc d=>(y c d).imp (λz=>bZ h2 z) id) (λc d=>u.live c d) (λ_=>#[a,rfl,u]) (λS z=>by cases z;have:=st.io i b e;rw[h1]at this;exact(q0r (q0r this)));have N:Y.set i (!.ref a)=Y:=by
  apply q00;intro j
  by_cases r:j=i
  .subst r;rw[q0w (q0a.mp h1).1,h1]
  .rw[q0v (Ne.symm r)]
 rw[N]at E;refine#[_,#[_,E,rfl],M,λc d=>?_];rcases q0f.mp d with d |d
 .rcases gd d with d |⟨j,l,_,m,B⟩
  .exact .inl d
  .exact .inr (bv _ (bZ m B))
 .exact .inr (bq _ d)
theorem bt.len(h:bt G H b fs a):b.length=fs.length:=by
 induction h with
 |nil=>rfl
 |cons _ _ c=>simp[c]
theorem bt.putD(h:bt G H s fs a)(i:gL (fs.lookup f)=true)(hd:DV r v d)(g:bI G r)(k:∀c∈a.flatten,p c=H c) :
  bt r p (cQ f v s) (bP f (.d d) fs) (if (fs.lookup f).isSome=true then a else a++[[]]):=by
 induction h with
 |nil=>exact .cons #[rfl,hd] .nil
 | @cons n w x D s fs a h1 h2 u=>
  unfold cQ bP
  by_cases e:n=f
  .subst e;have A:List.lookup n ((n,x)::fs)=!x:=by simp
   rw[A]at i ⊢;rw[if_pos rfl,if_pos rfl];cases x with
   |d y=>obtain⟨rfl,_⟩:=h1;exact .cons #[rfl,hd] (h2.keep (λc j=>k c (by simp only[q0n,q0f];exact .inr j)) g)
   |l ds=>cases i
   |m E B=>cases i
  .have C:(f==n)=false:=by simpa using λz=>e z.symm
   rw[q0t,C]at i ⊢;rw[if_neg e,if_neg e];have o:=h1.keep (λc j=>k c (by simp only[q0n,q0f];exact .inl j)) g;have b:=u i λc j=>k c (by simp only[q0n,q0f];exact .inr j);simp only at b ⊢;split
   .rename_i q;rw[if_pos q]at b;exact .cons o b
   .rename_i q;rw[if_neg q]at b;exact .cons o b
def cM(C:Addr)(i:Nat)(f:Str):XM PyData:=λU=>match ca C U i with
 |some (_,fs)=>(match fs.lookup f with
  |some (.d d)=>.ok d U
  |_=>.bad)
 |none=>.bad
theorem dI(cl:dm X.K C)(k:cT X.K C f)(n:PE X (.Name x p1) (cu i))(B:autoParam (attributeBase (.Name x p1) f X.env (eval (.Name x p1) X.env)=eval (.Name x p1) X.env) Zq._auto_1):FE X F E (.Attribute (.Name x p1) f pos) (cM C i f):=
 #[aE,(nE n B).imp λY H Q g=>by
  obtain⟨U,O,st,q⟩:=g;unfold wp cM at q;cases h:ca C U i with
  |none=>rw[h]at q;exact q.elim
  |some p=>
   obtain⟨io,fs⟩:=p;rw[h]at q;simp only at q;obtain⟨o,D,j,⟨r,s,t,G,u,I,w⟩,_,_⟩:=st.box (jG h);rcases qi w f with⟨l1,l2⟩ |⟨v,y,z,l1,l2,l3,_⟩
   .rw[l2]at q;exact q.elim
   .rw[l2]at q;cases y with
    |d d=>exact#[_,j,o,C,r,s,v,rfl,u,cl,k,l1,q v H O st (.refl ..) l3.2]
    |l ds=>exact q.elim
    |m J A=>exact q.elim]
def gM(C:Addr)(i:Nat)(f:Str)(d:PyData):SM:=λU=>match ca C U i with
 |some (io,fs)=>if fs.length<1000/\gL (fs.lookup f)=true then .nx (U.set i (!.own io (.o C (bP f (.d d) fs)))) else .bad
 |none=>.bad
def cX(C:Addr)(i:Nat)(f:Str)(m:XM PyData):SM:=λU=>dE (m U) (gM C i f)
theorem xx(cl:dm X.K C)(M:cT X.K C f)(N:PE X (.Name x p1) (cu i))(Q:FE X F E e m)(R:autoParam (swapsWith e (!.Attribute (.Name x p1) f h) pos.line X.env=pure false) Zq._auto_1):FS X F E (.Assign [.Attribute (.Name x p1) f h] e pos) (cX C i f m):=
 (rZ N Q.pe R).imp λD Y H S=>by
 obtain⟨U,O,DD,st,q,T⟩:=S;exact#[U,O,st,aE _ _ _ (λd Z g J H1 O1 t s1 d1=>by
  unfold wpS gM at g;cases u:ca C Z i with
  |none=>rw[u]at g;exact g.elim
  |some p=>
   obtain⟨io,fs⟩:=p;rw[u]at g;simp only at g
   by_cases j:fs.length<1000/\gL (fs.lookup f)=true
   .rw[if_pos j]at g;obtain⟨r,fp,v,⟨n,y,l,e1,e2,e3,L⟩,hO,nd,up⟩:=t.boxN (jG u);subst e1;obtain⟨A,_⟩:n≠r/\True:=#[λz=>by subst z;simp at nd,trivial]
    refine#[_,v,r,C,n,y,rfl,e2,cl,M,by rw[L.len];exact j.1,?_];obtain⟨O3,B,s3,_⟩:=up (aL H1 r (.ins C n (cQ f J y))) (.o C (bP f (.d d) fs)) (r::n::l.flatten) (λc o I e=>by rw[bw (λz=>I (by simp[z]))];exact e) nd (λc j=>.inl j) (λG O' s hG _=>by
     subst hG;refine#[s.hid,n,cQ f J y,if (fs.lookup f).isSome=true then l else l++[[]],?_,cF,by rw[bw A];exact e3,?_]
     .split
      .rfl
      .simp
     .refine L.putD j.2 (DV.mono s.hid d1) s.hid λc j=>bw (λz=>?_);subst z;exact absurd j (by
       have:=(q0V.mp nd).1;exactλw=>this (bH _ w)))
    exact T.nx _ _ _ _ B (s1.trans s3) g
   .rw[if_neg j]at g;exact g.elim) (fN q)]
theorem CN(a:wp E (mj f as) d Q):iZ f E Q as d:=by
 unfold wp mj at a;unfold iZ;cases j:iA d as with
 |none=>rw[j]at a;exact a
 |some p=>
  obtain⟨l,n⟩:=p;rw[j]at a;simp only at a ⊢;cases h:f l with
  |rt c b=>rw[h]at a;exact a
  |ex c b=>rw[h]at a;exact a
  |bad=>rw[h]at a;exact a
def cL(f:FM)(i:Nat)(as:List AX):XM af:=mj f (.s i::as)
def bX(C:Addr)(i:Nat)(m:Str)(f:FM)(mX:XM (List AX)):XM af:=λU=>match ca C U i with
 |some (_,fs)=>if fs.lookup m=none then(mX U).bind (cL f i) else .bad
 |none=>.bad
theorem Re{pos:Pos}{apos:Pos}{pl}(hx:fJ X F E)(cl:dm X.K C)(hm:iQ X.K C m g)(G:cD X.prog X.w X.K X.mg X.base (ej X.prog X.w) k g fd ps (gE X.K X.mg f))(hr:bx k X.A)(hb:jw X.K fd ps [])(hv:PE X (.Name x p1) (cu i))(ha:FX X F E (e::es) mX)
  (L:autoParam (starEach (e::es) X.env=(false,eval e X.env)::starEach es X.env) Zq._auto_1) (M:autoParam ((backTo pos (starEach es X.env)).any (·.1)=false) Zq._auto_1)
  (ht:autoParam (eval (.Call (.Attribute (.Name x p1) m apos) (e::es) [] pos) X.env=(do
   let ov <-eval (.Name x p1) X.env
   standAt apos.atName
   let(f,first) <-holding [ov] (getMethod ov m pl)
   callWith pos f first (backTo pos (starEach (e::es) X.env)) (backToKw pos (keywordEach [] X.env)))) Zq._auto_1) :
  FO X F E (.Call (.Attribute (.Name x p1) m apos) (e::es) [] pos) (bX C i m f mX):=by
 refine#[aE,λa s Y H Q I l=>?_];obtain⟨U,O,st,q⟩:=l;unfold wp bX at q;cases N:ca C U i with
 |none=>rw[N]at q;exact q.elim
 |some p=>
  obtain⟨io,fs⟩:=p;rw[N]at q;simp only at q
  by_cases R:fs.lookup m=none
  .rw[if_pos R]at q;obtain⟨b,D,n,⟨dx,gs,a2,e1,e2,e3,e4⟩,_,_⟩:=st.box (jG N);have hg:gs.lookup m=none:=by
    rcases qi e4 m with⟨l1,_⟩ |⟨_,_,_,_,l2,_⟩
    .exact l1
    .rw[R]at l2;cases l2
   refine q2T (aR (hv a s Y H (λv o=>v=.ref b/\o=H) I #[_,n,rfl,rfl]) λu S t=>?_) ht;obtain⟨v,o,I1,rx,ex,eH⟩:=t;subst ex eH;obtain rfl:u=Value.ref b:=rx;apply zZ I1 e2 cl hm hg;refine q2s I.ok.mod.kin hm.kp (aR (ha.pa pos a S Y o (λvs y=>∃as z j,aD X.K F y Y z j/\aT O o j y/\du Y (au j y) vs as/\iZ f E (λc U'=>∀v B J D,iX X.K F B Y U' J v c D->aT O o J B->Q v B) (.s i::as) z) I1 #[U,O,st,ha.mn _ _ _ (λas z T vs y j d S Z=>#[as,z,j,d,S,Z,CN T]) (bK q)]) λus s2 zz=>#[by obtain⟨_,_,I2,_⟩:=zz;exact I2.kIn,?_]) L M;obtain⟨vs,y,I2,r,as,z,j,d,a1,Z,T⟩:=zz;exact wI hx G hr hb I2 (vs:=V.ref b::vs) (.cons (rfl) r) d (du.s n Z) T λc U' h v B J D res s2=>h v B J D res (a1.trans s2)
  .rw[if_neg R]at q;exact q.elim
def dc(C:Addr)(i:Nat)(m:Str)(f:FM):XM af:=λU=>match ca C U i with
 |some (_,fs)=>if fs.lookup m=none then mj f [.s i] U else .bad
 |none=>.bad
theorem Rf(B:fJ X F E)(cl:dm X.K C)(r:iQ X.K C m g)(G:cD X.prog X.w X.K X.mg X.base (ej X.prog X.w) k g fd ps (gE X.K X.mg f))(D:bx k X.A)(hb:jw X.K fd ps [])(J:PE X (.Name x p1) (cu i))
  (L:autoParam (eval (.Call (.Attribute (.Name x p1) m apos) [] [] pos) X.env=(do
   let t <-eval (.Name x p1) X.env
   standAt apos.atName
   let(f,first) <-holding [t] (getMethod t m pl)
   callWith pos f first (backTo pos (starEach [] X.env)) (backToKw pos (keywordEach [] X.env)))) Zq._auto_1) :
  FO X F E (.Call (.Attribute (.Name x p1) m apos) [] [] pos) (dc C i m f):=by
 refine#[aE,λb s Y H Q I d=>?_];obtain⟨U,O,st,q⟩:=d;unfold wp dc at q;cases n:ca C U i with
 |none=>rw[n]at q;exact q.elim
 |some p=>
  obtain⟨io,fs⟩:=p;rw[n]at q;simp only at q
  by_cases o:fs.lookup m=none
  .rw[if_pos o]at q;obtain⟨a,y,j,⟨dx,M,N,e1,R,e3,S⟩,_,_⟩:=st.box (jG n);have T:M.lookup m=none:=by
    rcases qi S m with⟨l1,_⟩ |⟨_,_,_,_,l2,_⟩
    .exact l1
    .rw[o]at l2;cases l2
   refine q2T (aR (J b s Y H (λv z=>v=.ref a/\z=H) I #[_,j,rfl,rfl]) λu s1 l=>?_) L;obtain⟨v,z,I1,Z,ex,eH⟩:=l;subst ex eH;obtain rfl:u=Value.ref a:=Z;apply zZ I1 R cl r T;apply PySem.W.callWith_K0 I1.kIn r.kp;exact wI (vs:=[V.ref a]) B G D hb I1 (.cons (rfl) .nil) st (du.s j .nil) (CN q) λc U' h v H' O' y res s2=>h v H' O' y res s2
  .rw[if_neg o]at q;exact q.elim
noncomputable def qj(C:Addr)(f:FM)(a:List PyData):XM af:=λU=>match f (.own true (.o C [])::a.map .dat) with
 |.rt (.dat .none) [b]=>.ok (.own false b) U
 |.ex c _=>.ex c U
 |_=>.bad
def xy(C:Addr)(f:FM)(a:XM (List PyData)):XM af:=λU=>(a U).bind (qj C f)
theorem Rg{K}:∀{vs a},aH (au O H) vs a->aU K H O vs (a.map .dat) (a.map λ_=>[]):=by
 intro vs a
 induction a generalizing vs with
 |nil=>intro h;cases h;exact .nil
 |cons d a b=>intro h;cases h with
  |cons h t=>exact .dat h (b t)
theorem Rh{a:Addr}{b:Bx}:∀{j:List PyData}{vs}{bs}{c},bf H O vs (j.map af.dat) bs c->bs=[]/\c=[]:=by
 intro j
 induction j with
 |nil=>intro vs bs c h;cases h;exact#[rfl,rfl]
 |cons d j l=>intro vs bs c h;cases h with
  |skip _ h=>exact l h
theorem xz{α β:Type}:∀l:List α,(l.map λ_=>([]:List β)).flatten=[]
 |[]=>rfl
 |_::r=>by simp
theorem Ri{pos:Pos}{p:Pos}(hx:fJ X F E)(M:Mk X.K C g)(G:cD X.prog X.w X.K X.mg X.base (ej X.prog X.w) k g fd ps (gE X.K X.mg f))(hr:bx (k+1) X.A)(hg:Gl X x)(hm:X.mg x=!.ref C)(hb:jw X.K fd ps [])(l:FA X F E (e::es) mA)
  (b4:autoParam ((x==("__debug__":Str))=false) Zr._auto_1) (he:autoParam (starEach (e::es) X.env=(false,eval e X.env)::starEach es X.env) Zq._auto_1) (b5:autoParam ((backTo pos (starEach es X.env)).any (·.1)=false) Zq._auto_1) :
  FO X F E (.Call (.Name x p) (e::es) [] pos) (xy C f mA):=by
 refine#[aE,λa0 s Y H Q I a8=>?_];obtain⟨U,O,st,q⟩:=a8;refine wpAny_Call_Name_kw (pp I hg hm ?_ b4);have q':=bK (E:=E) (m:=mA) (k:=qj C f) (U:=U) q;refine q2s (h₀:=X.base) I.ok.mod.kin M.kp (aR (l.pa pos a0 s Y H (λvs y=>∃T U1 t,aD X.K F y Y U1 t/\aT O H t y/\aH (au t y) vs T/\wp E (qj C f T) U1 (λc U'=>∀v n O' fp,iX X.K F n Y U' O' v c fp->aT O H O' n->Q v n)) I #[U,O,st,l.mn _ _ _ (λT U1 D vs y t J L dv=>#[T,U1,t,J,L,dv,D]) q']) λus L zz=>#[by obtain⟨_,_,I1,_⟩:=zz;exact I1.kIn,?_]) he b5;obtain⟨vs,y,I1,r,T,U1,t,J,b6,dv,D⟩:=zz;let EX:XK:=λC _ n=>∃c U' O',X.mg c=!C/\aD X.K F n Y U' O'/\E c U';have h:∀x j,y x=none->y j=none->j≠x->gE X.K X.mg f (.ref x::vs) (aL (aL y j (.own x)) x (.ins C j [])) (λv H2=>v=.non/\Q (.ref x) H2) EX:=λx j h1 h2 a1=>by
  obtain⟨W,a2,a9⟩:=id J;have a3:∀a∈t,∃o,y a=!o/\Mv o:=λa h=>a2.live a (by rw[<-a9];exact h);have nx:x∉t:=λz=>by obtain⟨o,e,_⟩:=a3 x z;rw[h1]at e;cases e
  have b7:j∉t:=λz=>by obtain⟨o,e,_⟩:=a3 j z;rw[h2]at e;cases e
  have a4:t.Nodup:=by rw[a9];exact a2.nd
  have up:∀b o,y b=!o->aL (aL y j (.own x)) x (.ins C j []) b=!o:=λb o e=>by rw[bw (λz=>by subst z;rw[h1]at e;cases e),bw (λz=>by subst z;rw[h2]at e;cases e)];exact e
  have fl:(([x,j]::T.map λ_=>([]:List Addr)).flatten++t)=x::j::t:=by rw[q0n,xz];rfl
  have hid:bI (au t y) (au (x::j::t) (aL (aL y j (.own x)) x (.ins C j []))):=λb o e=>by
   obtain⟨Z,n1⟩:=cR e;refine gb (up b o Z) λz=>?_;rcases q0e.mp z with z |z
   .subst z;rw[h1]at Z;cases Z
   .rcases q0e.mp z with z |z
    .subst z;rw[h2]at Z;cases Z
    .exact n1 z
  refine#[(hx.1.at J).mono λb u _ e=>up b u e,.own true (.o C [])::T.map .dat,[x,j]::T.map λ_=>[],t,?_,?_,?_,?_]
  .rw[fl];exact .own #[j,[],[],rfl,cF,by rw[bw a1,cF],.nil] (Rg (aH.mono hid dv))
  .rw[fl];refine q0V.mpr #[λz=>?_,q0V.mpr #[b7,a4]];rcases q0e.mp z with z |z
   .exact a1 z.symm
   .exact nx z
  .rw[fl];intro a l;rcases q0e.mp l with rfl |l
   .exact#[.ins C j [],cF,trivial]
   .rcases q0e.mp l with rfl |l
    .exact#[.own x,by rw[bw a1,cF],trivial]
    .obtain⟨o,Z,e2⟩:=a3 a l;exact#[o,up a o Z,e2]
  .unfold wp qj at D;have hL:([x,j]::T.map λ_=>([]:List Addr)).flatten=[x,j]:=by rw[q0n,xz];rfl
   have b0:aD X.K (F.plus []) y Y U1 t:=J;have lift:∀(n:Hp) (L':List Addr),kj (aL (aL y j (.own x)) x (.ins C j [])) n [x,j] L' t->∃S,aD X.K (F.plus L') n Y U1 S/\aT t y S n/\(∀a∈L',a∈S)/\(∀a∈S,a∈L'\/a∈t)/\∀a∈L',a∈F.A₀\/F.H₀ a=none:=λn L' B=>by
    have new1:∀a∈L',y a=none:=λa l=>by
     rcases B.new a l with z |z
     .simp only[q0e,q0p,or_false]at z;rcases z with rfl |rfl
      .exact h1
      .exact h2
     .cases e:y a with
      |none=>rfl
      |some o=>rw[up a o e]at z;cases z
    obtain⟨S,t1,t2,t3,t4,_⟩:=b0.swap (L':=L') (H':=n) (λb o _ e=>B.keep b o (λz=>by
     simp only[q0e,q0p,or_false]at z;rcases z with rfl |rfl
     .rw[h1]at e;cases e
     .rw[h2]at e;cases e) (up b o e)) (q0j.mp B.nd).1 (λa l=>.inr (new1 a l)) (λa h=>by cases h) B.live
    refine#[S,t1,t2,t3,λa l=>(t4 a l).imp id (·.1),λa l=>?_]
    by_cases hA:a∈F.A₀
    .exact .inl hA
    .refine .inr ?_;cases e:F.H₀ a with
     |none=>rfl
     |some o=>have:=a2.kept a o hA e;rw[new1 a l]at this;cases this
   cases hf:f (.own true (.o C [])::T.map .dat) with
   |bad=>rw[hf]at D;exact D
   |ex c N=>rw[hf]at D;intro C' n b1 a5 b2 B;rw[hL]at B;obtain⟨S,t1,t2,t3,t4,t5⟩:=lift n [] #[a4,λa h=>(by cases h),B.keep,λa h=>(by cases h)];exact#[c,U1,S,a5,t1,D]
   |rt c N=>
    rw[hf]at D;intro v n fp b1 b8 b2 B;rw[hL]at B;obtain⟨b',rfl,rfl⟩:∃b',c=.dat .none/\N=[b']:=by
     cases c with
     |dat d=>cases d with
      |none=>cases N with
       |nil=>exact D.elim
       |cons b r=>cases r with
        |nil=>exact#[b,rfl,rfl]
        |cons _ _=>exact D.elim
      |_=>exact D.elim
     |_=>exact D.elim
    .
     have hv:v=.non:=DV.non_inv b8;cases b2 with
     |skip b9 _=>exact absurd rfl (b9 _ _)
     | @own _ _ _ _ a6 _ _ _ c2 b3 a7=>
      obtain⟨_,rfl⟩:=Rh (a:=0) (b:=b') a7;refine#[hv,?_];simp only[q0n,List.flatten_nil,q0G]at b3 B;have c0:kj (aL (aL y j (.own x)) x (.ins C j [])) n [x,j] a6 t:=#[by
       have n1:=B.nd;rw[q0x]at n1;obtain⟨m1,m2,m3⟩:=q0j.mp n1;exact q0j.mpr #[m1,a4,λa l b hb=>m3 a l b (bq _ hb)],λa l=>B.live a (bv _ l),B.keep,λa l=>B.new a (bv _ l)]
      obtain⟨S,t1,t2,t3,t4,t5⟩:=lift n a6 c0;refine D (.ref x) n S a6 #[t1,#[x,rfl,b3.keep (λ_ _=>rfl) (sB λa l=>?_)],t5] (b6.trans t2);rcases t4 a l with z |z
      .exact bv _ (bv _ z)
      .exact bq _ z
 have hq:=h (L.heap.objs.size+1) L.heap.objs.size (I1.hok.fresh (q1u _)) (I1.hok.fresh (aP _)) (q0q (q06 _));have I2:=Inv.made (C:=C) I1;have r2:bj (V.ref (L.heap.objs.size+1)::vs) (Value.ref (L.heap.objs.size+1)::us):=.cons rfl r;have hl:(Value.ref (L.heap.objs.size+1)::us++[]).length=ps.length:=by have e:=r2.length;rw[G.len _ _ _ _ hq]at e;rw[q0G];exact e.symm
 refine wpAny_call (Ld (f:=g) I1.kIn M.makes M.init (beq_iff_eq.mp M.fn) (codeAny_mono (G.run _ X.stack _ _ #[Value.ref (L.heap.objs.size+1)::us,[]] (Value.ref (L.heap.objs.size+1)::us) _ _ EX (hr.make C us [])
  (I2.env0.make C us []) (by have:=hb _ (Value.ref (L.heap.objs.size+1)::us) I2.kIn hl;rw[q0G]at this;exact this) r2 hq) λr s' R=>?_))
 cases r with
 |error e=>obtain⟨a,C',n,Z,I',cv,ex,c,U',O',a5,c1,hE⟩:=I2.flies R;exact hx.2 a0 Y n s' e c U' O' #[I',a,C',_,_,Z,cv,ex,a5] c1 hE
 |ok fl=>
  cases fl with
  |ret u=>obtain⟨v,n,I3,rv,ev,q3⟩:=I2.after R;subst ev;exact#[rv,#[V.ref (L.heap.objs.size+1),n,I3,rfl,q3]]
  |next=>exact False.elim R
  |brk=>exact False.elim R
  |cont=>exact False.elim R
noncomputable def xA:Fl->Bool
 |.d _=>false
 |_=>true
theorem Rj(h:gB G H v x f)(g:xA x=true):∃b,v=.ref b/\f=[b]:=by
 cases x with
 |d _=>cases g
 |l ds=>obtain⟨a,j,c,e,_⟩:=h;exact#[a,c,e]
 |m k i=>obtain⟨a,c,e,_⟩:=h;exact#[a,c,e]
theorem Rk(w:xA x=true):∀{m fs a},bt G H m fs a->fs.lookup f=!x->a.flatten.Nodup->
  ∃b,m.lookup f=!.ref b/\gB G H (.ref b) x [b]/\b∈a.flatten/\∀j l  o,bI G j->(∀c∈a.flatten,c≠b->l c=H c)->gB j l (.ref b) o [b]->bt j l m (bP f o fs) a:=by
 intro m fs a h
 induction h with
 |nil=>intro p;cases p
 | @cons n v y J m fs a h1 h2 A=>
  intro p u;rw[q0n]at u;obtain⟨L,B,r⟩:=q0j.mp u
  by_cases e:f=n
  .subst e;have C:=by simpa[List.lookup] using p
   subst C;obtain⟨b,rfl,rfl⟩:=Rj h1 w;refine#[b,by simp,h1,by simp,λj l o g k d=>?_];unfold bP;rw[if_pos rfl];refine .cons d (h2.keep (λc i=>k c (by rw[q0n];exact bq _ i) λz=>?_) g);exact r b 'c' c i z.symm
  .have s:(f==n)=false:=by simpa using e
   rw[q0t,s]at p;obtain⟨b,D,E,t,I⟩:=A p B;refine#[b,by rw[q0t,s];exact D,E,by rw[q0n];exact bq _ t,λj l o g k d=>?_];unfold bP;rw[if_neg (λz=>e z.symm)];refine .cons (h1.keep (λc i=>k c (by rw[q0n];exact bv _ i) λz=>?_) g) (I j l o g (λc i q=>k c (by rw[q0n];exact bq _ i) q) d);exact r c i b t z
theorem aD.fldUp{K}(st:aD K F H Y U O)(w:ca C U i=!(io,fs))(lk:fs.lookup f=!x)(y:xA x=true) :
  ∃a d h b,Y[i]? = !!.ref a/\H a=!.ins C d h/\h.lookup f=!.ref b/\gB (au O H) H (.ref b) x [b]/\
   ∀g  j,Mv g->(∀G,bI (au O H) G->gB G (aL H b g) (.ref b) j [b])->∃k,aD K F (aL H b g) Y (U.set i (!.own io (.o C (bP f j fs)))) k/\aT O H k (aL H b g):=by
 obtain⟨a,T,n,⟨d,h,l,A,v,B,D⟩,X,nd,up⟩:=st.boxN (jG w);subst A;have m:=nd;rw[q0V,q0V]at m;obtain⟨E,p,I⟩:=m;obtain⟨b,J,L,q,M⟩:=Rk y D lk I;refine#[a,d,h,b,n,v,J,L,λg j Z Q=>?_];obtain⟨k,r,R,_⟩:=up (aL H b g) (.o C (bP f j fs)) (a::d::l.flatten) (λc o t e=>by rw[bw (λz=>t (by rw[z];exact bH _ (bH _ q)))];exact e) nd (λc t=>.inl t) (λG k s S _=>by
  subst S;exact#[s.hid,d,h,l,rfl,by rw[bw (λz=>E (by rw[z];exact bH _ q))];exact v,by rw[bw (λz=>p (by rw[z];exact q))];exact B,M _ _ j s.hid (λc _ u=>bw u) (Q _ s.hid)])
 exact#[k,r,R]
def tz(C:Addr)(i:Nat)(f:Str)(d:PyData):SM:=λU=>match ca C U i with
 |some (io,fs)=>(match fs.lookup f with
  |some (.l ds)=>if ds.length<sizeLine then .nx (U.set i (!.own io (.o C (bP f (.l (ds++[d])) fs)))) else .bad
  |_=>.bad)
 |none=>.bad
noncomputable def fQ(U:ak)(j:Nat):Option PyData:=match U[j]? with
 |some (!.dat d)=>some d
 |_=>none
theorem qk(h:fQ U j=!d):U[j]? = !!.dat d:=by
 unfold fQ at h;split at h
 .rename_i e;cases h;exact e
 .cases h
def ql(C:Addr)(i:Nat)(f:Str)(j:Nat):SM:=λU=>match fQ U j with
 |some d=>tz C i f d U
 |none=>.bad
theorem Rl{F:Fx}{E:Str->ak->Prop}{pos:Pos}{apos:Pos}{cpos:Pos}{fpos:Pos}(cl:dm X.K C)(T:cT X.K C f)(Z:PE X (.Name x p1) (cu i))(hy:PE X (.Name y k) (cu j))(hb:autoParam (attributeBase (.Name x p1) f X.env (eval (.Name x p1) X.env)=eval (.Name x p1) X.env) Zq._auto_1)
  (B:autoParam (swapsWith (.Call (.Attribute (.Attribute (.Name x p1) f fpos) "append" apos) [.Name y k] [] cpos) none pos.line X.env=pure false) Zq._auto_1)
  (n:autoParam (attributeBase (.Attribute (.Name x p1) f fpos) "append" X.env (eval (.Attribute (.Name x p1) f fpos) X.env)=eval (.Attribute (.Name x p1) f fpos) X.env) Zq._auto_1)
  (t:autoParam (((backTo cpos (starEach [.Name y k] X.env)).all (λx=>not x.1)&&(backToKw cpos (keywordEach [] X.env)).all (λx=>x.1.isSome)&&decide (([.Name y k]:List Expr).length+([]:List Keyword).length+(if ([]:List Keyword).isEmpty then 0 else 1)<30))=true) Zq._auto_1)
  (o:autoParam ((apos.endLine==cpos.line)=true) Zq._auto_1) (R:autoParam (starEach [.Name y k] X.env=(false,eval (.Name y k) X.env)::starEach [] X.env) Zq._auto_1) (h:autoParam ((backTo cpos (starEach [] X.env)).any (·.1)=false) Zq._auto_1) :
  FS X F E (.Expr (.Call (.Attribute (.Attribute (.Name x p1) f fpos) "append" apos) [.Name y k] [] cpos) pos) (ql C i f j):=
 (vJ (sh q1E q2A q2B Av (nE Z hb) (dJ hy eB R) n t o R h) B).imp λD Y H u=>by
  obtain⟨U,O,DD,st,q,fD⟩:=u;unfold wpS ql at q;cases r:fQ U j with
  |none=>rw[r]at q;exact q.elim
  |some d=>
   rw[r]at q;unfold tz at q;cases I:ca C U i with
   |none=>rw[I]at q;exact q.elim
   |some p=>
    obtain⟨io,fs⟩:=p;rw[I]at q;simp only at q;cases s:fs.lookup f with
    |none=>rw[s]at q;exact q.elim
    |some z=>
     rw[s]at q;cases z with
     |d _=>exact q.elim
     |m _ _=>exact q.elim
     |l ds=>
      simp only at q
      by_cases J:ds.length<sizeLine
      .rw[if_pos J]at q;obtain⟨a0,dx,gs,L,M,e2,q1,⟨b1,A,eb,_,S,v⟩,up⟩:=st.fldUp I s rfl;cases eb;obtain⟨w,hw,N⟩:=st.dat (qk r);obtain⟨O2,Q,s2⟩:=up (.lst (A++[w])) (.l (ds++[d])) trivial (λG g=>#[L,A++[w],rfl,rfl,cF,(aH.mono g v).append (.cons (DV.mono g N) .nil)]);exact#[_,M,a0,C,dx,gs,.ref L,rfl,e2,cl,T,q1,.inl #[rfl,A,.of S],w,hw,L,A,w,rfl,rfl,S,by rw[v.length];exact J,fD.nx _ _ _ _ Q s2 q]
      .rw[if_neg J]at q;exact q.elim
def qm(C:Addr)(i:Nat)(f:Str)(j l:Nat)(v:PyData):SM:=λU=>match ca C U i,fQ U j,fQ U l with
 |some (io,fs),!y,!z=>(match fs.lookup f,gJ true (.tuple [y,z]) with
  |some (.m true d),!k=>if d.length<sizeLine then .nx (U.set i (!.own io (.o C (bP f (.m true (gH true d (.tuple [y,z]) k v)) fs)))) else .bad
  |_,_=>.bad)
 |_,_,_=>.bad
def tD(C:Addr)(i:Nat)(f:Str)(j l:Nat)(m:XM PyData):SM:=λU=>dE (m U) (qm C i f j l)
theorem Rm{pos:Pos}{fpos:Pos}{p4 r}{kx}(hu:X.A.units+1<cLine)(cl:dm X.K C)(na:cT X.K C f)(hv:PE X (.Name x p1) (cu i))(hy:PE X (.Name y B) (cu j))(hz:PE X (.Name z s) (cu l))(he:FE X F E e m)(hb:autoParam (attributeBase (.Name x p1) f X.env (eval (.Name x p1) X.env)=eval (.Name x p1) X.env) Zq._auto_1)
  (h1:autoParam (starEach [.Name y B,.Name z s] X.env=(false,eval (.Name y B) X.env)::starEach [.Name z s] X.env) Zq._auto_1) (h2:autoParam (starEach [.Name z s] X.env=(false,eval (.Name z s) X.env)::starEach [] X.env) Zq._auto_1)
  (hs:autoParam (swapsWith e (!.Subscript (.Attribute (.Name x p1) f fpos) (.Tuple [.Name y B,.Name z s] kx p4) r) pos.line X.env=pure false) Zq._auto_1) :
  FS X F E (.Assign [.Subscript (.Attribute (.Name x p1) f fpos) (.Tuple [.Name y B,.Name z s] kx p4) r] e pos) (tD C i f j l m):=
 (AE hu (nE hv hb) (vW (dJ hy (dJ hz eB h2) h1)) he.pe hs).imp λD Y H zz=>by
 obtain⟨U,O,DD,st,q,fD⟩:=zz;exact#[U,O,st,aE _ _ _ (λv Q h vy H1 O1 n s1 d1=>by
  unfold wpS qm at h;cases w:ca C Q i with
  |none=>rw[w]at h;exact h.elim
  |some p=>
   obtain⟨io,fs⟩:=p;cases M:fQ Q j with
   |none=>rw[w,M]at h;exact h.elim
   |some y0=>
    cases R:fQ Q l with
    |none=>rw[w,M,R]at h;exact h.elim
    |some z0=>
     rw[w,M,R]at h;simp only at h;cases o:fs.lookup f with
     |none=>rw[o]at h;exact h.elim
     |some t=>
      rw[o]at h;cases t with
      |d _=>exact h.elim
      |l _=>exact h.elim
      |m tk I=>
       cases tk with
       |false=>exact h.elim
       |true=>
        cases S:gJ true (.tuple [y0,z0]) with
        |none=>rw[S]at h;exact h.elim
        |some k=>
         rw[S]at h;simp only at h
         by_cases u:I.length<sizeLine
         .rw[if_pos u]at h;obtain⟨a0,dx,gs,T,J,e2,l1,_,_⟩:=n.fldUp w o rfl;obtain⟨w1,Z,a2⟩:=n.dat (qk M);obtain⟨w2,a3,a4⟩:=n.dat (qk R);refine#[_,J,a0,C,dx,gs,.ref T,rfl,e2,cl,na,l1,w1,Z,w2,a3,show 2<=sizeLine by decide,λp hp=>?_];have N:bI H1 (aL H1 p (.tup [w1,w2])):=bA hp;obtain⟨a1,a7,a8,b1,L,e3,l2,⟨b2,eb,_,dic⟩,up⟩:=(n.grow N).fldUp w o rfl;rw[J]at L;cases L;rw[N _ _ e2]at e3;cases e3;rw[l1]at l2;cases l2;cases eb;obtain⟨o',g1,mv,g2⟩:=Cu dic kh (nJ hp (n.nofree p hp) (.cons a2 (.cons a4 .nil))) (DV.mono (lS N) d1) S u;obtain⟨O3,a6,s3⟩:=up o' (.m true (gH true I (.tuple [y0,z0]) k v)) mv (λG g=>#[T,rfl,rfl,g2 G g]);exact#[T,_,rfl,g1,fD.nx _ _ _ _ a6 (s1.trans ((aT.same N).trans s3)) h]
         .rw[if_neg u]at h;exact h.elim) (fN q)]
def qo(C:Addr)(i:Nat)(f:Str)(j:Nat):XM PyData:=λU=>match ca C U i,fQ U j with
 |some (_,fs),!.int k=>(match fs.lookup f with
  |some (.l ds)=>lift (bN ds k) U
  |some (.d (.list ds))=>lift (bN ds k) U
  |some (.d (.tuple ds))=>.bad
  |_=>.bad)
 |_,_=>.bad
theorem CO(h:aH G l g)(e:bN g k=!d):∃v,bN l k=!v/\DV G v d:=by
 unfold bN at e ⊢;rw[h.length];cases n:dt g.length k with
 |none=>rw[n]at e;cases e
 |some j=>rw[n]at e;exact h.get e
theorem Rn{F:Fx}{E:Str->ak->Prop}{pos:Pos}{fpos:Pos}(cl:dm X.K C)(T:cT X.K C f)(hv:PE X (.Name x p1) (cu i))(hy:PE X (.Name y z) (cu j))(hb:autoParam (attributeBase (.Name x p1) f X.env (eval (.Name x p1) X.env)=eval (.Name x p1) X.env) Zq._auto_1)(hs:pD (.Name y z):=by intro _ _;rfl) :
  FE X F E (.Subscript (.Attribute (.Name x p1) f fpos) (.Name y z) pos) (qo C i f j):=
 #[aE,(vY wb (nE hv hb) hy hs).imp λY H Q r=>by
  obtain⟨U,O,st,q⟩:=r;unfold wp qo at q;cases s:ca C U i with
  |none=>rw[s]at q;exact q.elim
  |some p=>
   obtain⟨io,fs⟩:=p;cases A:fQ U j with
   |none=>rw[s,A]at q;exact q.elim
   |some y0=>
    rw[s,A]at q;cases y0 with
    |int k=>
     simp only at q;obtain⟨w,Z,dw⟩:=st.dat (qk A);obtain rfl:=dw.int_inv;cases g:fs.lookup f with
     |none=>rw[g]at q;exact q.elim
     |some t=>
      rw[g]at q;cases t with
      |m _ _=>exact q.elim
      |l ds=>obtain⟨B,D,G,b0,h,I,l1,⟨J,L,eb,_,M,n⟩,_⟩:=st.fldUp s g rfl;cases eb;obtain⟨d,u,N⟩:=cJ q;obtain⟨v,R,S⟩:=CO n u;exact#[_,h,B,C,D,G,.ref b0,rfl,I,cl,T,l1,_,Z,b0,L,k,v,rfl,rfl,.of M,R,N v H O st .refl S]
      |d x0=>
       cases x0 with
       |list ds=>
        obtain⟨B,fp,h,⟨D,G,a1,u,I,e3,e4⟩,_,_⟩:=st.box (jG s);rcases qi e4 f with⟨_,l2⟩ |⟨v,y1,a2,l1,l2,l3,_⟩
        .rw[g]at l2;cases l2
        .rw[g]at l2;cases l2;obtain⟨J,L,rfl,M,n⟩:=l3.2.lst_inv;obtain⟨d,u,N⟩:=cJ q;obtain⟨v,R,S⟩:=CO n u;exact#[_,h,B,C,D,G,.ref J,rfl,I,cl,T,l1,_,Z,J,L,k,v,rfl,rfl,.of (cR M).1,R,N v H O st .refl S]
       |_=>exact q.elim
    |_=>exact q.elim]
def qp(C:Addr)(i:Nat)(f:Str)(j:Nat)(v:PyData):SM:=λU=>match ca C U i,fQ U j with
 |some (io,fs),!.int k=>(match fs.lookup f with
  |some (.l ds)=>(match dt ds.length k with
   |some n=>.nx (U.set i (!.own io (.o C (bP f (.l (ds.set n v)) fs))))
   |none=>.bad)
  |_=>.bad)
 |_,_=>.bad
def tE(C:Addr)(i:Nat)(f:Str)(j:Nat)(m:XM PyData):SM:=λU=>dE (m U) (qp C i f j)
theorem CP(hd:DV G v d):∀{g j} n,aH G g j->aH G (g.set n v) (j.set n d)
 |_,_,_,.nil=>.nil
 |_,_,0,.cons _ t=>.cons hd t
 |_,_,n+1,.cons h t=>.cons h (CP hd n t)
theorem Rp{pos:Pos}{fpos:Pos}{h}(cl:dm X.K C)(na:cT X.K C f)(hv:PE X (.Name x p1) (cu i))(hy:PE X (.Name y r) (cu j))(he:FE X F E e m)(hb:autoParam (attributeBase (.Name x p1) f X.env (eval (.Name x p1) X.env)=eval (.Name x p1) X.env) Zq._auto_1)
  (hs:autoParam (swapsWithSole [.Subscript (.Attribute (.Name x p1) f fpos) (.Name y r) h] e pos.line X.env=pure false) Zq._auto_1) (hw:autoParam (swappedStores [.Subscript (.Attribute (.Name x p1) f fpos) (.Name y r) h] e X.env=pure none) Zq._auto_1)
  (h1:autoParam ((assignEach [.Subscript (.Attribute (.Name x p1) f fpos) (.Name y r) h] X.env).map (·.2)=[assign (.Subscript (.Attribute (.Name x p1) f fpos) (.Name y r) h) X.env]) Zq._auto_1)
  (hq:autoParam (∀v,assign (.Subscript (.Attribute (.Name x p1) f fpos) (.Name y r) h) X.env v=(do
   let A <-holding [v] (eval (.Attribute (.Name x p1) f fpos) X.env);let I <-holding [v,A] (eval (.Name y r) X.env)
   standAt h
   holding [v,A,I] (setItem A I v)
   release [v,A,I] [])) Zs._auto_1) :
  FS X F E (.Assign [.Subscript (.Attribute (.Name x p1) f fpos) (.Name y r) h] e pos) (tE C i f j m):=
 (vO he.pe (Kq (nE hv hb) hy LU hq) hs hw h1).imp λD Y H zz=>by
 obtain⟨U,O,DD,st,q,fD⟩:=zz;exact#[U,O,st,aE _ _ _ (λv T o Z H1 O1 u s1 d1=>by
  unfold wpS qp at o;cases B:ca C T i with
  |none=>rw[B]at o;exact o.elim
  |some p=>
   obtain⟨io,fs⟩:=p;cases J:fQ T j with
   |none=>rw[B,J]at o;exact o.elim
   |some y0=>
    rw[B,J]at o;cases y0 with
    |int k=>
     simp only at o;cases s:fs.lookup f with
     |none=>rw[s]at o;exact o.elim
     |some t=>
      rw[s]at o;cases t with
      |d _=>exact o.elim
      |m _ _=>exact o.elim
      |l ds=>
       simp only at o;cases L:dt ds.length k with
       |none=>rw[L]at o;exact o.elim
       |some n=>rw[L]at o;obtain⟨w,M,dw⟩:=u.dat (qk J);obtain rfl:=dw.int_inv;obtain⟨a0,dx,gs,N,Q,e2,l1,⟨b1,R,eb,_,hH,z⟩,up⟩:=u.fldUp B s rfl;cases eb;obtain⟨O2,S,s2⟩:=up (.lst (R.set n Z)) (.l (ds.set n v)) trivial (λG g=>#[N,R.set n Z,rfl,rfl,cF,CP (DV.mono g d1) n (aH.mono g z)]);exact#[_,Q,a0,C,dx,gs,.ref N,rfl,e2,cl,na,l1,_,M,N,R,k,n,rfl,rfl,hH,by rw[z.length];exact L,fD.nx _ _ _ _ S (s1.trans s2) o]
    |_=>exact o.elim) (fN q)]
def tF(C:Addr)(i:Nat)(f:Str)(n:Int):SM:=λU=>match ca C U i with
 |some (io,fs)=>(match fs.lookup f with
  |some (.d (.int v))=>if fs.length<1000 then .nx (U.set i (!.own io (.o C (bP f (.d (.int (v+n))) fs)))) else .bad
  |_=>.bad)
 |none=>.bad
theorem Rq(cl:dm X.K C)(T:cT X.K C f)(Z:PE X (.Name x p1) (cu i))(he:PE X e (λY H Q=>Q (.int n) H)):FS X F E (.AugAssign (.Attribute (.Name x p1) f k) .Add e pos) (tF C i f n):=
 (Lk Z he Lm).imp λD Y H r=>by
  obtain⟨U,O,DD,st,q,fD⟩:=r;unfold wpS tF at q;cases A:ca C U i with
  |none=>rw[A]at q;exact q.elim
  |some p=>
   obtain⟨io,fs⟩:=p;rw[A]at q;simp only at q;cases g:fs.lookup f with
   |none=>rw[g]at q;exact q.elim
   |some t=>
    rw[g]at q;cases t with
    |l _=>exact q.elim
    |m _ _=>exact q.elim
    |d x0=>
     cases x0 with
     |int v0=>
      simp only at q
      by_cases B:fs.length<1000
      .rw[if_pos B]at q;obtain⟨u,fp,I,⟨j,y,h,e1,S,e3,J⟩,hO,nd,up⟩:=st.boxN (jG A);subst e1;rcases qi J f with⟨_,l2⟩ |⟨v,y1,a1,l1,l2,l3,_⟩
       .rw[g]at l2;cases l2
       .rw[g]at l2;cases l2;obtain rfl:=l3.2.int_inv;obtain⟨O3,M,s3,_⟩:=up (aL H u (.ins C j (cQ f (.int (v0+n)) y))) (.o C (bP f (.d (.int (v0+n))) fs)) (u::j::h.flatten) (λc o N e=>by rw[bw (λz=>N (by simp[z]))];exact e) nd (λc R=>.inl R) (λG O' s hG _=>by
         subst hG;refine#[s.hid,j,cQ f (.int (v0+n)) y,if (fs.lookup f).isSome=true then h else h++[[]],?_,cF,by rw[bw (λz=>by subst z;simp at nd)];exact e3,?_]
         .split
          .rfl
          .simp
         .refine J.putD (by rw[g];rfl) (.int _) s.hid λc R=>bw (λz=>?_);subst z;exact absurd R (λw=>(q0V.mp nd).1 (bH _ w)))
        exact#[_,I,u,C,j,y,_,rfl,S,cl,T,l1,v0,n,rfl,rfl,j,y,S,by rw[J.len];exact B,fD.nx _ _ _ _ M s3 q]
      .rw[if_neg B]at q;exact q.elim
     |_=>exact q.elim
theorem Rr:∀{b fs a},bt G H b fs a->fs.lookup f=none->bI G d->(∀c∈a.flatten,i c=H c)->gB d i (.ref p) y [p]->bt d i (cQ f (.ref p) b) (bP f y fs) (a++[[p]]):=by
 intro b fs a h
 induction h with
 |nil=>exactλ_ _ _ h=>.cons h .nil
 | @cons n v z q b fs a h1 h2 m=>
  intro j g k h
  by_cases e:f=n
  .subst e;simp[List.lookup]at j
  .have o:(f==n)=false:=by simpa using e
   rw[q0t,o]at j;unfold cQ bP;rw[if_neg (λz=>e z.symm),if_neg (λz=>e z.symm)];exact .cons (h1.keep (λc l=>k c (by rw[q0n];exact bv _ l)) g) (m j g (λc l=>k c (by rw[q0n];exact bq _ l)) h)
theorem aD.fldNew{K}(st:aD K F H Y U O)(D:ca C U i=!(io,fs))(lk:fs.lookup f=none) :
  ∃a d g,Y[i]? = !!.ref a/\H a=!.ins C d g/\g.length=fs.length/\
   ∀p  h  y,H p=none->Mv h->(∀G,bI (au O H) G->gB G (aL (aL H p h) a (.ins C d (cQ f (.ref p) g))) (.ref p) y [p])->aL H p h a=!.ins C d g/\∃l,aD K F (aL (aL H p h) a (.ins C d (cQ f (.ref p) g))) Y (U.set i (!.own io (.o C (bP f y fs)))) l/\aT O H l (aL (aL H p h) a (.ins C d (cQ f (.ref p) g))):=by
 obtain⟨a,T,n,⟨d,g,j,E,q,v,w⟩,I,nd,up⟩:=st.boxN (jG D);subst E;have m:=nd;rw[q0V,q0V]at m;obtain⟨r,t,J⟩:=m;have ad:d≠a:=λz=>r (by rw[z];exact q0h);refine#[a,d,g,n,q,w.len,λp h y k X L=>?_];have pa:a≠p:=λz=>by subst z;rw[q]at k;cases k
 have A:d≠p:=λz=>by subst z;rw[v]at k;cases k
 have B:p∉j.flatten:=λz=>absurd (I p (bH _ (bH _ z))) (st.nofree p k)
 refine#[by rw[bw pa];exact q,?_];obtain⟨l,u,N,_⟩:=up (aL (aL H p h) a (.ins C d (cQ f (.ref p) g))) (.o C (bP f y fs)) (a::d::(j++[[p]]).flatten) (λc o b e=>by
   rw[bw (λz=>b (by simp[z])),bw (λz=>by subst z;rw[k]at e;cases e)];exact e) (by
   rw[q2i];refine q0V.mpr #[λz=>?_,q0V.mpr #[λz=>?_,q0j.mpr #[J,by simp,λx Q y R=>?_]]]
   .rcases q0e.mp z with z |z
    .exact ad z.symm
    .rcases q0f.mp z with z |z
     .exact r (bH _ z)
     .exact pa (q0o.mp z)
   .rcases q0f.mp z with z |z
    .exact t z
    .exact A (q0o.mp z)
   .rw[q0o.mp R];exactλz=>B (by rw[<-z];exact Q)) (λc b=>by
   rw[q2i]at b;rcases q0e.mp b with rfl |b
   .exact .inl q0h
   .rcases q0e.mp b with rfl |b
    .exact .inl 'c'
    .rcases q0f.mp b with b |b
     .exact .inl (bH _ (bH _ b))
     .exact .inr (by rw[q0o.mp b];exact k)) (λG l s S _=>by
  subst S;refine#[s.hid,d,cQ f (.ref p) g,j++[[p]],rfl,cF,by rw[bw ad,bw A];exact v,Rr w lk s.hid (λc b=>?_) (L _ s.hid)];rw[bw (λz=>r (by rw[<-z];exact bH _ b)),bw (λz=>B (by rw[<-z];exact b))])
 exact#[l,u,N]
def mz(C:Addr)(i:Nat)(f:Str)(y:Fl):SM:=λU=>match ca C U i with
 |some (io,fs)=>if fs.lookup f=none/\fs.length<1000 then .nx (U.set i (!.own io (.o C (bP f y fs)))) else .bad
 |none=>.bad
theorem Rs(cl:dm X.K C)(s:cT X.K C f)(t:PE X (.Name x p1) (cu i))(u:autoParam (swapsWith (.List [] p2) (!.Attribute (.Name x p1) f pos') pos.line X.env=pure false) Zq._auto_1):FS X F E (.Assign [.Attribute (.Name x p1) f pos'] (.List [] p2) pos) (mz C i f (.l [])):=
 (rZ t (se eB) u).imp λD Y H d=>by
  obtain⟨U,O,M,st,q,v⟩:=d;unfold wpS mz at q;cases j:ca C U i with
  |none=>rw[j]at q;exact q.elim
  |some p=>
   obtain⟨io,fs⟩:=p;rw[j]at q;simp only at q
   by_cases h:fs.lookup f=none/\fs.length<1000
   .rw[if_pos h]at q;obtain⟨r,w,y,k,A,B,I⟩:=st.fldNew j h.1;refine#[q0L _,λp n=>?_];obtain⟨L,N,o,J⟩:=I p (.lst []) (.l []) n trivial (λG g=>#[p,[],rfl,rfl,by rw[bw (λz=>(λz=>by subst z;rw[A]at n;cases n) z.symm),cF],.nil]);exact#[_,k,r,C,w,y,rfl,L,cl,s,by rw[B];exact h.2,v.nx _ _ _ _ o J q]
   .rw[if_neg h]at q;exact q.elim
theorem Rt(cl:dm X.K C)(r:cT X.K C f)(s:PE X (.Name x p1) (cu i))(t:autoParam (swapsWith (.Dict [] [] p2) (!.Attribute (.Name x p1) f pos') pos.line X.env=pure false) Zq._auto_1):FS X F E (.Assign [.Attribute (.Name x p1) f pos'] (.Dict [] [] p2) pos) (mz C i f (.m true [])):=
 (rZ s AF t).imp λD Y H d=>by
  obtain⟨U,O,M,st,q,u⟩:=d;unfold wpS mz at q;cases j:ca C U i with
  |none=>rw[j]at q;exact q.elim
  |some p=>
   obtain⟨io,fs⟩:=p;rw[j]at q;simp only at q
   by_cases h:fs.lookup f=none/\fs.length<1000
   .rw[if_pos h]at q;obtain⟨o,v,w,k,y,A,B⟩:=st.fldNew j h.1;intro p l;obtain⟨L,N,n,I⟩:=B p (.dT []) (.m true []) l trivial (λG g=>#[p,rfl,rfl,[],by rw[bw (λz=>(λz=>by subst z;rw[y]at l;cases l) z.symm),cF],.nil]);exact#[_,k,o,C,v,w,rfl,L,cl,r,by rw[A];exact h.2,u.nx _ _ _ _ n I q]
   .rw[if_neg h]at q;exact q.elim
def tG(C:Addr)(i:Nat)(f:Str):XM PyData:=λU=>match ca C U i with
 |some (_,fs)=>(match fs.lookup f with
  |some (.l ds)=>.ok (.list ds) U
  |_=>.bad)
 |none=>.bad
theorem Rv{F:Fx}{E:Str->ak->Prop}{pos:Pos}{fpos:Pos}{v}(w:Gl X "list")(y:X.mg "list" = none)(cl:dm X.K C)(z:cT X.K C f)(A:PE X (.Name x p1) (cu i))(N:autoParam (attributeBase (.Name x p1) f X.env (eval (.Name x p1) X.env)=eval (.Name x p1) X.env) Zq._auto_1)
  (s:autoParam (starEach [.Attribute (.Name x p1) f fpos] X.env=(false,eval (.Attribute (.Name x p1) f fpos) X.env)::starEach [] X.env) Zq._auto_1) (k:autoParam ((backTo pos (starEach [] X.env)).any (·.1)=false) Zq._auto_1) :
  FE X F E (.Call (.Name "list" v) [.Attribute (.Name x p1) f fpos] [] pos) (tG C i f):=
 #[aE,(sf LZ w y 'f' (dJ (nE A N) eB s) 'd' 'd' s k).imp λY H Q h=>by
  obtain⟨U,O,st,q⟩:=h;unfold wp tG at q;cases n:ca C U i with
  |none=>rw[n]at q;exact q.elim
  |some p=>
   obtain⟨io,fs⟩:=p;rw[n]at q;simp only at q;cases g:fs.lookup f with
   |none=>rw[g]at q;exact q.elim
   |some t=>
    rw[g]at q;cases t with
    |d _=>exact q.elim
    |m _ _=>exact q.elim
    |l ds=>
     obtain⟨B,D,G,u,o,I,l1,⟨R,J,L,_,M,r⟩,_⟩:=st.fldUp n g rfl;cases L;exact#[_,o,B,C,D,G,.ref u,rfl,I,cl,z,l1,u,J,rfl,.inl (.of M),λp j=>q _ _ O (st.grow (bA j)) (.same (bA j)) (ir j (st.nofree p j) r)]]
end L2.L3
namespace L2
open PySem
theorem CQ(a d):argsOk "min" #[[a],[("default",d)]]:=by kernel_rfl
theorem CS{s:Shared}{id}(k:builtinKind id=none)(l:plainId id=true)(n:entryFor table id=!b)(m:argsOk id #[args,d])
  (i:wpAny (model prog w) A.in1 (b #[args,d]) (λfin a=>match fin with
   |.done f=>(match (Except.ok f:Result) with |.ok (.ret v)=>Q v a |.ok _=>False |.error e=>E e a)
   |.again j=>j.quiet=true/\codeAny (model prog w) A j (λr a=>match r with |.ok (.ret v)=>Q v a |.ok _=>False |.error e=>E e a) a) E s):wpAny (model prog w) A (call (.builtin id) args d) Q E s:=by
 refine wpAny_call (codeAny_call_builtin l n ?_);simp only[checkBuiltinCall,k];cases c:Manifest.signature? id with
 |none=>exact ao i
 |some g=>
  simp only[(by simpa only[argsOk,c] using m)];exact ao i
theorem Rw(p:A.handled=none)(k:s.heap.IsList l #[])(q:∀c,(∀b o,s.heap.get? b=!o->c.get? b=!o)->Q d { s with heap:=c }) :
  wpAny (model prog w) A (call (.builtin "min") [.ref l] [("default",d)]) Q E s:=by
 apply CS F.kind_min F.plain_min F.entry_min (CQ _ _);refine aa (wpAny_of_eq (rfl) (aa (ao (aa (wpAny_pyIter_list k (aa (wpAny_newObj_type ?_)))))));have a:(toString "min"++toString ".loop")="min.loop":=by decide
 rw[a];obtain⟨ol,f,g,nl,h⟩:=id k;generalize m:(s.heap.push { cls:=.type "list_iterator",data:=.fields [.ref l,.int 0 0].toArray })=h1;have n:∀b o,s.heap.get? b=!o->h1.get? b=!o:=λb o e=>by rw[<-m];exact aK _ e
 refine ao #[plainId_quiet F.plain_min_loop _,codeAny_builtin F.entry_min_loop ?_];rw[Around.under_plainId F.plain_min_loop _];exact aa (wpAny_seqItems (Heap.get?_push_size _ rfl) rfl (aa (wpAny_tryCatch (wpAny_pyNext_list_end p #[_,aK _ (by rw[<-m];exact Heap.get?_push_size _ rfl),rfl,rfl] #[ol,aK _ (n _ _ f),g,nl,h] rfl λc j=>aa (wpAny_rule (ao (q c λb o e=>j b o (q0q (bo e)) (aK _ (n b o e)))))))))
end L2
namespace L2.L3
open PySem PySem.Spec PyProof.Rows
def CT(O:List Addr)(H:Hp)(J:It)(c:List PyData):Prop:=∀e a,aT O H e a->bI H a->kO a e->
 (∀i d,c[i]? = !d->J.go i a/\∀x b,J.yld i a x b->bI a b/\DV (au e b) x d)/\J.stop c.length a
theorem Wk.S(h:Wk O H J a):CT O H J a:=λb c s _ ok=>h b c s ok
def xB(K:Frag)(F:Fx)(s:ec):TI:=λY H R=>∃U O,aD K F H Y U O/\s U λb d=>∀J a c,aD K F a Y d c->aT O H c a->CT c a J b->R J a
structure xD (X:Cx) (F:Fx) (tg iter:Expr) (s:ec):Prop where
 mn:km s
 pi:PI X tg iter (xB X.K F s)
theorem DI.S(h:DI X F e iter s):xD X F e iter s:=#[h.mn,h.pi.imp λY H R d=>by obtain⟨U,O,st,q⟩:=d;exact#[U,O,st,h.mn _ _ _ (λf j k J g i a b c=>k J g i a b c.S) q]]
@[simp]noncomputable def xE:Option (Option af)->Option af
 |some (!.own _ b)=>some (.vw b)
 |some (!.exc _)=>none
 |some o=>o
 |none=>none
def tH(own:List Str)(a:List Nat)(U:ak):ak:=own.map (λ_=>none)++a.map λj=>xE U[j]?
mutual
@[simp]noncomputable def jh:PyData->Bool
 |.int _=>true
 |.bool _=>true
 |.none=>true
 |.str _=>true
 |.tuple ds=>kU ds
 |.list _=>false
 |.dict _=>false
@[simp]noncomputable def kU:List PyData->Bool
 |[]=>true
 |d::ds=>jh d&&kU ds
end
theorem CU:∀a,a.all jh=kU a
 |[]=>rfl
 |d::a=>by rw[q21,CU a,kU]
theorem Rx(k:∀a u,¬ Mv u->G a=!u->j a=!u):∀{vs g},aH G vs g->kU g=true->aH j vs g:=λh=>aH.rec (motive_1:=λv d _=>jh d=true->DV j v d) (λ_=>.non) (λb _=>.bl b) (λi _=>.int i) (λx _=>.str x) (λ_ _ _ f=>by cases f) (λh _ c f=>.tup (h.imp (λe=>k _ _ id e) λ⟨⟨o,e⟩,z⟩=>#[#[o,k _ _ id e],z]) (c (by simpa[jh] using f))) (λ_=>.nil) (λ_ _ a b f=>by
  rw[kU,q0I]at f;exact .cons (a f.1) (b f.2)) h
theorem Ry(k:∀a u,¬ Mv u->G a=!u->c a=!u)(h:aH G vs b)(f:b.all jh=true):aH c vs b:=Rx k h (by rw[<-CU];exact f)
def qr(own:List Str)(f:List Nat)(s:ec)(g:eF)(l:cN)(m:DT):DT:=λU Q=>s U λc j=>∃e:Nat->List PyData->ak->Prop,e 0 [] (tH own f j)/\
 (∀i d a h,c[i]? = !d->e i a h->g d h λn=>l n λb k=>if b=true then m k λy o=>a.length<sizeLine/\e (i+1) (a++[y]) o else e (i+1) a k)/\
 ∀a h,e c.length a h->a.length<=sizeLine/\a.all jh=true/\Q (.list a) j
theorem CV(d:km s):Mn (qr own caps s g tc te):=λ_ _ _ k q=>d _ _ _ (λ_ _ a=>by obtain⟨e,f,h1,h2⟩:=a;exact#[e,f,h1,λb c h=>#[(h2 b c h).1,(h2 b c h).2.1,k _ _ (h2 b c h).2.2]]) q
theorem Rz{K:Frag}{Z:Fx->Prop}(hP:∀k Y D f O2,aD K F k Y D f->Z #[k,[],O2,λ_=>0])(hs:km s)(hg:∀d U Q Q',(∀U',Q U'->Q' U')->g d U Q->g d U Q')(ht:iu tc)(he:Mn te):∀Y H Q,(∃U O,aD K F H Y U O/\qr own caps s g tc te U λd D=>∀X,d=.list X->∀p  t  vs  f,aD K F t Y D f->aT O H f t->t p=none->aH (au f t) vs X->Q (.ref p) (aL t p (.lst vs)))->
  kg own caps (xB K F s) (λv Y H Q=>∃B,Z B/\kM K B g v Y H Q) (λY H Q=>∃B,Z B/\iW K B tc Y H Q) (λY H Q=>∃B,Z B/\fE K B te Y H Q) Y H Q:=λY H Q I=>by
 obtain⟨U,O,st,q⟩:=I;refine#[U,O,st,hs _ _ _ (λn D L J k f r s1 wk=>?_) q];obtain⟨Iv,i0,step,fin⟩:=L;obtain⟨W,M,N⟩:=id r;let V:=(caps.map λj=>(W[j]?).getD []).flatten;let E:=f.filter λa=>decide (a∉V);have sub:∀a∈E,a∈f:=λa h=>(q1P.mp h).1;have a0:E.Nodup:=by
  have:f.Nodup:=by rw[N];exact M.nd
  exact this.filter _
 have a1:∀j∈caps,∀l,W[j]? = !l->∀a∈l,a∉E:=λj hj l hl a ha z=>by have h1:=(q1P.mp z).2;simp only[decide_eq_true_eq]at h1;exact h1 (q2g.mpr #[l,q0D.mpr #[j,hj,by rw[hl];rfl],ha])
 have R:∀j∈caps,∀c,xE D[j]? = !c->∃v,Y[j]? = !!v/\sN K k E c v:=λj hj c w=>by
  cases h3:D[j]? with
  |none=>rw[h3]at w;cases w
  |some o=>
   cases o with
   |none=>rw[h3]at w;cases w
   |some c'=>
    rw[h3]at w;obtain⟨v,fp,C,e0,S⟩:=M.at_ j c' h3;rw[<-N]at S;have y:aT f k E k:=iY sub;cases c' with
    |dat d=>cases w;exact#[v,C,(λ_ _ z=>by cases z),eE.keep (fp:=[]) S y (λ_ _=>rfl) λ_ _ _ e=>e]
    |scr ns=>cases w;exact#[v,C,(λ_ _ z=>by cases z),eE.keep S y (λ_ _=>rfl) λ_ _ _ e=>e]
    |exc _=>cases w
    |vw b=>cases w;exact#[v,C,(λ_ _ z=>by cases z),eE.keep (fp:=[]) S y (λ_ _=>rfl) λ_ _ _ e=>e]
    |own io b=>cases w;obtain⟨a,ev,q2⟩:=S;refine#[v,C,(λ_ _ z=>by cases z),a,fp,ev,q2.keep (λc hc=>?_) y.hid];obtain⟨o,eo,_⟩:=q2.live c hc;rw[eo];exact gb eo (a1 j hj fp e0 c hc)
 refine#[pR K #[k,[],E,λ_=>0] n Iv,#[n.length,tH own caps D,E,[],Bs R a0 λa ha=>r.live a (sub a ha),i0,.nil,q0L _,rfl],?_]
 .rintro i m ys Y' t ⟨U',O',X,A,iv,dv,hi,rfl⟩;have G:bI k t:=λb o e=>by obtain⟨W',h',_⟩:=id A;exact h'.kept b o 'c' e
  have a2:aT f k O' t:=#[λb o _ e=>G b o e,λa h=>by
   obtain⟨W',h',rfl⟩:=id A;rcases q0f.mp h with h |h
   .exact(h'.new a h).elim (λz=>absurd z 'c') .inr
   .exact .inl (sub a h)]
  obtain⟨w1,w2⟩:=wk O' t a2 G A.live
  by_cases T:i<n.length
  .obtain⟨go,yld⟩:=w1 i n[i] (q0c T);refine .inr #[go,λx H2 hy=>?_];obtain⟨a3,dx⟩:=yld x H2 hy;exact wL (hP _ _ _ _ _ r) hg ht he step T A iv dv a3 dx
  .have e:i=n.length:=by lia
   subst e;obtain⟨hz,a4,q⟩:=fin X U' iv;refine .inl #[w2,by rw[dv.length];exact hz,λp hp=>?_];exact q X rfl p t _ f (r.grow G) (s1.trans (.same G)) hp (Ry (λa u nm e=>by
    obtain⟨C,_⟩:=cR e;refine gb C λz=>?_;obtain⟨o,eo,mo⟩:=r.live a z;rw[G a o eo]at C;cases C;exact nm mo) dv a4)
theorem RA{K:Frag}{f:Fx->Prop}(o:∀j Y k i r,aD K F j Y k i->f #[j,[],r,λ_=>0])(l:km s)(t:∀d U Q m,(∀n,Q n->m n)->g d U Q->g d U m)(u:iu tc)(w:Mn te):∀Y H Q,fE K F (qr own caps s g tc te) Y H Q->
  kg own caps (xB K F s) (λv Y H Q=>∃a,f a/\kM K a g v Y H Q) (λY H Q=>∃a,f a/\iW K a tc Y H Q) (λY H Q=>∃a,f a/\fE K a te Y H Q) Y H Q:=λY H Q b=>by
 obtain⟨U,O,st,q⟩:=b;exact Rz o l t u w Y H Q #[U,O,st,CV l _ _ _ (λd k x B e p A vs i c y h z=>by
  subst e;exact x _ _ i (c.grow (bA h)) (y.trans (.same (bA h))) (ir h (c.nofree p h) z)) q]
theorem RB(n:GF X.mg F)(S:ae X scope own capN caps)(o:X.calm=true)(m:xD X F tg iter s)
  (c:∀C d e f h b,GF X.mg b->DG (bT X scope (own++capN) C d e f h) b tg g/\lY (bT X scope (own++capN) C d e f h) b ifs tc/\DE (bT X scope (own++capN) C d e f h) b elt te)
  (p:autoParam (∀x,foldedSetIterable iter X.env x=pure x) Zs._auto_1):DE X F (.ListComp elt [#[tg,iter,ifs,0]] scope pos) (qr own caps s g tc te):=by
 obtain⟨t,w,y⟩:=c 0 [] (PySem.start X.prog).1 (λ_=>none) [] F n;refine#[CV m.mn,(sy S o m.pi (λC d e f h=>#[λa s Y H v u Q I r i=>by obtain⟨b,j,q⟩:=i;exact(c C d e f h b j).1.pg a s Y H v u Q I r q,λa s Y H Q I k=>by obtain⟨b,j,q⟩:=k;exact(c C d e f h b j).2.1.2 a s Y H Q I q,λa s Y H Q I l=>by obtain⟨b,j,q⟩:=l;exact(c C d e f h b j).2.2.pe a s Y H Q I q]) p).imp (RA (λ_ _ _ _ _ st=>n.into st) m.mn t.mn w.1 y.mn)]
@[simp] def qt(own:Nat)(a:List Nat)(U:ak):ak:=List.replicate own none++a.map λj=>xE U[j]?
@[simp] def xF(own:Nat)(a:List Nat)(g:GM)(t:XM Bool)(m:XM PyData)(b:List PyData):XM PyData:=λd=>lift ((bB g t m b [] (qt own a d)).bind λc=>if c.length<=sizeLine/\c.all jh=true then some (.list c) else none) d
@[simp] def oq(own:Nat)(a:List Nat)(s:XM (List PyData))(g:GM)(t:XM Bool)(m:XM PyData):XM PyData:=λU=>(s U).bind (xF own a g t m)
theorem RC(q:wp E (oq own.length f s g t m) U Q):qr own f (wp E s) (eP g) (wp eg t) (wp eg m) U Q:=aE _ _ _ (λl p C=>by
 obtain⟨y,D,z⟩:=cJ C;obtain⟨j,G,r⟩:=q0K.mp D;have u:(j.length<=sizeLine/\j.all jh=true)/\y=.list j:=by
  split at r
  .rename_i h;cases r;exact#[h,rfl]
  .cases r
 have H:tH own f p=qt own.length f p:=by unfold tH qt;rw[q1W]
 refine#[λi n U=>bB g t m (l.drop i) n U=!j,by rw[H];exact G,λi d n U hd a=>?_,λn U h=>?_]
 .have e:l.drop i=d::l.drop (i+1):=by obtain⟨v,I⟩:=q0a.mp hd;rw[<-I];exact q05 v
  simp only[e]at a;unfold bB at a;unfold eP;cases A:g d U with
  |none=>rw[A]at a;cases a
  |some J=>
   rw[A]at a;simp only at a ⊢;unfold wp;cases w:t J with
   |ex c B=>rw[w]at a;cases a
   |bad=>rw[w]at a;cases a
   |ok b B=>
    rw[w]at a;cases b with
    |false=>exact fi a
    |true=>
     apply fj;simp only at a ⊢;cases x:m B with
     |ex c L=>rw[x]at a;cases a
     |bad=>rw[x]at a;cases a
     |ok M L=>
      rw[x]at a;simp only at a ⊢;split at a
      .rename_i h;exact#[h,a]
      .cases a
 .simp only[q1N]at h;have:=q0r h
  subst this;rw[u.2]at z;exact#[u.1.1,u.1.2,z]) (bK q)
theorem DE.imp'(h:DE X F e t)(b:Mn t')(k:∀U Q,t' U Q->t U Q):DE X F e t':=#[b,h.pe.imp λY H Q a=>by obtain⟨U,O,st,q⟩:=a;exact#[U,O,st,k U _ q]]
theorem RD(p:GF X.mg F)(S:ae X a own b c)(r:X.calm=true)(u:own.length=n)(v:xD X F h iter (wp E s))
  (i:∀C j k l o f,GF X.mg f->FG (bT X a (own++b) C j k l o) f h g/\mr (bT X a (own++b) C j k l o) f eg e t/\FE (bT X a (own++b) C j k l o) f eg d m)
  (w:autoParam (∀x,foldedSetIterable iter X.env x=pure x) Zs._auto_1):FE X F E (.ListComp d [#[h,iter,e,0]] a pos) (oq n c s g t m):=by
 subst u;exact DE.imp' (RB p S r v i w) aE λU Q q=>RC q
theorem aD.view{K}(st:aD K F H Y U O){i:Nat}(e:U[i]? = !!.vw b):∃a d,Y[i]? = !!.ref a/\fC (au O H) (au O H) a b d:=by obtain⟨W,h,rfl⟩:=st;obtain⟨v,d,h1,h2,a,c,rfl,h3⟩:=h.at_ i _ e;exact#[a,c,h1,h3]
theorem RE{P:List PyData->ak->Prop}(q:wp E s U λf l=>∃j,bB g t m f [] (je own.length k l)=!j/\j.length<=sizeLine/\P j l) :
  wp E s U λf l=>∃n:Nat->List PyData->ak->Prop,n 0 [] (fm own k l)/\
   (∀i d j u,f[i]? = !d->n i j u->eP g d u λv=>wp eg t v λb o=>if b=true then wp eg m o λy w=>j.length<sizeLine/\n (i+1) (j++[y]) w else n (i+1) j o)/\
   ∀j u,n f.length j u->j.length<=sizeLine/\P j l:=aE _ _ _ (λf l p=>by
 obtain⟨r,C,D,G⟩:=p;have H:fm own k l=je own.length k l:=by unfold fm je;rw[q1W]
 refine#[λi j U=>bB g t m (f.drop i) j U=!r,by rw[H];exact C,λi d j U hd a=>?_,λj U h=>?_]
 .have e:f.drop i=d::f.drop (i+1):=by obtain⟨x,I⟩:=q0a.mp hd;rw[<-I];exact q05 x
  simp only[e]at a;unfold bB at a;unfold eP;cases B:g d U with
  |none=>rw[B]at a;cases a
  |some v=>
   rw[B]at a;simp only at a ⊢;unfold wp;cases z:t v with
   |ex c o=>rw[z]at a;cases a
   |bad=>rw[z]at a;cases a
   |ok b o=>
    rw[z]at a;cases b with
    |false=>exact fi a
    |true=>
     apply fj;simp only at a ⊢;cases A:m o with
     |ex c w=>rw[A]at a;cases a
     |bad=>rw[A]at a;cases a
     |ok J w=>
      rw[A]at a;simp only at a ⊢;split at a
      .rename_i h;exact#[h,a]
      .cases a
 .simp only[q1N]at h;have:=q0r h
  subst this;exact#[D,G]) q
def tI(C:Addr)(i:Nat)(f:Str)(own:Nat)(a:List Nat)(g:GM)(t:XM Bool)(m:XM PyData)(b:List PyData):SM:=λU=>match bB g t m b [] (je own a U),ca C U i with
 |some c,!(io,fs)=>if c.length<=sizeLine/\fs.lookup f=none/\fs.length<1000 then .nx (U.set i (!.own io (.o C (bP f (.l c) fs)))) else .bad
 |_,_=>.bad
def xG(C:Addr)(i:Nat)(f:Str)(own:Nat)(a:List Nat)(s:XM (List PyData))(g:GM)(t:XM Bool)(m:XM PyData):SM:=λU=>dE (s U) (tI C i f own a g t m)
theorem RF{y}(cl:dm X.K C)(na:cT X.K C f)(hv:PE X (.Name x p1) (cu i))(hG:GF X.mg F)(S:ae X a own capN caps)(hc:X.calm=true)(hn:own.length=n)(hi:FI X F E N iter s)
  (o:∀C A B J M b,GF X.mg b->FG (bT X a (own++capN) C A B J M) b N g/\mr (bT X a (own++capN) C A B J M) b eg j t/\FE (bT X a (own++capN) C A B J M) b eg h m)
  (a3:autoParam (swapsWith (.ListComp h [#[N,iter,j,0]] a pos) (!.Attribute (.Name x p1) f w) y.line X.env=pure false) Zq._auto_1)
  (hs:autoParam (∀x,foldedSetIterable iter X.env x=pure x) Zs._auto_1):FS X F E (.Assign [.Attribute (.Name x p1) f w] (.ListComp h [#[N,iter,j,0]] a pos) y) (xG C i f n caps s g t m):=by
 subst hn;obtain⟨hg,ht,he⟩:=o 0 [] (PySem.start X.prog).1 (λ_=>none) [] F hG;have pe:PE X (.ListComp h [#[N,iter,j,0]] a pos) (kg own caps (pO X.K F (wp E s)) (λv Y H Q=>∃b,GF X.mg b/\kM X.K b (eP g) v Y H Q) (λY H Q=>∃b,GF X.mg b/\iW X.K b (wp eg t) Y H Q) (λY H Q=>∃b,GF X.mg b/\fE X.K b (wp eg m) Y H Q)):=sy S hc hi.pi (λC A B J M=>#[λc s Y H v u Q I r R=>by obtain⟨b,T,q⟩:=R;exact(o C A B J M b T).1.pg c s Y H v u Q I r q,λc s Y H Q I Z=>by obtain⟨b,T,q⟩:=Z;exact(o C A B J M b T).2.1.2 c s Y H Q I q,λc s Y H Q I a1=>by obtain⟨b,T,q⟩:=a1;exact(o C A B J M b T).2.2.pe c s Y H Q I q]) hs;refine(rZ hv pe a3).imp λD Y H a2=>?_;obtain⟨U,O,DD,st,q,fD⟩:=a2;refine Bt (λ_ _ _ _ _ st=>hG.into st) hi.mn hg.mn ht.1 he.mn Y H _ #[U,O,st,RE (aE _ _ _ (λa4 U1 e=>?_) (fN q))];unfold wpS tI at e;cases L:bB g t m a4 [] (je own.length caps U1) with
 |none=>rw[L]at e;exact e.elim
 |some ys=>
  cases ho:ca C U1 i with
  |none=>rw[L,ho]at e;exact e.elim
  |some p=>
   obtain⟨io,fs⟩:=p;rw[L,ho]at e;simp only at e
   by_cases d:ys.length<=sizeLine/\fs.lookup f=none/\fs.length<1000
   .rw[if_pos d]at e;refine#[ys,rfl,d.1,λH' O' vs p a5 s' dv hp=>?_];obtain⟨a0,dx,gs,a6,e2,hl,nw⟩:=a5.fldNew ho d.2.1;obtain⟨h1,O3,a7,s3⟩:=nw p (.lst vs) (.l ys) hp trivial (λG gg=>#[p,vs,rfl,rfl,by rw[bw (λz=>(λz=>by subst z;rw[e2]at hp;cases hp) z.symm),cF],aH.mono gg dv]);exact#[_,a6,a0,C,dx,gs,rfl,h1,cl,na,by rw[hl];exact d.2.2,fD.nx _ _ _ _ a7 (s'.trans s3) e]
   .rw[if_neg d]at e;exact e.elim
end L2.L3
namespace L2
open PySem PyProof.Rows
def xH(h:Heap)(a:List Value)(rows:List (List Int)):Prop:=a.length=rows.length/\∀(i:Nat) (v:Value),a[i]? = !v->∃(T:Addr) (items:Array Value) (r:List Int),v=.ref T/\IsTup h T items/\rows[i]? = !r/\IntsAre items.toList r
abbrev iG(rows:List (List Int)):Nat->Nat->Bool:=λi j=>HT.lexLt (rows.getD i []) (rows.getD j [])
section
variable{prog:Program}{w:World}{A:Around}{R:Result->Shared->Prop}{E:Value->Shared->Prop}{s:Shared}{h0:Heap}{I l S:Addr}{its:Array Value}{rows:List (List Int)}{d:Value}
theorem RG(g:A.units<cLine)(a:xH h0 its.toList rows)(f:∀b o,h0.get? b=!o->s.heap.get? b=!o)(h:its[i]? = !u)(k:its[j]? = !v)(q:Q (.bool (iG rows i j)) s):wpAny (model prog w) A (richCompare .Lt u v) Q E s:=by
 obtain⟨T,m,r,rfl,n,p,t⟩:=a.2 i u (by simpa using h);obtain⟨c,y,z,rfl,B,C,D⟩:=a.2 j v (by simpa using k);have G:rows.getD i []=r:=by rw[q01,p];rfl
 have H:rows.getD j []=z:=by rw[q01,C];rfl
 unfold iG at q;rw[G,H]at q;exact(HT.lt_tupInts (let⟨o,e,x⟩:=n;#[o,f _ _ e,x]) (let⟨o,e,x⟩:=B;#[o,f _ _ e,x]) t D g q)
theorem RH(T:A.handled=none)(U:A.in1.units<cLine)(X:xH h0 its.toList rows)(L:h0.IsList l its)(hI:h0.objs.size<=I)(Y:h0.objs.size<=S)(q:I≠S) :
  ∀k j  s  n  c,its.size - (j+1)=k->j+1<=its.size->(∀b o,h0.get? b=!o->s.heap.get? b=!o)->s.heap.IsListIter I l (j+1)->its[argBest (iG rows) j]? = !n->
  s.heap.get? S=some { cls:=.type "list",dict:=none,data:=.seq [n,n].toArray c,slots:=#[] }->
  (∀v u y,its[argBest (iG rows) (its.size - 1)]? = !v->(∀b o,h0.get? b=!o->u.get? b=!o)->R (.ok (.ret v)) { s with heap:=u,toks:=y })->
  codeAny (model prog w) A (.builtin "min.loop" #[[.ref I,.none,.ref S],[("default",d)]]) R s:=by
 have a:(toString "min"++toString ".loop":String)="min.loop":=by decide
 have M:∀{b:Addr}{o:Obj},h0.get? b=!o->b≠I:=λe z=>by subst z;exact absurd (bo e) (q1H.mpr hI)
 have N:∀{b:Addr}{o:Obj},h0.get? b=!o->S≠b:=λe z=>by subst z;exact absurd (bo e) (q1H.mpr Y)
 intro k
 induction k with
 |zero=>
  intro j s n c Z hj C hit G f D;have H:j+1=its.size:=by lia
  refine codeAny_builtin F.entry_min_loop ?_;rw[Around.under_plainId F.plain_min_loop _];refine aa (wpAny_seqItems f rfl ?_);refine aa (wpAny_tryCatch (wpAny_pyNext_list_end T hit (L.at λo e=>C _ _ e) (by simp;lia) λQ g=>?_));have h:=g S _ (Ne.symm q) f;refine aa (wpAny_updateSeq h rfl (aa (wpAny_letGo (ao ?_))));refine D n _ _ (by rw[<-H];exact G) λb o e=>?_;exact(Heap.get?_update_other _ _ (N e)).trans (g _ _ (M e) (C _ _ e))
 |succ k O=>
  intro j s n c Z hj C hit G f D;have m:j+1<its.size:=by lia
  refine codeAny_builtin F.entry_min_loop ?_;rw[Around.under_plainId F.plain_min_loop _];refine aa (wpAny_seqItems f rfl ?_);refine aa (wpAny_tryCatch (wpAny_pyNext_list_item hit (L.at λo e=>C _ _ e) (x:=its[j+1]) (by simp[m]) λQ p g=>?_));have h:=g.extBut S _ (Ne.symm q) f;have r:∀b o,h0.get? b=!o->Q.get? b=!o:=λb o e=>g.extBut _ _ (M e) (C _ _ e);show wpAny _ A.in1 (tryCatch (holding [its[j+1],its[j+1]] (richCompare .Lt its[j+1] n >>= _)) _ >>= _) _ _ _;refine aa (wpAny_tryCatch (wpAny_holding (aa (RG (i:=j+1) (j:=argBest (iG rows) j) U X r (by simp[m]) G ?_))));refine aa (wpAny_holding (wpAny_truthy_bool ?_));refine aa (wpAny_letGo (ao ?_));cases B:iG rows (j+1) (argBest (iG rows) j) with
  |true=>simp only[if_true];refine aa (wpAny_updateSeq h rfl (aa (wpAny_letGo ?_)));rw[a];refine ao #[plainId_quiet F.plain_min_loop _,O (j+1) _ its[j+1] _ 'b' m (λb o e=>(Heap.get?_update_other _ _ (N e)).trans (r _ _ e)) (p.at λo e=>(Heap.get?_update_other _ _ (Ne.symm q)).trans e) (by simp only[argBest,B,if_true];simp[m]) (Heap.get?_update_self _ h rfl) λv u y J t=>D v u y J t]
  |false=>refine aa (wpAny_letGo ?_);rw[a];exact ao #[plainId_quiet F.plain_min_loop _,O (j+1) _ n c 'b' m r p (by simp only[argBest,B,q0J,if_false];exact G) h λv u y J t=>D v u y J t]
theorem RI(t:A.handled=none)(u:A.in1.units<cLine)(j:s.heap.IsList l its)(y:xH s.heap its.toList rows)(k:0<its.size)(B:∀v h m,its[argBest (iG rows) (its.size - 1)]? = !v->(∀b o,s.heap.get? b=!o->h.get? b=!o)->Q v { s with heap:=h,toks:=m }) :
  wpAny (model prog w) A (call (.builtin "min") [.ref l] [("default",d)]) Q E s:=by
 refine CS F.kind_min F.plain_min F.entry_min (CQ _ _) ?_;refine aa (wpAny_of_eq (rfl) ?_);refine aa (ao ?_);refine aa (wpAny_pyIter_list j ?_);refine aa (wpAny_newObj_type ?_);have a:(toString "min"++toString ".loop":String)="min.loop":=by decide
 rw[a];generalize n:(s.heap.push { cls:=.type "list_iterator",data:=.fields [.ref l,.int 0 0].toArray })=h1;have p:h1.objs.size=s.heap.objs.size+1:=by rw[<-n,Heap.size_push]
 refine ao #[plainId_quiet F.plain_min_loop _,?_];refine codeAny_builtin F.entry_min_loop ?_;rw[Around.under_plainId F.plain_min_loop _];have q:(h1.push { cls:=.type "list",data:=.seq #[] }).get? h1.objs.size=some { cls:=.type "list",data:=.seq #[] }:=Heap.get?_push_size _ rfl;have r:∀b o,s.heap.get? b=!o->(h1.push { cls:=.type "list",data:=.seq #[] }).get? b=!o:=λb o e=>aK _ ((λb o e=>by rw[<-n];exact aK _ e) b o e);refine aa (wpAny_seqItems q rfl ?_);refine aa (wpAny_tryCatch (wpAny_pyNext_list_item (i:=0) (l:=l) (items:=its) (x:=its[0]) #[_,aK _ (by rw[<-n];exact Heap.get?_push_size _ rfl),rfl,rfl] (j.at λo e=>r _ _ e) (by simp[k]) λJ c f=>?_));have ne:s.heap.objs.size≠h1.objs.size:=by rw[p];exact q0q (q06 _)
 have g:=f.extBut _ _ (Ne.symm ne) q;have G:∀b o,s.heap.get? b=!o->J.get? b=!o:=λb o e=>f.extBut _ _ (q0q (bo e)) (r _ _ e);show wpAny _ A.in1 (updateSeq h1.objs.size (λ_=>[its[0],its[0]].toArray) >>= _) _ _ _;refine aa (wpAny_updateSeq g rfl ?_);rw[a];refine ao #[plainId_quiet F.plain_min_loop _,RH (h0:=s.heap) (its:=its) (rows:=rows) t u y j (aP _) (by rw[p];exact q1u _) ne _ 0 _ its[0] _ rfl k (λb o e=>(Heap.get?_update_other _ _ (λz=>by subst z;exact absurd (bo e) (by rw[p];exact q1H.mpr (q1u _)))).trans (G _ _ e)) (c.at λo e=>(Heap.get?_update_other _ _ (Ne.symm ne)).trans e) (by simp[argBest,k]) (Heap.get?_update_self _ g rfl) λv h m H L=>B v h m H L]
end
end L2
namespace L2.L3
open PySem PySem.Spec PyProof.Rows
noncomputable def fu:List PyData->Option (List Int)
 |[]=>some []
 |.int i::r=>(fu r).map (i::·)
 |_=>none
def gO:List PyData->Option (List (List Int))
 |[]=>some []
 |.tuple ds::r=>(match fu ds,gO r with |some x,!y=>!x::y |_,_=>none)
 |_=>none
theorem qu:∀{b a},fu b=!a->b=a.map PyData.int
 |[],a,h=>by cases h;rfl
 |.int i::r,a,h=>by obtain⟨m,h1,h2⟩:=q0g.mp h;subst h2;rw[qu h1];rfl
 |.none::_,_,h=>by cases h
 |.bool _::_,_,h=>by cases h
 |.str _::_,_,h=>by cases h
 |.list _::_,_,h=>by cases h
 |.tuple _::_,_,h=>by cases h
 |.dict _::_,_,h=>by cases h
theorem ou:∀{b a},gO b=!a->b=a.map λr=>PyData.tuple (r.map PyData.int)
 |[],a,h=>by cases h;rfl
 |.tuple l::r,a,h=>by
  unfold gO at h;cases h1:fu l with
  |none=>rw[h1]at h;cases h
  |some x=>
   cases h2:gO r with
   |none=>rw[h1,h2]at h;cases h
   |some y=>rw[h1,h2]at h;cases h;rw[ou h2,qu h1];rfl
 |.none::_,_,h=>by cases h
 |.bool _::_,_,h=>by cases h
 |.str _::_,_,h=>by cases h
 |.list _::_,_,h=>by cases h
 |.int _::_,_,h=>by cases h
 |.dict _::_,_,h=>by cases h
theorem qv:∀{vs}{a:List Int},aH H vs (a.map PyData.int)->vs=a.map V.int
 |_,[],.nil=>rfl
 |_,n::a,.cons h t=>by rw[h.int_inv,qv t];rfl
theorem ints_are:∀{a b},bj (a.map V.int) b->IntsAre b a
 |[],_,.nil=>.nil
 |n::a,_,.cons r t=>by obtain⟨c,rfl⟩:=r;exact .cons n c (ints_are t)
def gq:List (List Int)->List Int->List Int
 |[],b=>b
 |r::a,b=>gq a (if HT.lexLt r b=true then r else b)
theorem CW(rows:List (List Int)):∀k j,j+1+k=rows.length->gq (rows.drop (j+1)) (rows.getD (argBest (iG rows) j) [])=rows.getD (argBest (iG rows) (rows.length - 1)) []
 |0,j,h=>by rw[(List.drop_eq_nil_of_le 'b'),gq,show rows.length - 1=j by lia]
 |k+1,j,h=>by
  have a:j+1<rows.length:=by lia
  rw[q05 a,gq,<-CW rows k (j+1) 'b']
  congr 1
  have b:rows.getD (j+1) []=rows[j+1]:=by rw[q01,q0c a];rfl
  simp only[argBest];unfold iG;rw[b];split
  .exact b.symm
  .rfl
theorem RJ{A:Around}(a:A.units+1<cLine):A.in1.units<cLine:=by
 have:A.in1.units<=A.units+1:=by first |exact aP _ |exact q1u _
 exact q2q this a
def kW(i:Nat):XM PyData:=λU=>match qc U i with
 |some (_,ds)=>(match gO ds with
  |some []=>.ok .none U
  |some (r::a)=>.ok (.tuple ((gq a r).map PyData.int)) U
  |none=>.bad)
 |none=>.bad
theorem RK{F:Fx}{E:Str->ak->Prop}{pos:Pos}{p:Pos}{kp:Pos}{kpos:Pos}{S}(hu:X.A.units+1<cLine)(hc:X.calm=true)(hg:Gl X "min")(C:X.mg "min" = none)(Z:PE X (.Name x p1) (cu i))
  (a0:autoParam (starEach [.Name x p1] X.env=(false,eval (.Name x p1) X.env)::starEach [] X.env) Zq._auto_1)
  (he:autoParam (backTo pos (starEach [.Name x p1] X.env)=(false,eval (.Name x p1) X.env)::backTo pos (starEach [] X.env)) Zq._auto_1)
  (f:autoParam ((backTo pos (starEach [.Name x p1] X.env)).any (·.1)=false) Zq._auto_1)
  (D:autoParam ((backToKw pos (keywordEach [#[!"default",.Constant .none S kp,kpos]] X.env)).all (·.1.isSome)=true) Zq._auto_1)
  (a1:autoParam ((backToKw pos (keywordEach [#[!"default",.Constant .none S kp,kpos]] X.env)).any (·.1.isNone)=false) Zq._auto_1)
  (hn:autoParam ((backToKw pos (keywordEach [#[!"default",.Constant .none S kp,kpos]] X.env)).filterMap (·.1)=[("default":Str)]) Zq._auto_1) :
  FE X F E (.Call (.Name "min" p) [.Name x p1] [#[!"default",.Constant .none S kp,kpos]] pos) (kW i):=by
 refine#[aE,λh s Y H Q I G=>?_];obtain⟨U,O,st,q⟩:=G;unfold wp kW at q;cases ho:qc U i with
 |none=>rw[ho]at q;exact q.elim
 |some pr=>
  obtain⟨io,ds⟩:=pr;rw[ho]at q;simp only at q;cases hr:gO ds with
  |none=>rw[hr]at q;exact q.elim
  |some rows=>
   rw[hr]at q;obtain⟨a,fp,a2,⟨_,xs,hH,hd⟩,_,_⟩:=st.box (QS ho);refine wpAny_Call_Name_kw (jX I hg C PyProof.Rows.boot_min ?_ 'd' 'd');refine PyProof.Rows.callWith_kw ?_ he f D a1;refine aR ((dJ Z eB a0) pos h s Y H (λvs H1=>vs=[.ref a]/\H1=H) I #[_,a2,rfl,rfl]) λus s1 J=>?_;obtain⟨vs,H1,I1,r1,t,y⟩:=J;subst t y;obtain⟨u,rfl,ru⟩:=vals1 r1;cases ru;refine aR ((Ls (nm:=!"default") (kpos:=kpos) zy Lr) pos h s1 Y H1 (λvs m=>vs=[.non]/\m=H1) I1 #[rfl,rfl]) λus s2 M=>?_;obtain⟨vs,m,z,r2,t,y⟩:=M;subst t y;obtain⟨u,rfl,ru⟩:=vals1 r2;cases ru;rw[hn];obtain⟨z1,g,n1,rv,g1⟩:=z.hok _ _ hH;have n:=ou hr;have L:s2.heap.IsList a g.toArray:=#[_,g1,rfl,_,rfl]
   cases rows with
   |nil=>subst n;cases hd;cases rv;simp only at q;refine Rw (l:=a) (d:=.none) (z.ok.hd hc) L λh' j=>?_;exact#[.non,m,z.kept (t':=s2.toks) j,rfl,q _ m O st .refl .non]
   |cons r e=>
    simp only at q;have c:g.length=(r::e).length:=by rw[<-rv.length,hd.length,n,q0b]
    have item:∀(k:Nat) (v:Value),g[k]? = !v->∃(T:Addr) (o:List Int) (b:List Value) (B:V),v=.ref T/\IsTup s2.heap T b.toArray/\(r::e)[k]? = !o/\IntsAre b o/\aX B v/\DV (au O m) B (.tuple (o.map PyData.int)):=λk v j=>by
     have N:k<(r::e).length:=by rw[<-c];exact(q0a.mp j).1
     obtain⟨B,a4,R⟩:=hd.get (by rw[n,q0k,q0c N];rfl);obtain⟨w,hw,a5⟩:=rv.get a4;rw[j]at hw;cases hw;obtain⟨T,ys,rfl,hT,hy⟩:=R.tup_inv;obtain⟨_,b,rj,pj⟩:=(gc hT).1.ok z.hok;rw[qv hy]at rj;cases a5;exact#[T,_,b,.ref T,rfl,pj,q0c N,ints_are rj,rfl,R]
    refine RI (l:=a) (its:=g.toArray) (rows:=r::e) (d:=.none) (z.ok.hd hc) (RJ hu) L #[c,λk v j=>by
     obtain⟨T,o,b,B,t,y,e3,e4,_,_⟩:=item k v j;exact#[T,b.toArray,o,t,y,e3,e4]] (by simp only[q0m];rw[c];simp) λv h' tk Z j=>?_
    simp only[q0m,q1j]at Z;obtain⟨T,o,b,B,t,y,e3,e4,e5,e6⟩:=item _ v Z;have C:=CW (r::e) e.length 0 (by simp;lia);have a6:(r::e).getD (argBest (iG (r::e)) 0) []=r:=by simp[argBest]
    rw[a6]at C;change gq e r=_ at C;rw[c]at e3;have:o=gq e r:=by rw[C,q01,e3];rfl
    subst this;exact#[B,m,z.kept (t':=tk) j,e5,q _ m O st .refl e6]
structure MD (K:Frag) (C:Addr) (m qual:Str) (st:Stmt) (ps:List Str) (g:Addr) (fd:FuncData):Prop where
 fn:nF K m qual st g fd
 mt:iQ K C m g
 b:jw K fd ps []
theorem bE{N P}{a}(f:autoParam (a.kind=.function) Zq._auto_1)(g:autoParam (a.isCoroutine=false) Zq._auto_1)(h:autoParam (a.isGenerator=false) Zq._auto_1)(b:N.Nodup:=by decide +kernel)(c:autoParam (N.take P.length=P) Zq._auto_1)(d:∀x∈P,a.names.lookup x=!.local\/a.names.lookup x=!.cell:=by decide +kernel)(e:∀y∈a.names,y.2≠.free:=by decide +kernel):cx N P a:=#[f,g,h,b,c,d,e]
theorem fv{X:Cx}{F:Fx}{E:Str->ak->Prop}{pos:Pos}(i)(b:autoParam (X.N[i]? = !x) Zq._auto_1)(c:lP X.env.scope x:=by first |exact Or.inl rfl |exact Or.inr (Or.inl rfl) |exact Or.inr (Or.inr rfl))(hd:autoParam ((x==("__debug__":Str))=false) Zr._auto_1)(a:autoParam ((x==("__classdict__":Str))=false) Zr._auto_1):FE X F E (.Name x pos) (xV i):=Qb (Ni i (pv i b c hd a))
theorem RL{X:Cx}{F:Fx}{pos:Pos}(i)(a:X.N.Nodup)(b:autoParam (X.N[i]? = !x) Zq._auto_1)(c:Loc X.env.scope x:=by first |exact Or.inl rfl |exact Or.inr rfl)(d:X.fn x=true\/X.env.scope.names.lookup x=!.local:=by first |exact .inl rfl |exact .inr rfl |assumption):FG X F (.Name x pos) (aA i):=Qn (Od (vL a b c d))
theorem mB{pos:Pos}{p:Pos}{st:Stmt}(d:fJ X F E)(G:cD X.prog X.w X.K X.mg X.base (ej X.prog X.w) k g fd ps (gE X.K X.mg f))(D:FD X.K X.mg x st ps g fd)(h:bx j X.A)(l:FX X F E (e::es) mX)(n:autoParam (k<=j) Zr._auto_1)(o:autoParam (Gl X x) Zq._auto_1)(a:autoParam ((x==("__debug__":Str))=false) Zr._auto_1)
  (r:autoParam (starEach (e::es) X.env=(false,eval e X.env)::starEach es X.env) Zq._auto_1) (c:autoParam ((backTo pos (starEach es X.env)).any (·.1)=false) Zq._auto_1):FO X F E (.Call (.Name x p) (e::es) [] pos) (aS f mX):=Qr (OR d G (h.mono n) o D.mgf D.fn.kp D.b l a r c)
end L2.L3
namespace HT
open PySem PyProof.Rows
theorem getItem_tuple_whole{lo }(a:IsTup s.heap t items)(j:s.heap.IsSliceOf f g i .none)(n:IsPart g lo)(k:IsPart i b)
  (l:sIx items.size 0 lo=0) (o:sIx items.size items.size b=items.size) (h:Q (.ref t) s):wpAny (model prog w) A (getItem (.ref t) (.ref f)) Q E s:=by
 obtain⟨os,c,d,m⟩:=id j;unfold getItem
 try with_reducible apply wpAny_holding
 first |refine aa (ao ?_) |skip
 refine aa (wpAny_sequenceKey a.typeIs 'd' (aa (wpAny_callSpecial?_slot a.typeIs PyProof.Rows.slot_tuple_getitem (wpAny_call_entry PyProof.Rows.slot_tuple_getitem a.typeIs entry_tuple_getitem ?_ (args_tuple_getitem _ _)))));show wpAny _ _ (Builtin.Tuple.tupleItemsOf (.ref t) >>= _) _ _ s;refine aa (tupleItemsOf_ a (aa (wpAny_typeOf (#[os,c,d]) ?_)));rw[if_pos 'd'];refine aa (Al j n k ?_);show wpAny _ _ (if (((sIx items.size 0 lo):Int)==0&&(1)==1&&(sIx items.size items.size b - sIx items.size 0 lo)==items.size)=true then _ else _) _ _ s;rw[if_pos (by rw[l,o];simp)];first
  |exact aa (aa (wpAny_typeOf a.typeIs (ao (by
    rw[if_pos 'd'];exact aa (wpAny_rule (ao #[_,rfl,ao h]))))))
  |exact aa (aa (wpAny_typeOf a.typeIs (ao (by
    rw[if_pos 'd'];exact aa (wpAny_rule (aa (ao (ao #[_,rfl,ao h]))))))))
  |exact aa (aa (aa (wpAny_typeOf a.typeIs (ao (by
    rw[if_pos 'd'];exact aa (wpAny_rule (ao (ao #[_,rfl,ao h]))))))))
end HT
namespace L2
open PySem PySem.Spec PyProof.Rows
def RM(K:Frag):V->Option Int->Option Int->Hp->VK->Prop:=λx lo c H Q=>∃a b,x=.ref a/\dX K H a b/\HT.sIx b.length 0 lo=0/\HT.sIx b.length b.length c=b.length/\Q (.ref a) H
theorem RN:jx X (RM X.K):=by
 intro d s Y H x v n o lo p u Q I f g m i h;obtain⟨a,j,rfl,k,l,h1,q⟩:=h;cases f;obtain⟨c,r,e,t⟩:=I.tuple k;have b:c.toArray.size=j.length:=by rw[q0m];exact r.length.symm
 exact#["tuple",_,PyProof.Rows.slot_tuple_getitem.lookup,e.typeIs,HT.getItem_tuple_whole e g m i (by rw[b];exact l) (by rw[b];exact h1) #[.ref a,H,I,rfl,q]]
end L2
namespace L2.L3
open PySem PySem.Spec PyProof.Rows
def cutD(a:List PyData)(lo b:Option Int):List PyData:=(a.drop (HT.sIx a.length 0 lo)).take (HT.sIx a.length a.length b - HT.sIx a.length 0 lo)
theorem aH.drop:∀{vs a} n,aH H vs a->aH H (vs.drop n) (a.drop n)
 |_,_,0,h=>h
 |_,_,_+1,.nil=>.nil
 |_,_,n+1,.cons _ t=>aH.drop n t
theorem aH.take:∀{vs a} n,aH H vs a->aH H (vs.take n) (a.take n)
 |_,_,0,_=>.nil
 |_,_,_+1,.nil=>.nil
 |_,_,n+1,.cons h t=>.cons h (aH.take n t)
theorem CY{lo }(h:aH H vs b):aH H (jy vs lo a) (cutD b lo a):=by unfold jy cutD;rw[h.length];exact aH.take _ (aH.drop _ h)
def RO(K:Frag)(F:Fx)(t:ak->(Option Int->ak->Prop)->Prop):TO:=λY H Q=>∃U O,aD K F H Y U O/\t U λo c=>∀a b,aD K F a Y c b->aT O H b a->Q o a
def FP(X:Cx)(F:Fx)(E:Str->ak->Prop)(e:Option Expr)(m:XM (Option Int)):Prop:=PO X e (RO X.K F (wp E m))
@[simp]noncomputable def jH:XM (Option Int):=λU=>.ok none U
@[simp] def jI(m:XM PyData):XM (Option Int):=λU=>(m U).bind λd=>lift (match d with |.int i=>!!i |_=>none)
theorem PO.imp(h:PO X e t)(k:∀Y H Q,t' Y H Q->t Y H Q):PO X e t':=λa s Y H Q I q=>h a s Y H Q I (k Y H Q q)
theorem qw:FP X F E none jH:=PO.imp Am λY H Q a=>by obtain⟨U,O,st,q⟩:=a;exact q H O st .refl
theorem qx(h:FE X F E e m):FP X F E (!e) (jI m):=PO.imp (An h.pe) λY H Q ⟨U,O,st,q⟩=>#[U,O,st,aE _ _ _ (λd n c v f g a j k=>by
 obtain⟨y,b,l⟩:=cJ c;cases d with
 |int i=>cases b;exact#[i,k.int_inv,l f g a j]
 |_=>cases b) (bK q)]
def ow(d:PyData)(l h:Option Int):Option PyData:=match d with
 |.list ds=>some (.list (cutD ds l h))
 |.tuple ds=>some (.tuple (cutD ds l h))
 |_=>none
@[simp] def jJ(m:XM PyData)(lo hi:XM (Option Int)):XM PyData:=λU=>(m U).bind λd a=>(lo a).bind λl b=>(hi b).bind λh=>lift (ow d l h)
theorem qy{lo:Option Expr}(I:FE X F E e m)(J:FP X F E lo t)(L:FP X F E hi j):FE X F E (.Subscript e (.Slice lo hi none p2) pos) (jJ m t j):=
 #[aE,(Ao (jx.or (jx.or LL RN) As) I.pe J L).imp λY H Q n=>by obtain⟨U,O,st,q⟩:=n;exact 
  #[U,O,st,aE _ _ _ (λd w M v H1 N x R S=>#[w,N,x,aE _ _ _ (λl o T H2 Z z D=>#[o,Z,z,aE _ _ _ (λh U3 q3 H3 A b G=>by
   obtain⟨y,B,C⟩:=cJ q3;have g:=DV.mono (D.trans G).hid S;have i:=R.trans (D.trans G);cases d with
   |list ds=>cases B;obtain⟨a,f,rfl,u,r⟩:=g.lst_inv;exact .inr #[a,f,rfl,.of (cR u).1,λp c=>C _ _ A (b.grow (bA c)) (i.trans (.same (bA c))) (ir c (b.nofree p c) (CY r))]
   |tuple ds=>
    cases B;obtain⟨a,f,ev,u,r⟩:=id g.tup_inv;subst ev;refine .inl ?_
    by_cases s:HT.sIx f.length 0 l=0/\HT.sIx f.length f.length h=f.length
    .refine .inr #[a,f,rfl,.inl (gc u).1,s.1,s.2,C _ H3 A b i ?_];have:cutD ds l h=ds:=by unfold cutD;rw[<-r.length,s.1,s.2,List.drop_zero,Nat.sub_zero,r.length];exact q2K
     rw[this];exact g
    .exact .inl #[a,f,rfl,.inl (gc u).1,s,λp c=>C _ _ A (b.grow (bA c)) (i.trans (.same (bA c))) (nJ c (b.nofree p c) (CY r))]
   |_=>cases B) (bK (k:=λh=>lift (ow d l h)) T)]) (bK M)]) (bK q)]]
end L2.L3
namespace L2.TS
open PySem PyProof.Rows
theorem RP{α:Type}{a:Array α}{i:Nat}:a[i]? = a.toList[i]?:=by simp
theorem xI:∀a,HT.lexLt a a=false
 |[]=>rfl
 |x::a=>by rw[HT.lexLt_cons,if_pos rfl];exact xI a
theorem tJ:∀{a b d},HT.lexLt a b=true->HT.lexLt b d=true->HT.lexLt a d=true
 |[],[],_,h,_=>by cases h
 |[],y::b,[],_,h=>by cases h
 |[],_::_,_::_,_,_=>rfl
 |x::a,[],_,h,_=>by cases h
 |x::a,y::b,[],_,h=>by cases h
 |x::a,y::b,z::d,h1,h2=>by
  rw[HT.lexLt_cons]at h1 h2 ⊢
  by_cases e:x=y
  .subst e;rw[if_pos rfl]at h1
   by_cases c:x=z
   .subst c;rw[if_pos rfl]at h2 ⊢;exact tJ h1 h2
   .rw[if_neg c]at h2 ⊢;exact h2
  .rw[if_neg e]at h1
   by_cases c:y=z
   .subst c;rw[if_neg e];exact h1
   .rw[if_neg c]at h2;rw[if_neg 'b'];exact decide_eq_true 'b'
theorem xJ:∀{a b},HT.lexLt a b=false->HT.lexLt b a=false->a=b
 |[],[],_,_=>rfl
 |[],_::_,h,_=>by cases h
 |_::_,[],_,h=>by cases h
 |x::a,y::b,h1,h2=>by
  rw[HT.lexLt_cons]at h1 h2
  by_cases e:x=y
  .subst e;rw[if_pos rfl]at h1 h2;rw[xJ h1 h2]
  .rw[if_neg e]at h1;rw[if_neg (Ne.symm e)]at h2;lia
def lexLe(a b:List Int):Bool:=not (HT.lexLt b a)
theorem lexLe_tr(a c d)(g:lexLe a c=true)(b:lexLe c d=true):lexLe a d=true:=by
 unfold lexLe at *;simp only[Bool.not_eq_true']at *;cases e:HT.lexLt d a with
 |false=>rfl
 |true=>
  cases f:HT.lexLt a c with
  |true=>rw[tJ e f]at b;cases b
  |false=>rw[xJ f g]at e;rw[e]at b;cases b
theorem lexLe_tt(a b):(lexLe a b||lexLe b a)=true:=by
 unfold lexLe;cases e:HT.lexLt b a with
 |false=>rfl
 |true=>
  cases c:HT.lexLt a b with
  |false=>rfl
  |true=>have:=tJ e c;rw[xI]at this;cases this
theorem RQ(c:lexLe a b=true)(d:lexLe b a=true):a=b:=by unfold lexLe at *;simp only[Bool.not_eq_true']at *;exact xJ d c
def sortR(rows:List (List Int)):List (List Int):=rows.mergeSort lexLe
theorem sortR_of(d:c.Perm rows)(e:c.Pairwise λx y=>lexLe x y=true):c=sortR rows:=
 q1S (λa b _ _ p q=>RQ p q) e (q1p lexLe_tr lexLe_tt rows) (d.trans (q1v rows lexLe).symm)
theorem sortR_perm(rows):(sortR rows).Perm rows:=q1v rows lexLe
end L2.TS
namespace L2.TS
open PySem PyProof.Rows PySem.W
section
variable{N:Nat}{c:Nat->Nat->Bool}{s:Shared}{cmp:Nat->Nat->(Bool->Shared->Prop)->Shared->Prop}
def Ch(R:Nat->Nat->Prop)(p:Array Nat)(n:Nat):Prop:=∀i j,i<=j->j<n->R (p.getD i 0) (p.getD j 0)
abbrev Le(c:Nat->Nat->Bool)(x y:Nat):Prop:=c y x=false
abbrev Ge(c:Nat->Nat->Bool)(x y:Nat):Prop:=c x y=false
theorem tK(h:j<=p.size)(k):(kas_rev p i j).getD k 0=p.getD (if i<=k/\k<j then i+j - 1 - k else k) 0:=by unfold kas_rev;rw[q0Q,q0Q,getElem?_mirror_all h];split<;>rfl
structure xK (N:Nat) (c:Nat->Nat->Bool) (s:Shared) (cmp:Nat->Nat->(Bool->Shared->Prop)->Shared->Prop):Prop where
 tr:∀{x y z},c y x=false->c z y=false->c z x=false
 as:∀{x y},c x y=true->c y x=false
 ask:∀i j C,i<N->j<N->C (c i j) s->cmp i j C s
variable(O:xK N c s cmp){p:Array Nat}{α:Type}
include O
theorem xK.rf(x):c x x=false:=by
 cases h:c x x
 .rfl
 .exact h.symm.trans (O.as h)
theorem Ch.up(h:Ch (Le c) p n)(d:1<=n)(e:c (p.getD n 0) (p.getD (n - 1) 0)=false):Ch (Le c) p (n+1):=λi j a b=>by
 rcases q0R (q09 b) with q |rfl
 .exact h i j a q
 .rcases q0R a with q |rfl
  .exact O.tr (h i (j - 1) 'b' 'b') e
  .exact O.rf _
theorem Ch.dn(h:Ch (Ge c) p n)(d:1<=n)(e:c (p.getD (n - 1) 0) (p.getD n 0)=false):Ch (Ge c) p (n+1):=λi j a b=>by
 rcases q0R (q09 b) with q |rfl
 .exact h i j a q
 .rcases q0R a with q |rfl
  .exact O.tr e (h i (j - 1) 'b' 'b')
  .exact O.rf _
omit O in
theorem jK{i:Nat}(h:p.Perm (List.range N).toArray)(a:i<N):p.getD i 0<N:=by
 have z:p.size=N:=by have:=h.size_eq;simpa using this
 have m:p[i]∈p:=Array.getElem_mem 'b';have:=h.mem_iff.mp m;rw[q0Q,q0T 'b'];simpa using this
abbrev Pm(N:Nat)(p:Array Nat):Prop:=p.Perm (List.range N).toArray
omit O in
theorem Pm.size(h:Pm N p):p.size=N:=by have:=h.size_eq;simpa using this
omit O in
theorem Pm.rev(h:Pm N p)(i j:Nat):Pm N (kas_rev p i j):=(mirror_perm _ _ _ _).trans h
theorem xL(i:Pm N p):∀f n,1<=n->n+f<=N->Ch (Le c) p n->(∀m,n<=m->m<=n+f->Ch (Le c) p m->(m<n+f->c (p.getD m 0) (p.getD (m - 1) 0)=true)->Q m s)->(kas_asc p f n).kasWp cmp Q s
 |0,n,_,_,h,q=>q n (aP _) (aP _) h λh=>absurd h (q0E _)
 |f+1,n,j,k,h,q=>by
  apply O.ask _ _ _ (jK i 'b') (jK i 'b');cases e:c (p.getD n 0) (p.getD (n - 1) 0)
  .exact xL i f (n+1) 'b' 'b' (h.up O j e) λm a b d g=>q m 'b' 'b' d λh=>g 'b'
  .exact q n (aP _) 'b' h λ_=>e
def qA(c:Nat->Nat->Bool)(p:Array Nat)(a n:Nat):Prop:=∀i j,a<=i->i<n->a<=j->j<n->c (p.getD i 0) (p.getD j 0)=false
omit O in
theorem Ch.mir{a n m:Nat}(b:n<=p.size)(d:n<=m)(h:Ch (Ge c) p m)(k:qA c p a n):Ch (Ge c) (kas_rev p a n) m:=λi j e f=>by
 show c _ _=false;rw[tK b,tK b]
 by_cases q:(if a<=i/\i<n then a+n - 1 - i else i)<=if a<=j/\j<n then a+n - 1 - j else j
 .exact h _ _ q (by split<;>lia)
 .refine k _ _ ?_ ?_ ?_ ?_<;>(revert q;split<;>split<;>lia)
theorem tL:∀f n q  p,Pm N p->q+1<=n->n+f<=N->Ch (Ge c) p n->qA c p (n - (q+1)) n->(∀b m r,Pm N b->r+1<=m->m<=N->Ch (Ge c) b m->qA c b (m - (r+1)) m->Q (b,m,r) s)->(kas_desc f p n q).kasWp cmp Q s
 |0,n,q,p,a,d,o,h,k,g=>g p n q a d o h k
 |f+1,n,q,p,a,d,o,h,k,g=>by
  have one:∀b,qA c b (n+1 - (0+1)) (n+1):=λb i j _ _ _ _=>by
   obtain rfl:i=j:=by lia
   exact O.rf _
  apply O.ask _ _ _ (jK a 'b') (jK a 'b');cases e:c (p.getD n 0) (p.getD (n - 1) 0)
  .apply O.ask _ _ _ (jK a 'b') (jK a 'b');cases t:c (p.getD (n - 1) 0) (p.getD n 0)
   .refine tL f (n+1) (q+1) p a 'b' 'b' (h.dn O 'b' t) (λi j v w x y=>?_) g;have l:c (p.getD i 0) (p.getD (n - 1) 0)=false:=by
     by_cases z:i=n
     .rw[z];exact e
     .exact k _ _ 'b' 'b' 'b' 'b'
    refine O.tr ?_ l
    by_cases z:j=n
    .rw[z];exact t
    .exact k _ _ 'b' 'b' 'b' 'b'
   .exact g p n q a d 'b' h k
  .have u:=h.dn O 'b' (O.as e);split
   .exact tL f (n+1) 0 _ (a.rev _ _) 'b' 'b' (u.mir (by rw[a.size];lia) 'b' k) (one _) g
   .exact tL f (n+1) 0 p a 'b' 'b' u (one _) g
theorem CZ(a:Pm N p)(d:1<=n)(f:n<=N)(h:Ch (Ge c) p n)(g:∀m b,1<=m->m<=N->Pm N b->Ch (Le c) b m->Q (m,b) s):(kas_tail3 n N p).kasWp cmp Q s:=by unfold kas_tail3;rw[KasT.kasWp_bind];refine xL O (a.rev _ _) (N - n) n d 'b' (λi j k l=>?_) λm o q e _=>g m _ 'b' 'b' (a.rev _ _) e;rw[tK (by rw[a.size];lia),tK (by rw[a.size];lia),if_pos 'b',if_pos 'b'];exact h _ _ 'b' 'b'
theorem Db(f:Pm N p)(l:n+1<=N)(h:Ch (Ge c) p (n+1))(g:∀m b,1<=m->m<=N->Pm N b->Ch (Le c) b m->Q (m,b) s):(kas_descPart n N p).kasWp cmp Q s:=by
 unfold kas_descPart;rw[KasT.kasWp_bind];refine tL O (N - (n+1)) (n+1) 0 p f 'b' 'b' h (λi j _ _ _ _=>?_) λb m r a o d e k=>?_
 .obtain rfl:i=j:=by lia
  exact O.rf _
 .split
  .exact CZ O (a.rev _ _) 'b' d (e.mir (by rw[a.size];lia) (aP _) k) g
  .exact CZ O a 'b' d e g
theorem RS(a:Pm N p)(t:1<=N)(g:∀m d,1<=m->m<=N->Pm N d->Ch (Le c) d m->Q (m,d) s):(kas_count N p).kasWp cmp Q s:=by
 unfold kas_count;rw[KasT.kasWp_bind];refine xL O a (N - 1) 1 (aP _) 'b' (λi j _ _=>?_) λn b u h e=>?_
 .obtain rfl:i=j:=by lia
  exact O.rf _
 .split
  .exact g n p b 'b' a h
  .rename_i ne;have f:n<N:=Nat.lt_of_le_of_ne 'b' λz=>ne (by simp[z]);have e:=O.as (e 'b');split
   .apply O.ask _ _ _ (jK a 'b') (jK a 'b');cases o:c (p.getD 0 0) (p.getD (n - 1) 0)
    .have k:qA c p 0 n:=λi j _ q _ v=>O.tr (O.tr (h j (n - 1) 'b' 'b') o) (h 0 i 'b' q);refine Db O (a.rev _ _) f (Ch.mir (by rw[a.size];lia) 'b' (Ch.dn O (λi j r l=>k i j 'b' 'b' 'b' l) b e) k) g
    .exact g n p b 'b' a h
   .obtain rfl:n=1:=by lia
    refine Db O a f (Ch.dn O (λi j r l=>?_) b e) g;obtain rfl:i=j:=by lia
    exact O.rf _
theorem xM(j:Pm N p)(m:k<N)(h:Ch (Le c) p k)(g:∀l,l<=k->(∀i<l,Le c (p.getD i 0) (p.getD k 0))->(∀i,l<=i->i<k->Le c (p.getD k 0) (p.getD i 0))->Q l s) :
  ∀f l r,l<=r->r<=k->r - l<=f->(∀i<l,Le c (p.getD i 0) (p.getD k 0))->(∀i,r<=i->i<k->Le c (p.getD k 0) (p.getD i 0))->(kas_place p k f l r).kasWp cmp Q s
 |0,l,r,q,o,d,a,b=>g l 'b' a λi n=>b i 'b'
 |f+1,l,r,q,o,d,a,b=>by
  unfold kas_place;split
  .exact g l 'b' a λi n=>b i 'b'
  .apply O.ask _ _ _ (jK j m) (jK j 'b');cases e:c (p.getD k 0) (p.getD ((l+r) / 2) 0)
   .refine xM j m h g f _ r 'b' o 'b' (λi u=>?_) b;exact O.tr (h i _ 'b' 'b') e
   .exact xM j m h g f l _ 'b' 'b' 'b' a λi n t=>O.tr (O.as e) (h _ i n t)
theorem Dc(g:∀m,Pm N m->Ch (Le c) m N->Q m s):∀f k  p,Pm N p->Ch (Le c) p k->k+f=N->(kas_bin f p k).kasWp cmp Q s
 |0,k,p,d,h,e=>g p d (by rwa [<-e])
 |f+1,k,p,d,h,e=>by
  unfold kas_bin;rw[KasT.kasWp_bind];refine xM O d 'b' h (λl lk a b=>?_) k 0 k (q0L _) (aP _) (aP _) (λ_ h=>absurd h (q1V _)) λi a b=>absurd a 'b';have at_:∀i,(bubble p k (k - l)).getD i 0=p.getD (if i=l then k else if l<i/\i<=k then i - 1 else i) 0:=λi=>by
   rw[q0Q,q0Q,getElem?_bubble (by rw[d.size];lia) (k - l) 'b',show k - (k - l)=l by lia];split
   .rfl
   .split<;>rfl
  refine Dc g f (k+1) _ ((bubble_perm ..).trans d) (λi j n o=>?_) 'b';rw[at_,at_]
  by_cases x:i=l<;>by_cases y:j=l
  .rw[if_pos x,if_pos y];exact O.rf _
  .rw[if_pos x,if_neg y,if_pos 'b'];exact b _ 'b' 'b'
  .rw[if_neg x,if_pos y,if_neg 'b'];exact a _ 'b'
  .rw[if_neg x,if_neg y];split<;>split<;>exact h _ _ 'b' 'b'
theorem RT(b:1<=N)(g:∀p,Pm N p->Ch (Le c) p N->Q p s):(kas_sort N).kasWp cmp Q s:=by
 unfold kas_sort;rw[KasT.kasWp_bind];refine RS O (Array.Perm.refl _) b λm p d e a h=>?_;split
 .exact Dc O g _ _ p a (by rw[Nat.max_eq_left d];exact h) 'b'
 .obtain rfl:m=N:=by lia
  exact g p a h
end
end L2.TS
namespace L2.TS
open PySem PyProof.Rows
abbrev tM(a:Value->List Int):Keyed->Keyed->Bool:=λx y=>lexLe (a x.1) (a y.1)
def mC(n:Nat):Prop:=2<=n->∀(b:Program) (w:World) (A:Around) (E:Value->Shared->Prop) (s:Shared) (c:Value->List Int) (κ:SortKind) (vs:List Value) (Q:SortSt->Prop),vs.length=n->
 (∀x∈vs,∀y∈vs,∀(E:Value->Shared->Prop) (Q:Bool->Shared->Prop),Q (HT.lexLt (c x) (c y)) s->wpAny (model b w) A (keyLt' κ x y) Q E s)->
 (∀a,failedOf a = none->(arrOf a).toList.Perm (pairsOf vs).toList->(arrOf a).toList.Pairwise (λx y=>tM c x y=true)->Q a)->wpAny (model b w) A ((sortRuns').run (SortSt.mk' κ (vs.toArray.zip vs.toArray) #[] 7 none)) (λr d=>d = s/\Q r.2) E s
theorem runs_few(r:n<64):mC n:=λD l w A E s c κ vs Q t u h=>by
 subst t;have O:xK vs.length (λi j=>HT.lexLt (c (vs.getD i .none)) (c (vs.getD j .none))) s (W.kas_ask l w A κ vs):=#[λ{x y z} a b=>?_,λ{x y} a=>?_,λi j C d k q=>?_]
 .refine W.kat_run (Q:=λst o=>o = s/\Q st) (G:=λp o=>o = s/\Pm vs.length p/\Ch (Le λi j=>HT.lexLt (c (vs.getD i .none)) (c (vs.getD j .none))) p vs.length) rfl D r ?_ (RT O 'b' λp a b=>#[rfl,a,b]);rintro p st o z e f ⟨rfl,v,B⟩;have m:=(Array.perm_iff_toList_perm.mp v).map (W.kas_item (pairsOf vs));rw[<-q17,<-q17,<-pairsOf_size vs,W.kas_range]at m;refine#[rfl,h st f (by rw[e];exact m) ?_];rw[e,q17,q0U,List.pairwise_iff_getElem];intro i j d k H;have:=B i j 'b' (by simpa[z] using k);rw[q0s]at d k;rw[show vs.toArray.zip vs.toArray=pairsOf vs from rfl,W.kas_item_eq,W.kas_item_eq];simpa[lexLe,d,k] using this
 .simpa[lexLe] using lexLe_tr (c (vs.getD x .none)) (c (vs.getD y .none)) (c (vs.getD z .none)) (by simpa[lexLe] using a) (by simpa[lexLe] using b)
 .cases e:HT.lexLt (c (vs.getD y .none)) (c (vs.getD x .none))
  .rfl
  .exact absurd (tJ a e) (by rw[xI];simp)
 .have g:∀i,i<vs.length->vs.getD i Value.none∈vs:=λi d=>by simp[d]
  exact u _ (g i d) _ (g j k) _ _ q
structure mD (prog:Program) (w:World) (h0:Heap) (vs:List Value) (rk:Value->List Int) (κ:SortKind):Prop where
 kind:∀(A:Around) (E:Value->Shared->Prop) (s:Shared) (Q:SortKind->Shared->Prop),(∀b o,h0.get? b=!o->s.heap.get? b=!o)->2<=vs.length->Q κ s->wpAny (model prog w) A (keyKind' vs.toArray) Q E s
 lt:∀(A:Around) (E:Value->Shared->Prop) (s:Shared) (Q:Bool->Shared->Prop) (x y:Value),(∀b o,h0.get? b=!o->s.heap.get? b=!o)->x∈vs->y∈vs->Q (HT.lexLt (rk x) (rk y)) s->wpAny (model prog w) A (keyLt' κ x y) Q E s
theorem qC(rp:s.heap.get? a=!seqObj "list" vs.toArray n)(r:vs.length<=sizeLine)(R:mC vs.length)(k:mD prog w i vs rk κ)(v:∀b o,i.get? b=!o->b≠a/\s.heap.get? b=!o)
  (h:∀f:List Value,f.Perm vs->f.Pairwise (λx y=>lexLe (rk x) (rk y)=true)->P (.done (.ret .none)) { s with heap:=sortedHeap s.heap a vs f.toArray }) :
  wpAny (model prog w) A (Builtin.«list.sort» #[[.ref a],[]]) P E s:=by
 rw[list_sort_plain];refine aa (listItems_at rp rfl (aa (listUpdate_at rp rfl ?_ (by simpa using r) (q0L _))));obtain⟨t,ic⟩:∃t,(s.heap.update a (Obj.mapSeq λ_=>#[])).get? a=!seqObj "list" #[] t:=#[_,get?_update_seq rp λ_=>#[]]
 refine aa (seqEpoch_at ic rfl (aa (wpAny_newTuple ?_ (by simpa using r))));refine aa (wpAny_newList ?_ (q0L _));refine wpAny_holding ?_;have up:∀{b:Addr}{o:Obj},(s.heap.update a (Obj.mapSeq λ_=>#[])).get? b=!o->(((s.heap.update a (Obj.mapSeq λ_=>#[])).push (seqObj "tuple" vs.toArray 0)).push (seqObj "list" #[] 0)).get? b=!o:=λe=>aK _ (aK _ e);have d:=up ic;have kp:=λb o e=>up (by rw[Heap.get?_update_ne _ _ _ _ (v b o e).1];exact(v b o e).2);dsimp only;have sz:vs.toArray.size=vs.length:=by simp
 have fin:∀c:SortSt,(arrOf c).toList.Perm (pairsOf vs).toList->(arrOf c).toList.Pairwise (λx y=>tM rk x y=true)->P (.done (.ret .none)) { s with heap:=sortedHeap s.heap a vs ((arrOf c).map (·.2)) }:=λc g j=>by
  have u:∀p∈(arrOf c).toList,p.1=p.2:=λp z=>by have:=g.mem_iff.mp z;rw[pairsOf_toList]at this;exact(mem_zip_self this).1
  have e:(arrOf c).map (·.2)=((arrOf c).toList.map (·.2)).toArray:=by apply Array.toList_inj.mp;simp
  rw[e];refine h _ ?_ ?_
  .have:=g.map (·.2)
   rwa [pairsOf_toList,List.map_snd_zip (aP _)]at this
  .rw[q0U];refine q1l (λ{x y} l m q=>?_) j;rw[<-u x l,<-u y m];exact q
 by_cases h2:vs.toArray.size<2
 .rw[if_pos h2,if_pos h2];refine aa (ao ?_);rw[StateT.run_pure];refine aa (ao ?_);dsimp only;refine aa (seqEpoch_at d rfl (aa (listUpdate_at d rfl ?_ (q0L _) (by
   have:((pairsOf vs).map (·.2)).size<=sizeLine+1:=by rw[q2w,pairsOf_size];lia
   exact this))))
  simp only[bne_self_eq_false,q0J,if_false];refine ao (fin (SortSt.mk' general' (vs.toArray.zip vs.toArray) #[] 7 none) (List.Perm.refl _) ?_);show(pairsOf vs).toList.Pairwise _;rw[pairsOf_toList]
  match vs,sz,h2 with
  |[],_,_=>exact .nil
  |[_],_,_=>exact List.pairwise_singleton _ _
  |_::_::_,_,h2=>simp at h2;lia
 .rw[if_neg h2,if_neg h2];refine aa (k.kind _ _ _ _ kp 'b' ?_);refine aa (wpAny_mono (R 'b' prog w _ _ _ rk κ vs (λc=>failedOf c = none/\(arrOf c).toList.Perm (pairsOf vs).toList/\(arrOf c).toList.Pairwise (λx y=>tM rk x y=true))
   rfl (λx l y m E Q q=>k.lt _ _ _ _ x y kp l m q) λc B C D=>#[B,C,D]) ?_ λ_ _ e=>e)
  rintro⟨⟨⟩,c⟩ H ⟨rfl,G,g,j⟩;dsimp only;refine aa (seqEpoch_at d rfl (aa (listUpdate_at d rfl ?_ (q0L _) (by
   have l1:=g.length_eq;simp only[q0s,pairsOf_size]at l1;have:((arrOf c).map (·.2)).size<=sizeLine+1:=by rw[q2w];lia
   exact this))))
  rw[G];simp only[bne_self_eq_false,q0J,if_false];exact ao (fin c g j)
theorem RU{s:Shared}(r:s.heap.IsList l vs.toArray)(d:vs.length<=sizeLine)(R:mC vs.length)(k:mD prog w s.heap vs rk κ)
  (h:∀(a:List Value)  f  n,a.Perm vs->a.Pairwise (λx y=>lexLe (rk x) (rk y)=true)->(∀b o,s.heap.get? b=!o->f.get? b=!o)->f.get? (s.heap.objs.size+1)=!seqObj "list" a.toArray n->Q (.ref (s.heap.objs.size+1)) { s with heap:=f }) :
  wpAny (model prog w) A (call (.builtin "sorted") [.ref l]) Q E s:=by
 apply Calls.call_function_entry kind_sorted plain_sorted entry_sorted (args_sorted1 _);refine aa (ao (aa (collect_list r (aa (wpAny_newList ?_ d)) d)));generalize j:(s.heap.push (seqObj "list" #[] 0)).update s.heap.objs.size (Obj.mapSeq (·++vs.toArray))=g;have p:g.objs.size=s.heap.objs.size+1:=by rw[<-j,Heap.size_update,size_push']
 have dS:(g.push (seqObj "list" vs.toArray 0)).get? (s.heap.objs.size+1)=!seqObj "list" vs.toArray 0:=by rw[<-p];exact Heap.get?_push_size _ rfl
 rw[p];have hb:∀b o,s.heap.get? b=!o->b≠s.heap.objs.size+1/\(g.push (seqObj "list" vs.toArray 0)).get? b=!o:=λb o e=>#[q0q (q1s (bo e)),aK _ ((λb o e=>by have c:=bo e;rw[<-j,Heap.get?_update_ne _ _ _ _ (q0q c),Heap.get?_push_ne _ _ _ (q0q c)];exact e) b o e)]
 refine aa (wpAny_holding (wpAny_call_entry slot_list_sort #[_,dS,rfl] entry_list_sort (qC dS d R k hb λa u v=>#[_,rfl,?_]) (args_list_sort _)));refine ao #[_,rfl,?_];obtain⟨i,ic⟩:∃i,((g.push (seqObj "list" vs.toArray 0)).update (s.heap.objs.size+1) (Obj.mapSeq λ_=>#[])).get? (s.heap.objs.size+1)=!seqObj "list" #[] i:=#[_,get?_update_seq dS λ_=>#[]]
 refine h a _ _ u v (λb o e=>?_) (get?_update_seq (aK _ (aK _ ic)) λ_=>a.toArray);have q:=hb b o e;unfold sortedHeap;rw[Heap.get?_update_ne _ _ _ _ q.1];refine aK _ (aK _ ?_);rw[Heap.get?_update_ne _ _ _ _ q.1];exact q.2
noncomputable def rkH(h:Heap):Value->List Int
 |.int n _=>[n]
 |.ref a=>(match h.get? a with
  |some o=>(match o.data with
   |.seq b _=>b.toList.map numOf
   |_=>[])
  |none=>[])
 |_=>[]
theorem Dd(hv:∀v∈vs,∃n t,v=.int n t):mD prog w h0 vs (rkH h0) oneType' where
 kind:=λA E s Q _ h2 q=>by
  have hI:=intsAre_map vs hv
  match vs,hI,h2 with
  |v1::v2::r,hI,_=>rw[keyKind_ints hI];exact ao q
  |[_],_,h2=>simp at h2
  |[],_,h2=>simp at h2
 lt:=λA E s Q x y _ hx hy q=>by
  obtain⟨a,t,rfl⟩:=hv x hx;obtain⟨b,u,rfl⟩:=hv y hy;rw[keyLt'_oneType];apply oneLt_int;have e:HT.lexLt (rkH h0 (.int a t)) (rkH h0 (.int b u))=decide (a<b):=by
   show HT.lexLt [a] [b]=_;rw[HT.lexLt_cons];split
   .rename_i z;rw[HT.lexLt_nil_nil];symm;exact decide_eq_false 'b'
   .rfl
  rw[e]at q;exact q
def TupI(h:Heap)(v:Value):Prop:=∃(a:Addr) (b:Array Value) (c:List Int),v=.ref a/\IsTup h a b/\IntsAre b.toList c/\c≠[]
theorem TupI.rnk(t:TupI h v):∃(a:Addr) (b:Array Value) (c:List Int),v=.ref a/\IsTup h a b/\IntsAre b.toList c/\c≠[]/\rkH h v=c:=by obtain⟨a,b,c,rfl,d,e,f⟩:=t;refine#[a,b,c,rfl,d,e,f,?_];obtain⟨o,g,j,n,i⟩:=d;unfold rkH;simp only[g,i];exact e.nums
theorem De:∀{a c g d} i,IntsAre a g->IntsAre c d->Q (HT.lexLt g d) s->W.KatLex prog w A b (decide (a.length<c.length)) Q (a.zip c) i s
 |_,_,_,_,i,.nil,.nil,q=>W.kat_nil q
 |_,_,_,_,i,.nil,.cons m t h,q=>W.kat_nil (q)
 |_,_,_,_,i,.cons n t h,.nil,q=>W.kat_nil (q)
 |_,_,_,_,i,.cons (vs:=vs) n t h,.cons (vs:=f) m u j,q=>by
  rw[q1I];refine W.kat_cons (wpAny_eqBool_int ?_);rw[HT.lexLt_cons]at q;have k:decide ((Value.int n t::vs).length<(Value.int m u::f).length)=decide (vs.length<f.length):=by simp
  rw[k];refine W.kat_go (λe=>W.kat_yes ?_) λe=>W.kat_no ?_
  .rw[if_pos (by simpa using e)]at q;exact De (i+1) h j q
  .rw[if_neg (by simpa using e)]at q;cases b&&i==0 with
   |true=>exact oneLt_int q
   |false=>exact W.kat_one _ _ (lt_int q)
theorem Df:∀{vs},(∀v∈vs,TupI h v)->∃fs,W.KatTups h vs fs/\fs.length=vs.length/\∀f∈fs,∃n t,f=Value.int n t
 |[],_=>#[[],.nil,rfl,λ_ h=>by cases h]
 |v::vs,d=>by
  obtain⟨fs,h1,h2,h3⟩:=Df λu g=>d u (bH _ g);obtain⟨a,b,ns,rfl,⟨o,i,j,n,k⟩,e,p⟩:=d v q0h;obtain⟨m,t,r,q⟩:∃m t r,b.toList=Value.int m t::r:=by
   generalize b.toList=l at e;cases e with
   |nil=>exact absurd rfl p
   |cons n t h=>exact#[n,t,_,rfl]
  refine#[.int m t::fs,.cons i j k (by rw[RP,q];rfl) h1,by simp[h2],λf c=>?_];rcases q0e.mp c with rfl |c
  .exact#[m,t,rfl]
  .exact h3 f c
theorem TupI.mono(k:∀b o,h.get? b=!o->d.get? b=!o)(t:TupI h v):TupI d v:=
 let⟨a,c,ns,e,⟨o,f,g⟩,i,j⟩:=t;#[a,c,ns,e,#[o,k _ _ f,g],i,j]
theorem kok_tups(hv:∀v∈vs,TupI h0 v):mD prog w h0 vs (rkH h0) (tuples' true) where
 kind:=λA E s Q kp h2 q=>by obtain⟨fs,h1,h3,h4⟩:=Df λv hv'=>(hv v hv').mono kp;refine W.kat_kind (T:=.type "int") h1 'b' (λf hf=>?_) 'd' q;obtain⟨n,t,rfl⟩:=h4 f hf;exact .now
 lt:=λA E s Q x y kp hx hy q=>by obtain⟨a,its,ns,rfl,⟨o,e1,e2,k,e3⟩,t2,t3,r1⟩:=(hv x hx).rnk;obtain⟨b,jts,ms,rfl,⟨o',e1',e2',k',e3'⟩,t2',t3',r2⟩:=(hv y hy).rnk;rw[r1,r2]at q;apply W.kat_lt (kp _ _ e1) e3 (kp _ _ e1') e3';have:=De (prog:=prog) (w:=w) (A:=A) (b:=true) 0 t2 t2' q;simpa using this
theorem RV{α β:Type}{f:α->β}{l m}(h:l.Perm m):∀{ts},m=ts.map f->∃a:List α,a.Perm ts/\a.map f=l:=by
 induction h with
 |nil=>
  intro ts e;cases ts with
  |nil=>exact#[[],.nil,rfl]
  |cons _ _=>cases e
 |cons x _ d=>
  intro ts e;cases ts with
  |nil=>cases e
  |cons t ts=>simp only[q0d,q2U]at e;obtain⟨a,h1,h2⟩:=d e.2;exact#[t::a,h1.cons t,by rw[q0d,h2,e.1]]
 |swap x y l=>
  intro ts e
  match ts,e with
  |[],e=>cases e
  |[_],e=>cases e
  |t::u::ts,e=>simp only[q0d,q2U]at e;exact#[u::t::ts,.swap t u ts,by simp[e.1,e.2.1,e.2.2]]
 |trans _ _ b c=>intro ts e;obtain⟨j,h1,h2⟩:=c e;obtain⟨g,h3,i⟩:=b h2.symm;exact#[g,h3.trans h1,i]
theorem Paired.zipAll:∀{a:List α}{b},Paired R a b->∀p∈a.zip b,R p.1 p.2:=by
 intro a b h
 induction h with
 |nil=>exactλp h=>by cases h
 |cons r _ c=>
  intro p h;rw[q1I]at h;rcases q0e.mp h with rfl |h
  .exact r
  .exact c p h
theorem Paired.ofZip:∀{a:List (α×β)},(∀p∈a,R p.1 p.2)->Paired R (a.map (·.1)) (a.map (·.2))
 |[],_=>.nil
 |z::a,h=>.cons (h z q0h) (Paired.ofZip λp b=>h p (bH _ b))
def RowV(K:Frag)(H:Hp):Bool->V->List Int->Prop
 |false,v,r=>∃i,v=.int i/\r=[i]
 |true,v,r=>∃a,v=.ref a/\dX K H a (r.map V.int)/\r≠[]
def rSortedP(P:Nat->Prop)(K:Frag):List V->Hp->VK->Prop:=λd H Q=>∃p a rows b,P a.length/\d=[.ref p]/\cG K H p a/\Paired (RowV K H b) a rows/\
 ∀(l:Addr) (c:List (V×List Int)),H l=none->c.Perm (a.zip rows)->c.map (·.2)=sortR rows->Q (.ref l) (aL H l (.lst (c.map (·.1))))
theorem RW(R:∀n,P n->mC n):eX X (.builtin "sorted") (rSortedP P X.K):=by
 intro U s Y H xs us Q I r h;obtain⟨p,B,rows,b,hP,rfl,hq,hr,q⟩:=h;obtain⟨u,rfl,rx⟩:=vals1 r;cases rx;obtain⟨C,M,pl,hz⟩:=I.list hq;have D:=M.length;have key:∀(y:V) (v:Value) (row:List Int),aX y v->RowV X.K H b y row->rkH s.heap v=row/\(b=true->TupI s.heap v)/\(b=false->∃n t,v=.int n t):=λy v row rel Z=>by
  cases b with
  |false=>obtain⟨i,rfl,rfl⟩:=Z;obtain⟨t,rfl⟩:=rel;exact#[rfl,(λz=>by cases z),λ_=>#[i,t,rfl]]
  |true=>
   obtain⟨a,rfl,sq,ne⟩:=Z;cases rel;obtain⟨E,rj,tj,_⟩:=I.tuple sq;have ia:IntsAre E row:=L3.ints_are rj;have T:TupI s.heap (.ref a):=#[a,E.toArray,row,rfl,tj,by simpa using ia,ne]
   obtain⟨a',a0,a1,L,⟨o,q1,q2,n,q3⟩,e3,e4,e5⟩:=T.rnk;refine#[?_,λ_=>T,λz=>by cases z];obtain⟨o',G,p2,n',p3⟩:=tj;unfold rkH;simp only[G,p3];exact ia.nums
 have all:∀{B:List V}{vs:List Value}{rows:List (List Int)},bj B vs->Paired (RowV X.K H b) B rows->vs.map (rkH s.heap)=rows/\∀v∈vs,(b=true->TupI s.heap v)/\(b=false->∃n t,v=.int n t):=by
  intro B vs rows h1
  induction h1 generalizing rows with
  |nil=>intro S;cases S;exact#[rfl,λ_ h=>by cases h]
  |cons a _ ih=>
   intro S;cases S with
   |cons c d=>
    obtain⟨L,e2⟩:=ih d;have k:=key _ _ _ a c;refine#[by rw[q0d,L,k.1],λv m=>?_];rcases q0e.mp m with rfl |m
    .exact k.2
    .exact e2 v m
 obtain⟨J,j⟩:=all M hr;have x:∃κ,mD X.prog X.w s.heap C (rkH s.heap) κ:=by
  cases b with
  |false=>exact#[_,Dd λv m=>(j v m).2 rfl]
  |true=>exact#[_,kok_tups λv m=>(j v m).1 rfl]
 obtain⟨κ,x⟩:=x;refine RU (rk:=rkH s.heap) pl.isList 'b' (R _ (by rw[<-D];exact hP)) x λA h' n G p2 kp e=>?_;obtain⟨g,t1,t2⟩:=RV (f:=λt:V×Value=>t.2) G (ts:=B.zip C) (by rw[List.map_snd_zip 'b']);have rel:∀t∈g,aX t.1 t.2:=λt ht=>Paired.zipAll M t (t1.mem_iff.mp ht);have l:bj (g.map (·.1)) A:=by
  have:=Paired.ofZip (R:=aX) rel
  rwa [t2]at this
 have lz:(g.map (·.1)).length<=sizeLine:=by rw[l.length,G.length_eq];lia
 have N:(g.map λt=>(t.1,rkH s.heap t.2)).Perm (B.zip rows):=by
  have:=t1.map λt:V×Value=>(t.1,rkH s.heap t.2)
  refine this.trans (.of_eq ?_);rw[<-J,List.zip_map_right];rfl
 have O:(g.map λt=>(t.1,rkH s.heap t.2)).map (·.2)=sortR rows:=by
  have L:(g.map λt=>(t.1,rkH s.heap t.2)).map (·.2)=A.map (rkH s.heap):=by rw[<-t2];simp
  rw[L];refine sortR_of ?_ ?_
  .rw[<-J];exact G.map _
  .rw[q0U];exact p2
 have fin:=q (s.heap.objs.size+1) _ (I.hok.fresh (q1u _)) N O;have e3:(g.map λt=>(t.1,rkH s.heap t.2)).map (·.1)=g.map (·.1):=by simp
 rw[e3]at fin;exact#[.ref (s.heap.objs.size+1),_,I.laid (t':=s.toks) kp (q1u _) (show cy X.prog X.w _ h' _ (.lst (g.map (·.1))) from#[lz,A,n,l,e]),rfl,fin]
abbrev rSortedS:=rSortedP λn=>n<64
theorem call_sortedS:eX X (.builtin "sorted") (rSortedS X.K):=RW λn h=>runs_few h
end L2.TS
namespace L2.L3
open PySem PySem.Spec PyProof.Rows
noncomputable def fx(c:List Int):List Int:=c.mergeSort λa b=>decide (a<=b)
def mE(a:List PyData):Option (List PyData):=match fu a with
 |some ns=>some ((fx ns).map PyData.int)
 |none=>(match gO a with
  |some rows=>if rows.all (λr=>not r.isEmpty)=true then some ((TS.sortR rows).map λr=>.tuple (r.map PyData.int)) else none
  |none=>none)
def xN:List PyData->Option PyData:=λa=>match a with
 |[.list ds]=>(mE ds).map PyData.list
 |_=>none
theorem RX(d):(TS.sortR (d.map λn=>[n])).map (λr=>r.headD 0)=fx d:=by
 have p:=(TS.sortR_perm (d.map λn=>[n])).map (λr=>r.headD 0);have e:(d.map λn=>[n]).map (λr=>r.headD 0)=d:=by rw[q0z];exact(q0P λn _=>rfl).trans (List.map_id d)
 rw[e]at p;refine q1S (λa b _ _ f g=>by lia) ?_ (q1p (λa b c f g=>by lia) (λa b=>by lia) d) (p.trans (q1v _ _).symm);rw[q0U];refine q1l (λ{x y} i j h=>?_) (q1p TS.lexLe_tr TS.lexLe_tt _);obtain⟨a,_,rfl⟩:=q0D.mp ((TS.sortR_perm _).mem_iff.mp i);obtain⟨b,_,rfl⟩:=q0D.mp ((TS.sortR_perm _).mem_iff.mp j);refine decide_eq_true (show a<=b from ?_);unfold TS.lexLe at h;rw[HT.lexLt_cons]at h
 by_cases e:b=a
 .exact Int.le_of_eq e.symm
 .rw[if_neg e]at h
  by_cases k:b<a
  .simp[k]at h
  .omega
theorem RY:∀{c}{rows:List (List Int)},aH G c (rows.map mk)->Paired (λy r=>DV G y (mk r)) c rows:=by
 intro c rows
 induction rows generalizing c with
 |nil=>intro h;cases h;exact .nil
 |cons r rows d=>intro h;cases h with
  |cons a b=>exact .cons a (d b)
theorem RZ:∀{b}{rows:List (List Int)},Paired (λy r=>DV G y (mk r)) b rows->aH G b (rows.map mk):=by
 intro b rows h
 induction h with
 |nil=>exact .nil
 |cons a _ c=>exact .cons a c
theorem Sa{K}(x:P f.length)(A:∀p,H p=none->p∉O)(u:au O H a=!.lst f)(B:aH (au O H) f j)(e:(mE j).map PyData.list=!d)(q:∀v m,bI H m->DV (au O m) v d->Q v m):TS.rSortedP P K [.ref a] H Q:=by
 have sq:cG K H a f:=.of (cR u).1;have go:∀(b:Bool) (mk:List Int->PyData) (rows:List (List Int)),j=rows.map mk->(∀y r,r∈rows->DV (au O H) y (mk r)->TS.RowV K H b y r)->d=.list ((TS.sortR rows).map mk)->TS.rSortedP P K [.ref a] H Q:=λb mk rows C D E=>by
  subst C;have pr:=RY B;have o:Paired (TS.RowV K H b) f rows:=by
   clear sq u;have:∀{f:List V}{k:List (List Int)},(∀r∈k,r∈rows)->Paired (λy r=>DV (au O H) y (mk r)) f k->Paired (TS.RowV K H b) f k:=by
    intro f k w p
    induction p with
    |nil=>exact .nil
    |cons c _ G=>exact .cons (D _ _ (w _ q0h) c) (G λr g=>w r (bH _ g))
   exact this (λ_ h=>h) pr
  refine#[a,f,rows,b,x,rfl,sq,o,λl I s J L=>?_];subst E;refine q _ _ (bA s) (ir s (A l s) ?_);have:=RZ (TS.Paired.ofZip (λz N=>TS.Paired.zipAll pr z (J.mem_iff.mp N)))
  rwa [L]at this
 unfold mE at e;cases h2:fu j with
 |some ns=>
  rw[h2]at e;simp only[q1A,q08]at e;refine go false (λr=>.int (r.headD 0)) (ns.map λn=>[n]) (by rw[qu h2];simp) (λy r g t=>?_) ?_
  .obtain⟨n,_,rfl⟩:=q0D.mp g;exact#[n,t.int_inv,rfl]
  .rw[<-e,<-RX,q0z];rfl
 |none=>
  rw[h2]at e;cases h3:gO j with
  |none=>rw[h3]at e;cases e
  |some rows=>
   rw[h3]at e;dsimp only at e;split at e
   .rename_i i;simp only[q1A,q08]at e;refine go true (λr=>.tuple (r.map PyData.int)) rows (ou h3) (λy r g t=>?_) e.symm;obtain⟨b,T,rfl,hb,S⟩:=t.tup_inv;rw[qv S]at hb;refine#[b,rfl,.inl (gc hb).1,λz=>?_];have:=q0O.mp i r g;rw[z]at this;cases this
   .cases e
def mF:List PyData->Option PyData:=λa=>match a with
 |[.list ds]=>if ds.length<64 then(mE ds).map PyData.list else none
 |_=>none
def Dg:DN:=λa Q=>∃d,mF a=!d/\Q d
theorem Dh{K}:iw (TS.rSortedS K) Dg where
 mn:=λ_ _ _ k zq1a=>by obtain⟨d,e,q⟩:=zq1a;exact#[d,e,k _ q]
 ok:=λO H vs xs Q hO hd q=>by
  obtain⟨d,e,q⟩:=q;obtain⟨ds,rfl,hl,e⟩:∃ds,xs=[.list ds]/\ds.length<64/\(mE ds).map PyData.list=!d:=by
   unfold mF at e;split at e
   .split at e
    .rename_i h;exact#[_,rfl,h,e]
    .cases e
   .cases e
  obtain⟨x,rfl,h1⟩:=gi hd;obtain⟨a,ys,rfl,ha,hy⟩:=h1.lst_inv;exact Sa (by rw[hy.length];exact hl) hO ha hy e q
theorem Di:FN Dg mF:=λa d Q e q=>#[d,e,q]
noncomputable def fR(U:ak)(i:Nat):Option (Bool×eQ):=match U[i]? with
 |some (!.own _ (.m b a))=>some (b,a)
 |some (!.vw (.m b a))=>some (b,a)
 |_=>none
theorem aD.dic{K}(st:aD K F H Y U O)(e:fR U i=!(d,b)):∃a,Y[i]? = !!.ref a/\iq (au O H) H a d b:=by
 unfold fR at e;split at e
 .rename_i h;cases e;obtain⟨a,g,c,⟨_,hd⟩,_,_⟩:=st.box h;exact#[a,c,hd]
 .rename_i h;cases e;obtain⟨a,g,c,⟨_,hd⟩⟩:=st.view h;refine#[a,c,hd.keep ?_ λ_ _ z=>z];obtain⟨o,f,_⟩:=hd.live;rw[f,(cR f).1]
 .cases e
def tN(i:Nat)(d:PyData):XM PyData:=λU=>lift (match fR U i with
 |some (g,f)=>(gJ g d).bind λk=>et g f k
 |none=>none) U
def ox(i:Nat)(m:XM PyData):XM PyData:=λU=>match fR U i with
 |some _=>(m U).bind (tN i)
 |none=>.bad
theorem Dj(I:X.A.units+1<cLine)(J:PE X (.Name x D) (cu i))(L:FE X F E e m)(M:pH e:=by intro _ _;rfl):FE X F E (.Subscript (.Name x D) e pos) (ox i m):=
 #[aE,(AD I J L.pe M).imp λY H Q h=>by
  obtain⟨U,O,st,q⟩:=h;unfold wp ox at q;cases z:fR U i with
  |none=>rw[z]at q;exact q.elim
  |some p=>
   rw[z]at q;obtain⟨B,j⟩:=p;obtain⟨N,l,_⟩:=st.dic z;refine#[_,l,U,O,st,aE _ _ _ (λd C R w S T n Z d1=>?_) (bK q)];obtain⟨y,t,q2⟩:=cJ R;cases f:fR C i with
   |none=>rw[f]at t;cases t
   |some p=>
    obtain⟨a1,G⟩:=p;rw[f]at t;obtain⟨k,e2,u⟩:=q0K.mp t;obtain⟨a,s,hd⟩:=n.dic f;rw[l]at s;cases s;obtain⟨o,g,r⟩:=xh hd kh d1 e2;rcases r with⟨rfl,e⟩ |⟨v,x,rfl,e,hx⟩
    .rw[e]at u;cases u
    .rw[e]at u;cases u;exact#[N,v,rfl,g,q2 v S T n Z hx]]
end L2.L3
namespace L2.TS
open PySem PyProof.Rows PySem.W
theorem sorted_src(K:KdlSrc prog w T r d n P OK)(G:A.handled=none)(z:OK s.heap)(C:n<=sizeLine)(R:mC n)
  (h:∀i  p  vs,(∀b o,s.heap.get? b=!o->i.get? b=!o)->vs.length=n->(∀j  v,vs[j]? = !v->P j v)->∃l κ,mD prog w i vs l κ/\
   ∀(c:List Value)  B  m,c.Perm vs->c.Pairwise (λx y=>lexLe (l x) (l y)=true)->(∀b o,i.get? b=!o->B.get? b=!o)->B.get? i.objs.size=!seqObj "list" c.toArray m->Q (.ref i.objs.size) { s with heap:=B,toks:=p }) :
  wpAny (model prog w) A (call (.builtin "sorted") [.ref r]) Q E s:=by
 apply Calls.call_function_entry kind_sorted plain_sorted entry_sorted (args_sorted1 _);refine aa (ao (aa (kdu_collect K G z C λg p a H f=>?_)));have t:a.toList.length=n:=by rw[q0s];exact f.1
 have D:a.toList.length<=sizeLine:=by rw[t];exact C
 obtain⟨l,κ,k,fin⟩:=h g p a.toList H t λj v e=>f.2 j v (by rw[<-q0B];exact e);refine aa (wpAny_newList ?_ D);have dS:(g.push (seqObj "list" a.toList.toArray 0)).get? g.objs.size=!seqObj "list" a.toList.toArray 0:=Heap.get?_push_size _ rfl;have hb:∀b o,g.get? b=!o->b≠g.objs.size/\(g.push (seqObj "list" a.toList.toArray 0)).get? b=!o:=λb o e=>#[q0q (bo e),aK _ e]
 refine aa (wpAny_holding (wpAny_call_entry slot_list_sort #[_,dS,rfl] entry_list_sort (qC dS D (by rw[t];exact R) k hb λc I J=>#[_,rfl,?_]) (args_list_sort _)));refine ao #[_,rfl,?_];obtain⟨u,ic⟩:∃u,((g.push (seqObj "list" a.toList.toArray 0)).update g.objs.size (Obj.mapSeq λ_=>#[])).get? g.objs.size=!seqObj "list" #[] u:=#[_,get?_update_seq dS λ_=>#[]]
 refine fin c _ _ I J (λb o e=>?_) (get?_update_seq (aK _ (aK _ ic)) λ_=>c.toArray);have q:=hb b o e;unfold sortedHeap;rw[Heap.get?_update_ne _ _ _ _ q.1];refine aK _ (aK _ ?_);rw[Heap.get?_update_ne _ _ _ _ q.1];exact q.2
end L2.TS
namespace L2.L3
open PySem PySem.Spec PyProof.Rows PySem.W
theorem Sb{K}(st:aD K F H Y U O)(e:fR U i=!(false,b)):∃a c,Y[i]? = !!.ref a/\H a=!.dK c/\Paired (λ(p:aQ×V) (q:PyData×PyData)=>gA p.1=q.1/\DV (au O H) p.2 q.2) c b:=
 let⟨a,d,c,h1,h2⟩:=st.dic e;#[a,c,d,h1,h2]
theorem tO:∀a:List Int,aH G (a.map V.int) (a.map PyData.int)
 |[]=>.nil
 |n::a=>.cons (.int n) (tO a)
end L2.L3
namespace L2.L3
open PySem PySem.Spec PyProof.Rows
noncomputable def fy(a:List Str):List PyData:=a.map PyData.str
def qD(K:Frag)(g:Addr)(b:List Str):Prop:=
 ∃(o:Obj) (a:Array Value) (n:Nat),K.lookup g=!o/\o.cls=.type "tuple"/\o.data=.seq a n/\a.size<=sizeLine/\bj (b.map V.str) a.toList
theorem qD.sq{K}(h:qD K g a)(H):dX K H g (a.map V.str):=.inr h
theorem Sc{K}(h:qD K g ws):Wk O H (rS K g) (fy ws):=λm c s ok=>by
 refine#[λi d e=>?_,#[_,h.sq c,by simp[fy]]];unfold fy at e;rw[q0k]at e;obtain⟨y,j,rfl⟩:=q0g.mp e;have f:(ws.map V.str)[i]? = !.str y:=by rw[q0k,j];rfl
 refine#[#[_,_,h.sq c,f],λx b a=>?_];obtain⟨k,l⟩:=a;subst k;have:=l _ (h.sq b);rw[f]at this;cases this;exact#[λ_ _ h=>h,.str _]
@[simp]noncomputable def iC(a:List PyData):XM (List PyData):=λU=>.ok a U
theorem Sd(b:Gl X x)(c:X.mg x=!.ref g)(h:qD X.K g ws)(hd:autoParam ((x==("__debug__":Str))=false) Zr._auto_1):FI X F E tg (.Name x pos) (iC (fy ws)):=
 #[aE,(zN (rP (v:=.ref g) b c rfl hd)).imp λY H R a=>by obtain⟨U,O,st,q⟩:=a;exact#[g,rfl,#[_,h.sq H],q _ H O st (.refl ..) (Sc h)]]
def Dk(X:Cx)(d:Addr)(b:List (Str×Int)):Prop:=(d==sysModules)=false/\∃(a:List (Str×Value)) (c:Nat),
 (∀h:Heap,X.K.In h->h.DictAt (strKind X.prog X.w) d a c)/\a.map (·.1)=b.map (·.1)/\∀k n,b.lookup k=!n->∃t,valueAt a k=!.int n t
noncomputable def oy(ws:List Str):It:=⟨λi _=>i<ws.length,λi H x a=>a = H/\∃k,ws[i]? = !k/\x=.str k,λi _=>ws.length<=i⟩
theorem Se{K}(it)(hD:∀h,K.In h->h.DictAt (strKind P w) d kvs ep) :
  gW P w K tg (oy (kvs.map (·.1))) [it] it (λi h=>h.IsKeyIter it d i kvs.length ep) where
 mem:=by simp
 obj:=λi h st b hb=>by
  have e:=by simpa using hb
  subst e;obtain⟨o,e,c,dd⟩:=st;exact#[o,e,λv z=>by rw[dd]at z;cases z]
 keep:=λi h h' st k=>by obtain⟨o,e,c,dd⟩:=st;exact#[o,k it 'c' o e,c,dd]
 item:=by
  intro X hP hw hK hc i pins s Y H E I hf st hg;subst hP hw hK;have hi:=by simpa[oy] using hg
  obtain⟨⟨k,x⟩,hx⟩:∃p,kvs[i]? = !p:=#[kvs[i],by simp]
  obtain⟨f0,f1,f2,f3,f4,f5⟩:=hf it 'c';refine wpAny_pyNext_dict_item st (hD _ I.kIn) hx λkey h' hkey hit' sb=>?_;obtain⟨t,rfl⟩:=Value.isStrOf_shape hkey;obtain⟨o,e,c,dd⟩:=id hit';exact#[_,rfl,rR e c dd 'd' #[.str k,H,(I.turned (λb o hb e=>(sb.2 b hb).trans e) f0 f1 f3 f4 f5),#[t,rfl],#[rfl,k,by simp[hx],rfl],hit',λb hb=>(hf b hb).1]]
 done:=by
  intro X hP hw hK hc i pins s Y H E I hf st hg;subst hP hw hK;have hi:=by simpa[oy] using hg
  obtain⟨f0,f1,f2,f3,f4,f5⟩:=hf it 'c';exact wpAny_pyNext_dict_end (I.ok.hd hc) st (hD _ I.kIn) (by simp;lia) λh' eb=>#[rfl,I.turned (λb o hb e=>eb b o hb e) f0 f1 f3 f4 f5]
 self:=λ_ _ _ _ _ st h=>wpAny_pyIter_keyiter st h
theorem Sf:Wk O H (oy ws) (fy ws):=λl m s ok=>by refine#[λi d e=>?_,by simp[oy,fy]];unfold fy at e;rw[q0k]at e;obtain⟨y,a,rfl⟩:=q0g.mp e;refine#[(q0a.mp a).1,λx c ⟨f,k,b,j⟩=>?_];subst f j;rw[a]at b;cases b;exact#[λ_ _ h=>h,.str _]
theorem Sg(m:(d==sysModules)=false)(n:Gl X x)(p:X.mg x=!.ref d)(k:∀h,X.K.In h->h.DictAt (strKind X.prog X.w) d a l)(hd:autoParam ((x==("__debug__":Str))=false) Zr._auto_1) :
  PI X tg (.Name x pos) (λ_ H R=>R (oy (a.map (·.1))) H):=by
 refineλc s Y H R I h=>aR (rP (v:=.ref d) n p rfl hd c s Y H (λv j=>v=.ref d/\j=H) I #[rfl,rfl]) λv i f=>?_;obtain⟨y,j,I1,q,r,t⟩:=f;subst r t;cases q;apply wpAny_pyIter_dict m (k _ I1.kIn);refine#[i.heap.objs.size,[i.heap.objs.size],_,_,j,rfl,I1.kept λb o e=>aK _ e,Se _ k,#[_,Heap.get?_push_size _ rfl,rfl,rfl],λb u=>?_,h];have e:=by simpa using u
 subst e;exact I1.fpOk (aP _) (I1.hok.fresh (aP _))
theorem Si(b:Gl X x)(c:X.mg x=!.ref d)(f:Dk X d kd)(hd:autoParam ((x==("__debug__":Str))=false) Zr._auto_1):FI X F E tg (.Name x pos) (iC (fy (kd.map (·.1)))):=by obtain⟨h,i,j,h1,h2,_⟩:=f;refine#[aE,(Sg h b c h1 hd).imp λY H R a=>?_];obtain⟨U,O,st,q⟩:=a;rw[h2];exact q _ H O st (.refl ..) Sf
noncomputable def xO(a:List (Str×Int)):PyData->Option PyData
 |.str k=>(a.lookup k).map PyData.int
 |_=>none
@[simp] def Dl(a:List (Str×Int))(m:XM PyData):XM PyData:=λU=>(m U).bind λd=>lift (xO a d)
theorem Sj{pos:Pos}{p1:Pos}(B:Gl X x)(C:X.mg x=!.ref d)(D:Dk X d kd)(G:FE X F E e m)(J:pH e:=by intro _ _;rfl)(hd:autoParam ((x==("__debug__":Str))=false) Zr._auto_1):FE X F E (.Subscript (.Name x p1) e pos) (Dl kd m):=by
 obtain⟨L,M,ep,h1,h2,h3⟩:=D;refine#[aE,λa s Y H Q I b=>?_];obtain⟨U,O,st,q⟩:=b;refine AC PySem.F.slot_dict_getitem.lookup J (aR (rP (v:=.ref d) B C rfl hd a s Y H (λv i=>v=.ref d/\i=H) I #[rfl,rfl]) λu N c=>?_);obtain⟨y,i,I1,R,j,S⟩:=c;subst j S;cases R;refine aR (G.pe a N Y i (λv f=>∃k n,v=.str k/\kd.lookup k=!n/\Q (.int n) f) I1 #[U,O,st,aE _ _ _ (λo U1 j w f T l p Z=>?_) (bK q)]) λiv p ⟨z,f,A,rz,k,n,ez,el,qz⟩=>?_
 .obtain⟨r,h,q3⟩:=cJ j;unfold xO at h;split at h
  .rename_i k;obtain⟨n,e2,e3⟩:=q0g.mp h;subst e3;cases Z;exact#[k,n,rfl,e2,q3 _ f T l p (.int _)]
  .cases h
 .subst ez;obtain⟨t,rfl⟩:=(rz)
  have o:=h1 _ A.kIn;obtain⟨t',hv⟩:=h3 k n el;refine#[o.dictOf.typeIs,wpAny_getItem_of ?_ o.dictOf.mapOf hv #[.int n,f,A.tok _,#[t',rfl],qz]];show Value.isStrOf k (.str k t)=true;simp[Value.isStrOf]
@[simp]noncomputable def xP(i j:Nat)(n:Int)(c:af):SM:=λd=>if i<d.length then(match c with |.own true _=>.bad |c=>.nx ((d.set i (!c)).set j (!.dat (.int n)))) else .bad
@[simp] def Dm(i j:Nat)(n:Int)(m:XM af):SM:=λU=>dE (m U) (xP i j n)
theorem Sk{pos }(B:X.calm=true)(C:X.N.Nodup)(G:X.N[i]? = !x)(I:X.N[j]? = !y)(t:i≠j)
  (J:X.env.scope.names.lookup x=!.local) (L:X.env.scope.names.lookup y=!.local) (A:FO X F E a m)
  (M:autoParam (swappedStores [.Tuple [.Name x o,.Name y py] p pt] (.Tuple [a,.Constant (.int n) l h] s lK) X.env=pure (![x,y])) Zq._auto_1)
  (Q:autoParam (swapsWithSole [.Tuple [.Name x o,.Name y py] p pt] (.Tuple [a,.Constant (.int n) l h] s lK) pos.line X.env=pure false) Zq._auto_1)
  (h1:autoParam (starEach [a,.Constant (.int n) l h] X.env=(false,eval a X.env)::starEach [.Constant (.int n) l h] X.env) Zq._auto_1) (h2:autoParam (starEach [.Constant (.int n) l h] X.env=(false,eval (.Constant (.int n) l h) X.env)::starEach [] X.env) Zq._auto_1) :
  FS X F E (.Assign [.Tuple [.Name x o,.Name y py] p pt] (.Tuple [a,.Constant (.int n) l h] s lK) pos) (Dm i j n m):=
 (Ks B C G I t J L (dJ A.pe (dJ rO eB h2) h1) M Q).imp λD Y H R=>by
 obtain⟨U,O,S,st,q,f⟩:=R;exact#[U,O,st,A.mn _ _ _ (λc u e v T O1 fp r Z=>by
  have q1:i<u.length/\(∀b,c≠.own true b)/\S.nx ((u.set i (!c)).set j (!.dat (.int n))):=by
   unfold wpS xP at e
   by_cases g:i<u.length
   .simp only[if_pos g]at e;cases c with
    |own io b=>cases io with
     |true=>exact e.elim
     |false=>exact#[g,(λ_ z=>by cases z),e]
    |dat d=>exact#[g,(λ_ z=>by cases z),e]
    |scr d=>exact#[g,(λ_ z=>by cases z),e]
    |exc d=>exact#[g,(λ_ z=>by cases z),e]
    |vw d=>exact#[g,(λ_ z=>by cases z),e]
   .simp only[if_neg g]at e
  obtain⟨g,hn,q2⟩:=q1;obtain⟨O2,w,s2⟩:=aD.put1 (io:=true) r.st r.at_ r.new g (λb z=>absurd z (hn b));exact#[v,.int n,rfl,f.nx _ T _ O2 (w.set (.int n)) (Z.trans s2) q2]) (fN q)]
end L2.L3
namespace L2.L3
open PySem
theorem Sl(e:c "ANY_ZONE" = none)(f:c "NO_DEEDS" = none)(H):GH c H:=λx d u a b=>by
 unfold glob at a;split at a
 .rename_i h;subst h;rw[e]at b;cases b
 .split at a
  .rename_i h;subst h;rw[f]at b;cases b
  .cases a
end L2.L3
namespace L2.L3
open PySem PySem.Spec PyProof.Rows
def Dn(P:Program)(w:World)(K:Frag)(d:Addr)(b:List (Str×Int)):Prop:=(d==sysModules)=false/\∃(a:List (Str×Value)) (c:Nat),
 (∀h:Heap,K.In h->h.DictAt (strKind P w) d a c)/\a.map (·.1)=b.map (·.1)/\∀k n,b.lookup k=!n->∃t,valueAt a k=!.int n t
structure tP where
 k:Str
 n:Int
 t:Tok
 u:Tok
noncomputable def xQ(w:World)(e:tP):DictEntry:=#[hashStr w e.k,.str e.k e.t,.int e.n e.u]
theorem Do:∀L:List tP,Pairs (strKind P w) (L.map (xQ w)) (L.map λe=>(e.k,Value.int e.n e.u))
 |[]=>.nil
 |e::L=>.cons (by show Value.isStrOf e.k (.str e.k e.t)=true;simp[Value.isStrOf]) rfl (Do L)
theorem Dp:∀(L:List tP)  k  n,(L.map λe=>(e.k,e.n)).lookup k=!n->∃t,valueAt (L.map λe=>(e.k,Value.int e.n e.u)) k=some (.int n t)
 |[],k,n,e=>by cases e
 |e::L,k,n,h=>by
  rw[q0d,q0t]at h
  by_cases q:k=e.k
  .subst q;simp at h;subst h;exact#[e.u,by simp[valueAt]]
  .have:(k==e.k)=false:=by simpa using q
   rw[this]at h;obtain⟨t,a⟩:=Dp L k n h;refine#[t,?_];rw[<-a];unfold valueAt;rw[q0d,List.find?_cons_of_neg (by simpa using λz=>q z.symm)]
theorem Sm{K}(L:List tP)(b:K.lookup d=!#[.type "dict",none,.dict (L.map (xQ w)).toArray a,#[]])(g:(L.map (·.k)).Nodup)(c:(d==sysModules)=false):Dn P w K d (L.map λe=>(e.k,e.n)):=by
 refine#[c,L.map λe=>(e.k,Value.int e.n e.u),a,λh X=>#[_,_,X _ _ b,#[rfl,rfl,rfl],rfl,?_,by simpa using Do L,by simpa[Function.comp_def] using g],by simp,Dp L];intro e f;obtain⟨x,_,rfl⟩:∃x∈L,xQ w x=e:=by simpa using f
 exact#[x.k,by show Value.isStrOf x.k (.str x.k x.t)=true;simp[Value.isStrOf],rfl]
end L2.L3
namespace L2
open PySem PySem.Spec PyProof.Rows
theorem Sn(B:X.calm=true):eX X (.builtin "any") (λk H Q=>∃(l:Addr) (bs:List Bool),k=[.ref l]/\H l=!.lst (bs.map V.bl)/\Q (.bl (bs.any id)) H):=by
 intro m s Y H k O Q I r h;obtain⟨l,bs,rfl,C,q⟩:=h;obtain⟨u,rfl,ru⟩:=vals1 r;cases ru;obtain⟨z,a,n,p,e⟩:=I.hok _ _ C;have L:s.heap.IsList l a.toArray:=#[_,e,rfl,_,rfl]
 have c:=bo e;have len:=p.length;rw[q0b]at len;refine call_any_walk (wpAny_pyIter_list L (#[s.heap.objs.size,_,_,_,_,_,λi=>bs.getD i false,rfl,Walks.list (A:=X.A.in1) (I.ok.hd B) s.heap.objs.size l (q0q c) a.toArray,#[#[_,Heap.get?_push_size _ rfl,rfl,rfl],L.push _],?_,λR S D=>?_]))
 .intro i v E G T J g;have d:=by simpa using J
  have c:i<bs.length:=by rw[len];exact(q0a.mp d).1
  obtain⟨w,t,j⟩:=p.get (by rw[q0k,q0c c];rfl);rw[d]at t;cases t;cases j;apply wpAny_truthy_bool;have:bs.getD i false=bs[i]:=by simp[c]
  have g:G (bs.getD i false) E:=g;rw[this]at g;exact g
 .have M:(List.range a.toArray.size).any (λi=>bs.getD i false)=bs.any id:=by
   rw[q0m,<-len,q2k,List.any_eq_true,List.any_eq_true];constructor
   .rintro⟨i,d,h⟩;have f:=q1d.mp d;exact#[bs[i],q1x f,by simpa[f] using h]
   .rintro⟨b,hb,h⟩;obtain⟨i,d,rfl⟩:=List.getElem_of_mem hb;exact#[i,q1d.mpr d,by simpa[d] using h]
  rw[M];exact#[.bl (bs.any id),H,I.kept λb o y=>D b o (λN=>absurd (bo y) (by rw[q0o.mp N];exact q0E _)) (aK _ y),rfl,q]
end L2
namespace L2.L3
open PySem PySem.Spec PyProof.Rows
def Dq:DN:=λa Q=>∃bs:List Bool,a=[.list (bs.map .bool)]/\Q (.bool (bs.any id))
theorem So:iw (λxs H Q=>∃(l:Addr) (bs:List Bool),xs=[.ref l]/\H l=!.lst (bs.map V.bl)/\Q (.bl (bs.any id)) H) Dq where
 mn:=λ_ _ _ k zq1a=>by obtain⟨bs,e,q⟩:=zq1a;exact#[bs,e,k _ q]
 ok:=λO H vs xs Q hO hd zq2a=>by obtain⟨bs,e,q⟩:=zq2a;subst e;obtain⟨x,rfl,h1⟩:=gi hd;obtain⟨a,ys,rfl,ha,hy⟩:=h1.lst_inv;exact#[a,bs,rfl,by rw[(cR ha).1,wO hy],q _ H (λ_ _ h=>h) (.bl _)]
def mG:List PyData->Option PyData:=λa=>match a with
 |[.list ds]=>(bools? ds).map λbs=>.bool (bs.any id)
 |_=>none
theorem Sq:FN Dq mG:=λc d Q e q=>by
 unfold mG at e;split at e
 .obtain⟨bs,a,b⟩:=q0g.mp e;rw[wU a];subst b;exact#[bs,rfl,q]
 .cases e
end L2.L3
namespace L2.TS
open PySem PyProof.Rows PySem.W
section
variable{prog:Program}{w:World}{A:Around}{E:Value->Shared->Prop}{s:Shared}{r d:Addr}{κ':Type}[DecidableEq κ']{knd:PySem.KeyKind prog w κ'}{kvs:List (κ'×Value)}{ep:Nat}
theorem sorted_items(v:A.handled=none)(z:s.heap.IsItemsView r d)(B:s.heap.DictAt knd d kvs ep)(t:kvs.length<=sizeLine)(i:kvs.length<64)
  (h:∀c  j  as,(∀b o,s.heap.get? b=!o->c.get? b=!o)->as.length=kvs.length->KdxG knd kvs s.heap.objs.size c as->∃f κ,mD prog w c (as.map Value.ref) f κ/\
   ∀(a:List Value)  p  m,a.Perm (as.map Value.ref)->a.Pairwise (λx y=>lexLe (f x) (f y)=true)->(∀b o,c.get? b=!o->p.get? b=!o)->p.get? c.objs.size=!seqObj "list" a.toArray m->Q (.ref c.objs.size) { s with heap:=p,toks:=j }) :
  wpAny (model prog w) A (call (.builtin "sorted") [.ref r]) Q E s:=by
 apply Calls.call_function_entry kind_sorted plain_sorted entry_sorted (args_sorted1 _);refine aa (ao (aa (kdx_collect v z B t λg j as C l D=>?_)));have u:(as.map Value.ref).length<=sizeLine:=by rw[q0b,l];exact t
 obtain⟨f,κ,k,fin⟩:=h g j as C l D;refine aa (wpAny_newList ?_ u);have dS:(g.push (seqObj "list" (as.map Value.ref).toArray 0)).get? g.objs.size=!seqObj "list" (as.map Value.ref).toArray 0:=Heap.get?_push_size _ rfl;have hb:∀b o,g.get? b=!o->b≠g.objs.size/\(g.push (seqObj "list" (as.map Value.ref).toArray 0)).get? b=!o:=λb o e=>#[q0q (bo e),aK _ e]
 refine aa (wpAny_holding (wpAny_call_entry slot_list_sort #[_,dS,rfl] entry_list_sort (qC dS u (runs_few (by rw[q0b,l];exact i)) k hb λa G H=>#[_,rfl,?_]) (args_list_sort _)));refine ao #[_,rfl,?_];obtain⟨n,ic⟩:∃n,((g.push (seqObj "list" (as.map Value.ref).toArray 0)).update g.objs.size (Obj.mapSeq λ_=>#[])).get? g.objs.size=!seqObj "list" #[] n:=#[_,get?_update_seq dS λ_=>#[]]
 refine fin a _ _ G H (λb o e=>?_) (get?_update_seq (aK _ (aK _ ic)) λ_=>a.toArray);have q:=hb b o e;unfold sortedHeap;rw[Heap.get?_update_ne _ _ _ _ q.1];refine aK _ (aK _ ?_);rw[Heap.get?_update_ne _ _ _ _ q.1];exact q.2
end
end L2.TS
namespace L2
open PySem PySem.Spec PyProof.Rows
theorem Dr{Y:St}:∀(L:List (Addr×Int×Int)) {H},Inv X pins Y H s->(L.map (·.1)).Nodup->(∀x∈L,gV X pins H x.1/\∃t u n,s.heap.get? x.1=some { cls:=.type "tuple",data:=.seq [.int x.2.1 t,.int x.2.2 u].toArray n })->
  ∃a,Inv X pins Y a s/\bI H a/\(∀x∈L,a x.1=!.tup [.int x.2.1,.int x.2.2])/\∀b,b∉L.map (·.1)->a b=H b
 |[],H,I,_,_=>#[H,I,λ_ _ e=>e,λx j=>absurd j 'c',λ_ _=>rfl]
 |x::L,H,I,nd,h=>by
  obtain⟨k,l⟩:=q0V.mp nd;obtain⟨f,t,u,n,e⟩:=h x q0h;have I1:Inv X pins Y (aL H x.1 (.tup [.int x.2.1,.int x.2.2])) s:=I.track f #[by show 2<=sizeLine;decide,[.int x.2.1 t,.int x.2.2 u],.cons #[t,rfl] (.cons #[u,rfl] .nil),#[_,e,rfl,n,rfl]];obtain⟨a,J,i,m,p⟩:=Dr L I1 l λy c=>by obtain⟨g,r⟩:=h y (bH _ c);exact#[#[by rw[bw (λz=>k (q0D.mpr #[y,c,z]))];exact g.1,g.2],r]
  refine#[a,J,λb o q=>i b o (bA f.1 b o q),λy c=>?_,λb d=>?_]
  .rcases q0e.mp c with rfl |c
   .exact i _ _ cF
   .exact m y c
  .rw[q0d,q0e,not_or]at d;rw[p b d.2,bw d.1]
noncomputable def oz:Value->Addr
 |.ref b=>b
 |_=>0
theorem Ds:∀{a:List α}{b:List β},Paired R a b->∀{j:Nat}{y},b[j]? = !y->∃x,a[j]? = !x/\R x y
 |_,_,.nil,_,_,e=>by simp at e
 |_,_,.cons h t,0,y,e=>by simp at e;subst e;exact#[_,by simp,h]
 |_,_,.cons h t,j+1,y,e=>by obtain⟨x,h1,h2⟩:=Ds t (by simpa using e);exact#[x,by simpa using h1,h2]
theorem Dt:∀{a},(∀x∈a,R x (f x))->Paired R a (a.map f)
 |[],_=>.nil
 |x::a,h=>.cons (h x q0h) (Dt λy b=>h y (bH _ b))
theorem oA:∀a:List Addr,bj (a.map V.ref) (a.map Value.ref)
 |[]=>.nil
 |q::a=>.cons rfl (oA a)
theorem Sr{Y:St}{i:Nat}{pos:Pos}(I:Inv X pins Y H s)(g:X.N[i]? = !x)(h:lP X.env.scope x)(e:Y[i]? = !!v)(hd:autoParam ((x==("__debug__":Str))=false) Zr._auto_1)(d:autoParam ((x==("__classdict__":Str))=false) Zr._auto_1) :
  ∃u,aX v u/\∀E  Q,Q u s->wpAny (model X.prog X.w) X.A (eval (.Name x pos) X.env) Q E s:=by
 obtain⟨m,j,k⟩:=I.loc;obtain⟨u,r,l⟩:=k i x v g e h;refine#[u,r,λE Q fin=>?_];rcases l with⟨b,n⟩ |⟨b,c,f,a⟩
 .exact wpAny_Name (wpAny_loadName_local I.ok.kind b j n fin) hd
 .rcases b with b |b
  .exact wpAny_Name (wpAny_loadName_cell I.ok.kind b f a fin) hd
  .exact wpAny_Name (wpAny_loadName_free I.ok.kind b f a fin d) hd
def Ss(i:Nat):TE:=λY H Q=>∃(a:Addr) (d:List (Int×Int)),d.length<64/\Y[i]? = !!.ref a/\H a=!.dK (d.map λp=>(.inl p.1,.int p.2))/\
 ∀(p:Addr) (b:Hp) (c:List Addr),bI H b->H p=none->b p=!.lst (c.map V.ref)->(∀q∈c,H q=none)->Paired (λ(q:Addr) (row:List Int)=>b q=!.tup (row.map V.int)) c (TS.sortR (d.map λp=>[p.1,p.2]))->Q (.ref p) b
theorem Su{pos:Pos}{p D apos r}(hc:X.calm=true)(hg:Gl X "sorted")(hm:X.mg "sorted" = none)(hN:X.N[i]? = !x)(hv:lP X.env.scope x)(hd:autoParam ((x==("__debug__":Str))=false) Zr._auto_1)(a0:autoParam ((x==("__classdict__":Str))=false) Zr._auto_1)
  (O:autoParam (attributeBase (.Name x D) "items" X.env (eval (.Name x D) X.env)=eval (.Name x D) X.env) Zq._auto_1) (R:autoParam ((apos.endLine==r.line)=true) Zq._auto_1)
  (he:autoParam (starEach [.Call (.Attribute (.Name x D) "items" apos) [] [] r] X.env=(false,eval (.Call (.Attribute (.Name x D) "items" apos) [] [] r) X.env)::starEach [] X.env) Zq._auto_1) (a1:autoParam ((backTo pos (starEach [] X.env)).any (·.1)=false) Zq._auto_1) :
  PE X (.Call (.Name "sorted" p) [.Call (.Attribute (.Name x D) "items" apos) [] [] r] [] pos) (Ss i):=by
 rintro pins s Y H Q I ⟨a,ns,a2,ea,eH,q⟩;obtain⟨u,ru,ld⟩:=Sr (pos:=D) I hN hv ea hd a0;cases ru;obtain⟨hz,hS,vs,kv,dd⟩:=AA I.hok eH;obtain⟨ep,da⟩:=dd.dictAt;refine wpAny_Call_Name_kw (jX I hg hm (show bootBuiltins "sorted" = some (.builtin "sorted") by decide +kernel) ?_ 'd' 'd');refine PyProof.Rows.callWith_builtin1 ?_ he a1;rw[he];refine Calls.spliced_cons (wpAny_Call_items hS dd O R (λQ' h=>ld _ Q' h) ?_);refine Calls.spliced_nil ?_;have lv:vs.length=ns.length:=by have:=Paired.length kv;simpa using this.symm
 refine TS.sorted_items (knd:=ff X.prog X.w) (kvs:=vs) (ep:=ep) (d:=a) (I.ok.hd hc) #[_,Heap.get?_push_size _ rfl,rfl,rfl] (da.push _) (by rw[lv];simpa using hz) (by rw[lv];exact a2) λl tk as E hl Z=>?_;have item:∀(j:Nat) (b:Addr),as[j]? = !b->∃c g t u,ns[j]? = !(c,g)/\l.get? b=some { cls:=.type "tuple",data:=.seq [.int c t,.int g u].toArray }:=λj b e=>by
  obtain⟨key,k,y,G,A,e3⟩:=Z.pairs j b e;obtain⟨pv,e4,e5,e6⟩:=Ds kv G;rw[q0k]at e4;obtain⟨⟨c,g⟩,en,rfl⟩:=q0g.mp e4;obtain⟨u,hy⟩:=(show ∃t,y=Value.int g t from e6)
  have ek:(Sum.inl c:aQ)=k:=e5;subst ek;rcases ju (show lO (.inl c) key=true from A) with⟨n',t,e7,e8⟩ |⟨z,t,e7,e8⟩
  .cases e7;exact#[c,g,t,u,en,by rw[e3,e8,hy]]
  .cases e7
 have rk:∀(j:Nat) (b:Addr),as[j]? = !b->∃c g,ns[j]? = !(c,g)/\TS.rkH l (.ref b)=[c,g]:=λj b e=>by obtain⟨c,g,t,u,G,A⟩:=item j b e;exact#[c,g,G,by unfold TS.rkH;simp only[A];rfl]
 refine#[TS.rkH l,_,TS.kok_tups λv L=>?_,λB h2 m D p2 M dS=>?_]
 .obtain⟨b,n,rfl⟩:=q0D.mp L;obtain⟨j,hj⟩:=q1z n;obtain⟨c,g,t,u,G,A⟩:=item j b hj;exact#[b,_,[c,g],rfl,#[_,A,rfl,_,rfl],.cons c t (.cons g u .nil),by simp]
 .have mo:∀v∈B,v=.ref (oz v):=λv L=>by obtain⟨b,_,rfl⟩:=q0D.mp (D.mem_iff.mp L);rfl
  have eo:B=(B.map oz).map Value.ref:=by
   rw[q0z]
   conv=>lhs;rw[<-List.map_id B]
   exact q0P λv L=>mo v L
  have S:(B.map oz).Perm as:=by have:=D.map oz;rw[q0z]at this;exact this.trans (.of_eq (by simp[Function.comp_def,oz]))
  generalize B.map oz=C at eo S;subst eo;have I2:Inv X pins Y H { s with heap:=h2,toks:=tk }:=I.kept λb o e=>M b o (E b o (aK _ e));have big:∀b,s.heap.objs.size<=b->H b=none:=λb n=>I.hok.fresh n;have up:∀b∈C,s.heap.objs.size<=b/\b<l.objs.size:=λb n=>by
   have h':=S.mem_iff.mp n;have T:(s.heap.push { cls:=.type "dict_items",data:=.fields #[.ref a] }).objs.size<b:=Z.above b h';have a3:(s.heap.push { cls:=.type "dict_items",data:=.fields #[.ref a] }).objs.size=s.heap.objs.size+1:=by simp[Heap.push]
   rw[a3]at T;exact#[q1y (Nat.lt_of_succ_lt T),Z.there h']
  have val:∀b∈C,∃c g t u,TS.rkH l (.ref b)=[c,g]/\l.get? b=some { cls:=.type "tuple",data:=.seq [.int c t,.int g u].toArray }:=λb n=>by obtain⟨j,hj⟩:=q1z (S.mem_iff.mp n);obtain⟨c,g,t,u,G,A⟩:=item j b hj;exact#[c,g,t,u,by unfold TS.rkH;simp only[A];rfl,A]
  have nd:C.Nodup:=S.nodup_iff.mpr (Z.rise.imp λh z=>by rw[z]at h;exact absurd h (q0E _));have mq:(C.map λb=>(b,(TS.rkH l (.ref b)).getD 0 0,(TS.rkH l (.ref b)).getD 1 0)).map (·.1)=C:=by simp[Function.comp_def]
  obtain⟨H2,J,sm,hr,ot⟩:=Dr (C.map λb=>(b,(TS.rkH l (.ref b)).getD 0 0,(TS.rkH l (.ref b)).getD 1 0)) I2 (by rw[mq];exact nd) λy hy=>by obtain⟨b,n,rfl⟩:=q0D.mp hy;obtain⟨c,g,t,u,G,A⟩:=val b n;refine#[I.fpOk (up b n).1 (big b (up b n).1),t,u,0,?_];rw[G];exact M _ _ A
  rw[mq]at ot;have pz:s.heap.objs.size<=l.objs.size:=by have:=E s.heap.objs.size _ (Heap.get?_push_size _ rfl);exact q1y (bo this)
  have np:l.objs.size∉C:=λz=>q0E _ (up _ z).2;have U:H2 l.objs.size=none:=by rw[ot _ np];exact big _ pz
  have f:=I.fpOk (H':=H2) pz U;have lq:C.length=ns.length:=by rw[S.length_eq,hl,lv]
  have J2:Inv X pins Y (aL H2 l.objs.size (.lst (C.map V.ref))) { s with heap:=h2,toks:=tk }:=J.track f #[by rw[q0b,lq];simpa using hz,C.map Value.ref,m,oA C,dS];refine#[.ref l.objs.size,_,J2,rfl,q _ _ C (λb o e=>bA U b o (sm b o e)) (big _ pz) cF (λb n=>big b (up b n).1) ?_];have rows:C.map (λb=>TS.rkH l (.ref b))=TS.sortR (ns.map λp=>[p.1,p.2]):=by
   refine TS.sortR_of ((S.map _).trans (.of_eq ?_)) (by rw[q0U]at p2 ⊢;exact p2);apply q00;intro j;rw[q0k,q0k];cases e:as[j]? with
   |none=>have:as.length<=j:=q2b.mp e;rw[q0Y 'b'];rfl
   |some b=>obtain⟨c,g,G,A⟩:=rk j b e;rw[G];simp[A]
  rw[<-rows];refine Dt λb n=>?_;obtain⟨c,g,t,u,G,A⟩:=val b n;have:=hr (b,(TS.rkH l (.ref b)).getD 0 0,(TS.rkH l (.ref b)).getD 1 0) (q0D.mpr #[b,n,rfl]);rw[G]at this ⊢;rw[bw (λz=>np (by rw[z]at n;exact n))];exact this
end L2
namespace L2.L3
open PySem PySem.Spec PyProof.Rows
noncomputable def oB:eQ->Option (List (Int×Int))
 |[]=>some []
 |(.int k,.int v)::r=>(oB r).map λl=>(k,v)::l
 |_::_=>none
def qE(i:Nat):XM PyData:=λU=>lift (match fR U i with
 |some (false,a)=>(oB a).bind λb=>if 64<=b.length then none else some <|.list ((TS.sortR (b.map λp=>[p.1,p.2])).map λr=>.tuple (r.map PyData.int))
 |_=>none) U
theorem Du:∀{g}{d:eQ}{f},Paired (λ(p:aQ×V) (q:PyData×PyData)=>gA p.1=q.1/\DV G p.2 q.2) g d->oB d=!f->g=f.map λp=>(.inl p.1,.int p.2)
 |_,_,f,.nil,e=>by cases e;rfl
 |_,_,f,.cons (a:=p) (b:=c) h t,e=>by
  obtain⟨j,h2⟩:=h;obtain⟨w,x⟩:=c;unfold oB at e;split at e
  .rename_i q;cases q
  .rename_i k v r q;cases q;obtain⟨l,m,rfl⟩:=q0g.mp e;rw[Du t m,q0d];obtain⟨i,o⟩:=p;have s:o=.int v:=DV.int_inv h2;have u:i=.inl k:=by
    cases i with
    |inl n=>cases j;rfl
    |inr z=>cases j
   rw[s,u]
  .cases e
section
variable{X:Cx}{F:Fx}{E:Str->ak->Prop}{pos p p1 apos ipos:Pos}{x:Str}
theorem Sv(i)(A:X.calm=true)(B:Gl X "sorted")(g:X.mg "sorted" = none)(C:autoParam (X.N[i]? = !x) Zq._auto_1)(D:lP X.env.scope x:=by first |exact Or.inl rfl |exact Or.inr (Or.inl rfl) |exact Or.inr (Or.inr rfl))(hd:autoParam ((x==("__debug__":Str))=false) Zr._auto_1)(m:autoParam ((x==("__classdict__":Str))=false) Zr._auto_1)
  (e:autoParam (attributeBase (.Name x p1) "items" X.env (eval (.Name x p1) X.env)=eval (.Name x p1) X.env) Zq._auto_1) (f:autoParam ((apos.endLine==ipos.line)=true) Zq._auto_1)
  (G:autoParam (starEach [.Call (.Attribute (.Name x p1) "items" apos) [] [] ipos] X.env=(false,eval (.Call (.Attribute (.Name x p1) "items" apos) [] [] ipos) X.env)::starEach [] X.env) Zq._auto_1) (n:autoParam ((backTo pos (starEach [] X.env)).any (·.1)=false) Zq._auto_1) :
  FE X F E (.Call (.Name "sorted" p) [.Call (.Attribute (.Name x p1) "items" apos) [] [] ipos] [] pos) (qE i):=
 ⟨aE,(Su A B g C D hd m e f G n).imp λY H Q k=>by
  obtain⟨U,O,st,q⟩:=k;obtain⟨y,j,I⟩:=cJ q;cases g:fR U i with
  |none=>rw[g]at j;cases j
  |some pr=>
   obtain⟨J,L⟩:=pr;cases J with
   |true=>rw[g]at j;cases j
   |false=>
    rw[g]at j;obtain⟨v,M,l⟩:=q0K.mp j;have o:v.length<64:=by
     by_cases q:64<=v.length
     .rw[if_pos q]at l;cases l
     .omega
    rw[if_neg 'b']at l;cases l;obtain⟨a,ks,h1,h2,h3⟩:=Sb st g;rw[Du h3 M]at h2;refine#[a,v,o,h1,h2,λp s d w R S T Z=>I _ s O (st.grow w) (.same w) (.lst (gb S (st.nofree p R)) ?_)];have go:∀(d:List Addr) (rows:List (List Int)),(∀b∈d,H b=none)->Paired (λ(q:Addr) row=>s q=!.tup (row.map V.int)) d rows->aH (au O s) (d.map V.ref) (rows.map λr=>.tuple (r.map PyData.int)):=λd=>by
     induction d with
     |nil=>intro rows _ h;cases h;exact .nil
     |cons b d ih=>
      intro rows z h;cases h with
      |cons h t=>exact .cons (.tup (.inl (gb h (st.nofree b (z b q0h)))) (tO _)) (ih _ (λc u=>z c (bH _ u)) t)
    exact go d _ T Z⟩
end
theorem Dv{α:Type}{a}:∀{n k},k<n->((List.replicate n ([]:List α)).set k a).flatten=a
 |0,_,h=>by lia
 |n+1,0,_=>by rw[q1D,q0H,q0n,sL,q0G]
 |n+1,k+1,h=>by rw[q1D,q03,q0n,Dv 'b'];rfl
def kX(own:List Str)(a:List Nat)(k:Nat)(b:Bx)(U:ak):ak:=(fm own a U).set (own.length+k) (!.own true b)
def tQ(own:List Str)(h:List Nat)(k l:Nat)(s:ec)(g:eF)(o:cN)(p:DT):DT:=λU Q=>s U λc j=>∃io b,j[l]? = !!.own io b/\∃e:Nat->List PyData->ak->Prop,e 0 [] (kX own h k b j)/\
 (∀i d a f,c[i]? = !d->e i a f->g d f λq=>o q λb m=>if b=true then p m λy r=>a.length<sizeLine/\e (i+1) (a++[y]) r else e (i+1) a m)/\
 ∀a f,e c.length a f->∃n,f[own.length+k]? = !!.own true n/\a.length<=sizeLine/\Q (.list a) (j.set l (!.own io n))
theorem Sw(c:km s):Mn (tQ own caps k jm s g tc te):=λ_ _ _ d q=>c _ _ _ (λ_ _ a=>by obtain⟨io,b,hb,f,i,h1,h2⟩:=a;exact#[io,b,hb,f,i,h1,λj m h=>let⟨n,e,l,q⟩:=h2 j m h;#[n,e,l,d _ _ q]]) q
theorem Sx{K:Frag}{PF:Fx->Prop}(hP:∀w Y X L A O2 I,aD K F w Y X L->(∀a∈A,∃o,w a=!o/\Mv o)->PF #[w,A,O2,I])(a5:caps[k]? = !jm)(hs:km s)(hg:∀d U Q Q',(∀U',Q U'->Q' U')->g d U Q->g d U Q')(ht:iu tc)(he:Mn te):∀Y H Q,fE K F (tQ own caps k jm s g tc te) Y H Q->
  kg own caps (pO K F s) (λv Y H Q=>∃M,PF M/\kM K M g v Y H Q) (λY H Q=>∃M,PF M/\iW K M tc Y H Q) (λY H Q=>∃M,PF M/\fE K M te Y H Q) Y H Q:=λY H Q a6=>by
 obtain⟨U,O,st,q⟩:=a6;refine#[U,O,st,hs _ _ _ (λN X a7 J w L C s1 wk=>?_) q];obtain⟨io,b0,a4,Iv,i0,step,fin⟩:=a7;obtain⟨W,D,B⟩:=id C;obtain⟨v0,r,hY,hW,a,rfl,a8⟩:=D.at_ jm _ a4;rw[<-B]at a8;have b8:jm<X.length:=(q0a.mp a4).1;have b9:L.Nodup:=by rw[B];exact D.nd
 have a9:W.flatten.Nodup:=(q0j.mp D.nd).1;have c0:r.Nodup:=a9.sublist (q1K (q0A hW));have R:∀c∈r,c∈L:=λc f=>by rw[B];exact bv _ (bZ hW f)
 have c1:∀c∈r,∃o,w c=!o/\Mv o:=λc f=>C.live c (R c f);let t:List Addr:=L.filter λc=>decide (c∉r);have u:∀c∈t,c∈L/\c∉r:=λc h=>by obtain⟨h1,h2⟩:=q1P.mp h;exact#[h1,by simpa using h2]
 have inc:∀c∈L,c∉r->c∈t:=λc h h2=>q1P.mpr #[h,by simpa using h2];have a1:∀c,c∈r++t↔c∈L:=λc=>#[λh=>(q0f.mp h).elim (R c) λz=>(u c z).1,λh=>by
  by_cases z:c∈r
  .exact bv _ z
  .exact bq _ (inc c h z)]
 have c2:(r++t).Nodup:=q0j.mpr #[c0,b9.filter _,λx hx y hy e=>by subst e;exact(u x hy).2 hx];have b1:aT L w (r++t) w:=iY λc h=>(a1 c).mp h;let M:Fx:=#[w,r,t,λ_=>a]
 have pf:PF M:=hP _ _ _ _ _ _ _ C c1;have kn:own.length+k<(fm own caps X).length:=by have:=(q0a.mp a5).1;unfold fm;simp;lia
 have ln:(fm own caps X).length=(ga own caps Y).length:=by unfold fm ga;simp
 have fl:((List.replicate (fm own caps X).length ([]:List Addr)).set (own.length+k) r).flatten=r:=Dv kn;have Yk:(ga own caps Y)[own.length+k]? = !!.ref a:=by unfold ga;rw[q0M 'c',q0b,Nat.add_sub_cancel_left,q0k,a5];show some ((Y[jm]?).getD none)=_;rw[hY];rfl
 refine#[pR K M N Iv,#[N.length,kX own caps k b0 X,r++t,[],?_,i0,.nil,q0L _,rfl],?_]
 .have cell:∀(i:Nat) (c:af),(fm own caps X)[i]? = !!c->∃v,(ga own caps Y)[i]? = !!v/\sN K w L c v:=λi c e=>wK (λj _ c h=>Br C j c h) e;refine#[(List.replicate (fm own caps X).length []).set (own.length+k) r,#[λi c e=>?_,by show(_++t).Nodup;rw[fl];exact c2,λ_ _ _ h=>h,λc h=>?_,?_,?_,?_,λi b e=>?_],by show r++t=_++t;rw[fl]]
  .unfold kX at e;rcases iU e with⟨rfl,e1,hl⟩ |⟨hi,e1⟩
   .cases e1;refine#[.ref a,r,Yk,q0w (by simpa using hl),a,rfl,?_];show fC (au (_++t) w) w a b0 r;rw[fl];exact a8.keep (λ_ _=>rfl) b1.hid
   .obtain⟨v,e2,_,e3⟩:=cell i c e1;refine#[v,[],e2,?_,?_]
    .rw[q0v (Ne.symm hi),q1C,if_pos (q0a.mp e1).1]
    .show eE K w (_++t) v c [];rw[fl];exact e3.keep b1 (λ_ _=>rfl) λ_ _ _ e=>e
  .rw[fl]at h;exact .inl h
  .show kO w (_++t);rw[fl];exactλc h=>C.live c ((a1 c).mp h)
  .unfold kX;rw[q0C];exact ln
  .unfold kX;rw[q0C,q0C,q1h]
  .unfold kX at e;rcases iU e with⟨rfl,_,_⟩ |⟨hi,e1⟩
   .exact Yk
   .obtain⟨_,_,n,_⟩:=cell i _ e1;exact absurd rfl (n true b)
 .rintro i m ys Y' H' ⟨U',O',ds,a0,iv,dv,hi,rfl⟩;obtain⟨W',h',E⟩:=id a0;have kp:∀b o,b∉r->w b=!o->H' b=!o:=λb o hb e=>h'.kept b o hb e;have c3:aT L w O' H':=#[λb o hb e=>kp b o (λz=>hb (R b z)) e,λc h=>by
   rw[E]at h;rcases q0f.mp h with h |h
   .exact(h'.new c h).imp (R c) id
   .exact .inl (u c h).1]
  obtain⟨w1,w2⟩:=wk O' H' c3 a0.live
  by_cases b3:i<N.length
  .obtain⟨go,yld⟩:=w1 i N[i] (q0c b3);refine .inr #[go,λx H2 hy=>?_];obtain⟨c4,dx⟩:=yld x H2 hy;exact wL pf hg ht he step b3 a0 iv dv c4 dx
  .have e:i=N.length:=by lia
   subst e;obtain⟨b',b4,hz,q⟩:=fin ds U' iv;refine .inl #[w2,by rw[dv.length];exact hz,λp hp=>?_];obtain⟨v',G,g1,g2,a',ea,g3⟩:=h'.at_ _ _ b4;have g4:=h'.io _ _ b4;rw[g1]at g4;obtain rfl:a' = a:=by cases ea;cases g4;rfl
   rw[<-E]at g3;have a2:∀c∈G,c∈O':=λc f=>by rw[E];exact bv _ (bZ g2 f)
   have a3:(W'.flatten++t).Nodup:=h'.nd;have b5:G.Nodup:=(q0j.mp a3).1.sublist (q1K (q0A g2));have oth:∀j l,j≠jm->W[j]? = !l->∀c∈l,c∈t:=λj l Z e c f=>inc c (by rw[B];exact bv _ (bZ e f)) (kI a9 e hW Z f);have S:∀c∈F.O₀,c∈t:=λc f=>inc c (by rw[B];exact bq _ f) λz=>(q0j.mp D.nd).2.2 c (bZ hW z) c f rfl;have b6:∀c∈G,c∉t:=λc f z=>(q0j.mp a3).2.2 c (bZ g2 f) c z rfl;have b7:∀c∈t,H' c=w c:=λc f=>by obtain⟨o,e,_⟩:=C.live c (u c f).1;rw[e];exact kp c o (u c f).2 e
   have T:∀c∈(W.set jm G).flatten++F.O₀,c∈O':=λc h=>by
    rcases q0f.mp h with h |h
    .rcases gd h with h |⟨j,l,Z,e,hl⟩
     .exact a2 c h
     .rw[E];exact bq _ (oth j l Z e c hl)
    .rw[E];exact bq _ (S c h)
   obtain⟨s2,s3⟩:=D.put (H':=H') (i:=jm) (v:=.ref a') (c:=.own io b') (fp:=G) b8 (λj l c Z e f=>b7 c (oth j l Z e c f)) (λc f=>b7 c (S c f)) (λc o f e=>kp c o (λz=>f (by rw[<-B];exact R c z)) e) b5
    (λc f=>#[λj l Z e z=>b6 c f (oth j l Z e c z),λz=>b6 c f (S c z)]) (λc f=>(h'.new c (bZ g2 f)).imp (λz=>bZ hW z) id) (λc f=>h'.live c (by rw[<-E];exact a2 c f)) (λ_=>#[a',rfl,g3.keep (λ_ _=>rfl) (sB T)]) (λb2 z=>by
     have e1:io=true:=by cases z;rfl
     subst e1;have:=D.io jm b0 a4;rw[hY]at this;exact q0r (q0r this))
   have eY:Y.set jm (!.ref a')=Y:=by
    apply q00;intro j
    by_cases Z:j=jm
    .subst Z;rw[q0w (q0a.mp hY).1,hY]
    .rw[q0v (Ne.symm Z)]
   rw[eY]at s2;have stN:aD K F H' Y (X.set jm (!.own io b')) ((W.set jm G).flatten++F.O₀):=#[_,s2,rfl]
   rw[<-B]at s3;have c5:=a0.nofree p hp;exact q _ _ _ (stN.grow (bA hp)) (s1.trans (s3.trans (.same (bA hp)))) (ir hp (λz=>c5 (T p z)) (aH.mono (sB T) dv))
theorem Sy(m:GF X.mg F)(S:ae X scope own capN caps)(j:caps[k]? = !jm)(n:X.calm=true)(l:DI X F tg iter s)
  (c:∀C d e f h b,GF X.mg b->DG (bT X scope (own++capN) C d e f h) b tg g/\lY (bT X scope (own++capN) C d e f h) b ifs tc/\DE (bT X scope (own++capN) C d e f h) b elt te)
  (o:autoParam (∀x,foldedSetIterable iter X.env x=pure x) Zs._auto_1):DE X F (.ListComp elt [#[tg,iter,ifs,0]] scope pos) (tQ own caps k jm s g tc te):=by
 obtain⟨p,t,w⟩:=c 0 [] (PySem.start X.prog).1 (λ_=>none) [] F m;refine#[Sw l.mn,(sy S n l.pi (λC d e f h=>#[λa s Y H v u Q I r ⟨b,i,q⟩=>(c C d e f h b i).1.pg a s Y H v u Q I r q,λa s Y H Q I ⟨b,i,q⟩=>(c C d e f h b i).2.1.2 a s Y H Q I q,λa s Y H Q I ⟨b,i,q⟩=>(c C d e f h b i).2.2.pe a s Y H Q I q]) o).imp (Sx (λ_ _ _ _ _ _ _ st y=>(m.at st).frame y) j l.mn p.mn t.1 w.mn)]
noncomputable def kC(g:GM)(t:XM Bool)(m:XM PyData):List PyData->List PyData->ak->Option (List PyData×ak)
 |[],a,U=>some (a,U)
 |d::r,a,U=>(match g d U with
  |some c=>(match t c with
   |.ok true b=>(match m b with
    |.ok y e=>if a.length<sizeLine then kC g t m r (a++[y]) e else none
    |_=>none)
   |.ok false b=>kC g t m r a b
   |_=>none)
  |none=>none)
def tR(own:Nat)(a:List Nat)(k e:Nat)(g:GM)(t:XM Bool)(m:XM PyData)(c:List PyData):XM PyData:=λd=>match d[e]? with
 |some (!.own io b)=>(match kC g t m c [] ((List.replicate own none++a.map λj=>pP d[j]?).set (own+k) (!.own true b)) with
  |some (f,h)=>(match h[own+k]? with
   |some (!.own true i)=>if f.length<=sizeLine then .ok (.list f) (d.set e (!.own io i)) else .bad
   |_=>.bad)
  |none=>.bad)
 |_=>.bad
def tS(own:Nat)(a:List Nat)(k b:Nat)(s:XM (List PyData))(g:GM)(t:XM Bool)(m:XM PyData):XM PyData:=λU=>(s U).bind (tR own a k b g t m)
theorem Sz(q:wp E (tS own.length f k u s g t m) U Q):tQ own f k u (wp E s) (eP g) (wp eg t) (wp eg m) U Q:=aE _ _ _ (λn A o=>by
 unfold wp tR at o;split at o
 .rename_i l
  revert o l
  split
  .rename_i io b hb;split
   .rename_i p B v;split
    .rename_i G w;split
     .rename_i H;intro l o;cases l;have I:kX own f k b A=(List.replicate own.length none++f.map λj=>pP A[j]?).set (own.length+k) (!.own true b):=by unfold kX fm;rw[q1W]
      refine#[io,b,hb,λi r U=>kC g t m (n.drop i) r U=!(p,B),by rw[I];exact v,λi d r U hd a=>?_,λr U h=>?_]
      .have e:n.drop i=d::n.drop (i+1):=by obtain⟨x,J⟩:=q0a.mp hd;rw[<-J];exact q05 x
       simp only[e]at a;unfold kC at a;unfold eP;cases C:g d U with
       |none=>rw[C]at a;cases a
       |some L=>
        rw[C]at a;simp only at a ⊢;unfold wp;cases y:t L with
        |ex c D=>rw[y]at a;cases a
        |bad=>rw[y]at a;cases a
        |ok b D=>
         rw[y]at a;cases b with
         |false=>exact fi a
         |true=>
          apply fj;simp only at a ⊢;cases z:m D with
          |ex c M=>rw[z]at a;cases a
          |bad=>rw[z]at a;cases a
          |ok N M=>
           rw[z]at a;simp only at a ⊢;split at a
           .rename_i h;exact#[h,a]
           .cases a
      .simp only[q1N]at h;have e:r=p/\U=B:=by cases h;exact#[rfl,rfl]
       obtain⟨rfl,rfl⟩:=e;exact#[G,w,H,o]
     .intro l _;cases l
    .intro l _;cases l
   .intro l _;cases l
  .intro l _;cases l
 .rename_i l
  revert l
  repeat (first |(split) |(intro l;cases l))
 .exact o.elim) (bK q)
theorem SA(u:GF X.mg F)(S:ae X a own b c)(i:c[k]? = !jm)(v:X.calm=true)(w:own.length=n)(y:FI X F E h iter s)
  (j:∀C l o p r f,GF X.mg f->FG (bT X a (own++b) C l o p r) f h g/\mr (bT X a (own++b) C l o p r) f eg e t/\FE (bT X a (own++b) C l o p r) f eg d m)
  (z:autoParam (∀x,foldedSetIterable iter X.env x=pure x) Zs._auto_1):FE X F E (.ListComp d [#[h,iter,e,0]] a pos) (tS n c k jm s g t m):=by
 subst w;exact DE.imp' (Sy u S i v y j z) aE λU Q q=>Sz q
def qF(C:Addr)(i:Nat)(d:PyData):XM af:=λU=>match ca C U i with
 |some (false,fs)=>.ok (.own false (.pr C fs d)) (U.set i none)
 |_=>.bad
def oC(C:Addr)(i:Nat)(m:XM PyData):XM af:=λU=>match ca C U i with
 |some (false,_)=>(m U).bind (qF C i)
 |_=>.bad
theorem Dw{pos:Pos}{C:Addr}{k}(M:PE X (.Name x p1) (cu i))(N:FE X F E e m)(h1:autoParam (starEach [.Name x p1,e] X.env=(false,eval (.Name x p1) X.env)::starEach [e] X.env) Zq._auto_1)(h2:autoParam (starEach [e] X.env=(false,eval e X.env)::starEach [] X.env) Zq._auto_1) :
  FO X F E (.Tuple [.Name x p1,e] k pos) (oC C i m):=
 #[aE,(vW (dJ M (dJ N.pe eB h2) h1)).imp λY H Q g=>by
  obtain⟨U,O,st,q⟩:=g;unfold wp oC at q;cases r:ca C U i with
  |none=>rw[r]at q;exact q.elim
  |some t=>
   obtain⟨u,R⟩:=t;cases u with
   |true=>rw[r]at q;exact q.elim
   |false=>
    rw[r]at q;obtain⟨a,S,A,_,_,_⟩:=st.box (jG r);refine#[.ref a,A,U,O,st,aE _ _ _ (λd T f s h O1 v Z d1=>#[by show 2<=sizeLine;decide,λp l=>?_]) (bK q)];unfold wp qF at f;cases h3:ca C T i with
    |none=>rw[h3]at f;exact f.elim
    |some pr=>
     obtain⟨io,fs⟩:=pr;cases io with
     |true=>rw[h3]at f;exact f.elim
     |false=>
      rw[h3]at f;obtain⟨n,fp,w,B,D,t3,G,t5,t6,t7⟩:=v.take (jG h3);obtain rfl:n=a:=by rw[A]at B;cases B;rfl
      obtain⟨dx,gs,z,e1,e2,e3,I⟩:=t3;have ne:∀b o,h b=!o->aL h p (.tup [.ref n,s]) b=!o:=λb o e=>bA l b o e;have J:bI (au w h) (au w (aL h p (.tup [.ref n,s]))):=lS (bA l);refine f (.ref p) (aL h p (.tup [.ref n,s])) w fp #[D.grow (bA l),#[p,rfl,n,s,dx,gs,z,gb cF (D.nofree p l),e1,ne _ _ e2,ne _ _ e3,I.keep (λc hc=>?_) J,DV.mono J (DV.mono G.hid d1)],t6] (Z.trans (G.trans (.same (bA l))));obtain⟨o,L,_⟩:=I.live c hc;rw[L];exact ne _ _ L]
def qG(i j:Nat)(c:af):SM:=λU=>match c with
 |.own false (.pr C fs d)=>if i<U.length then .nx ((U.set i (!.own false (.o C fs))).set j (!.dat d)) else .bad
 |_=>.bad
def qH(i j:Nat)(m:XM af):SM:=λU=>dE (m U) (qG i j)
theorem Dx{pos:Pos}{px:Pos}{py:Pos}{pt:Pos}{k}(Q:X.calm=true)(J:FO X F E e m)(L:X.N.Nodup)(R:X.N[i]? = !x)(S:X.N[j]? = !y)(T:Loc X.env.scope x)(Z:Loc X.env.scope y)
  (p:X.fn x=true\/X.env.scope.names.lookup x=!.local:=by first |exact .inl rfl |exact .inr rfl |assumption) (s:X.fn y=true\/X.env.scope.names.lookup y=!.local:=by first |exact .inl rfl |exact .inr rfl |assumption)
  (t:autoParam ((assignEach [.Name x px,.Name y py] X.env).map (·.2)=assign (.Name x px) X.env::(assignEach [.Name y py] X.env).map (·.2)) Zq._auto_1) (u:autoParam ((assignEach [.Name y py] X.env).map (·.2)=assign (.Name y py) X.env::(assignEach [] X.env).map (·.2)) Zq._auto_1)
  (hn:autoParam ((assignEach [.Name x px,.Name y py] X.env).length=2) Zq._auto_1) (w:autoParam ((assignEach [.Name x px,.Name y py] X.env).findIdx? (·.1)=none) Zq._auto_1)
  (hs:autoParam (swapsWithSole [.Tuple [.Name x px,.Name y py] k pt] e pos.line X.env=pure false) Zq._auto_1) (hw:autoParam (swappedStores [.Tuple [.Name x px,.Name y py] k pt] e X.env=pure none) Zq._auto_1)
  (h1:autoParam ((assignEach [.Tuple [.Name x px,.Name y py] k pt] X.env).map (·.2)=[assign (.Tuple [.Name x px,.Name y py] k pt) X.env]) Zq._auto_1) :
  FS X F E (.Assign [.Tuple [.Name x px,.Name y py] k pt] e pos) (qH i j m):=
 (vO J.pe (zK Q (vM (vL L R T p) (vM (vL L S Z s) zJ u) t) hn w) hs hw h1).imp λD Y H zz=>by
 obtain⟨U,O,DD,st,q,f⟩:=zz;exact#[U,O,st,J.mn _ _ _ (λc A g v H1 O1 fp r s1=>by
  have q1:∃C fs d,c=.own false (.pr C fs d)/\i<A.length/\DD.nx ((A.set i (!.own false (.o C fs))).set j (!.dat d)):=by
   unfold wpS qG at g;cases c with
   |dat _=>exact g.elim
   |scr _=>exact g.elim
   |exc _=>exact g.elim
   |vw _=>exact g.elim
   |own io b=>
    cases io with
    |true=>exact g.elim
    |false=>
     cases b with
     |l _=>exact g.elim
     |m _ _=>exact g.elim
     |o _ _=>exact g.elim
     |sd _=>exact g.elim
     |ll _=>exact g.elim
     |oo _ _=>exact g.elim
     |pr C fs d=>
      simp only at g
      by_cases h:i<A.length
      .rw[if_pos h]at g;exact#[C,fs,d,rfl,h,g]
      .rw[if_neg h]at g;exact g.elim
  obtain⟨C,fs,d,rfl,h,g⟩:=q1;obtain⟨a,rfl,n,B,dx,gs,G,e0,rfl,e1,e2,e4,dv⟩:=r.at_;obtain⟨O2,I,M⟩:=aD.put1 (io:=true) (c:=.own false (.o C fs)) r.st #[n,rfl,dx,gs,G,rfl,e1,e2,e4] r.new h (λb z=>by cases z);exact#[a,[.ref n,B],rfl,.inl (.inl (cR e0).1),rfl,.ref n,[B],rfl,B,[],rfl,rfl,f.nx _ H1 _ O2 (I.set (DV.mono M.hid dv)) (s1.trans M) g]
  ) (fN q)]
def DF(K:Frag)(x:Str)(st:Stmt):Prop:=∃(f:Addr) (b:Value) (c d:Option Addr) (g:Array (Option Value)) (kV e pm a h:Value),nsIn K mainGlobals x=!!.ref f/\
 K.lookup f=!#[b,c,.func (fnOf x x (kf st) (ip st) (dY st) .none kV e pm d a h),g]/\codeIn K a x=true/\keepIn K (.ref f)=true
def MF(K:Frag)(C:Addr)(m q:Str)(st:Stmt):Prop:=∃(f:Addr) (b:Value) (c d:Option Addr) (g:Array (Option Value)) (kV e pm a h:Value),findIn K (.ref C) m=!!.ref f/\PySem.W.isFn K (.ref f)=true/\
 K.lookup f=!#[b,c,.func (fnOf m q (kf st) (ip st) (dY st) .none kV e pm d a h),g]/\codeIn K a q=true/\keepIn K (.ref f)=true
theorem tT{P:List Value->Prop}(h:∀a,P [a]):∀c,c.length=1->P c:=λc e=>by
 cases c with
 |nil=>exact absurd e 'd'
 |cons a c=>
  cases c with
  |nil=>exact h a
  |cons b c=>exact absurd (q15 e) (Nat.succ_ne_zero _)
theorem xR{P:List Value->Prop}(h:∀a b,P [a,b]):∀c,c.length=2->P c:=λc e=>by
 cases c with
 |nil=>exact absurd e 'd'
 |cons a c=>exact tT (P:=λl=>P (a::l)) (h a) c (q15 e)
theorem xS{P:List Value->Prop}(h:∀a b c,P [a,b,c]):∀d,d.length=3->P d:=λd e=>by
 cases d with
 |nil=>exact absurd e 'd'
 |cons a d=>exact xR (P:=λl=>P (a::l)) (h a) d (q15 e)
theorem xT{P:List Value->Prop}(h:∀a b c d,P [a,b,c,d]):∀f,f.length=4->P f:=λf e=>by
 cases f with
 |nil=>exact absurd e 'd'
 |cons a f=>exact xS (P:=λl=>P (a::l)) (h a) f (q15 e)
theorem Dy{P:List Value->Prop}(h:∀a b c d e,P [a,b,c,d,e]):∀f,f.length=5->P f:=λf e=>by
 cases f with
 |nil=>exact absurd e 'd'
 |cons a f=>exact xT (P:=λl=>P (a::l)) (h a) f (q15 e)
abbrev Bd(x q:Str)(st:Stmt)(ps:List Str):Prop:=∀(kV a pm:Value) (d:Option Addr) (b e:Value) (c:List Value),c.length=ps.length->bindArgs (fnOf x q (kf st) (ip st) (dY st) .none kV a pm d b e) #[c,[]]=pure (ps.zip c)
theorem DF.fd{K:Frag}{st:Stmt}(D:DF K x st)(X:K.In h)(G:h.Ns mainGlobals mg)(d:Bd x x st ps:=by first |exactλ_ _ _ _ _ _=>tT λ_=>rfl |exactλ_ _ _ _ _ _=>xR λ_ _=>rfl |exactλ_ _ _ _ _ _=>xS λ_ _ _=>rfl |exactλ_ _ _ _ _ _=>xT λ_ _ _ _=>rfl |exactλ_ _ _ _ _ _=>Dy λ_ _ _ _ _=>rfl |exactλ_ _ _ _ _ _=>b λ_ _ _ _ _ _=>rfl):∃g fd,FD K mg x st ps g fd:=by obtain⟨f,_,_,_,_,_,_,_,_,_,a,l,c,k⟩:=D;exact#[f,_,pE l c k,mg_of X G a,(pE l c k).binds d]
theorem MF.md{K:Frag}{st:Stmt}(D:MF K C m q st)(d:Bd m q st ps:=by first |exactλ_ _ _ _ _ _=>tT λ_=>rfl |exactλ_ _ _ _ _ _=>xR λ_ _=>rfl |exactλ_ _ _ _ _ _=>xS λ_ _ _=>rfl |exactλ_ _ _ _ _ _=>xT λ_ _ _ _=>rfl |exactλ_ _ _ _ _ _=>Dy λ_ _ _ _ _=>rfl |exactλ_ _ _ _ _ _=>b λ_ _ _ _ _ _=>rfl):∃g fd,MD K C m q st ps g fd:=by obtain⟨f,_,_,_,_,_,_,_,_,_,a,i,l,c,k⟩:=D;exact#[f,_,pE l c k,#[a,i,k],(pE l c k).binds d]
end L2.L3
namespace L2.TS
open PySem PyProof.Rows
abbrev di(a:List Nat):Prop:=a.Pairwise (·<·)
theorem di.lt(r:di c){j :Nat}(h:i<j)(d:c[i]? = !x)(e:c[j]? = !y):x<y:=by obtain⟨a,rfl⟩:=q0a.mp d;obtain⟨b,rfl⟩:=q0a.mp e;exact List.pairwise_iff_getElem.mp r i j a b h
theorem xW(r:di b.toList):∀fuel lo a,a<=b.size->lo<=a->a - lo<=fuel->(∀i x,i<lo->b.toList[i]? = !x->x<j)->(∀i x,a<=i->b.toList[i]? = !x->j<=x)->
  SetTable.below.go b j fuel lo a<=b.size/\(∀i x,i<SetTable.below.go b j fuel lo a->b.toList[i]? = !x->x<j)/\∀i x,SetTable.below.go b j fuel lo a<=i->b.toList[i]? = !x->j<=x
 |0,lo,a,h1,h2,h3,g,h=>by
  have e:lo=a:=by lia
  subst e;exact#[h1,g,h]
 |fuel+1,lo,a,h1,h2,h3,g,h=>by
  unfold SetTable.below.go
  by_cases c:lo<a
  .rw[if_pos c];have m:(lo+a) / 2<b.size:=by lia
   have k:b.toList[(lo+a) / 2]? = some b[(lo+a) / 2]:=by rw[q0c (by simpa using m)];simp
   have n:b.getD ((lo+a) / 2) j=b[(lo+a) / 2]:=by simp[m]
   dsimp only;rw[n]
   by_cases d:b[(lo+a) / 2]<j
   .rw[if_pos d];refine xW r fuel _ a h1 'b' 'b' (λi x f e=>?_) h;rcases q0R (Nat.lt_succ_iff.mp f) with q |q
    .exact Nat.lt_trans (r.lt q e k) d
    .subst q;rw[k]at e;cases e;exact d
   .rw[if_neg d];refine xW r fuel lo _ 'b' 'b' 'b' g (λi x f e=>?_);rcases q0R f with q |q
    .exact q0N (q1H.mp d) (q1y (r.lt q k e))
    .subst q;rw[k]at e;cases e;exact q1H.mp d
  .rw[if_neg c];have e:lo=a:=by lia
   subst e;exact#[h1,g,h]
theorem qJ(r:di a.toList)(j):SetTable.below a j<=a.size/\(∀i x,i<SetTable.below a j->a.toList[i]? = !x->x<j)/\∀i x,SetTable.below a j<=i->a.toList[i]? = !x->j<=x:=
 xW r a.size 0 a.size (aP _) (q0L _) (aP _) (λ_ _ h=>absurd h (q1V _)) λi x h e=>by have:=(q0a.mp e).1;simp at this;lia
theorem Dz(r:di a.toList)(f:j∉a.toList):di (SetTable.insertAt a (SetTable.below a j) j).toList:=by
 obtain⟨h,h2,h3⟩:=qJ r j;rw[SetTable.toList_insertAt];have split:=List.pairwise_append.mp (show di (a.toList.take (SetTable.below a j)++a.toList.drop (SetTable.below a j)) by rw[q16];exact r);have lo:∀x∈a.toList.take (SetTable.below a j),x<j:=λx c=>by obtain⟨i,b⟩:=q1a.mp c;have g:=(q0a.mp b).1;rw[q1w]at g;rw[q2z 'b']at b;exact h2 i x 'b' b
 refine List.pairwise_append.mpr #[split.1,List.pairwise_cons.mpr #[(λx c=>by obtain⟨i,b⟩:=q1a.mp c;rw[List.getElem?_drop]at b;have:=h3 _ x (q1f _ _) b;exact Nat.lt_of_le_of_ne this λe=>f (e▸List.mem_of_mem_drop c)),split.2.1],λx c y d=>?_];rcases q0e.mp d with rfl |d
 .exact lo x c
 .exact split.2.2 x c y d
theorem DC{t:SetTable}(r:di t.place.toList)(h:∀i,t.slot j≠.live i):j∉t.place.toList:=λd=>by
 obtain⟨i,a⟩:=q1a.mp d;obtain⟨k,h2,h3⟩:=qJ r j;have f:=q1e λc=>q0E _ (h2 i j c a);have g:=(q0a.mp a).1;have e:t.place.toList[SetTable.below t.place j]? = !j:=by
  obtain⟨x,b⟩:∃x,t.place.toList[SetTable.below t.place j]? = !x:=#[_,q0c 'b']
  rcases q0R f with c |c
  .have:=r.lt c b a;have:=h3 _ x (aP _) b;lia
  .rw[c];exact a
 rw[q0B]at e;apply h (SetTable.below t.place j);unfold SetTable.slot;simp[e]
theorem xX:∀fuel  p  j  d,(∀q,p.dummy=!q->t.slot q=.dummy)->SetTable.probe.go t (λ_=>h+1) h fuel p=!.empty j d->t.slot j=.empty/\∀q,d=!q->t.slot q=.dummy
 |0,_,_,_,_,e=>by cases e
 |fuel+1,p,j,d,b,e=>by
  have fT:∀p,(t.advance p).dummy=p.dummy:=λp=>by unfold SetTable.advance;split<;>rfl
  unfold SetTable.probe.go at e;cases q:t.slot p.j with
  |empty=>rw[q]at e;cases e;exact#[q,b]
  |dummy=>rw[q]at e;refine xX fuel _ j d (λx a=>?_) e;rw[fT]at a;cases a;exact q
  |live i=>
   rw[q]at e;have:((h+1==h)=true)=False:=by lia
   simp only[this]at e;exact xX fuel _ j d (λx a=>b x (by rw[fT]at a;exact a)) e
theorem SD{t:SetTable}(r:di t.place.toList)(e:t.freeSlot h=!(j,b)):j∉t.place.toList:=by
 unfold SetTable.freeSlot SetTable.probe at e;split at e
 .rename_i k a d;obtain⟨g,h2⟩:=xX _ _ _ _ (λq f=>by cases f) d;cases e;cases a with
  |none=>exact DC r λi c=>by rw[q2J,g]at c;cases c
  |some q=>exact DC r λi c=>by rw[Option.getD_some,h2 q rfl]at c;cases c
 .cases e
theorem tU(n):di (Array.range n).toList:=by rw[Array.toList_range];exact List.pairwise_lt_range
theorem SE{t:SetTable}(n)(r:di t.place.toList):di (t.orStandIn n).place.toList/\(t.orStandIn n).led=t.led:=by
 unfold SetTable.orStandIn;split
 .exact#[r,rfl]
 .exact#[tU _,rfl]
theorem SF(a h x)(r:di t.place.toList):di (layNew t a h x).2.1.place.toList/\(layNew t a h x).2.1.led=t.led:=by
 unfold layNew;split
 .rename_i j b e;exact SE _ (Dz r (SD r e))
 .exact#[tU _,rfl]
theorem tV{β:Type}{g:Nat->Option β}:∀l:List Nat,((l.filterMap λj=>(g j).map (j,·)).map (·.1)).Sublist l
 |[]=>.slnil
 |a::l=>by
  rw[q07];cases e:g a with
  |none=>exact .cons _ (tV l)
  |some b=>exact .cons₂ _ (tV l)
theorem SG(a n):di (relayAll t a n).2.1.place.toList/\(relayAll t a n).2.1.led=t.led:=by
 unfold relayAll;split
 .rename_i t' order e;dsimp only;split
  .unfold SetTable.relaid SetTable.laid at e;simp only[bind,Option.bind]at e;split at e
   .cases e
   .cases e;refine#[?_,rfl];exact List.pairwise_lt_range.sublist (tV _)
  .exact#[tU _,rfl]
 .exact#[tU _,rfl]
section
variable{prog:Program}{w:World}{A:Around}{E:Value->Shared->Prop}{s:Shared}
def SetO(prog:Program)(w:World)(o:Obj)(led:Bool)(b:List Int):Prop:=
 ∃a c t,o.ExactSet/\o.data=.set a c t/\ElemsOf (intKind prog w) a.toList/\b=a.toList.map (λe=>numOf e.2)/\a.size<scanBound/\t.fits a.size=true/\di t.place.toList/\t.led=led
theorem DH(h:ElemsOf (intKind prog w) a)(b:e∈a):∃t,e.2=.int (numOf e.2) t:=by obtain⟨⟨k,h1,_⟩,_⟩:=h e b;obtain⟨t,h2⟩:=Value.isInt_shape (h1);rw[h2];exact#[t,rfl]
theorem SH(h:ElemsOf (intKind prog w) a)(k):(a.findIdx? λe=>(intKind prog w).is k e.2).isSome=decide (k∈a.map λe=>numOf e.2):=by
 have key:∀e∈a,(intKind prog w).is k e.2=decide (k=numOf e.2):=λe b=>by obtain⟨t,d⟩:=DH h b;rw[d];rw[q2k];exact beq_iff_eq.trans (eq_comm.trans decide_eq_true_iff.symm)
 cases q:a.findIdx? λe=>(intKind prog w).is k e.2 with
 |none=>refine(decide_eq_false λf=>?_).symm;obtain⟨e,b,rfl⟩:=q0D.mp f;have:=List.findIdx?_eq_none_iff.mp q e b;rw[key e b]at this;simp at this
 |some j=>obtain⟨c,h2,_⟩:=List.findIdx?_eq_some_iff_getElem.mp q;refine(decide_eq_true (q0D.mpr #[a[j],q1x c,?_])).symm;rw[key _ (q1x c)]at h2;exact(of_decide_eq_true h2).symm
theorem tW(f:s.heap.get? a=!o)(h:o.ExactSet)(hd:o.data=.set i e t)(j:b.size<scanBound)
  (q:∀c d,Heap.SameBut a s.heap c->c.get? a=!d->d.ExactSet->d.data=.set b (e+1) t'->Q () { s with heap:=c }):wpAny (model prog w) A (storeSet a b t') Q E s:=by
 have g:=Heap.get?_update_self (Obj.putSet b t') f (by rw[putSet_of b t' hd];rfl);rw[putSet_of b t' hd]at g;exact wpAny_storeSet_of f hd (q _ _ (Heap.SameBut.update s.heap a _) g h rfl) (fits_of_scanBound j)
theorem xY(b)(q:Q () s):wpAny (model prog w) A (match b with |true=>rule "set.scan.the-table-gave-way" |false=>pure ()) Q E s:=by
 cases b
 .exact ao q
 .exact wpAny_rule q
theorem DJ{g:Bool->Sem Unit}(I:∀b  y  z,z () y->wpAny (model prog w) A (g b) z E y)
  (L:s.heap.get? a=!o) (M:o.ExactSet) (hd:o.data=.set T J t) (f:ElemsOf (intKind prog w) c.toList) (n:c.size<scanBound) (N:d.fits c.size=true) (O:di d.place.toList) (B:d.led=led)
  (h:∀p C i,Heap.SameBut a s.heap p->p.get? a=!C->SetO prog w C led i->i.Perm (c.toList.map λe=>numOf e.2)->R (!true) { s with heap:=p }) :
  wpAny (model prog w) A (do
    storeSet a c d
    if (not U&&d.tooFull)=true then do
      g (relayAll d c (SetTable.grown c.size)).2.2
      storeSet a (relayAll d c (SetTable.grown c.size)).1 (relayAll d c (SetTable.grown c.size)).2.1
      pure (!true)
     else pure (!true)) R E s:=by
 refine aa (tW L M hd n λH Q j k l m=>?_);split
 .have q:=relayAll_perm d c (SetTable.grown c.size);have D:(relayAll d c (SetTable.grown c.size)).1.size=c.size:=by rw[<-q0s,q.length_eq,q0s]
  refine aa (I _ _ _ (aa (tW k l m (by rw[D];exact n) λX S r u v x=>?_)));have G:=SG (t:=d) c (SetTable.grown c.size);exact ao (h X S _ (j.trans r) u #[_,_,_,v,x,f.perm q,rfl,by rw[D];exact n,relayAll_fits d c _,G.1,G.2.trans B] (q.map _))
 .exact ao (h H Q _ j k #[_,_,_,l,m,f,rfl,n,N,O,B] (.refl _))
theorem SJ(z:s.heap.get? a=!o)(D:SetO prog w o led y)(room:y.length+1<scanBound)
  (h:∀b g i d,Heap.SameBut a s.heap g->g.get? a=!i->SetO prog w i led d->d.Perm (if k∈y then y else y++[k])->Q b { s with heap:=g }) :
  wpAny (model prog w) A (setAddHashed a (.int k r) ((intKind prog w).hash k)) Q E s:=by
 obtain⟨v,U,t,G,hd,n,rfl,hb,H,N,I⟩:=id D;have J:(intKind prog w).is k (.int k r)=true:=intKind_is ..;have O:=by simpa using room
 refine wpAny_holding (aa (wpAny_setState_of z hd H ?_));dsimp only;rw[byScan_of rfl hb n];refine aa (aa (wpAny_rule (aa (wpAny_setScan_of J z hd H n ?_))));have C:=SH n k;cases M:v.toList.findIdx? λe=>(intKind prog w).is k e.2 with
 |some j=>rw[M]at C;exact ao (ao (h _ s.heap o _ (Heap.SameBut.refl a s.heap) z D (by rw[if_pos (of_decide_eq_true C.symm)])))
 |none=>
  rw[M]at C;have x:=layNew_perm t v ((intKind prog w).hash k) (.int k r);have f:=layNew_fits t v ((intKind prog w).hash k) (.int k r);have c:=SF v ((intKind prog w).hash k) (.int k r) N;generalize layNew t v ((intKind prog w).hash k) (.int k r)=L at x f c ⊢;obtain⟨u,X,wd,Y⟩:=L;rw[Array.toList_push]at x;have p:=(n.push J rfl).perm x;have R:u.size=v.size+1:=by rw[<-q0s,x.length_eq,q0u,q0s];rfl
  have fin:∀g i d,Heap.SameBut a s.heap g->g.get? a=!i->SetO prog w i led d->d.Perm (u.toList.map λe=>numOf e.2)->wpAny (model prog w) A (pure true) Q E { s with heap:=g }:=λg i d B l m pm=>by refine ao (h _ g i d B l m ?_);rw[if_neg (of_decide_eq_false C.symm)];refine pm.trans ((x.map _).trans (.of_eq ?_));rw[q1k];rfl
  refine aa (xY _ ?_);split
  .apply aa;rw[hashByValue_scannable 8 (rfl)];exact ao (DJ (λb S T q=>xY b q) z G hd p 'b' f c.1 (c.2.trans I) λg i d B l m pm=>fin g i d B l m pm)
  .exact aa (ao (DJ (λb S T q=>xY b q) z G hd p 'b' f c.1 (c.2.trans I) λg i d B l m pm=>fin g i d B l m pm))
noncomputable def addI(Y:List Int)(k:Int):List Int:=if k∈Y then Y else Y++[k]
def onceI(a:List Int):List Int:=a.foldl addI []
theorem SK(p:a.Perm b)(k):(if k∈a then a else a++[k]).Perm (addI b k):=by
 unfold addI
 by_cases h:k∈a
 .rw[if_pos h,if_pos (p.mem_iff.mp h)];exact p
 .rw[if_neg h,if_neg λq=>h (p.mem_iff.mpr q)];exact p.append_right _
theorem SL(Y k):(addI Y k).length<=Y.length+1:=by unfold addI;split<;>simp
theorem DK:∀(a Y:List Int),(a.foldl addI Y).length<=Y.length+a.length
 |[],Y=>by simp
 |n::a,Y=>by have h1:=DK a (addI Y n);have h2:=SL Y n;simp only[q1Y,q0i];lia
theorem onceI_len(a):(onceI a).length<=a.length:=by simpa[onceI] using DK a []
theorem SN{a:List Int}(e:a[i]? = !n):onceI (a.take (i+1))=addI (onceI (a.take i)) n:=by unfold onceI;rw[List.take_add_one,e,Option.toList_some,q2C];rfl
theorem SO{St}(W:WalksS prog w A.in1 I U g G a.length P St)(j:S∉U)
  (l:∀i v,P i v->∃n t,a[i]? = !n/\v=.int n t) (f:a.length+1<scanBound):∀k i  s,a.length - i=k->i<=a.length->St i s->(∃o c,s.heap.get? S=!o/\SetO prog w o led c/\c.Perm (onceI (a.take i)))->
   (∀d o c,Moved (S::g) G s d->d.heap.get? S=!o->SetO prog w o led c->c.Perm (onceI a)->R (.ok (.ret .none)) d)->codeAny (model prog w) A (.builtin "set.update.loop" #[[.ref S,.ref I],[]]) R s:=by
 have m:=λh=>j (W.sub _ h);have up:∀b∈g,b∈S::g:=λb f=>.tail _ f;intro k
 induction k with
 |zero=>
  rintro i s Y Z st ⟨o,c,B,C,p⟩ D;obtain rfl:i=a.length:=by lia
  apply codeAny_builtin PyProof.Rows.F.entry_set_update_loop;rw[Around.under_plainId PyProof.Rows.F.plain_set_update_loop _];exact aa (W.done s _ _ st λd q=>ao (D d o c (q.mono up) (q.heap S _ m B) C (by rw[q2K]at p;exact p)))
 |succ k ih=>
  rintro i s Y Z st ⟨o,c,B,C,p⟩ D;have r:i<a.length:=by lia
  apply codeAny_builtin PyProof.Rows.F.entry_set_update_loop;rw[Around.under_plainId PyProof.Rows.F.plain_set_update_loop _];refine aa (W.item i s _ _ r st λv d hP H q=>?_);obtain⟨n,t,en,rfl⟩:=l i v hP;refine aa (wpAny_holding (wpAny_holding (aa ((intKind prog w).pyHash (intKind_is _ _ _ _) ?_))));refine SJ (q.heap S _ m B) C (by have:=onceI_len (a.take i);have:=List.length_take_le i a;rw[p.length_eq];lia) λb h' o' L X e' M N=>ao #[plainId_quiet PyProof.Rows.F.plain_set_update_loop _,ih (i+1) _ 'b' r (W.frame _ d _ _ H (q1u _) λb f o e=>?_) #[o',L,e',M,?_] λO Q u x T y z=>?_]
  .rw[X.2 b (λh=>j (by rw[<-h];exact f))];exact e
  .rw[SN en];exact N.trans (SK p n)
  .refine D O Q u (Moved.trans W.gtrans ((q.mono up).then_heap (q1u _) λb o f e=>?_) x) T y z;rw[X.2 b (λh=>f (by rw[h];exact .head _))];exact e
noncomputable def ledW(w:World):Bool:=not (w.params.followText "set-order")
noncomputable abbrev iH(led:Bool):Obj:={ cls:=.type "set",dict:=none,data:=.set #[] 0 (.fresh 0 0 led) }
theorem SQ(led):SetO prog w (iH led) led []:=#[#[],0,.fresh 0 0 led,#[rfl,rfl,rfl],rfl,(λ_ h=>by simp at h),rfl,by decide,rfl,.nil,rfl]
theorem SS(a)(h:Q₁ (.ref s.heap.objs.size) { s with heap:=s.heap.push (iH (ledW w)) }) :
  codeAny (model prog w) A (.call (.builtin "set.__new__") #[[.type "set",a],[]]) (wants Q₁ E) s:=by
 refine codeAny_of_tree (aa (wpAny_of_eq (PySem.F.newCall_set_1 a) (ao #[plainId_quiet q2V _,codeAny_builtin PySem.F.entry_set_new ?_])));rw[Around.under_plainId q2V _];unfold Builtin.«set.__new__» Builtin.Frozenset.newClass;have b:=sub_set_self;obtain⟨c,g,d,e,os⟩:=s;wp_walk
 exact wpAny_askSetting (ao (aa (wpAny_alloc (ao (ao h)))))
theorem DL{Pst:Heap->Prop}(hh:A.handled=none)(hl:s.heap.IsList l items)
  (j:∀{R I U C G P St} d,WalksS prog w A.in1.in1.in1 I U C G items.size P St->s.heap.objs.size∉U->(∀b<s.heap.objs.size,b∉C)->(∀i v,P i v->items.toList[i]? = !v)->St 0 d->(∀b u,s.heap.get? b=!u->d.heap.get? b=!u)->d.heap.get? s.heap.objs.size=!iH (ledW w)->
   (∀k,Moved (s.heap.objs.size::C) G d k->Pst k.heap->R (.ok (.ret .none)) k)->codeAny (model prog w) A.in1.in1 (.builtin "set.update.loop" #[[.ref s.heap.objs.size,.ref I],[]]) R d)
  (h:∀m  tk,(∀b u,s.heap.get? b=!u->m.get? b=!u)->Pst m->Q (.ref s.heap.objs.size) { s with heap:=m,toks:=tk }) :
  wpAny (model prog w) A (call (.type "set") [.ref l]) Q E s:=by
 obtain⟨c,tl,X⟩:=PySem.F.called_set.mro;have D:=PySem.F.called_set.made;have Y:=PySem.F.called_set.sub;refine wpAny_call (codeAny_of_tree (ao #[Code.quiet_builtin _ 'f',codeAny_builtin PySem.F.entry_type_call ?_]));rw[Around.under_plain (weight_type_call_type "set" [.ref l] []) rfl];have h1:=PySem.F.called_set.notType;have h2:=PySem.F.called_set.canCreate;have a3:=PySem.F.typeCall_set_1 (.ref l)
 repeat (any_goals (first |assumption |wp_step))
 refine codeAny_mono (SS (.ref l) (E:=E) (Q₁:=λobj d=>obj=.ref s.heap.objs.size/\d = { s with heap:=s.heap.push (iH (ledW w)) }) #[rfl,rfl]) λr d H=>?_;cases r with
 |error e=>exact H
 |ok fl=>
  cases fl with
  |ret obj=>
   obtain⟨rfl,rfl⟩:=H;have Z:(s.heap.push (iH (ledW w))).get? s.heap.objs.size=!iH (ledW w):=Heap.get?_push_size _ rfl;have hT:Shared.TypeIs { s with heap:=s.heap.push (iH (ledW w)) } (.ref s.heap.objs.size) "set":=#[_,Z,rfl]
   have a4:=PySem.F.called_set.init.lookup;have a5:=PySem.F.called_set.init.bind (.ref s.heap.objs.size)
   repeat (any_goals (first |assumption |wp_step))
   refine codeAny_mono (codeAny_call_builtin (R:=wants (λr s₂=>r=.none/\Q (.ref s.heap.objs.size) s₂) E) PySem.F.called_set.init.plain PySem.F.entry_set_init (check_set_init_1 hT ?_)) λr₂ s₂ f=>?_
   .obtain⟨⟨a0,g,J,a⟩,n,o,nl,p⟩:=hl;simp only at o p;subst o p;have q:(s.heap.push (iH (ledW w))).get? l=some { cls:=.type "list",dict:=g,data:=.seq items nl,slots:=a }:=aK _ n;have a1:=PySem.F.sub_list_set;have a2:=PySem.F.sub_list_frozenset;have a6:(Value.type "list"==Value.type "dict")=false:=by decide
    have t:(s.heap.push (iH (ledW w))).IsList l items:=#[_,q,rfl,nl,rfl]
    unfold Builtin.«set.__init__» noKeywords Builtin.Frozenset.updateFrom;generalize L:pyIter=PI
    wp_walk
    subst L;refine wpAny_pyIter_list t (aa (wpAny_runValue ?_));have x:l<s.heap.objs.size:=bo n;have N:(s.heap.push (iH (ledW w))).objs.size=s.heap.objs.size+1:=Heap.size_push ..;have W:=(Walks.list (prog:=prog) (w:=w) (A:=A.in1.in1.in1) (by simp[hh]) (s.heap.push (iH (ledW w))).objs.size l (by rw[N];exact q0q (q1s x)) items).toS;have ap:∀b<s.heap.objs.size,b∉[(s.heap.push (iH (ledW w))).objs.size]:=λb B=>by rw[N];simp only[q0o];exact q0q (q1s B)
    refine j _ W ?_ ap (λi v hv=>by rw[q0B];exact hv) #[#[_,Heap.get?_push_size _ rfl,rfl,rfl],t.push _] (λb u e=>aK _ (aK _ e)) (aK _ Z) λk y M=>?_
    .rw[N];simp only[q0e,q0p,or_false,not_or];exact#[q0q (q06 _),q02 x]
    .obtain⟨m,g',d',O,S⟩:=k;obtain rfl:g' = s.gens:=y.gens;obtain rfl:d' = s.drawn:=y.drawn;obtain rfl:S = s.os:=y.os;refine ao (ao #[rfl,h m O (λb u e=>?_) M]);have B:=bo e;refine y.heap b u (λz=>?_) (aK _ (aK _ e));rcases q0e.mp z with z |z
     .exact q0q B z
     .exact ap b B z
   .cases r₂ with
    |error e=>exact f
    |ok T=>
     cases T with
     |ret r=>
      obtain⟨rfl,hq⟩:=f
      repeat (any_goals (first |assumption |wp_step))
     |_=>exact f.elim
  |_=>exact H.elim
theorem call_set(y:A.handled=none)(B:s.heap.IsList l items)(q:IntsAre items.toList e)(O:e.length+1<scanBound)
  (h:∀f  g  o  d,(∀b u,s.heap.get? b=!u->f.get? b=!u)->f.get? s.heap.objs.size=!o->SetO prog w o (ledW w) d->d.Perm (onceI e)->Q (.ref s.heap.objs.size) { s with heap:=f,toks:=g }) :
  wpAny (model prog w) A (call (.type "set") [.ref l]) Q E s:=by
 have r:items.size=e.length:=by rw[<-q0s];exact q.length
 refine DL (Pst:=λf=>∃o d,f.get? s.heap.objs.size=!o/\SetO prog w o (ledW w) d/\d.Perm (onceI e)) y B (λ{R I T U G P St} C W D _ x j _ H k=>?_) λf g S z=>?_
 .rw[r]at W;refine SO W D (λi v p=>?_) O e.length 0 C rfl (q0L _) j #[_,[],H,SQ _,.refl _] λJ o d L M m N=>k J L #[o,d,M,m,N];obtain⟨t,rfl⟩:=IntsAre.int_at q i v (x i v p);exact#[e.getD i 0,t,by rw[q01,q0c (by rw[<-r,<-q0s];exact(q0a.mp (x i _ p)).1)];rfl,rfl]
 .obtain⟨o,d,a,b,c⟩:=z;exact h f g o d S a b c
end
theorem xZ{α:Type}:∀{l:List α}{i} h,(l[i]::l.eraseIdx i).Perm l
 |x::a,0,h=>.refl _
 |x::a,i+1,h=>(List.Perm.swap x _ _).trans ((xZ (Nat.lt_of_succ_lt_succ h)).cons x)
theorem DM(c):∀fuel k  left (a:Array α),left.length<=fuel->(pickOrder.go c fuel k left a).toList.Perm (a.toList++left)
 |0,k,left,a,h=>by have:=q2n.mp (Nat.le_zero.mp h);subst this;unfold pickOrder.go;simp
 |fuel+1,k,left,a,h=>by
  unfold pickOrder.go;cases left with
  |nil=>simp
  |cons y d=>have b:c k % (y::d).length<(y::d).length:=q1T _ (q1i _);rw[q0c b];apply(DM c fuel _ _ _ (by rw[q2o b];lia)).trans;rw[Array.toList_push,q0x];exact(xZ b).append_left _
theorem SU(b)(a:Array α):(pickOrder b a).toList.Perm a.toList:=by unfold pickOrder;simpa using DM b a.size 0 a.toList #[] 'c'
theorem DP:∀n  a  s (Q:List α->Shared->Prop),a.length<=n->(∀b d,b.Perm a->Q b { s with drawn:=d })->wpAny (model prog w) A (drawOrder n a) Q E s
 |0,a,s,Q,h,q=>by obtain rfl:a=[]:=q2n.mp (Nat.le_zero.mp h);exact ao (q [] s.drawn .nil)
 |n+1,[],s,Q,h,q=>ao (q [] s.drawn .nil)
 |n+1,x::a,s,Q,h,q=>by
  have ch:∀{R:Nat->Shared->Prop},(∀i d,i<(x::a).length->R i { s with drawn:=d })->wpAny (model prog w) A (choose .order (x::a).length) R E s:=λ{R} e Γ p j=>#[Nat.succ_ne_zero _,e _ _ (q1T _ (q1i _))]
  refine aa (ch λi d c=>?_);rw[q0c c];exact aa (DP n _ _ _ (by rw[q2o c];lia) λb f g=>ao (q _ f ((g.cons _).trans (xZ c))))
structure bJ (h:Heap) (a:Addr) (es:Array (Int×Value)) (ep:Nat) (t:SetTable):Prop where
 at_:∃o,h.get? a=!o/\o.ExactSet/\o.data=.set es ep t
 fits:t.fits es.size=true
theorem bJ.at'(x:bJ h a d c t)(k:∀o,h.get? a=!o->b.get? a=!o):bJ b a d c t:=
 let⟨⟨o,h1,h2⟩,f⟩:=x
 #[#[o,k o h1,h2],f]
theorem bJ.typeIs{s:Shared}(x:bJ s.heap a c b t):s.TypeIs (.ref a) "set":=let⟨⟨o,h1,h2,_⟩,_⟩:=x;#[o,h1,h2.1]
theorem bJ.lt(x:bJ h a c b t):a<h.objs.size:=let⟨⟨o,h1,_⟩,_⟩:=x;bo h1
theorem bJ.state(x:bJ s.heap a es ep t)(q:Q (es,ep,t) s):wpAny (model prog w) A (setState a) Q E s:=
 let⟨⟨o,h1,_,h2⟩,f⟩:=x
 wpAny_setState_of h1 h2 f q
theorem tY(q:Q (w.params.followText "set-order") s):wpAny (model prog w) A setsByText Q E s:=aa (wpAny_askSetting (ao q))
theorem SV(x:bJ s.heap a es ep t)(b:w.params.followText "set-order" = true)(q:Q (((pickOrder (w.params.setOrder a ep) es)[i]?).map λe=>(e.2,slot)) s):wpAny (model prog w) A (setNext a slot i ep) Q E s:=by refine aa (x.state (aa (tY ?_)));rw[if_pos b,if_neg 'c'];apply aa;refine aa (x.state (aa (tY ?_)));rw[if_pos b];exact aa (wpAny_askSetting (ao (ao q)))
noncomputable def mH(t:SetTable):Nat->Nat
 |0=>0
 |i+1=>(t.place.toList[i]?.getD 0)+1
theorem SW(r:di t.place.toList):∀{i},i<=t.place.size->SetTable.below t.place (mH t i)=i
 |0,_=>by
  obtain⟨f,h2,h3⟩:=qJ r 0;rcases Nat.eq_zero_or_pos (SetTable.below t.place 0) with z |z
  .exact z
  .exact absurd (h2 0 _ z (q0c (by simp;lia))) (q1V _)
 |i+1,g=>by
  have d:i<t.place.toList.length:=by simp;lia
  have e:=q0c d;obtain⟨f,h2,h3⟩:=qJ r (mH t (i+1));have es:mH t (i+1)=t.place.toList[i]+1:=by show t.place.toList[i]?.getD 0+1=_;rw[e];rfl
  rw[es]at f h2 h3 ⊢;have h:=Nat.lt_of_not_le λc=>by have:=h3 i _ c e;lia
  have j:¬ i+1<SetTable.below t.place (t.place.toList[i]+1):=λc=>by
   have b:i+1<t.place.toList.length:=by simp;lia
   have g1:=h2 (i+1) _ c (q0c b);have g2:=r.lt (q06 i) e (q0c b);lia
  lia
theorem SX(x:bJ s.heap a es ep t)(b:w.params.followText "set-order" = false)(hd:(not t.plain&&decide (es.size>1))=false)(r:di t.place.toList)(j:t.led=true)(f:i<=es.size)
  (q:Q ((es[i]?).map λe=>(e.2,mH t (i+1))) s):wpAny (model prog w) A (setNext a (mH t i) i ep) Q E s:=by
 have g:=by have:=x.fits;simp only[SetTable.fits,q0I,beq_iff_eq]at this;exact this.1
 refine aa (x.state ?_);refine aa (tY ?_);rw[if_neg (by rw[b];exact q0F)];refine wpAny_ite_split (λc=>absurd (show(not t.plain&&decide (es.size>1))=true from c) (by rw[hd];exact q0F)) λ_=>aa (show wpAny _ _ (if (not t.led&&(not es.isEmpty))=true then unsupported "set:maker-not-led" else pure ()) _ _ _ from ?_);rw[j];refine ao ?_;rw[SW r (by rw[g];exact f)];refine ao ?_;rcases q0R f with c |c
 .have d:es[i]? = some es[i]:=by simp[c]
  have h:t.place[i]? = some t.place[i]:=by simp[g,c]
  have k:t.place.toList[i]? = some t.place[i]:=by rw[q0B];exact h
  rw[d]at q ⊢;rw[h];have l:mH t (i+1)=t.place[i]+1:=by show t.place.toList[i]?.getD 0+1=_;rw[k];rfl
  rw[l]at q;exact q
 .have d:es[i]? = none:=by simp[c]
  rw[d]at q ⊢;exact q
theorem ji:Slot "set_iterator" "__next__" "set_iterator.__next__":=
 .of (owner:="set_iterator") (n:="__next__") (by rw[typeLookup_type,builtinLookup_eq_fast];kernel_rfl) 'f' 'f' 'f' (by first |exact .inl 'f' |exact .inr 'f') (by rw[isSubtype_type];kernel_rfl)
theorem DQ:Slot "set_iterator" "__iter__" "set_iterator.__iter__":=
 .of (owner:="set_iterator") (n:="__iter__") (by rw[typeLookup_type,builtinLookup_eq_fast];kernel_rfl) 'f' 'f' 'f' (by first |exact .inl 'f' |exact .inr 'f') (by rw[isSubtype_type];kernel_rfl)
theorem tZ:entryFor table "set_iterator.__next__" = some Builtin.«set_iterator.__next__»:=entryFor_of_tree 'g'
theorem SY:entryFor table "set_iterator.__iter__" = some Builtin.«dict_keyiterator.__iter__»:=entryFor_alias (id':="dict_keyiterator.__iter__") 'g' rfl 'f' 'g'
theorem SZ:entryFor table "set.__iter__" = some Builtin.«frozenset.__iter__»:=entryFor_alias (id':="frozenset.__iter__") 'g' rfl 'f' 'g'
theorem DR:Manifest.owners.lookup (String.ofList ['r','o','t','a','r','e','t','i','_','t','e','s'].reverse)=!Manifest.sig_set_iterator:=by kernel_rfl
theorem ua(a):argsOk "set_iterator.__next__" #[[a],[]]:=by unfold argsOk;rw[signature?_of (n:=['_','_','t','x','e','n','_','_']) 'g' DR];kernel_rfl
theorem Ta(a):argsOk "set_iterator.__iter__" #[[a],[]]:=by unfold argsOk;rw[signature?_of (n:=['_','_','r','e','t','i','_','_']) 'g' DR];kernel_rfl
def gP(h:Heap)(I a:Addr)(f:Value)(i n b:Nat):Prop:=∃o,h.get? I=!o/\o.cls=.type "set_iterator"/\o.data=.fields [f,.int i 0,.ref a,.int n 0,.int b 0].toArray
theorem gP.at'(x:gP h I a f i n c)(k:∀o,h.get? I=!o->b.get? I=!o):gP b I a f i n c:=let⟨o,h1,h2⟩:=x;#[o,k o h1,h2]
theorem gP.typeIs{s:Shared}(x:gP s.heap I a f i n ep):s.TypeIs (.ref I) "set_iterator":=let⟨o,h1,h2,_⟩:=x;#[o,h1,h2]
theorem DU(x:gP s.heap I a f i n ep)(q:Q (.ref I) s):wpAny (model prog w) A (pyIter (.ref I)) Q E s:=by refine wpAny_pyIter_slot x.typeIs DQ (wpAny_call_entry DQ x.typeIs SY ?_ (Ta _));exact aa (ao (ao #[_,rfl,"set_iterator",_,x.typeIs,ji.lookup,q]))
theorem Tc{j :Nat}(it:gP s.heap I a (.int j 0) i es.size ep)(S:bJ s.heap a es ep t)
  (k:∀A  l (h:Option (Value×Nat)->Shared->Prop),h (!(x,nx)) s->wpAny (model prog w) A (setNext a j i ep) h l s)
  (q:∀d,gP d I a (.int nx 0) (i+1) es.size ep->Heap.SameBut I s.heap d->Q (!x) { s with heap:=d }):wpAny (model prog w) A (pyNext (.ref I)) Q E s:=by
 obtain⟨o,e,m,hd⟩:=id it;refine aa (wpAny_attempt (wpAny_callSpecial?_slot it.typeIs ji (wpAny_call_entry ji it.typeIs tZ ?_ (ua _))));refine aa (ao (aa (wpAny_fieldsOf e hd ?_)));apply aa;refine aa (S.state (ao ?_));rw[if_neg 'c'];refine aa (k _ _ _ (aa (wpAny_setField e hd 'c' ?_)));have c:=Heap.get?_update_self (Obj.mapFields (·.setIfInBounds 0 (rawInt nx))) e (Obj.isFreed_of_fields (Obj.data_mapFields hd _));have b:=Obj.data_mapFields hd (·.setIfInBounds 0 (rawInt nx));refine aa (wpAny_setField c b 'c' (ao #[_,rfl,ao (q _ #[_,(Heap.get?_update_self (Obj.mapFields (·.setIfInBounds 1 (rawInt (i+1)))) c (Obj.isFreed_of_fields (Obj.data_mapFields b _))),?_,?_] ((Heap.SameBut.update ..).trans (Heap.SameBut.update ..)))]))
 .rw[Obj.cls_mapFields,Obj.cls_mapFields];exact m
 .rw[Obj.data_mapFields b];simp[rawInt]
theorem Td{g:Nat}(h:A.handled=none)(it:gP s.heap I a (.int g 0) i es.size ep)(S:bJ s.heap a es ep t)
  (j:∀A  k  c,c none s->wpAny (model prog w) A (setNext a g i ep) c k s)
  (q:∀d,Heap.ExtBut I s.heap d->Q none { s with heap:=d }):wpAny (model prog w) A (pyNext (.ref I)) Q E s:=by
 obtain⟨o,e,l,hd⟩:=id it;refine aa (wpAny_attempt (wpAny_callSpecial?_slot it.typeIs ji (wpAny_call_entry ji it.typeIs tZ ?_ (ua _))));refine aa (ao (aa (wpAny_fieldsOf e hd (aa (aa (S.state (ao ?_)))))));rw[if_neg 'c'];refine aa (j _ _ _ (aa (wpAny_setField e hd 'c' (aa (aa (wpAny_newObj_type ?_ (by size_fits)))))));refine aa (wpAny_of_eq (by first |rfl |(rfl)) (wpAny_newObj_type ?_ (by size_fits)));refine aa (wpAny_handled ?_);rw[h];refine aa (ao (wpAny_throw ?_));exact aa (wpAny_isInstance #[_,Heap.get?_push_size _ rfl,rfl] isSubtype_stop (ao (q _ (((Heap.SameBut.update ..).extBut.push _).push _))))
noncomputable abbrev jL(ps:List Nat):Obj:={ cls:=.type "tuple",data:=.seq (ps.map λ(p:Nat)=>Value.int p 0).toArray }
theorem Te(it:gP s.heap I a (.ref T) i es.size ep)(hT:s.heap.get? T=!jL ps)(S:bJ s.heap a es ep t)(e:ps[i]? = !p)(g:es[p]? = !x)
  (q:∀b,gP b I a (.ref T) (i+1) es.size ep->Heap.SameBut I s.heap b->Q (!x.2) { s with heap:=b }):wpAny (model prog w) A (pyNext (.ref I)) Q E s:=by
 obtain⟨o,c,h,hd⟩:=id it;obtain⟨k,l⟩:=x;unfold pyNext;refine aa (wpAny_attempt (wpAny_callSpecial?_slot it.typeIs ji (wpAny_call_entry ji it.typeIs tZ ?_ (ua _))));refine aa (ao (aa (wpAny_fieldsOf c hd ?_)));refine aa (aa (S.state (ao ?_)));rw[if_neg 'c'];refine aa (aa (wpAny_load hT (ao ?_)));dsimp only;have j:(ps.map λ(p:Nat)=>Value.int p 0).toArray[(i:Int).toNat]? = !.int p 0:=by rw[q0Z,q1j,q0k,e];rfl
 rw[j];refine aa (aa (S.state ?_));dsimp only;rw[if_neg 'c',q0Z,g];refine ao (aa (wpAny_setField c hd 'c' ?_));refine ao #[_,rfl,ao (q _ #[_,(Heap.get?_update_self (Obj.mapFields (·.setIfInBounds 1 (rawInt (i+1)))) c (Obj.isFreed_of_fields (Obj.data_mapFields hd _))),?_,?_] (Heap.SameBut.update ..))]
 .rw[Obj.cls_mapFields];exact h
 .rw[Obj.data_mapFields hd];simp[rawInt]
theorem Tf(h:A.handled=none)(it:gP s.heap I a (.ref T) i es.size ep)(hT:s.heap.get? T=!jL ps)(S:bJ s.heap a es ep t)(j:ps[i]? = none)
  (q:∀g,Heap.ExtBut I s.heap g->Q none { s with heap:=g }):wpAny (model prog w) A (pyNext (.ref I)) Q E s:=by
 obtain⟨o,c,l,hd⟩:=id it;refine aa (wpAny_attempt (wpAny_callSpecial?_slot it.typeIs ji (wpAny_call_entry ji it.typeIs tZ ?_ (ua _))));refine aa (ao ?_);dsimp only;refine aa (wpAny_fieldsOf c hd ?_);refine aa (aa (S.state (ao ?_)));rw[if_neg 'c'];refine aa (aa (wpAny_load hT (ao ?_)));dsimp only;have k:(ps.map λ(p:Nat)=>Value.int p 0).toArray[(i:Int).toNat]? = none:=by rw[q0Z,q1j,q0k,j];rfl
 rw[k];refine aa (wpAny_setField c hd 'c' ?_);refine aa (wpAny_setField (Heap.get?_update_self (Obj.mapFields (·.setIfInBounds 0 (rawInt 0))) c (Obj.isFreed_of_fields (Obj.data_mapFields hd _))) (Obj.data_mapFields hd (·.setIfInBounds 0 (rawInt 0))) 'c' (aa ?_));simp only[newExc];refine aa (wpAny_newObj_type ?_ (by size_fits));refine aa (wpAny_of_eq (by first |rfl |(rfl)) (wpAny_newObj_type ?_ (by size_fits)));refine aa (wpAny_handled ?_);rw[h];refine aa (ao (wpAny_throw ?_));exact aa (wpAny_isInstance #[_,Heap.get?_push_size _ rfl,rfl] isSubtype_stop (ao (q _ ((((Heap.SameBut.update ..).trans (Heap.SameBut.update ..)).extBut.push _).push _))))
theorem Tg(hh:A.handled=none)(hne:I≠a){sl:Nat->Nat}{vs:List Value}(hz:vs.length=es.size)
  (item:∀i  s  A  E  Q,i<=es.size->bJ s.heap a es ep t->Q (vs[i]?.map λv=>(v,sl (i+1))) s->wpAny (model prog w) A (setNext a (sl i) i ep) Q E s) :
  Walks prog w A I [I,a] [I] es.size (λi v=>vs[i]? = !v) (λi h=>gP h I a (.int (sl i) 0) i es.size ep/\bJ h a es ep t) where
 sub:=λb hb=>by simp at hb;simp[hb]
 frame:=λ_ _ _ st hk=>#[st.1.at' λo e=>hk I 'c' o e,st.2.at' λo e=>hk a 'c' o e]
 item:=λi s Q E hi st hQ=>by
  obtain⟨v,hv⟩:∃v,vs[i]? = !v:=#[_,q0c 'b']
  exact Tc st.1 st.2 (λA' E' Q' q=>item i s A' E' Q' 'b' st.2 (by rw[hv];exact q)) λh' it sb=>hQ v h' s.toks hv #[it,st.2.at' λo e=>by rw[sb.2 a hne.symm];exact e] λb o hb e=>by rw[sb.2 b (λz=>hb (by simp[z]))];exact e
 done:=λs Q E st hQ=>Td hh st.1 st.2 (λA' E' Q' q=>item es.size s A' E' Q' (aP _) st.2 (by rw[q0Y 'b'];exact q)) λh' sb=>hQ h' s.toks λb o hb e=>sb b o (λz=>hb (by simp[z])) e
 self:=λi s Q E st q=>DU st.1 q
theorem Th(hh:A.handled=none)(hne:I≠a)(hnT:I≠T){vs:List Value}(hz:ps.length=es.size)(hv:∀(i:Nat)  v,vs[i]? = !v->∃p x,ps[i]? = !p/\es[p]? = !x/\x.2=v)(hvl:vs.length=es.size) :
  Walks prog w A I [I,a,T] [I] es.size (λi v=>vs[i]? = !v) (λi h=>gP h I a (.ref T) i es.size ep/\h.get? T=!jL ps/\bJ h a es ep t) where
 sub:=λb hb=>by simp at hb;simp[hb]
 frame:=λ_ _ _ st hk=>#[st.1.at' λo e=>hk I 'c' o e,hk T 'c' _ st.2.1,st.2.2.at' λo e=>hk a 'c' o e]
 item:=λi s Q E hi st hQ=>by
  obtain⟨v,e0⟩:∃v,vs[i]? = !v:=#[_,q0c 'b']
  obtain⟨p,x,e1,e2,rfl⟩:=hv i v e0;exact Te st.1 st.2.1 st.2.2 e1 e2 λh' it sb=>hQ x.2 h' s.toks e0 #[it,by rw[sb.2 T hnT.symm];exact st.2.1,st.2.2.at' λo e=>by rw[sb.2 a hne.symm];exact e] λb o hb e=>by rw[sb.2 b (λz=>hb (by simp[z]))];exact e
 done:=λs Q E st hQ=>Tf hh st.1 st.2.1 st.2.2 (by rw[q0Y 'b']) λh' sb=>hQ h' s.toks λb o hb e=>sb b o (λz=>hb (by simp[z])) e
 self:=λi s Q E st q=>DU st.1 q
theorem Ti{s:Shared}(f:bJ s.heap a es ep t)(Y:di t.place.toList)(Z:t.led=ledW w)(D:es.size<=sizeLine)
  (q:∀(I:Addr)  M (vs:List Value)  St  G  d,vs.Perm (es.toList.map (·.2))->(∀b u,s.heap.get? b=!u->G.get? b=!u)->(∀b∈M,b=a\/s.heap.objs.size<=b)->s.heap.objs.size<=I->
   (∀B,B.handled=none->Walks prog w B I M [I] es.size (λi v=>vs[i]? = !v) St)->St 0 G->Q (.ref I) { s with heap:=G,drawn:=d }):wpAny (model prog w) A (pyIter (.ref a)) Q E s:=by
 refine wpAny_pyIter_slot f.typeIs q2W (wpAny_call_entry q2W f.typeIs SZ ?_ (PySem.F.args_set_iter_1 _));unfold Builtin.«frozenset.__iter__»;refine aa (show wpAny _ _ (pure a) _ _ _ from ao ?_);refine aa ?_;unfold Builtin.Frozenset.sizeOf setEntries;refine aa (aa (f.state (ao (ao ?_))));refine aa ?_;unfold setDrawn;refine aa (f.state (aa (tY (ao ?_))));have lt:=f.lt;have fin:∀(z:Nat->Nat) (vs:List Value),z 0=0->vs.Perm (es.toList.map (·.2))->(∀(i:Nat) (s:Shared) (A:Around) (E:Value->Shared->Prop) (Q:Option (Value×Nat)->Shared->Prop),i<=es.size->bJ s.heap a es ep t->Q (vs[i]?.map λv=>(v,z (i+1))) s->wpAny (model prog w) A (setNext a (z i) i ep) Q E s)->
   wpAny (model prog w) A.in1 (do let v <-setEpoch a;let u <-newFields "set_iterator" [rawInt 0,rawInt 0,.ref a,rawInt es.size,rawInt v];ret u) (λfin N=>∃r,fin=.done (.ret r)/\∃O r',N.TypeIs r O/\typeLookup (.type O) "__next__" = pure (!r')/\Q r N) E s:=λz vs h0 h item=>by
  refine aa ?_;unfold setEpoch;refine aa (f.state (ao ?_));refine aa (wpAny_newObj_type ?_);have hz:vs.length=es.size:=by rw[h.length_eq];simp
  refine ao #[_,rfl,"set_iterator",_,#[_,Heap.get?_push_size _ rfl,rfl],ji.lookup,?_];refine q s.heap.objs.size [s.heap.objs.size,a] vs _ _ s.drawn h (λb u e=>aK _ e) (λb k=>?_) (aP _) (λB H=>Tg H (q02 lt) (sl:=z) hz item) #[#[_,Heap.get?_push_size _ rfl,rfl,?_],f.at' λo e=>aK _ e]
  .rcases q0e.mp k with rfl |k
   .exact .inr (aP _)
   .exact .inl (q0o.mp k)
  .rw[h0];rfl
 cases b:w.params.followText "set-order" with
 |true=>
  refine wpAny_ite_split (λc=>by cases c) λ_=>aa (ao ?_);refine fin (λ_=>0) ((pickOrder (w.params.setOrder a ep) es).toList.map (·.2)) rfl ((SU _ _).map _) λi s A E Q R f q=>SV f b ?_;rw[q0k,q0B]at q;cases e:(pickOrder (w.params.setOrder a ep) es)[i]? with
  |none=>rw[e]at q;exact q
  |some x=>rw[e]at q;exact q
 |false=>
  have m:t.led=true:=by rw[Z];unfold ledW;rw[b];rfl
  cases d:(not t.plain&&decide (es.size>1)) with
  |false=>
   refine wpAny_ite_split (λc=>?_) λ_=>aa (ao ?_)
   .have:(not t.plain&&decide (es.size>1))=true:=c;rw[d]at this;cases this
   .refine fin (mH t) (es.toList.map (·.2)) rfl (.refl _) λi s A E Q R f q=>SX f b d Y m R ?_;rw[q0k,q0B]at q;cases e:es[i]? with
    |none=>rw[e]at q;exact q
    |some x=>rw[e]at q;exact q
  |true=>
   refine wpAny_ite_split (λ_=>?_) λc=>absurd (show(not t.plain&&decide (es.size>1))=true from d) c;refine aa (DP es.size (List.range es.size) s _ 'c' λg U h=>?_);have J:g.length=es.size:=by rw[h.length_eq];simp
   refine aa (wpAny_newTuple ?_ (by rw[q0b,J];exact D));have n:bJ (s.heap.push (jL g)) a es ep t:=f.at' λo e=>aK _ e;refine aa ?_;unfold setEpoch;refine aa (bJ.state n (ao ?_));refine aa (wpAny_newObj_type ?_);have C:(s.heap.push (jL g)).objs.size=s.heap.objs.size+1:=Heap.size_push ..;refine ao #[_,rfl,"set_iterator",_,#[_,Heap.get?_push_size _ rfl,rfl],ji.lookup,?_];have L:∀p∈g,p<es.size:=λp hm=>q1d.mp (h.mem_iff.mp hm);have pm:(g.map λp=>(es.toList.map (·.2))[p]?.getD .none).Perm (es.toList.map (·.2)):=by
    refine(h.map _).trans (.of_eq ?_);have key:∀l:List Value,(List.range l.length).map (λp=>l[p]?.getD .none)=l:=λl=>by apply List.ext_getElem 'c';intro j X h2;simp at X ⊢;simp[X]
    have:=key (es.toList.map (·.2))
    rwa [q0b,q0s]at this
   refine q (s.heap.push (jL g)).objs.size [(s.heap.push (jL g)).objs.size,a,s.heap.objs.size] (g.map λp=>(es.toList.map (·.2))[p]?.getD .none) _ _ U pm (λb u e=>aK _ (aK _ e)) (λb k=>?_) (by rw[C];exact q1u _)
    (λB H=>Th (T:=s.heap.objs.size) (ps:=g) H (by rw[C];exact q02 (q1s lt)) (by rw[C];exact Nat.succ_ne_self _) J (λi v e=>?_) (by rw[q0b,J])) #[#[_,Heap.get?_push_size _ rfl,rfl,rfl],(aK _ (Heap.get?_push_size _ rfl)),n.at' λo e=>aK _ e]
   .simp only[q0e,q0p,or_false]at k;rcases k with rfl |rfl |rfl
    .exact .inr (by rw[C];exact q1u _)
    .exact .inl rfl
    .exact .inr (aP _)
   .rw[q0k]at e;obtain⟨p,S,e2⟩:=q0g.mp e;have y:=L p (q0A S);refine#[p,es[p],S,by simp[y],?_];rw[<-e2,q0k,q0B];simp[y]
theorem Tj(hT:s.TypeIs (.ref a) "set")(h:∀b,Q b s):wpAny (model prog w) A (Builtin.List.listLengthHint (.ref a)) Q E s:=by
 refine aa (wpAny_specialOf hT PySem.F.slot_set_len.lookup ?_);generalize hid:("set.__len__")=c
 wp_delta
 rw[show splitId c=some ("set","__len__") from by subst hid;decide +kernel];subst hid;refine aa (wpAny_isInstance (b:=true) hT (by rw[isSubtype_type];kernel_rfl) (wpAny_ite_split (λz=>absurd z 'd') (λ_=>wpAny_ite_split (λ_=>?_) (λz=>absurd 'f' z))));exact aa (wpAny_typeOf hT (ao (h _)))
theorem DY(S:A.handled=none)(U:bJ s.heap a es ep t)(hr:di t.place.toList)(hl:t.led=ledW w)(u:es.size<=sizeLine)
  (h:∀X  tk  d  vs,(∀b o,s.heap.get? b=!o->X.get? b=!o)->vs.Perm (es.toList.map (·.2))->R vs { s with heap:=X,toks:=tk,drawn:=d }):wpAny (model prog w) A (collect (.ref a)) R E s:=by
 have lt:=U.lt;unfold collect;refine aa (wpAny_runValue (codeAny_builtin entry_proto_collect' ?_));rw[Around.under_plainId PySem.F.plain_proto_collect _];refine aa (wpAny_newObj_type (T:="list") (data:=.seq ([]:List Value).toArray) ?_);refine ao #[plainId_quiet q2G _,codeAny_builtin entry_list_iadd' ?_];rw[Around.under_plainId q2G _];have Y:(s.heap.push { cls:=.type "list",data:=.seq ([]:List Value).toArray }).objs.size=s.heap.objs.size+1:=Heap.size_push ..;have p:bJ (s.heap.push { cls:=.type "list",data:=.seq ([]:List Value).toArray }) a es ep t:=U.at' λo e=>aK _ e;show wpAny _ A.in1 (Builtin.List.listExtendWith (.ref s.heap.objs.size) (.ref a) (.ref s.heap.objs.size)) _ _ _;unfold Builtin.List.listExtendWith;refine aa (wpAny_typeOf (T:="set") (bJ.typeIs (s:={ s with heap:=_ }) p) ?_);have h1:Builtin.List.listSameRef (.ref s.heap.objs.size) (.ref a)=false:=by simp[Builtin.List.listSameRef,q02 lt]
 have h2:(Value.type "set"==Value.type "list")=false:=by decide
 have h3:(Value.type "set"==Value.type "tuple")=false:=by decide
 simp only[h1,h2,h3,Bool.or_false,q0J,if_false];refine aa (Ti p hr hl u λI fp vs St g d Z C D hI hW st=>?_);have q:=C _ _ (Heap.get?_push_size _ rfl);have x:s.heap.objs.size∉fp:=λB=>by
  rcases D _ B with c |c
  .exact absurd c (q02 lt)
  .have G:s.heap.objs.size+1<=s.heap.objs.size:=by rw[<-Y];exact c
   lia
 have key:∀(y:Heap) (H:Nat),St 0 y->(∀b o,b≠s.heap.objs.size->g.get? b=!o->y.get? b=!o)->y.get? s.heap.objs.size=some { cls:=.type "list",data:=.seq #[] H }->
   codeAny (model prog w) A (.builtin "list.extend.loop" #[[.ref s.heap.objs.size,.ref I,.ref s.heap.objs.size],[]]) (λr J=>match r with
    |.ok (.ret v)=>wpAny (model prog w) A (match v with
      |.ref l=>do match (<-load l).data with
       |.seq xs _=>pure xs.toList
       |_=>unsupported "internal:collect"
      |_=>unsupported "internal:collect") R E J
    |_=>False) { s with heap:=y,drawn:=d }:=λy H L M N=>by
  refine codeAny_extend_loopS (hW A.in1 S).toS u s.heap.objs.size x _ es.size 0 _ #[] H rfl (q0L _) L N (ItemsOf.nil _) λs' i G B k f=>?_;dsimp only;refine aa (wpAny_load k (ao ?_));rw[Moved.eq_with B];have ev:i.toList=vs:=by
   apply q00;intro j;rcases Nat.lt_or_ge j es.size with c |c
   .have hj:j<i.size:=by rw[f.1];exact c
    have e1:i[j]? = some i[j]:=by simp[hj]
    rw[q0B,e1];exact(f.2 j _ e1).symm
   .have:vs.length=es.size:=by rw[Z.length_eq];simp
    rw[q0Y (by simp[f.1];exact c),q0Y 'b']
  rw[ev];refine h s'.heap s'.toks d vs (λb o e=>?_) Z;have n:=bo e;refine B.heap b o (λz=>?_) (M b o (q0q n) (C b o (aK _ e)));rcases q0e.mp z with z |z
  .exact absurd z (q0q n)
  .have G:s.heap.objs.size+1<=I:=by rw[<-Y];exact hI
   rw[q0o.mp z]at n;exact absurd n (q1H.mpr (q1t G))
 refine aa (wpAny_holding (Tj (bJ.typeIs (s:={ s with heap:=g,drawn:=d }) (p.at' λo e=>C a o e)) λbb=>?_));refine wpAny_ite_split (λ_=>?_) λ_=>ao #[plainId_quiet q2x _,codeAny_mono (key g _ st (λb o _ e=>e) q) λr J z=>?_]
 .refine aa (wpAny_rule (aa ?_));refine aa (m:=updateSeq s.heap.objs.size (·.push .none)) (wpAny_updateSeq q rfl ?_);have k:=Heap.get?_update_self (Obj.mapSeq (·.push Value.none)) q rfl;refine wpAny_updateSeq (hz:=by seq_fits) k rfl ?_;have O:=Heap.get?_update_self (Obj.mapSeq (·.pop)) k rfl;have oth:∀b o,b≠s.heap.objs.size->g.get? b=!o->((g.update s.heap.objs.size (Obj.mapSeq (·.push Value.none))).update s.heap.objs.size (Obj.mapSeq (·.pop))).get? b=!o:=λb o n e=>(Heap.get?_update_other _ _ (Ne.symm n)).trans ((Heap.get?_update_other _ _ (Ne.symm n)).trans e);refine ao #[plainId_quiet q2x _,codeAny_mono (key _ _ ((hW A.in1 S).frame 0 _ _ st λb n o e=>oth b o (λz=>x (z▸n)) e) oth O) λr J z=>?_];cases r with
  |error e=>exact z.elim
  |ok Q=>
   cases Q with
   |ret v=>exact z
   |_=>exact z.elim
 .cases r with
  |error e=>exact z.elim
  |ok Q=>
   cases Q with
   |ret v=>exact z
   |_=>exact z.elim
theorem sorted_set(G:A.handled=none)(H:s.heap.get? a=!o)(I:SetO prog w o (ledW w) ks)(R:mC ks.length)
  (h:∀f z  j  d (c:List Value)  m,(∀b u,s.heap.get? b=!u->f.get? b=!u)->(∀b u,f.get? b=!u->z.get? b=!u)->(∀v∈c,∃n t,v=.int n t)->(c.map numOf).Perm ks->c.Pairwise (λx y=>lexLe (rkH f x) (rkH f y)=true)->z.get? f.objs.size=!seqObj "list" c.toArray m->Q (.ref f.objs.size) { s with heap:=z,toks:=j,drawn:=d }) :
  wpAny (model prog w) A (call (.builtin "sorted") [.ref a]) Q E s:=by
 obtain⟨X,Y,t,J,hd,l,rfl,hb,L,M,N⟩:=I;apply Calls.call_function_entry kind_sorted plain_sorted entry_sorted (args_sorted1 _);refine aa (ao ?_);have i:=fits_of_scanBound hb;refine aa (DY G #[#[o,H,J,hd],L] M N i λg j d vs O k=>?_);have B:∀v∈vs,∃n t,v=.int n t:=λv p=>by obtain⟨e,S,rfl⟩:=q0D.mp (k.mem_iff.mp p);obtain⟨t,T⟩:=DH l S;exact#[_,t,T]
 have C:vs.length<=sizeLine:=by rw[k.length_eq,q0b,q0s];exact i
 refine aa (wpAny_newList ?_ C);have dS:(g.push (seqObj "list" vs.toArray 0)).get? g.objs.size=!seqObj "list" vs.toArray 0:=Heap.get?_push_size _ rfl;have hb:∀b o,g.get? b=!o->b≠g.objs.size/\(g.push (seqObj "list" vs.toArray 0)).get? b=!o:=λb o e=>#[q0q (bo e),aK _ e]
 refine aa (wpAny_holding (wpAny_call_entry slot_list_sort #[_,dS,rfl] entry_list_sort (qC dS C (by rw[k.length_eq,q0b,q0s];simpa using R) (Dd B) hb λc D U=>#[_,rfl,?_]) (args_list_sort _)));refine ao #[_,rfl,?_];obtain⟨r,ic⟩:∃r,((g.push (seqObj "list" vs.toArray 0)).update g.objs.size (Obj.mapSeq λ_=>#[])).get? g.objs.size=!seqObj "list" #[] r:=#[_,get?_update_seq dS λ_=>#[]]
 refine h g _ j d c _ O (λb o e=>?_) (λv p=>B v (D.mem_iff.mp p)) ?_ U (get?_update_seq (aK _ (aK _ ic)) λ_=>c.toArray)
 .have q:=hb b o e;unfold sortedHeap;rw[Heap.get?_update_ne _ _ _ _ q.1];refine aK _ (aK _ ?_);rw[Heap.get?_update_ne _ _ _ _ q.1];exact q.2
 .refine((D.trans k).map numOf).trans (.of_eq ?_);rw[q0z];rfl
end L2.TS
namespace L2
open PySem PySem.Spec PyProof.Rows
theorem Inv.drew{Y:St}(I:Inv X a Y H s)(d):Inv X a Y H { s with drawn:=d }:=#[I.ok,I.os,I.bare,I.base,I.loc,I.cell,I.free,I.freeC,I.pin,I.hok,I.len]
end L2
namespace L2.L3
open PySem PySem.Spec PyProof.Rows PySem.W
def ya(P:Program)(w:World)(a:Addr)(c:List Int):HO:=.ext λh=>∃o b,h.get? a=!o/\TS.SetO P w o (TS.ledW w) b/\b.Perm (TS.onceI c)
def DZ(P:Program)(w:World)(K:Frag):List V->Hp->VK->Prop:=λb H Q=>∃p a,b=[.ref p]/\cG K H p (a.map V.int)/\a.length+1<scanBound/\∀l,H l=none->Q (.ref l) (aL H l (ya P w l a))
theorem Tk(f:∀v∈d,∃n t,v=.int n t)(j:(d.map numOf).Perm i)(k:d.Pairwise (λx y=>TS.lexLe (TS.rkH h x) (TS.rkH h y)=true)):bj ((fx i).map V.int) d:=by
 have m:d.map numOf=fx i:=by
  refine q1S (λa b _ _ o p=>by lia) ?_ (q1p (λa b c o p=>by lia) (λa b=>by lia) i) (j.trans (q1v _ _).symm);rw[q0U];refine q1l (λ{x y} q r h=>?_) k;obtain⟨a,t,rfl⟩:=f x q;obtain⟨b,u,rfl⟩:=f y r;refine decide_eq_true (show a<=b from ?_);have g:TS.lexLe [a] [b]=true:=h;unfold TS.lexLe at g;rw[HT.lexLt_cons]at g
  by_cases e:b=a
  .exact Int.le_of_eq e.symm
  .rw[if_neg e]at g
   by_cases s:b<a
   .simp[s]at g
   .omega
 rw[<-m];clear m j k
 induction d with
 |nil=>exact .nil
 |cons v l w=>obtain⟨n,t,rfl⟩:=f v q0h;exact .cons #[t,rfl] (w λu z=>f u (bH _ z))
theorem Tl(d:h.get? a=!o)(f:TS.SetO P w o (TS.ledW w) b)(g:b.Perm (TS.onceI e)):cy P w H h a (ya P w a e):=
 #[#[o,b,d,f,g],#[o,d],λ_ _ c k=>by obtain⟨o,b,h1,h2⟩:=c;exact#[o,b,k o h1,h2]]
theorem Tn(b:X.calm=true):eX X (.type "set") (DZ X.prog X.w X.K):=by intro a s Y H m n Q I r h;obtain⟨p,ns,rfl,c,hb,q⟩:=h;obtain⟨u,rfl,d⟩:=vals1 r;cases d;obtain⟨e,f,pl,t⟩:=I.list c;exact TS.call_set (I.ok.hd b) pl.isList (by simpa using ints_are f) hb λv g o x l i j k=>#[.ref s.heap.objs.size,_,I.laid l (aP _) (Tl i j k),rfl,q _ (I.hok.fresh (aP _))]
theorem Ea:∀{c:List Int}{d},aH G d (c.map PyData.int)->d=c.map V.int
 |[],_,h=>by cases h;rfl
 |n::c,_,h=>by
  cases h with
  |cons a b=>rw[a.int_inv,Ea b];rfl
def qK(b:List PyData):Option (List Int):=match b with
 |[.list ds]=>(fu ds).bind λa=>if a.length<4000 then some a else none
 |_=>none
theorem To{K}(hd:aH (au O H) vs d)(e:qK d=!b):∃a,vs=[.ref a]/\cG K H a (b.map V.int)/\b.length+1<scanBound:=by
 unfold qK at e;split at e
 .rename_i ds;obtain⟨i,h,c⟩:=q0K.mp e;split at c
  .rename_i j;cases c;obtain⟨x,rfl,h1⟩:=gi hd;obtain⟨a,k,rfl,f,g⟩:=h1.lst_inv;rw[qu h]at g;rw[Ea g]at f;exact#[a,rfl,.of (cR f).1,show b.length+1<4096 by lia]
  .cases c
 .cases e
theorem Eb:bootBuiltins "set" = !.type "set":=by decide +kernel
end L2.L3
namespace L2.L3
open PySem PySem.Spec PyProof.Rows
def CK(P:Program)(w:World)(K:Frag)(a:Str->Option Value)(base:Heap)(k:Nat)(x:Str)(f:FM):Prop:=∃st b g fd,FD K a x st b g fd/\cD P w K a base (ej P w) k g fd b (gE K a f)
def CM(P:Program)(w:World)(K:Frag)(b:Str->Option Value)(base:Heap)(C:Addr)(k:Nat)(x:Str)(f:FM):Prop:=∃q st a g fd,MD K C x q st a g fd/\cD P w K b base (ej P w) k g fd a (gE K b f)
theorem cf{K:Frag}{st:Stmt}(N)(h:∃g fd,FD K mg x st ps g fd)(S:cx N ps (dY st))
  (c:∀{g b A a s H E F d},bx k (A.deeper (envOfC x (dY st) s.heap.objs.size g b))->fJ (im (ej P w) P w K mg base N x (dY st) g b A a s H E) F d->
   jb (im (ej P w) P w K mg base N x (dY st) g b A a s H E) F d (ip st) m) (e:autoParam (ps.length<=N.length) Zr._auto_1):CK P w K mg base (k+1) x (bu ps.length N.length m):=by
 obtain⟨g,fd,D⟩:=h;exact#[_,_,g,fd,D,(wG D.fn S e (λ_ _ _ _ _ _ _ _ f i=>c f i))]
theorem gQ{K:Frag}{st:Stmt}(N)(h:∃g fd,MD K C x q st ps g fd)(S:cx N ps (dY st))
  (c:∀{g b A a s H E F d},bx k (A.deeper (envOfC q (dY st) s.heap.objs.size g b))->fJ (im (ej P w) P w K mg base N q (dY st) g b A a s H E) F d->
   jb (im (ej P w) P w K mg base N q (dY st) g b A a s H E) F d (ip st) m) (e:autoParam (ps.length<=N.length) Zr._auto_1):CM P w K mg base C (k+1) x (bu ps.length N.length m):=by
 obtain⟨g,fd,D⟩:=h;exact#[_,_,_,g,fd,D,(wG D.fn S e (λ_ _ _ _ _ _ _ _ f i=>c f i))]
theorem be{pos:Pos}{p:Pos}(d:fJ X F E)(c:CK X.prog X.w X.K X.mg X.base k x f)(h:bx j X.A)(l:FX X F E (e::es) mX)(n:autoParam (k<=j) Zr._auto_1)(o:autoParam (Gl X x) Zq._auto_1)(a:autoParam ((x==("__debug__":Str))=false) Zr._auto_1)
  (q:autoParam (starEach (e::es) X.env=(false,eval e X.env)::starEach es X.env) Zq._auto_1) (b:autoParam ((backTo pos (starEach es X.env)).any (·.1)=false) Zq._auto_1):FO X F E (.Call (.Name x p) (e::es) [] pos) (aS f mX):=by
 obtain⟨st,r,g,fd,D,G⟩:=c;exact mB d G D h l n o a q b
theorem fS{pos:Pos}{apos:Pos}{u}(l:fJ X F E)(cl:dm X.K C)(c:CM X.prog X.w X.K X.mg X.base C k m f)(n:bx j X.A)(o:PE X (.Name x p1) (cu i))(r:FX X F E (e::es) mX)(s:autoParam (k<=j) Zr._auto_1)
  (a:autoParam (starEach (e::es) X.env=(false,eval e X.env)::starEach es X.env) Zq._auto_1) (d:autoParam ((backTo pos (starEach es X.env)).any (·.1)=false) Zq._auto_1)
  (t:autoParam (eval (.Call (.Attribute (.Name x p1) m apos) (e::es) [] pos) X.env=(do
   let h <-eval (.Name x p1) X.env
   standAt apos.atName
   let(f,first) <-holding [h] (getMethod h m u)
   callWith pos f first (backTo pos (starEach (e::es) X.env)) (backToKw pos (keywordEach [] X.env)))) Zq._auto_1) :
  FO X F E (.Call (.Attribute (.Name x p1) m apos) (e::es) [] pos) (bX C i m f mX):=by
 obtain⟨q,st,v,g,fd,D,G⟩:=c;exact Re l cl D.mt G (n.mono s) D.b o r a d t
theorem kY{pos:Pos}{apos:Pos}{r}(d:fJ X F E)(cl:dm X.K C)(c:CM X.prog X.w X.K X.mg X.base C k m f)(h:bx j X.A)(l:PE X (.Name x p1) (cu i))(n:autoParam (k<=j) Zr._auto_1)
  (o:autoParam (eval (.Call (.Attribute (.Name x p1) m apos) [] [] pos) X.env=(do
   let a <-eval (.Name x p1) X.env
   standAt apos.atName
   let(f,first) <-holding [a] (getMethod a m r)
   callWith pos f first (backTo pos (starEach [] X.env)) (backToKw pos (keywordEach [] X.env)))) Zq._auto_1) :
  FO X F E (.Call (.Attribute (.Name x p1) m apos) [] [] pos) (dc C i m f):=by
 obtain⟨q,st,s,g,fd,D,G⟩:=c;exact Rf d cl D.mt G (h.mono n) D.b l o
theorem ub{l:List Str}(h:decide l.Nodup=true):l.Nodup:=of_decide_eq_true h
theorem bU{X}{F}{x}{pos}(i)(a:decide X.N.Nodup=true:=by kernel_rfl)(b:autoParam (X.N[i]? = !x) Zq._auto_1)(c:Loc X.env.scope x:=by first |exact Or.inl rfl |exact Or.inr rfl)(d:X.fn x=true\/X.env.scope.names.lookup x=!.local:=by first |exact .inl rfl |exact .inr rfl |assumption):FG X F (.Name x pos) (aA i):=RL i (ub a) b c d
end L2.L3
namespace L2.TS
open PySem PySem.SetTable
noncomputable def fT(m:Nat)(p:Probe):Probe:=
 if p.more>0 then { p with j:=p.j+1,more:=p.more - 1 } else
 { p with j:=(leap m p.i p.perturb).1,more:=runEnd m (leap m p.i p.perturb).1 - (leap m p.i p.perturb).1,i:=(leap m p.i p.perturb).1,perturb:=(leap m p.i p.perturb).2 }
theorem Ec(t:SetTable)(p):t.advance p=fT t.mask p:=rfl
def bn(m:Nat):Nat->Probe->Probe
 |0,p=>p
 |n+1,p=>bn m n (fT m p)
theorem qL(m):∀a b  p,bn m (a+b) p=bn m b (bn m a p)
 |0,b,p=>by rw[q2r];rfl
 |a+1,b,p=>by rw[q24];exact qL m a b (fT m p)
theorem uc(m n p):bn m (n+1) p=fT m (bn m n p):=by rw[qL m n 1 p];rfl
noncomputable def dQ(m i a:Nat)(d:Option Nat):Probe:={ j:=i,more:=runEnd m i - i,i,perturb:=a,dummy:=d }
theorem ud(m):∀k  p,k<=p.more->bn m k p = { p with j:=p.j+k,more:=p.more - k }
 |0,p,_=>by cases p;rfl
 |k+1,p,h=>by
  show bn m k (fT m p)=_;have e:fT m p = { p with j:=p.j+1,more:=p.more - 1 }:=by unfold fT;rw[if_pos 'b']
  rw[e,ud m k _ 'b',show p.j+1+k=p.j+(k+1) by lia,show p.more - 1 - k=p.more - (k+1) by lia]
theorem Tp(m i):runEnd m i - i<=9:=by unfold runEnd;split<;>lia
theorem Tq(m i a d):∃k≤10,bn m k (dQ m i a d)=dQ m (leap m i a).1 (leap m i a).2 d:=by refine#[runEnd m i - i+1,by have:=Tp m i;lia,?_];rw[uc,ud m (runEnd m i - i) (dQ m i a d) (aP _)];unfold fT dQ;simp
noncomputable def eM(m:Nat):Nat->Nat×Nat->Nat×Nat
 |0,x=>x
 |n+1,x=>eM m n (leap m x.1 x.2)
theorem Ed(m d):∀n i a,∃k≤10 * n,bn m k (dQ m i a d)=dQ m (eM m n (i,a)).1 (eM m n (i,a)).2 d
 |0,i,a=>⟨0,aP _,rfl⟩
 |n+1,i,a=>by obtain⟨k,f,e⟩:=Tq m i a d;obtain⟨b,pX,c⟩:=Ed m d n (leap m i a).1 (leap m i a).2;refine#[k+b,by lia,?_];rw[qL,e,c];rfl
theorem yb(m):∀a b  x,eM m (a+b) x=eM m b (eM m a x)
 |0,b,x=>by rw[q2r];rfl
 |a+1,b,x=>by rw[q24];exact yb m a b _
theorem yc(m):∀n  x,(eM m n x).2=x.2 / 32 ^ n
 |0,x=>by simp[eM]
 |n+1,x=>by show(eM m n (leap m x.1 x.2)).2=_;rw[yc m n];show x.2 / 32 / 32 ^ n=_;rw[Nat.div_div_eq_div_mul,Nat.pow_succ,Nat.mul_comm]
theorem yd(m):∀n  x,x.1<=m->(eM m n x).1<=m
 |0,x,h=>h
 |n+1,x,_=>yd m n _ (q09 (q1T _ (q1i m)))
noncomputable def jj(m:Nat):Nat->Nat->Nat
 |0,i=>i
 |n+1,i=>jj m n ((i * 5+1) % (m+1))
theorem ye(m):∀n i,(eM m n (i,0)).1=jj m n i
 |0,i=>rfl
 |n+1,i=>by show(eM m n (leap m i 0)).1=jj m n _;exact ye m n _
theorem ue(m):∀a b i,jj m (a+b) i=jj m b (jj m a i)
 |0,b,i=>by rw[q2r];rfl
 |a+1,b,i=>by rw[q24];exact ue m a b _
noncomputable def mI(m:Nat):Nat->Nat->List Nat
 |0,_=>[]
 |n+1,i=>i::mI m n ((i * 5+1) % (m+1))
def bG(m:Nat):Bool:=(jj m (m+1) 0==0)&&(List.range (m+1)).all λj=>(mI m (m+1) 0).contains j
theorem Ee(m):∀n i j,j∈mI m n i->∃k<n,jj m k i=j
 |0,_,_,h=>by cases h
 |n+1,i,j,h=>by
  rcases q0e.mp h with rfl |h
  .exact⟨0,q1i _,rfl⟩
  .obtain⟨k,a,e⟩:=Ee m n _ j h;exact#[k+1,by lia,e]
theorem gR:bG 7=true:=by decide +kernel
theorem jk:bG 31=true:=by decide +kernel
theorem hU:bG 127=true:=by decide +kernel
theorem hV:bG 511=true:=by decide +kernel
theorem Ef(T:bG m=true)(e:a<=m)(f:b<=m):∃k≤m,jj m k a=b:=by
 unfold bG at T;rw[q0I]at T;have dN:=by simpa using T.1
 have c:∀j≤m,∃k<m+1,jj m k 0=j:=λj g=>Ee m _ _ _ (by simpa using (q0O.mp T.2 j (q1d.mpr 'b')))
 obtain⟨x,i,ex⟩:=c a e;obtain⟨y,l,d⟩:=c b f
 by_cases h:x<=y
 .refine#[y - x,by lia,?_];rw[<-ex,<-ue,show x+(y - x)=y by lia];exact d
 .refine#[m+1 - x+y,by lia,?_];rw[<-ex,<-ue,show x+(m+1 - x+y)=m+1+y by lia,ue,dN];exact d
theorem Tr(T:bG m=true)(d)(a:i<=m)(c:pb<2 ^ 64)(g:b<=m):∃k<10 * turns m,(bn m k (dQ m i pb d)).j=b:=by
 obtain⟨k,h,e⟩:=Ef T (yd m 13 (i,pb) a) g;obtain⟨n,l,f⟩:=Ed m d (13+k) i pb;refine#[n,by unfold turns;lia,?_];rw[f,yb,show eM m 13 (i,pb)=((eM m 13 (i,pb)).1,0) from Prod.ext rfl (by rw[yc];exact Nat.div_eq_of_lt (q0l c 'd')),ye];exact e
theorem Tt(t:SetTable)(h):t.probeStart h=dQ t.mask (bits h % (t.mask+1)) (bits h) none:=rfl
theorem Eg(h):bits h<2 ^ 64:=by unfold bits;lia
theorem kZ{t:SetTable}(r:di t.place.toList)(e:t.place.toList[i]? = !j):t.slot j=.live i:=by
 obtain⟨g,h2,h3⟩:=qJ r j;have f:=(q0a.mp e).1;have b:below t.place j=i:=by
  rcases q0R (q1e λc=>q0E _ (h2 i j c e)) with c |c
  .obtain⟨x,a⟩:∃x,t.place.toList[below t.place j]? = !x:=#[_,q0c 'b']
   have:=r.lt c a e;have:=h3 _ x (aP _) a;lia
  .exact c
 unfold slot;rw[q0B]at e;simp[b,e]
theorem Tu{t:SetTable}(a:t.dummies = #[])(h:j∉t.place.toList):t.slot j=.empty:=by
 unfold slot;have e:(t.place[below t.place j]?==!j)=false:=by rw[beq_eq_false_iff_ne];intro c;rw[<-q0B]at c;exact h (q0A c)
 simp only[e];have q:has t.dummies j=false:=by rw[a];unfold has;simp
 simp[q]
structure Tb (t:SetTable) (hs:List Int):Prop where
 rise:di t.place.toList
 len:t.place.toList.length=hs.length
 bd:∀x∈t.place.toList,x<=t.mask
 nd:t.dummies = #[]
 tr:bG t.mask=true
 room:hs.length<=t.mask
 reach:∀p∈t.place.toList.zip hs,∃k,p.1=(bn t.mask k (t.probeStart p.2)).j/\∀n<k,(bn t.mask n (t.probeStart p.2)).j∈t.place.toList
theorem Eh:∀(a:List Nat)  n,a.countP (λx=>decide (x<n))<=a.countP (λx=>decide (x<n+1))/\(n∈a->a.countP (λx=>decide (x<n))+1<=a.countP (λx=>decide (x<n+1)))
 |[],n=>#[aP _,λh=>by cases h]
 |x::a,n=>by
  obtain⟨b,h2⟩:=Eh a n;simp only[q18];refine#[by split<;>split<;>lia,λh=>?_];rcases q0e.mp h with rfl |h
  .rw[if_neg 'b',if_pos 'b'];lia
  .split<;>split<;>lia
theorem yf{xs:List Nat}:∀n,(∀j<n,j∈xs)->n<=xs.countP (λx=>decide (x<n))
 |0,_=>q0L _
 |n+1,h=>by have:=yf n λj a=>h j 'b';have:=(Eh xs n).2 (h n 'b');lia
theorem qM{P:Nat->Prop}:∀k,P k->∃n≤k,P n/\∀m<n,¬ P m:=λk=>by
 induction k using Nat.strongRecOn with
 |_ k b=>
  intro h
  by_cases c:∃m<k,P m
  .obtain⟨m,a,pm⟩:=c;obtain⟨n,h1,h2⟩:=b m a pm;exact#[n,by lia,h2]
  .exact#[k,aP _,h,λm a pm=>c #[m,a,pm]]
theorem Tb.first(T:Tb t a)(h):∃k<10 * turns t.mask,(bn t.mask k (t.probeStart h)).j∉t.place.toList/\∀n<k,(bn t.mask n (t.probeStart h)).j∈t.place.toList:=by
 have ex:∃b≤t.mask,b∉t.place.toList:=by refine Classical.byContradiction λc=>?_;have:=yf (t.mask+1) λj g=>Classical.byContradiction λz=>c #[j,by lia,z];have:=q2X (p:=λx=>decide (x<t.mask+1)) (l:=t.place.toList);have:=T.len;have:=T.room;lia
 obtain⟨b,hb,d⟩:=ex;obtain⟨k,m,e⟩:=Tr T.tr none (q09 (q1T _ (q1i _))) (Eg h) hb;rw[<-Tt]at e;obtain⟨n,h1,h2,h3⟩:=qM (P:=λk=>(bn t.mask k (t.probeStart h)).j∉t.place.toList) k (by rw[e];exact d);exact#[n,by lia,h2,λq f=>Classical.byContradiction λz=>h3 q f z]
theorem Ei(m):∀n  p,(bn m n p).dummy=p.dummy
 |0,_=>rfl
 |n+1,p=>by show(bn m n (fT m p)).dummy=_;rw[Ei m n];unfold fT;split<;>rfl
theorem Tv(T:Tb t v)(D:K<10 * turns t.mask)(e:(bn t.mask K (t.probeStart h)).j∉t.place.toList)(b:∀n<K,(bn t.mask n (t.probeStart h)).j∈t.place.toList)(a n)(p:n<=K) :
  (t.probe a h (bn t.mask n (t.probeStart h))=!.empty (bn t.mask K (t.probeStart h)).j none/\∀q,n<=q->q<K->∀i,t.place.toList[i]? = !(bn t.mask q (t.probeStart h)).j->a i≠h)\/
   ∃q i,n<=q/\q<K/\t.place.toList[i]? = !(bn t.mask q (t.probeStart h)).j/\a i=h/\t.probe a h (bn t.mask n (t.probeStart h))=!.candidate (bn t.mask q (t.probeStart h)).j i (bn t.mask (q+1) (t.probeStart h))/\
    ∀r,n<=r->r<q->∀i,t.place.toList[i]? = !(bn t.mask r (t.probeStart h)).j->a i≠h:=by
 have go:∀(d n fuel:Nat),K - n=d->n<=K->K - n<fuel->(probe.go t a h fuel (bn t.mask n (t.probeStart h))=!.empty (bn t.mask K (t.probeStart h)).j none/\∀q,n<=q->q<K->∀i,t.place.toList[i]? = !(bn t.mask q (t.probeStart h)).j->a i≠h)\/
   ∃q i,n<=q/\q<K/\t.place.toList[i]? = !(bn t.mask q (t.probeStart h)).j/\a i=h/\probe.go t a h fuel (bn t.mask n (t.probeStart h))=!.candidate (bn t.mask q (t.probeStart h)).j i (bn t.mask (q+1) (t.probeStart h))/\
    ∀r,n<=r->r<q->∀i,t.place.toList[i]? = !(bn t.mask r (t.probeStart h)).j->a i≠h:=by
  intro d
  induction d with
  |zero=>
   intro n fuel hd p w;obtain rfl:n=K:=by lia
   cases fuel with
   |zero=>lia
   |succ fuel=>refine .inl #[?_,λq g l=>by lia];unfold probe.go;rw[Tu T.nd e];simp only[Ei];rfl
  |succ d x=>
   intro n fuel hd p w;cases fuel with
   |zero=>lia
   |succ fuel=>
    obtain⟨i,m⟩:=q1a.mp (b n 'b')
    by_cases c:a i=h
    .refine .inr #[n,i,aP _,by lia,m,c,?_,λr g l=>by lia];unfold probe.go;rw[kZ T.rise m];simp only[c,beq_self_eq_true,if_true];rw[Ec,<-uc]
    .have un:probe.go t a h (fuel+1) (bn t.mask n (t.probeStart h))=probe.go t a h fuel (bn t.mask (n+1) (t.probeStart h)):=by
      conv=>lhs;unfold probe.go
      rw[kZ T.rise m];simp only[beq_eq_false_iff_ne.mpr c,q0J,if_false];rw[Ec,<-uc]
     have f:∀j,t.place.toList[j]? = !(bn t.mask n (t.probeStart h)).j->a j≠h:=λj o=>by have s:=kZ T.rise o;rw[(kZ T.rise m)]at s;cases s;exact c
     rcases x (n+1) fuel 'b' 'b' 'b' with⟨g1,g2⟩ |⟨q,j,g1,g2,g3,A,B,C⟩
     .refine .inl #[un.trans g1,λq g l j o=>?_];rcases q0R g with z |rfl
      .exact g2 q z l j o
      .exact f j o
     .refine .inr #[q,j,by lia,g2,g3,A,un.trans B,λr g l k u=>?_];rcases q0R g with z |rfl
      .exact C r z l k u
      .exact f k u
 exact go (K - n) n _ rfl p 'b'
theorem Ej{α β:Type}:∀p (c:List α)  d  x (y:β),c.length=d.length->(c.take p++x::c.drop p).zip (d.take p++y::d.drop p)=(c.zip d).take p++(x,y)::(c.zip d).drop p
 |0,c,d,x,y,_=>by simp
 |p+1,[],[],x,y,_=>by simp
 |p+1,[],_::_,_,_,h=>by simp at h
 |p+1,_::_,[],_,_,h=>by simp at h
 |p+1,a::c,b::d,x,y,h=>by simp only[List.take_succ_cons,q1O,q1I,q2U,true_and];exact Ej p c d x y (by simpa using h)
theorem uf{α:Type}{a:List α}{x y}:y∈a.take p++x::a.drop p↔y=x\/y∈a:=by
 rw[q0f,q0e];have:y∈a↔y∈a.take p\/y∈a.drop p:=by rw[<-q0f,q16]
 rw[this];constructor
 .rintro(h |h |h)
  .exact .inr (.inl h)
  .exact .inl h
  .exact .inr (.inr h)
 .rintro(h |h |h)
  .exact .inr (.inl h)
  .exact .inl h
  .exact .inr (.inr h)
theorem Tb.put(T:Tb t a)(e:(bn t.mask K (t.probeStart h)).j∉t.place.toList)(b:∀n<K,(bn t.mask n (t.probeStart h)).j∈t.place.toList)(g:(bn t.mask K (t.probeStart h)).j<=t.mask)(l:a.length+1<=t.mask) :
  Tb (t.put (bn t.mask K (t.probeStart h)).j).1 (a.take (below t.place (bn t.mask K (t.probeStart h)).j)++h::a.drop (below t.place (bn t.mask K (t.probeStart h)).j)):=by
 generalize i:(bn t.mask K (t.probeStart h)).j=j at e g ⊢;have pl:(t.put j).1.place.toList=t.place.toList.take (below t.place j)++j::t.place.toList.drop (below t.place j):=by show(insertAt t.place (below t.place j) j).toList=_;rw[SetTable.toList_insertAt]
 have mk:(t.put j).1.mask=t.mask:=rfl;have le:=T.len;refine#[by exact Dz T.rise e,?_,λx c=>?_,?_,T.tr,?_,λp d=>?_]
 .rw[pl];simp only[q0u,q0i,q1w,q1M];rw[le]
 .rw[pl]at c;rcases uf.mp c with rfl |c
  .exact g
  .exact T.bd x c
 .show(if has t.dummies j=true then _ else t.dummies) = #[];have q:has t.dummies j=false:=by rw[T.nd];unfold has;simp
  rw[q];exact T.nd
 .simp only[q0u,q0i,q1w,q1M];lia
 .rw[pl,Ej _ _ _ _ _ le]at d;rcases uf.mp d with rfl |d
  .refine#[K,i.symm,λn f=>?_]
   .rw[pl];exact uf.mpr (.inr (b n f))
  .obtain⟨k,h1,h2⟩:=T.reach p d;refine#[k,h1,λn f=>?_];rw[pl];exact uf.mpr (.inr (h2 n f))
theorem ug(m):∀n  p,p.j+p.more<=m->(bn m n p).j+(bn m n p).more<=m
 |0,_,h=>h
 |n+1,p,h=>by
  apply ug m n _;unfold fT;split
  .lia
  .have:(leap m p.i p.perturb).1<=m:=q09 (q1T _ (q1i m));unfold runEnd;split<;>lia
theorem Tw(t:SetTable)(h n):(bn t.mask n (t.probeStart h)).j<=t.mask:=by
 have:=ug t.mask n (t.probeStart h) (by
  have:bits h % (t.mask+1)<=t.mask:=q09 (q1T _ (q1i _));show bits h % (t.mask+1)+(runEnd t.mask _ - _)<=t.mask;unfold runEnd;split<;>lia)
 lia
theorem Tz(m i a d):bn m (runEnd m i - i+1) (dQ m i a d)=dQ m (leap m i a).1 (leap m i a).2 d:=by rw[uc,ud m (runEnd m i - i) (dQ m i a d) (aP _)];unfold fT dQ;simp
theorem Ek(m i):i<=runEnd m i:=by unfold runEnd;split<;>lia
abbrev Fr(owner:Array (Option Nat))(j:Nat):Prop:=(owner.getD j (!0)).isNone=true
theorem El(h:((List.range (runEnd m i+1 - i)).find? λk=>(owner.getD (i+k) (!0)).isNone)=none)(a:k<=runEnd m i - i):¬ Fr owner (i+k):=by have:=List.find?_eq_none.mp h k (q1d.mpr (by have:=Ek m i;lia));simpa using this
theorem Em(d):∀fuel i a j,layClean.free m owner fuel i a=!j->∃n,(bn m n (dQ m i a d)).j=j/\Fr owner j/\∀q<n,¬ Fr owner (bn m q (dQ m i a d)).j
 |0,i,a,j,e=>by cases e
 |fuel+1,i,a,j,e=>by
  have at_:∀q≤runEnd m i - i,(bn m q (dQ m i a d)).j=i+q:=λq b=>by rw[ud m q (dQ m i a d) b];rfl
  unfold layClean.free at e;cases f:(List.range (runEnd m i+1 - i)).find? λk=>(owner.getD (i+k) (!0)).isNone with
  |some k=>rw[f]at e;cases e;obtain⟨g,x,h,h2,h3⟩:=List.find?_eq_some_iff_getElem.mp f;simp only[q1L]at h;simp only[List.getElem_range]at h2 h3;subst h2;refine#[x,at_ x 'b',g,λq b=>?_];rw[at_ q 'b'];intro z;have:=h3 q b;rw[z]at this;cases this
  |none=>
   rw[f]at e;obtain⟨n,g,h2,h3⟩:=Em d fuel (leap m i a).1 (leap m i a).2 j e;rw[<-Tz m i a d]at g h3;refine#[runEnd m i - i+1+n,by rw[qL];exact g,h2,λq b=>?_]
   by_cases c:q<=runEnd m i - i
   .rw[at_ q c];exact El f c
   .have:=h3 (q - (runEnd m i - i+1)) 'b';rw[<-qL,show runEnd m i - i+1+(q - (runEnd m i - i+1))=q by lia]at this;exact this
theorem En:∀n fuel i a,n<fuel->Fr owner (eM m n (i,a)).1->(layClean.free m owner fuel i a).isSome=true
 |n,0,_,_,h,_=>by lia
 |n,fuel+1,i,a,h,f=>by
  unfold layClean.free;cases e:(List.range (runEnd m i+1 - i)).find? λk=>(owner.getD (i+k) (!0)).isNone with
  |some k=>rfl
  |none=>
   cases n with
   |zero=>exact absurd f (El e (q0L _))
   |succ n=>exact En n fuel _ _ 'b' f
theorem TB(T:bG m=true)(c:b<=m)(f:Fr owner b)(h):∃j,layClean.free m owner (turns m) (bits h % (m+1)) (bits h)=!j:=by
 obtain⟨k,d,e⟩:=Ef T (yd m 13 (bits h % (m+1),bits h) (q09 (q1T _ (q1i _)))) c;have:=En (13+k) (turns m) (bits h % (m+1)) (bits h) (by unfold turns;lia) (by
  rw[yb,show eM m 13 (bits h % (m+1),bits h)=((eM m 13 (bits h % (m+1),bits h)).1,0) from Prod.ext rfl (by rw[yc];exact Nat.div_eq_of_lt (q0l (Eg h) 'd')),ye,e];exact f)
 exact q0W.mp this
noncomputable def cg(m:Nat)(owner:Array (Option Nat)):List (Nat×Nat):=(List.range (m+1)).filterMap λj=>(owner.getD j none).map (j,·)
theorem Eo{c:Nat->Option (Nat×Nat)}:∀l:List Nat,(∀a∈l,c a=g a)->l.filterMap c = l.filterMap g
 |[],_=>rfl
 |a::l,h=>by
  have d:=Eo l λb f=>h b (.tail _ f);have e:=h a (.head _);cases q:g a with
  |none=>rw[q1m (e.trans q),q1m q,d]
  |some x=>rw[q1b (e.trans q),q1b q,d]
theorem Ep{d:Nat->Option (Nat×Nat)}(f:g j=none)(b:d j=!p)(ne:∀i,i≠j->d i=g i):∀l:List Nat,l.Nodup->j∈l->(l.filterMap d).Perm (p::l.filterMap g)
 |[],_,h=>by cases h
 |i::l,nd,h=>by
  obtain⟨m,n⟩:=q0V.mp nd
  by_cases c:i=j
  .subst c;rw[q1b b,q1m f,(Eo l λa o=>ne a λz=>m (z▸o))]
  .have r:j∈l:=by
    rcases q0e.mp h with z |z
    .exact absurd z.symm c
    .exact z
   have k:=Ep f b ne l n r;cases q:g i with
   |none=>rw[q1m ((ne i c).trans q),q1m q];exact k
   |some x=>rw[q1b ((ne i c).trans q),q1b q];exact(k.cons x).trans (.swap ..)
structure Ow (m:Nat) (hs:List Int) (owner:Array (Option Nat)) (k:Nat):Prop where
 size:owner.size=m+1
 pm:((cg m owner).map (·.2)).Perm (List.range k)
 reach:∀p∈cg m owner,∃h n,hs[p.2]? = !h/\p.1=(bn m n (dQ m (bits h % (m+1)) (bits h) none)).j/\∀q<n,¬ Fr owner (bn m q (dQ m (bits h % (m+1)) (bits h) none)).j
theorem Er(c:owner.size=m+1)(d:j<=m):¬ Fr owner j↔j∈(cg m owner).map (·.1):=by
 rw[q0D];have g:owner.getD j (!0)=owner.getD j none:=by simp[show j<owner.size by lia]
 constructor
 .intro h;cases e:owner.getD j none with
  |none=>exact absurd (by show(owner.getD j (!0)).isNone=true;rw[g,e];rfl) h
  |some i=>exact#[(j,i),q1J.mpr #[j,q1d.mpr 'b',by rw[e];rfl],rfl]
 .rintro⟨p,b,rfl⟩ f;obtain⟨x,_,e⟩:=q1J.mp b;obtain⟨i,h1,rfl⟩:=q0g.mp e;have a:(owner.getD x (!0)).isNone=true:=f;rw[g,h1]at a;cases a
theorem Ow.step(O:Ow m l owner k)(v:l[k]? = !h)(e:layClean.free m owner (turns m) (bits h % (m+1)) (bits h)=!j):Ow m l (owner.setIfInBounds j (!k)) (k+1):=by
 obtain⟨n,h1,h2,h3⟩:=Em none _ _ _ _ e;have d:bits h % (m+1)<=m:=q09 (q1T _ (q1i _));have C:j<=m:=by
  have:=ug m n (dQ m (bits h % (m+1)) (bits h) none) (by
   show bits h % (m+1)+(runEnd m _ - _)<=m;unfold runEnd;split<;>lia)
  lia
 have w:=O.size;have x:∀i,i≠j->(owner.setIfInBounds j (!k)).getD i none=owner.getD i none:=λi d=>by simp only[q0Q,q2c];rw[if_neg (λz=>d z.symm)]
 have o:∀i,i≠j->(owner.setIfInBounds j (!k)).getD i (!0)=owner.getD i (!0):=λi d=>by simp only[q0Q,q2c];rw[if_neg (λz=>d z.symm)]
 have y:(owner.setIfInBounds j (!k)).getD j none=!k:=by simp[show j<owner.size by lia]
 have A:owner.getD j none=none:=by
  have g:(owner.getD j (!0)).isNone=true:=h2;have:owner.getD j (!0)=owner.getD j none:=by simp[Array.getD,show j<owner.size by lia]
  rw[this]at g;exact Option.isNone_iff_eq_none.mp g
 have t:(cg m (owner.setIfInBounds j (!k))).Perm ((j,k)::cg m owner):=by unfold cg;exact Ep (by rw[A];rfl) (by rw[y];rfl) (λi d=>by rw[x i d]) _ List.nodup_range (q1d.mpr 'b')
 have u:∀i,¬ Fr owner i->¬ Fr (owner.setIfInBounds j (!k)) i:=λi c f=>by have:i≠j:=λz=>c (z▸h2);refine c ?_;have g:((owner.setIfInBounds j (!k)).getD i (!0)).isNone=true:=f;rw[o i this]at g;exact g
 refine#[by simp[w],?_,λp r=>?_]
 .refine(t.map _).trans ?_;rw[q0d,List.range_succ];exact(O.pm.cons k).trans (q2p k _).symm
 .rcases q0e.mp (t.mem_iff.mp r) with rfl |r
  .exact#[h,n,v,h1.symm,λq s=>u _ (h3 q s)]
  .obtain⟨h',B,a,b,c⟩:=O.reach p r;exact#[h',B,a,b,λq s=>u _ (c q s)]
theorem Es(m):cg m (Array.replicate (m+1) none)=[]:=by unfold cg;rw[List.filterMap_eq_nil_iff];intro j a;have:=q1d.mp a;simp[this]
theorem Ow.nil(m b):Ow m b (Array.replicate (m+1) none) 0:=#[by simp,by rw[Es];exact .nil,λp a=>by rw[Es]at a;cases a]
theorem Ow.room(O:Ow m a owner k)(d:k<=m):∃b≤m,Fr owner b:=by refine Classical.byContradiction λc=>?_;have h:=yf (m+1) λj e=>(Er O.size 'b').mp λf=>c #[j,by lia,f];have h2:=q2X (p:=λx=>decide (x<m+1)) (l:=(cg m owner).map (·.1));have h3:=O.pm.length_eq;simp only[q0b,q1L]at h2 h3;lia
noncomputable abbrev Et(m:Nat):Option (Array (Option Nat)×Nat)->Int->Option (Array (Option Nat)×Nat):=λa h=>do
 let(owner,k) <-a;let j <-layClean.free m owner (turns m) (bits h % (m+1)) (bits h)
 pure (owner.setIfInBounds j (!k),k+1)
theorem Eu(T:bG m=true)(g)(o:g.length<=m+1):∀rest  k  owner,Ow m g owner k->g.drop k=rest->∃d,rest.foldl (Et m) (!(owner,k))=!(d,g.length)/\Ow m g d g.length
 |[],k,owner,O,e=>by
  have i:=List.drop_eq_nil_iff.mp e;have q:k<=g.length:=by refine Classical.byContradiction λc=>?_;have:(k - 1)∈(cg m owner).map (·.2):=O.pm.mem_iff.mpr (q1d.mpr 'b');obtain⟨p,r,e⟩:=q0D.mp this;obtain⟨h,n,a,_⟩:=O.reach p r;have:=(q0a.mp a).1;lia
  obtain rfl:k=g.length:=by lia
  exact#[owner,rfl,O]
 |h::rest,k,owner,O,e=>by
  have i:=by
   have:(g.drop k)[0]? = !h:=by rw[e];rfl
   rw[List.getElem?_drop]at this;exact this
  have q:=(q0a.mp i).1;obtain⟨b,hb,f⟩:=O.room 'b';obtain⟨j,l⟩:=TB T hb f h;obtain⟨d,h1,h2⟩:=Eu T g o rest (k+1) _ (O.step i l) (by rw[<-q2Y,e];rfl);refine#[d,?_,h2];rw[q1Y,<-h1]
  congr 1
  show(do
   let j <-layClean.free m owner (turns m) (bits h % (m+1)) (bits h)
   pure (owner.setIfInBounds j (!k),k+1))=_
  rw[l];rfl
theorem TC(T:bG m=true)(a)(b:a.size<=m+1):∃owner,layClean m a=!owner/\Ow m a.toList owner a.size:=by obtain⟨owner,h1,h2⟩:=Eu T a.toList (by simpa using b) a.toList 0 _ (Ow.nil m _) rfl;refine#[owner,?_,by simpa using h2];unfold layClean;rw[<-Array.foldl_toList,h1];rfl
theorem TD(m)(owner):di ((cg m owner).map (·.1)):=List.pairwise_lt_range.sublist (tV _)
theorem TF{led }(T:bG m=true)(d)(l:d.size<=m):∃t' order,laid m fg mv led pl d=!(t',order)/\order.toList.Perm (List.range d.size)/\Tb t' (order.toList.map λi=>(d[i]?).getD 0)/\t'.mask=m/\t'.led=led/\t'.moves=mv:=by
 obtain⟨owner,h1,O⟩:=TC T d 'b';refine#[{ mask:=m,place:=((cg m owner).map (·.1)).toArray,dummies:=#[],finger:=fg,led,moves:=mv,plain:=pl },((cg m owner).map (·.2)).toArray,?_,O.pm,?_,rfl,rfl,rfl]
 .unfold laid;rw[h1];rfl
 .refine#[TD m owner,by simp,λx r=>?_,rfl,T,by simp[(by have:=O.pm.length_eq;simpa using this),l],λp g=>?_]
  .obtain⟨p,g,rfl⟩:=q0D.mp r;obtain⟨j,s,e⟩:=q1J.mp g;obtain⟨i,_,rfl⟩:=q0g.mp e;have:=q1d.mp s;lia
  .have f:p∈((cg m owner).map (·.1)).zip ((cg m owner).map λq=>(d[q.2]?).getD 0):=by
    have e:((cg m owner).map (·.2)).map (λi=>(d[i]?).getD 0)=(cg m owner).map λq=>(d[q.2]?).getD 0:=by rw[q0z];rfl
    rw[<-e];exact g
   rw[List.zip_map']at f;obtain⟨q,t,rfl⟩:=q0D.mp f;obtain⟨h,n,a,b,c⟩:=O.reach q t;have k:(d[q.2]?).getD 0=h:=by rw[<-q0B,a];rfl
   refine#[n,?_,λz u=>?_]
   .rw[k];exact b
   .rw[k];have le:(bn m z (dQ m (bits h % (m+1)) (bits h) none)).j<=m:=by
     have:=ug m z (dQ m (bits h % (m+1)) (bits h) none) (by
      have:bits h % (m+1)<=m:=q09 (q1T _ (q1i _));show bits h % (m+1)+(runEnd m _ - _)<=m;unfold runEnd;split<;>lia)
     lia
    exact(Er O.size le).mp (c z u)
end L2.TS
namespace L2.TS
open PySem PyProof.Rows
abbrev TK(prog:Program)(w:World)(h:Heap)(b:List Int)(a:Addr):Prop:=IsTupleKey (intKind prog w) h b a
noncomputable abbrev hT(prog:Program)(w:World)(a:List Int):Int:=tupleKeyHash (intKind prog w) a
theorem Ev(f:TK prog w s.heap g a)(h:Q false s):wpAny (model prog w) A (ofAClassStatement 8 (.ref a)) Q E s:=by
 have hT:=f.typeIs;obtain⟨o,items,n,i,_,hd,j⟩:=f;unfold ofAClassStatement;refine aa (wpAny_typeOf hT (aa (ao (aa (wpAny_seqItems i hd ?_)))));apply aa;rw[<-Array.forIn_toList];have k:∀v,carriedByValue v=true->ofAClassStatement 7 v=pure false:=λv l=>by
  cases v with
  |ref a=>simp[carriedByValue]at l
  |_=>first |rfl |(rfl)
 refine wpAny_forIn_list _ (λrest r c=>r.1=none/\c = s/\∀v∈rest,carriedByValue v=true) _ ?_ ?_ _ _ #[rfl,rfl,j.byValue]
 .rintro v rest r c ⟨d,rfl,b⟩;rw[k _ (b v q0h)];exact aa (ao (ao #[rfl,rfl,λu e=>b u (bH _ e)]))
 .rintro⟨m,p⟩ c ⟨d,rfl,_⟩;subst d;exact ao h
theorem TH(i:TK prog w s.heap k b)(l:∀v∈vs,∃a c,v=.ref c/\TK prog w s.heap a c)(h:Q false s):wpAny (model prog w) A (searchCouldBeSeen (.ref b) vs) Q E s:=by
 refine aa (wpAny_forIn_list _ (λrest r e=>r.1=none/\e = s/\∀v∈rest,∃a c,v=.ref c/\TK prog w s.heap a c) _ ?_ ?_ _ _ #[rfl,rfl,l])
 .rintro v rest r e ⟨f,rfl,d⟩;obtain⟨a,c,rfl,j⟩:=d v q0h;have go:=λu g=>d u (bH _ g);dsimp only;split
  .exact ao #[rfl,rfl,go]
  .exact aa (wpAny_eqIsQuiet_tuple i (aa (wpAny_eqIsQuiet_tuple j (aa (Ev i (aa (Ev j (ao #[rfl,rfl,go]))))))))
 .rintro⟨m,n⟩ e ⟨f,rfl,_⟩;subst f;exact ao h
structure df (prog:Program) (w:World) (h:Heap) (es:Array (Int×Value)) (t:SetTable) (led:Bool) (rows:List (List Int×Addr)):Prop where
 es:es.toList=rows.map λr=>(hT prog w r.1,Value.ref r.2)
 key:∀r∈rows,TK prog w h r.1 r.2
 tb:Tb t (rows.map λr=>hT prog w r.1)
 mks:t.mask=7\/t.mask=31\/t.mask=127\/t.mask=511
 full:rows.length * 5<t.mask * 3
 led:t.led=led
theorem df.odd{led}(S:df prog w h a t led rows):t.mask % 2=1:=by rcases S.mks with e |e |e |e<;>rw[e]
theorem df.fits{led}(S:df prog w h a t led rows):t.fits a.size=true:=by have h1:=S.tb.len;have h2:=congrArg List.length S.es;have h3:=S.tb.room;unfold SetTable.fits SetTable.fill;rw[S.tb.nd];simp only[q0b,q0s]at h1 h2 h3;simp;lia
theorem df.at_{led}(S:df prog w h a t led rows)(i:Nat):a[i]? = rows[i]?.map λr=>(hT prog w r.1,Value.ref r.2):=by rw[<-q0B,S.es,q0k]
theorem TJ{K}(hu:A.units<cLine)(O:s.heap.get? a=!o)(hd:o.data=.set G ep t)(S:df prog w s.heap G t led rows)(R:TK prog w s.heap g b)
  (hK:K<10 * SetTable.turns t.mask) (T:(bn t.mask K (t.probeStart (hT prog w g))).j∉t.place.toList) (hB:∀n<K,(bn t.mask n (t.probeStart (hT prog w g))).j∈t.place.toList)
  (yes:g∈rows.map (·.1)->∀i,Q (.there i) s) (no:g∉rows.map (·.1)->Q (.free (bn t.mask K (t.probeStart (hT prog w g))).j false) s) :
  ∀d n fuel  st,K - n=d->n<=K->d<fuel->st.getD (t.probeStart (hT prog w g))=bn t.mask n (t.probeStart (hT prog w g))->
   (∀r<n,∀(i:Nat)  row,t.place.toList[i]? = !(bn t.mask r (t.probeStart (hT prog w g))).j->rows[i]? = !row->row.1≠g)->wpAny (model prog w) A (setSearchFrom a (.ref b) (hT prog w g) true fuel st) Q E s:=by
 intro d
 induction d using Nat.strongRecOn with
 |_ d ih=>
  intro n fuel st a1 hn hf U y;cases fuel with
  |zero=>lia
  |succ fuel=>
   unfold setSearchFrom;refine aa (wpAny_setState_of O hd S.fits ?_);dsimp only;have gw:t.gaveWay=false:=by unfold SetTable.gaveWay;rw[S.odd];rfl
   rw[gw,U];simp only[q0J,if_false];have key:∀f:Nat->Int,(∀i,f i=((G[i]?).map (·.1)).getD 0)->(t.probe f (hT prog w g) (bn t.mask n (t.probeStart (hT prog w g)))=!.empty (bn t.mask K (t.probeStart (hT prog w g))).j none/\g∉rows.map (·.1))\/
     ∃q i row,n<=q/\q<K/\rows[i]? = !row/\t.place.toList[i]? = !(bn t.mask q (t.probeStart (hT prog w g))).j/\t.probe f (hT prog w g) (bn t.mask n (t.probeStart (hT prog w g)))=!.candidate (bn t.mask q (t.probeStart (hT prog w g))).j i (bn t.mask (q+1) (t.probeStart (hT prog w g)))/\
      ∀r<q,∀(i:Nat) (row:List Int×Addr),t.place.toList[i]? = !(bn t.mask r (t.probeStart (hT prog w g))).j->rows[i]? = !row->row.1≠g:=by
    intro f X;have I:∀(i:Nat) (row:List Int×Addr),rows[i]? = !row->f i=hT prog w row.1:=λi row e=>by rw[X,S.at_,e];rfl
    have B:∀i j,t.place.toList[i]? = !j->∃row,rows[i]? = !row:=λi j e=>by have H:=(q0a.mp e).1;have p:=S.tb.len;rw[q0b]at p;exact#[_,q0c 'b']
    rcases Tv S.tb hK T hB f n hn with⟨Y,p2⟩ |⟨q,i,q1,q2,q3,q4,Z,q6⟩
    .refine .inl #[Y,λhm=>?_];obtain⟨row,C,rfl⟩:=q0D.mp hm;obtain⟨i,M⟩:=q1a.mp C;have hl:=(q0a.mp M).1;have p:=S.tb.len;rw[q0b]at p;obtain⟨j,J⟩:∃j,t.place.toList[i]? = !j:=#[_,q0c 'b']
     have hz:(j,hT prog w row.1)∈t.place.toList.zip (rows.map λr=>hT prog w r.1):=by refine q0A (i:=i) ?_;rw[q19];exact#[J,by rw[q0k,M];rfl]
     obtain⟨k,k1,k2⟩:=S.tb.reach _ hz;simp only at k1 k2;have kK:k<K:=by
      rcases Nat.lt_trichotomy k K with c |c |c
      .exact c
      .subst c;exact absurd (by rw[<-k1];exact q0A J) T
      .exact absurd (k2 K c) T
     rw[k1]at J
     by_cases c:k<n
     .exact y k c i row J M rfl
     .exact p2 k 'b' kK i J (I i row M)
    .obtain⟨row,C⟩:=B i _ q3;refine .inr #[q,i,row,q1,q2,C,q3,Z,λr u j l H p=>?_]
     by_cases c:r<n
     .exact y r c j l H p
     .intro z;exact q6 r 'b' u j H (by rw[I j l p,z])
   rcases key (λi=>((G[i]?).map (·.1)).getD 0) (λ_=>rfl) with⟨Y,a0⟩ |⟨q,i,row,q1,q2,C,hp,Z,q6⟩
   .erw [Y]
    exact ao (no a0)
   .erw [Z]
    dsimp only;have N:=q0A C;have D:G[i]? = !(hT prog w row.1,.ref row.2):=by rw[S.at_,C];rfl
    have quiet:∀Q':Bool->Shared->Prop,Q' false s->wpAny (model prog w) A (searchCouldBeSeen (Value.ref b) (List.map (λx=>x.snd) (Array.filter (λx=>x.fst==hT prog w g) G).toList)) Q' E s:=λQ' h=>TH R (λv hv=>by
     obtain⟨e,he,rfl⟩:=q0D.mp hv;have L:e∈G.toList:=by have:=q2D.mp he;exact q2D.mpr (Array.mem_filter.mp this).1
     rw[S.es]at L;obtain⟨r,u,rfl⟩:=q0D.mp L;exact#[r.1,r.2,rfl,S.key r u]) h
    have m:row.1≠g->∀r<q+1,∀(i:Nat) (row:List Int×Addr),t.place.toList[i]? = !(bn t.mask r (t.probeStart (hT prog w g))).j->rows[i]? = !row->row.1≠g:=λc r u i' l H p=>by
     by_cases z:r<q
     .exact q6 r z i' l H p
     .obtain rfl:r=q:=by lia
      have e1:=kZ S.tb.rise hp;have e2:=kZ S.tb.rise H;rw[e1]at e2;cases e2;rw[C]at p;cases p;exact c
    rw[D];dsimp only;split
    .refine aa (quiet _ ?_);simp only[q0J,if_false];refine aa (wpAny_holding (wpAny_eqBool_tuple hu (S.key row N) R ?_));refine aa (wpAny_setState_of O hd S.fits ?_);dsimp only
     by_cases c:row.1=g
     .simp only[c,decide_true,q2F,if_true];exact ao (yes (c▸q0D.mpr #[row,N,rfl]) none)
     .simp only[c,decide_false,q2Z,q0J,if_false];have sm:t.sameMemory t.moves t.mask=!true:=by unfold SetTable.sameMemory;simp
      rw[sm];simp only[if_true];rw[kZ S.tb.rise hp];simp only[D];refine aa (wpAny_isSame_ref_self ?_);refine aa (ao ?_);simp only[if_true];exact ih (K - (q+1)) 'b' (q+1) fuel (!_) rfl 'b' 'b' rfl (m c)
    .refine aa (wpAny_holding (wpAny_eqBool_tuple hu (S.key row N) R ?_));refine aa (wpAny_setState_of O hd S.fits ?_);dsimp only
     by_cases c:row.1=g
     .simp only[c,decide_true,q2F,if_true];exact ao (yes (c▸q0D.mpr #[row,N,rfl]) none)
     .simp only[c,decide_false,q2Z,q0J,if_false];have sm:t.sameMemory t.moves t.mask=!true:=by unfold SetTable.sameMemory;simp
      rw[sm];simp only[if_true];rw[kZ S.tb.rise hp];simp only[D];refine aa (wpAny_isSame_ref_self ?_);refine aa (ao ?_);simp only[if_true];exact ih (K - (q+1)) 'b' (q+1) fuel (!_) rfl 'b' 'b' rfl (m c)
theorem TL(h:ItemsAre (intKind prog w) b vs):∀v∈vs,∃n t,v=.int n t:=by
 induction h with
 |nil=>intro v a;cases a
 |cons h1 _ c=>
  intro v a;rcases q0e.mp a with rfl |a
  .obtain⟨t,h2⟩:=Value.isInt_shape (h1);exact#[_,t,h2]
  .exact c v a
theorem qN(g:TK prog w s.heap i a)(h:Q true s):wpAny (model prog w) A (hashByValue 8 (.ref a)) Q E s:=by
 have hT:=g.typeIs;obtain⟨o,items,n,j,_,hd,k⟩:=g;refine aa (wpAny_specialOf hT F.slot_tuple_hash.lookup (aa (wpAny_seqItems j hd (aa ?_))));show wpAny _ _ (forIn items _ _) _ _ s;rw[<-Array.forIn_toList];refine wpAny_forIn_list _ (λrest r c=>r.1=none/\c = s/\∀v∈rest,∃n t,v=.int n t) _ ?_ ?_ _ _ #[rfl,rfl,TL k]
 .rintro v rest r c ⟨d,rfl,b⟩;obtain⟨n,t,rfl⟩:=b v q0h;have e:hashByValue 7 (.int n t)=pure true:=by rfl
  rw[e];exact aa (ao (ao #[rfl,rfl,λu f=>b u (bH _ f)]))
 .rintro⟨l,m⟩ c ⟨d,rfl,_⟩;subst d;exact ao h
theorem TK.but(k:TK prog w h g b)(l:h.get? a=!o)(hd:o.data=.set r j t)(m:Heap.SameBut a h f):TK prog w f g b:=by
 obtain⟨i,items,n,d,p,c,q⟩:=k;exact#[i,items,n,(m.2 b (by rintro rfl;obtain rfl:i = o:=q0r (d.symm.trans l);rw[hd]at c;exact nomatch c)).trans d,p,c,q]
theorem TM{α:Type}(l)(d:α):(List.range l.length).map (λi=>(l[i]?).getD d)=l:=by
 apply q00;intro i;rw[q0k]
 by_cases h:i<l.length
 .rw[List.getElem?_range h];simp[h]
 .rw[q0Y (by simpa using q1e h),q0Y (by simpa using q1e h)];rfl
theorem Ew{α:Type}{a:Array α}{rows}(e:a.toList=rows)(d):∀l:List Nat,(∀i∈l,i<rows.length)->l.filterMap (λi=>a[i]?)=l.map λi=>(rows[i]?).getD d
 |[],_=>rfl
 |i::l,h=>by
  have q:a[i]? = !(rows[i]?).getD d:=by rw[<-q0B,e];simp[(h i (.head _))]
  rw[q1b q,q0d,Ew e d l λj c=>h j (.tail _ c)]
theorem TN(k:s.heap.get? a=!o)(D:o.ExactSet)(hd:o.data=.set d C t)(l:d.toList=rows.map λr=>(hT prog w r.1,Value.ref r.2))(G:∀r∈rows,TK prog w s.heap r.1 r.2)(H:t.fits d.size=true)(I:t.led=led)
  (x:SetTable.sizeAbove c=m+1) (mk:m=7\/m=31\/m=127\/m=511) (full:rows.length * 5<m * 3)
  (q:∀g h j n t' b,Heap.SameBut a s.heap g->g.get? a=!h->h.ExactSet->h.data=.set j n t'->df prog w g j t' led b->b.Perm rows->Q () { s with heap:=g }):wpAny (model prog w) A (setRelay a c) Q E s:=by
 have tr:bG m=true:=by
  rcases mk with rfl |rfl |rfl |rfl
  .exact gR
  .exact jk
  .exact hU
  .exact hV
 have sz:d.size=rows.length:=by rw[<-q0s,l,q0b]
 obtain⟨t',order,h1,h2,h3,y,J,_⟩:=TF (fg:=t.finger) (mv:=t.movedTo m) (led:=t.led) (pl:=t.plain) tr (d.map (·.1)) (by rw[q2w,sz];lia);rw[q2w,sz]at h2;have inl:∀i∈order.toList,i<rows.length:=λi f=>q1d.mp (h2.mem_iff.mp f);unfold setRelay;refine aa (wpAny_setState_of k hd H ?_);dsimp only;have big:¬ SetTable.sizeAbove c>sizeLine:=by
  rw[x];have:1000<sizeLine:=by decide
  lia
 rw[if_neg big];have rl:t.relaid (d.map (·.1)) c=!(t',order):=by unfold SetTable.relaid;rw[x];exact h1
 rw[rl];have M:(Int×Value):=(0,.none)
 have le:(order.filterMap (λi=>d[i]?)).toList=order.toList.map λi=>((rows.map λr=>(hT prog w r.1,Value.ref r.2))[i]?).getD (0,.none):=by rw[Array.toList_filterMap];exact Ew l _ _ λi f=>by rw[q0b];exact inl i f
 have z:(order.filterMap (λi=>d[i]?)).size=d.size:=by rw[<-q0s,le,q0b,h2.length_eq,q1L,sz]
 refine aa ?_;show wpAny _ _ (do
   if (order.filterMap (λi=>d[i]?)).size != d.size then unsupported "internal:set-table-lost-an-element"
   pure (order.filterMap (λi=>d[i]?),t')) _ _ s
 rw[z];simp only[bne_self_eq_false,q0J,if_false];refine ao ?_;dsimp only;refine tW k D hd (by rw[z,sz];rcases mk with rfl |rfl |rfl |rfl<;>(unfold scanBound;lia)) λg h B p u v=>?_;let b:=order.toList.map λi=>(rows[i]?).getD ([],0);have pm:b.Perm rows:=(h2.map λi=>(rows[i]?).getD ([],0)).trans (.of_eq (TM rows _));refine q g h _ _ _ b B p u v #[?_,λr L=>(G r (pm.mem_iff.mp L)).but k hd B,?_,by rw[y];exact mk,by rw[y,pm.length_eq];exact full,by rw[J];exact I] pm
 .rw[le,q0z];refine q0P λi f=>?_;rw[q0k,q0c (inl i f)];simp[inl i f]
 .have e:(order.toList.map λi=>((d.map (·.1))[i]?).getD 0)=b.map λr=>hT prog w r.1:=by rw[q0z];refine q0P λi f=>?_;have:=inl i f;rw[<-q0B,q17,l,q0z,q0k,q0c this];simp[this]
  rw[<-e];exact h3
theorem kD:SetTable.sizeAbove 20=31+1:=by decide +kernel
theorem kE:SetTable.sizeAbove 76=127+1:=by decide +kernel
theorem jl:SetTable.sizeAbove 308=511+1:=by decide +kernel
theorem TQ(hu:A.units<cLine)(x:s.heap.get? a=!o)(hx:o.ExactSet)(hd:o.data=.set k ep t)(S:df prog w s.heap k t led rows)(J:TK prog w s.heap d b)(a6:rows.length<300)
  (same:d∈rows.map (·.1)->Q false s)
  (new:d∉rows.map (·.1)->∀G L y M t' c,Heap.SameBut a s.heap G->G.get? a=!L->L.ExactSet->L.data=.set y M t'->df prog w G y t' led c->c.Perm ((d,b)::rows)->Q true { s with heap:=G }) :
  wpAny (model prog w) A (setAddHashed a (.ref b) (hT prog w d)) Q E s:=by
 obtain⟨K,N,O,hB⟩:=S.tb.first (hT prog w d)
 have hJ:=Tw t (hT prog w d) K;have len:=S.tb.len;rw[q0b]at len;have full:=S.full;have sz:k.size=rows.length:=by rw[<-q0s,S.es,q0b]
 unfold setAddHashed setAddHashedIn;refine wpAny_holding (aa (wpAny_setState_of x hd S.fits ?_));dsimp only;have bs:byScan (.ref b) k=false:=by unfold byScan Value.scannable;simp
 rw[bs];simp only[q0J,if_false];have a5:K<100000:=by unfold SetTable.turns at N;rcases S.mks with e |e |e |e<;>rw[e]at N<;>lia
 refine aa (TJ (K:=K) hu x hd S J N O hB (λH i=>?_) (λH=>?_) (K - 0) 0 100000 none rfl (q0L _) 'b' rfl λr n=>absurd n (q1V _))
 .exact ao (same H)
 .dsimp only;generalize R:(bn t.mask K (t.probeStart (hT prog w d))).j=j at O hJ ⊢;refine aa (wpAny_setState_of x hd S.fits ?_);dsimp only;have P:=S.tb.put (h:=hT prog w d) (K:=K) (by rw[R];exact O) hB (by rw[R];exact hJ) (by rw[q0b];rcases S.mks with e |e |e |e<;>lia);rw[R]at P;have mp:∀(l:List (List Int×Addr)) (p:Nat),((l.map λr=>hT prog w r.1).take p++hT prog w d::(l.map λr=>hT prog w r.1).drop p)=(l.take p++(d,b)::l.drop p).map λr=>hT prog w r.1:=λl p=>by simp[q22,List.map_drop]
  rw[mp]at P;let c:=rows.take (SetTable.below t.place j)++(d,b)::rows.drop (SetTable.below t.place j);have pm:c.Perm ((d,b)::rows):=by refine List.perm_middle.trans ?_;rw[q16]
  have le:(SetTable.insertAt k (SetTable.below t.place j) (hT prog w d,Value.ref b)).toList=c.map λr=>(hT prog w r.1,Value.ref r.2):=by rw[SetTable.toList_insertAt,S.es];simp[c,q22,List.map_drop]
  have lz:(SetTable.insertAt k (SetTable.below t.place j) (hT prog w d,Value.ref b)).size=rows.length+1:=by rw[<-q0s,le,q0b,pm.length_eq,q0i]
  have kk:∀r∈c,TK prog w s.heap r.1 r.2:=λr n=>by
   rcases q0e.mp (pm.mem_iff.mp n) with rfl |n
   .exact J
   .exact S.key r n
  have main:wpAny (model prog w) A (do
    storeSet a (SetTable.insertAt k (t.put j).2 (hT prog w d,Value.ref b)) (t.put j).1
    if (not false&&(t.put j).1.tooFull)=true then do
      setRelay a (SetTable.grown (k.size+1))
      pure true
     else pure true) Q E s:=?main
  .split
   .exact aa (qN J main)
   .exact aa (ao main)
  refine aa (tW x hx hd (by show(SetTable.insertAt k (SetTable.below t.place j) (hT prog w d,Value.ref b)).size<_;rw[lz];unfold scanBound;lia) λI o1 q z B C=>?_);have D:∀r∈c,TK prog w I r.1 r.2:=λr n=>(kk r n).but x hd q;have T:(t.put j).1.fill=rows.length+1:=by have:=P.len;rw[q0b,pm.length_eq,q0i]at this;unfold SetTable.fill;rw[P.nd,<-q0s,this];rfl
  have mk':(t.put j).1.mask=t.mask:=rfl
  by_cases v:(t.put j).1.tooFull=true
  .rw[v];simp only[Bool.not_false,q2F,if_true];unfold SetTable.tooFull at v;rw[T,mk',decide_eq_true_eq]at v;have pl:=pm.length_eq;rw[q0i]at pl;have U:(t.put j).1.fits (SetTable.insertAt k (SetTable.below t.place j) (hT prog w d,Value.ref b)).size=true:=by unfold SetTable.fits;rw[T,mk',lz];have:=P.len;rw[q0b,pl]at this;rw[<-q0s,this];simp;rcases S.mks with e |e |e |e<;>lia
   have fin:∀{f m:Nat},SetTable.sizeAbove f=m+1->(m=7\/m=31\/m=127\/m=511)->c.length * 5<m * 3->SetTable.grown (k.size+1)=f->
     wpAny (model prog w) A (setRelay a (SetTable.grown (k.size+1)) >>= λ_=>pure true) Q E { s with heap:=I }:=λhw X hf hg=>by
    rw[hg];refine aa (TN (s:={ s with heap:=I }) z B C le D U S.led hw X hf λh2 o2 Y Z t2 u a0 a1 a2 a3 S2 a4=>ao ?_);exact new H h2 o2 Y Z t2 u (q.trans a0) a1 a2 a3 S2 (a4.trans pm)
   have g:SetTable.grown (k.size+1)=(rows.length+1) * 4:=by unfold SetTable.grown;rw[sz,if_neg 'b']
   rcases S.mks with e |e |e |e
   .have:rows.length=4:=by lia
    exact fin kD (.inr (.inl rfl)) 'b' (by rw[g,this])
   .have:rows.length=18:=by lia
    exact fin kE (.inr (.inr (.inl rfl))) 'b' (by rw[g,this])
   .have:rows.length=76:=by lia
    exact fin jl (.inr (.inr (.inr rfl))) 'b' (by rw[g,this])
   .omega
  .rw[Bool.eq_false_iff.mpr v];simp only[Bool.not_false,q2Z,q0J,if_false];have nf:(rows.length+1) * 5<t.mask * 3:=by unfold SetTable.tooFull at v;rw[T,mk',decide_eq_true_eq]at v;lia
   refine ao (new H I o1 _ _ _ c q z B C #[le,D,P,S.mks,?_,S.led] pm);rw[pm.length_eq];exact nf
noncomputable def addL(Y:List (List Int))(k:List Int):List (List Int):=if k∈Y then Y else Y++[k]
def onceL(a:List (List Int)):List (List Int):=a.foldl addL []
theorem TR(Y k):(addL Y k).length<=Y.length+1:=by unfold addL;split<;>simp
theorem Ex:∀(a Y:List (List Int)),(a.foldl addL Y).length<=Y.length+a.length
 |[],Y=>by simp
 |n::a,Y=>by have h1:=Ex a (addL Y n);have h2:=TR Y n;simp only[q1Y,q0i];lia
theorem onceL_len(a):(onceL a).length<=a.length:=by simpa[onceL] using Ex a []
theorem Ey{a:List (List Int)}(e:a[i]? = !n):onceL (a.take (i+1))=addL (onceL (a.take i)) n:=by unfold onceL;rw[List.take_add_one,e,Option.toList_some,q2C];rfl
section
variable{prog:Program}{w:World}{A:Around}{E:Value->Shared->Prop}{s:Shared}
def SetM(prog:Program)(w:World)(h:Heap)(S:Addr)(led:Bool)(c:List (List Int×Addr))(a:List (List Int)):Prop:=
 ∃o b d t rows,h.get? S=!o/\o.ExactSet/\o.data=.set b d t/\df prog w h b t led rows/\(rows.map (·.1)).Perm (onceL a)/\∀r∈rows,r∈c
theorem TU{St}(W:WalksS prog w A.in1 I fp q G d.length P St)(J:S∉fp)(hu:A.in1.units<cLine)
  (L:∀b∈bs,b≠S/\b∉q) (N:∀i v,P i v->∃f b,d[i]? = !f/\bs[i]? = !b/\v=.ref b) (x:d.length<=300):∀k i  s,d.length - i=k->i<=d.length->St i s->SetM prog w s.heap S led (d.zip bs) (d.take i)->(∀(j:Nat)  f  b,d[j]? = !f->bs[j]? = !b->TK prog w s.heap f b)->
   (∀g,Moved (S::q) G s g->SetM prog w g.heap S led (d.zip bs) d->R (.ok (.ret .none)) g)->codeAny (model prog w) A (.builtin "set.update.loop" #[[.ref S,.ref I],[]]) R s:=by
 have O:S∉q:=λh=>J (W.sub _ h);have up:∀b∈q,b∈S::q:=λb x=>.tail _ x;have tk:∀{h h':Heap}{f:List Int}{b:Addr},b∈bs->(∀c o,c∉S::q->h.get? c=!o->h'.get? c=!o)->TK prog w h f b->TK prog w h' f b:=λQ k ⟨o,items,n,h1,H⟩=>#[o,items,n,k _ _ (λz=>by
  rcases q0e.mp z with z |z
  .exact(L _ Q).1 z
  .exact(L _ Q).2 z) h1,H]
 have U:∀r∈d.zip bs,r.2∈bs:=λr m=>(q2f (a:=r.1) (b:=r.2) m).2;intro k
 induction k with
 |zero=>
  intro i s hk hi st M T hR;obtain rfl:i=d.length:=by lia
  refine codeAny_builtin PyProof.Rows.F.entry_set_update_loop ?_;rw[Around.under_plainId PyProof.Rows.F.plain_set_update_loop _];refine aa (W.done s _ _ st λg u=>ao ?_);rw[q2K]at M;obtain⟨o,es,ep,t,rows,m1,m2,m3,l,y,C⟩:=M;exact hR g (u.mono up) #[o,es,ep,t,rows,u.heap S _ O m1,m2,m3,#[l.es,λr m=>tk (U r (C r m)) (λc o' X e=>u.heap c _ (λz=>X (up c z)) e) (l.key r m),l.tb,l.mks,l.full,l.led],y,C]
 |succ k ih=>
  intro i s hk hi st M T hR;have Y:i<d.length:=by lia
  refine codeAny_builtin PyProof.Rows.F.entry_set_update_loop ?_;rw[Around.under_plainId PyProof.Rows.F.plain_set_update_loop _];refine aa (W.item i s _ _ Y st λv g hP Z u=>?_);obtain⟨f,b,e1,e2,rfl⟩:=N i v hP;have bm:=q0A e2;have kp:∀c o,c∉S::q->s.heap.get? c=!o->g.heap.get? c=!o:=λc o X e=>u.heap c _ (λz=>X (up c z)) e;obtain⟨o,es,ep,t,rows,m1,m2,m3,l,y,C⟩:=M;have S':df prog w g.heap es t led rows:=#[l.es,λr m=>tk (U r (C r m)) kp (l.key r m),l.tb,l.mks,l.full,l.led]
  have T':=tk bm kp (T i f b e1 e2);have a0:=u.heap S _ O m1;refine aa (wpAny_holding ?_);unfold setAdd;refine wpAny_holding (aa (wpAny_pyHash_tuple hu T' ?_));have next:∀(D:Shared),Moved (S::q) G s D->St (i+1) D->SetM prog w D.heap S led (d.zip bs) (d.take (i+1))->codeAny (model prog w) A (.builtin "set.update.loop" #[[.ref S,.ref I],[]]) R D:=λD mv a1 M2=>by refine ih (i+1) D 'b' Y a1 M2 (λj a2 b' h1 H=>tk (q0A H) (λc o X e=>mv.heap c _ X e) (T j a2 b' h1 H)) λs3 a3 M3=>?_;exact hR s3 (Moved.trans W.gtrans mv a3) M3
  refine TQ hu a0 m2 m3 S' T' (by have h1:=onceL_len (d.take i);have H:=y.length_eq;rw[q0b]at H;rw[q1w]at h1;lia) (λp=>?_) (λp h' o2 a4 a5 t2 B sb a6 a7 a8 S2 pm=>?_)
  .refine ao #[plainId_quiet PyProof.Rows.F.plain_set_update_loop _,next _ ((u.mono up).then_heap (q1f _ _) λb o x e=>e) (W.frame _ g _ _ Z (q1f _ _) λb x o e=>e) #[o,es,ep,t,rows,a0,m2,m3,S',?_,C]];rw[Ey e1];unfold addL;rw[if_pos (y.mem_iff.mp p)];exact y
  .refine ao #[plainId_quiet PyProof.Rows.F.plain_set_update_loop _,next _ ((u.mono up).then_heap (q1f _ _) λb o x e=>?_) (W.frame _ g _ _ Z (q1f _ _) λb x o e=>?_) #[o2,a4,a5,t2,B,a6,a7,a8,S2,?_,?_]]
   .rw[sb.2 b (λh:b=S=>x (by rw[h];exact .head _))];exact e
   .rw[sb.2 b (λh:b=S=>J (by rw[<-h];exact x))];exact e
   .rw[Ey e1];unfold addL;rw[if_neg λz=>p (y.mem_iff.mpr z)];refine(pm.map _).trans ?_;rw[q0d];exact(y.cons f).trans (q2p f _).symm
   .intro r m;rcases q0e.mp (pm.mem_iff.mp m) with rfl |m
    .exact q0A (i:=i) (q19.mpr #[e1,e2])
    .exact C r m
end
theorem TV:df prog w h #[] (.fresh 0 0 led) led []:=
 #[rfl,(λr a=>by cases a),#[.nil,rfl,(λx b=>by cases b),rfl,gR,q0L _,(λp c=>by cases c)],.inl rfl,(show 0 * 5<7 * 3 by decide),rfl]
theorem call_setT(H:A.handled=none)(J:A.in1.in1.in1.units<cLine)(L:s.heap.IsList l items)(C:items.toList=bs.map Value.ref)(t:bs.length=kss.length)(c:∀(j:Nat)  a  b,kss[j]? = !a->bs[j]? = !b->TK prog w s.heap a b)(hb:kss.length<=300)
  (h:∀d  M,(∀b u,s.heap.get? b=!u->d.get? b=!u)->SetM prog w d s.heap.objs.size (ledW w) (kss.zip bs) kss->Q (.ref s.heap.objs.size) { s with heap:=d,toks:=M }) :
  wpAny (model prog w) A (call (.type "set") [.ref l]) Q E s:=by
 have N:items.size=kss.length:=by rw[<-t,<-q0s,C,q0b]
 have f:∀(j:Nat) (b:Addr),bs[j]? = !b->∃a,kss[j]? = !a/\TK prog w s.heap a b:=λj b m=>by have:=(q0a.mp m).1;exact#[_,q0c 'b',c j _ b (q0c 'b') m]
 refine DL H L (λ{R I fp wr G P St} O W S T U x kp X k=>?_) h;rw[N]at W;refine TU W S J (λb y=>?_) (λi v p=>?_) hb kss.length 0 O rfl (q0L _) x #[_,_,_,_,[],X,#[rfl,rfl,rfl],rfl,TV,.nil,λr Y=>by cases Y] (λj a b q B=>?_) k
 .obtain⟨j,m⟩:=q1a.mp y;obtain⟨_,_,o,_,_,D,_⟩:=f j b m;exact#[q0q (bo D),T b (bo D)]
 .have g:=U i v p;rw[C,q0k]at g;obtain⟨b,q,B⟩:=q0g.mp g;obtain⟨a,e,_⟩:=f i b q;exact#[a,b,e,q,B.symm]
 .obtain⟨o,z,n,h3,Z⟩:=c j a b q B;exact#[o,z,n,kp _ _ h3,Z]
end L2.TS
namespace L2.L3
open PySem PySem.Spec PyProof.Rows PySem.W
theorem Ez:∀{a b},IntsAre a b->ItemsAre (intKind P w) b a
 |_,_,.nil=>.nil
 |_,_,.cons n t r=>.cons (intKind_is ..) (Ez r)
theorem TW{A:Around}(a:A.units+64<cLine):A.in1.in1.in1.units<cLine:=by
 lia
end L2.L3
namespace L2.TS
open PySem PyProof.Rows
theorem EA(h:ItemsAre (intKind prog w) a vs):IntsAre vs a:=by
 induction h with
 |nil=>exact .nil
 |cons h1 _ b=>obtain⟨t,h2⟩:=Value.isInt_shape (h1);subst h2;exact .cons _ t b
theorem EB:∀{a c b},IntsAre a c->IntsAre a b->c=b
 |_,_,_,.nil,.nil=>rfl
 |_,_,_,.cons n t r,.cons _ _ d=>by rw[EB r d]
theorem TK.tupI(g:TK prog w h a b)(ne:a≠[]):TupI h (.ref b)/\rkH h (.ref b)=a:=by
 obtain⟨o,items,n,h1,h2,h3,c⟩:=g;have t:TupI h (.ref b):=#[b,items,a,rfl,#[o,h1,h2,n,h3],EA c,ne]
 obtain⟨m,i,ns,e,j,k,p,l⟩:=t.rnk;cases e;obtain⟨q,d,_,r,f⟩:=j;rw[h1]at d;cases d;rw[h3]at f;cases f;refine#[t,?_];rw[l];exact EB k (EA c)
theorem perm_map{α β:Type}(f):∀l (c:List β),c.Perm (l.map f)->∃d:List α,d.Perm l/\c=d.map f:=λl c p=>by
 generalize e:l.map f=m at p
 induction p generalizing l with
 |nil=>exact#[l,.refl _,e.symm]
 |cons x p i=>
  cases l with
  |nil=>cases e
  |cons y l=>cases e;obtain⟨d,h1,h2⟩:=i l rfl;exact#[y::d,h1.cons y,by rw[h2];rfl]
 |swap x y r=>
  match l,e with
  |a::b::l,e=>cases e;exact#[b::a::l,.swap ..,rfl]
 |trans p q g h=>obtain⟨k,h1,h2⟩:=h l e;obtain⟨n,h3,j⟩:=g k h2.symm;exact#[n,h3.trans h1,j]
theorem sorted_setT(hh:A.handled=none)(M:SetM prog w s.heap a (ledW w) L c)(ne:∀k∈c,k≠[])(H:∀k∈onceL c,k∈c)(R:∀n≤c.length,mC n)(a0:c.length<=300)
  (h:∀(B D:Heap)  G  d (rows:List (List Int×Addr))  m,(∀b u,s.heap.get? b=!u->B.get? b=!u)->(∀b u,B.get? b=!u->D.get? b=!u)->(∀r∈rows,TK prog w s.heap r.1 r.2)->(∀r∈rows,r∈L)->(rows.map (·.1)).Perm (onceL c)->(rows.map (·.1)).Pairwise (λx y=>lexLe x y=true)->
   D.get? B.objs.size=!seqObj "list" (rows.map λr=>Value.ref r.2).toArray m->Q (.ref B.objs.size) { s with heap:=D,toks:=G,drawn:=d }) :
  wpAny (model prog w) A (call (.builtin "sorted") [.ref a]) Q E s:=by
 obtain⟨o,es,ep,t,rows,m1,m2,m3,i,I,m6⟩:=M;refine Calls.call_function_entry kind_sorted plain_sorted entry_sorted (args_sorted1 _) ?_;unfold Builtin.«sorted»;refine aa (ao ?_);have ol:=onceL_len c;have rl:rows.length=(onceL c).length:=by rw[<-I.length_eq,q0b]
 have ez:es.size=rows.length:=by rw[<-q0s,i.es,q0b]
 have sz:1000<sizeLine:=by decide
 refine aa (DY (A:=A.in1) hh #[#[o,m1,m2,m3],i.fits] i.tb.rise i.led 'b' λg G d vs N O=>?_);have j:=by rw[i.es,q0z]at O;exact O
 have up:∀{S b},TK prog w s.heap S b->TK prog w g S b:=λH=>by obtain⟨o,items,n,B,D⟩:=H;exact#[o,items,n,N _ _ B,D]
 have p:∀r∈rows,r.1≠[]:=λr l=>ne _ (H _ (I.mem_iff.mp (q0D.mpr #[r,l,rfl])));have T:vs.length<=sizeLine:=by rw[j.length_eq,q0b];lia
 refine aa (wpAny_newList ?_ T);have dS:(g.push (seqObj "list" vs.toArray 0)).get? g.objs.size=!seqObj "list" vs.toArray 0:=Heap.get?_push_size _ rfl;have hb:∀b o,g.get? b=!o->b≠g.objs.size/\(g.push (seqObj "list" vs.toArray 0)).get? b=!o:=λb o e=>#[q0q (bo e),aK _ e]
 refine aa (wpAny_holding (wpAny_call_entry slot_list_sort #[_,dS,rfl] entry_list_sort (qC dS T (R _ (by rw[j.length_eq,q0b];lia)) (kok_tups (h0:=g) (λv hm=>by obtain⟨r,l,rfl⟩:=q0D.mp (j.mem_iff.mp hm);exact((up (i.key r l)).tupI (p r l)).1)) hb λC p1 U=>#[_,rfl,?_]) (args_list_sort _)));refine ao #[_,rfl,?_];obtain⟨J,ic⟩:∃J,((g.push (seqObj "list" vs.toArray 0)).update g.objs.size (Obj.mapSeq λ_=>#[])).get? g.objs.size=!seqObj "list" #[] J:=#[_,get?_update_seq dS λ_=>#[]]
 obtain⟨z,f,X⟩:=perm_map (λr:List Int×Addr=>Value.ref r.2) rows C (p1.trans j);refine h g _ G d z _ N (λb o e=>?_) (λr l=>i.key r (f.mem_iff.mp l)) (λr l=>m6 r (f.mem_iff.mp l)) ((f.map _).trans I) ?_ (by rw[<-X];exact get?_update_seq (aK _ (aK _ ic)) λ_=>C.toArray)
 .have q:=hb b o e;unfold sortedHeap;rw[Heap.get?_update_ne _ _ _ _ q.1];refine aK _ (aK _ ?_);rw[Heap.get?_update_ne _ _ _ _ q.1];exact q.2
 .rw[X,q0U]at U;rw[q0U];refine q1l (λ{x y} Y Z h=>?_) U;have kx:=((up (i.key x (f.mem_iff.mp Y))).tupI (p x (f.mem_iff.mp Y))).2;have ky:=((up (i.key y (f.mem_iff.mp Z))).tupI (p y (f.mem_iff.mp Z))).2;rw[kx,ky]at h;exact h
theorem ED(t):∀(T Y:List (List Int)),t∈T.foldl addL Y->t∈Y\/t∈T
 |[],Y,h=>.inl h
 |k::T,Y,h=>by
  rcases ED t T _ h with h |h
  .unfold addL at h;split at h
   .exact .inl h
   .rcases q0f.mp h with h |h
    .exact .inl h
    .simp only[q0e,q0p,or_false]at h;exact .inr (h▸.head _)
  .exact .inr (.tail _ h)
theorem mem_onceL(h:t∈onceL T):t∈T:=by
 rcases ED t T [] h with h |h
 .cases h
 .exact h
end L2.TS
namespace L2.L3
open PySem PySem.Spec PyProof.Rows PySem.W
def yg(P:Program)(w:World)(a:Addr)(c:List (List Int×Addr))(d:List (List Int)):HO:=.ext λh=>∃(o:Obj) (b:Array (Int×Value)) (e:Nat) (t:SetTable) (rows:List (List Int×Addr)),h.get? a=!o/\o.ExactSet/\o.data=.set b e t/\b.toList=rows.map (λr=>(TS.hT P w r.1,Value.ref r.2))/\TS.Tb t (rows.map λr=>TS.hT P w r.1)/\(t.mask=7\/t.mask=31\/t.mask=127\/t.mask=511)/\rows.length * 5<t.mask * 3/\t.led=TS.ledW w/\(rows.map (·.1)).Perm (TS.onceL d)/\∀r∈rows,r∈c
def EE(P:Program)(w:World)(K:Frag):List V->Hp->VK->Prop:=λc H Q=>∃(p:Addr) (b:List Addr) (a:List (List Int)),c=[.ref p]/\cG K H p (b.map V.ref)/\b.length=a.length/\(∀z∈a.zip b,Rd H z.2 (.tup (z.1.map V.int)))/\a.length<=300/\∀l,H l=none->Q (.ref l) (aL H l (yg P w l (a.zip b) a))
def EF(P:Program)(w:World):List V->Hp->VK->Prop:=λc H Q=>∃(p:Addr) (b:List (List Int×Addr)) (a:List (List Int)),c=[.ref p]/\H p=!yg P w p b a/\(∀z∈b,Rd H z.2 (.tup (z.1.map V.int)))/\(∀k∈a,k≠[])/\a.length<64/\∀(l:Addr) (rows:List (List Int×Addr)),H l=none->(∀r∈rows,r∈b)->rows.map (·.1)=TS.sortR (TS.onceL a)->Q (.ref l) (aL H l (.lst (rows.map λr=>V.ref r.2)))
theorem TX(M:TS.SetM P w h a (TS.ledW w) d e):cy P w H h a (yg P w a d e):=by obtain⟨o,es,c,t,rows,f,g,i,b,j,l⟩:=M;refine#[#[o,es,c,t,rows,f,g,i,b.es,b.tb,b.mks,b.full,b.led,j,l],#[o,f],λ_ _ z k=>?_];obtain⟨o,es,c,t,rows,h1,h2⟩:=z;exact#[o,es,c,t,rows,k o h1,h2]
theorem uh{Y:St}(I:Inv X a Y H s)(h:Rd H T (.tup (k.map V.int))):TS.TK X.prog X.w s.heap k T:=by obtain⟨_,c,d,e⟩:=h.ok I.hok;obtain⟨o,f,b,n,hd⟩:=e;exact#[o,_,n,f,b,hd,Ez (ints_are d)]
theorem yh:∀{a:List Addr}{b},bj (a.map V.ref) b->b=a.map Value.ref
 |[],_,.nil=>rfl
 |T::a,_,.cons r t=>by cases r;rw[yh t];rfl
theorem oA:∀a:List Addr,bj (a.map V.ref) (a.map Value.ref)
 |[]=>.nil
 |T::a=>.cons rfl (oA a)
theorem TY(c:X.calm=true)(d:X.A.units+64<cLine):eX X (.type "set") (EE X.prog X.w X.K):=by
 intro a s Y H B C Q I r h;obtain⟨p,e,f,rfl,g,l,m,hb,q⟩:=h;obtain⟨u,rfl,n⟩:=vals1 r;cases n;obtain⟨o,t,pl,D⟩:=I.list g;obtain rfl:=yh t;exact TS.call_setT (I.ok.hd c) (TW d) pl.isList 'c' l (λj k b v x=>uh I (m (k,b) (q0A (q19.mpr #[v,x])))) hb λE y z M=>#[.ref s.heap.objs.size,_,I.laid z (aP _) (TX M),rfl,q _ (I.hok.fresh (aP _))]
theorem TZ(x:X.calm=true):eX X (.builtin "sorted") (EF X.prog X.w):=by
 intro b s Y H xs us Q I r h;obtain⟨p,y,c,rfl,z,A,f,hb,q⟩:=h;obtain⟨u,rfl,B⟩:=vals1 r;cases B;obtain⟨⟨o,es,C,t,rows,D,E,G,J,L,N,O,T,U,j⟩,_⟩:=I.hok p _ z;refine TS.sorted_setT (I.ok.hd x) (#[o,es,C,t,rows,D,E,G,#[J,λr g=>uh I (A r (j r g)),L,N,O,T],U,j]) f (λk=>TS.mem_onceL) (λn hn=>TS.runs_few 'b') 'b' λv h2 i d a m k1 k2 _ rz l p2 e=>?_;have I1:=(I.kept (t':=i) k1).drew d;have sz:1000<sizeLine:=by decide
 have ol:=TS.onceL_len c;have rl:a.length=(TS.onceL c).length:=by rw[<-l.length_eq,q0b]
 exact#[.ref v.objs.size,_,I1.laid k2 (aP _) (show cy X.prog X.w _ h2 _ (.lst (a.map λr=>V.ref r.2)) from#[by rw[q0b];lia,_,m,(by have:=oA (a.map (·.2));rw[q0z,q0z]at this;exact this),e]),rfl,q _ a (I1.hok.fresh (aP _)) rz (TS.sortR_of l p2)]
def qO(b:List PyData):Option (List (List Int)):=match b with
 |[.list ds]=>(gO ds).bind λa=>if a.length<64/\a.all (λr=>not r.isEmpty)=true then some a else none
 |_=>none
theorem Ua{K}(hd:aH (au O H) vs n)(e:qO n=!b):∃a c,vs=[.ref a]/\cG K H a (c.map V.ref)/\c.length=b.length/\(∀z∈b.zip c,Rd (au O H) z.2 (.tup (z.1.map V.int))/\DV (au O H) (.ref z.2) (.tuple (z.1.map PyData.int)))/\b.length<64/\∀k∈b,k≠[]:=by
 unfold qO at e;split at e
 .rename_i ds;obtain⟨y,o,i⟩:=q0K.mp e;split at i
  .rename_i g;cases i;obtain⟨x,rfl,h1⟩:=gi hd;obtain⟨a,f,rfl,p,q⟩:=h1.lst_inv;have j:=ou o;subst j;have key:∀(b:List (List Int)) (f:List V),aH (au O H) f (b.map λr=>PyData.tuple (r.map PyData.int))->∃c:List Addr,f=c.map V.ref/\c.length=b.length/\∀z∈b.zip c,Rd (au O H) z.2 (.tup (z.1.map V.int))/\DV (au O H) (.ref z.2) (.tuple (z.1.map PyData.int)):=by
    intro b
    induction b with
    |nil=>intro f h;cases h;exact#[[],rfl,rfl,λz l=>by cases l]
    |cons r b s=>
     intro f h;cases h with
     |cons h1 h2=>
      obtain⟨c,rfl,g,t⟩:=s _ h2;obtain⟨T,A,rfl,hT,l⟩:=h1.tup_inv;rw[qv l]at hT;refine#[T::c,rfl,by simp[g],λz d=>?_];rcases q0e.mp d with rfl |d
      .exact#[hT,h1]
      .exact t z d
   obtain⟨c,rfl,u,v⟩:=key b f q;refine#[a,c,rfl,.of (cR p).1,u,v,g.1,λk w z=>?_];have:=q0O.mp g.2 k w;rw[z]at this;cases this
  .cases i
 .cases e
def qP(a:List PyData):Option PyData:=(qO a).map λb=>.list ((TS.sortR (TS.onceL b)).map λr=>PyData.tuple (r.map PyData.int))
def yi:DN:=λa Q=>∃d,qP a=!d/\Q d
theorem Ub:FN yi qP:=λa d Q e q=>#[d,e,q]
theorem EG{K}:iw (λxs H Q=>EE P w K xs H λv H1=>EF P w [v] H1 Q) yi where
 mn:=λ_ _ _ k z=>by obtain⟨d,e,q⟩:=z;exact#[d,e,k _ q]
 ok:=λO H vs xs Q hO hd q=>by
  obtain⟨d,e,q⟩:=q;obtain⟨rs,e1,rfl⟩:=q0g.mp e;obtain⟨a,Ts,rfl,sq,hl,hz,hb,hne⟩:=Ua hd e1;refine#[a,Ts,rs,rfl,sq,hl,λz hz'=>(gc (hz z hz').1).1,by lia,λl h1=>#[l,_,rs,rfl,cF,λz hz'=>((gc (hz z hz').1).1).imp (λe=>bA h1 _ _ e) (λzq1a=>by obtain⟨o,e⟩:=zq1a;exact#[o,bA h1 _ _ e]),hne,hb,λl2 rows h2 hr hs=>q _ _ ((bA h1).trans (bA h2)) (ir h2 (hO l2 ((bA h1).free h2)) ?_)]];rw[<-hs,q0z];clear hs
  induction rows with
  |nil=>exact .nil
  |cons r rows ih=>refine .cons (DV.mono (lS (bA h1)) (hz r (hr r (.head _))).2) (ih λx hx=>hr x (.tail _ hx))
theorem Uc{pos:Pos}{p:Pos}{pos2:Pos}{p2:Pos}(i:X.A.units+64<cLine)(h:X.calm=true)(j:Gl X "sorted")(k:X.mg "sorted" = none)(c:Gl X "set")(d:X.mg "set" = none)(f:DA X F [e] tA)
  (l:autoParam (starEach [e] X.env=(false,eval e X.env)::starEach [] X.env) Zq._auto_1) (g:autoParam ((backTo pos2 (starEach [] X.env)).any (·.1)=false) Zq._auto_1)
  (a:autoParam (starEach [.Call (.Name "set" p2) [e] [] pos2] X.env=(false,eval (.Call (.Name "set" p2) [e] [] pos2) X.env)::starEach [] X.env) Zq._auto_1) (b:autoParam ((backTo pos (starEach [] X.env)).any (·.1)=false) Zq._auto_1) :
  DE X F (.Call (.Name "sorted" p) [.Call (.Name "set" p2) [e] [] pos2] [] pos) (lW yi tA):=
 #[sJ (EG (P:=X.prog) (w:=X.w) (K:=X.K)) f.mn,(lQ (TZ h) j k 'f' (dJ (sf (TY h i) c d Eb f.pa 'd' 'd' l g) eB a) 'd' 'd' a b).imp (sI (EG) f.mn)]
def EH(P:Program)(w:World):List V->Hp->VK->Prop:=λb H Q=>∃p a,b=[.ref p]/\H p=!ya P w p a/\a.length<64/\∀l,H l=none->Q (.ref l) (aL H l (.lst ((fx (TS.onceI a)).map V.int)))
theorem Ud(l:X.calm=true):eX X (.builtin "sorted") (EH X.prog X.w):=by
 intro a s Y H J L Q I r h;obtain⟨p,ns,rfl,n,g,q⟩:=h;obtain⟨u,rfl,t⟩:=vals1 r;cases t;obtain⟨⟨o,v,x,y,i⟩,_⟩:=I.hok p _ n;have z:v.length<64:=by have:=TS.onceI_len ns;rw[i.length_eq];lia
 refine TS.sorted_set (I.ok.hd l) x y (TS.runs_few z) λk G b d c m A B C j D e=>?_;have rel:=Tk C (j.trans i) D;have I1:=(I.kept (t':=b) A).drew d;have E:((fx (TS.onceI ns)).map V.int).length<=sizeLine:=by
  have sz:1000<sizeLine:=by decide
  rw[rel.length,<-q0b,j.length_eq];lia
 exact#[.ref k.objs.size,_,I1.laid B (aP _) (show cy X.prog X.w _ G _ (.lst ((fx (TS.onceI ns)).map V.int)) from#[E,c,m,rel,e]),rfl,q _ (I1.hok.fresh (aP _))]
def yj(b:List PyData):Option (List Int):=(qK b).bind λa=>if a.length<64 then some a else none
def qQ(a:List PyData):Option PyData:=(yj a).map λb=>.list ((fx (TS.onceI b)).map PyData.int)
def yk:DN:=λa Q=>∃d,qQ a=!d/\Q d
theorem Ue:FN yk qQ:=λa d Q e q=>#[d,e,q]
theorem EI{K}:iw (λxs H Q=>DZ P w K xs H λv H1=>EH P w [v] H1 Q) yk where
 mn:=λ_ _ _ k z=>by obtain⟨d,e,q⟩:=z;exact#[d,e,k _ q]
 ok:=λO H vs xs Q hO hd q=>by
  obtain⟨d,e,q⟩:=q;obtain⟨ns,e1,rfl⟩:=q0g.mp e;obtain⟨ms,e2,e3⟩:=q0K.mp e1;split at e3
  .rename_i hfew;cases e3;obtain⟨a,rfl,sq,hl⟩:=To hd e2;exact#[a,ns,rfl,sq,hl,λl h1=>#[l,ns,rfl,cF,hfew,λl2 h2=>q _ _ ((bA h1).trans (bA h2)) (ir h2 (hO l2 ((bA h1).free h2)) (tO _))]]
  .cases e3
theorem Uf{pos:Pos}{p:Pos}{pos2:Pos}{p2:Pos}(h:X.calm=true)(i:Gl X "sorted")(j:X.mg "sorted" = none)(c:Gl X "set")(d:X.mg "set" = none)(f:DA X F [e] tA)
  (k:autoParam (starEach [e] X.env=(false,eval e X.env)::starEach [] X.env) Zq._auto_1) (g:autoParam ((backTo pos2 (starEach [] X.env)).any (·.1)=false) Zq._auto_1)
  (a:autoParam (starEach [.Call (.Name "set" p2) [e] [] pos2] X.env=(false,eval (.Call (.Name "set" p2) [e] [] pos2) X.env)::starEach [] X.env) Zq._auto_1) (b:autoParam ((backTo pos (starEach [] X.env)).any (·.1)=false) Zq._auto_1) :
  DE X F (.Call (.Name "sorted" p) [.Call (.Name "set" p2) [e] [] pos2] [] pos) (lW yk tA):=
 #[sJ (EI (P:=X.prog) (w:=X.w) (K:=X.K)) f.mn,(lQ (Ud h) i j 'f' (dJ (sf (Tn h) c d Eb f.pa 'd' 'd' k g) eB a) 'd' 'd' a b).imp (sI (EI) f.mn)]
end L2.L3
namespace L2.TS
open PySem PyProof.Rows PySem.W
def iI(h:Heap)(d:Addr)(b:Array DictEntry)(a:Nat):Prop:=∃o,h.get? d=!o/\o.ExactDict/\o.data=.dict b a
theorem iI.stay(x:iI h d es ep)(e:∀o,h.get? d=!o->a.get? d=!o):iI a d es ep:=by obtain⟨o,h1,h2⟩:=x;exact#[o,e _ h1,h2]
theorem iI.ty{s:Shared}(x:iI s.heap d es ep):s.TypeIs (.ref d) "dict":=by obtain⟨o,h1,h2,_⟩:=x;exact#[o,h1,h2.1]
theorem iI.lt(x:iI h d es ep):d<h.objs.size:=by obtain⟨o,h1,_⟩:=x;exact bo h1
theorem Ug(lo:(d==sysModules)=false)(x:iI s.heap d es ep)
  (q:Q (.ref s.heap.objs.size) { s with heap:=s.heap.push { cls:=.type "dict_keyiterator",data:=.fields [.ref d,.int 0 0,.int es.size 0,.int ep 0].toArray } }):wpAny (model prog w) A (pyIter (.ref d)) Q E s:=by
 obtain⟨o,h1,h2,h3⟩:=id x;refine wpAny_pyIter_slot x.ty F.slot_dict_iter (wpAny_call_entry F.slot_dict_iter x.ty F.entry_dict_iter ?_ (F.args_dict_iter_1 _));apply aa;refine aa (wpAny_notOrdered_dict x.ty (ao ?_));show wpAny _ _ (Builtin.Dict.showsAll d >>= _) _ _ s;unfold Builtin.Dict.showsAll;rw[if_neg (by rw[lo];exact q0F)];refine aa (ao (aa (wpAny_dictEntries h1 h3 (aa (wpAny_dictEpoch h1 h3 (aa (wpAny_newObj_type (ao #[_,rfl,"dict_keyiterator",_,#[_,Heap.get?_push_size _ rfl,rfl],F.slot_dict_keyiterator_next.lookup,?_]))))))));simpa[rawInt] using q
theorem Uh(hit:s.heap.IsKeyIter it d i es.size ep)(x:iI s.heap d es ep)(e)
  (q:∀b,b.IsKeyIter it d (i+1) es.size ep->Heap.SameBut it s.heap b->Q (some es[i].key) { s with heap:=b }):wpAny (model prog w) A (pyNext (.ref it)) Q E s:=by
 obtain⟨o,c,f,hd⟩:=id hit;obtain⟨g,h1,h2,h3⟩:=x;refine aa (wpAny_attempt (wpAny_callSpecial?_slot hit.typeIs F.slot_dict_keyiterator_next
  (wpAny_call_entry F.slot_dict_keyiterator_next hit.typeIs F.entry_dict_keyiterator_next ?_ (F.args_dict_keyiterator_next_1 _))))
 refine aa (ao (aa (aa ?_)))
 first |refine aa (wpAny_typeNameOfWhole_keyiter hit.typeIs (ao ?_)) |refine aa (wpAny_typeNameOf_keyiter hit.typeIs (ao ?_))
 refine aa (wpAny_fieldsOf c hd ?_);show wpAny _ _ (if (Value.ref d==Value.none)=true then _ else _) _ _ s;rw[if_neg (show ¬ ((Value.ref d==Value.none)=true) from q0F)];refine aa (ao (aa (wpAny_dictEntries h1 h3 ?_)));rw[if_neg 'c'];refine aa (ao (aa (wpAny_dictEpoch h1 h3 ?_)));rw[if_neg 'c'];apply ao;simp only[q0Z,q0T e];apply aa
 first |refine aa (wpAny_typeNameOfWhole_keyiter hit.typeIs (ao ?_)) |refine aa (wpAny_typeNameOf_keyiter hit.typeIs (ao ?_))
 refine aa (wpAny_isOneOf_keyiter hit.typeIs ?_);show wpAny _ _ (setField (.ref it) 1 (rawInt (i+1)) >>= _) _ _ s;refine aa (wpAny_setField c hd 'c' ?_);have a:(s.heap.update it (Obj.mapFields (·.setIfInBounds 1 (rawInt (i+1))))).IsKeyIter it d (i+1) es.size ep:=
  #[_,Heap.get?_update_self _ c (Obj.isFreed_of_fields (Obj.data_mapFields hd _)),(Obj.cls_mapFields ..).trans f,by rw[Obj.data_mapFields hd];simp[rawInt]]
 exact aa (wpAny_holding (aa (wpAny_isOneOf_keyiter a.typeIs (ao (ao #[_,rfl,ao (q _ a (Heap.SameBut.update ..))])))))
theorem Ui(f:A.handled=none)(hit:s.heap.IsKeyIter it d es.size es.size ep)(x:iI s.heap d es ep)
  (q:∀c,Heap.ExtBut it s.heap c->Q none { s with heap:=c }):wpAny (model prog w) A (pyNext (.ref it)) Q E s:=by
 obtain⟨o,e,g,hd⟩:=id hit;obtain⟨h,h1,h2,h3⟩:=x;refine aa (wpAny_attempt (wpAny_callSpecial?_slot hit.typeIs F.slot_dict_keyiterator_next
  (wpAny_call_entry F.slot_dict_keyiterator_next hit.typeIs F.entry_dict_keyiterator_next ?_ (F.args_dict_keyiterator_next_1 _))))
 refine aa (ao (aa (aa ?_)))
 first |refine aa (wpAny_typeNameOfWhole_keyiter hit.typeIs (ao ?_)) |refine aa (wpAny_typeNameOf_keyiter hit.typeIs (ao ?_))
 refine aa (wpAny_fieldsOf e hd ?_);show wpAny _ _ (if (Value.ref d==Value.none)=true then _ else _) _ _ s;rw[if_neg (show ¬ ((Value.ref d==Value.none)=true) from q0F)];refine aa (ao (aa (wpAny_dictEntries h1 h3 ?_)));rw[if_neg 'c'];refine aa (ao (aa (wpAny_dictEpoch h1 h3 ?_)));rw[if_neg 'c'];apply ao;simp only[q0Z,q2P (aP es.size)];apply aa
 first |refine aa (wpAny_typeNameOfWhole_keyiter hit.typeIs (ao ?_)) |refine aa (wpAny_typeNameOf_keyiter hit.typeIs (ao ?_))
 show wpAny _ _ (setField (.ref it) 0 .none >>= _) _ _ s;refine aa (wpAny_setField e hd 'c' (aa (aa (wpAny_newObj_type ?_ (by size_fits)))));refine aa (wpAny_of_eq (by first |rfl |(rfl)) (wpAny_newObj_type ?_ (by size_fits)));refine aa (wpAny_handled ?_);rw[f];refine aa (ao (wpAny_throw ?_));exact aa (wpAny_isInstance #[_,Heap.get?_push_size _ rfl,rfl] isSubtype_stop (ao (q _ (((Heap.SameBut.update ..).extBut.push _).push _))))
theorem Uj(hh:A.handled=none)(I d)(hne:d≠I)(es)(ep) :
  Walks prog w A I [I,d] [I] es.size (λi v=>∃e,es[i]? = !e/\v=e.key) (λi h=>h.IsKeyIter I d i es.size ep/\iI h d es ep) where
 sub:=λb hb=>by simp at hb;simp[hb]
 frame:=λ_ _ _ st hk=>#[st.1.at λo e=>hk I 'c' o e,st.2.stay λo e=>hk d 'c' o e]
 item:=λi s Q E hi st hQ=>Uh st.1 st.2 hi λh' k1 k2=>hQ _ h' s.toks #[_,q0T hi,rfl] #[k1,st.2.stay λo e=>k2.extBut d o hne e] λb o hb e=>k2.extBut b o (λh=>hb (by simp[h])) e
 done:=λs Q E st hQ=>Ui hh st.1 st.2 λh' k=>hQ h' s.toks λb o hb e=>k b o (λh=>hb (by simp[h])) e
 self:=λ_ _ _ _ st hQ=>wpAny_pyIter_keyiter st.1 hQ
theorem dicr_src(lo:(d==sysModules)=false):KdlSrc prog w "dict" d d es.size (λi v=>∃e,es[i]? = !e/\v=e.key) (λh=>iI h d es ep) where
 type:=λ_ x=>x.ty
 there:=λ_ x=>#[x.lt,x.lt]
 keep:=λ_ _ x hk=>x.stay λo e=>hk d (.inl rfl) o e
 notList:=by decide
 notTuple:=by decide
 hint:=λ_ _ _ _ x q=>kdl_hint_dict x.ty q
 iter:=λ_ _ hh x=>#[_,_,(λ_ _ q=>Ug lo x q),Uj hh _ d (q0q x.lt) es ep,#[#[_,Heap.get?_push_size _ rfl,rfl,rfl],x.stay λo e=>aK _ e]]
end L2.TS
namespace L2.L3
open PySem PySem.Spec PyProof.Rows PySem.W
def Uk:List V->Hp->VK->Prop:=λc H Q=>∃(p:Addr) (a:List (List aQ×V)) (rows:List (List Int)),c=[.ref p]/\H p=!.dT a/\a.map (·.1)=rows.map (λr=>r.map Sum.inl)/\(∀r∈rows,r≠[])/\rows.length<64/\
 ∀(l:Addr) (b:List (List Int×Addr)),H l=none->(∀z∈b,H z.2=!.tup (z.1.map V.int))->b.map (·.1)=TS.sortR rows->Q (.ref l) (aL H l (.lst (b.map λz=>V.ref z.2)))
theorem gS{H:Hp}:∀{c g}{rows:List (List Int)},Paired (λ(p:List aQ×V) (q:List aQ×Addr×Value)=>p.1=q.1/\H q.2.1=!.tup (p.1.map kV)/\aX p.2 q.2.2) c g->c.map (·.1)=rows.map (λr=>r.map Sum.inl)->
  ∃d:List (List Int×Addr),d.map (·.1)=rows/\(∀z∈d,H z.2=!.tup (z.1.map V.int))/\(g.map (entryOfKey (tupleKind (ff P w)))).map (λe=>e.key)=d.map λz=>Value.ref z.2
 |_,_,rows,.nil,e=>by
  cases rows with
  |nil=>exact#[[],rfl,λz f=>(by cases f),rfl]
  |cons r rows=>cases e
 |_,_,rows,.cons (b:=q) h t,e=>by
  cases rows with
  |nil=>cases e
  |cons r rows=>
   rw[q0d,q0d]at e;obtain⟨j,k⟩:=q2H e;obtain⟨d,l,m,n⟩:=gS t k;obtain⟨o,h2,h3⟩:=h;refine#[(r,q.2.1)::d,by rw[q0d,l],λz f=>?_,by rw[q0d,q0d,n];rfl];rcases q0e.mp f with rfl |f
   .rw[j,q0z]at h2;exact h2
   .exact m z f
theorem Ul(U:X.calm=true):eX X (.builtin "sorted") Uk:=by
 intro l s Y H xs us Q I r h;obtain⟨p,y,rows,rfl,hq,hk,A,hb,q⟩:=h;obtain⟨u,rfl,rx⟩:=vals1 r;cases rx;obtain⟨c,lo,xs,pr,o,es,ep,h1,M,h3,h4,h5⟩:=(I.hok p _ hq)
 obtain⟨n,B,N,C⟩:=gS pr hk;rw[<-h4]at C;have ez:=by have:=congrArg List.length C;simpa using this
 have el:n.length=rows.length:=by rw[<-B,q0b]
 have sz:1000<sizeLine:=by decide
 refine TS.sorted_src (TS.dicr_src lo) (I.ok.hd U) #[o,h1,M,h3] 'b' (TS.runs_few 'b') λg D d kp O hP=>?_;have ea:d=n.map λz=>Value.ref z.2:=by
  rw[<-C];apply q00;intro j;cases e:d[j]? with
  |none=>have:=q2b.mp e;rw[q0Y (by simp;lia)]
  |some v=>obtain⟨en,e1,rfl⟩:=hP j v e;rw[q0k,q0B,e1];rfl
 subst ea;have I1:=I.kept (t':=D) kp;have f:=λz c=>(uh I1 (.inl (N z c))).tupI (A _ (by rw[<-B];exact q0D.mpr #[z,c,rfl]));refine#[_,_,TS.kok_tups (h0:=g) (λv hv=>?_),λG M m p1 T J e2=>?_]
 .obtain⟨z,c,rfl⟩:=q0D.mp hv;exact(f z c).1
 obtain⟨k,t,rfl⟩:=TS.perm_map (λz=>Value.ref z.2) n G p1;exact#[.ref g.objs.size,_,I1.laid (t':=D) J (aP _) (show cy X.prog X.w _ M _ (.lst (k.map λz=>V.ref z.2)) from#[by rw[q0b,t.length_eq];lia,_,m,(by have:=oA (k.map (·.2));rw[q0z,q0z]at this;exact this),e2]),rfl,q _ k (I1.hok.fresh (aP _)) (λz c=>N z (t.mem_iff.mp c)) (by refine TS.sortR_of (by rw[<-B];exact t.map _) ?_;rw[q0U]at T;rw[q0U];refine q1l (λ{a b} ha L h=>?_) T;rw[(f a (t.mem_iff.mp ha)).2,(f b (t.mem_iff.mp L)).2]at h;exact h)]
def mJ(i:Nat):XM PyData:=λU=>lift (match fR U i with
 |some (true,a)=>(qO [.list (a.map (·.1))]).map λb=>.list ((TS.sortR b).map λr=>.tuple (r.map PyData.int))
 |_=>none) U
theorem EJ:∀{a:List aQ}{r:List Int},a.map gA=r.map PyData.int->a=r.map Sum.inl
 |[],[],_=>rfl
 |[],_::_,h=>by cases h
 |_::_,[],h=>by cases h
 |k::a,n::r,h=>by
  rw[q0d,q0d]at h;obtain⟨b,h2⟩:=q2H h;rw[EJ h2];cases k with
  |inl m=>cases b;rfl
  |inr z=>cases b
theorem EK:∀{d}{c:eQ}{G}{b:List (List Int)},Paired (λ(p:List aQ×V) (q:PyData×PyData)=>pI p.1=q.1/\DV G p.2 q.2) d c->c.map (·.1)=(b.map λr=>PyData.tuple (r.map PyData.int))->d.map (·.1)=b.map (λr=>r.map Sum.inl)
 |_,_,_,b,.nil,e=>by
  cases b with
  |nil=>rfl
  |cons r b=>cases e
 |_,_,_,b,.cons h t,e=>by
  cases b with
  |nil=>cases e
  |cons r b=>rw[q0d,q0d]at e;obtain⟨f,g⟩:=q2H e;rw[q0d,q0d,EK t g];rw[<-h.1]at f;rw[EJ (PyData.tuple.inj f)]
theorem Um{F:Fx}{E:Str->ak->Prop}{pos:Pos}{p:Pos}(A:X.calm=true)(B:Gl X "sorted")(b:X.mg "sorted" = none)(g:PE X (.Name x p1) (cu i))(n:autoParam (starEach [.Name x p1] X.env=(false,eval (.Name x p1) X.env)::starEach [] X.env) Zq._auto_1)(h:autoParam ((backTo pos (starEach [] X.env)).any (·.1)=false) Zq._auto_1) :
  FE X F E (.Call (.Name "sorted" p) [.Name x p1] [] pos) (mJ i):=
 #[aE,(lQ (Ul A) B b 'f' (dJ g eB n) 'd' 'd' n h).imp λY H Q d=>by
  obtain⟨U,O,st,q⟩:=d;obtain⟨y,c,C⟩:=cJ q;cases b:fR U i with
  |none=>rw[b]at c;cases c
  |some pr=>
   obtain⟨D,j⟩:=pr;cases D with
   |false=>rw[b]at c;cases c
   |true=>
    rw[b]at c;obtain⟨r,G,I⟩:=q0g.mp c;subst I;obtain⟨a,g,J,h1,h2⟩:=st.dic b;obtain⟨ms,L,m⟩:=q0K.mp (G);split at m
    .rename_i s;cases m;refine#[_,g,a,J,r,rfl,h1,EK h2 (ou L),λk M z=>?_,s.1,λl t f u v=>C _ _ O (st.grow (bA f)) (.same (bA f)) (ir f (st.nofree l f) ?_)]
     .have:=q0O.mp s.2 k M;rw[z]at this;cases this
     .rw[<-v,q0z];clear v
      induction t with
      |nil=>exact .nil
      |cons z t N=>have w:=u z (.head _);refine .cons (.tup (.inl (gb w λT=>?_)) (tO _)) (N λy hy=>u y (.tail _ hy));obtain⟨W,hW,rfl⟩:=st;obtain⟨o,e,mv⟩:=hW.live _ T;rw[w]at e;cases e;exact mv
    .cases m]
theorem EL:∀b a:List Int,PyData.eqvAll (b.map PyData.int) (a.map PyData.int)=decide (b=a)
 |[],[]=>rfl
 |[],_::_=>rfl
 |_::_,[]=>rfl
 |n::b,m::a=>by
  rw[q0d,q0d,PyData.eqvAll,EL b a]
  by_cases h1:n=m
  .by_cases h2:b=a
   .simp[h1,PyData.eqv]
   .simp[h2]
  .simp[h1,PyData.eqv]
theorem EM(b a:List Int):PyData.eqv (.tuple (b.map PyData.int)) (.tuple (a.map PyData.int))=decide (b=a):=by rw[PyData.eqv,EL]
theorem yl:∀a:List Int,PyData.canLayAll0 (a.map PyData.int)=true
 |[]=>rfl
 |n::a=>by simpa[PyData.canLayAll0,PyData.canLay0] using yl a
theorem ym:∀a:List Int,PyData.depthAll (a.map PyData.int)<=0
 |[]=>q0L _
 |n::a=>by have:=ym a;simp[PyData.depthAll,PyData.depth];lia
def EN:V->List V->Hp->VK->Prop:=λx vs H Q=>∃(l:Addr) (a:List (List Int×Addr)) (y:Addr) (b:List Int),x=.ref l/\vs=[.ref y]/\H l=!.lst (a.map λz=>V.ref z.2)/\(∀z∈a,z.1≠[]/\DV H (.ref z.2) (.tuple (z.1.map PyData.int)))/\DV H (.ref y) (.tuple (b.map PyData.int))/\Q (.int ((a.map (·.1)).count b:Nat)) H
theorem Uo{a:List (List Int×Addr)}(h:bj (a.map λz=>V.ref z.2) b):b=a.map λz=>Value.ref z.2:=by
 have c:bj ((a.map (·.2)).map V.ref) b:=by rw[q0z];exact h
 rw[yh c,q0z];rfl
theorem Up(M:X.A.units+64<cLine):sg X "list.count" EN:=by
 intro k s Y H x vs v N Q I m o h;obtain⟨l,b,y,d,rfl,rfl,p,g,t,q⟩:=h;cases m;obtain⟨u,rfl,ru⟩:=o.one;cases ru;obtain⟨z,w,n,r,O,e⟩:=I.lstM p;obtain rfl:=Uo r;obtain⟨as,B⟩:=I.reads t (rfl);have f:∀z∈b,TS.rkH s.heap (.ref z.2)=z.1:=λz c=>by obtain⟨a,T,C,hT,j⟩:=(g z c).2.tup_inv;cases C;rw[qv j]at hT;exact((uh I hT).tupI (g z c).1).2
 refine call_meets F.slot_list_count #[_,e,rfl] F.entry_list_count (F.args_list_count_2 _ _) (SeqAt.list_countAt l (b.map λz=>Value.ref z.2).toArray n none #[] (.ref y) λv=>decide (TS.rkH s.heap v=d)) #[e,λv D=>?_,?_]
 .obtain⟨z,c,rfl⟩:=q0D.mp (List.mem_toArray.mp D);obtain⟨bs,G⟩:=I.reads (g z c).2 (rfl);have:=SeqAt.eqAt_reads _ _ X.A.in1 s _ _ _ _ G B (by simpa[PyData.canLay0] using yl z.1) (by simpa[PyData.canLay0] using yl d) (by
   have h2:=ym d;simp only[PyData.depth];lia)
  rw[EM]at this;rw[f z c];exact this
 .refine#[.int _,H,I.tok _,#[_,rfl],?_];have key:∀b:List (List Int×Addr),(∀z∈b,TS.rkH s.heap (.ref z.2)=z.1)->(b.map λz=>Value.ref z.2).countP (λv=>decide (TS.rkH s.heap v=d))=(b.map (·.1)).count d:=λb=>by
   induction b with
   |nil=>exactλ_=>rfl
   |cons z b J=>
    intro f;rw[q0d,q0d,q18,List.count_cons,J (λa L=>f a (.tail _ L)),f z (.head _)]
    congr 1
    by_cases h:z.1=d<;>simp
  have:=key b f;rw[this];exact q
def kF(d:List PyData)(y:PyData):Option PyData:=match gO d,y with
 |some a,.tuple b=>(match fu b with
  |some c=>if a.all (λr=>not r.isEmpty)=true then some (.int (a.count c:Nat)) else none
  |none=>none)
 |_,_=>none
theorem EO:∀{c f},aH G f (c.map λr=>PyData.tuple (r.map PyData.int))->∃b:List (List Int×Addr),f=(b.map λz=>V.ref z.2)/\b.map (·.1)=c/\∀z∈b,DV G (.ref z.2) (.tuple (z.1.map PyData.int))
 |[],_,h=>by cases h;exact#[[],rfl,rfl,λz g=>(by cases g)]
 |r::c,_,h=>by
  cases h with
  |cons h1 h2=>
   obtain⟨b,rfl,j,k⟩:=EO h2;obtain⟨T,l,rfl,hT,g⟩:=h1.tup_inv;refine#[(r,T)::b,rfl,by rw[q0d,j],λz a=>?_];rcases q0e.mp a with rfl |a
   .exact h1
   .exact k z a
theorem Uq:∀G l a g y d z H Q,H l=!.lst a->aH G a g->DV G y d->bI G H->kF g d=!z->(∀u,DV G u z->Q u H)->EN (.ref l) [y] H Q:=λG l a g y d z H Q m j b k e q=>by
 unfold kF at e;split at e
 .rename_i s t n;split at e
  .rename_i o p;split at e
   .rename_i c;cases e;rw[ou n]at j;obtain⟨r,rfl,rfl,h3⟩:=EO j;rw[qu p]at b;obtain⟨T,v,rfl,hT,f⟩:=id b.tup_inv;refine#[l,r,T,o,rfl,rfl,m,λz f=>#[λh=>?_,DV.mono k (h3 z f)],DV.mono k b,q _ (.int _)];have:=q0O.mp c z.1 (q0D.mpr #[z,f,rfl]);rw[h]at this;cases this
   .cases e
  .cases e
 .cases e
theorem EQ{apos a}(t:X.A.units+64<cLine)(J:PE X (.Name x g) (cu i))(L:FE X F E e m)
  (c:autoParam (attributeBase (.Name x g) "count" X.env (eval (.Name x g) X.env)=eval (.Name x g) X.env) Zq._auto_1)
  (h:autoParam (((backTo a (starEach [e] X.env)).all (λx=>not x.1)&&(backToKw a (keywordEach [] X.env)).all (λx=>x.1.isSome)&&decide (([e]:List Expr).length+([]:List Keyword).length+(if ([]:List Keyword).isEmpty then 0 else 1)<30))=true) Zq._auto_1)
  (f:autoParam ((apos.endLine==a.line)=true) Zq._auto_1) (I:autoParam (starEach [e] X.env=(false,eval e X.env)::starEach [] X.env) Zq._auto_1) (b:autoParam ((backTo a (starEach [] X.env)).any (·.1)=false) Zq._auto_1) :
  FE X F E (.Call (.Attribute (.Name x g) "count" apos) [e] [] a) (kB kF i m):=
 #[aE,(sh q1E q1F q1G (Up t) J (dJ L.pe eB I) c h f I b).imp λY H Q j=>by
  obtain⟨U,O,st,q⟩:=j;unfold wp kB at q;cases v:gK U i with
  |none=>rw[v]at q;exact q.elim
  |some M=>
   rw[v]at q;obtain⟨p,y,l,B,_⟩:=tt st v;refine#[_,l,.inl #[rfl,y,.of B],U,O,st,aE _ _ _ (λd C N w T O1 n s1 d1=>?_) (bK q)];obtain⟨z,s,q2⟩:=cJ N;cases h1:gK C i with
   |none=>rw[h1]at s;cases s
   |some a0=>
    rw[h1]at s;obtain⟨p',a1,r,D,G⟩:=tt n h1;rw[l]at r;cases r;exact Uq _ _ _ _ _ _ _ _ _ D G d1 kh s λu t=>q2 u T O1 n s1 t]
end L2.L3
namespace Due
abbrev Sh:=List (Int×Int)
noncomputable def ui(a:Int):Sh->Int->Int
 |[],_=>a
 |(b,c)::r,m=>ui (if b<=m then c else a) r m
def yn(a:Int)(b:Sh)(m:Int):Int:=m+ui a b m
def oD:Int->Sh->Prop
 |_,[]=>True
 |lo,(b,_)::r=>lo<b/\oD b r
noncomputable def qR(g:Int):Int->Int->Sh->Int
 |s,a,[]=>max s (g - a)
 |s,a,(b,c)::r=>if max s (g - a)<b then max s (g - a) else qR g b c r
def ER(a:Int)(b:Sh):Prop:=(-12<=a/\a<=14)/\∀p∈b,-12<=p.2/\p.2<=14
noncomputable def cz(s a:Int):Sh->List (Int×Option Int×Int)
 |[]=>[(s,none,a)]
 |(b,c)::r=>(s,!b,a)::cz b c r
noncomputable def mK(m:Int):Option Int->Bool
 |none=>true
 |some e=>decide (m<e)
def oE(g:Int)(l:List (Int×Option Int×Int)):List Int:=(l.filter λp=>mK (max p.1 (g - p.2.2)) p.2.1).map λp=>max p.1 (g - p.2.2)
theorem ES(g):∀d  s a,∃t,oE g (cz s a d)=qR g s a d::t
 |[],s,a=>#[[],rfl]
 | (b,c)::r,s,a=>by
  obtain⟨t,e⟩:=ES g r b c;unfold cz qR oE;rw[q1g]
  by_cases h:max s (g - a)<b
  .rw[if_pos (by exact decide_eq_true h),if_pos h];exact#[_,rfl]
  .rw[if_neg (by show ¬ decide (max s (g - a)<b)=true;simpa using h),if_neg h];exact#[t,e]
def yo(a:Int)(b:Sh)(h:Int):Int:=-((h - yn a b 0) / 24)
def yp(a:Int)(b:Sh)(h:Int)(c:Nat):Int:=qR ((yo a b h+c) * 24+h) 0 a b
inductive eR where
 |once (m:Int) |every (f s:Int) |daily (h:Int)
def fz(a:Int)(b:Sh):eR->Nat->Option Int
 |.once m,c=>if c=0 then some m else none
 |.every f s,c=>some (f+c * s)
 |.daily h,c=>!yp a b h c
structure mL (a:Int) (ss:Sh):Prop where
 len:ss.length<=6
 rise:oD 0 ss
 ah:ER a ss
 top:∀p∈ss,p.1<=9999
def jM:eR->Prop
 |.once m=>0<=m/\m<=9999
 |.every f s=>(0<=f/\f<=9999)/\1<=s/\s<=999
 |.daily h=>0<=h/\h<=23
def ET(a:Int)(b:Sh)(p:eR)(c:Nat):Int:=(fz a b p c).getD 0
end Due
noncomputable section
namespace K3
open PySem PySem.Spec L2 L2.L3 PyProof.Rows
noncomputable abbrev oF:List Str:=["NoZone","NoMoment","NoDeeds","NoRunner","NoTerm","NotHolder","Nothing","NoCall"]
def uj:SM:=(bz (fo (jD "int" (xV 0)) (fo (BU (jD "bool" (xV 0))) (wS (λi j=>decide (i<=j)) (λi j=>decide (i<=j)) (xV 1) (xV 0) (xV 2)))))
def hZ:FM:=bu 3 3 uj
def yq:SM:=(bz (fo (jD "tuple" (xV 0)) (aj (aI false) (cV gm (av (xV 0) aM)) (xV 1))))
def lb:FM:=bu 2 2 yq
def yr:SM:=(bO (aZ (aj tu (aj aG (xV 3) (xC (.int 0))) (xV 1))) (bF (aj aG (xV 3) (xC (.int 1))) (aA 2)) bW)
def EU:SM:=(aC (bF (aj aG (xV 0) (xC (.int 0))) (aA 2))
  (aC (fO (kt (aj aG (xV 0) (xC (.int 1)))) (aA 3) yr)
  (bz (aj dH (xV 1) (xV 2)))))
def uk:FM:=bu 2 4 EU
def yt:XM PyData:=(aj aG (xV 0) (xC (.int 0)))
def yu:XM PyData:=(aj aG (xV 0) (xC (.int 1)))
def EV:SM:=(aC (bF (aj mf (gl (av (xC (.int 0)) aM)) (ef 1 [] (kt (aj aG (xV 0) (xC (.int 1)))) (aA 0) cW yt)) (aA 1))
  (aC (bF (aj mf (xU (Cw 1) (xV 1)) (gl (av (xC .none) aM))) (aA 2))
  (aC (bF (aj mf (gl (av (aj aG (xV 0) (xC (.int 0))) aM)) (ef 1 [] (kt (aj aG (xV 0) (xC (.int 1)))) (aA 0) cW yu)) (aA 3))
  (bz (cV xj (av (xV 1) (av (xV 2) (av (xV 3) aM))))))))
def um:FM:=bu 1 4 EV
def EW:SM:=(bz (wR (aj nN (xV 1) (xC .none)) (aj om (xV 0) (xV 1))))
def uo:FM:=bu 2 2 EW
def mM:XM Bool:=(aZ (aj (aI false) (aj aG (xV 0) (xC (.int 3))) (xV 1)))
def mO:XM PyData:=(aj aG (xV 0) (xC (.int 2)))
def lc:XM PyData:=(kB gp 1 (xV 0))
def EY:SM:=(aC (bF (ef 1 [1] (dG (xV 0)) (aA 0) mM mO) (aA 2))
  (bz (cV pV (av (ef 1 [2] (iC (fy ["begun","done","left","unsure"])) (aA 0) cW lc) aM))))
def uq:FM:=bu 2 3 EY
def ur:SM:=(aC (bO (aZ (aj om (xV 1) (sV 0))) (bz (sW 0 (xV 1))) bW)
  (aC (bO (wV 0) (bz (xC (.int 0))) bW)
  (bz (aj dH (aj oi (sW 0 (aj oj (xV 1) (sV 0))) (xC (.int 31))) (xV 1)))))
def oG:FM:=bu 2 2 ur
def EZ(C:Addr):SM:=(bz (fo (aj jB (cM C 0 "holder") (xC .none)) (aj om (xV 1) (cM C 0 "until"))))
def qS(C:Addr):FM:=bu 2 2 (EZ C)
def yv(C:Addr):SM:=(aC (bF (aj aG (xV 1) (xC (.int 2))) (aA 2))
  (aC (bF (aj aG (xV 1) (xC (.int 3))) (aA 3))
  (aC (bF (aj aG (xV 1) (xC (.int 4))) (aA 4))
  (aC (ql C 0 "rows" 1)
  (aC (tD C 0 "words" 3 4 (xV 2))
  (aC (bO (aZ (aj (aI false) (xV 2) (xC (.str "begun")))) (cX C 0 "begun" (cn (av (xV 3) (av (xV 4) (av (cM C 0 "holds") aM))))) (aC (cX C 0 "begun" (xC .none))
  (tE C 0 "settled" 3 (aj dH (xV 4) (xC (.int 1))))))
  (bz (cn (av (xV 2) (av (xV 3) (av (xV 4) aM)))))))))))
def iJ(C:Addr):FM:=bu 2 5 (yv C)
def yw(C:Addr):SM:=(bz (fo (aj jB (cM C 0 "begun") (xC .none)) (aj (aI false) (aj aG (cM C 0 "begun") (xC (.int 2))) (cM C 0 "holds"))))
def oH(C:Addr):FM:=bu 1 1 (yw C)
def Fa(C:Addr):SM:=(bz (tG C 0 "rows"))
def jn(C:Addr):FM:=bu 1 1 (Fa C)
def Fb:SM:=(er (aS hZ (aw (xV 0) (aw (xC (.int (-12))) (aw (xC (.int (14))) aJ)))))
def qT:FM:=bu 1 1 Fb
def Fc:SM:=(er (aS hZ (aw (xV 0) (aw (xC (.int 0)) (aw (xC (.int (9999))) aJ)))))
def oI:FM:=bu 1 1 Fc
def Fd:SM:=(er (aS hZ (aw (xV 0) (aw (xC (.int 0)) (aw (xC (.int (3))) aJ)))))
def uu:FM:=bu 1 1 Fd
def Fe:SM:=(er (aS hZ (aw (xV 0) (aw (xC (.int 1)) (aw (xC (.int (99))) aJ)))))
def uv:FM:=bu 1 1 Fe
def yx:SM:=(bz (fo (aV (aS lb (aw (xV 0) (aw (xV 2) aJ)))) (fo (jD "str" (aj aG (xV 0) (xC (.int 0)))) (aj (aI false) (aj aG (xV 0) (xC (.int 0))) (xV 1)))))
def kG:FM:=bu 3 3 yx
def yy:XM Bool:=(aZ (aV (aS uo (aw (cV sU (av (xV 0) (av (aj iP (xV 3) (xV 2)) aM))) (aw (xV 1) aJ)))))
def yz:XM PyData:=(cV sU (av (xV 0) (av (aj iP (xV 3) (xV 2)) aM)))
def Ff:SM:=(aC (bF (ef 3 [1] (dG (aV (aS um (aw (xV 0) aJ)))) (gG 3 (cE (aA 0) (cE (aA 1) (cE (aA 2) jd)))) yy yz) (aA 2))
  (bz (aj aG (xV 2) (xC (.int 0)))))
def uw:FM:=bu 2 3 Ff
def Fg:SM:=(bz (ko (aj CF (aj iP (xV 1) (aV (aS uk (aw (xV 0) (aw (xC (.int 0)) aJ))))) (xC (.int (24))))))
def ux:FM:=bu 2 2 Fg
def uy(C:Addr):XM PyData:=(aV (aS uq (aw (xV 1) (aw (xV 0) aJ))))
def yA(C:Addr):SM:=(aC (bF (aV (dc C 0 "log" (jn C))) (aA 1))
  (bz (ef 1 [1] (gn cp (av (cV gm (av (cM C 0 "deeds") aM)) aM)) (aA 0) cW (uy C))))
def uz(C:Addr):FM:=bu 1 2 (yA C)
def mP(C:Addr):SM:=(bO (aZ (aj (aI false) (xV 4) (xC (.str "begun")))) (mw 1 (cn (av (xV 5) (av (xV 6) aM))) (aj dH (nZ 1 (cn (av (xV 5) (av (xV 6) aM))) (xC (.int 0))) (xC (.int 1)))) bW)
def oJ(C:Addr):XM Bool:=(aZ (aj kS (ox 1 (xV 0)) (xC (.int 1))))
def oK(C:Addr):XM PyData:=(cn (av (aj aG (xV 0) (xC (.int 0))) (av (aj aG (xV 0) (xC (.int 1))) (av (ox 1 (xV 0)) aM))))
def Fh(C:Addr):SM:=(aC (iB 1 (mu true))
  (aC (fO (dG (aV (dc C 0 "log" (jn C)))) (gG 5 (cE (aA 2) (cE (aA 3) (cE (aA 4) (cE (aA 5) (cE (aA 6) jd)))))) (mP C))
  (bz (oq 1 [1] (dG (mJ 1)) (aA 0) (oJ C) (oK C)))))
def uA(C:Addr):FM:=bu 1 7 (Fh C)
def mQ(C:Addr):SM:=(bO (aZ (aj (aI false) (xV 4) (xC (.str "done")))) (mw 1 (xV 3) (aj dH (nZ 1 (xV 3) (xC (.int 0))) (xC (.int 1)))) bW)
def Fi(C:Addr):SM:=(aC (iB 1 (mu false))
  (aC (fO (dG (aV (dc C 0 "log" (jn C)))) (gG 5 (cE (aA 2) (cE (aA 3) (cE (aA 4) (cE (aA 5) (cE (aA 6) jd)))))) (mQ C))
  (bz (qE 1))))
def uB(C:Addr):FM:=bu 1 7 (Fi C)
def lg(C:Addr):SM:=(bO (aZ (aj (aI false) (xV 5) (xC (.str "begun")))) (mw 2 (cn (av (xV 6) (av (xV 7) aM))) (xV 3)) (bO (aZ (aj (aI false) (xV 5) (xC (.str "done")))) (jf 1 (cn (av (xV 6) (av (xV 7) (av (aj iP (xV 3) (tm 2 (cn (av (xV 6) (av (xV 7) aM))))) aM))))) bW))
def Fj(C:Addr):SM:=(aC (iB 1 (kw aM))
  (aC (iB 2 (mu true))
  (aC (fO (dG (aV (dc C 0 "log" (jn C)))) (gG 5 (cE (aA 3) (cE (aA 4) (cE (aA 5) (cE (aA 6) (cE (aA 7) jd)))))) (lg C))
  (bz (cV mF (av (xV 1) aM))))))
def uC(C:Addr):FM:=bu 1 8 (Fj C)
def Fk:SM:=(aC (bF (aj oj (aj dH (aj dH (aj oi (aV (aS oG (ba 0 (aw (xV 1) aJ)))) (xC (.int 1103515245))) (aj oi (xC (.int 7919)) (xV 1))) (xC (.int 12345))) (xC (.int 2147483647))) (aA 3))
  (bz (aj oj (aj oj (aj oj (aj CJ (xV 3) (xC (.int 5))) (xC (.int 2147483647))) (xC (.int 999983))) (xV 2))))
def uD:FM:=bu 3 4 Fk
def yB(C:Addr):SM:=(aC (bF (aj aG (cM C 0 "begun") (xC (.int 0))) (aA 3))
  (aC (bF (mh (aZ (aj aG (aj aG (cM C 0 "deeds") (xV 3)) (xC (.int (2))))) (xC (.str "begun")) (xC (.str "unsure"))) (aA 4))
  (er (bX C 0 "add_row" (iJ C) (aw (cn (av (xV 2) (av (xV 1) (av (xV 4) (av (xV 3) (av (aj aG (cM C 0 "begun") (xC (.int 1))) aM)))))) aJ)))))
def qU(C:Addr):FM:=bu 3 5 (yB C)
def uE:SM:=(aC (bO (pU (fM (aZ (aV (aS lb (aw (xV 2) (aw (xC (.int 2)) aJ)))))) (fM (aZ (aV (aS qT (aw (aj aG (xV 2) (xC (.int 1))) aJ)))))) (bz (xC (.bool false))) bW)
  (aC (bO (fM (aZ (aV (aS hZ (aw (aj aG (xV 2) (xC (.int 0))) (aw (xV 1) (aw (xC (.int (9999))) aJ))))))) (bz (xC (.bool false))) bW)
  (bF (aj dH (aj aG (xV 2) (xC (.int 0))) (xC (.int 1))) (aA 1))))
def Fm:SM:=(aC (bO (pU (fM (aZ (jD "tuple" (xV 0)))) (aZ (aj kS (cV gm (av (xV 0) aM)) (xC (.int (6)))))) (bz (xC (.bool false))) bW)
  (aC (bF (xC (.int 1)) (aA 1))
  (aC (fO (kt (xV 0)) (aA 2) uE)
  (bz (xC (.bool true))))))
def uF:FM:=bu 1 3 Fm
def uG:SM:=(aC (bO (aZ (aV (aS kG (aw (xV 0) (aw (xC (.str "once")) (aw (xC (.int 2)) aJ)))))) (er (aS oI (aw (aj aG (xV 0) (xC (.int 1))) aJ))) bW)
  (aC (bO (aZ (aV (aS kG (aw (xV 0) (aw (xC (.str "every")) (aw (xC (.int 3)) aJ)))))) (bz (fo (aV (aS oI (aw (aj aG (xV 0) (xC (.int 1))) aJ))) (aV (aS hZ (aw (aj aG (xV 0) (xC (.int 2))) (aw (xC (.int 1)) (aw (xC (.int (999))) aJ))))))) bW)
  (bz (fo (aV (aS kG (aw (xV 0) (aw (xC (.str "daily")) (aw (xC (.int 2)) aJ))))) (aV (aS hZ (aw (aj aG (xV 0) (xC (.int 1))) (aw (xC (.int 0)) (aw (xC (.int (23))) aJ)))))))))
def oM:FM:=bu 1 1 uG
def uH:SM:=(aC (bO (aZ (jD "str" (xV 0))) (bz (wR (aj (aI false) (xV 0) (xC (.str "all"))) (aj (aI false) (xV 0) (xC (.str "last"))))) bW)
  (bz (fo (aV (aS kG (aw (xV 0) (aw (xC (.str "within")) (aw (xC (.int 2)) aJ))))) (aV (aS hZ (aw (aj aG (xV 0) (xC (.int 1))) (aw (xC (.int 0)) (aw (xC (.int (999))) aJ))))))))
def oN:FM:=bu 1 1 uH
def Fo:SM:=(bO (fM (aZ (aV (aS oI (aw (xV 0) aJ))))) (jg "NoMoment") bW)
def uI:FM:=bu 1 1 Fo
def Fp:SM:=(bO (fM (aZ (aV (aS uu (aw (xV 0) aJ))))) (jg "NoRunner") bW)
def uJ:FM:=bu 1 1 Fp
def Fq:SM:=(bO (fM (aZ (aV (aS uv (aw (xV 0) aJ))))) (jg "NoTerm") bW)
def uK:FM:=bu 1 1 Fq
def Fs:SM:=(aC (bF (aj dH (aV (aS ux (aw (xV 0) (aw (xV 1) aJ)))) (xV 2)) (aA 3))
  (er (aS uw (aw (xV 0) (aw (aj dH (aj oi (xV 3) (xC (.int (24)))) (xV 1)) aJ)))))
def uL:FM:=bu 3 4 Fs
def uM:XM PyData:=(aV (aS kG (aw (xV 1) (aw (xV 0) (aw (Dl [("take",4),("give",3),("step",3),("finish",3)] (xV 0)) aJ)))))
def qV:SM:=(bO (fM (aZ (cV mG (av (ef 1 [0] (iC (fy ["take","give","step","finish"])) (aA 0) cW uM) aM)))) (jg "NoCall") bW)
def iK:FM:=bu 1 1 qV
def Ft:SM:=(aC (jf 1 (xC (.int 0)))
  (er (aS uD (ba 0 (aw (xa 1) (aw (xV 2) aJ))))))
def eh:FM:=bu 3 3 Ft
def Fu:SM:=(bz (fo (aV (aS lb (aw (xV 0) (aw (xC (.int 2)) aJ)))) (fo (aV (aS qT (aw (aj aG (xV 0) (xC (.int 0))) aJ))) (aV (aS uF (aw (aj aG (xV 0) (xC (.int 1))) aJ))))))
def uN:FM:=bu 1 1 Fu
def Fv:SM:=(bz (fo (aV (aS lb (aw (xV 0) (aw (xC (.int 3)) aJ)))) (fo (aV (aS oM (aw (aj aG (xV 0) (xC (.int 0))) aJ))) (fo (aV (aS oN (aw (aj aG (xV 0) (xC (.int 1))) aJ))) (jD "bool" (aj aG (xV 0) (xC (.int 2))))))))
def uO:FM:=bu 1 1 Fv
def qW:SM:=(aC (bO (aZ (aj (aI false) (aj aG (xV 1) (xC (.int 0))) (xC (.str "once")))) (bz (mh (aZ (aj (aI false) (xV 2) (xC (.int 0)))) (aj aG (xV 1) (xC (.int 1))) (xC .none))) bW)
  (aC (bO (aZ (aj (aI false) (aj aG (xV 1) (xC (.int 0))) (xC (.str "every")))) (bz (aj dH (aj aG (xV 1) (xC (.int 1))) (aj oi (xV 2) (aj aG (xV 1) (xC (.int 2)))))) bW)
  (er (aS uL (aw (xV 0) (aw (aj aG (xV 1) (xC (.int 1))) (aw (xV 2) aJ)))))))
def jo:FM:=bu 3 3 qW
def Fw:SM:=(bz (aj aG (xV 2) (aV (aS eh (ba 0 (ba 1 (aw (cV gm (av (xV 2) aM)) aJ)))))))
def ib:FM:=bu 3 3 Fw
def yC(C:Addr):SM:=(aC (iD (aS uJ (aw (xV 1) aJ)))
  (aC (iD (aS uI (aw (xV 2) aJ)))
  (bO (wT (aZ (aj jB (cM C 0 "last") (xC .none))) (aZ (aj om (xV 2) (cM C 0 "last")))) (jg "NoMoment") bW)))
def jN(C:Addr):FM:=bu 3 3 (yC C)
def uP:XM PyData:=(aV (aS uO (aw (xV 0) aJ)))
def Fy:SM:=(aC (bO (pU (fM (aZ (jD "tuple" (xV 0)))) (aZ (aj kS (cV gm (av (xV 0) aM)) (xC (.int (6)))))) (bz (xC (.bool false))) bW)
  (bz (cV nQ (av (ef 1 [] (kt (xV 0)) (aA 0) cW uP) aM))))
def yD:FM:=bu 1 1 Fy
def Fz:SM:=(bO (fM (aZ (aV (aS uN (aw (xV 0) aJ))))) (jg "NoZone") bW)
def mR:FM:=bu 1 1 Fz
def qX:SM:=(aC (bO (aZ (aj (aI false) (aj aG (xV 1) (xC (.int (1)))) (xC (.str "all")))) (bz (xC (.bool false))) bW)
  (aC (bO (aZ (aj (aI false) (aj aG (xV 1) (xC (.int (1)))) (xC (.str "last")))) (aC (bF (aV (aS jo (aw (xV 0) (aw (aj aG (xV 1) (xC (.int (0)))) (aw (aj dH (xV 2) (xC (.int 1))) aJ))))) (aA 4))
  (bz (fo (aj jB (xV 4) (xC .none)) (aj tu (xV 4) (xV 3))))) bW)
  (bz (aj kS (aj iP (xV 3) (aV (aS jo (aw (xV 0) (aw (aj aG (xV 1) (xC (.int (0)))) (aw (xV 2) aJ)))))) (aj aG (aj aG (xV 1) (xC (.int (1)))) (xC (.int 1)))))))
def mS:FM:=bu 4 5 qX
def uQ:SM:=(aC (bF (aj dH (aj dH (xV 4) (xC (.int 1))) (aV (aS eh (ba 0 (ba 1 (aw (xV 2) aJ)))))) (aA 4))
  (bF (aj eZ (xV 3) (cn (av (cn (av (xV 4) (av (aV (aS ib (ba 0 (ba 1 (aw (gl (av (xC (.int 0)) (av (xC (.int 1)) (av (xC (.int 2)) (av (ko (xC (.int 1))) (av (xC (.int 14)) (av (ko (xC (.int 12))) (av (xC (.int 3)) aM)))))))) aJ))))) aM))) aM))) (aA 3)))
def FC:SM:=(aC (bF (cn (av (cn aM) (av (xC (.int 0)) aM))) (gG 2 (cE (aA 3) (cE (aA 4) jd))))
  (aC (fO (gn cp (av (aV (aS eh (ba 0 (ba 1 (aw (xC (.int 5)) aJ))))) aM)) (aA 5) uQ)
  (bz (cn (av (aV (aS ib (ba 0 (ba 1 (aw (gl (av (xC (.int 0)) (av (xC (.int 1)) (av (xC (.int 2)) (av (ko (xC (.int 1))) (av (xC (.int 14)) (av (ko (xC (.int 12))) aM))))))) aJ))))) (av (xV 3) aM))))))
def qY:FM:=bu 3 6 FC
def uR:SM:=(aC (bF (aV (aS eh (ba 0 (ba 1 (aw (xC (.int 3)) aJ))))) (aA 3))
  (aC (bO (aZ (aj (aI false) (xV 3) (xC (.int 0)))) (bz (cn (av (xC (.str "once")) (av (aV (aS eh (ba 0 (ba 1 (aw (xV 2) aJ))))) aM)))) bW)
  (aC (bO (aZ (aj (aI false) (xV 3) (xC (.int 1)))) (aC (bF (aj dH (xC (.int 1)) (aV (aS eh (ba 0 (ba 1 (aw (aV (aS ib (ba 0 (ba 1 (aw (gl (av (xC (.int 3)) (av (xC (.int 30)) (av (xC (.int 200)) aM)))) aJ))))) aJ)))))) (aA 4))
  (bz (cn (av (xC (.str "every")) (av (aV (aS eh (ba 0 (ba 1 (aw (xV 2) aJ))))) (av (xV 4) aM)))))) bW)
  (bz (cn (av (xC (.str "daily")) (av (aV (aS eh (ba 0 (ba 1 (aw (xC (.int 24)) aJ))))) aM)))))))
def oO:FM:=bu 3 5 uR
def uS(C:Addr):SM:=(aC (iD (bX C 0 "check_call" (jN C) (aw (xV 1) (aw (xV 2) aJ))))
  (bO (pU (fM (aZ (aV (bX C 0 "is_held" (qS C) (aw (xV 2) aJ))))) (aZ (aj (aI true) (cM C 0 "holder") (xV 1)))) (jg "NotHolder") bW))
def fc(C:Addr):FM:=bu 3 3 (uS C)
def uT(C:Addr):SM:=(aC (iD (bX C 0 "check_call" (jN C) (aw (xV 1) (aw (xV 2) aJ))))
  (aC (iD (aS uK (aw (xV 3) aJ)))
  (aC (cX C 0 "last" (xV 2))
  (aC (bO (fM (aZ (aV (bX C 0 "is_held" (qS C) (aw (xV 2) aJ))))) (tF C 0 "holds" 1) (bO (aZ (aj (aI true) (cM C 0 "holder") (xV 1))) (bz (xC (.bool false))) bW))
  (aC (cX C 0 "holder" (xV 1))
  (aC (cX C 0 "until" (aj dH (xV 2) (xV 3)))
  (bz (xC (.bool true)))))))))
def mT(C:Addr):FM:=bu 4 4 (uT C)
def mU(C:Addr):SM:=(aC (bF (qo C 0 "settled" 2) (aA 3))
  (aC (bF (aV (aS jo (aw (cM C 0 "zone") (aw (aj aG (aj aG (cM C 0 "deeds") (xV 2)) (xC (.int (0)))) (aw (xV 3) aJ))))) (aA 4))
  (bO (aZ (aj jB (xV 4) (xC .none))) (jf 1 (cn (av (xV 4) (av (xV 2) (av (xV 3) aM))))) bW)))
def Ur(C:Addr):SM:=(aC (iB 1 (kw aM))
  (aC (fO (gn cp (av (cV gm (av (cM C 0 "deeds") aM)) aM)) (aA 2) (mU C))
  (bz (kW 1))))
def yE(C:Addr):FM:=bu 1 5 (Ur C)
def FF:SM:=(bO (fM (aZ (aV (aS yD (aw (xV 0) aJ))))) (jg "NoDeeds") bW)
def mV:FM:=bu 1 1 FF
def uU:SM:=(aC (bF (aV (aS eh (ba 0 (ba 1 (aw (xC (.int 9)) aJ))))) (aA 6))
  (aC (bF (aV (aS ib (ba 0 (ba 1 (aw (gl (av (xC (.str "all")) (av (xC (.str "all")) (av (xC (.str "last")) (av (cn (av (xC (.str "within")) (av (xV 6) aM))) aM))))) aJ))))) (aA 7))
  (aC (bF (aj (aI false) (aV (aS eh (ba 0 (ba 1 (aw (xC (.int 2)) aJ))))) (xC (.int 0))) (aA 8))
  (bF (aj eZ (xV 4) (cn (av (cn (av (aV (aS oO (ba 0 (ba 1 (aw (xV 3) aJ))))) (av (xV 7) (av (xV 8) aM)))) aM))) (aA 4)))))
def FH:SM:=(aC (bF (cn aM) (aA 4))
  (aC (fO (gn cp (av (aV (aS eh (ba 0 (ba 1 (aw (aj dH (xV 2) (xC (.int 1))) aJ))))) aM)) (aA 5) uU)
  (bz (xV 4))))
def uV:FM:=bu 4 9 FH
def yF(C:Addr):SM:=(aC (iD (bX C 0 "check_holder" (fc C) (aw (xV 1) (aw (xV 2) aJ))))
  (aC (cX C 0 "last" (xV 2))
  (cX C 0 "holder" (xC .none))))
def lh(C:Addr):FM:=bu 3 3 (yF C)
def qZ(C:Addr):SM:=(aC (bF (aV (dc C 0 "first_unsettled" (yE C))) (aA 3))
  (aC (bO (aZ (aj nN (xV 3) (xC .none))) (bz (cn (av (xC (.str "idle")) (av (xC .none) aM)))) bW)
  (aC (bO (aZ (aj kS (aj aG (xV 3) (xC (.int 0))) (xV 2))) (bz (cn (av (xC (.str "idle")) (av (aj aG (xV 3) (xC (.int 0))) aM)))) bW)
  (aC (bF (aj aG (xV 3) (xC (.int 1))) (aA 4))
  (aC (bF (aj aG (xV 3) (xC (.int 2))) (aA 5))
  (aC (bF (mh (aZ (aV (aS mS (aw (cM C 0 "zone") (aw (aj aG (cM C 0 "deeds") (xV 4)) (aw (xV 5) (aw (xV 2) aJ))))))) (xC (.str "left")) (xC (.str "begun"))) (aA 6))
  (er (bX C 0 "add_row" (iJ C) (aw (cn (av (xV 2) (av (xV 1) (av (xV 6) (av (xV 4) (av (xV 5) aM)))))) aJ)))))))))
def mW(C:Addr):FM:=bu 3 7 (qZ C)
def uW(C:Addr):SM:=(aC (iD (bX C 0 "check_holder" (fc C) (aw (xV 1) (aw (xV 2) aJ))))
  (aC (bO (fM (aZ (aV (dc C 0 "is_busy" (oH C))))) (jg "Nothing") bW)
  (aC (cX C 0 "last" (xV 2))
  (er (bX C 0 "add_row" (iJ C) (aw (cn (av (xV 2) (av (xV 1) (av (xC (.str "done")) (av (aj aG (cM C 0 "begun") (xC (.int 0))) (av (aj aG (cM C 0 "begun") (xC (.int 1))) aM)))))) aJ))))))
def jO(C:Addr):FM:=bu 3 3 (uW C)
def uX(C:Addr):XM PyData:=(xC (.int 0))
def FJ(C:Addr):SM:=(aC (iD (aS mR (aw (xV 1) aJ)))
  (aC (iD (aS mV (aw (xV 2) aJ)))
  (aC (cX C 0 "zone" (xV 1))
  (aC (cX C 0 "deeds" (xV 2))
  (aC (cX C 0 "last" (xC .none))
  (aC (cX C 0 "holder" (xC .none))
  (aC (cX C 0 "until" (xC (.int 0)))
  (aC (cX C 0 "holds" (xC (.int 0)))
  (aC (cX C 0 "begun" (xC .none))
  (aC (mz C 0 "rows" (.l []))
  (aC (mz C 0 "words" (.m true []))
  (xG C 0 "settled" 1 [] (kt (xV 2)) (aA 0) cW (uX C)))))))))))))
def uY(C:Addr):FM:=bu 3 3 (FJ C)
def ra(C:Addr):SM:=(aC (iD (bX C 0 "check_holder" (fc C) (aw (xV 1) (aw (xV 2) aJ))))
  (aC (cX C 0 "last" (xV 2))
  (aC (bO (aZ (aV (dc C 0 "is_busy" (oH C)))) (bz (cn (av (xC (.str "busy")) (av (aj aG (cM C 0 "begun") (xC (.int 0))) (av (aj aG (cM C 0 "begun") (xC (.int 1))) aM))))) bW)
  (aC (bO (aZ (aj jB (cM C 0 "begun") (xC .none))) (er (bX C 0 "step_behind_a_fall" (qU C) (aw (xV 1) (aw (xV 2) aJ)))) bW)
  (er (bX C 0 "step_ahead" (mW C) (aw (xV 1) (aw (xV 2) aJ))))))))
def jP(C:Addr):FM:=bu 3 3 (ra C)
def li(C:Addr):SM:=(aC (bO (aZ (aj (aI false) (aj aG (xV 1) (xC (.int 0))) (xC (.str "take")))) (er (bX C 0 "take" (mT C) (aw (aj aG (xV 1) (xC (.int 1))) (aw (aj aG (xV 1) (xC (.int 2))) (aw (aj aG (xV 1) (xC (.int 3))) aJ))))) bW)
  (aC (bO (aZ (aj (aI false) (aj aG (xV 1) (xC (.int 0))) (xC (.str "give")))) (er (bX C 0 "give" (lh C) (aw (aj aG (xV 1) (xC (.int 1))) (aw (aj aG (xV 1) (xC (.int 2))) aJ)))) bW)
  (aC (bO (aZ (aj (aI false) (aj aG (xV 1) (xC (.int 0))) (xC (.str "step")))) (er (bX C 0 "step" (jP C) (aw (aj aG (xV 1) (xC (.int 1))) (aw (aj aG (xV 1) (xC (.int 2))) aJ)))) bW)
  (er (bX C 0 "finish" (jO C) (aw (aj aG (xV 1) (xC (.int 1))) (aw (aj aG (xV 1) (xC (.int 2))) aJ)))))))
def fe(C:Addr):FM:=bu 2 2 (li C)
def yG(C:Addr):SM:=(aC (iD (aS iK (aw (xV 1) aJ)))
  (qa oF (er (aS (fe C) (ba 0 (aw (xV 1) aJ)))) (bz (xC (.str "refused")))))
def mY(C:Addr):FM:=bu 2 2 (yG C)
def uZ(C:Addr):XM PyData:=(aV (aS (mY C) (ba 1 (aw (xV 0) aJ))))
def FK(C:Addr):SM:=(aC (iB 3 (xy C (uY C) (av (xV 0) (av (xV 1) aM))))
  (aC (bO (fM (aZ (jD "list" (xV 2)))) (jg "NoCall") bW)
  (er (oC C 3 (tS 1 [3] 0 3 (dG (xV 2)) (aA 0) cW (uZ C))))))
def va(C:Addr):FM:=bu 3 4 (FK C)
def rb(C:Addr):SM:=(aC (bF (aj dH (xV 6) (aV (aS eh (ba 0 (ba 1 (aw (aV (aS ib (ba 0 (ba 1 (aw (gl (av (xC (.int 1)) (av (xC (.int 3)) (av (xC (.int 12)) aM)))) aJ))))) aJ)))))) (aA 6))
  (aC (bF (aV (aS eh (ba 0 (ba 1 (aw (aV (aS ib (ba 0 (ba 1 (aw (gl (av (xC (.int 1)) (av (xC (.int 2)) (av (xC (.int 4)) aM)))) aJ))))) aJ))))) (aA 8))
  (aC (bF (aV (aS ib (ba 0 (ba 1 (aw (gl (av (xC (.str "take")) (av (xC (.str "step")) (av (xC (.str "step")) (av (xC (.str "step")) (av (xC (.str "finish")) (av (xC (.str "finish")) (av (xC (.str "give")) aM)))))))) aJ))))) (aA 9))
  (aC (bF (cn (av (xV 9) (av (xV 8) (av (xV 6) aM)))) (aA 10))
  (jf 5 (mh (aZ (aj (aI false) (xV 9) (xC (.str "take")))) (aj eZ (xV 10) (cn (av (aj dH (xC (.int 1)) (aV (aS eh (ba 0 (ba 1 (aw (xC (.int 30)) aJ)))))) aM))) (xV 10)))))))
def FL(C:Addr):SM:=(aC (Dm 5 6 0 (kw aM))
  (aC (fO (gn cp (av (aV (aS eh (ba 0 (ba 1 (aw (aj dH (xV 4) (xC (.int 1))) aJ))))) aM)) (aA 7) (rb C))
  (aC (qH 11 12 (aS (va C) (aw (xV 2) (aw (xV 3) (aw (aj mf (gl (av (cn (av (xC (.str "take")) (av (xC (.int 0)) (av (xC (.int 0)) (av (xC (.int 30)) aM))))) aM)) (xV 5)) aJ)))))
  (er (oC C 11 (xV 5))))))
def rc(C:Addr):FM:=bu 5 13 (FL C)
def FQ(C:Addr):SM:=(iB 1 (kw aM))
def FR(C:Addr):SM:=(bF (aV (aS qY (ba 0 (ba 1 (aw (xC (.int 40)) aJ))))) (aA 2))
def FT(C:Addr):SM:=(bF (aV (aS uV (ba 0 (ba 1 (aw (xC (.int 4)) (aw (xC (.int 20)) aJ)))))) (aA 3))
def FU(C:Addr):SM:=(qH 4 5 (aS (rc C) (ba 0 (ba 1 (aw (xV 2) (aw (xV 3) (aw (xC (.int 40)) aJ)))))))
def FV(C:Addr):SM:=(bF (aV (dc C 4 "log" (jn C))) (aA 6))
def FY(C:Addr):SM:=(iB 7 (kw aM))
def FZ(C:Addr):XM Bool:=(aZ (aj (aI false) (aj aG (xV 0) (xC (.int 3))) (xV 1)))
def Ga(C:Addr):XM PyData:=(aj aG (xV 0) (xC (.int 2)))
def Gb(C:Addr):XM PyData:=(kB gp 1 (xV 0))
def rg(C:Addr):SM:=(aC (bF (ef 1 [8] (dG (xV 6)) (aA 0) (FZ C) (Ga C)) (aA 9))
  (jf 7 (cV pV (av (ef 1 [9] (kt (cn (av (xC (.str "begun")) (av (xC (.str "done")) (av (xC (.str "left")) (av (xC (.str "unsure")) aM)))))) (aA 0) cW (Gb C)) aM))))
def Gc(C:Addr):SM:=(fO (gn cp (av (cV gm (av (xV 3) aM)) aM)) (aA 8) (rg C))
def Gd(C:Addr):SM:=(bO (aZ (aj (aI true) (aV (aS (uz C) (ba 4 aJ))) (xV 7))) (bz (xC (.bool false))) bW)
def vb(C:Addr):XM Bool:=(aZ (aj (aI false) (aj aG (xV 0) (xC (.int 2))) (xC (.str "begun"))))
def vc(C:Addr):XM PyData:=(jJ (xV 0) (jI (xC (.int 3))) jH)
def Gf(C:Addr):SM:=(bF (ef 1 [] (dG (xV 6)) (aA 0) (vb C) (vc C)) (aA 9))
def vd(C:Addr):XM Bool:=(aZ (aj kS (kB kF 1 (xV 0)) (xC (.int 1))))
def ve(C:Addr):XM PyData:=(aj eZ (xV 0) (cn (av (kB kF 1 (xV 0)) aM)))
def Gg(C:Addr):SM:=(bF (ef 1 [9] (dG (cV qP (av (xV 9) aM))) (aA 0) (vd C) (ve C)) (aA 10))
def vf(C:Addr):XM Bool:=(aZ (aj (aI false) (aj aG (xV 0) (xC (.int 2))) (xC (.str "done"))))
def vg(C:Addr):XM PyData:=(aj aG (xV 0) (xC (.int 1)))
def Gh(C:Addr):SM:=(bF (ef 1 [] (dG (xV 6)) (aA 0) (vf C) (vg C)) (aA 11))
def Gi(C:Addr):SM:=(bO (aZ (aj (aI true) (aV (aS (uA C) (ba 4 aJ))) (xV 10))) (bz (xC (.bool false))) bW)
def vh(C:Addr):XM PyData:=(cn (av (xV 0) (av (kB gp 1 (xV 0)) aM)))
def Gj(C:Addr):SM:=(bO (aZ (aj (aI true) (aV (aS (uB C) (ba 4 aJ))) (ef 1 [11] (dG (cV qQ (av (xV 11) aM))) (aA 0) cW (vh C)))) (bz (xC (.bool false))) bW)
def Gk(C:Addr):SM:=(iB 12 (kw aM))
def rh(C:Addr):XM Bool:=(wT (aZ (aj (aI false) (aj aG (xV 0) (xC (.int 2))) (xC (.str "begun")))) (aZ (aj (aI false) (jJ (xV 0) (jI (xC (.int 3))) jH) (jJ (xV 1) (jI (xC (.int 3))) jH))))
def vi(C:Addr):XM PyData:=(aj aG (xV 0) (xC (.int 0)))
def oP(C:Addr):SM:=(bO (aZ (aj (aI false) (aj aG (xV 14) (xC (.int 2))) (xC (.str "done")))) (aC (bF (ef 1 [14] (dG (jJ (xV 6) jH (jI (xV 13)))) (aA 0) (rh C) (vi C)) (aA 15))
  (jf 12 (aj eZ (jJ (xV 14) (jI (xC (.int 3))) jH) (cn (av (aj iP (aj aG (xV 14) (xC (.int 0))) (aj aG (xV 15) (ko (xC (.int 1))))) aM))))) bW)
def Gm(C:Addr):SM:=(fO (gn ku (av (xV 6) aM)) (gG 2 (cE (aA 13) (cE (aA 14) jd))) (oP C))
def Gn(C:Addr):SM:=(bz (aj (aI false) (aV (aS (uC C) (ba 4 aJ))) (cV mF (av (xV 12) aM))))
def Go(C:Addr):SM:=(aC (FQ C)
  (aC (FR C)
  (aC (FT C)
  (aC (FU C)
  (aC (FV C)
  (aC (FY C)
  (aC (Gc C)
  (aC (Gd C)
  (aC (Gf C)
  (aC (Gg C)
  (aC (Gh C)
  (aC (Gi C)
  (aC (Gj C)
  (aC (Gk C)
  (aC (Gm C)
  (Gn C))))))))))))))))
def Gp(C:Addr):FM:=bu 1 16 (Go C)
end K3
namespace K3
open PySem PySem.Spec L2 L2.L3 PyProof.Rows
noncomputable def top(i:Nat):Stmt:=PySem.Challenge.pw_duehall_k31_whole_logs_told.main.body.getD i (.Pass ⟨0,0,0,0⟩)
abbrev Gq:Stmt:=top 22
abbrev Gr:Stmt:=top 23
abbrev Gs:Stmt:=top 24
abbrev Gu:Stmt:=top 25
abbrev Gv:Stmt:=top 26
abbrev Gw:Stmt:=top 27
abbrev Gx:Stmt:=top 28
abbrev Gy:Stmt:=top 29
abbrev Gz:Stmt:=top 30
abbrev GA:Stmt:=top 31
abbrev GB:Stmt:=top 32
abbrev GC:Stmt:=top 33
abbrev GD:Stmt:=top 34
abbrev GG:Stmt:=top 35
abbrev GI:Stmt:=top 36
abbrev GJ:Stmt:=top 37
abbrev GK:Stmt:=top 38
abbrev GL:Stmt:=top 39
abbrev GN:Stmt:=top 42
abbrev GO:Stmt:=top 43
abbrev GP:Stmt:=top 44
abbrev GQ:Stmt:=top 45
abbrev GR:Stmt:=top 47
abbrev GS:Stmt:=top 48
abbrev GU:Stmt:=top 49
abbrev GV:Stmt:=top 52
abbrev GW:Stmt:=top 53
abbrev GX:Stmt:=top 54
abbrev GY:Stmt:=top 55
abbrev GZ:Stmt:=top 56
abbrev Ha:Stmt:=top 61
abbrev Hb:Stmt:=gz (top 62) 0
abbrev Hc:Stmt:=gz (top 62) 1
abbrev Hd:Stmt:=gz (top 62) 2
abbrev He:Stmt:=gz (top 62) 3
abbrev Hf:Stmt:=gz (top 62) 4
abbrev Hg:Stmt:=gz (top 62) 5
abbrev Hh:Stmt:=gz (top 62) 6
abbrev Hi:Stmt:=gz (top 62) 7
abbrev Hj:Stmt:=gz (top 62) 8
abbrev Hk:Stmt:=gz (top 62) 9
abbrev Hm:Stmt:=gz (top 62) 10
abbrev Hn:Stmt:=gz (top 62) 11
abbrev Hq:Stmt:=gz (top 62) 12
abbrev Hr:Stmt:=gz (top 62) 15
abbrev Hs:Stmt:=top 65
abbrev Ht:Stmt:=top 66
abbrev Hu:Stmt:=top 67
abbrev Hv:Stmt:=top 68
abbrev Hw:Stmt:=top 70
abbrev Hx:Stmt:=top 71
abbrev Hy:Stmt:=top 72
abbrev Hz:Stmt:=top 73
abbrev HA:Stmt:=top 74
abbrev HB:Stmt:=top 76
abbrev HD:Stmt:=top 78
abbrev HE:Stmt:=top 79
abbrev lm:Stmt:=top 80
theorem HF:cx ["_law_script","_law_town","_law_zone_here","_law_deeds_here","_law_hall","_law_calls","_law_rows","_law_wanted","_law_deed","_law_some","_law_again","_law_did","_law_made","_law_at","_law_row","_law_begun"] ["_law_script"] (dY lm):=bE
structure Tx (P:Program) (w:World) (K:Frag) (mg:Str->Option Value):Prop where
 d00:∃g fd,FD K mg "is_whole" Gq ["thing","least","most"] g fd
 d01:∃g fd,FD K mg "is_tuple_of" Gr ["thing","length"] g fd
 d02:∃g fd,FD K mg "is_ahead" Gs ["thing"] g fd
 d03:∃g fd,FD K mg "is_moment" Gu ["thing"] g fd
 d04:∃g fd,FD K mg "is_runner" Gv ["thing"] g fd
 d05:∃g fd,FD K mg "is_term" Gw ["thing"] g fd
 d06:∃g fd,FD K mg "are_shifts" Gx ["thing"] g fd
 d07:∃g fd,FD K mg "is_zone" Gy ["thing"] g fd
 d08:∃g fd,FD K mg "has_word" Gz ["thing","word","length"] g fd
 d09:∃g fd,FD K mg "is_plan" GA ["thing"] g fd
 d0a:∃g fd,FD K mg "is_late" GB ["thing"] g fd
 d0b:∃g fd,FD K mg "is_deed" GC ["thing"] g fd
 d0c:∃g fd,FD K mg "are_deeds" GD ["thing"] g fd
 d0d:∃g fd,FD K mg "check_zone" GG ["thing"] g fd
 d0e:∃g fd,FD K mg "check_moment" GI ["thing"] g fd
 d0f:∃g fd,FD K mg "check_deeds" GJ ["thing"] g fd
 d0g:∃g fd,FD K mg "check_runner" GK ["thing"] g fd
 d0h:∃g fd,FD K mg "check_term" GL ["thing"] g fd
 d0i:∃g fd,FD K mg "shown" GN ["zone","moment"] g fd
 d0j:∃g fd,FD K mg "stretches" GO ["zone"] g fd
 d0k:∃g fd,FD K mg "is_ahead_of" GP ["moment","end"] g fd
 d0l:∃g fd,FD K mg "first_showing" GQ ["zone","hours"] g fd
 d0m:∃g fd,FD K mg "first_day" GR ["zone","hour"] g fd
 d0n:∃g fd,FD K mg "daily_time" GS ["zone","hour","count"] g fd
 d0o:∃g fd,FD K mg "time_of" GU ["zone","plan","count"] g fd
 d0p:∃g fd,FD K mg "tally" GV ["rows","deed"] g fd
 d0q:∃g fd,FD K mg "tallies" GW ["hall"] g fd
 d0r:∃g fd,FD K mg "begun_again" GX ["hall"] g fd
 d0s:∃g fd,FD K mg "by_runner" GY ["hall"] g fd
 d0t:∃g fd,FD K mg "long_done" GZ ["hall"] g fd
 d0u:∃g fd,FD K mg "is_left_out" Ha ["zone","deed","count","now"] g fd
 d0v:∃g fd,FD K mg "check_call" Hs ["thing"] g fd
 d0w:∃g fd,FD K mg "ask" Ht ["hall","call"] g fd
 d0x:∃g fd,FD K mg "do" Hu ["hall","call"] g fd
 d0y:∃g fd,FD K mg "run" Hv ["zone","deeds","calls"] g fd
 d0z:∃g fd,FD K mg "_law_cell_at" Hw ["_law_script","_law_k"] g fd
 d10:∃g fd,FD K mg "_law_mixed" Hx ["_law_script","_law_k","_law_many"] g fd
 d11:∃g fd,FD K mg "_law_draw" Hy ["_law_script","_law_town","_law_many"] g fd
 d12:∃g fd,FD K mg "_law_pick" Hz ["_law_script","_law_town","_law_some"] g fd
 d13:∃g fd,FD K mg "_law_zone" HA ["_law_script","_law_town","_law_wide"] g fd
 d14:∃g fd,FD K mg "_law_plan" HB ["_law_script","_law_town","_law_wide"] g fd
 d15:∃g fd,FD K mg "_law_deeds" HD ["_law_script","_law_town","_law_most","_law_wide"] g fd
 d16:∃g fd,FD K mg "_law_called" HE ["_law_script","_law_town","_law_zone_here","_law_deeds_here","_law_most"] g fd
 d17:∃t,mg "LAST_MOMENT" = some (.int (9999) t)
 d18:∃t,mg "LAST_HOUR" = some (.int (23) t)
 d19:∃t,mg "LEAST_AHEAD" = some (.int (-12) t)
 d1a:∃t,mg "MOST_AHEAD" = some (.int (14) t)
 d1b:∃t,mg "MOST_SHIFTS" = some (.int (6) t)
 d1c:∃t,mg "MOST_STEP" = some (.int (999) t)
 d1d:∃t,mg "MOST_DEEDS" = some (.int (6) t)
 d1e:∃t,mg "MOST_WITHIN" = some (.int (999) t)
 d1f:∃t,mg "LAST_RUNNER" = some (.int (3) t)
 d1g:∃t,mg "MOST_TERM" = some (.int (99) t)
 d1h:∃t,mg "DAY_HOURS" = some (.int (24) t)
 d1i:∃g,mg "WORDS" = !.ref g/\qD K g ["begun","done","left","unsure"]
 d1j:∃t,mg "PLAN" = some (.int (0) t)
 d1k:∃t,mg "LATE" = some (.int (1) t)
 d1l:∃t,mg "AGAIN" = some (.int (2) t)
 d1m:∃d,mg "LENGTHS" = !.ref d/\Dn P w K d [("take",4),("give",3),("step",3),("finish",3)]
 d1n:mg "all" = none
 d1o:mg "any" = none
 d1p:mg "bool" = none
 d1q:mg "enumerate" = none
 d1r:mg "int" = none
 d1s:mg "isinstance" = none
 d1t:mg "len" = none
 d1u:mg "list" = none
 d1v:mg "max" = none
 d1w:mg "min" = none
 d1x:mg "range" = none
 d1y:mg "set" = none
 d1z:mg "sorted" = none
 d20:mg "str" = none
 d21:mg "tuple" = none
 d22:mg "zip" = none
 xt0:∃D,XT K mg oF D
structure dj (K:Frag) (mg:Str->Option Value) (C:Addr):Prop where
 cl:dm K C
 mg:mg "Hall" = some (.ref C)
 mks:PySem.W.makesIn K C=true
 kpC:keepIn K (.ref C)=true
 d23:cT K C "begun"
 d24:cT K C "deeds"
 d25:cT K C "holder"
 d26:cT K C "holds"
 d27:cT K C "last"
 d28:cT K C "rows"
 d29:cT K C "settled"
 d2a:cT K C "until"
 d2b:cT K C "words"
 d2c:cT K C "zone"
 d2d:∃g fd,MD K C "__init__" "Hall.__init__" Hb ["self","zone","deeds"] g fd
 d2e:∃g fd,MD K C "is_held" "Hall.is_held" Hc ["self","moment"] g fd
 d2f:∃g fd,MD K C "check_call" "Hall.check_call" Hd ["self","runner","moment"] g fd
 d2g:∃g fd,MD K C "check_holder" "Hall.check_holder" He ["self","runner","moment"] g fd
 d2h:∃g fd,MD K C "take" "Hall.take" Hf ["self","runner","moment","term"] g fd
 d2i:∃g fd,MD K C "give" "Hall.give" Hg ["self","runner","moment"] g fd
 d2j:∃g fd,MD K C "add_row" "Hall.add_row" Hh ["self","row"] g fd
 d2k:∃g fd,MD K C "is_busy" "Hall.is_busy" Hi ["self"] g fd
 d2l:∃g fd,MD K C "first_unsettled" "Hall.first_unsettled" Hj ["self"] g fd
 d2m:∃g fd,MD K C "step" "Hall.step" Hk ["self","runner","moment"] g fd
 d2n:∃g fd,MD K C "step_behind_a_fall" "Hall.step_behind_a_fall" Hm ["self","runner","moment"] g fd
 d2o:∃g fd,MD K C "step_ahead" "Hall.step_ahead" Hn ["self","runner","moment"] g fd
 d2p:∃g fd,MD K C "finish" "Hall.finish" Hq ["self","runner","moment"] g fd
 d2q:∃g fd,MD K C "log" "Hall.log" Hr ["self"] g fd
theorem dj.make{K}(h:dj K a C)(M:iQ K C "__init__" g):Mk K C g:=#[h.mks,M.at_,M.fn,h.kpC]
theorem Us:bootBuiltins "int" = !.type "int":=by decide +kernel
theorem HG:bootBuiltins "bool" = !.type "bool":=by decide +kernel
theorem HH:bootBuiltins "str" = !.type "str":=by decide +kernel
theorem ri:bootBuiltins "tuple" = !.type "tuple":=by decide +kernel
theorem Ut:bootBuiltins "list" = !.type "list":=by decide +kernel
theorem HI:bootBuiltins "max" = !.builtin "max":=by decide +kernel
theorem Yo:bootBuiltins "divmod" = !.builtin "divmod":=by decide +kernel
theorem Uu:bootBuiltins "all" = !.builtin "all":=by decide +kernel
theorem Uv:bootBuiltins "any" = !.builtin "any":=by decide +kernel
theorem Yp:bootBuiltins "sum" = !.builtin "sum":=by decide +kernel
theorem Yq:bootBuiltins "min" = !.builtin "min":=by decide +kernel
theorem HJ:bootBuiltins "sorted" = !.builtin "sorted":=by decide +kernel
theorem jq(a:GF X.mg F):fJ X F eg:=#[a,λ_ _ _ _ _ _ _ _ _ _ z=>z.elim]
end K3
namespace K3
open PySem PySem.Spec L2 L2.L3 PyProof.Rows
local macro_rules | `(tactic|walk_at "z")=>`(tactic|first |exact ub (by kernel_rfl) |exact PassesOwn.leaving)
local macro_rules | `(tactic|walk_at "a")=>`(tactic|(refine dD ?_;refine Ci ?_))
local macro_rules | `(tactic|walk_at "c")=>`(tactic|(refine fb ?_ ?_;(refine Cg ?_ ?_ ?_ ?_ ?_ ?_<;>try walk_at "z")))
local macro_rules | `(tactic|walk_at "d")=>`(tactic|(refine fb ?_ ?_;refine Ck ?_ ?_ ?_))
local macro_rules | `(tactic|walk_at "e")=>`(tactic|(refine dD ?_;refine Cj ?_))
local macro_rules | `(tactic|walk_at "f")=>`(tactic|(refine dD ?_;refine Ck ?_ ?_ ?_))
local macro_rules | `(tactic|walk_at "g")=>`(tactic|(refine fb ?_ ?_;refine xx ?_ ?_ ?_ ?_ ?_))
local macro_rules | `(tactic|walk_at "h")=>`(tactic|(refine fb ?_ ?_;(refine Qw ?_ ?_ ?_ ?_ ?_ ?_<;>try walk_at "z")))
local macro_rules | `(tactic|walk_at "j")=>`(tactic|(refine fb ?_ ?_;(refine Qt ?_ ?_ ?_ ?_ ?_ ?_<;>try walk_at "z")))
local macro_rules | `(tactic|walk_at "z")=>`(tactic|first|rfl|exact .inl rfl|exact .inr rfl|assumption|exact fun _=>rfl)
section
variable{P:Program}{w:World}{K:Frag}{mg:Str->Option Value}{base:Heap}
theorem lr(T:Tx P w K mg):CK P w K mg base 1 "is_whole" hZ:=by
 refine cf ["thing","least","most"] T.d00 bE λa b=>?_
 walk_at "a"
 exact(fL (kr (ki rfl T.d1s (fv 0) (jY rfl T.d1r Us rfl))) (fL (Qi (kr (ki rfl T.d1s (fv 0) (jY rfl T.d1p HG rfl)))) (gZ (QZ (fv 1) (fv 0) (fv 2)))))
theorem vj(T:Tx P w K mg):CK P w K mg base 1 "is_tuple_of" lb:=by
 refine cf ["thing","length"] T.d01 bE λa b=>?_
 walk_at "a"
 exact(fL (kr (ki rfl T.d1s (fv 0) (jY rfl T.d21 ri rfl))) (gZ (my a.units (fq mi (gX ke lZ rfl T.d1t q1r (aB (fv 0) bc))) (fv 1))))
theorem Uw(T:Tx P w K mg):CK P w K mg base 1 "shown" uk:=by
 refine cf ["zone","moment","ahead","shift"] T.d0i bE λa b=>?_
 walk_at "c"
 exact(aY (fv 0) (ag ay))
 walk_at "h"
 exact(ml (aY (fv 0) (ag ay)));exact(bU 3)
 walk_at "f"
 exact(QW (aY (fv 3) (ag ay)) (fv 1))
 (refine dD ?_;(refine Cg ?_ ?_ ?_ ?_ ?_ ?_<;>try walk_at "z"))
 exact(aY (fv 3) (ag ay));exact ck
 walk_at "a"
 exact(eL (fv 1) (fv 2))
theorem Ux(T:Tx P w K mg):CK P w K mg base 1 "stretches" um:=by
 refine cf ["zone","starts","ends","aheads"] T.d0j bE λc a=>?_
 walk_at "c"
 exact(tw (jc (aB (ag ay) bc)) (iF a.1 (ae.of (own:=["shift"]) (capN:=[])) rfl rfl (ml (aY (fv 0) (ag ay))) (λ_ _ _ _ _ _ b=>#[(bU 0),jE,(aY (fv 0) (ag ay))])))
 walk_at "c"
 exact(tw (QK (Pn (fv 1))) (jc (aB (ag fF) bc)))
 walk_at "c"
 exact(tw (jc (aB (aY (fv 0) (ag ay)) bc)) (iF a.1 (ae.of (own:=["shift"]) (capN:=[])) rfl rfl (ml (aY (fv 0) (ag ay))) (λ_ _ _ _ _ _ b=>#[(bU 0),jE,(aY (fv 0) (ag ay))])))
 walk_at "a"
 exact(QJ (Pl rfl rfl T.d1u rfl T.d22 (aB (fv 1) (aB (fv 2) (aB (fv 3) bc)))))
theorem Uy(T:Tx P w K mg):CK P w K mg base 1 "is_ahead_of" uo:=by
 refine cf ["moment","end"] T.d0k bE λa b=>?_
 walk_at "a"
 exact(BX (QX (fv 1) (ag fF)) (gZ (CG (fv 0) (fv 1))))
theorem Uz(T:Tx P w K mg):CK P w K mg base 1 "tally" uq:=by
 obtain⟨b,a⟩:=T.d1i;refine cf ["rows","deed","words"] T.d0p bE λd c=>?_
 walk_at "c"
 exact(iF c.1 (ae.of (own:=["row"]) (capN:=["deed"])) rfl rfl (hF (fv 0)) (λ_ _ _ _ _ _ e=>#[(bU 0),(kR (dP d.units (aY (fv 0) (ag ay)) (fv 1))),(aY (fv 0) (ag ay))]))
 walk_at "a"
 exact(fq Cc (Be At BB rfl T.d21 ri (aB (iF c.1 (ae.of (own:=["word"]) (capN:=["words"])) rfl rfl (Sd rfl a.1 a.2) (λ_ _ _ _ _ _ e=>#[(bU 0),jE,(xp q1F q1G xn xq (pv 1) (fv 0))])) bc)))
theorem UA(T:Tx P w K mg):CK P w K mg base 1 "_law_cell_at" oG:=by
 refine cf ["_law_script","_law_k"] T.d0z bE λa b=>?_
 walk_at "d"
 exact(CH (fv 1) (Cd (BI rfl T.d1t (pv 0))))
 walk_at "a"
 exact(Ce (BK (pv 0) (fv 1) 'h'));exact ck
 walk_at "d"
 exact(Qm (Pr a.units (pv 0)))
 walk_at "a"
 exact(ag ay);exact ck
 walk_at "a"
 exact(eL (qd (Ce (BK (pv 0) (qe (fv 1) (Cd (BI rfl T.d1t (pv 0)))) 'h')) (ag ay)) (fv 1))
theorem HK(T:Tx P w K mg)(a:dj K mg C):CM P w K mg base C 1 "is_held" (qS C):=by
 refine gQ ["self","moment"] a.d2e bE λb c=>?_
 walk_at "a"
 exact(fL (xr (dI a.cl a.d25 (pv 0)) (ag fF)) (gZ (CG (fv 1) (dI a.cl a.d2a (pv 0)))))
theorem yH(T:Tx P w K mg)(a:dj K mg C):CM P w K mg base C 1 "add_row" (iJ C):=by
 refine gQ ["self","row","word","deed","count"] a.d2j bE λb c=>?_
 walk_at "c"
 exact(aY (fv 1) (ag ay))
 walk_at "c"
 exact(aY (fv 1) (ag ay))
 walk_at "c"
 exact(aY (fv 1) (ag ay));refine fb ?_ ?_;(refine Rl ?_ ?_ ?_ ?_ ?_ ?_ ?_ ?_ ?_ ?_ ?_<;>try walk_at "z");exact a.cl;exact a.d28;exact(pv 0);exact(pv 1);refine fb ?_ ?_;(refine Rm ?_ ?_ ?_ ?_ ?_ ?_ ?_ ?_ ?_ ?_ ?_<;>try walk_at "z");exact(jz b);exact a.cl;exact a.d2b;exact(pv 0);exact(pv 3);exact(pv 4);exact(fv 2)
 walk_at "d"
 exact(dP b.units (fv 2) (ag bL));refine dD (xx ?_ ?_ ?_ ?_ ?_);exact a.cl;exact a.d23;exact(pv 0);exact(cH (aB (fv 3) (aB (fv 4) (aB (dI a.cl a.d26 (pv 0)) bc))));rfl
 walk_at "g"
 exact a.cl;exact a.d23;exact(pv 0);exact(ag fF);rfl;apply dD;(refine Rp ?_ ?_ ?_ ?_ ?_ ?_ ?_ ?_ ?_ ?_<;>try walk_at "z");exact a.cl;exact a.d29;exact(pv 0);exact(pv 3);exact(eL (fv 4) (ag ay))
 walk_at "a"
 exact(cH (aB (fv 2) (aB (fv 3) (aB (fv 4) bc))))
theorem HL(T:Tx P w K mg)(a:dj K mg C):CM P w K mg base C 1 "is_busy" (oH C):=by
 refine gQ ["self"] a.d2k bE λb c=>?_
 walk_at "a"
 exact(fL (xr (dI a.cl a.d23 (pv 0)) (ag fF)) (gZ (my b.units (aY (dI a.cl a.d23 (pv 0)) (ag ay)) (dI a.cl a.d26 (pv 0)))))
theorem rm(T:Tx P w K mg)(a:dj K mg C):CM P w K mg base C 1 "log" (jn C):=by
 refine gQ ["self"] a.d2q bE λb c=>?_
 walk_at "a"
 exact(Rv rfl T.d1u a.cl a.d28 (pv 0))
theorem HM(T:Tx P w K mg):CK P w K mg base 2 "is_ahead" qT:=by
 obtain⟨c,a⟩:=T.d19;obtain⟨d,b⟩:=T.d1a;refine cf ["thing"] T.d02 bE λe f=>?_
 walk_at "e"
 exact(be f (lr T) e (az (fv 0) (az (ag (eJ rfl a)) (az (ag (eJ rfl b)) aN))))
theorem yI(T:Tx P w K mg):CK P w K mg base 2 "is_moment" oI:=by
 obtain⟨b,a⟩:=T.d17;refine cf ["thing"] T.d03 bE λc d=>?_
 walk_at "e"
 exact(be d (lr T) c (az (fv 0) (az (ag ay) (az (ag (eJ rfl a)) aN))))
theorem UB(T:Tx P w K mg):CK P w K mg base 2 "is_runner" uu:=by
 obtain⟨b,a⟩:=T.d1f;refine cf ["thing"] T.d04 bE λc d=>?_
 walk_at "e"
 exact(be d (lr T) c (az (fv 0) (az (ag ay) (az (ag (eJ rfl a)) aN))))
theorem UC(T:Tx P w K mg):CK P w K mg base 2 "is_term" uv:=by
 obtain⟨b,a⟩:=T.d1g;refine cf ["thing"] T.d05 bE λc d=>?_
 walk_at "e"
 exact(be d (lr T) c (az (fv 0) (az (ag ay) (az (ag (eJ rfl a)) aN))))
theorem rn(T:Tx P w K mg):CK P w K mg base 2 "has_word" kG:=by
 refine cf ["thing","word","length"] T.d08 bE λa b=>?_
 walk_at "a"
 exact(fL (bh (be b (vj T) a (az (fv 0) (az (fv 2) aN)))) (fL (kr (ki rfl T.d1s (aY (fv 0) (ag ay)) (jY rfl T.d20 HH rfl))) (gZ (my a.units (aY (fv 0) (ag ay)) (fv 1)))))
theorem UD(T:Tx P w K mg):CK P w K mg base 2 "first_showing" uw:=by
 obtain⟨_,_,d,c,a,b⟩:=Uy T;refine cf ["zone","hours","reached"] T.d0l bE λe f=>fb ?_ ?_;(refine wZ (own:=["start","end","ahead"]) (capN:=["hours"]) ?_ ?_ ?_ ?_ ?_ ?_ ?_ ?_ ?_ ?_ ?_ ?_<;>try walk_at "z");exact f.1;exact(ae.of);exact(hF (bh (be f (Ux T) e (az (fv 0) aN))));exact(λ_ _ _ _ _ _ g=>#[(nV rfl (ee (bU 0) (ee (bU 1) (ee (bU 2) nU)))),(kR (ed (dZ (bh (mB (jq g) b a e (az (fq Cb (gX (zV rfl) Bz rfl T.d1v HI (aB (fv 0) (aB (on (fv 3) (fv 2)) bc)))) (az (fv 1) aN))))))),(fq Cb (gX (zV rfl) Bz rfl T.d1v HI (aB (fv 0) (aB (on (fv 3) (fv 2)) bc))))])
 walk_at "a"
 exact(aY (fv 2) (ag ay))
theorem UE(T:Tx P w K mg):CK P w K mg base 2 "first_day" ux:=by
 obtain⟨b,a⟩:=T.d1h;refine cf ["zone","hour"] T.d0m bE λc d=>?_
 walk_at "a"
 exact(nO (QT (on (fv 1) (bh (be d (Uw T) c (az (fv 0) (az (ag ay) aN))))) (ag (eJ rfl a))))
theorem UF(T:Tx P w K mg)(e:dj K mg C):CK P w K mg base 2 "tallies" (uz C):=by
 obtain⟨_,_,d,c,a,b⟩:=Uz T;refine cf ["hall","rows"] T.d0q bE λf g=>?_
 walk_at "c"
 exact(bh (kY g e.cl (rm T e) f (pv 0)))
 walk_at "a"
 exact(iF g.1 (ae.of (own:=["deed"]) (capN:=["rows"])) rfl rfl (nW (nL rfl T.d1x (aB (fq mi (gX ke lZ rfl T.d1t q1r (aB (dI e.cl e.d24 (pv 0)) bc))) bc))) (λ_ _ _ _ _ _ h=>#[(bU 0),jE,(bh (mB (jq h) b a f (az (fv 1) (az (fv 0) aN))))]))
theorem UG(T:Tx P w K mg)(b:dj K mg C):CK P w K mg base 2 "begun_again" (uA C):=by
 refine cf ["hall","often","moment","runner","word","deed","count"] T.d0r bE λa c=>?_
 walk_at "j"
 exact(xi true)
 walk_at "h"
 exact(hF (bh (kY c b.cl (rm T b) a (pv 0))));exact(nV rfl (ee (bU 2) (ee (bU 3) (ee (bU 4) (ee (bU 5) (ee (bU 6) nU))))))
 walk_at "f"
 exact(dP a.units (fv 4) (ag bL))
 (refine dD ?_;refine QI ?_ ?_ ?_ ?_ ?_)
 exact(jz a);exact(pv 1);exact(cH (aB (fv 5) (aB (fv 6) bc)));exact(eL (Cv (jz a) (pv 1) (cH (aB (fv 5) (aB (fv 6) bc))) (ag ay)) (ag ay));rfl;exact ck
 walk_at "a"
 exact(RD c.1 (ae.of (own:=["pair"]) (capN:=["often"])) rfl rfl (DI.S (hF (Um rfl rfl T.d1z (pv 1)))) (λ_ _ _ _ _ _ d=>#[(bU 0),(kR (qg (Dj (jz a) (pv 1) (fv 0)) (ag ay))),(cH (aB (aY (fv 0) (ag ay)) (aB (aY (fv 0) (ag ay)) (aB (Dj (jz a) (pv 1) (fv 0)) bc))))]))
theorem UH(T:Tx P w K mg)(b:dj K mg C):CK P w K mg base 2 "by_runner" (uB C):=by
 refine cf ["hall","many","moment","runner","word","deed","count"] T.d0s bE λa c=>?_
 walk_at "j"
 exact(xi false)
 walk_at "h"
 exact(hF (bh (kY c b.cl (rm T b) a (pv 0))));exact(nV rfl (ee (bU 2) (ee (bU 3) (ee (bU 4) (ee (bU 5) (ee (bU 6) nU))))))
 walk_at "f"
 exact(dP a.units (fv 4) (ag bL))
 (refine dD ?_;refine QI ?_ ?_ ?_ ?_ ?_)
 exact(jz a);exact(pv 1);exact(fv 3);exact(eL (Cv (jz a) (pv 1) (fv 3) (ag ay)) (ag ay));rfl;exact ck
 walk_at "a"
 exact(Sv 1 rfl rfl T.d1z)
theorem UI(T:Tx P w K mg)(b:dj K mg C):CK P w K mg base 2 "long_done" (uC C):=by
 refine cf ["hall","found","begins","moment","runner","word","deed","count"] T.d0t bE λa c=>?_
 walk_at "j"
 exact(nX bc)
 walk_at "j"
 exact(xi true)
 walk_at "h"
 exact(hF (bh (kY c b.cl (rm T b) a (pv 0))));exact(nV rfl (ee (bU 3) (ee (bU 4) (ee (bU 5) (ee (bU 6) (ee (bU 7) nU))))))
 walk_at "f"
 exact(dP a.units (fv 5) (ag bL))
 (refine dD ?_;refine QI ?_ ?_ ?_ ?_ ?_)
 exact(jz a);exact(pv 2);exact(cH (aB (fv 6) (aB (fv 7) bc)));exact(fv 3);rfl
 walk_at "f"
 exact(dP a.units (fv 5) (ag bL))
 (refine dD ?_;(refine Cn ?_ ?_ ?_ ?_ ?_ ?_ ?_ ?_<;>try walk_at "z"))
 exact(pv 1);exact(cH (aB (fv 6) (aB (fv 7) (aB (on (fv 3) (QH (jz a) (pv 2) (cH (aB (fv 6) (aB (fv 7) bc))))) bc))));exact ck
 walk_at "a"
 exact(fq Di (gX TS.call_sortedS Dh rfl T.d1z HJ (aB (fv 1) bc)))
theorem UJ(T:Tx P w K mg):CK P w K mg base 2 "_law_mixed" uD:=by
 refine cf ["_law_script","_law_k","_law_many","_law_drawn"] T.d10 bE λa b=>?_
 walk_at "c"
 exact(qe (eL (eL (qd (bh (be b (UA T) a (bC (pv 0) (az (fv 1) aN)))) (ag ay)) (qd (ag ay) (fv 1))) (ag ay)) (ag ay))
 walk_at "a"
 exact(qe (qe (qe (Rc (fv 3) (ag ay)) (ag ay)) (ag ay)) (fv 2))
theorem UK(T:Tx P w K mg)(b:dj K mg C):CM P w K mg base C 2 "step_behind_a_fall" (qU C):=by
 obtain⟨c,a⟩:=T.d1l;refine gQ ["self","runner","moment","deed","word"] b.d2n bE λd e=>?_
 walk_at "c"
 exact(aY (dI b.cl b.d23 (pv 0)) (ag ay))
 walk_at "c"
 exact(sT (ed (dZ (aY (aY (dI b.cl b.d24 (pv 0)) (fv 3)) (ag (eJ rfl a))))) (ag bL) (ag bL))
 walk_at "e"
 exact(fS e b.cl (yH T b) d (pv 0) (az (cH (aB (fv 2) (aB (fv 1) (aB (fv 4) (aB (fv 3) (aB (aY (dI b.cl b.d23 (pv 0)) (ag ay)) bc)))))) aN))
theorem UL(T:Tx P w K mg):CK P w K mg base 3 "are_shifts" uF:=by
 obtain⟨c,a⟩:=T.d17;obtain⟨d,b⟩:=T.d1b;refine cf ["thing","earliest","shift"] T.d06 bE λe f=>?_
 walk_at "d"
 exact(nP (sS (gk (ed (dZ (kr (ki rfl T.d1s (fv 0) (jY rfl T.d21 ri rfl)))))) (sR (qg (fq mi (gX ke lZ rfl T.d1t q1r (aB (fv 0) bc))) (ag (eJ rfl b))))))
 walk_at "a"
 exact(ag iV);exact ck
 walk_at "c"
 exact(ag ay)
 walk_at "h"
 exact(ml (fv 0));exact(bU 2)
 walk_at "d"
 exact(nP (sS (gk (ed (dZ (bh (be f (vj T) e (az (fv 2) (az (ag ay) aN))))))) (sR (gk (ed (dZ (bh (be f (HM T) e (az (aY (fv 2) (ag ay)) aN)))))))))
 walk_at "a"
 exact(ag iV);exact ck
 walk_at "d"
 exact(gk (ed (dZ (bh (be f (lr T) e (az (aY (fv 2) (ag ay)) (az (fv 1) (az (ag (eJ rfl a)) aN))))))))
 walk_at "a"
 exact(ag iV);exact ck
 (refine dD ?_;(refine Cg ?_ ?_ ?_ ?_ ?_ ?_<;>try walk_at "z"))
 exact(eL (aY (fv 2) (ag ay)) (ag ay))
 walk_at "a"
 exact(ag iV)
theorem UM(T:Tx P w K mg):CK P w K mg base 3 "is_plan" oM:=by
 obtain⟨c,a⟩:=T.d18;obtain⟨d,b⟩:=T.d1c;refine cf ["thing"] T.d09 bE λe f=>?_
 walk_at "d"
 exact(ed (dZ (bh (be f (rn T) e (az (fv 0) (az (ag bL) (az (ag ay) aN)))))))
 walk_at "e"
 exact(be f (yI T) e (az (aY (fv 0) (ag ay)) aN));exact ck
 walk_at "d"
 exact(ed (dZ (bh (be f (rn T) e (az (fv 0) (az (ag bL) (az (ag ay) aN)))))))
 walk_at "a"
 exact(fL (bh (be f (yI T) e (az (aY (fv 0) (ag ay)) aN))) (gZ (bh (be f (lr T) e (az (aY (fv 0) (ag ay)) (az (ag ay) (az (ag (eJ rfl b)) aN)))))));exact ck
 walk_at "a"
 exact(fL (bh (be f (rn T) e (az (fv 0) (az (ag bL) (az (ag ay) aN))))) (gZ (bh (be f (lr T) e (az (aY (fv 0) (ag ay)) (az (ag ay) (az (ag (eJ rfl a)) aN)))))))
theorem UN(T:Tx P w K mg):CK P w K mg base 3 "is_late" oN:=by
 obtain⟨b,a⟩:=T.d1e;refine cf ["thing"] T.d0a bE λc d=>?_
 walk_at "d"
 exact(ed (dZ (kr (ki rfl T.d1s (fv 0) (jY rfl T.d20 HH rfl)))))
 walk_at "a"
 exact(BX (my c.units (fv 0) (ag bL)) (gZ (my c.units (fv 0) (ag bL))));exact ck
 walk_at "a"
 exact(fL (bh (be d (rn T) c (az (fv 0) (az (ag bL) (az (ag ay) aN))))) (gZ (bh (be d (lr T) c (az (aY (fv 0) (ag ay)) (az (ag ay) (az (ag (eJ rfl a)) aN)))))))
theorem UO(T:Tx P w K mg):CK P w K mg base 3 "check_moment" uI:=by
 obtain⟨f,g⟩:=T.xt0;obtain⟨b,a,_⟩:=g.at_ (c:="NoMoment") 'f';refine cf ["thing"] T.d0e bE λd e=>?_
 walk_at "f"
 exact(gk (ed (dZ (bh (be e (yI T) d (az (fv 0) aN))))));exact dD ((jF e d.hd rfl a));exact ck
theorem UP(T:Tx P w K mg):CK P w K mg base 3 "check_runner" uJ:=by
 obtain⟨f,g⟩:=T.xt0;obtain⟨b,a,_⟩:=g.at_ (c:="NoRunner") 'f';refine cf ["thing"] T.d0g bE λd e=>?_
 walk_at "f"
 exact(gk (ed (dZ (bh (be e (UB T) d (az (fv 0) aN))))));apply dD;exact(jF e d.hd rfl a);exact ck
theorem UQ(T:Tx P w K mg):CK P w K mg base 3 "check_term" uK:=by
 obtain⟨f,g⟩:=T.xt0;obtain⟨b,a,_⟩:=g.at_ (c:="NoTerm") 'f';refine cf ["thing"] T.d0h bE λd e=>?_
 walk_at "f"
 exact(gk (ed (dZ (bh (be e (UC T) d (az (fv 0) aN))))));exact dD ((jF e d.hd rfl a));exact ck
theorem UR(T:Tx P w K mg):CK P w K mg base 3 "daily_time" uL:=by
 obtain⟨b,a⟩:=T.d1h;refine cf ["zone","hour","count","day"] T.d0n bE λc d=>?_
 walk_at "c"
 exact(eL (bh (be d (UE T) c (az (fv 0) (az (fv 1) aN)))) (fv 2))
 walk_at "e"
 exact(be d (UD T) c (az (fv 0) (az (eL (qd (fv 3) (ag (eJ rfl a))) (fv 1)) aN)))
theorem US(T:Tx P w K mg):CK P w K mg base 3 "check_call" iK:=by
 obtain⟨_,_,g,f,b,d⟩:=rn T;obtain⟨h,a⟩:=T.d1m;obtain⟨l,m⟩:=T.xt0;obtain⟨i,e,_⟩:=m.at_ (c:="NoCall") 'f';refine cf ["thing"] T.d0v bE λj k=>?_
 walk_at "f"
 exact(gk (ed (dZ (fq Sq (gX (Sn rfl) So rfl T.d1o Uv (aB (iF k.1 (ae.of (own:=["word"]) (capN:=["thing"])) rfl rfl (Si (kd:=[("take",4),("give",3),("step",3),("finish",3)]) rfl a.1 a.2) (λ_ _ _ _ _ _ n=>#[(bU 0),jE,(bh (mB (jq n) d b j (az (fv 1) (az (fv 0) (az (Sj rfl a.1 a.2 (fv 0)) aN)))))])) bc))))));exact dD ((jF k j.hd rfl e));exact ck
theorem gr(T:Tx P w K mg):CK P w K mg base 3 "_law_draw" eh:=by
 refine cf ["_law_script","_law_town","_law_many"] T.d11 bE λa b=>fb ?_ ?_;(refine Cn ?_ ?_ ?_ ?_ ?_ ?_ ?_ ?_<;>try walk_at "z");exact(pv 1);exact(ag ay)
 walk_at "e"
 exact(be b (UJ T) a (bC (pv 0) (az (QB rfl T.d1t (pv 1)) (az (fv 2) aN))))
theorem UT(T:Tx P w K mg):CK P w K mg base 4 "is_zone" uN:=by
 refine cf ["thing"] T.d07 bE λa b=>?_
 walk_at "a"
 exact(fL (bh (be b (vj T) a (az (fv 0) (az (ag ay) aN)))) (fL (bh (be b (HM T) a (az (aY (fv 0) (ag ay)) aN))) (gZ (bh (be b (UL T) a (az (aY (fv 0) (ag ay)) aN))))))
theorem UU(T:Tx P w K mg):CK P w K mg base 4 "is_deed" uO:=by
 refine cf ["thing"] T.d0b bE λa b=>?_
 walk_at "a"
 exact(fL (bh (be b (vj T) a (az (fv 0) (az (ag ay) aN)))) (fL (bh (be b (UM T) a (az (aY (fv 0) (ag ay)) aN))) (fL (bh (be b (UN T) a (az (aY (fv 0) (ag ay)) aN))) (gZ (kr (ki rfl T.d1s (aY (fv 0) (ag ay)) (jY rfl T.d1p HG rfl)))))))
theorem yJ(T:Tx P w K mg):CK P w K mg base 4 "time_of" jo:=by
 refine cf ["zone","plan","count"] T.d0o bE λa b=>?_
 walk_at "d"
 exact(dP a.units (aY (fv 1) (ag ay)) (ag bL))
 walk_at "a"
 exact(sT (dP a.units (fv 2) (ag ay)) (aY (fv 1) (ag ay)) (ag fF));exact ck
 walk_at "d"
 exact(dP a.units (aY (fv 1) (ag ay)) (ag bL))
 walk_at "a"
 exact(eL (aY (fv 1) (ag ay)) (qd (fv 2) (aY (fv 1) (ag ay))));exact ck
 walk_at "e"
 exact(be b (UR T) a (az (fv 0) (az (aY (fv 1) (ag ay)) (az (fv 2) aN))))
theorem mZ(T:Tx P w K mg):CK P w K mg base 4 "_law_pick" ib:=by
 refine cf ["_law_script","_law_town","_law_some"] T.d12 bE λa b=>?_
 walk_at "a"
 exact(aY (fv 2) (bh (be b (gr T) a (bC (pv 0) (bC (pv 1) (az (fq mi (gX ke lZ rfl T.d1t q1r (aB (fv 2) bc))) aN))))))
theorem HN(T:Tx P w K mg)(d:dj K mg C):CM P w K mg base C 4 "check_call" (jN C):=by
 obtain⟨g,h⟩:=T.xt0;obtain⟨b,a,_⟩:=h.at_ (c:="NoMoment") 'f';refine gQ ["self","runner","moment"] d.d2f bE λe f=>?_
 (refine fb ?_ ?_;refine Qu ?_)
 exact(be f (UP T) e (az (fv 1) aN))
 (refine fb ?_ ?_;refine Qu ?_)
 exact(be f (UO T) e (az (fv 2) aN))
 walk_at "f"
 exact(nP (BZ (xu (dI d.cl d.d27 (pv 0)) (ag fF)) (BY (CH (fv 2) (dI d.cl d.d27 (pv 0))))));exact dD ((jF f e.hd rfl a));exact ck
theorem UV(T:Tx P w K mg):CK P w K mg base 5 "are_deeds" yD:=by
 obtain⟨_,_,f,e,b,c⟩:=UU T;obtain⟨d,a⟩:=T.d1d;refine cf ["thing"] T.d0c bE λg h=>?_
 walk_at "d"
 exact(nP (sS (gk (ed (dZ (kr (ki rfl T.d1s (fv 0) (jY rfl T.d21 ri rfl)))))) (sR (qg (fq mi (gX ke lZ rfl T.d1t q1r (aB (fv 0) bc))) (ag (eJ rfl a))))))
 walk_at "a"
 exact(ag iV);exact ck
 walk_at "a"
 exact(fq Ql (gX (Pj rfl) Pk rfl T.d1n Uu (aB (iF h.1 (ae.of (own:=["deed"]) (capN:=[])) rfl rfl (ml (fv 0)) (λ_ _ _ _ _ _ i=>#[(bU 0),jE,(bh (mB (jq i) c b g (az (fv 0) aN)))])) bc)))
theorem UW(T:Tx P w K mg):CK P w K mg base 5 "check_zone" mR:=by
 obtain⟨f,g⟩:=T.xt0;obtain⟨b,a,_⟩:=g.at_ (c:="NoZone") 'f';refine cf ["thing"] T.d0d bE λd e=>?_
 walk_at "f"
 exact(gk (ed (dZ (bh (be e (UT T) d (az (fv 0) aN))))));exact dD ((jF e d.hd rfl a));exact ck
theorem UX(T:Tx P w K mg):CK P w K mg base 5 "is_left_out" mS:=by
 obtain⟨c,b⟩:=T.d1j;obtain⟨d,a⟩:=T.d1k;refine cf ["zone","deed","count","now","later"] T.d0u bE λe f=>?_
 walk_at "d"
 exact(dP e.units (aY (fv 1) (ag (eJ rfl a))) (ag bL))
 walk_at "a"
 exact(ag iV);exact ck
 walk_at "d"
 exact(dP e.units (aY (fv 1) (ag (eJ rfl a))) (ag bL))
 walk_at "c"
 exact(bh (be f (yJ T) e (az (fv 0) (az (aY (fv 1) (ag (eJ rfl b))) (az (eL (fv 2) (ag ay)) aN)))))
 walk_at "a"
 exact(fL (xr (fv 4) (ag fF)) (gZ (QU (fv 4) (fv 3))));exact ck
 walk_at "a"
 exact(QV (on (fv 3) (bh (be f (yJ T) e (az (fv 0) (az (aY (fv 1) (ag (eJ rfl b))) (az (fv 2) aN)))))) (aY (aY (fv 1) (ag (eJ rfl a))) (ag ay)))
theorem UY(T:Tx P w K mg):CK P w K mg base 5 "_law_zone" qY:=by
 refine cf ["_law_script","_law_town","_law_wide","_law_made","_law_at","_law_k"] T.d13 bE λa b=>fb ?_ ?_;(refine Qs ?_ ?_ ?_ ?_ ?_<;>try walk_at "z");exact(cH (aB (cH bc) (aB (ag ay) bc)));exact(nV rfl (ee (bU 3) (ee (bU 4) nU)))
 walk_at "h"
 exact(nW (nL rfl T.d1x (aB (bh (be b (gr T) a (bC (pv 0) (bC (pv 1) (az (ag ay) aN))))) bc)));exact(bU 5)
 walk_at "c"
 exact(eL (eL (fv 4) (ag ay)) (bh (be b (gr T) a (bC (pv 0) (bC (pv 1) (az (fv 2) aN))))))
 (refine dD ?_;(refine Cg ?_ ?_ ?_ ?_ ?_ ?_<;>try walk_at "z"))
 exact(qf (fv 3) (cH (aB (cH (aB (fv 4) (aB (bh (be b (mZ T) a (bC (pv 0) (bC (pv 1) (az (jc (aB (ag ay) (aB (ag ay) (aB (ag ay) (aB (nO (ag ay)) (aB (ag ay) (aB (nO (ag ay)) (aB (ag ay) bc)))))))) aN))))) bc))) bc)))
 walk_at "a"
 exact(cH (aB (bh (be b (mZ T) a (bC (pv 0) (bC (pv 1) (az (jc (aB (ag ay) (aB (ag ay) (aB (ag ay) (aB (nO (ag ay)) (aB (ag ay) (aB (nO (ag ay)) bc))))))) aN))))) (aB (fv 3) bc)))
theorem UZ(T:Tx P w K mg):CK P w K mg base 5 "_law_plan" oO:=by
 refine cf ["_law_script","_law_town","_law_wide","_law_kind","_law_step"] T.d14 bE λa b=>?_
 walk_at "c"
 exact(bh (be b (gr T) a (bC (pv 0) (bC (pv 1) (az (ag ay) aN)))))
 walk_at "d"
 exact(dP a.units (fv 3) (ag ay))
 walk_at "a"
 exact(cH (aB (ag bL) (aB (bh (be b (gr T) a (bC (pv 0) (bC (pv 1) (az (fv 2) aN))))) bc)));exact ck
 walk_at "d"
 exact(dP a.units (fv 3) (ag ay))
 walk_at "c"
 exact(eL (ag ay) (bh (be b (gr T) a (bC (pv 0) (bC (pv 1) (az (bh (be b (mZ T) a (bC (pv 0) (bC (pv 1) (az (jc (aB (ag ay) (aB (ag ay) (aB (ag ay) bc)))) aN))))) aN))))))
 walk_at "a"
 exact(cH (aB (ag bL) (aB (bh (be b (gr T) a (bC (pv 0) (bC (pv 1) (az (fv 2) aN))))) (aB (fv 4) bc))));exact ck
 walk_at "a"
 exact(cH (aB (ag bL) (aB (bh (be b (gr T) a (bC (pv 0) (bC (pv 1) (az (ag ay) aN))))) bc)))
theorem yK(T:Tx P w K mg)(d:dj K mg C):CM P w K mg base C 5 "check_holder" (fc C):=by
 obtain⟨g,h⟩:=T.xt0;obtain⟨b,a,_⟩:=h.at_ (c:="NotHolder") 'f';refine gQ ["self","runner","moment"] d.d2g bE λe f=>?_
 (refine fb ?_ ?_;refine Qu ?_)
 exact(fS f d.cl (HN T d) e (pv 0) (az (fv 1) (az (fv 2) aN)))
 walk_at "f"
 exact(nP (sS (gk (ed (dZ (bh (fS f d.cl (HK T d) e (pv 0) (az (fv 2) aN)))))) (sR (qh e.units (dI d.cl d.d25 (pv 0)) (fv 1)))));exact dD ((jF f e.hd rfl a));exact ck
theorem Va(T:Tx P w K mg)(a:dj K mg C):CM P w K mg base C 5 "take" (mT C):=by
 refine gQ ["self","runner","moment","term"] a.d2h bE λb c=>?_
 (refine fb ?_ ?_;refine Qu ?_)
 exact(fS c a.cl (HN T a) b (pv 0) (az (fv 1) (az (fv 2) aN)))
 (refine fb ?_ ?_;refine Qu ?_)
 exact(be c (UQ T) b (az (fv 3) aN))
 walk_at "g"
 exact a.cl;exact a.d27;exact(pv 0);exact(fv 2);rfl
 walk_at "d"
 exact(gk (ed (dZ (bh (fS c a.cl (HK T a) b (pv 0) (az (fv 2) aN))))));refine dD (Rq ?_ ?_ ?_ ?_);exact a.cl;exact a.d26;exact(pv 0);exact rO
 walk_at "f"
 exact(qh b.units (dI a.cl a.d25 (pv 0)) (fv 1))
 walk_at "a"
 exact(ag iV);exact ck
 walk_at "g"
 exact a.cl;exact a.d25;exact(pv 0);exact(fv 1);rfl
 walk_at "g"
 exact a.cl;exact a.d2a;exact(pv 0);exact(eL (fv 2) (fv 3));rfl
 walk_at "a"
 exact(ag iV)
theorem Vb(T:Tx P w K mg)(a:dj K mg C):CM P w K mg base C 5 "first_unsettled" (yE C):=by
 obtain⟨c,b⟩:=T.d1j;refine gQ ["self","found","deed","count","moment"] a.d2l bE λd e=>?_
 walk_at "j"
 exact(nX bc)
 walk_at "h"
 exact(nW (nL rfl T.d1x (aB (fq mi (gX ke lZ rfl T.d1t q1r (aB (dI a.cl a.d24 (pv 0)) bc))) bc)));exact(bU 2)
 walk_at "c"
 exact(Rn a.cl a.d29 (pv 0) (pv 2))
 walk_at "c"
 exact(bh (be e (yJ T) d (az (dI a.cl a.d2c (pv 0)) (az (aY (aY (dI a.cl a.d24 (pv 0)) (fv 2)) (ag (eJ rfl b))) (az (fv 3) aN)))))
 walk_at "f"
 exact(xu (fv 4) (ag fF))
 (refine dD ?_;(refine Cn ?_ ?_ ?_ ?_ ?_ ?_ ?_ ?_<;>try walk_at "z"))
 exact(pv 1);exact(cH (aB (fv 4) (aB (fv 2) (aB (fv 3) bc))));exact ck
 walk_at "a"
 exact(RK (jz d) rfl rfl T.d1w (pv 1))
theorem Vc(T:Tx P w K mg):CK P w K mg base 6 "check_deeds" mV:=by
 obtain⟨f,g⟩:=T.xt0;obtain⟨b,a,_⟩:=g.at_ (c:="NoDeeds") 'f';refine cf ["thing"] T.d0f bE λd e=>?_
 walk_at "f"
 exact(gk (ed (dZ (bh (be e (UV T) d (az (fv 0) aN))))));exact dD ((jF e d.hd rfl a));exact ck
theorem Vd(T:Tx P w K mg):CK P w K mg base 6 "_law_deeds" uV:=by
 refine cf ["_law_script","_law_town","_law_most","_law_wide","_law_made","_law_k","_law_hours","_law_late","_law_again"] T.d15 bE λa b=>?_
 walk_at "c"
 exact(cH bc)
 walk_at "h"
 exact(nW (nL rfl T.d1x (aB (bh (be b (gr T) a (bC (pv 0) (bC (pv 1) (az (eL (fv 2) (ag ay)) aN))))) bc)));exact(bU 5)
 walk_at "c"
 exact(bh (be b (gr T) a (bC (pv 0) (bC (pv 1) (az (ag ay) aN)))))
 walk_at "c"
 exact(bh (be b (mZ T) a (bC (pv 0) (bC (pv 1) (az (jc (aB (ag bL) (aB (ag bL) (aB (ag bL) (aB (cH (aB (ag bL) (aB (fv 6) bc))) bc))))) aN)))))
 walk_at "c"
 exact(my a.units (bh (be b (gr T) a (bC (pv 0) (bC (pv 1) (az (ag ay) aN))))) (ag ay))
 (refine dD ?_;(refine Cg ?_ ?_ ?_ ?_ ?_ ?_<;>try walk_at "z"))
 exact(qf (fv 4) (cH (aB (cH (aB (bh (be b (UZ T) a (bC (pv 0) (bC (pv 1) (az (fv 3) aN))))) (aB (fv 7) (aB (fv 8) bc)))) bc)))
 walk_at "a"
 exact(fv 4)
theorem Ve(T:Tx P w K mg)(a:dj K mg C):CM P w K mg base C 6 "give" (lh C):=by
 refine gQ ["self","runner","moment"] a.d2i bE λb c=>?_
 (refine fb ?_ ?_;refine Qu ?_)
 exact(fS c a.cl (yK T a) b (pv 0) (az (fv 1) (az (fv 2) aN)))
 walk_at "g"
 exact a.cl;exact a.d27;exact(pv 0);exact(fv 2);rfl;refine dD (xx ?_ ?_ ?_ ?_ ?_);exact a.cl;exact a.d25;exact(pv 0);exact(ag fF);rfl
theorem Vf(T:Tx P w K mg)(a:dj K mg C):CM P w K mg base C 6 "step_ahead" (mW C):=by
 refine gQ ["self","runner","moment","found","deed","count","word"] a.d2o bE λb c=>?_
 walk_at "c"
 exact(bh (kY c a.cl (Vb T a) b (pv 0)))
 walk_at "d"
 exact(QY (fv 3) (ag fF))
 walk_at "a"
 exact(cH (aB (ag bL) (aB (ag fF) bc)));exact ck
 walk_at "d"
 exact(qg (aY (fv 3) (ag ay)) (fv 2))
 walk_at "a"
 exact(cH (aB (ag bL) (aB (aY (fv 3) (ag ay)) bc)));exact ck
 walk_at "c"
 exact(aY (fv 3) (ag ay))
 walk_at "c"
 exact(aY (fv 3) (ag ay))
 walk_at "c"
 exact(sT (ed (dZ (bh (be c (UX T) b (az (dI a.cl a.d2c (pv 0)) (az (aY (dI a.cl a.d24 (pv 0)) (fv 4)) (az (fv 5) (az (fv 2) aN)))))))) (ag bL) (ag bL))
 walk_at "e"
 exact(fS c a.cl (yH T a) b (pv 0) (az (cH (aB (fv 2) (aB (fv 1) (aB (fv 6) (aB (fv 4) (aB (fv 5) bc)))))) aN))
theorem Vg(T:Tx P w K mg)(b:dj K mg C):CM P w K mg base C 6 "finish" (jO C):=by
 obtain⟨g,h⟩:=T.xt0;obtain⟨d,a,_⟩:=h.at_ (c:="Nothing") 'f';refine gQ ["self","runner","moment"] b.d2p bE λe f=>?_
 (refine fb ?_ ?_;refine Qu ?_)
 exact(fS f b.cl (yK T b) e (pv 0) (az (fv 1) (az (fv 2) aN)))
 walk_at "d"
 exact(gk (ed (dZ (bh (kY f b.cl (HL T b) e (pv 0))))));exact dD ((jF f e.hd rfl a));exact ck
 walk_at "g"
 exact b.cl;exact b.d27;exact(pv 0);exact(fv 2);rfl
 walk_at "e"
 exact(fS f b.cl (yH T b) e (pv 0) (az (cH (aB (fv 2) (aB (fv 1) (aB (ag bL) (aB (aY (dI b.cl b.d23 (pv 0)) (ag ay)) (aB (aY (dI b.cl b.d23 (pv 0)) (ag ay)) bc)))))) aN))
theorem Vh(T:Tx P w K mg)(a:dj K mg C):CM P w K mg base C 7 "__init__" (uY C):=by
 refine gQ ["self","zone","deeds"] a.d2d bE λc b=>?_
 (refine fb ?_ ?_;refine Qu ?_)
 exact(be b (UW T) c (az (fv 1) aN))
 (refine fb ?_ ?_;refine Qu ?_)
 exact(be b (Vc T) c (az (fv 2) aN))
 walk_at "g"
 exact a.cl;exact a.d2c;exact(pv 0);exact(fv 1);rfl
 walk_at "g"
 exact a.cl;exact a.d24;exact(pv 0);exact(fv 2);rfl
 walk_at "g"
 exact a.cl;exact a.d27;exact(pv 0);exact(ag fF);rfl
 walk_at "g"
 exact a.cl;exact a.d25;exact(pv 0);exact(ag fF);rfl
 walk_at "g"
 exact a.cl;exact a.d2a;exact(pv 0);exact(ag ay);rfl
 walk_at "g"
 exact a.cl;exact a.d26;exact(pv 0);exact(ag ay);rfl
 walk_at "g"
 exact a.cl;exact a.d23;exact(pv 0);exact(ag fF);rfl;refine fb ?_ ?_;refine Rs ?_ ?_ ?_ ?_;exact a.cl;exact a.d28;exact(pv 0);rfl;refine fb ?_ ?_;refine Rt ?_ ?_ ?_ ?_;exact a.cl;exact a.d2b;exact(pv 0);rfl;apply dD;(refine RF (own:=["deed"]) (capN:=[]) ?_ ?_ ?_ ?_ ?_ ?_ ?_ ?_ ?_ ?_ ?_<;>try walk_at "z");exact a.cl;exact a.d29;exact(pv 0);exact b.1;exact(ae.of);exact(ml (fv 2));exact(λ_ _ _ _ _ _ d=>#[(bU 0),jE,(ag ay)])
theorem Vi(T:Tx P w K mg)(a:dj K mg C):CM P w K mg base C 7 "step" (jP C):=by
 refine gQ ["self","runner","moment"] a.d2m bE λb c=>?_
 (refine fb ?_ ?_;refine Qu ?_)
 exact(fS c a.cl (yK T a) b (pv 0) (az (fv 1) (az (fv 2) aN)))
 walk_at "g"
 exact a.cl;exact a.d27;exact(pv 0);exact(fv 2);rfl
 walk_at "d"
 exact(ed (dZ (bh (kY c a.cl (HL T a) b (pv 0)))))
 walk_at "a"
 exact(cH (aB (ag bL) (aB (aY (dI a.cl a.d23 (pv 0)) (ag ay)) (aB (aY (dI a.cl a.d23 (pv 0)) (ag ay)) bc))));exact ck
 walk_at "d"
 exact(xu (dI a.cl a.d23 (pv 0)) (ag fF))
 walk_at "e"
 exact(fS c a.cl (UK T a) b (pv 0) (az (fv 1) (az (fv 2) aN)));exact ck
 walk_at "e"
 exact(fS c a.cl (Vf T a) b (pv 0) (az (fv 1) (az (fv 2) aN)))
theorem Vj(T:Tx P w K mg)(a:dj K mg C):CK P w K mg base 8 "ask" (fe C):=by
 refine cf ["hall","call"] T.d0w bE λb c=>?_
 walk_at "d"
 exact(dP b.units (aY (fv 1) (ag ay)) (ag bL))
 walk_at "e"
 exact(fS c a.cl (Va T a) b (pv 0) (az (aY (fv 1) (ag ay)) (az (aY (fv 1) (ag ay)) (az (aY (fv 1) (ag ay)) aN))));exact ck
 walk_at "d"
 exact(dP b.units (aY (fv 1) (ag ay)) (ag bL))
 walk_at "e"
 exact(fS c a.cl (Ve T a) b (pv 0) (az (aY (fv 1) (ag ay)) (az (aY (fv 1) (ag ay)) aN)));exact ck
 walk_at "d"
 exact(dP b.units (aY (fv 1) (ag ay)) (ag bL))
 walk_at "e"
 exact(fS c a.cl (Vi T a) b (pv 0) (az (aY (fv 1) (ag ay)) (az (aY (fv 1) (ag ay)) aN)));exact ck
 walk_at "e"
 exact(fS c a.cl (Vg T a) b (pv 0) (az (aY (fv 1) (ag ay)) (az (aY (fv 1) (ag ay)) aN)))
theorem Vk(T:Tx P w K mg)(k:dj K mg C):CK P w K mg base 9 "do" (mY C):=by
 obtain⟨_,_,d,c,a,b⟩:=Vj T k;obtain⟨e,o⟩:=T.xt0;refine cf ["hall","call"] T.d0x bE λi j=>?_
 (refine fb ?_ ?_;refine Qu ?_)
 exact(be j (US T) i (az (fv 1) aN));refine dD ?_;(refine QP (D:=e) ?_ ?_ ?_ ?_ ?_ ?_ ?_<;>try walk_at "z");exact j.1;refineλl f g p h m=>dD (Cj ((mB h b a i (bC (pv 0) (az (fv 1) aN)))));refineλl q f g n=>dD (Ci ((ag bL)))
theorem Vl(T:Tx P w K mg)(l:dj K mg C):CK P w K mg base 10 "run" (va C):=by
 obtain⟨_,_,_,g,f,a,d⟩:=Vh T l;obtain⟨_,_,p,m,i,j⟩:=Vk T l;obtain⟨q,r⟩:=T.xt0;obtain⟨h,e,_⟩:=r.at_ (c:="NoCall") 'f';refine cf ["zone","deeds","calls","hall"] T.d0y bE λn o=>?_
 walk_at "j"
 exact(Ri o (l.make a.mt) d (n.mono 'd') rfl l.mg a.b (aB (fv 0) (aB (fv 1) bc)))
 walk_at "d"
 exact(gk (ed (dZ (kr (ki rfl T.d1s (fv 2) (jY rfl T.d1u Ut rfl))))));exact dD ((jF o n.hd rfl e));exact ck
 walk_at "e"
 exact(Dw (pv 3) (SA o.1 (ae.of (own:=["call"]) (capN:=["hall"])) rfl rfl rfl (hF (fv 2)) (λ_ _ _ _ _ _ s=>#[(bU 0),jE,(bh (mB (jq s) j i n (bC (pv 1) (az (fv 0) aN))))])))
theorem Vm(T:Tx P w K mg)(c:dj K mg C):CK P w K mg base 11 "_law_called" (rc C):=by
 refine cf ["_law_script","_law_town","_law_zone_here","_law_deeds_here","_law_most","_law_calls","_law_moment","_law_k","_law_runner","_law_word","_law_call","_law_hall","_law_told"] T.d16 bE λa b=>fb ?_ ?_;exact(Sk rfl (ub 'g') rfl rfl 'd' rfl rfl (nX bc))
 walk_at "h"
 exact(nW (nL rfl T.d1x (aB (bh (be b (gr T) a (bC (pv 0) (bC (pv 1) (az (eL (fv 4) (ag ay)) aN))))) bc)));exact(bU 7)
 walk_at "c"
 exact(eL (fv 6) (bh (be b (gr T) a (bC (pv 0) (bC (pv 1) (az (bh (be b (mZ T) a (bC (pv 0) (bC (pv 1) (az (jc (aB (ag ay) (aB (ag ay) (aB (ag ay) bc)))) aN))))) aN))))))
 walk_at "c"
 exact(bh (be b (gr T) a (bC (pv 0) (bC (pv 1) (az (bh (be b (mZ T) a (bC (pv 0) (bC (pv 1) (az (jc (aB (ag ay) (aB (ag ay) (aB (ag ay) bc)))) aN))))) aN)))))
 walk_at "c"
 exact(bh (be b (mZ T) a (bC (pv 0) (bC (pv 1) (az (jc (aB (ag bL) (aB (ag bL) (aB (ag bL) (aB (ag bL) (aB (ag bL) (aB (ag bL) (aB (ag bL) bc)))))))) aN)))))
 walk_at "c"
 exact(cH (aB (fv 9) (aB (fv 8) (aB (fv 6) bc))))
 (refine dD ?_;(refine Cn ?_ ?_ ?_ ?_ ?_ ?_ ?_ ?_<;>try walk_at "z"))
 exact(pv 5);exact(sT (dP a.units (fv 9) (ag bL)) (qf (fv 10) (cH (aB (eL (ag ay) (bh (be b (gr T) a (bC (pv 0) (bC (pv 1) (az (ag ay) aN)))))) bc))) (fv 10));refine fb ?_ ?_;refine Dx rfl ?_ (ub 'g') rfl rfl (by first |exact Or.inl rfl |exact Or.inr rfl) (by first |exact Or.inl rfl |exact Or.inr rfl) (by first |exact .inl rfl |exact .inr rfl |assumption) (by first |exact .inl rfl |exact .inr rfl |assumption) rfl rfl rfl rfl rfl rfl rfl;exact(be b (Vl T c) a (az (fv 2) (az (fv 3) (az (tw (jc (aB (cH (aB (ag bL) (aB (ag ay) (aB (ag ay) (aB (ag ay) bc))))) bc)) (fv 5)) aN))))
 walk_at "e"
 exact(Dw (pv 11) (fv 5))
variable(P w)(base) in
theorem Vn{C:Addr}{g:Addr}{fd:FuncData}(T:Tx P w K mg)(c:dj K mg C)(D:FD K mg "law" lm ["_law_script"] g fd):cD P w K mg base (ej P w) 12 g fd ["_law_script"] (gE K mg (Gp C)):=by
 refine wG D.fn HF 'd' ?_;intro f A e s H E F h a b
 walk_at "j"
 exact(nX bc)
 walk_at "c"
 exact(bh (be b (UY T) a (bC (pv 0) (bC (pv 1) (az (ag ay) aN)))))
 walk_at "c"
 exact(bh (be b (Vd T) a (bC (pv 0) (bC (pv 1) (az (ag ay) (az (ag ay) aN))))));refine fb ?_ ?_;refine Dx rfl ?_ HF.nd rfl rfl (by first |exact Or.inl rfl |exact Or.inr rfl) (by first |exact Or.inl rfl |exact Or.inr rfl) (by first |exact .inl rfl |exact .inr rfl |assumption) (by first |exact .inl rfl |exact .inr rfl |assumption) rfl rfl rfl rfl rfl rfl rfl;exact(be b (Vm T c) a (bC (pv 0) (bC (pv 1) (az (fv 2) (az (fv 3) (az (ag ay) aN))))))
 walk_at "c"
 exact(bh (kY b c.cl (rm T c) a (pv 4)))
 walk_at "j"
 exact(nX bc)
 walk_at "h"
 exact(nW (nL rfl T.d1x (aB (fq mi (gX ke lZ rfl T.d1t q1r (aB (fv 3) bc))) bc)));exact(bU 8)
 walk_at "c"
 exact(iF b.1 (ae.of (own:=["_law_row"]) (capN:=["_law_deed"]) (caps:=[8])) rfl rfl (hF (fv 6)) (λ_ _ _ _ _ _ d=>#[(bU 0),(kR (dP a.units (aY (fv 0) (ag ay)) (fv 1))),(aY (fv 0) (ag ay))]))
 (refine dD ?_;(refine Cn ?_ ?_ ?_ ?_ ?_ ?_ ?_ ?_<;>try walk_at "z"))
 exact(pv 7);exact(fq Cc (Be At BB rfl T.d21 ri (aB (iF b.1 (ae.of (own:=["_law_word"]) (capN:=["_law_some"]) (caps:=[9])) rfl rfl (ml (cH (aB (ag bL) (aB (ag bL) (aB (ag bL) (aB (ag bL) bc)))))) (λ_ _ _ _ _ _ d=>#[(bU 0),jE,(xp (g:=gp) q1F q1G xn xq (pv 1) (fv 0))])) bc)))
 walk_at "d"
 exact(qh a.units (bh (be b (UF T c) a (bC (pv 4) aN))) (fv 7))
 walk_at "a"
 exact(ag iV);exact ck
 walk_at "c"
 exact(iF b.1 (ae.of (own:=["_law_row"]) (capN:=[]) (caps:=[])) rfl rfl (hF (fv 6)) (λ_ _ _ _ _ _ d=>#[(bU 0),(kR (dP a.units (aY (fv 0) (ag ay)) (ag bL))),(qy (fv 0) (qx (ag ay)) qw)]));refine fb ?_ ?_;(refine wZ (own:=["_law_key"]) (capN:=["_law_some"]) (caps:=[9]) ?_ ?_ ?_ ?_ ?_ ?_ ?_ ?_ ?_ ?_ ?_ ?_<;>try walk_at "z");exact b.1;exact(ae.of (own:=["_law_key"]) (capN:=["_law_some"]) (caps:=[9]));exact(hF (fq Ub (Uc a.units rfl rfl T.d1z rfl T.d1y (aB (fv 9) bc))));exact(λ_ _ _ _ _ _ d=>#[(bU 0),(kR (qg (EQ a.units (pv 1) (fv 0)) (ag ay))),(qf (fv 0) (cH (aB (EQ a.units (pv 1) (fv 0)) bc)))])
 walk_at "c"
 exact(iF b.1 (ae.of (own:=["_law_row"]) (capN:=[]) (caps:=[])) rfl rfl (hF (fv 6)) (λ_ _ _ _ _ _ d=>#[(bU 0),(kR (dP a.units (aY (fv 0) (ag ay)) (ag bL))),(aY (fv 0) (ag ay))]))
 walk_at "d"
 exact(qh a.units (bh (be b (UG T c) a (bC (pv 4) aN))) (fv 10))
 walk_at "a"
 exact(ag iV);exact ck
 walk_at "d"
 exact(qh a.units (bh (be b (UH T c) a (bC (pv 4) aN))) (iF b.1 (ae.of (own:=["_law_runner"]) (capN:=["_law_did"]) (caps:=[11])) rfl rfl (hF (fq Ue (Uf rfl rfl T.d1z rfl T.d1y (aB (fv 11) bc)))) (λ_ _ _ _ _ _ d=>#[(bU 0),jE,(cH (aB (fv 0) (aB (xp (g:=gp) q1F q1G xn xq (pv 1) (fv 0)) bc)))])))
 walk_at "a"
 exact(ag iV);exact ck
 walk_at "j"
 exact(nX bc)
 walk_at "h"
 exact(Qx (OX rfl T.d1q (aB (fv 6) bc)));exact(nV (n:=2) rfl (ee (bU 13) (ee (bU 14) nU)))
 walk_at "f"
 exact(dP a.units (aY (fv 14) (ag ay)) (ag bL));refine fb ?_ ?_;(refine wZ (own:=["_law_other"]) (capN:=["_law_row"]) (caps:=[14]) ?_ ?_ ?_ ?_ ?_ ?_ ?_ ?_ ?_ ?_ ?_ ?_<;>try walk_at "z");exact b.1;exact(ae.of (own:=["_law_other"]) (capN:=["_law_row"]) (caps:=[14]));exact(hF (qy (fv 6) qw (qx (fv 13))));exact(λ_ _ _ _ _ _ d=>#[(bU 0),(kR (nP (BZ (dP a.units (aY (fv 0) (ag ay)) (ag bL)) (BY (dP a.units (qy (fv 0) (qx (ag ay)) qw) (qy (fv 1) (qx (ag ay)) qw)))))),(aY (fv 0) (ag ay))])
 (refine dD ?_;(refine Cn ?_ ?_ ?_ ?_ ?_ ?_ ?_ ?_<;>try walk_at "z"))
 exact(pv 12);exact(qf (qy (fv 14) (qx (ag ay)) qw) (cH (aB (on (aY (fv 14) (ag ay)) (aY (fv 15) (nO (ag ay)))) bc)));exact ck
 walk_at "a"
 exact(my a.units (bh (be b (UI T c) a (bC (pv 4) aN))) (fq Di (gX TS.call_sortedS Dh rfl T.d1z HJ (aB (fv 12) bc))))
end
end K3
namespace K3
open PySem L2 L2.L3 Due
noncomputable def dk(d:PyData)(lo a:Int):Bool:=match d with
 |.int i=>decide (lo<=i)&&decide (i<=a)
 |_=>false
noncomputable def ei:PyData->Bool
 |.dict _=>false
 |_=>true
@[simp]theorem Yr:cK "int" "int" = !true:=by decide
@[simp]theorem Ys:cK "int" "bool" = !false:=by decide
@[simp]theorem Yt:cK "bool" "int" = !true:=by decide
@[simp]theorem Yu:cK "bool" "bool" = !true:=by decide
@[simp]theorem Yv:cK "NoneType" "int" = !false:=by decide
@[simp]theorem Yw:cK "str" "int" = !false:=by decide
@[simp]theorem Yx:cK "list" "int" = !false:=by decide
@[simp]theorem Yy:cK "tuple" "int" = !false:=by decide
@[simp]theorem Yz:cK "int" "tuple" = !false:=by decide
@[simp]theorem YA:cK "bool" "tuple" = !false:=by decide
@[simp]theorem YB:cK "NoneType" "tuple" = !false:=by decide
@[simp]theorem YC:cK "str" "tuple" = !false:=by decide
@[simp]theorem YD:cK "list" "tuple" = !false:=by decide
@[simp]theorem YE:cK "tuple" "tuple" = !true:=by decide
theorem yL(i j):PyData.eqv (.int i) (.int j)=(i==j):=by rw[PyData.eqv]
theorem oQ(i):SeqAt.shaped (.int i)=true:=by rfl
theorem ls(h:ei d=true):hZ [.dat d,.dat (.int lo),.dat (.int a)]=.rt (.dat (.bool (dk d lo a))) []:=by
 cases d with
 |dict _=>cases h
 |int i=>
  by_cases h1:lo<=i
  .simp[hZ,uj,dk,h1]
  .simp[hZ,uj,dk,h1]
 |_=>simp[hZ,uj,dk]
noncomputable def gD(d:PyData)(n:Int):Bool:=match d with
 |.tuple ds=>decide ((ds.length:Int)=n)
 |_=>false
theorem ro(h:ei d=true):lb [.dat d,.dat (.int n)]=.rt (.dat (.bool (gD d n))) []:=by
 cases d with
 |dict _=>cases h
 |tuple ds=>simp[aI,lb,yq];rfl
 |_=>simp[lb,yq,gD]
theorem HP(h:ei d=true):qT [.dat d]=.rt (.dat (.bool (dk d (-12) 14))) []:=by simp[qT,Fb,ls h]
theorem yM(h:ei d=true):oI [.dat d]=.rt (.dat (.bool (dk d 0 9999))) []:=by simp[oI,Fc,ls h]
theorem HQ(h:ei d=true):uI [.dat d]=if dk d 0 9999=true then .rt (.dat .none) []else .ex "NoMoment" []:=by simp only[uI,Fo];cases a:dk d 0 9999<;>simp[yM h,a]
noncomputable abbrev eS(p:Int×Int):PyData:=.tuple [.int p.1,.int p.2]
abbrev cO(a:Int)(b:Sh):PyData:=.tuple [.int a,.tuple (b.map eS)]
@[simp]theorem rp{x:PyData}:bN (x::l) 0=!x:=by unfold bN dt;rw[if_pos 'b',if_pos (by simp<;>lia)];rfl
@[simp]theorem ic{y:PyData}:bN (x::y::l) 1=!y:=by unfold bN dt;rw[if_pos 'b',if_pos (by simp<;>lia)];rfl
@[simp]theorem dS{x:PyData}:bN (l++[x]) (-1)=!x:=by unfold bN dt;rw[if_neg 'b',if_pos (by simp;lia)];simp;rw[show(-1+((l.length:Int)+1)).toNat=l.length by lia];simp
theorem HR:∀{a lo x},oD lo a->(∀p∈a,p.1<=9999/\-12<=p.2/\p.2<=14)->∃e y,cw (aA 2) uE (a.map eS) [c,!.dat (.int (lo+1)),x]=.nx [c,e,y]
 |[],_,_,_,_=>#[_,_,rfl]
 | (b,k)::r,lo,x,⟨h1,h2⟩,f=>by
  obtain⟨e,y,g⟩:=HR (c:=c) (x:=!.dat (eS (b,k))) h2 λp h=>f p (bH _ h);have hb:=f (b,k) q0h;refine#[e,y,?_];rw[q0d,cw,<-g];have:uE [c,!.dat (.int (lo+1)),!.dat (eS (b,k))]=.nx [c,!.dat (.int (b+1)),!.dat (eS (b,k))]:=by simp[aI,uE,ro (d:=.tuple [.int b,.int k]) rfl,gD,HP (d:=.int k) rfl,ls (d:=.int b) rfl,dk,hb.2.1,hb.2.2,hb.1,show lo+1<=b by lia]
  simp[aI,this]
theorem Vo(f:a.length<=6)(b:oD 0 a)(d:∀p∈a,p.1<=9999/\-12<=p.2/\p.2<=14):uF [.dat (.tuple (a.map eS))]=.rt (.dat (.bool true)) []:=by obtain⟨e,y,h⟩:=HR b d;simp[uF,Fm,show ¬ (6:Int)<a.length by lia]at h ⊢;rw[h];simp
theorem Vp(z:mL a b):uN [.dat (cO a b)]=.rt (.dat (.bool true)) []:=by have h1:=z.ah.1;simp[uN,Fu,ro (d:=cO a b) rfl,gD,HP (d:=.int a) rfl,dk,h1.1,h1.2,Vo z.len z.rise λp c=>#[z.top p c,z.ah.2 p c]]
theorem Vq(z:mL a b):mR [.dat (cO a b)]=.rt (.dat .none) []:=by simp[mR,Fz,Vp z]
theorem HS:∀{ss a x},∃y,cw (aA 3) yr (ss.map eS) [z,!.dat (.int m),!.dat (.int a),x]=.nx [z,!.dat (.int m),!.dat (.int (ui a ss m)),y]
 |[],_,_=>#[_,rfl]
 | (b,c)::r,a,x=>by
  obtain⟨y,d⟩:=HS (x:=!.dat (eS (b,c)));refine#[y,?_];rw[q0d,cw];unfold ui;rw[<-d]
  by_cases h:b<=m<;>simp[yr,h]
theorem Vr:uk [.dat (cO a b),.dat (.int m)]=.rt (.dat (.int (yn a b m))) []:=by obtain⟨y,h⟩:=HS;simp[uk,EU]at h ⊢;rw[h];simp[yn]
theorem yN{P:ak->Prop}:∀{its ys U},P U->(∀d∈its,∀U,P U->∃a b,g d U=!a/\e a=.ok (f d) b/\P b)->ys.length+its.length<=sizeLine->bB g cW e its ys U=some (ys++its.map f)
 |[],ys,U,_,_,_=>by simp[bB]
 |d::r,ys,U,c,h,i=>by obtain⟨a,b,h1,h2,h3⟩:=h d q0h U c;simp only[q0i]at i;unfold bB;rw[h1];simp only[cW,h2];rw[if_pos 'b',yN h3 (λd hd=>h d (bH _ hd)) (by simp;lia)];simp
theorem yO{P:ak->Prop}:∀{its ys U},P U->(∀d∈its,∀U,P U->∃b a c,g d U=!b/\t b=.ok (p d) a/\P a/\(p d=true->e a=.ok (f d) c/\P c))->ys.length+its.length<=sizeLine->bB g t e its ys U=some (ys++(its.filter p).map f)
 |[],ys,U,_,_,_=>by simp[bB]
 |d::r,ys,U,j,h,k=>by
  obtain⟨b,a,c,h1,h2,h3,l⟩:=h d q0h U j;simp only[q0i]at k;unfold bB;rw[h1];simp only[h2];cases i:p d with
  |true=>obtain⟨m,n⟩:=l i;simp only[m];rw[if_pos 'b',yO n (λd hd=>h d (bH _ hd)) (by simp;lia)];simp[i]
  |false=>simp only;rw[yO h3 (λd hd=>h d (bH _ hd)) 'b'];simp[i]
@[simp]theorem YF:(0:Nat)<=sizeLine:=by decide
@[simp]theorem HU:(1:Nat)<=sizeLine:=by decide
@[simp]theorem HV:(2:Nat)<=sizeLine:=by decide
@[simp]theorem YG:(3:Nat)<=sizeLine:=by decide
@[simp]theorem YH:(4:Nat)<=sizeLine:=by decide
@[simp]theorem YI:(5:Nat)<=sizeLine:=by decide
@[simp]theorem YJ:(6:Nat)<=sizeLine:=by decide
@[simp]theorem YK:(7:Nat)<=sizeLine:=by decide
@[simp]theorem YL:(8:Nat)<=sizeLine:=by decide
@[simp]theorem YM:(9:Nat)<=sizeLine:=by decide
@[simp]theorem Vs:(10:Nat)<=sizeLine:=by decide
@[simp]theorem Vt:(11:Nat)<=sizeLine:=by decide
@[simp]theorem Vu:(12:Nat)<=sizeLine:=by decide
@[simp]theorem Vv:(13:Nat)<=sizeLine:=by decide
@[simp]theorem Vw:(14:Nat)<=sizeLine:=by decide
noncomputable def fU:Option Int->PyData
 |none=>.none
 |some e=>.int e
def kH(p:Int×Option Int×Int):PyData:=.tuple [.int p.1,fU p.2.1,.int p.2.2]
theorem HW:∀d  s a,pS (.int s::d.map λp=>.int p.1) ((d.map λp=>PyData.int p.1)++[.none]) (.int a::d.map λp=>.int p.2)=(cz s a d).map kH
 |[],s,a=>rfl
 |(b,c)::r,s,a=>by simp only[q0d,cz];rw[<-(HW r b c)];rfl
noncomputable def yP(d:PyData):PyData:=match d with
 |.tuple (x::_)=>x
 |_=>.none
noncomputable def yQ(d:PyData):PyData:=match d with
 |.tuple (_::c::_)=>c
 |_=>.none
theorem Vx(l:b.length<=6):um [.dat (cO a b)]=.rt (.dat (.list ((cz 0 a b).map kH))) []:=by
 have sz:1000<sizeLine:=by decide
 have c:=yN (e:=yt) (g:=aA 0) (f:=yP) (P:=λU=>U.length=1) (its:=b.map eS) (ys:=[]) (U:=[none]) rfl (λd hd U h=>by
  obtain⟨p,_,rfl⟩:=q0D.mp hd;obtain⟨y,rfl⟩:=q2y.mp h;exact#[_,_,rfl,by rfl,rfl]) (by simp;lia)
 have i:=yN (e:=yu) (g:=aA 0) (f:=yQ) (P:=λU=>U.length=1) (its:=b.map eS) (ys:=[]) (U:=[none]) rfl (λd hd U h=>by
  obtain⟨p,_,rfl⟩:=q0D.mp hd;obtain⟨y,rfl⟩:=q2y.mp h;exact#[_,_,rfl,by rfl,rfl]) (by simp;lia)
 simp only[q0y,q0z]at c i;have j:List.map (yP∘eS) b=b.map λp=>PyData.int p.1:=by apply q0P;intro p _;rfl
 have k:List.map (yQ∘eS) b=b.map λp=>PyData.int p.2:=by apply q0P;intro p _;rfl
 rw[j]at c;rw[k]at i;have z:=HW b 0 a;simp[aI,um,EV,c,i,show b.length<=sizeLine by lia,show b.length+1<=sizeLine by lia,show 1+b.length<=sizeLine by lia,z]
theorem Vy:uo [.dat (.int m),.dat (fU e)]=.rt (.dat (.bool (mK m e))) []:=by cases e<;>simp[uo,EW,fU,mK]
theorem yR:∀d  s a,(cz s a d).length=d.length+1
 |[],s,a=>rfl
 |(b,c)::r,s,a=>by simp[cz,yR r b c]
theorem Vz(d:a.length<=63)(e:0<=k):∃v,oG [.scr a,.dat (.int k)]=.rt (.dat (.int v)) []:=by
 by_cases h:k<a.length
 .have:∃v,bN a k=!v:=by unfold bN dt;rw[if_pos e,if_pos h];exact#[a[k.toNat]''b',by simp]
  obtain⟨v,c⟩:=this;exact#[v,by simp[aI,oG,ur,d,h,c]]
 .by_cases b:a=[]
  .subst b;exact⟨0,by simp[aI,oG,ur]at h ⊢;simp[aI,show ¬ k<0 by lia]⟩
  .have f:0<(a.length:Int):=by have:=q1Z.mpr b;lia
   have:∃v,bN a (k % a.length)=!v:=by have h2:=Int.emod_lt_of_pos k f;unfold bN dt;rw[if_pos (Int.emod_nonneg k 'b'),if_pos h2];exact#[a[(k % a.length).toNat]''b',by simp]
   obtain⟨v,c⟩:=this;exact#[v * 31+k,by simp[aI,oG,ur,d,h,b,c,pT,kQ,q1Z.mpr b]]
theorem VA(c:b.length<=63)(d:0<=k)(a:0<many):∃v,0<=v/\v<many/\uD [.scr b,.dat (.int k),.dat (.int many)]=.rt (.dat (.int v)) []:=by
 obtain⟨v,e⟩:=Vz c d;generalize hd:(v * 1103515245+7919 * k+12345) % 2147483647=dr;refine#[dr ^ 5 % 2147483647 % 999983 % many,Int.emod_nonneg _ 'b',Int.emod_lt_of_pos _ a,?_];simp[uD,Fk,e,kQ,pT,sQ,hd,a,show dr.natAbs<18446744073709551616 by lia]
theorem gu(a:ns.length<=63)(c:t.length<1000000)(b:0<many):∃v,0<=v/\v<many/\eh [.scr ns,.own true (.l t),.dat (.int many)]=.rt (.dat (.int v)) [.l (t++[.int 0])]:=by
 have sz:1000000<sizeLine:=by decide
 obtain⟨v,h1,h2,h3⟩:=VA (k:=((t++[PyData.int 0]).length)) a 'b' b;refine#[v,h1,h2,?_];simp at h3;simp[eh,Ft,show t.length<sizeLine by lia,h3]
theorem ng(a:ns.length<=63)(b:t.length<1000000)(hd:ds≠[])(c:ds.length<=1000):∃d∈ds,ib [.scr ns,.own true (.l t),.dat (.list ds)]=.rt (.dat d) [.l (t++[.int 0])]:=by
 have e:=q1Z.mpr hd;obtain⟨v,h1,h2,h3⟩:=gu (many:=ds.length) a b 'b';have:bN ds v=!ds[v.toNat]''b':=by unfold bN dt;rw[if_pos h1,if_pos h2];simp
 refine#[ds[v.toNat]''b',q1x _,?_];simp[ib,Fw,h3,this]
theorem VB{ss:Sh}(b:ns.length<=63)(h:t.length<900)(j:ss.length<=100)(a:0<wd):∃d c,0<=d/\d<wd/\-12<=c/\c<=14/\
  uQ [!.scr ns,!.own true (.l t),!.dat (.int wd),!.dat (.tuple (ss.map eS)),!.dat (.int m),k]=.nx [!.scr ns,!.own true (.l (t++[.int 0]++[.int 0])),!.dat (.int wd),!.dat (.tuple ((ss++[(m+1+d,c)]).map eS)),!.dat (.int (m+1+d)),k]:=by
 have sz:1000<sizeLine:=by decide
 obtain⟨d,e,n,h2⟩:=gu (t:=t) b 'b' a;obtain⟨w,a,h1⟩:=ng (t:=t++[.int 0]) (ds:=[.int 0,.int 1,.int 2,.int (-1),.int 14,.int (-12),.int 3]) b (by simp;lia) 'c' 'c';have:∃i:Int,w=.int i/\-12<=i/\i<=14:=by simp only[q0e,q0p,or_false]at a;rcases a with rfl |rfl |rfl |rfl |rfl |rfl |rfl<;>exact#[_,rfl,by lia,by lia]
 obtain⟨i,rfl,f,g⟩:=this;refine#[d,i,e,by lia,f,g,?_];simp[aI,uQ,h1,h2,show ss.length+1<=sizeLine by lia]
theorem HX(g:ns.length<=63)(h:0<wd):∀{its t ss m k},t.length+2 * its.length<900->ss.length+its.length<=100->∃new t' b f,cw (aA 5) uQ its [!.scr ns,!.own true (.l t),!.dat (.int wd),!.dat (.tuple (ss.map eS)),!.dat (.int m),k]=.nx [!.scr ns,!.own true (.l t'),!.dat (.int wd),!.dat (.tuple ((ss++new).map eS)),!.dat (.int b),f]/\
  oD m new/\(∀p∈new,p.1<=m+wd * its.length/\-12<=p.2/\p.2<=14)/\new.length=its.length/\t'.length=t.length+2 * its.length
 |[],t,ss,m,k,_,_=>#[[],t,m,k,by simp[aI,cw],trivial,λp a=>(by cases a),rfl,rfl]
 |x::r,t,ss,m,k,h1,h2=>by
  simp only[q0i]at h1 h2;obtain⟨d,c,s,u,i,j,e⟩:=VB (t:=t) (ss:=ss) (m:=m) (k:=!.dat x) g 'b' 'b' h;obtain⟨new,t',b,f,g1,g2,g3,n,o⟩:=HX g h (its:=r) (t:=t++[.int 0]++[.int 0]) (ss:=ss++[(m+1+d,c)]) (by simp;lia) (by simp;lia);have q:wd * ((r.length+1:Nat):Int)=wd * r.length+wd:=by rw[Int.natCast_add,Int.mul_add];simp
  have v:0<=wd * (r.length:Int):=Int.mul_nonneg 'b' 'b';refine#[(m+1+d,c)::new,t',b,f,?_,#[by lia,g2],λp a=>?_,by simp[aI,n],by rw[o];simp;lia]
  .rw[cw];simp only[aA,q03,q0H,e];rw[g1];simp
  .rw[q0i,q];rcases q0e.mp a with rfl |a
   .exact#[by simp;lia,i,j]
   .have:=g3 p a;exact#[by lia,this.2]
theorem VC(d:ns.length<=63)(s:t.length<=100)(h:0<wd):∃a c t',qY [.scr ns,.own true (.l t),.dat (.int wd)]=.rt (.dat (cO a c)) [.l t']/\c.length<=4/\oD 0 c/\ER a c/\(∀p∈c,p.1<=4 * wd)/\t'.length<=t.length+12:=by
 obtain⟨n,j,u,h1⟩:=gu (ns:=ns) (t:=t) (many:=5) d 'b' 'b';obtain⟨new,f,v,x,g1,g2,g3,o,g⟩:=HX (ns:=ns) (wd:=wd) d h (its:=intsFrom 0 n.toNat) (t:=t++[.int 0]) (ss:=[]) (m:=0) (k:=none) (by simp[aI,sM];lia) (by simp[aI,sM];lia);rw[sM]at g3 o g;simp only[q0u,q0i,q04]at g;obtain⟨w,b,h2⟩:=ng (ns:=ns) (t:=f) (ds:=[.int 0,.int 1,.int 2,.int (-1),.int 14,.int (-12)]) d 'b' 'c' 'c';have:∃i:Int,w=.int i/\-12<=i/\i<=14:=by simp only[q0e,q0p,or_false]at b;rcases b with rfl |rfl |rfl |rfl |rfl |rfl<;>exact#[_,rfl,by lia,by lia]
 obtain⟨i,rfl,q,r⟩:=this;simp only[q1B]at g1;have y:wd * ((n.toNat:Nat):Int)<=4 * wd:=by rw[Int.mul_comm 4];exact Int.mul_le_mul_of_nonneg_left 'b' 'b'
 refine#[i,new,f++[.int 0],?_,by lia,g2,#[#[q,r],λp e=>(g3 p e).2],λp e=>by have:=(g3 p e).1;lia,by simp;lia];simp[aI,qY,FC,h1,j,show n<4611686018427387904 by lia,show -4611686018427387904<=n by lia,g1,h2]
theorem HY(h:SeqAt.shaped d=true):aI false d d=!.bool true:=by simp[aI,h,BO h]
theorem HZ(h:SeqAt.shaped d=true):aI true d d=!.bool false:=by simp[aI,h,BO h]
theorem VD(i j):aI true (.int i) (.int j)=!.bool (not (decide (i=j))):=by
 by_cases h:i=j
 .subst h;simp[HZ (oQ i)]
 .simp[aI,oQ,yL,h]
theorem lu(i j):aI false (.int i) (.int j)=!.bool (decide (i=j)):=by
 by_cases h:i=j
 .subst h;simp[HY (oQ i)]
 .simp[aI,oQ,yL,h]
theorem rq(h:m U=.nx a):aC m k U=k a:=by simp[h]
theorem VE(i j):PyData.eqv (.str i) (.str j)=(i==j):=by rw[PyData.eqv]
theorem yS(h:PyData.strOk x=true):SeqAt.shaped (.str x)=true:=by unfold SeqAt.shaped;simp[PyData.canLay0,PyData.depth,h]
theorem cm(a:PyData.strOk x=true)(b:PyData.strOk y=true):aI false (.str x) (.str y)=!.bool (x==y):=by simp[aI,yS a,yS b,VE]
theorem jQ:PyData.strOk "once" = true:=by decide +kernel
theorem lx:PyData.strOk "every" = true:=by decide +kernel
theorem oR:PyData.strOk "daily" = true:=by decide +kernel
@[simp]theorem YN:(("every":Str)==("once":Str))=false:=by decide +kernel
@[simp]theorem YO:(("daily":Str)==("once":Str))=false:=by decide +kernel
@[simp]theorem YP:(("daily":Str)==("every":Str))=false:=by decide +kernel
@[simp]theorem YQ:cK "str" "str" = !true:=by decide
noncomputable abbrev nh:eR->PyData
 |.once m=>.tuple [.str "once",.int m]
 |.every f s=>.tuple [.str "every",.int f,.int s]
 |.daily h=>.tuple [.str "daily",.int h]
@[simp]theorem jR{w:PyData}:bN (x::y::w::l) 2=!w:=by unfold bN dt;rw[if_pos 'b',if_pos (by simp<;>lia)];rfl
theorem ly(a:PyData.strOk x=true)(b:PyData.strOk w=true):kG [.dat (.tuple (.str x::rest)),.dat (.str w),.dat (.int n)]=.rt (.dat (.bool (decide (((rest.length+1:Nat):Int)=n)&&(x==w)))) []:=by
 by_cases h:(((rest.length+1:Nat))=n)
 .simp[kG,yx,ro (d:=.tuple (.str x::rest)) rfl,gD,cm a b];simp at h;simp[h]
 .simp[kG,yx,ro (d:=.tuple (.str x::rest)) rfl,gD];simp at h;simp[h]
theorem VF(ok:jM p):oM [.dat (nh p)]=.rt (.dat (.bool true)) []:=by
 cases p with
 |once m=>simp[oM,uG,ly jQ jQ,yM (d:=.int m) rfl,dk,ok.1,ok.2]
 |every f s=>simp[oM,uG,ly lx jQ,ly lx lx,yM (d:=.int f) rfl,ls (d:=.int s) rfl,dk,ok.1.1,ok.1.2,ok.2.1,ok.2.2]
 |daily h=>simp[oM,uG,ly oR jQ,ly oR lx,ly oR oR,ls (d:=.int h) rfl,dk,ok.1,ok.2]
def vk(g:Int)(d:PyData):Bool:=match d with
 |.tuple [.int s,.none,.int a]=>mK (max s (g - a)) none
 |.tuple [.int s,.int e,.int a]=>mK (max s (g - a)) (!e)
 |_=>false
noncomputable def vm(g:Int)(d:PyData):PyData:=match d with
 |.tuple [.int s,_,.int a]=>.int (max s (g - a))
 |_=>.none
theorem Ia(g p):vk g (kH p)=mK (max p.1 (g - p.2.2)) p.2.1:=by obtain⟨s,e,a⟩:=p;cases e<;>rfl
theorem Ib(g p):vm g (kH p)=.int (max p.1 (g - p.2.2)):=by obtain⟨s,e,a⟩:=p;cases e<;>rfl
theorem VG(h:b.length<=6):uw [.dat (cO a b),.dat (.int g)]=.rt (.dat (.int (qR g 0 a b))) []:=by
 have sz:1000<sizeLine:=by decide
 have c:=yO (t:=yy) (e:=yz) (g:=gG 3 (cE (aA 0) (cE (aA 1) (cE (aA 2) jd)))) (p:=vk g) (f:=vm g) (P:=λU=>∃x y z,U=[x,y,z,!.dat (.int g)]) (its:=(cz 0 a b).map kH) (ys:=[]) (U:=[none,none,none,!.dat (.int g)]) #[_,_,_,rfl] (λd hd U i=>by
  obtain⟨p,_,rfl⟩:=q0D.mp hd;obtain⟨x,y,z,rfl⟩:=i;refine#[[!.dat (.int p.1),!.dat (fU p.2.1),!.dat (.int p.2.2),!.dat (.int g)],[!.dat (.int p.1),!.dat (fU p.2.1),!.dat (.int p.2.2),!.dat (.int g)],[!.dat (.int p.1),!.dat (fU p.2.1),!.dat (.int p.2.2),!.dat (.int g)],by simp[kH],by simp[yy,Vy,Ia],#[_,_,_,rfl],λ_=>#[by simp[yz,Ib],#[_,_,_,rfl]]]) (by simp[yR];lia)
 have f1:(((cz 0 a b).map kH).filter (vk g)).map (vm g)=(oE g (cz 0 a b)).map PyData.int:=by unfold oE;have j:vm g∘kH=λp=>.int (max p.1 (g - p.2.2)):=funext (Ib g);have k:vk g∘kH=λp=>mK (max p.1 (g - p.2.2)) p.2.1:=funext (Ia g);rw[List.filter_map,q0z,q0z,j,k];rfl
 have l:(oE g (cz 0 a b)).length<=7:=by unfold oE;rw[q0b];exact q0N (q1c _ _) (by rw[yR];lia)
 obtain⟨t,e⟩:=ES g b 0 a;rw[f1,e]at c;rw[e,q0i]at l;simp[uw,Ff,Vx h,c,show t.length+1<=sizeLine by lia]
theorem VH:ux [.dat (cO a b),.dat (.int h)]=.rt (.dat (.int (yo a b h))) []:=by simp[ux,Fg,Vr,yo,sP]
theorem VI{c:Nat}(d:b.length<=6):uL [.dat (cO a b),.dat (.int h),.dat (.int c)]=.rt (.dat (.int (yp a b h c))) []:=by simp[uL,Fs,VH,VG d,yp,kQ]
theorem VJ(a:-1000000<=j)(b:j<=1000000):kQ i j=true:=by unfold kQ;rw[decide_eq_true (show -(2 ^ 64)<j by lia),decide_eq_true (show j<2 ^ 64 by lia)];simp
theorem VL(a:1<=s)(b:s<=999):jo [.dat z,.dat (nh (.every f s)),.dat (.int c)]=.rt (.dat (.int (f+c * s))) []:=by simp[jo,qW,cm lx jQ,cm lx lx,VJ 'b' (show s<=1000000 by lia)]
theorem VM{c:Nat}(d:b.length<=6)(ok:jM p):jo [.dat (cO a b),.dat (nh p),.dat (.int c)]=.rt (.dat (fU (fz a b p c))) []:=by
 cases p with
 |once m=>
  by_cases e:c=0
  .subst e;simp[jo,qW,cm jQ jQ,lu,fz,fU]
  .simp[jo,qW,cm jQ jQ,lu,fz,fU,e]
 |every f s=>exact VL ok.2.1 ok.2.2
 |daily h=>simp[jo,qW,cm oR jQ,cm oR lx,fz,fU,VI d]
def IsT(o:gY):Prop:=∃x r,o=.rt (.dat (.bool true)) (x::r)
theorem gv(h:m U=.nx a)(q:IsT (k a)):IsT (aC m k U):=by rw[rq h];exact q
theorem VN(h:IsT (m (some (.scr a)::List.replicate n none))):bu 1 (n+1) m [.scr a]=.rt (.dat (.bool true)) []:=by obtain⟨x,r,e⟩:=h;simp[e]
theorem rr(i r):L3.intsFrom i (r+1)=.int i::L3.intsFrom (i+1) r:=by
 unfold L3.intsFrom;rw[List.range_succ_eq_map,q0d,q0z]
 congr 1
 .simp
 .apply q0P;intro k _;lia
theorem VO(a:ns.length<=63)(o:t.length<=900)(d:0<wd/\wd<=10000):∃p t',jM p/\(match p with |.once m=>m<wd |.every f s=>f<wd/\s<=200 |.daily _=>True)/\t'.length<=t.length+4/\oO [.scr ns,.own true (.l t),.dat (.int wd)]=.rt (.dat (nh p)) [.l t']:=by
 obtain⟨k,q,r,h1⟩:=gu (ns:=ns) (t:=t) (many:=3) a 'b' 'b'
 by_cases e:k=0
 .obtain⟨m,c,g,h2⟩:=gu (ns:=ns) (t:=t++[.int 0]) (many:=wd) a (by simp;lia) d.1;exact#[.once m,t++[.int 0]++[.int 0],#[c,by lia],g,by simp,by simp[oO,uR,h1,h2,lu,e]]
 .by_cases h:k=1
  .obtain⟨w,b,h2⟩:=ng (ns:=ns) (t:=t++[.int 0]) (ds:=[.int 3,.int 30,.int 200]) a (by simp;lia) 'c' 'c';have:∃i:Int,w=.int i/\0<i/\i<=200:=by simp only[q0e,q0p,or_false]at b;rcases b with rfl |rfl |rfl<;>exact#[_,rfl,by lia,by lia]
   obtain⟨i,rfl,n,u⟩:=this;obtain⟨s,v,x,h3⟩:=gu (ns:=ns) (t:=t++[.int 0]++[.int 0]) (many:=i) a (by simp;lia) n;obtain⟨f,f1,f2,j⟩:=gu (ns:=ns) (t:=t++[.int 0]++[.int 0]++[.int 0]) (many:=wd) a (by simp;lia) d.1;refine#[.every f (1+s),t++[.int 0]++[.int 0]++[.int 0]++[.int 0],#[#[f1,by lia],by lia,by lia],#[f2,by lia],by simp,?_];simp only[q0x,q1O,q0y]at h1 h2 h3 j;simp[oO,uR,h1,h2,h3,j,lu,e,h]
  .obtain⟨m,c,g,h2⟩:=gu (ns:=ns) (t:=t++[.int 0]) (many:=24) a (by simp;lia) 'b';refine#[.daily m,t++[.int 0]++[.int 0],#[c,by lia],trivial,by simp,?_];simp[oO,uR,h1,h2,lu,e,h]
@[simp]theorem YR:ei .none=true:=by simp only[ei]
@[simp]theorem YS(i):ei (.int i)=true:=by simp only[ei]
@[simp]theorem YT(b):ei (.bool b)=true:=by simp only[ei]
@[simp]theorem YU(x):ei (.str x)=true:=by simp only[ei]
@[simp]theorem YV(l):ei (.tuple l)=true:=by simp only[ei]
@[simp]theorem YW(l):ei (.list l)=true:=by simp only[ei]
inductive jr where
 |all |last |within (n:Int)
structure cj where
 plan:eR
 late:jr
 again:Bool
noncomputable abbrev ry:jr->PyData
 |.all=>.str "all"
 |.last=>.str "last"
 |.within n=>.tuple [.str "within",.int n]
abbrev dU(d:cj):PyData:=.tuple [nh d.plan,ry d.late,.bool d.again]
@[irreducible] def dh(a:List cj):PyData:=.tuple (a.map dU)
noncomputable def gT:Option Int->PyData
 |none=>.none
 |some i=>.int i
noncomputable def ie:Option (Nat×Nat×Int)->PyData
 |none=>.none
 |some (d,c,h)=>.tuple [.int d,.int c,.int h]
inductive Wd where
 |begun |done |left |unsure
deriving DecidableEq
noncomputable abbrev bY:Wd->Str
 |.begun=>"begun"
 |.done=>"done"
 |.left=>"left"
 |.unsure=>"unsure"
structure bi where
 mo:Int
 ru:Int
 wd:Wd
 dd:Nat
 ct:Nat
abbrev aW(r:bi):PyData:=.tuple [.int r.mo,.int r.ru,.str (bY r.wd),.int r.dd,.int r.ct]
noncomputable abbrev bS(n:Nat):PyData:=.int n
def eN(a:List ((Nat×Nat)×Wd)):List (PyData×PyData):=a.map λp=>(.tuple [bS p.1.1,bS p.1.2],.str (bY p.2))
structure Hl where
 a:Int
 ss:Sh
 ds:List cj
 last:Option Int
 holder:Option Int
 til:Int
 holds:Int
 begun:Option (Nat×Nat×Int)
 rows:List bi
 words:List ((Nat×Nat)×Wd)
 settled:List Nat
@[irreducible] def aq(S:Hl):List (Str×Fl):=[("zone",.d (cO S.a S.ss)),("deeds",.d (dh S.ds)),("last",.d (gT S.last)),("holder",.d (gT S.holder)),("until",.d (.int S.til)),("holds",.d (.int S.holds)),("begun",.d (ie S.begun)),("rows",.l (S.rows.map aW)),("words",.m true (eN S.words)),("settled",.l (S.settled.map bS))]
abbrev hB(C:Addr)(S:Hl):Bx:=.o C (aq S)
@[simp]theorem YX(S):List.lookup ("zone":Str) (aq S)=!.d (cO S.a S.ss):=by kernel_rfl
@[simp]theorem YZ(S):List.lookup ("deeds":Str) (aq S)=!.d (dh S.ds):=by kernel_rfl
@[simp]theorem Za(S):List.lookup ("last":Str) (aq S)=!.d (gT S.last):=by kernel_rfl
@[simp]theorem Zb(S):List.lookup ("holder":Str) (aq S)=!.d (gT S.holder):=by kernel_rfl
@[simp]theorem Zc(S):List.lookup ("until":Str) (aq S)=!.d (.int S.til):=by kernel_rfl
@[simp]theorem Zd(S):List.lookup ("holds":Str) (aq S)=!.d (.int S.holds):=by kernel_rfl
@[simp]theorem Ze(S):List.lookup ("begun":Str) (aq S)=!.d (ie S.begun):=by kernel_rfl
@[simp]theorem Zf(S):List.lookup ("rows":Str) (aq S)=!.l (S.rows.map aW):=by kernel_rfl
@[simp]theorem Zg(S):List.lookup ("words":Str) (aq S)=!.m true (eN S.words):=by kernel_rfl
@[simp]theorem Zh(S):List.lookup ("settled":Str) (aq S)=!.l (S.settled.map bS):=by kernel_rfl
@[simp]theorem Zi(S):List.lookup ("is_held":Str) (aq S)=none:=by kernel_rfl
@[simp]theorem Zj(S):List.lookup ("check_call":Str) (aq S)=none:=by kernel_rfl
@[simp]theorem Zk(S):List.lookup ("check_holder":Str) (aq S)=none:=by kernel_rfl
@[simp]theorem Zl(S):List.lookup ("take":Str) (aq S)=none:=by kernel_rfl
@[simp]theorem Zm(S):List.lookup ("give":Str) (aq S)=none:=by kernel_rfl
@[simp]theorem Zn(S):List.lookup ("add_row":Str) (aq S)=none:=by kernel_rfl
@[simp]theorem Zo(S):List.lookup ("is_busy":Str) (aq S)=none:=by kernel_rfl
@[simp]theorem Zp(S):List.lookup ("first_unsettled":Str) (aq S)=none:=by kernel_rfl
@[simp]theorem Zq(S):List.lookup ("step":Str) (aq S)=none:=by kernel_rfl
@[simp]theorem Zr(S):List.lookup ("step_behind_a_fall":Str) (aq S)=none:=by kernel_rfl
@[simp]theorem Zs(S):List.lookup ("step_ahead":Str) (aq S)=none:=by kernel_rfl
@[simp]theorem Zt(S):List.lookup ("finish":Str) (aq S)=none:=by kernel_rfl
@[simp]theorem Zu(S):List.lookup ("state":Str) (aq S)=none:=by kernel_rfl
@[simp]theorem Zv(S):List.lookup ("held":Str) (aq S)=none:=by kernel_rfl
@[simp]theorem Zw(S):List.lookup ("log":Str) (aq S)=none:=by kernel_rfl
@[simp]theorem Zx(S):List.lookup ("waiting":Str) (aq S)=none:=by kernel_rfl
@[simp]theorem Zy(S):List.lookup ("saved":Str) (aq S)=none:=by kernel_rfl
@[simp]theorem Zz(S):(aq S).length=10:=by kernel_rfl
theorem Ie(S x):bP ("last":Str) (.d (gT x)) (aq S)=aq { S with last:=x }:=by kernel_rfl
theorem Ig(S x):bP ("holder":Str) (.d (gT x)) (aq S)=aq { S with holder:=x }:=by kernel_rfl
theorem VP(S x):bP ("until":Str) (.d (.int x)) (aq S)=aq { S with til:=x }:=by kernel_rfl
theorem VQ(S x):bP ("holds":Str) (.d (.int x)) (aq S)=aq { S with holds:=x }:=by kernel_rfl
theorem Ih(S x):bP ("begun":Str) (.d (ie x)) (aq S)=aq { S with begun:=x }:=by kernel_rfl
theorem VR(S x):bP ("rows":Str) (.l (x.map aW)) (aq S)=aq { S with rows:=x }:=by kernel_rfl
theorem Ii(S x):bP ("words":Str) (.m true (eN x)) (aq S)=aq { S with words:=x }:=by kernel_rfl
theorem VS(S x):bP ("settled":Str) (.l (x.map bS)) (aq S)=aq { S with settled:=x }:=by kernel_rfl
@[simp]theorem ZA(S):bP ("last":Str) (.d .none) (aq S)=aq { S with last:=none }:=Ie S none
@[simp]theorem ZB(S i):bP ("last":Str) (.d (.int i)) (aq S)=aq { S with last:=!i }:=Ie S (!i)
@[simp]theorem ZC(S):bP ("holder":Str) (.d .none) (aq S)=aq { S with holder:=none }:=Ig S none
@[simp]theorem ZD(S i):bP ("holder":Str) (.d (.int i)) (aq S)=aq { S with holder:=!i }:=Ig S (!i)
@[simp]theorem ZE(S i):bP ("until":Str) (.d (.int i)) (aq S)=aq { S with til:=i }:=VP S i
@[simp]theorem ZF(S i):bP ("holds":Str) (.d (.int i)) (aq S)=aq { S with holds:=i }:=VQ S i
@[simp]theorem ZG(S):bP ("begun":Str) (.d .none) (aq S)=aq { S with begun:=none }:=Ih S none
@[simp]theorem ZH(S)(d c:Nat)(h):bP ("begun":Str) (.d (.tuple [.int d,.int c,.int h])) (aq S)=aq { S with begun:=!(d,c,h) }:=Ih S (!(d,c,h))
@[simp]theorem ZI{U:ak}:ca C (some (.own io (.o C fs))::U) 0=!(io,fs):=by simp[ca]
@[simp]theorem ZJ{U:ak}:ca C (x::y::some (.own io (.o C fs))::U) 2=!(io,fs):=by simp[ca]
@[simp]theorem ZK{U:ak}(h:fs.lookup f=!.d d):cM C 0 f (some (.own io (.o C fs))::U)=.ok d (some (.own io (.o C fs))::U):=by simp[cM,h]
@[simp]theorem ZL:isNone .none=true:=by simp only[isNone]
@[simp]theorem ZM(i):isNone (.int i)=false:=by simp only[isNone]
@[simp]theorem ZN(b):isNone (.bool b)=false:=by simp only[isNone]
@[simp]theorem ZO(x):isNone (.str x)=false:=by simp only[isNone]
@[simp]theorem ZP(l):isNone (.tuple l)=false:=by simp only[isNone]
@[simp]theorem ZQ(l):isNone (.list l)=false:=by simp only[isNone]
@[simp]theorem ZR(x):isNone (gT x)=x.isNone:=by cases x<;>simp[gT]
@[simp]theorem ZS(x):isNone (ie x)=x.isNone:=by rcases x with _ |⟨_,_,_⟩<;>simp[ie]
theorem VT(h:ei d=true):uu [.dat d]=.rt (.dat (.bool (dk d 0 3))) []:=by simp[uu,Fd,ls h]
theorem VU(h:ei d=true):uv [.dat d]=.rt (.dat (.bool (dk d 1 99))) []:=by simp[uv,Fe,ls h]
theorem Ij(h:ei d=true):uJ [.dat d]=if dk d 0 3=true then .rt (.dat .none) []else .ex "NoRunner" []:=by simp only[uJ,Fp];cases a:dk d 0 3<;>simp[VT h,a]
theorem yT(h:ei d=true):uK [.dat d]=if dk d 1 99=true then .rt (.dat .none) []else .ex "NoTerm" []:=by simp only[uK,Fq];cases a:dk d 1 99<;>simp[VU h,a]
noncomputable def iM(S:Hl)(m:Int):Bool:=S.holder.isSome&&decide (m<S.til)
noncomputable def vn(S:Hl)(m:Int):Bool:=match S.last with
 |some l=>decide (m<l)
 |none=>false
theorem oS:qS C [.own true (hB C S),.dat (.int m)]=.rt (.dat (.bool (iM S m))) [hB C S]:=by unfold iM;cases h:S.holder<;>simp[qS,EZ,h,gT]
theorem VV(b:ei r=true)(c:dk r 0 3=true)(e:dk (.int m) 0 9999=true)(a:vn S m=false):jN C [.own true (hB C S),.dat r,.dat (.int m)]=.rt (.dat .none) [hB C S]:=by
 unfold vn at a;cases h:S.last with
 |none=>simp[jN,yC,Ij b,c,HQ (d:=.int m) rfl,e,h,gT]
 |some l=>rw[h]at a;simp[jN,yC,Ij b,c,HQ (d:=.int m) rfl,e,h,gT,show ¬ m<l by lia]
theorem vo(x r):aI true (gT x) (.int r)=!.bool (not (decide (x=!r))):=by
 cases x with
 |none=>simp[gT,aI,oQ,show SeqAt.shaped .none=true from rfl,PyData.eqv]
 |some i=>simp[gT,VD]
theorem VW(h:jN C [.own true (hB C S),.dat (.int r),.dat (.int m)]=.rt (.dat .none) [hB C S])(a:(iM S m&&decide (S.holder=!r))=false):fc C [.own true (hB C S),.dat (.int r),.dat (.int m)]=.ex "NotHolder" [hB C S]:=by
 cases b:iM S m with
 |false=>simp[fc,uS,bX,cL,h,oS,b]
 |true=>rw[b]at a;simp at a;simp[fc,uS,bX,cL,h,oS,b,vo,a]
theorem VX(h:jN C [.own true (hB C S),.dat (.int r),.dat (.int m)]=.rt (.dat .none) [hB C S])(a:iM S m=true)(b:S.holder=!r):fc C [.own true (hB C S),.dat (.int r),.dat (.int m)]=.rt (.dat .none) [hB C S]:=by simp[fc,uS,bX,cL,h,oS,a,vo,b]
def vp(S:Hl)(r m t:Int):Hl×Bool:=if iM S m=false then({ S with last:=!m,holds:=S.holds+1,holder:=!r,til:=m+t },true) else if S.holder=some r then({ S with last:=!m,holder:=!r,til:=m+t },true) else({ S with last:=!m },false)
theorem VY(h:jN C [.own true (hB C S),.dat (.int r),.dat (.int m)]=.rt (.dat .none) [hB C S])(b:dk (.int t) 1 99=true):mT C [.own true (hB C S),.dat (.int r),.dat (.int m),.dat (.int t)]=.rt (.dat (.bool (vp S r m t).2)) [hB C (vp S r m t).1]:=by
 unfold vp;have f:iM { S with last:=!m } m=iM S m:=rfl;cases a:iM S m with
 |false=>simp[mT,uT,bX,cL,h,yT (d:=.int t) rfl,b,cX,gM,gL,oS,f,a,tF]
 |true=>
  by_cases c:S.holder=some r
  .simp[mT,uT,bX,cL,h,yT (d:=.int t) rfl,b,cX,gM,gL,oS,iM,(by unfold iM at a;simp[c]at a;exact a),vo,c]
  .simp[mT,uT,bX,cL,h,yT (d:=.int t) rfl,b,cX,gM,gL,oS,f,a,vo,c]
theorem VZ(h:fc C [.own true (hB C S),.dat d,.dat m]=.ex c [hB C S]):jP C [.own true (hB C S),.dat d,.dat m]=.ex c [hB C S]:=by simp[jP,ra,bX,cL,h]
theorem Wa(h:fc C [.own true (hB C S),.dat d,.dat m]=.ex c [hB C S]):jO C [.own true (hB C S),.dat d,.dat m]=.ex c [hB C S]:=by simp[jO,uW,bX,cL,h]
theorem rA:jn C [.own true (hB C S)]=.rt (.dat (.list (S.rows.map aW))) [hB C S]:=by simp[jn,Fa,tG]
@[irreducible]noncomputable def lA(z d:PyData):List (Str×Fl):=[]
@[irreducible]noncomputable def lB(z d:PyData):List (Str×Fl):=[("zone",.d z)]
@[irreducible]noncomputable def lC(z d:PyData):List (Str×Fl):=[("zone",.d z),("deeds",.d d)]
@[irreducible]noncomputable def lD(z d:PyData):List (Str×Fl):=[("zone",.d z),("deeds",.d d),("last",.d .none)]
@[irreducible]noncomputable def lE(z d:PyData):List (Str×Fl):=[("zone",.d z),("deeds",.d d),("last",.d .none),("holder",.d .none)]
@[irreducible]noncomputable def lF(z d:PyData):List (Str×Fl):=[("zone",.d z),("deeds",.d d),("last",.d .none),("holder",.d .none),("until",.d (.int 0))]
@[irreducible]noncomputable def lG(z d:PyData):List (Str×Fl):=[("zone",.d z),("deeds",.d d),("last",.d .none),("holder",.d .none),("until",.d (.int 0)),("holds",.d (.int 0))]
@[irreducible]noncomputable def lH(z d:PyData):List (Str×Fl):=[("zone",.d z),("deeds",.d d),("last",.d .none),("holder",.d .none),("until",.d (.int 0)),("holds",.d (.int 0)),("begun",.d .none)]
@[irreducible]noncomputable def lI(z d:PyData):List (Str×Fl):=[("zone",.d z),("deeds",.d d),("last",.d .none),("holder",.d .none),("until",.d (.int 0)),("holds",.d (.int 0)),("begun",.d .none),("rows",.l [])]
@[irreducible]noncomputable def lJ(z d:PyData):List (Str×Fl):=[("zone",.d z),("deeds",.d d),("last",.d .none),("holder",.d .none),("until",.d (.int 0)),("holds",.d (.int 0)),("begun",.d .none),("rows",.l []),("words",.m true [])]
@[simp]theorem ZT(z d):List.lookup ("zone":Str) (lA z d)=none:=by kernel_rfl
@[simp]theorem ZU(z d):(lA z d).length=0:=by kernel_rfl
@[simp]theorem ZV(z d):bP ("zone":Str) (.d z) (lA z d)=lB z d:=by kernel_rfl
@[simp]theorem ZW(z d):List.lookup ("deeds":Str) (lB z d)=none:=by kernel_rfl
@[simp]theorem ZX(z d):(lB z d).length=1:=by kernel_rfl
@[simp]theorem ZY(z d):bP ("deeds":Str) (.d d) (lB z d)=lC z d:=by kernel_rfl
@[simp]theorem ZZ(z d):List.lookup ("last":Str) (lC z d)=none:=by kernel_rfl
@[simp]theorem a_(z d):(lC z d).length=2:=by kernel_rfl
@[simp]theorem lK(z d):bP ("last":Str) (.d .none) (lC z d)=lD z d:=by kernel_rfl
@[simp]theorem b_(z d):List.lookup ("holder":Str) (lD z d)=none:=by kernel_rfl
@[simp]theorem c_(z d):(lD z d).length=3:=by kernel_rfl
@[simp]theorem d_(z d):bP ("holder":Str) (.d .none) (lD z d)=lE z d:=by kernel_rfl
@[simp]theorem e_(z d):List.lookup ("until":Str) (lE z d)=none:=by kernel_rfl
@[simp]theorem f_(z d):(lE z d).length=4:=by kernel_rfl
@[simp]theorem g_(z d):bP ("until":Str) (.d (.int 0)) (lE z d)=lF z d:=by kernel_rfl
@[simp]theorem h_(z d):List.lookup ("holds":Str) (lF z d)=none:=by kernel_rfl
@[simp]theorem i_(z d):(lF z d).length=5:=by kernel_rfl
@[simp]theorem j_(z d):bP ("holds":Str) (.d (.int 0)) (lF z d)=lG z d:=by kernel_rfl
@[simp]theorem k_(z d):List.lookup ("begun":Str) (lG z d)=none:=by kernel_rfl
@[simp]theorem l_(z d):(lG z d).length=6:=by kernel_rfl
@[simp]theorem m_(z d):bP ("begun":Str) (.d .none) (lG z d)=lH z d:=by kernel_rfl
@[simp]theorem n_(z d):List.lookup ("rows":Str) (lH z d)=none:=by kernel_rfl
@[simp]theorem o_(z d):(lH z d).length=7:=by kernel_rfl
@[simp]theorem p_(z d):bP ("rows":Str) (.l []) (lH z d)=lI z d:=by kernel_rfl
@[simp]theorem q_(z d):List.lookup ("words":Str) (lI z d)=none:=by kernel_rfl
@[simp]theorem r_(z d):(lI z d).length=8:=by kernel_rfl
@[simp]theorem s_(z d):bP ("words":Str) (.m true []) (lI z d)=lJ z d:=by kernel_rfl
@[simp]theorem t_(z d):List.lookup ("settled":Str) (lJ z d)=none:=by kernel_rfl
@[simp]theorem u_(z d):(lJ z d).length=9:=by kernel_rfl
noncomputable def jS(a:Int)(c:Sh)(b:List cj):Hl:=#[a,c,b,none,none,0,0,none,[],[],List.replicate b.length 0]
theorem Wb(a c b):bP ("settled":Str) (.l ((List.replicate b.length (0:Nat)).map bS)) (lJ (cO a c) (dh b))=aq (jS a c b):=by kernel_rfl
theorem Ik:∀l a (U:ak),(∃x,U=[x])->a.length+l.length<=sizeLine->bB (aA 0) cW (uX C) l a U=some (a++(List.replicate l.length (0:Nat)).map bS)
 |[],a,U,_,_=>by simp[bB]
 |d::l,a,U,⟨x,b⟩,c=>by
  subst b;simp only[q0i]at c;have f:uX C [!.dat d]=.ok (.int 0) [!.dat d]:=by simp[uX]
  rw[bB];simp[cW,f,show a.length<sizeLine by lia,(Ik l (a++[.int 0]) [!.dat d] #[_,rfl] (by simp;lia)),q1D]
theorem Wc(e:mR [.dat (cO a c)]=.rt (.dat .none) [])(hd:mV [.dat (dh b)]=.rt (.dat .none) [])(i:b.length<=6):uY C [.own true (.o C []),.dat (cO a c),.dat (dh b)]=.rt (.dat .none) [hB C (jS a c b)]:=by
 have sz:1000<sizeLine:=by decide
 have f:([])=lA (cO a c) (dh b):=by unfold lA;rfl
 have g:=Ik (C:=C) (b.map dU) [] [none] #[_,rfl] (by simp;lia);rw[q0y,q0b]at g;have h:dh b=.tuple (b.map dU):=by unfold dh;rfl
 have d:=Wb a c b;rw[f];simp[uY,FJ,e,hd,cX,gM,gL,mz,xG,tI];rw[h]at *;simp[g,show b.length<=sizeLine by lia]at d ⊢;exact d
def ni(p:eR):Prop:=jM p
theorem yU{c:Nat}(b:ss.length<=6)(ok:ni p):jo [.dat (cO a ss),.dat (nh p),.dat (.int c)]=.rt (.dat (fU (fz a ss p c))) []:=VM b ok
theorem lL:PyData.strOk "all" = true:=by decide +kernel
theorem jT:PyData.strOk "last" = true:=by decide +kernel
theorem yV:PyData.strOk "within" = true:=by decide +kernel
theorem nj:PyData.strOk "begun" = true:=by decide +kernel
theorem We:PyData.strOk "done" = true:=by decide +kernel
theorem Wf:PyData.strOk "left" = true:=by decide +kernel
theorem Wg:PyData.strOk "unsure" = true:=by decide +kernel
theorem Il:(("all":Str)==("all":Str))=true:=by decide +kernel
theorem yW:(("last":Str)==("all":Str))=false:=by decide +kernel
theorem yX:(("last":Str)==("last":Str))=true:=by decide +kernel
theorem Im:(("begun":Str)==("begun":Str))=true:=by decide +kernel
theorem Wh:(("done":Str)==("begun":Str))=false:=by decide +kernel
theorem Wi:(("left":Str)==("begun":Str))=false:=by decide +kernel
theorem Wj:(("unsure":Str)==("begun":Str))=false:=by decide +kernel
theorem Wl(w):aI false (.str (bY w)) (.str "begun")=!.bool (decide (w=.begun)):=by
 cases w
 .simp[cm nj nj]
 .simp[cm We nj,Wh]
 .simp[cm Wf nj,Wi]
 .simp[cm Wg nj,Wj]
theorem Io(h:SeqAt.shaped (.tuple l)=true)(a:PyData.strOk x=true):aI false (.tuple l) (.str x)=!.bool false:=by simp[aI,h,yS a,PyData.eqv]
theorem Ip(n):SeqAt.shaped (.tuple [.str "within",.int n])=true:=by unfold SeqAt.shaped;simp[PyData.canLay0,PyData.canLayAll0,PyData.depth,PyData.depthAll,yV]
def oU(a:Int)(e:Sh)(d:cj)(c:Nat)(b:Int):Bool:=match d.late with
 |.all=>false
 |.last=>(match fz a e d.plan (c+1) with |some v=>decide (v<=b) |none=>false)
 |.within n=>decide (b - ET a e d.plan c>n)
theorem Wm(f:ss.length<=6)(ok:ni d.plan)(g:∃v,fz a ss d.plan c=!v):mS [.dat (cO a ss),.dat (dU d),.dat (.int c),.dat (.int now)]=.rt (.dat (.bool (oU a ss d c now))) []:=by
 obtain⟨p,la,h⟩:=d;obtain⟨v,e⟩:=g;unfold oU;cases la with
 |all=>simp[mS,qX,cm lL lL,Il]
 |last=>
  have rt:=yU (a:=a) (p:=p) (c:=c+1) f ok;simp at rt;cases b:fz a ss p (c+1) with
  |none=>rw[b]at rt;simp[mS,qX,cm jT lL,cm jT jT,yW,yX,rt,fU,b]
  |some w=>rw[b]at rt;simp[mS,qX,cm jT lL,cm jT jT,yW,yX,rt,fU,b]
 |within n=>have rt:=yU (a:=a) (ss:=ss) (p:=p) (c:=c) f ok;rw[e]at rt;simp[mS,qX,Io (Ip n) lL,Io (Ip n) jT,rt,fU,ET,e]
noncomputable def gU:List ((Nat×Nat)×Wd)->(Nat×Nat)->Wd->List ((Nat×Nat)×Wd)
 |[],k,w=>[(k,w)]
 |(a,v)::r,k,w=>if a = k then(a,w)::r else(a,v)::gU r k w
theorem yY(d c):dA true (.tuple [bS d,bS c])=![Sum.inl (d:Int),Sum.inl (c:Int)]:=rfl
theorem rB{d c :Nat}:(dA true (.tuple [bS a,bS b])=![Sum.inl (d:Int),Sum.inl (c:Int)])↔(a,b)=(d,c):=by
 rw[yY];constructor
 .intro h;have e:a = d:=by lia
  have f:b = c:=by lia
  rw[e,f]
 .intro h;cases h;rfl
theorem Iq(d c:Nat):∀e,et true (eN e) [Sum.inl (d:Int),Sum.inl (c:Int)]=(e.lookup (d,c)).map λw=>.str (bY w)
 |[]=>rfl
 | ((a,b),w)::r=>by
  unfold eN;rw[q0d,et];have f:=Iq d c r;unfold eN at f
  by_cases h:(a,b)=(d,c)
  .rw[if_pos (rB.mpr h)];cases h;simp
  .rw[if_neg (λz=>h (rB.mp z)),f];have:((d,c)==(a,b))=false:=by simpa using λz:(d=a/\c=b)=>h (by rw[z.1,z.2])
   rw[q0t,this]
theorem Ir(d c w):∀a:List ((Nat×Nat)×Wd),(a.map (·.1)).Nodup->(a.lookup (d,c)).isSome=true->kz true [Sum.inl (d:Int),Sum.inl (c:Int)] (.str (bY w)) (eN a)=eN (gU a (d,c) w)
 |[],_,h=>by cases h
 | ((b,f),v)::r,nd,h=>by
  unfold eN;rw[q0d,kz];have tail:∀a,(d,c)∉a.map (·.1)->kz true [Sum.inl d,Sum.inl c] (.str (bY w)) (eN a)=eN a:=by
   intro a
   induction a with
   |nil=>intro _;rfl
   |cons p r i=>intro g;obtain⟨⟨k,l⟩,m⟩:=p;simp only[q0d,q0e,not_or]at g;unfold eN;rw[q0d,kz,if_neg (λz=>g.1 (rB.mp z).symm)];have:=i g.2;unfold eN at this;rw[this]
  by_cases e:(b,f)=(d,c)
  .cases e;rw[if_pos (rB.mpr rfl),gU,if_pos rfl,q0d];have:=tail r (by simpa using(q0V.mp nd).1);unfold eN at this;rw[this]
  .have j:=by
    have:((d,c)==(b,f))=false:=by simpa using λz:(d=b/\c=f)=>e (by rw[z.1,z.2])
    rw[q0t,this]at h;exact h
   rw[if_neg (λz=>e (rB.mp z)),gU,if_neg e,q0d];have:=Ir d c w r (q0V.mp nd).2 j;unfold eN at this;rw[this]
theorem Iu(k w):∀a,a.lookup k=none->gU a k w=a++[(k,w)]
 |[],_=>rfl
 | (b,v)::r,h=>by
  rw[q0t]at h
  by_cases e:k=b
  .subst e;simp at h
  .have:(k==b)=false:=by simpa using e
   rw[this]at h;rw[gU,if_neg (λz=>e z.symm),Iu k w r h];rfl
theorem Wn(a:(ws.map (·.1)).Nodup):gH true (eN ws) (.tuple [bS d,bS c]) [Sum.inl (d:Int),Sum.inl (c:Int)] (.str (bY w))=eN (gU ws (d,c) w):=by
 unfold gH;rw[Iq];cases h:ws.lookup (d,c) with
 |none=>rw[Iu _ _ _ h];simp[eN]
 |some v=>exact Ir d c w ws a (by rw[h];rfl)
theorem yZ(k w):∀a,(gU a k w).map (·.1)=if k∈a.map (·.1) then a.map (·.1) else a.map (·.1)++[k]
 |[]=>by simp[gU]
 | (b,v)::r=>by
  rw[gU]
  by_cases e:b = k
  .subst e;simp
  .rw[if_neg e,q0d,yZ k w r]
   by_cases h:k∈r.map (·.1)
   .rw[if_pos h,if_pos (by simp[h])];rfl
   .rw[if_neg h,if_neg (by
     simp only[q0d,q0e,not_or];exact#[λz=>e z.symm,h])];rfl
theorem Wo(d:(c.map (·.1)).Nodup):((gU c k w).map (·.1)).Nodup:=by
 rw[yZ];split
 .exact d
 .rename_i h;exact q0j.mpr #[d,by simp,λa f b e z=>by simp at e;subst e;subst z;exact h f]
theorem Wp(k w a):(gU a k w).length<=a.length+1:=by have:=congrArg List.length (yZ k w a);rw[q0b]at this;rw[this];split<;>simp
def iN(S:Hl)(r:bi):Hl:={ S with rows:=S.rows++[r],words:=gU S.words (r.dd,r.ct) r.wd,begun:=if r.wd=.begun then some (r.dd,r.ct,S.holds) else none,settled:=if r.wd=.begun then S.settled else S.settled.set r.dd (r.ct+1) }
theorem nk{v:PyData}:bN (x::y::z::v::l) 3=!v:=by unfold bN dt;rw[if_pos 'b',if_pos (by simp<;>lia)];rfl
theorem rC{u:PyData}:bN (x::y::z::v::u::l) 4=!u:=by unfold bN dt;rw[if_pos 'b',if_pos (by simp<;>lia)];rfl
theorem Wq(S r):bP ("rows":Str) (.l (S.rows.map aW++[aW r])) (aq S)=aq { S with rows:=S.rows++[r] }:=by rw[show S.rows.map aW++[aW r]=(S.rows++[r]).map aW by simp];exact VR S _
theorem rD(i:S.rows.length<1000000)(j:S.words.length<1000000)(h:(S.words.map (·.1)).Nodup)(hd:r.dd<S.settled.length):iJ C [.own true (hB C S),.dat (aW r)]=.rt (.dat (.tuple [.str (bY r.wd),bS r.dd,bS r.ct])) [hB C (iN S r)]:=by
 have sz:1000000<sizeLine:=by decide
 obtain⟨mo,ru,wd,a,b⟩:=r;have e:=Wn (ws:=S.words) (d:=a) (c:=b) (w:=wd) h;have l1:(eN S.words).length<sizeLine:=by unfold eN;rw[q0b];lia
 have f:=Wq S #[mo,ru,wd,a,b];simp only at hd;have g:dt S.settled.length (a:Int)=!a:=by unfold dt;rw[if_pos 'b',if_pos 'b'];simp
 have st:(S.settled.map bS).set a (.int ((b:Int)+1))=(S.settled.set a (b+1)).map bS:=by rw[List.map_set];simp[bS]
 unfold iN
 by_cases hb:wd=.begun
 .subst hb;simp[iJ,yv,nk,rC,ql,fQ,tz,show S.rows.length<sizeLine by lia,f,tD,qm,yY,l1,e,Ii,cX,gM,gL,show(3:Nat)<=sizeLine by lia,tE,qp,g,st,cm nj nj,Im]
 .simp[iJ,yv,nk,rC,ql,fQ,tz,show S.rows.length<sizeLine by lia,f,tD,qm,yY,l1,e,Ii,cX,gM,gL,show(3:Nat)<=sizeLine by lia,tE,qp,g,st,Wl,hb];rw[<-List.map_set];exact VS _ _
structure bM (S:Hl):Prop where
 z:mL S.a S.ss
 dl:S.ds.length<=6
 pl:∀d∈S.ds,ni d.plan
 sl:S.settled.length=S.ds.length
 nd:(S.words.map (·.1)).Nodup
 bg:∀d c h,S.begun=!(d,c,h)->d<S.ds.length
noncomputable def nn(S:Hl):Bool:=match S.begun with
 |some (_,_,h)=>decide (h=S.holds)
 |none=>false
theorem Wr(b:a.length=n)(d:m (a.map some++List.replicate (N - n) none)=.rt c U)(e:em a U=!o):bu n N m a=.rt c o:=by unfold bu;rw[if_pos b,d];simp only[e]
theorem Iw(a:-4611686018427387904<=j)(b:j<4611686018427387904):cp [.int j]=!L3.intsFrom 0 j.toNat:=by show(if _ then _ else _)=_;rw[if_pos (by rw[decide_eq_true 'b',decide_eq_true 'b'];rfl)]
theorem za:oH C [.own true (hB C S)]=.rt (.dat (.bool (nn S))) [hB C S]:=by
 unfold nn;cases h:S.begun with
 |none=>simp[oH,yw,h,ie]
 |some p=>obtain⟨d,c,k⟩:=p;simp[oH,yw,h,ie,lu]
theorem Ix{a:List cj}(h:k<a.length):aG (dh a) (.int k)=!dU a[k]:=by
 unfold dh;have:bN (a.map dU) k=!dU a[k]:=by unfold bN dt;rw[if_pos 'b',if_pos (by simp;lia)];simp[h]
 simp[this]
theorem Ws{l:List Nat}(h:k<l.length):bN (l.map bS) (k:Int)=!bS l[k]:=by unfold bN dt;rw[if_pos 'b',if_pos (by simp;lia)];simp[h]
noncomputable def cZ(S:Hl)(k:Nat):Nat:=S.settled.getD k 0
def rE(S:Hl)(k:Nat):Option (List Int):=match S.ds[k]? with
 |some d=>(fz S.a S.ss d.plan (cZ S k)).map λv=>[v,(k:Int),(cZ S k:Int)]
 |none=>none
def fV(S:Hl):List (List Int):=(List.range S.ds.length).filterMap (rE S)
noncomputable abbrev ai(r:List Int):PyData:=.tuple (r.map PyData.int)
theorem zb(ok:bM S):∀n k  b  m f g,k+n=S.ds.length->b.length<=k->∃h i j,cw (aA 2) (mU C) (L3.intsFrom (k:Int) n) [!.own true (hB C S),!.own false (.l (b.map ai)),m,f,g]=.nx [!.own true (hB C S),!.own false (.l ((b++(List.range' k n).filterMap (rE S)).map ai)),h,i,j]
 |0,k,b,m,f,g,_,_=>#[m,f,g,by simp[L3.intsFrom,cw]]
 |n+1,k,b,m,f,g,w,x=>by
  have sz:1000<sizeLine:=by decide
  have d:k<S.ds.length:=by lia
  have q:k<S.settled.length:=by rw[ok.sl];exact d
  have dl:=ok.dl;have s:ni (S.ds[k]).plan:=ok.pl _ (q1x d);have t:cZ S k=S.settled[k]:=by unfold cZ;rw[q01,q0c q];rfl
  have rt:=yU (a:=S.a) (ss:=S.ss) (p:=(S.ds[k]).plan) (c:=S.settled[k]) ok.z.len s;have as:=Ws (l:=S.settled) q;have u:rE S k=(fz S.a S.ss (S.ds[k]).plan S.settled[k]).map λv=>[v,(k:Int),((S.settled[k]:Nat):Int)]:=by unfold rE;rw[q0c d,<-t]
  rw[rr,cw,q2L,q07,u];cases r:fz S.a S.ss (S.ds[k]).plan S.settled[k]with
  |none=>
   rw[r]at rt;have e:mU C [!.own true (hB C S),!.own false (.l (b.map ai)),!.dat (.int k),f,g]=.nx [!.own true (hB C S),!.own false (.l (b.map ai)),!.dat (.int k),!.dat (bS S.settled[k]),!.dat .none]:=by simp[-aG,mU,qo,fQ,as,Ix d];simp[rt,fU]
   obtain⟨h,i,j,o⟩:=zb ok n (k+1) b (!.dat (.int k)) (!.dat (bS S.settled[k])) (!.dat .none) 'b' 'b';refine#[h,i,j,?_];simp only[Option.map_none];rw[<-o];simp[e]
  |some v=>
   rw[r]at rt;have e:mU C [!.own true (hB C S),!.own false (.l (b.map ai)),!.dat (.int k),f,g]=.nx [!.own true (hB C S),!.own false (.l ((b++[[v,(k:Int),((S.settled[k]:Nat):Int)]]).map ai)),!.dat (.int k),!.dat (bS S.settled[k]),!.dat (.int v)]:=by simp[-aG,mU,qo,fQ,as,Ix d];simp[rt,fU,show b.length<sizeLine by lia]
   obtain⟨h,i,j,o⟩:=zb ok n (k+1) (b++[[v,(k:Int),((S.settled[k]:Nat):Int)]]) (!.dat (.int k)) (!.dat (bS S.settled[k])) (!.dat (.int v)) 'b' (by simp;lia);refine#[h,i,j,?_];simp only[q1A];rw[q0x,List.singleton_append]at o;rw[<-o];simp[e]
theorem Iy:∀a,fu (a.map PyData.int)=some a
 |[]=>rfl
 |n::a=>by rw[q0d,fu,Iy a];rfl
theorem rF:∀a,gO (a.map ai)=some a
 |[]=>rfl
 |r::a=>by rw[q0d,gO,Iy,rF a]
def oV:List (List Int)->PyData
 |[]=>.none
 |r::a=>ai (gq a r)
theorem Wt:(cV gm (av (cM C 0 "deeds") aM)) [!.own true (hB C S),!.own false (.l []),none,none,none]=.ok (.int S.ds.length) [!.own true (hB C S),!.own false (.l []),none,none,none]:=by simp[dh]
theorem Wu(h:U[1]? = !!.own false (.l (a.map ai))):kW 1 U=.ok (oV a) U:=by unfold kW qc;rw[h];simp only[rF];cases a<;>rfl
theorem Iz(h:0<=n)(i:n<=1000)(c:m U=.ok (.int n) U)(d:cw g b (L3.intsFrom 0 n.toNat) U=.nx a):fO (gn cp (av m aM)) g b U=.nx a:=by
 have e:(av m aM) U=.ok [.int n] U:=by show fK.bind (m U) _=_;rw[c];rfl
 have f:gn cp (av m aM) U=.ok (L3.intsFrom 0 n.toNat) U:=by show fK.bind ((av m aM) U) _=_;rw[e];show L3.lift (cp [.int n]) U=_;rw[Iw 'b' 'b'];rfl
 show dE (gn cp (av m aM) U) _=_;rw[f];exact d
theorem Wv(ok:bM S):yE C [.own true (hB C S)]=.rt (.dat (oV (fV S))) [hB C S]:=by
 have dl:=ok.dl;obtain⟨a,b,c,g⟩:=zb ok S.ds.length 0 [] none none none 'b' 'c';rw[q0y,<-List.range_eq_range']at g;change cw _ _ (L3.intsFrom 0 S.ds.length) [_,!.own false (.l []),_,_,_]=gY.nx [_,!.own false (.l ((fV S).map ai)),_,_,_]at g;have e:iB 1 (kw aM) [!.own true (hB C S),none,none,none,none]=.nx [!.own true (hB C S),!.own false (.l []),none,none,none]:=by simp
 have f:bz (kW 1) [!.own true (hB C S),!.own false (.l ((fV S).map ai)),a,b,c]=.rt (.dat (oV (fV S))) [!.own true (hB C S),!.own false (.l ((fV S).map ai)),a,b,c]:=by show dE (kW 1 _) _=_;rw[Wu rfl];rfl
 have h:(aC (iB 1 (kw aM)) (aC (fO (gn cp (av (cV gm (av (cM C 0 "deeds") aM)) aM)) (aA 2) (mU C)) (bz (kW 1)))) [!.own true (hB C S),none,none,none,none]=.rt (.dat (oV (fV S))) [!.own true (hB C S),!.own false (.l ((fV S).map ai)),a,b,c]:=by rw[rq e,rq (Iz 'b' 'b' (Wt) (by rw[q0Z];exact g)),f]
 exact Wr rfl h rfl
theorem zc:∀a  r,gq a r=r\/gq a r∈a
 |[],r=>.inl rfl
 |x::a,r=>by
  rw[gq];rcases zc a (if HT.lexLt x r=true then x else r) with h |h
  .rw[h];split
   .exact .inr q0h
   .exact .inl rfl
  .exact .inr (bH _ h)
theorem oW(a):dh a=.tuple (a.map dU):=by unfold dh;rfl
theorem vr{a:List cj}(h:k<a.length):bN (a.map dU) (k:Int)=!dU a[k]:=by unfold bN dt;rw[if_pos 'b',if_pos (by simp;lia)];simp[h]
theorem IA(h:x∈fV S):∃k v,∃c,fz S.a S.ss (S.ds[k]).plan (cZ S k)=!v/\x=[v,(k:Int),(cZ S k:Int)]:=by obtain⟨k,c,e⟩:=q1J.mp h;have b:=q1d.mp c;unfold rE at e;rw[q0c b]at e;obtain⟨v,d,f⟩:=q0g.mp e;exact#[k,v,b,d,f.symm]
def nq(S:Hl):Option (Int×Nat):=match fV S with
 |[]=>none
 |x::a=>(match gq a x with
  |[v,k,_]=>some (v,k.toNat)
  |_=>none)
theorem Ww(h:nq S=none):fV S=[]:=by
 unfold nq at h;cases a:fV S with
 |nil=>rfl
 |cons x b=>
  rw[a]at h;have c:gq b x∈fV S:=by
   rw[a];rcases zc b x with e |e
   .rw[e];exact q0h
   .exact bH _ e
  obtain⟨k,v,d,_,e⟩:=IA c;simp only[e]at h;cases h
theorem IB(h:nq S=!(v,k)):∃d,fz S.a S.ss (S.ds[k]).plan (cZ S k)=!v/\∃x b,fV S=x::b/\gq b x=[v,(k:Int),(cZ S k:Int)]:=by
 unfold nq at h;cases c:fV S with
 |nil=>rw[c]at h;cases h
 |cons x b=>
  rw[c]at h;have f:gq b x∈fV S:=by
   rw[c];rcases zc b x with e |e
   .rw[e];exact q0h
   .exact bH _ e
  obtain⟨i,j,d,g,e⟩:=IA f;simp only[e]at h;obtain⟨rfl,rfl⟩:=h;exact#[d,g,x,b,rfl,e]
def nt(S:Hl)(r m:Int):Hl×PyData:=match nq S with
 |none=>(S,.tuple [.str "idle",.none])
 |some (v,k)=>if m<v then(S,.tuple [.str "idle",.int v]) else
  (match S.ds[k]? with
  |some d=>(iN S #[m,r,if oU S.a S.ss d (cZ S k) m=true then .left else .begun,k,cZ S k],.tuple [.str (bY (if oU S.a S.ss d (cZ S k) m=true then .left else .begun)),bS k,bS (cZ S k)])
  |none=>(S,.none))
theorem Wx(ok:bM S)(j:S.rows.length<1000000)(l:S.words.length<1000000):mW C [.own true (hB C S),.dat (.int r),.dat (.int m)]=.rt (.dat (nt S r m).2) [hB C (nt S r m).1]:=by
 have b:=Wv (C:=C) ok;unfold nt;cases n:nq S with
 |none=>rw[Ww n]at b;simp[mW,qZ,dc,b,oV]
 |some p=>
  obtain⟨v,k⟩:=p;obtain⟨g,q,x,t,s,e⟩:=IB n;rw[s,oV,e]at b;by_cases h:m<v
  .simp[mW,qZ,dc,b,h]
  .have lo:=Wm (now:=m) ok.z.len (ok.pl _ (q1x g)) #[v,q];simp only[q0c g];rw[if_neg h];cases o:oU S.a S.ss S.ds[k] (cZ S k) m with
   |true=>rw[o]at lo;simp[mW,qZ,dc,bX,cL,b,oW,vr g,lo,h,(rD (C:=C) (S:=S) (r:=#[m,r,.left,k,cZ S k]) j l ok.nd (by rw[ok.sl];exact g))]
   |false=>rw[o]at lo;simp[mW,qZ,dc,bX,cL,b,oW,vr g,lo,h,(rD (C:=C) (S:=S) (r:=#[m,r,.begun,k,cZ S k]) j l ok.nd (by rw[ok.sl];exact g))]
def nu(S:Hl)(r m:Int)(d c:Nat):Hl×PyData:=match S.ds[d]? with
 |some x=>(iN S #[m,r,if x.again=true then .begun else .unsure,d,c],.tuple [.str (bY (if x.again=true then .begun else .unsure)),bS d,bS c])
 |none=>(S,.none)
theorem Wy(ok:bM S)(f:S.rows.length<1000000)(g:S.words.length<1000000)(e:S.begun=!(d,c,h)):qU C [.own true (hB C S),.dat (.int r),.dat (.int m)]=.rt (.dat (nu S r m d c).2) [hB C (nu S r m d c).1]:=by
 have sz:1000000<sizeLine:=by decide
 have hd:=ok.bg d c h e;unfold nu;simp only[q0c hd];cases i:(S.ds[d]).again with
 |true=>simp[qU,yB,bX,cL,e,ie,oW,vr hd,i,(rD (C:=C) (S:=S) (r:=#[m,r,.begun,d,c]) f g ok.nd (by rw[ok.sl];exact hd))]
 |false=>simp[qU,yB,bX,cL,e,ie,oW,vr hd,i,(rD (C:=C) (S:=S) (r:=#[m,r,.unsure,d,c]) f g ok.nd (by rw[ok.sl];exact hd))]
theorem bM.last(ok:bM S)(x):bM { S with last:=x }:=#[ok.z,ok.dl,ok.pl,ok.sl,ok.nd,ok.bg]
def oX(S:Hl)(r m:Int):Hl×PyData:=match S.begun with
 |some (d,c,h)=>if h=S.holds then({ S with last:=!m },.tuple [.str "busy",bS d,bS c]) else nu { S with last:=!m } r m d c
 |none=>nt { S with last:=!m } r m
theorem Wz(ok:bM S)(f:S.rows.length<1000000)(g:S.words.length<1000000)(b:fc C [.own true (hB C S),.dat (.int r),.dat (.int m)]=.rt (.dat .none) [hB C S]):jP C [.own true (hB C S),.dat (.int r),.dat (.int m)]=.rt (.dat (oX S r m).2) [hB C (oX S r m).1]:=by
 have a:=za (C:=C) (S:={ S with last:=!m });unfold nn at a;unfold oX;cases hb:S.begun with
 |none=>have i:=Wx (C:=C) (S:={ S with last:=!m }) (r:=r) (m:=m) (ok.last _) f g;simp only[hb]at a i ⊢;simp[jP,ra,bX,dc,cL,b,cX,gM,gL,a,hb,ie,i]
 |some p=>
  obtain⟨d,c,h⟩:=p;have j:=Wy (C:=C) (S:={ S with last:=!m }) (r:=r) (m:=m) (ok.last _) f g hb;simp only[hb]at a j ⊢
  by_cases e:h=S.holds
  .rw[if_pos e];rw[decide_eq_true e]at a;simp[jP,ra,bX,dc,cL,b,cX,gM,gL,a,hb,ie]
  .rw[if_neg e];rw[decide_eq_false e]at a;simp[jP,ra,bX,dc,cL,b,cX,gM,gL,a,hb,ie,j]
theorem WA(b:fc C [.own true (hB C S),.dat (.int r),.dat (.int m)]=.rt (.dat .none) [hB C S])(c:nn S=false):jO C [.own true (hB C S),.dat (.int r),.dat (.int m)]=.ex "Nothing" [hB C S]:=by have a:=za (C:=C) (S:=S);rw[c]at a;simp[jO,uW,bX,dc,cL,b,a]
theorem WB(ok:bM S)(f:S.rows.length<1000000)(g:S.words.length<1000000)(h:fc C [.own true (hB C S),.dat (.int r),.dat (.int m)]=.rt (.dat .none) [hB C S])(e:S.begun=!(d,c,S.holds)):jO C [.own true (hB C S),.dat (.int r),.dat (.int m)]=.rt (.dat (.tuple [.str "done",bS d,bS c])) [hB C (iN { S with last:=!m } #[m,r,.done,d,c])]:=by
 have b:=za (C:=C) (S:=S);unfold nn at b;rw[e]at b;have a:=(rD (C:=C) (S:={ S with last:=!m }) (r:=#[m,r,.done,d,c]) f g ok.nd (by rw[ok.sl];exact (ok.bg d c _ e)));simp only[e]at a;simp[jO,uW,bX,dc,cL,h,b,cX,gM,gL,e,ie,a]
@[simp]theorem v_:cK "tuple" "str" = !false:=by decide
@[simp]theorem w_:cK "tuple" "bool" = !false:=by decide
@[simp]theorem x_:cK "tuple" "list" = !false:=by decide
@[simp]theorem y_:cK "list" "str" = !false:=by decide
@[simp]theorem z_:cK "list" "bool" = !false:=by decide
@[simp]theorem A_:cK "list" "list" = !true:=by decide
@[simp]theorem B_:cK "NoneType" "str" = !false:=by decide
@[simp]theorem C_:cK "NoneType" "bool" = !false:=by decide
@[simp]theorem E_:cK "NoneType" "list" = !false:=by decide
@[simp]theorem F_:cK "int" "str" = !false:=by decide
@[simp]theorem G_:cK "int" "list" = !false:=by decide
@[simp]theorem H_:cK "bool" "str" = !false:=by decide
@[simp]theorem I_:cK "bool" "list" = !false:=by decide
@[simp]theorem J_:cK "str" "bool" = !false:=by decide
@[simp]theorem K_:cK "str" "list" = !false:=by decide
def lM:jr->Prop
 |.within n=>0<=n/\n<=999
 |_=>True
theorem WC(ok:lM x):oN [.dat (ry x)]=.rt (.dat (.bool true)) []:=by
 cases x with
 |all=>simp[oN,uH,cm lL lL]
 |last=>simp[oN,uH,cm jT lL,cm jT jT,yW,yX]
 |within n=>
  have a:(("within")==("within"))=true:=by decide +kernel
  simp[oN,uH,ly yV yV,a,ls (d:=.int n) rfl,dk,ok.1,ok.2]
theorem WD(a:jM d.plan)(b:lM d.late):uO [.dat (dU d)]=.rt (.dat (.bool true)) []:=by simp[uO,Fv,ro,gD,(VF a),(WC b)]
theorem IC:∀(b:List cj)  a (U:ak),(∃x,U=[x])->(∀d∈b,jM d.plan/\lM d.late)->a.length+b.length<=sizeLine->bB (aA 0) cW uP (b.map dU) a U=some (a++(b.map λ_=>PyData.bool true))
 |[],a,U,_,_,_=>by simp[bB]
 |d::b,a,U,⟨x,c⟩,h,e=>by
  subst c;simp only[q0i]at e;have hd:=h d q0h;have g:uP [!.dat (dU d)]=.ok (.bool true) [!.dat (dU d)]:=by simp[uP,WD hd.1 hd.2]
  rw[q0d,bB];simp[cW,g,show a.length<sizeLine by lia,(IC b (a++[.bool true]) [!.dat (dU d)] #[_,rfl] (λx c=>h x (bH _ c)) (by simp;lia))]
theorem ID:∀n,bools? (List.replicate n (PyData.bool true))=some (List.replicate n true)
 |0=>rfl
 |n+1=>by rw[q1D,bools?,ID n];rfl
theorem WE(b:ds.length<=6)(h:∀d∈ds,jM d.plan/\lM d.late):mV [.dat (dh ds)]=.rt (.dat .none) []:=by
 have sz:1000<sizeLine:=by decide
 have g:=IC ds [] [none] #[_,rfl] h (by simp;lia);rw[q0y,q1W]at g;have a:nQ [.list (List.replicate ds.length (PyData.bool true))]=!.bool true:=by simp[nQ,ID]
 unfold dh;simp[mV,FF,yD,Fy,g,a,show ¬ (6:Int)<ds.length by lia,show ds.length<=sizeLine by lia]
theorem WF(h:∀r∈L,r≠[]):xN [.list (L.map ai)]=!.list ((TS.sortR L).map ai):=by
 unfold xN;dsimp only;cases L with
 |nil=>unfold mE;simp[fu,fx,TS.sortR]
 |cons r L=>
  have e:fu ((r::L).map ai)=none:=by rw[q0d];rfl
  have a:((r::L).all λr=>not r.isEmpty)=true:=by
   rw[q0O];intro x b;have:=h x b;cases x with
   |nil=>exact absurd rfl this
   |cons _ _=>rfl
  unfold mE;rw[e,rF];simp only[a,if_true,q1A]
theorem IE(l:List Int):PyData.canLayAll0 (l.map PyData.int)=true:=by induction l with |nil=>rfl |cons x r a=>simpa[PyData.canLayAll0,PyData.canLay0] using a
theorem IF(l:List Int):PyData.depthAll (l.map PyData.int)=0:=by induction l with |nil=>rfl |cons x r a=>simpa[PyData.depthAll,PyData.depth] using a
theorem WG(L:List (List Int)):PyData.canLayAll0 (L.map ai)=true:=by induction L with |nil=>rfl |cons x r a=>simpa[PyData.canLayAll0,PyData.canLay0,IE] using a
theorem WH(L:List (List Int)):PyData.depthAll (L.map ai)<=1:=by induction L with |nil=>exact q0L _ |cons x r a=>simp[PyData.depthAll,PyData.depth,IF];lia
theorem WI(r):SeqAt.shaped (ai r)=true:=by unfold SeqAt.shaped;simp[PyData.canLay0,PyData.depth,IE,IF]
theorem vt(L:List (List Int)):SeqAt.shaped (.list (L.map ai))=true:=by have:=WH L;unfold SeqAt.shaped;rw[show PyData.canLay0 (.list (L.map ai))=true by simp[PyData.canLay0,WG],Bool.true_and,decide_eq_true_eq,PyData.depth];lia
inductive Ro where
 |take (r m t:Int) |give (r m:Int)
theorem ig:PyData.strOk "take" = true:=by decide +kernel
theorem ij:PyData.strOk "give" = true:=by decide +kernel
theorem ze:(("take":Str)==("take":Str))=true:=by decide +kernel
theorem vu:(("give":Str)==("take":Str))=false:=by decide +kernel
theorem zf:(("give":Str)==("give":Str))=true:=by decide +kernel
abbrev Ho:=Int×Int×Int
structure Wk where
 G:List Ho
 who:Option Int
 til:Int
theorem vv(a:PyData.strOk x=true)(b:PyData.strOk w=true)(e:xO [("take",4),("give",3),("step",3),("finish",3)] (.str w)=!.int n):uM [!.dat (.str w),!.dat (.tuple (.str x::rest))]=.ok (.bool (decide (((rest.length+1:Nat):Int)=n)&&(x==w))) [!.dat (.str w),!.dat (.tuple (.str x::rest))]:=by simp[uM,e,(ly a b)]
theorem gx:PyData.strOk "step" = true:=by decide +kernel
theorem jU:PyData.strOk "finish" = true:=by decide +kernel
theorem WJ:(("take":Str)==("give":Str))=false:=by decide +kernel
theorem WK:(("take":Str)==("step":Str))=false:=by decide +kernel
theorem WL:(("take":Str)==("finish":Str))=false:=by decide +kernel
theorem WM:(("give":Str)==("step":Str))=false:=by decide +kernel
theorem WN:(("give":Str)==("finish":Str))=false:=by decide +kernel
theorem oY:(("step":Str)==("take":Str))=false:=by decide +kernel
theorem zg:(("step":Str)==("give":Str))=false:=by decide +kernel
theorem zh:(("step":Str)==("step":Str))=true:=by decide +kernel
theorem WO:(("step":Str)==("finish":Str))=false:=by decide +kernel
theorem vA(a:PyData.strOk x=true):bB (aA 0) cW uM (fy ["take","give","step","finish"]) [] [none,!.dat (.tuple (.str x::rest))]=![.bool (decide (((rest.length+1:Nat):Int)=4)&&(x=="take")),.bool (decide (((rest.length+1:Nat):Int)=3)&&(x=="give")),.bool (decide (((rest.length+1:Nat):Int)=3)&&(x=="step")),.bool (decide (((rest.length+1:Nat):Int)=3)&&(x=="finish"))]:=by
 have sz:1000<sizeLine:=by decide
 have e:fy ["take","give","step","finish"]=[.str "take",.str "give",.str "step",.str "finish"]:=rfl;rw[e];simp only[bB,aA,cW,q0H,(vv (rest:=rest) (n:=4) a ig 'g'),(vv (w:="give") (n:=3) a ij 'g'),(vv (n:=3) a gx 'g'),(vv (n:=3) a jU 'g'),q0y,q1O,q04,q0i];rw[if_pos 'b',if_pos 'b',if_pos 'b',if_pos 'b']
theorem WP:iK [.dat (.tuple [.str "take",a,b,c])]=.rt (.dat .none) []:=by simp[iK,qV,(vA ig),mG,bools?]
theorem IG:iK [.dat (.tuple [.str "give",a,b])]=.rt (.dat .none) []:=by simp[iK,qV,(vA ij),mG,bools?]
theorem IH:iK [.dat (.tuple [.str "step",a,b])]=.rt (.dat .none) []:=by simp[iK,qV,(vA gx),mG,bools?]
theorem WQ(h:mT C [.own true (hB C S),.dat r,.dat m,.dat t]=.rt (.dat d) [hB C S']):fe C [.own true (hB C S),.dat (.tuple [.str "take",r,m,t])]=.rt (.dat d) [hB C S']:=by simp[fe,li,cm ig ig,bX,cL,h,nk]
theorem WR(h:lh C [.own true (hB C S),.dat r,.dat m]=.rt (.dat d) [hB C S']):fe C [.own true (hB C S),.dat (.tuple [.str "give",r,m])]=.rt (.dat d) [hB C S']:=by simp[fe,li,cm ij ig,vu,cm ij ij,zf,bX,cL,h]
theorem WS(h:lh C [.own true (hB C S),.dat r,.dat m]=.ex x [hB C S]):fe C [.own true (hB C S),.dat (.tuple [.str "give",r,m])]=.ex x [hB C S]:=by simp[fe,li,cm ij ig,vu,cm ij ij,zf,bX,cL,h]
theorem WT(h:jP C [.own true (hB C S),.dat r,.dat m]=.rt (.dat d) [hB C S']):fe C [.own true (hB C S),.dat (.tuple [.str "step",r,m])]=.rt (.dat d) [hB C S']:=by simp[fe,li,cm gx ig,oY,cm gx ij,zg,cm gx gx,zh,bX,cL,h]
theorem WU(h:jP C [.own true (hB C S),.dat r,.dat m]=.ex x [hB C S]):fe C [.own true (hB C S),.dat (.tuple [.str "step",r,m])]=.ex x [hB C S]:=by simp[fe,li,cm gx ig,oY,cm gx ij,zg,cm gx gx,zh,bX,cL,h]
theorem vB(a:iK [.dat c]=.rt (.dat .none) [])(h:fe C [.own true (hB C S),.dat c]=.rt (.dat d) [hB C S']):mY C [.own true (hB C S),.dat c]=.rt (.dat d) [hB C S']:=by simp[mY,yG,a,qa,h]
theorem vC(a:iK [.dat c]=.rt (.dat .none) [])(h:fe C [.own true (hB C S),.dat c]=.ex x [hB C S])(b:x∈oF):mY C [.own true (hB C S),.dat c]=.rt (.dat (.str "refused")) [hB C S]:=by simp[mY,yG,a,qa,h,b]
theorem zi:("NotHolder":Str)∈oF:=by decide +kernel
theorem WV(h:fc C [.own true (hB C S),.dat (.int r),.dat (.int m)]=.rt (.dat .none) [hB C S]):lh C [.own true (hB C S),.dat (.int r),.dat (.int m)]=.rt (.dat .none) [hB C { S with last:=!m,holder:=none }]:=by simp[lh,yF,bX,cL,h,cX,gM,gL]
theorem WW(h:fc C [.own true (hB C S),.dat (.int r),.dat (.int m)]=.ex c [hB C S]):lh C [.own true (hB C S),.dat (.int r),.dat (.int m)]=.ex c [hB C S]:=by simp[lh,yF,bX,cL,h]
inductive Ca where
 |take (r m t:Int) |give (r m:Int) |step (r m:Int) |finish (r m:Int)
noncomputable def Ca.mo:Ca->Int
 |.take _ m _=>m
 |.give _ m=>m
 |.step _ m=>m
 |.finish _ m=>m
noncomputable def Ca.ru:Ca->Int
 |.take r _ _=>r
 |.give r _=>r
 |.step r _=>r
 |.finish r _=>r
noncomputable def cY:Ca->PyData
 |.take r m t=>.tuple [.str "take",.int r,.int m,.int t]
 |.give r m=>.tuple [.str "give",.int r,.int m]
 |.step r m=>.tuple [.str "step",.int r,.int m]
 |.finish r m=>.tuple [.str "finish",.int r,.int m]
structure ik (c:Ca) (now:Int):Prop where
 r:0<=c.ru/\c.ru<=3
 m:now<=c.mo/\c.mo<=now+12
 t:∀r m t,c=.take r m t->1<=t/\t<=99
abbrev lN(l:List bi)(d c:Nat):Prop:=∃x∈l,x.wd=.begun/\x.dd=d/\x.ct=c
def nv:List bi->List bi->Prop
 |_,[]=>True
 |pre,r::a=>(r.wd=.done->lN pre r.dd r.ct)/\nv (pre++[r]) a
theorem II:∀a pre  r,nv pre a->(r.wd=.done->lN (pre++a) r.dd r.ct)->nv pre (a++[r])
 |[],pre,r,_,h=>#[by rw[q0G]at h;exact h,trivial]
 |x::a,pre,r,⟨h1,h2⟩,h=>#[h1,II a (pre++[x]) r h2 (by rw[q0x];exact h)]
structure Ru (S:Hl) (m:Int) (n:Nat):Prop where
 ok:bM S
 rl:S.rows.length<=n
 wl:S.words.length<=n
 la:∀l,S.last=!l->l<=m
 dr:∀x∈S.rows,∃h:x.dd<S.ds.length,∃v,fz S.a S.ss (S.ds[x.dd]).plan x.ct=!v/\v<=x.mo/\x.mo<=m
 bg:∀d c k,S.begun=!(d,c,k)->∃h:d<S.ds.length,∃v,fz S.a S.ss (S.ds[d]).plan c=!v/\v<=m
 bb:∀d c k,S.begun=!(d,c,k)->lN S.rows d c
 dn:nv [] S.rows
theorem bM.addQ(ok:bM S)(h:r.dd<S.ds.length):bM (iN S r):=by
 refine#[ok.z,ok.dl,ok.pl,?_,Wo ok.nd,?_]
 .show(if r.wd=.begun then S.settled else S.settled.set r.dd (r.ct+1)).length=S.ds.length;split
  .exact ok.sl
  .rw[q0C];exact ok.sl
 .intro d c k e;have a:(if r.wd=.begun then some (r.dd,r.ct,S.holds) else none)=!(d,c,k):=e;split at a
  .cases a;exact h
  .cases a
theorem Ru.add(p:Ru S m n)(h)(g:fz S.a S.ss (S.ds[r.dd]).plan r.ct=!v)(j:v<=r.mo)(l:r.mo<=m)(o:r.wd=.done->lN S.rows r.dd r.ct):Ru (iN S r) m (n+1):=by
 refine#[p.ok.addQ h,?_,?_,p.la,?_,?_,?_,II _ _ _ p.dn o]
 .have:=p.rl;show(S.rows++[r]).length<=n+1;simp;lia
 .have:=p.wl;have:=Wp (r.dd,r.ct) r.wd S.words;show(gU S.words (r.dd,r.ct) r.wd).length<=n+1;lia
 .intro x f;rcases q0f.mp f with f |f
  .exact p.dr x f
  .rw[q0o.mp f];exact#[h,v,g,j,l]
 .intro d c k e;have b:(if r.wd=.begun then some (r.dd,r.ct,S.holds) else none)=!(d,c,k):=e;split at b
  .cases b;exact#[h,v,g,by lia]
  .cases b
 .intro d c k e;have b:(if r.wd=.begun then some (r.dd,r.ct,S.holds) else none)=!(d,c,k):=e;split at b
  .rename_i i;cases b;exact#[r,bq _ q0h,i,rfl,rfl]
  .cases b
theorem Ru.mono(p:Ru S m n)(h:m<=f)(i:n<=g):Ru S f g:=
 #[p.ok,q0N p.rl i,q0N p.wl i,λl e=>q25 (p.la l e) h,λx j=>let⟨q,v,a,b,o⟩:=p.dr x j;#[q,v,a,b,q25 o h],λd c k e=>let⟨q,v,a,b⟩:=p.bg d c k e;#[q,v,a,q25 b h],p.bb,p.dn]
theorem Ru.last(p:Ru S m n)(h:m<=a):Ru { S with last:=!a } a n:=
 let q:=p.mono h (aP _);#[q.ok.last _,q.rl,q.wl,λl e=>by cases e;lia,q.dr,q.bg,q.bb,q.dn]
theorem Ru.hold(p:Ru S m n)(h:m<=a):Ru { S with last:=!a,holder:=w,til:=u,holds:=k } a n:=
 let q:=p.mono h (aP _);#[#[q.ok.z,q.ok.dl,q.ok.pl,q.ok.sl,q.ok.nd,q.ok.bg],q.rl,q.wl,λl e=>by cases e;lia,q.dr,q.bg,q.bb,q.dn]
theorem WX(z:mL a f)(g:b.length<=6)(hd:∀d∈b,ni d.plan):Ru (jS a f b) 0 0:=
 #[#[z,g,hd,by simp[jS],by simp[jS],λd c h e=>(by cases e)],by simp[jS],by simp[jS],λl e=>(by cases e),by simp[jS],λd c k e=>(by cases e),λd c k e=>(by cases e),trivial]
theorem WY(p:Ru S m n)(h:m<=f):Ru (oX S r f).1 f (n+1):=by
 have q:=p.last h;obtain⟨b,i⟩:∃b:Hl,b = { S with last:=!f }:=#[_,rfl]
 rw[<-i]at q;have o:b.begun=S.begun:=by rw[i]
 have s:b.holds=S.holds:=by rw[i]
 have e:oX S r f = match S.begun with
   |some (d,c,k)=>if k=S.holds then(b,.tuple [.str "busy",bS d,bS c]) else nu b r f d c
   |none=>nt b r f:=by rw[i];rfl
 rw[e,<-o,<-s];cases hb:b.begun with
 |some x=>
  obtain⟨d,c,k⟩:=x;simp only
  by_cases g:k=b.holds
  .rw[if_pos g];exact q.mono (q1o _) 'b'
  .rw[if_neg g];obtain⟨hd,v,j,l⟩:=q.bg d c k hb;unfold nu;rw[q0c hd];exact q.add hd j l (q1o _) (λh=>by revert h;split<;>intro h<;>cases h)
 |none=>
  unfold nt;cases t:nq b with
  |none=>exact q.mono (q1o _) 'b'
  |some x=>
   obtain⟨v,k⟩:=x;simp only
   by_cases j:f<v
   .rw[if_pos j];exact q.mono (q1o _) 'b'
   .rw[if_neg j];obtain⟨g,u,_⟩:=IB t;rw[q0c g];exact q.add g u 'b' (q1o _) (λh=>by revert h;split<;>intro h<;>cases h)
theorem rG:(("finish":Str)==("take":Str))=false:=by decide +kernel
theorem zj:(("finish":Str)==("give":Str))=false:=by decide +kernel
theorem zk:(("finish":Str)==("step":Str))=false:=by decide +kernel
theorem WZ:(("finish":Str)==("finish":Str))=true:=by decide +kernel
theorem zl:iK [.dat (.tuple [.str "finish",a,b])]=.rt (.dat .none) []:=by simp[iK,qV,(vA jU),mG,bools?]
theorem Xa(h:jO C [.own true (hB C S),.dat r,.dat m]=.rt (.dat d) [hB C S']):fe C [.own true (hB C S),.dat (.tuple [.str "finish",r,m])]=.rt (.dat d) [hB C S']:=by simp[fe,li,cm jU ig,rG,cm jU ij,zj,cm jU gx,zk,bX,cL,h]
theorem IJ(h:jO C [.own true (hB C S),.dat r,.dat m]=.ex x [hB C S]):fe C [.own true (hB C S),.dat (.tuple [.str "finish",r,m])]=.ex x [hB C S]:=by simp[fe,li,cm jU ig,rG,cm jU ij,zj,cm jU gx,zk,bX,cL,h]
theorem Xb:("Nothing":Str)∈oF:=by decide +kernel
theorem Xc(p:Ru S m n)(B:n<900)(f:ik c m)(D:0<=m/\m<=9000):∃d g,mY C [.own true (hB C S),.dat (cY c)]=.rt (.dat d) [hB C g]/\Ru g c.mo (n+1)/\g.a=S.a/\g.ss=S.ss/\g.ds=S.ds:=by
 have l1:=p.rl;have l2:=p.wl;have E:=by have:=f.m;lia
 have i:jN C [.own true (hB C S),.dat (.int c.ru),.dat (.int c.mo)]=.rt (.dat .none) [hB C S]:=VV rfl (by have:=f.r;simp[dk];lia) (by simp[dk];lia) (by
  cases j:S.last with
  |none=>unfold vn;rw[j]
  |some l=>
   have:=p.la l j;unfold vn;rw[j];exact decide_eq_false 'b')
 have hd:∀r b,c.ru=r->c.mo=b->(fc C [.own true (hB C S),.dat (.int r),.dat (.int b)]=.rt (.dat .none) [hB C S])\/(fc C [.own true (hB C S),.dat (.int r),.dat (.int b)]=.ex "NotHolder" [hB C S]):=λr b s w=>by
  rw[s,w]at i;cases hb:(iM S b&&decide (S.holder=!r)) with
  |true=>rw[q0I]at hb;exact .inl (VX i hb.1 (of_decide_eq_true hb.2))
  |false=>exact .inr (VW i hb)
 have same:Ru S c.mo (n+1):=p.mono f.m.1 'b';cases c with
 |take r b t=>
  have G:=f.t r b t rfl;refine#[_,_,vB WP (WQ (VY i (by simp[dk];lia))),?_];unfold vp;split
  .exact#[(p.hold f.m.1).mono (q1o _) 'b',rfl,rfl,rfl]
  .split
   .exact#[(p.hold f.m.1).mono (q1o _) 'b',rfl,rfl,rfl]
   .exact#[(p.last f.m.1).mono (q1o _) 'b',rfl,rfl,rfl]
 |give r b=>
  rcases hd r b rfl rfl with h |h
  .exact#[_,_,vB IG (WR (WV h)),(p.hold f.m.1).mono (q1o _) 'b',rfl,rfl,rfl]
  .exact#[_,_,vC IG (WS (WW h)) zi,same,rfl,rfl,rfl]
 |step r b=>
  rcases hd r b rfl rfl with h |h
  .refine#[_,_,vB IH (WT (Wz p.ok 'b' 'b' h)),WY p f.m.1,?_];unfold oX;split
   .split
    .exact#[rfl,rfl,rfl]
    .unfold nu;split<;>exact#[rfl,rfl,rfl]
   .unfold nt;split
    .exact#[rfl,rfl,rfl]
    .split
     .exact#[rfl,rfl,rfl]
     .split<;>exact#[rfl,rfl,rfl]
  .exact#[_,_,vC IH (WU (VZ h)) zi,same,rfl,rfl,rfl]
 |finish r b=>
  rcases hd r b rfl rfl with h |h
  .cases hb:nn S with
   |false=>exact#[_,_,vC zl (IJ (WA h hb)) Xb,same,rfl,rfl,rfl]
   |true=>
    obtain⟨d,c,e⟩:∃d c,S.begun=!(d,c,S.holds):=by
     unfold nn at hb;cases q:S.begun with
     |none=>rw[q]at hb;cases hb
     |some x=>obtain⟨d,c,k⟩:=x;rw[q]at hb;exact#[d,c,by rw[of_decide_eq_true hb]]
    obtain⟨A,v,y,z⟩:=p.bg d c _ e;have o:=f.m.1;simp only[Ca.mo]at o;exact#[_,_,vB zl (Xa (WB p.ok 'b' 'b' h e)),(p.last f.m.1).add A y 'b' (q1o _) (λ_=>p.bb d c _ e),rfl,rfl,rfl]
  .exact#[_,_,vC zl (IJ (Wa h)) zi,same,rfl,rfl,rfl]
def ny:Int->List Ca->Prop
 |_,[]=>True
 |l,c::a=>ik c l/\ny c.mo a
theorem IK:∀b  l  S  n  f  x,ny l b->0<=l->l+12 * b.length<=9000->n+b.length<900->f.length+b.length<1000->Ru S l n->∃g i h y,kC (aA 0) cW (uZ C) (b.map cY) f [x,!.own true (hB C S)]=!(f++h,[y,!.own true (hB C g)])/\h.length=b.length/\Ru g i (n+b.length)/\l<=i/\i<=l+12 * b.length/\g.a=S.a/\g.ss=S.ss/\g.ds=S.ds
 |[],l,S,n,f,x,_,_,_,_,_,p=>#[S,l,[],x,by simp[kC],rfl,p,by lia,by simp,rfl,rfl,rfl]
 |c::b,l,S,n,f,x,⟨ok,up⟩,o,h1,h2,h3,p=>by
  have sz:1000<sizeLine:=by decide
  simp only[q0i]at h1 h2 h3;obtain⟨d,j,k,q,r,s,t⟩:=Xc (C:=C) p 'b' ok #[o,by lia];have G:=ok.m;obtain⟨u,v,h,y,w,z,A,H,I,B,D,E⟩:=IK (C:=C) b c.mo j (n+1) (f++[d]) (!.dat (cY c)) up 'b' 'b' 'b' (by simp;lia) q;refine#[u,v,d::h,y,?_,by simp[z],by rw[show n+(c::b).length=n+1+b.length by simp;lia];exact A,by lia,by simp only[q0i];lia,by rw[B,r],by rw[D,s],by rw[E,t]];have e:uZ C [!.dat (cY c),!.own true (hB C S)]=.ok d [!.dat (cY c),!.own true (hB C j)]:=by generalize cY c=J at k;simp[uZ,k]
  rw[q0d,kC];simp only[aA,q0H,cW,e];rw[if_pos 'b',w];simp
theorem Xd(z:mL a c)(g:b.length<=6)(hd:∀d∈b,ni d.plan)(h:mR [.dat (cO a c)]=.rt (.dat .none) [])(j:mV [.dat (dh b)]=.rt (.dat .none) [])(up:ny 0 cs)(o:cs.length<250) :
  ∃S f m,va C [.dat (cO a c),.dat (dh b),.dat (.list (cs.map cY))]=.rt (.own false (.pr C (aq S) (.list f))) []/\Ru S m cs.length/\m<=12 * cs.length/\S.a=a/\S.ss=c/\S.ds=b:=by
 have sz:1000<sizeLine:=by decide
 have i:=Wc (C:=C) h j g;obtain⟨S,m,f,y,e,q,p,r,s,k,l,n⟩:=IK (C:=C) cs 0 (jS a c b) 0 [] none up 'b' 'b' 'b' (by simp;lia) (WX z g hd);rw[q2r]at p;refine#[S,f,m,?_,p,by lia,k,l,n];rw[q0y]at e;generalize cO a c=t at *;generalize dh b=dd at *;generalize cs.map cY=u at *;simp[va,FK,xy,qj,i,oC,qF,ca,tS,tR,e,show f.length<=sizeLine by lia]
theorem Xe(b:ns.length<=63)(w:t.length<=700)(g:0<wd/\wd<=10000)(y:ds.length<100) :
  ∃d t' h i j,jM d.plan/\lM d.late/\t'.length<=t.length+7/\uU [!.scr ns,!.own true (.l t),x2,!.dat (.int wd),!.dat (.tuple (ds.map dU)),x5,x6,x7,x8]=.nx [!.scr ns,!.own true (.l t'),x2,!.dat (.int wd),!.dat (.tuple ((ds++[d]).map dU)),x5,h,i,j]:=by
 have sz:1000<sizeLine:=by decide
 obtain⟨u,z,A,h1⟩:=gu (ns:=ns) (t:=t) (many:=9) b 'b' 'b';obtain⟨v,a,h3⟩:=ng (ns:=ns) (t:=t++[.int 0]) (ds:=[.str "all",.str "all",.str "last",.tuple [.str "within",.int u]]) b (by simp;lia) 'c' 'c';have:∃x:jr,v=ry x/\lM x:=by
  simp only[q0e,q0p,or_false]at a;rcases a with rfl |rfl |rfl |rfl
  .exact#[.all,rfl,trivial]
  .exact#[.all,rfl,trivial]
  .exact#[.last,rfl,trivial]
  .exact#[.within u,rfl,by lia,by lia]
 obtain⟨x,rfl,m⟩:=this;obtain⟨k,B,C,c⟩:=gu (ns:=ns) (t:=t++[.int 0]++[.int 0]) (many:=2) b (by simp;lia) 'b';obtain⟨p,n,o,_,q,f⟩:=VO (ns:=ns) (t:=t++[.int 0]++[.int 0]++[.int 0]) (wd:=wd) b (by simp;lia) g;simp only[q0u,q0i,q04]at q;simp only[q0x,q1O,q0y]at h3 f c;refine#[#[p,x,decide (k=0)],n,!.dat (.int u),!.dat (ry x),!.dat (.bool (decide (k=0))),o,m,by lia,?_];generalize r:nh p=P at *;generalize s:ry x=L at *;have e:dU #[p,x,decide (k=0)]=.tuple [P,L,.bool (decide (k=0))]:=by unfold dU;rw[r,s]
 rw[q1k,q2t,e];simp[uU,h1,h3,f,c,lu,show ds.length+1<=sizeLine by lia]
theorem IL(h:ns.length<=63)(j:0<wd/\wd<=10000):∀n  i {t}{es}{x5 x6 x7 x8},t.length+7 * n<=700->es.length+n<100->∃(a:List cj) (t':List PyData) (k b c f:Option af),(∀d∈a,jM d.plan/\lM d.late)/\a.length=n/\t'.length<=t.length+7 * n/\
   cw (aA 5) uU (L3.intsFrom i n) [!.scr ns,!.own true (.l t),x2,!.dat (.int wd),!.dat (.tuple (es.map dU)),x5,x6,x7,x8]=.nx [!.scr ns,!.own true (.l t'),x2,!.dat (.int wd),!.dat (.tuple ((es++a).map dU)),k,b,c,f]
 |0,i,t,es,x5,x6,x7,x8,_,_=>#[[],t,x5,x6,x7,x8,by simp,rfl,by lia,by simp[L3.intsFrom,cw]]
 |n+1,i,t,es,x5,x6,x7,x8,z,A=>by
  obtain⟨d,m,b,c,f,o,p,l1,e⟩:=Xe (t:=t) (ds:=es) (x2:=x2) (x5:=!.dat (.int i)) (x6:=x6) (x7:=x7) (x8:=x8) h 'b' j 'b';obtain⟨a,q,r,s,u,v,h2,w,l2,y⟩:=IL h j n (i+1) (t:=m) (es:=es++[d]) (x5:=!.dat (.int i)) (x6:=b) (x7:=c) (x8:=f) 'b' (by simp;lia);refine#[d::a,q,r,s,u,v,λx g=>?_,by simp[w],by lia,?_]
  .rcases q0e.mp g with rfl |g
   .exact#[o,p]
   .exact h2 x g
  .rw[show es++d::a=es++[d]++a by simp,<-y,rr,cw];simp only[aA,q03,q0H,e]
theorem Xf(b:ns.length<=63)(h:t.length<=600)(i:0<=most/\most<=6)(c:0<wd/\wd<=10000):∃(a:List cj) (t':List PyData),(∀d∈a,jM d.plan/\lM d.late)/\(a.length:Int)<=most/\t'.length<=t.length+50/\uV [.scr ns,.own true (.l t),.dat (.int most),.dat (.int wd)]=.rt (.dat (dh a)) [.l t']:=by
 obtain⟨k,j,m,h2⟩:=gu (t:=t) (many:=most+1) b 'b' 'b';obtain⟨a,f,n,o,p,q,hd,nd,l2,e⟩:=IL (x2:=!.dat (.int most)) b c k.toNat 0 (t:=t++[.int 0]) (es:=[]) (x5:=none) (x6:=none) (x7:=none) (x8:=none) (by simp;lia) (by simp;lia);have g:cp [.int k]=!L3.intsFrom 0 k.toNat:=by simp only[cp];rw[if_pos (by simp;lia)]
 simp only[q0u,q0i,q04]at l2 nd;refine#[a,f,hd,by lia,by lia,?_];rw[q1B,q0y]at e;unfold dh;simp[-cp,uV,FH,h2,g,e]
theorem Xg(n:ns.length<=63)(Z:t.length<=900)(hm:0<=m)(hx:cs.length<100) :
  ∃c t' p s g,ik c m/\t'.length<=t.length+6/\rb C [!.scr ns,!.own true (.l t),x2,x3,x4,!.own false (.l (cs.map cY)),!.dat (.int m),x7,x8,x9,x10,x11,x12]=.nx [!.scr ns,!.own true (.l t'),x2,x3,x4,!.own false (.l ((cs++[c]).map cY)),!.dat (.int c.mo),x7,p,s,g,x11,x12]:=by
 have sz:1000<sizeLine:=by decide
 obtain⟨a,y,h1⟩:=ng (ns:=ns) (t:=t) (ds:=[.int 1,.int 3,.int 12]) n 'b' 'c' 'c';have:∃i:Int,a=.int i/\0<i/\i<=12:=by simp only[q0e,q0p,or_false]at y;rcases y with rfl |rfl |rfl<;>exact#[_,rfl,by lia,by lia]
 obtain⟨i,rfl,D,i2⟩:=this;obtain⟨u,u1,u2,h2⟩:=gu (ns:=ns) (t:=t++[.int 0]) (many:=i) n (by simp;lia) D;obtain⟨b,hb,h3⟩:=ng (ns:=ns) (t:=t++[.int 0]++[.int 0]) (ds:=[.int 1,.int 2,.int 4]) n (by simp;lia) 'c' 'c';have:∃j:Int,b=.int j/\0<j/\j<=4:=by simp only[q0e,q0p,or_false]at hb;rcases hb with rfl |rfl |rfl<;>exact#[_,rfl,by lia,by lia]
 obtain⟨j,rfl,E,j2⟩:=this;obtain⟨r,h,r2,z⟩:=gu (ns:=ns) (t:=t++[.int 0]++[.int 0]++[.int 0]) (many:=j) n (by simp;lia) E;obtain⟨w,A,x⟩:=ng (ns:=ns) (t:=t++[.int 0]++[.int 0]++[.int 0]++[.int 0]) (ds:=[.str "take",.str "step",.str "step",.str "step",.str "finish",.str "finish",.str "give"]) n (by simp;lia) 'c' 'c';obtain⟨v,v1,v2,B⟩:=gu (ns:=ns) (t:=t++[.int 0]++[.int 0]++[.int 0]++[.int 0]++[.int 0]) (many:=30) n (by simp;lia) 'b';simp only[q0x,q1O,q0y]at h1 h2 h3 z x B;have G:(cs.map cY).length<sizeLine:=by rw[q0b];lia
 have H:(7:Nat)<=sizeLine:=by lia
 have fin:∀(d:Str) (c:Ca) (t':List PyData) (q:PyData),w=.str d->cY c=q->c.mo=m+u->ik c m->t'.length<=t.length+6->(mh (aZ (aj (aI false) (xV 9) (xC (.str "take")))) (aj eZ (xV 10) (cn (av (aj dH (xC (.int 1)) (aV (aS eh (ba 0 (ba 1 (aw (xC (.int 30)) aJ)))))) aM))) (xV 10)) [!.scr ns,!.own true (.l (t++[.int 0,.int 0,.int 0,.int 0,.int 0])),x2,x3,x4,!.own false (.l (cs.map cY)),!.dat (.int (m+u)),x7,!.dat (.int r),!.dat (.str d),!.dat (.tuple [.str d,.int r,.int (m+u)]),x11,x12]=.ok q [!.scr ns,!.own true (.l t'),x2,x3,x4,!.own false (.l (cs.map cY)),!.dat (.int (m+u)),x7,!.dat (.int r),!.dat (.str d),!.dat (.tuple [.str d,.int r,.int (m+u)]),x11,x12]->
   ∃c t' p s g,ik c m/\t'.length<=t.length+6/\rb C [!.scr ns,!.own true (.l t),x2,x3,x4,!.own false (.l (cs.map cY)),!.dat (.int m),x7,x8,x9,x10,x11,x12]=.nx [!.scr ns,!.own true (.l t'),x2,x3,x4,!.own false (.l ((cs++[c]).map cY)),!.dat (.int c.mo),x7,p,s,g,x11,x12]:=λd c t' q I J M N O Q=>by
  refine#[c,t',!.dat (.int r),!.dat (.str d),!.dat (.tuple [.str d,.int r,.int (m+u)]),N,O,?_];rw[I]at x;rw[q1k,q2t,J,M];generalize cs.map cY=L at *;unfold rb;have R:∀k:SM,aC (bF (aj dH (xV 6) (aV (aS eh (ba 0 (ba 1 (aw (aV (aS ib (ba 0 (ba 1 (aw (gl (av (xC (.int 1)) (av (xC (.int 3)) (av (xC (.int 12)) aM)))) aJ))))) aJ)))))) (aA 6)) k [!.scr ns,!.own true (.l t),x2,x3,x4,!.own false (.l L),!.dat (.int m),x7,x8,x9,x10,x11,x12]=k [!.scr ns,!.own true (.l (t++[.int 0,.int 0])),x2,x3,x4,!.own false (.l L),!.dat (.int (m+u)),x7,x8,x9,x10,x11,x12]:=λk=>by simp[h1,h2]
  have S:∀k:SM,aC (bF (aV (aS eh (ba 0 (ba 1 (aw (aV (aS ib (ba 0 (ba 1 (aw (gl (av (xC (.int 1)) (av (xC (.int 2)) (av (xC (.int 4)) aM)))) aJ))))) aJ))))) (aA 8)) k [!.scr ns,!.own true (.l (t++[.int 0,.int 0])),x2,x3,x4,!.own false (.l L),!.dat (.int (m+u)),x7,x8,x9,x10,x11,x12]=k [!.scr ns,!.own true (.l (t++[.int 0,.int 0,.int 0,.int 0])),x2,x3,x4,!.own false (.l L),!.dat (.int (m+u)),x7,!.dat (.int r),x9,x10,x11,x12]:=λk=>by simp[h3,z]
  have T:∀k:SM,aC (bF (aV (aS ib (ba 0 (ba 1 (aw (gl (av (xC (.str "take")) (av (xC (.str "step")) (av (xC (.str "step")) (av (xC (.str "step")) (av (xC (.str "finish")) (av (xC (.str "finish")) (av (xC (.str "give")) aM)))))))) aJ))))) (aA 9)) k [!.scr ns,!.own true (.l (t++[.int 0,.int 0,.int 0,.int 0])),x2,x3,x4,!.own false (.l L),!.dat (.int (m+u)),x7,!.dat (.int r),x9,x10,x11,x12]=k [!.scr ns,!.own true (.l (t++[.int 0,.int 0,.int 0,.int 0,.int 0])),x2,x3,x4,!.own false (.l L),!.dat (.int (m+u)),x7,!.dat (.int r),!.dat (.str d),x10,x11,x12]:=λk=>by simp[x,H]
  have U:∀k:SM,aC (bF (cn (av (xV 9) (av (xV 8) (av (xV 6) aM)))) (aA 10)) k [!.scr ns,!.own true (.l (t++[.int 0,.int 0,.int 0,.int 0,.int 0])),x2,x3,x4,!.own false (.l L),!.dat (.int (m+u)),x7,!.dat (.int r),!.dat (.str d),x10,x11,x12]=k [!.scr ns,!.own true (.l (t++[.int 0,.int 0,.int 0,.int 0,.int 0])),x2,x3,x4,!.own false (.l L),!.dat (.int (m+u)),x7,!.dat (.int r),!.dat (.str d),!.dat (.tuple [.str d,.int r,.int (m+u)]),x11,x12]:=λk=>by simp[show(3:Nat)<=sizeLine by lia]
  rw[R,S,T,U];simp only[jf,q2I,q1X,Q,dE,pW,G,if_true,q03,q0H]
 have o:∀d:Str,PyData.strOk d=true->(d==("take":Str))=false->(mh (aZ (aj (aI false) (xV 9) (xC (.str "take")))) (aj eZ (xV 10) (cn (av (aj dH (xC (.int 1)) (aV (aS eh (ba 0 (ba 1 (aw (xC (.int 30)) aJ)))))) aM))) (xV 10)) [!.scr ns,!.own true (.l (t++[.int 0,.int 0,.int 0,.int 0,.int 0])),x2,x3,x4,!.own false (.l (cs.map cY)),!.dat (.int (m+u)),x7,!.dat (.int r),!.dat (.str d),!.dat (.tuple [.str d,.int r,.int (m+u)]),x11,x12]=.ok (.tuple [.str d,.int r,.int (m+u)]) [!.scr ns,!.own true (.l (t++[.int 0,.int 0,.int 0,.int 0,.int 0])),x2,x3,x4,!.own false (.l (cs.map cY)),!.dat (.int (m+u)),x7,!.dat (.int r),!.dat (.str d),!.dat (.tuple [.str d,.int r,.int (m+u)]),x11,x12]:=λd X Y=>by generalize cs.map cY=L;simp[cm X ig,Y]
 simp only[q0e,q0p,or_false]at A;have f:(t++[PyData.int 0,.int 0,.int 0,.int 0,.int 0]).length<=t.length+6:=by simp
 rcases A with rfl |rfl |rfl |rfl |rfl |rfl |rfl
 .refine fin "take" (.take r (m+u) (1+v)) (t++[.int 0,.int 0,.int 0,.int 0,.int 0,.int 0]) _ rfl rfl rfl #[#[h,by show r<=3;lia],#[by show m<=m+u;lia,by show m+u<=m+12;lia],λa b c e=>by cases e;lia] 'c' ?_;generalize cs.map cY=L;simp[cm ig ig,ze,B,cY,show(4:Nat)<=sizeLine by lia]
 .exact fin "step" (.step r (m+u)) _ _ rfl rfl rfl #[#[h,by show r<=3;lia],#[by show m<=m+u;lia,by show m+u<=m+12;lia],λa b c e=>by cases e] f (o "step" gx oY)
 .exact fin "step" (.step r (m+u)) _ _ rfl rfl rfl #[#[h,by show r<=3;lia],#[by show m<=m+u;lia,by show m+u<=m+12;lia],λa b c e=>by cases e] f (o "step" gx oY)
 .exact fin "step" (.step r (m+u)) _ _ rfl rfl rfl #[#[h,by show r<=3;lia],#[by show m<=m+u;lia,by show m+u<=m+12;lia],λa b c e=>by cases e] f (o "step" gx oY)
 .exact fin "finish" (.finish r (m+u)) _ _ rfl rfl rfl #[#[h,by show r<=3;lia],#[by show m<=m+u;lia,by show m+u<=m+12;lia],λa b c e=>by cases e] f (o "finish" jU rG)
 .exact fin "finish" (.finish r (m+u)) _ _ rfl rfl rfl #[#[h,by show r<=3;lia],#[by show m<=m+u;lia,by show m+u<=m+12;lia],λa b c e=>by cases e] f (o "finish" jU rG)
 .exact fin "give" (.give r (m+u)) _ _ rfl rfl rfl #[#[h,by show r<=3;lia],#[by show m<=m+u;lia,by show m+u<=m+12;lia],λa b c e=>by cases e] f (o "give" ij vu)
theorem IM:∀a  l  c,ny l a->ik c (match a.getLast? with |some x=>x.mo |none=>l)->ny l (a++[c])
 |[],l,c,_,h=>#[h,trivial]
 |x::a,l,c,⟨h1,h2⟩,h=>#[h1,IM a x.mo c h2 (by
  cases a with
  |nil=>exact h
  |cons y d=>
   rw[List.getLast?_cons_cons]at h;cases b:(y::d).getLast? with
   |none=>simp at b
   |some z=>rw[b]at h;exact h)]
theorem IP(j:ns.length<=63):∀n  i {t}{cs}{m}{x7 x8 x9 x10},t.length+6 * n<=900->cs.length+n<100->0<=m->ny 0 cs->m=(match cs.getLast? with |some x=>x.mo |none=>0)->
  ∃(b:List Ca) (t':List PyData) (d:Int) (k f g a:Option af),ny 0 b/\b.length=cs.length+n/\t'.length<=t.length+6 * n/\cw (aA 7) (rb C) (L3.intsFrom i n) [!.scr ns,!.own true (.l t),x2,x3,x4,!.own false (.l (cs.map cY)),!.dat (.int m),x7,x8,x9,x10,x11,x12]=.nx [!.scr ns,!.own true (.l t'),x2,x3,x4,!.own false (.l (b.map cY)),!.dat (.int d),k,f,g,a,x11,x12]
 |0,i,t,cs,m,x7,x8,x9,x10,_,_,_,up,_=>#[cs,t,m,x7,x8,x9,x10,up,rfl,by lia,by simp[L3.intsFrom,cw]]
 |n+1,i,t,cs,m,x7,x8,x9,x10,B,D,o,up,p=>by obtain⟨c,q,f,g,a,ok,l1,e⟩:=Xg (C:=C) (t:=t) (cs:=cs) (m:=m) (x2:=x2) (x3:=x3) (x4:=x4) (x7:=!.dat (.int i)) (x8:=x8) (x9:=x9) (x10:=x10) (x11:=x11) (x12:=x12) j 'b' o 'b';have r:=ok.m;obtain⟨b,s,d,u,v,w,h,y,z,l2,A⟩:=IP (C:=C) (x2:=x2) j n (i+1) (t:=q) (m:=c.mo) (x7:=!.dat (.int i)) (x8:=f) (x9:=g) (x10:=a) 'b' (by simp;lia) 'b' (IM cs 0 c up (by rw[<-p];exact ok)) 'c';refine#[b,s,d,u,v,w,h,y,by simp at z;lia,by lia,?_];rw[rr,cw,<-A];simp only[aA,q03,q0H,e]
theorem Xh{most:Nat}(i:ns.length<=63)(B:t.length<=500)(D:most<=40)(z:mL a c)(n:b.length<=6)(hd:∀d∈b,ni d.plan)(o:mR [.dat (cO a c)]=.rt (.dat .none) [])(q:mV [.dat (dh b)]=.rt (.dat .none) []) :
  ∃S j m t',rc C [.scr ns,.own true (.l t),.dat (cO a c),.dat (dh b),.dat (.int most)]=.rt (.own false (.pr C (aq S) (.list j))) [.l t']/\Ru S m (most+1)/\m<=12 * (most+1)/\S.a=a/\S.ss=c/\S.ds=b/\t'.length<=t.length+300/\j.length<=most:=by
 have sz:1000<sizeLine:=by decide
 obtain⟨k,E,G,h2⟩:=gu (ns:=ns) (t:=t) (many:=most+1) i 'b' 'b';obtain⟨f,s,H,I,J,M,u,up,nd,l2,e⟩:=IP (C:=C) (ns:=ns) (x2:=!.dat (cO a c)) (x3:=!.dat (dh b)) (x4:=!.dat (.int most)) (x11:=none) (x12:=none) i k.toNat 0 (t:=t++[.int 0]) (cs:=[]) (m:=0) (x7:=none) (x8:=none) (x9:=none) (x10:=none) (by simp;lia) (by simp;lia) 'b' trivial rfl;have v:cp [.int k]=!L3.intsFrom 0 k.toNat:=by simp only[cp];rw[if_pos (by simp;lia)]
 simp only[q0u,q0i,q04]at l2 nd;obtain⟨S,N,m,g,p,h,w,x,y⟩:=Xd (C:=C) (cs:=.take 0 0 30::f) z n hd o q #[#[#[q1o _,by show(0:Int)<=3;lia],#[q1o _,by show(0:Int)<=0+12;lia],λr m t e=>by cases e;lia],up] (by simp;lia);simp only[q0i]at p h;refine#[S,f.map cY,m,s,?_,p.mono (q1o _) 'b',by lia,w,x,y,by lia,by rw[q0b];lia];have A:1+(f.map cY).length<=sizeLine:=by rw[q0b];lia
 rw[q1B]at e;rw[q0d]at g;generalize cO a c=O at *;generalize dh b=dd at *;generalize f.map cY=L at *;simp only[cY]at g;simp[-cp,rc,FL,h2,v,e,qH,qG,oC,qF,ca,g,A,by lia]
section
variable{α:Type}[DecidableEq α]
noncomputable def gy(a:List α)(b:α):List α:=if b∈a then a else a++[b]
def cA(a:List α):List α:=a.foldl gy []
theorem IQ(a)(b:α):cA (a++[b])=gy (cA a) b:=by unfold cA;rw[q2C];rfl
theorem Xi{c:List α}:a∈gy c b↔a∈c\/a=b:=by
 unfold gy;split
 .rename_i h;exact#[.inl,λz=>z.elim id λe=>e▸h]
 .simp
theorem IR:∀(b c:List α),a∈b.foldl gy c↔a∈c\/a∈b
 |[],c=>by simp
 |k::b,c=>by rw[q1Y,IR b,Xi,q0e,or_assoc]
theorem oZ{a:α}:a∈cA b↔a∈b:=by unfold cA;rw[IR];simp
theorem Xj(a)(b:α):(gy a b).length<=a.length+1:=by unfold gy;split<;>simp
theorem IS:∀(b a:List α),(b.foldl gy a).length<=a.length+b.length
 |[],a=>by simp
 |k::b,a=>by have h1:=IS b (gy a k);have h2:=Xj a k;rw[q1Y,q0i];lia
theorem nz(a:List α):(cA a).length<=a.length:=by have:=IS a ([]);simpa[cA] using this
variable{tk:Bool}{kd:α->PyData}{kk:α->List aQ}
theorem dF(d:∀a,dA tk (kd a)=!kk a)(f:∀a b,kk a=kk b->a=b)(v:α->PyData)(b):∀c:List α,et tk (c.map λa=>(kd a,v a)) (kk b)=if b∈c then some (v b) else none
 |[]=>rfl
 |u::c=>by
  rw[q0d,et,d,dF d f v b c]
  by_cases h:u=b
  .subst h;simp
  .rw[if_neg λe=>h (f _ _ (q0r e))];simp[Ne.symm h]
theorem dR(d:∀a,dA tk (kd a)=!kk a)(f:∀a b,kk a=kk b->a=b)(v:α->PyData)(b w):∀c:List α,kz tk (kk b) w (c.map λa=>(kd a,v a))=c.map λa=>(kd a,if a=b then w else v a)
 |[]=>rfl
 |u::c=>by
  rw[q0d,q0d,kz,d,dR d f v b w c]
  by_cases h:u=b
  .subst h;simp
  .rw[if_neg λe=>h (f _ _ (q0r e)),if_neg h]
theorem IT(d:∀a,dA tk (kd a)=!kk a)(f:∀a b,kk a=kk b->a=b)(v:α->PyData)(b w c):gH tk (c.map λa=>(kd a,v a)) (kd b) (kk b) w=(gy c b).map λa=>(kd a,if a=b then w else v a):=by
 unfold gH gy;rw[dF d f]
 by_cases h:b∈c
 .rw[if_pos h,if_pos h,if_pos (by rfl),dR d f]
 .rw[if_neg h,if_neg h,if_neg 'c',q1k]
  congr 1
  .exact q0P λa g=>by rw[if_neg λe:a=b=>h (e▸g)]
  .simp
noncomputable def bQ(b:List α)(a:α):Nat:=b.countP λx=>decide (x=a)
theorem Xk{b:List α}(h:a∉b):bQ b a=0:=List.countP_eq_zero.mpr λx c e=>h (of_decide_eq_true e▸c)
theorem IU(c)(b a:α):bQ (c++[b]) a=bQ c a+if b=a then 1 else 0:=by
 unfold bQ;rw[List.countP_append,q18,List.countP_nil]
 by_cases h:b=a<;>simp
abbrev cq(kd:α->PyData)(b:List α):eQ:=(cA b).map λa=>(kd a,.int (bQ b a:Nat))
theorem IV(d:∀a,dA tk (kd a)=!kk a)(e:∀a b,kk a=kk b->a=b)(c b):(et tk (cq kd c) (kk b)).getD (.int 0)=.int (bQ c b:Nat):=by
 rw[dF d e (λa=>.int (bQ c a))]
 by_cases h:b∈c
 .rw[if_pos (oZ.mpr h)];rfl
 .rw[if_neg λz=>h (oZ.mp z),Xk h];rfl
theorem Xl(d:∀a,dA tk (kd a)=!kk a)(e:∀a b,kk a=kk b->a=b)(h:b∈c):et tk (cq kd c) (kk b)=!.int (bQ c b:Nat):=by rw[dF d e (λa=>.int (bQ c a)),if_pos (oZ.mpr h)]
theorem IW(d:∀a,dA tk (kd a)=!kk a)(e:∀a b,kk a=kk b->a=b)(c b):gH tk (cq kd c) (kd b) (kk b) (.int ((bQ c b:Nat)+1))=cq kd (c++[b]):=by
 unfold cq;rw[IT d e (λa=>.int (bQ c a)),IQ];refine q0P λa _=>?_
 by_cases h:a=b
 .subst h;rw[if_pos rfl,IU,if_pos rfl];rfl
 .rw[if_neg h,IU,if_neg (Ne.symm h),Nat.add_zero]
end
noncomputable abbrev kT(l:List Int):PyData:=.tuple (l.map PyData.int)
noncomputable abbrev jt(l:List Int):List aQ:=l.map Sum.inl
theorem IX:∀l:List Int,ft (l.map PyData.int)=some (l.map Sum.inl)
 |[]=>rfl
 |n::l=>by rw[q0d,ft,IX l];rfl
theorem rH(l):dA true (kT l)=!jt l:=IX l
theorem pc:∀a b,jt a=jt b->a=b
 |[],[],_=>rfl
 |[],_::_,h=>by cases h
 |_::_,[],h=>by cases h
 |a::l,b::m,h=>by rw[jt,jt,q0d,q0d]at h;obtain⟨c,h2⟩:=q2H h;cases c;rw[pc l m h2]
theorem IY(n):dA false (.int n)=!([Sum.inl n]:List aQ):=rfl
theorem IZ(a b)(h:([Sum.inl a]:List aQ)=[Sum.inl b]):a=b:=by injection h with h;injection h
theorem Xm(a):TS.onceL a=cA a:=by
 have:TS.addL=gy:=by
  funext c b;unfold TS.addL gy
  by_cases h:b∈c
  .simp only[if_pos h]
  .simp only[if_neg h]
 unfold TS.onceL cA;rw[this]
theorem Xn(a):TS.onceI a=cA a:=by
 have:TS.addI=gy:=by
  funext c b;unfold TS.addI gy
  by_cases h:b∈c
  .simp only
  .simp only
 unfold TS.onceI cA;rw[this]
theorem Ja(w):PyData.strOk (bY w)=true:=by cases w<;>decide +kernel
theorem Xo:PyData.strOk "begun" = true:=by decide +kernel
theorem Xp:PyData.strOk "done" = true:=by decide +kernel
theorem vD(w):aI false (.str (bY w)) (.str "begun")=!.bool (decide (w=.begun)):=by rw[cm (Ja w) Xo];cases w<;>kernel_rfl
theorem vE(w):aI false (.str (bY w)) (.str "done")=!.bool (decide (w=.done)):=by rw[cm (Ja w) Xp];cases w<;>kernel_rfl
noncomputable abbrev bp(r:bi):List Int:=[(r.dd:Int),(r.ct:Int)]
def aF(a:List bi):List (List Int):=(a.filter λr=>decide (r.wd=.begun)).map bp
def aO(a:List bi):List Int:=(a.filter λr=>decide (r.wd=.done)).map (·.ru)
theorem zm(a r):aF (a++[r])=aF a++if r.wd=.begun then[bp r]else[]:=by
 unfold aF;rw[q2u,q1k]
 congr 1
 by_cases h:r.wd=.begun<;>simp[h]
theorem Xq(a r):aO (a++[r])=aO a++if r.wd=.done then[r.ru]else[]:=by
 unfold aO;rw[q2u,q1k]
 congr 1
 by_cases h:r.wd=.done<;>simp[h]
theorem vF(a):(aF a).length<=a.length:=by unfold aF;rw[q0b];exact q1c ..
theorem zn(a):(aO a).length<=a.length:=by unfold aO;rw[q0b];exact q1c ..
theorem Jb[DecidableEq α]{kd}(a:List α):(cq kd a).length<=a.length:=by rw[q0b];exact nz a
abbrev nA(i:Nat):GM:=gG 5 (cE (aA i) (cE (aA (i+1)) (cE (aA (i+2)) (cE (aA (i+3)) (cE (aA (i+4)) jd)))))
theorem Xr(c:pre.length<900):mP C [z0,!.own false (.m true (cq kT (aF pre))),!.dat (.int r.mo),!.dat (.int r.ru),!.dat (.str (bY r.wd)),!.dat (.int r.dd),!.dat (.int r.ct)]=.nx [z0,!.own false (.m true (cq kT (aF (pre++[r])))),!.dat (.int r.mo),!.dat (.int r.ru),!.dat (.str (bY r.wd)),!.dat (.int r.dd),!.dat (.int r.ct)]:=by
 have sz:1000<sizeLine:=by decide
 have b:=vD r.wd;rw[zm];have l1:=Jb (kd:=kT) (aF pre);have l2:=vF pre;have g:=IV rH pc (aF pre) (bp r);have p:=IW rH pc (aF pre) (bp r);simp only[jt,kT,q0d,q1B]at g p
 by_cases h:r.wd=.begun
 .rw[decide_eq_true h]at b;rw[if_pos h,<-p];generalize cq kT (aF pre)=a at *;generalize bQ (aF pre) (bp r)=n at *;simp[mP,b,mw,og,oa,eK,dA,fP,ft,nZ,pY,g,show a.length<sizeLine by lia]
 .rw[decide_eq_false h]at b;rw[if_neg h,q0G];generalize cq kT (aF pre)=a at *;simp[mP,b]
theorem Jc:∀a pre  b c d f g,pre.length+a.length<900->∃i j k l n,cw (nA 2) (mP C) (a.map aW) [z0,!.own false (.m true (cq kT (aF pre))),b,c,d,f,g]=.nx [z0,!.own false (.m true (cq kT (aF (pre++a)))),i,j,k,l,n]
 |[],pre,b,c,d,f,g,_=>#[b,c,d,f,g,by simp[cw]]
 |r::a,pre,b,c,d,f,g,h=>by simp only[q0i]at h;obtain⟨i,j,k,l,n,e⟩:=Jc a (pre++[r]) (!.dat (.int r.mo)) (!.dat (.int r.ru)) (!.dat (.str (bY r.wd))) (!.dat (.int r.dd)) (!.dat (.int r.ct)) (by simp;lia);rw[q0x]at e;have st:=Xr (C:=C) (r:=r) (pre:=pre) (z0:=z0) 'b';refine#[i,j,k,l,n,?_];rw[q0d,cw,show(r::a)=[r]++a from rfl,<-e];generalize cq kT (aF pre)=o at *;generalize cq kT (aF (pre++[r]))=p at *;generalize mP C=bb at *;simp[st]
def il(a:List (List Int)):List PyData:=((TS.sortR (cA a)).filter λl=>decide (1<bQ a l)).map λl=>ai (l++[(bQ a l:Int)])
theorem zo(h:l∈aF a):∃d c,l=[d,c]:=by obtain⟨r,_,rfl⟩:=q0D.mp h;exact#[_,_,rfl]
theorem Jd(h:l∈TS.sortR (cA a)):l∈a:=oZ.mp ((TS.sortR_perm _).mem_iff.mp h)
theorem Je(a):(il a).length<=a.length:=by unfold il;rw[q0b];have h1:=q1c (λl=>decide (1<bQ a l)) (TS.sortR (cA a));have h2:=(TS.sortR_perm (cA a)).length_eq;have h3:=nz a;lia
theorem Jf(o:∀l∈ks,∃d c,l=[d,c]):∀(e:List (List Int))  b  x,(∀l∈e,l∈ks)->b.length+e.length<900->bB (aA 0) (oJ C) (oK C) (e.map ai) b [x,!.vw (.m true (cq kT ks))]=some (b++((e.filter λl=>decide (1<bQ ks l)).map λl=>ai (l++[(bQ ks l:Int)])))
 |[],b,x,_,_=>by simp[bB]
 |l::e,b,x,j,p=>by
  have sz:1000<sizeLine:=by decide
  simp only[q0i]at p;have f:=j l q0h;obtain⟨d,c,q⟩:=o l f;have g:=Xl rH pc f;have k:=λb x h=>Jf (C:=C) o e b x (λa r=>j a (bH _ r)) h;subst q;simp only[jt,kT,q0d,q1B]at g;have s:oJ C [!.dat (ai [d,c]),!.vw (.m true (cq kT ks))]=.ok (decide (1<bQ ks [d,c])) [!.dat (ai [d,c]),!.vw (.m true (cq kT ks))]:=by
   generalize cq kT ks=i at *;generalize bQ ks [d,c]=n at *;have:(decide ((1:Int)<n))=decide (1<n):=by
    by_cases h:1<n
    .rw[decide_eq_true h,decide_eq_true 'b']
    .rw[decide_eq_false h,decide_eq_false 'b']
   simp[oJ,ox,tN,fR,dA,fP,ft,ai,g,this]
  have t:oK C [!.dat (ai [d,c]),!.vw (.m true (cq kT ks))]=.ok (ai ([d,c]++[(bQ ks [d,c]:Int)])) [!.dat (ai [d,c]),!.vw (.m true (cq kT ks))]:=by generalize cq kT ks=i at *;generalize bQ ks [d,c]=n at *;simp[oK,ox,tN,fR,dA,fP,ft,ai,g,bN,dt]
  rw[q0d,bB];simp only[aA,q0H,s];cases hd:decide (1<bQ ks [d,c]) with
  |true=>simp only[t];rw[if_pos 'b',k _ _ (by simp;lia),q1g,if_pos hd];simp
  |false=>simp only;rw[k _ _ 'b',q1g,if_neg (by rw[hd];exact q0F)]
theorem Xs(a):(cq kT a).map (·.1)=(cA a).map ai:=by rw[q0z];rfl
theorem Jg(e:us.length<64)(f:∀l∈us,l≠[]):qO [.list (us.map ai)]=!us:=by
 have c:us.all (λr=>not r.isEmpty)=true:=q0O.mpr λl d=>by
  cases l with
  |nil=>exact absurd rfl (f _ d)
  |cons a b=>rfl
 show(gO (us.map ai)).bind _=_;rw[rF];show(if us.length<64/\_ then some us else none)=!us;rw[if_pos #[e,c]]
theorem zp:∀l∈aF a,l≠[]:=λl h z=>by obtain⟨d,c,e⟩:=zo h;rw[z]at e;cases e
theorem Xt(l):jh (ai l)=true:=by
 have:∀l:List Int,kU (l.map PyData.int)=true:=λl=>by
  induction l with
  |nil=>rfl
  |cons a l b=>simpa using b
 exact this l
theorem Xu(u:S.rows.length<60):uA C [.own true (hB C S)]=.rt (.dat (.list (il (aF S.rows)))) [hB C S]:=by
 have sz:1000<sizeLine:=by decide
 have p:=rA (C:=C) (S:=S);obtain⟨b,c,e,f,i,g⟩:=Jc (C:=C) (z0:=!.own true (hB C S)) S.rows [] none none none none none (by simp;lia);rw[q0y]at g;have bl:=vF S.rows;have ol:=nz (aF S.rows);have v:=(TS.sortR_perm (cA (aF S.rows))).length_eq;have j:=Jf (C:=C) (ks:=aF S.rows) (λl h=>zo h) (TS.sortR (cA (aF S.rows))) [] none (λl h=>Jd h) (by simp;lia);rw[q0y]at j;change bB _ _ _ _ _ _=some (il (aF S.rows)) at j;have o:=Jg (us:=cA (aF S.rows)) 'b' (λl h=>zp l (oZ.mp h));have q:=Xs (aF S.rows);have w:=Je (aF S.rows);have r:cq kT (aF [])=[]:=rfl;rw[r]at g;have s:(il (aF S.rows)).all jh=true:=q0O.mpr λd hd=>by unfold il at hd;obtain⟨l,_,rfl⟩:=q0D.mp hd;exact Xt _
 generalize il (aF S.rows)=A at *;rw[<-q]at o;generalize cq kT (aF S.rows)=a at *;have n:dG (mJ 1) [!.own true (hB C S),!.own false (.m true a),b,c,e,f,i]=.ok ((TS.sortR (cA (aF S.rows))).map ai) [!.own true (hB C S),!.own false (.m true a),b,c,e,f,i]:=by simp[dG,mJ,fR,o]
 generalize (TS.sortR (cA (aF S.rows))).map ai=t at *;have k:oq 1 [1] (dG (mJ 1)) (aA 0) (oJ C) (oK C) [!.own true (hB C S),!.own false (.m true a),b,c,e,f,i]=.ok (.list A) [!.own true (hB C S),!.own false (.m true a),b,c,e,f,i]:=by generalize dG (mJ 1)=x at *;have lw:qt 1 [1] [!.own true (hB C S),!.own false (.m true a),b,c,e,f,i]=[none,!.vw (.m true a)]:=rfl;simp only[oq,n,fK.bind,xF,lw,j,q2M,show A.length<=sizeLine by lia,s,and_self,if_true,lift]
 generalize S.rows.map aW=y at *;unfold uA Fh;generalize oq 1 [1] (dG (mJ 1)) (aA 0) (oJ C) (oK C)=z at *;generalize mP C=bb at *;simp[-gG,-cE,dc,cL,ca,p,g,k,mu]
theorem Xv(c:pre.length<900):mQ C [z0,!.own false (.m false (cq PyData.int (aO pre))),!.dat (.int r.mo),!.dat (.int r.ru),!.dat (.str (bY r.wd)),!.dat (.int r.dd),!.dat (.int r.ct)]=.nx [z0,!.own false (.m false (cq PyData.int (aO (pre++[r])))),!.dat (.int r.mo),!.dat (.int r.ru),!.dat (.str (bY r.wd)),!.dat (.int r.dd),!.dat (.int r.ct)]:=by
 have sz:1000<sizeLine:=by decide
 have b:=vE r.wd;rw[Xq];have l1:=Jb (kd:=PyData.int) (aO pre);have l2:=zn pre;have g:=IV IY IZ (aO pre) r.ru;by_cases h:r.wd=.done
 .rw[decide_eq_true h]at b;rw[if_pos h,<-(IW IY IZ (aO pre) r.ru)];generalize cq PyData.int (aO pre)=a at *;generalize bQ (aO pre) r.ru=n at *;simp[mQ,b,mw,og,oa,eK,dA,fP,nZ,pY,g,show a.length<sizeLine by lia]
 .rw[decide_eq_false h]at b;rw[if_neg h,q0G];generalize cq PyData.int (aO pre)=a at *;simp[mQ,b]
theorem Jh:∀a pre  b c d f g,pre.length+a.length<900->∃i j k l n,cw (nA 2) (mQ C) (a.map aW) [z0,!.own false (.m false (cq PyData.int (aO pre))),b,c,d,f,g]=.nx [z0,!.own false (.m false (cq PyData.int (aO (pre++a)))),i,j,k,l,n]
 |[],pre,b,c,d,f,g,_=>#[b,c,d,f,g,by simp[cw]]
 |r::a,pre,b,c,d,f,g,h=>by simp only[q0i]at h;obtain⟨i,j,k,l,n,e⟩:=Jh a (pre++[r]) (!.dat (.int r.mo)) (!.dat (.int r.ru)) (!.dat (.str (bY r.wd))) (!.dat (.int r.dd)) (!.dat (.int r.ct)) (by simp;lia);rw[q0x]at e;have st:=Xv (C:=C) (r:=r) (pre:=pre) (z0:=z0) 'b';refine#[i,j,k,l,n,?_];rw[q0d,cw,show(r::a)=[r]++a from rfl,<-e];generalize cq PyData.int (aO pre)=o at *;generalize cq PyData.int (aO (pre++[r]))=p at *;generalize mQ C=bb at *;simp[st]
theorem Xw(b):oB (cq PyData.int b)=!((cA b).map λa=>(a,(bQ b a:Int))):=by
 unfold cq;generalize cA b=c
 induction c with
 |nil=>rfl
 |cons u c d=>rw[q0d,oB,d];rfl
theorem Xx(h:a<=b)(e:a=b->x=y):TS.lexLe [a,x] [b,y]=true:=by
 unfold TS.lexLe;rw[HT.lexLt_cons]
 by_cases q:b=a
 .rw[if_pos q,e q.symm,HT.lexLt_cons,if_pos rfl];rfl
 .rw[if_neg q];lia
theorem Xy(d)(c:Int->Int):TS.sortR (d.map λa=>[a,c a])=(fx d).map λa=>[a,c a]:=by refine(TS.sortR_of ((q1v d _).map _) ?_).symm;rw[q0U];refine List.Pairwise.imp (λ{a b} h=>?_) (q1p (λa b c f g=>by lia) (λa b=>by lia) d);exact Xx (of_decide_eq_true h) λe=>by rw[e]
def jV(b:List Int):List PyData:=(fx (cA b)).map λa=>ai [a,(bQ b a:Int)]
theorem Xz(n:S.rows.length<60):uB C [.own true (hB C S)]=.rt (.dat (.list (jV (aO S.rows)))) [hB C S]:=by
 have i:=rA (C:=C) (S:=S);obtain⟨c,d,e,f,h,g⟩:=Jh (C:=C) (z0:=!.own true (hB C S)) S.rows [] none none none none none (by simp;lia);rw[q0y]at g;have bl:=zn S.rows;have ol:=nz (aO S.rows);have j:=Xw (aO S.rows);have k:cq PyData.int (aO [])=[]:=rfl;rw[k]at g;have it:qE 1 [!.own true (hB C S),!.own false (.m false (cq PyData.int (aO S.rows))),c,d,e,f,h]=.ok (.list (jV (aO S.rows))) [!.own true (hB C S),!.own false (.m false (cq PyData.int (aO S.rows))),c,d,e,f,h]:=by generalize cq PyData.int (aO S.rows)=b at *;simp only[qE,fR,q2I,q1X,j,q2M,q0b];rw[if_neg 'b',q0z];show lift (!PyData.list ((TS.sortR ((cA (aO S.rows)).map λa=>[a,(bQ (aO S.rows) a)])).map ai)) _=_;rw[(Xy (cA (aO S.rows)) λa=>(bQ (aO S.rows) a)),q0z];rfl
 generalize S.rows.map aW=o at *;generalize cq PyData.int (aO S.rows)=b at *;generalize jV (aO S.rows)=A at *;unfold uB Fi;generalize qE 1=p at *;generalize mQ C=bb at *;simp[-cE,dc,cL,ca,i,g,it,mu]
def dW(a:List bi)(k:List Int):Int:=((a.filter λx=>decide (x.wd=.begun)&&decide (bp x=k)).getLast?.map bi.mo).getD 0
theorem Ji(a r k):dW (a++[r]) k=if r.wd=.begun/\bp r=k then r.mo else dW a k:=by
 unfold dW;rw[q2u]
 by_cases h:r.wd=.begun/\bp r=k
 .rw[if_pos h,q1g,if_pos (by rw[q0I];exact#[decide_eq_true h.1,decide_eq_true h.2]),List.filter_nil,List.getLast?_concat];rfl
 .rw[if_neg h,q1g,if_neg (by rw[q0I,decide_eq_true_iff,decide_eq_true_iff];exact h),List.filter_nil,q0G]
abbrev eA(b:List bi):eQ:=(cA (aF b)).map λa=>(kT a,.int (dW b a))
def eU:List bi->List bi->List (List Int)
 |_,[]=>[]
 |pre,r::a=>(if r.wd=.done then[bp r++[r.mo - dW pre (bp r)]]else[])++eU (pre++[r]) a
theorem XA(pre)(r)(h:r.wd=.begun):gH true (eA pre) (kT (bp r)) (jt (bp r)) (.int r.mo)=eA (pre++[r]):=by
 unfold eA;rw[IT rH pc (λa=>.int (dW pre a)),zm,if_pos h,IQ];refine q0P λa _=>?_;rw[Ji]
 by_cases e:a=bp r
 .rw[if_pos e,if_pos #[h,e.symm]]
 .rw[if_neg e,if_neg λz=>e z.2.symm]
theorem XB(pre)(r)(h:r.wd≠.begun):eA (pre++[r])=eA pre:=by unfold eA;rw[zm,if_neg h,q0G];refine q0P λa _=>?_;rw[Ji,if_neg λz=>h z.1]
theorem XC(h:lN pre d c):[(d:Int),(c:Int)]∈aF pre:=by obtain⟨x,h1,h2,h3,a⟩:=h;refine q0D.mpr #[x,q1P.mpr #[h1,decide_eq_true h2],?_];rw[bp,h3,a]
theorem XD(h:lN pre r.dd r.ct):et true (eA pre) (jt (bp r))=!.int (dW pre (bp r)):=by rw[dF rH pc (λa=>.int (dW pre a)),if_pos (oZ.mpr (XC h))]
theorem XE(pre):(eA pre).length<=pre.length:=by have h1:=vF pre;have h2:=nz (aF pre);rw[q0b];lia
theorem XF(j:pre.length<900)(k:L.length<900)(hd:r.wd=.done->lN pre r.dd r.ct):lg C [z0,!.own false (.l (L.map ai)),!.own false (.m true (eA pre)),!.dat (.int r.mo),!.dat (.int r.ru),!.dat (.str (bY r.wd)),!.dat (.int r.dd),!.dat (.int r.ct)]=.nx [z0,!.own false (.l ((L++if r.wd=.done then[bp r++[r.mo - dW pre (bp r)]]else[]).map ai)),!.own false (.m true (eA (pre++[r]))),!.dat (.int r.mo),!.dat (.int r.ru),!.dat (.str (bY r.wd)),!.dat (.int r.dd),!.dat (.int r.ct)]:=by
 have sz:1000<sizeLine:=by decide
 have d:=vD r.wd;have e:=vE r.wd;have l1:=XE pre;have i:(L.map ai).length<sizeLine:=by rw[q0b];lia
 by_cases h:r.wd=.begun
 .have p:=XA pre r h;simp only[jt,kT]at p;rw[decide_eq_true h]at d;rw[if_neg (by rw[h];exactλz=>by cases z),q0G,<-p];generalize eA pre=c at *;generalize L.map ai=f at *;simp[lg,d,mw,og,oa,eK,dA,fP,ft,show c.length<sizeLine by lia]
 .rw[decide_eq_false h]at d;rw[XB pre r h]
  by_cases a:r.wd=.done
  .have g:=XD (hd a);simp only[q0d,q1B]at g;rw[decide_eq_true a]at e;rw[if_pos a,q1k];generalize eA pre=c at *;generalize L.map ai=f at *;generalize dW pre (bp r)=b at *;simp[lg,d,e,tm,tf,eK,dA,fP,ft,g,i,ai]
  .rw[decide_eq_false a]at e;rw[if_neg a,q0G];generalize eA pre=c at *;generalize L.map ai=f at *;simp[lg,d,e]
theorem Jj:∀a pre  L  b c d f g,pre.length+a.length<900->L.length+a.length<900->nv pre a->∃i j k n o,cw (nA 3) (lg C) (a.map aW) [z0,!.own false (.l (L.map ai)),!.own false (.m true (eA pre)),b,c,d,f,g]=.nx [z0,!.own false (.l ((L++eU pre a).map ai)),!.own false (.m true (eA (pre++a))),i,j,k,n,o]
 |[],pre,L,b,c,d,f,g,_,_,_=>#[b,c,d,f,g,by simp[cw,eU]]
 |r::a,pre,L,b,c,d,f,g,h,p,hd=>by
  simp only[q0i]at h p;have st:=XF (C:=C) (L:=L) (z0:=z0) 'b' 'b' hd.1;have l2:(L++if r.wd=.done then[bp r++[r.mo - dW pre (bp r)]]else[]).length<=L.length+1:=by rw[q0u];split<;>simp
  obtain⟨i,j,k,n,o,e⟩:=Jj (C:=C) a (pre++[r]) (L++if r.wd=.done then[bp r++[r.mo - dW pre (bp r)]]else[]) (!.dat (.int r.mo)) (!.dat (.int r.ru)) (!.dat (.str (bY r.wd))) (!.dat (.int r.dd)) (!.dat (.int r.ct)) (by simp;lia) 'b' hd.2;rw[q0x,q0x]at e;refine#[i,j,k,n,o,?_];rw[q0d,cw,eU,show pre++r::a=pre++([r]++a) from rfl,<-e];generalize eA pre=q at *;generalize eA (pre++[r])=s at *;generalize L.map ai=t at *;generalize (L++if r.wd=.done then[bp r++[r.mo - dW pre (bp r)]]else[]).map ai=L2 at *;generalize lg C=bb at *;simp[st]
theorem zq:∀a pre,(eU pre a).length<=a.length
 |[],_=>aP _
 |r::a,pre=>by have:=zq a (pre++[r]);rw[eU,q0u,q0i];split<;>simp<;>lia
theorem zr:∀a pre,∀l∈eU pre a,l≠[]
 |[],_,l,h=>by cases h
 |r::a,pre,l,h=>by
  rw[eU]at h;rcases q0f.mp h with h |h
  .split at h
   .rw[q0o.mp h];exactλz=>by cases z
   .cases h
  .exact zr a _ l h
theorem Jk(a:L.length<64)(h:∀r∈L,r≠[]):mF [.list (L.map ai)]=!.list ((TS.sortR L).map ai):=by have:=WF h;show(if (L.map ai).length<64 then _ else none)=_;rw[if_pos (by rw[q0b];exact a)];exact this
theorem XG(e:S.rows.length<60)(hd:nv [] S.rows):uC C [.own true (hB C S)]=.rt (.dat (.list ((TS.sortR (eU [] S.rows)).map ai))) [hB C S]:=by
 have a:=rA (C:=C) (S:=S);obtain⟨f,h,i,j,k,g⟩:=Jj (C:=C) (z0:=!.own true (hB C S)) S.rows [] [] none none none none none (by simp;lia) (by simp;lia) hd;rw[q0y,q0y]at g;have ll:=zq S.rows [];have b:=Jk (L:=eU [] S.rows) 'b' (zr _ _);have c:eA []=[]:=rfl;rw[c,q1B]at g;generalize S.rows.map aW=l at *;generalize eA S.rows=d at *;generalize (eU [] S.rows).map ai=A at *;generalize (TS.sortR (eU [] S.rows)).map ai=B at *;unfold uC Fj;generalize lg C=bb at *;generalize mF=m at *;simp[-cE,dc,ca,a,g,b,mu]
theorem Jl:∀a:List Wd,kA (a.map λw=>PyData.str (bY w))=some (a.map λw=>V.str (bY w))
 |[]=>rfl
 |w::a=>by rw[q0d,kA,Jl a];rfl
theorem vG(b:List Wd)(a):gp (b.map λw=>PyData.str (bY w)) (.str (bY a))=!.int (b.count a):=by
 unfold gp;rw[Jl];simp only[oh];have:∀l:List Wd,(l.map λw=>V.str (bY w)).countP (λz=>kc z (V.str (bY a)))=l.count a:=λl=>by
  induction l with
  |nil=>rfl
  |cons x l c=>
   rw[q0d,q18,c,List.count_cons]
   congr 1
   have e:kc (V.str (bY x)) (V.str (bY a))=(x==a):=by cases x<;>cases a<;>decide +kernel
   rw[e]
 rw[this]
noncomputable abbrev cI(a:List bi)(k:Nat):List Wd:=(a.filter λr=>r.dd==k).map (·.wd)
noncomputable abbrev eV(a:List Wd):PyData:=.tuple [.int (a.count .begun),.int (a.count .done),.int (a.count .left),.int (a.count .unsure)]
theorem vH:∀b  a  x,a.length+b.length<=5000->bB (aA 0) mM mO (b.map aW) a [x,!.dat (bS k)]=some (a++(cI b k).map λw=>PyData.str (bY w))
 |[],a,x,_=>by simp[bB]
 |r::b,a,x,h=>by
  have sz:10000<sizeLine:=by decide
  simp only[q0i]at h;have d:mM [!.dat (aW r),!.dat (bS k)]=.ok (r.dd==k) [!.dat (aW r),!.dat (bS k)]:=by
   have e:aG (aW r) (.int 3)=!bS r.dd:=rfl;have this:decide ((r.dd:Int)=(k:Int))=(r.dd==k):=by rw[q2k,decide_eq_true_iff,beq_iff_eq];lia
   generalize aW r=R at *;simp[-aG,mM,e,lu,this]
  have f:mO [!.dat (aW r),!.dat (bS k)]=.ok (.str (bY r.wd)) [!.dat (aW r),!.dat (bS k)]:=by have g:aG (aW r) (.int 2)=!.str (bY r.wd):=rfl;generalize aW r=R at *;simp[-aG,mO,g]
  rw[q0d,bB];simp only[aA,q0H,d];cases q:r.dd==k with
  |true=>have c:=vH (k:=k) b (a++[.str (bY r.wd)]) (!.dat (aW r)) (by simp;lia);simp only[f];rw[if_pos 'b',c];simp[cI,q]
  |false=>have c:=vH (k:=k) b a (!.dat (aW r)) 'b';simp only;rw[c];simp[cI,q]
theorem pd(h:e [!.dat x,D]=.ok y [!.dat x,D])(b:a.length<sizeLine):bB (aA 0) cW e (x::r) a [z,D]=bB (aA 0) cW e r (a++[y]) [!.dat x,D]:=by rw[bB];simp only[aA,q0H,cW,h];rw[if_pos b]
theorem Jm(W:List Wd)(y):bB (aA 0) cW lc (fy ["begun","done","left","unsure"]) [] [y,!.dat (.list (W.map λw=>PyData.str (bY w)))]=![.int (W.count .begun),.int (W.count .done),.int (W.count .left),.int (W.count .unsure)]:=by
 have sz:10000<sizeLine:=by decide
 have f:=vG W .begun;have g:=vG W .done;have h:=vG W .left;have i:=vG W .unsure;generalize (W.map λw=>PyData.str (bY w))=D at *;have a:∀x w,gp D (.str x)=!.int w->lc [!.dat (.str x),!.dat (.list D)]=.ok (.int w) [!.dat (.str x),!.dat (.list D)]:=λx w j=>by unfold lc;generalize gp=k at *;simp[j]
 generalize lc=l at *;unfold fy;simp only[q0d];rw[pd (a _ _ f) (by simp;lia),pd (a _ _ g) (by simp;lia),pd (a _ _ h) (by simp;lia),pd (a _ _ i) (by simp;lia)];simp[bB]
theorem XH(h:rs.length<=5000):uq [.dat (.list (rs.map aW)),.dat (bS k)]=.rt (.dat (eV (cI rs k))) []:=by
 have sz:10000<sizeLine:=by decide
 have g:=vH (k:=k) rs [] none (by simpa using h);rw[q0y]at g;have ll:(cI rs k).length<=sizeLine:=by have:=q1c (λr=>r.dd==k) rs;simp;lia
 generalize a:cI rs k=W at *;have l2:(W.map λw=>PyData.str (bY w)).length<=sizeLine:=by simpa using ll
 have g2:=Jm W;generalize (W.map λw=>PyData.str (bY w))=D at *;unfold uq EY;generalize mM=b at *;generalize mO=c at *;generalize lc=d at *;generalize fy ["begun","done","left","unsure"]=e at *;generalize List.map aW rs=f at *;simp[g,l2,g2]
theorem Jn(c:a.length<=5000):∀(n i:Nat)  b  x,b.length+n<=5000->bB (aA 0) cW (uy C) (L3.intsFrom (i:Int) n) b [x,!.dat (.list (a.map aW))]=some (b++(List.range' i n).map λk=>eV (cI a k))
 |0,i,b,x,_=>by simp[L3.intsFrom,bB]
 |n+1,i,b,x,h=>by
  have sz:10000<sizeLine:=by decide
  have e:uy C [!.dat (.int i),!.dat (.list (a.map aW))]=.ok (eV (cI a i)) [!.dat (.int i),!.dat (.list (a.map aW))]:=by have:=XH (k:=i) c;generalize eV (cI a i)=T at *;generalize a.map aW=f at *;simp[uy,this]
  rw[rr,pd e 'b',show(i+1)=((i+1:Nat):Int) by lia,(Jn c n (i+1) (b++[eV (cI a i)]) (!.dat (bS i)) (by simp;lia)),q2L,q0d];simp
theorem XI{S:Hl}{r:ak}(h:S.ds.length=n):cV gm (av (cM C 0 "deeds") aM) (some (.own io (hB C S))::r)=.ok (.int n) (some (.own io (hB C S))::r):=by subst h;simp[(oW S.ds)]
theorem XJ(b:a U=.ok x U)(c:f [x]=!l):gn f (av a aM) U=.ok l U:=by simp[b,c]
theorem XL{V }(b:a [!c,!.dat d]=.ok V [!c,!.dat d])(f:bB g t e V [] [none,!.dat d]=!L)(h:L.length<=sizeLine):ef 1 [1] a g t e [!c,!.dat d]=.ok (.list L) [!c,!.dat d]:=by simp[b,f,h]
theorem XN(f:S.rows.length<=5000)(p:S.ds.length<=6):uz C [.own true (hB C S)]=.rt (.dat (.list ((List.range' 0 S.ds.length).map λk=>eV (cI S.rows k)))) [hB C S]:=by
 have sz:10000<sizeLine:=by decide
 have h:=rA (C:=C) (S:=S);have g:=Jn (C:=C) f S.ds.length 0 [] none (by simp;lia);rw[q0y]at g;have e:=Iw (j:=S.ds.length) 'b' 'b';rw[q0Z]at e;generalize S.rows.map aW=a at *;have k:=XL (XJ (XI (C:=C) (S:=S) (io:=true) (r:=[!.dat (.list a)]) rfl) e) g (by simp;lia);generalize ((List.range' 0 S.ds.length).map λk=>eV (cI S.rows k))=L at *;have m:bF (aV (dc C 0 "log" (jn C))) (aA 1) [!.own true (hB C S),none]=.nx [!.own true (hB C S),!.dat (.list a)]:=by simp[dc,cL,h]
 have o:yA C [!.own true (hB C S),none]=.rt (.dat (.list L)) [!.own true (hB C S),!.dat (.list a)]:=by unfold yA;simp only[aC,m,bz,k,dE]
 generalize hB C S=b at *;simp[uz,o]
theorem nB{V }(c:src U=.ok V U)(b:je n caps U=a)(d:bB g t e V [] a = !L)(f:L.length<=sizeLine):ef n caps src g t e U=.ok (.list L) U:=by subst b;simp only[ef,c,fK.bind,wY,d];simp[f]
abbrev XO(a:List bi)(k:Nat):List Int:=[((cI a k).count .begun:Nat),((cI a k).count .done:Nat),((cI a k).count .left:Nat),((cI a k).count .unsure:Nat)]
theorem jC(h:m U=.ok d U)(a:i<U.length):bF m (aA i) U=.nx (U.set i (!.dat d)):=by simp[h,a]
theorem Jo(h:m U=.ok d U)(a:U[i]? = !!.own io (.l L))(b:L.length<sizeLine):jf i m U=.nx (U.set i (!.own io (.l (L++[d])))):=by simp[h,a,b]
theorem XP(h:m U=.ok (.list L) U):cV pV (av m aM) U=.ok (.tuple L) U:=by simp[h]
theorem ph(h:m U=.ok (.list L) U):dG m U=.ok L U:=by simp[h]
theorem XQ(b:rs.length<=5000)(p:L.length<100) :
  rg C [z0,z1,z2,z3,z4,z5,!.dat (.list (rs.map aW)),!.own false (.l L),!.dat (bS k),x9,z10,z11,z12,z13,z14,z15]=.nx [z0,z1,z2,z3,z4,z5,!.dat (.list (rs.map aW)),!.own false (.l (L++[eV (cI rs k)])),!.dat (bS k),!.dat (.list ((cI rs k).map λw=>PyData.str (bY w))),z10,z11,z12,z13,z14,z15]:=by
 have sz:10000<sizeLine:=by decide
 have g:=vH (k:=k) rs [] none (by simpa using b);rw[q0y]at g;have ll:(cI rs k).length<=sizeLine:=by have:=q1c (λr:bi=>r.dd==k) rs;simp;lia
 have g2:=Jm (cI rs k);generalize cI rs k=W at *;have l2:(W.map λw=>PyData.str (bY w)).length<=sizeLine:=by simpa using ll
 generalize (W.map λw=>PyData.str (bY w))=D at *;generalize rs.map aW=a at *;unfold rg;have c:FZ C=mM:=rfl;have d:Ga C=mO:=rfl;have f:Gb C=lc:=rfl;rw[c,d,f];generalize mM=h at *;generalize mO=i at *;generalize lc=j at *;have m:=nB (n:=1) (caps:=[8]) (src:=dG (xV 6)) (g:=aA 0) (t:=h) (e:=i) (U:=[z0,z1,z2,z3,z4,z5,!.dat (.list a),!.own false (.l L),!.dat (bS k),x9,z10,z11,z12,z13,z14,z15]) (ph 'c') rfl g l2;rw[rq (jC m 'c')];have o:=nB (n:=1) (caps:=[9]) (src:=kt (cn (av (xC (.str "begun")) (av (xC (.str "done")) (av (xC (.str "left")) (av (xC (.str "unsure")) aM)))))) (g:=aA 0) (t:=cW) (e:=j) (U:=[z0,z1,z2,z3,z4,z5,!.dat (.list a),!.own false (.l L),!.dat (bS k),!.dat (.list D),z10,z11,z12,z13,z14,z15]) (by simp[fy]) rfl (g2 none) 'c';exact Jo (XP o) rfl 'b'
theorem Jp(f:rs.length<=5000):∀(n i:Nat)  L  b a,L.length+n<100->∃c d,cw (aA 8) (rg C) (L3.intsFrom (i:Int) n) [z0,z1,z2,z3,z4,z5,!.dat (.list (rs.map aW)),!.own false (.l L),b,a,z10,z11,z12,z13,z14,z15]=.nx [z0,z1,z2,z3,z4,z5,!.dat (.list (rs.map aW)),!.own false (.l (L++(List.range' i n).map λk=>eV (cI rs k))),c,d,z10,z11,z12,z13,z14,z15]
 |0,i,L,b,a,_=>#[b,a,by simp[L3.intsFrom,cw]]
 |n+1,i,L,b,a,h=>by have st:=XQ (C:=C) (k:=i) (L:=L) (z0:=z0) (z1:=z1) (z2:=z2) (z3:=z3) (z4:=z4) (z5:=z5) (x9:=a) (z10:=z10) (z11:=z11) (z12:=z12) (z13:=z13) (z14:=z14) (z15:=z15) f 'b';obtain⟨c,d,e⟩:=Jp f n (i+1) (L++[eV (cI rs i)]) (!.dat (bS i)) (!.dat (.list ((cI rs i).map λw=>PyData.str (bY w)))) (by simp;lia);refine#[c,d,?_];rw[rr,cw,show(i+1)=((i+1:Nat):Int) by lia,q2L,q0d];rw[q0x]at e;rw[show L++eV (cI rs i)::(List.range' (i+1) n).map (λk=>eV (cI rs k))=L++([eV (cI rs i)]++(List.range' (i+1) n).map λk=>eV (cI rs k)) from rfl,<-e];generalize rg C=bb at *;generalize rs.map aW=g at *;generalize eV (cI rs i)=T at *;generalize ((cI rs i).map λw=>PyData.str (bY w))=D at *;simp[st]
theorem rJ(d:∀r,t (some (.dat (aW r))::c)=.ok (p r) (some (.dat (aW r))::c))(g:∀r,e (some (.dat (aW r))::c)=.ok (f r) (some (.dat (aW r))::c)):∀(a:List bi)  b  x,b.length+a.length<=5000->bB (aA 0) t e (a.map aW) b (x::c)=some (b++(a.filter p).map f)
 |[],b,x,_=>by simp[bB]
 |r::a,b,x,h=>by
  have sz:10000<sizeLine:=by decide
  simp only[q0i]at h;rw[q0d,bB];simp only[aA,q0H,d];cases q:p r with
  |true=>simp only[g];rw[if_pos 'b',rJ d g a _ _ (by simp;lia),q1g,if_pos q];simp
  |false=>simp only;rw[rJ d g a _ _ 'b',q1g,if_neg (by rw[q];exact q0F)]
theorem nC(r):aG (aW r) (.int 0)=!.int r.mo/\aG (aW r) (.int 1)=!.int r.ru/\aG (aW r) (.int 2)=!.str (bY r.wd)/\ow (aW r) (!3) none=!ai (bp r):=#[rfl,rfl,rfl,rfl]
theorem XR(a)(h:a.length<=5000):bB (aA 0) (vb C) (vc C) (a.map aW) [] [none]=!(aF a).map ai:=by
 have:=rJ (c:=[]) (t:=vb C) (e:=vc C) (p:=λr=>decide (r.wd=.begun)) (f:=λr=>ai (bp r)) (λr=>by
  obtain⟨g,i,b,d⟩:=nC r;generalize aW r=R at *;simp[-aG,vb,b,(vD r.wd)]) (λr=>by
  obtain⟨g,i,b,d⟩:=nC r;generalize ai (bp r)=K at *;generalize aW r=R at *;simp[vc,d]) a [] none (by simpa using h)
 rw[this,q0y];unfold aF;rw[q0z];rfl
theorem XS(a)(h:a.length<=5000):bB (aA 0) (vf C) (vg C) (a.map aW) [] [none]=!(aO a).map PyData.int:=by
 have:=rJ (c:=[]) (t:=vf C) (e:=vg C) (p:=λr=>decide (r.wd=.done)) (f:=λr=>PyData.int r.ru) (λr=>by
  obtain⟨g,b,d,i⟩:=nC r;generalize aW r=R at *;simp[-aG,vf,d,(vE r.wd)]) (λr=>by
  obtain⟨g,b,d,i⟩:=nC r;generalize aW r=R at *;simp[-aG,vg,b]) a [] none (by simpa using h)
 rw[this,q0y];unfold aO;rw[q0z];rfl
theorem XU(a)(l:List Int):a.count l=bQ a l:=by
 unfold List.count bQ
 congr 1
 funext x
 by_cases h:x=l<;>simp[h]
theorem XV(d:∀l∈c,l≠[])(l):kF (c.map ai) (ai l)=!.int (bQ c l:Nat):=by
 have h1:c.all (λr=>not r.isEmpty)=true:=q0O.mpr λl e=>by
  cases l with
  |nil=>exact absurd rfl (d _ e)
  |cons a b=>rfl
 have h2:fu (l.map PyData.int)=!l:=by
  induction l with
  |nil=>rfl
  |cons a l f=>rw[q0d,fu,f];rfl
 unfold kF ai;rw[show(c.map λr=>PyData.tuple (r.map PyData.int))=c.map ai from rfl,rF];simp only[h2,h1,if_true,XU]
theorem XW(b a):gp (b.map PyData.int) (.int a)=!.int (bQ b a:Nat):=by
 have h1:∀b:List Int,kA (b.map PyData.int)=!b.map V.int:=λb=>by
  induction b with
  |nil=>rfl
  |cons k b c=>rw[q0d,kA,c];rfl
 unfold gp;rw[h1];simp only[oh]
 congr 3
 rw[List.countP_map];rfl
theorem Jq(d:∀l∈ks,l≠[]):∀(c:List (List Int))  b  x,b.length+c.length<900->(∀l∈c,l.length<=900)->bB (aA 0) (vd C) (ve C) (c.map ai) b [x,!.dat (.list (ks.map ai))]=some (b++((c.filter λl=>decide (1<bQ ks l)).map λl=>ai (l++[(bQ ks l:Int)])))
 |[],b,x,_,_=>by simp[bB]
 |l::c,b,x,i,e=>by
  have sz:1000<sizeLine:=by decide
  simp only[q0i]at i;have g:=XV d l;have f:=λb x h=>Jq (C:=C) d c b x h λa j=>e a (bH _ j);have o:=e l q0h;have k:vd C [!.dat (ai l),!.dat (.list (ks.map ai))]=.ok (decide (1<bQ ks l)) [!.dat (ai l),!.dat (.list (ks.map ai))]:=by
   generalize ks.map ai=K at *;generalize ai l=R at *;generalize bQ ks l=n at *;have:(decide ((1:Int)<(n:Int)))=decide (1<n):=by
    by_cases h:1<n
    .rw[decide_eq_true h,decide_eq_true 'b']
    .rw[decide_eq_false h,decide_eq_false 'b']
   simp[vd,gK,g,this]
  have m:ve C [!.dat (ai l),!.dat (.list (ks.map ai))]=.ok (ai (l++[(bQ ks l:Int)])) [!.dat (ai l),!.dat (.list (ks.map ai))]:=by
   have ct:∀n:Int,eZ (ai l) (.tuple [.int n])=!ai (l++[n]):=λn=>by unfold ai;simp[eZ,show l.length+1<=sizeLine by lia]
   have:=ct (bQ ks l:Int);generalize ai (l++[(bQ ks l:Int)])=R2 at *;generalize ks.map ai=K at *;generalize ai l=R at *;generalize bQ ks l=n at *;simp[-eZ,ve,gK,g,this]
  rw[q0d,bB];simp only[aA,q0H,k];cases hd:decide (1<bQ ks l) with
  |true=>simp only[m];rw[if_pos 'b',f _ _ (by simp;lia),q1g,if_pos hd];simp
  |false=>simp only;rw[f _ _ 'b',q1g,if_neg (by rw[hd];exact q0F)]
theorem Jr:∀(c:List Int)  b  x,b.length+c.length<900->bB (aA 0) cW (vh C) (c.map PyData.int) b [x,!.dat (.list (ks.map PyData.int))]=some (b++c.map λa=>ai [a,(bQ ks a:Int)])
 |[],b,x,_=>by simp[bB]
 |a::c,b,x,d=>by
  have sz:1000<sizeLine:=by decide
  simp only[q0i]at d;have g:=XW ks a;have f:vh C [!.dat (.int a),!.dat (.list (ks.map PyData.int))]=.ok (ai [a,(bQ ks a)]) [!.dat (.int a),!.dat (.list (ks.map PyData.int))]:=by generalize ks.map PyData.int=K at *;generalize bQ ks a=n at *;unfold vh;generalize gp=h at *;simp[g,ai]
  rw[q0d,pd f 'b',(Jr (C:=C) c (b++[ai [a,(bQ ks a)]]) (!.dat (.int a)) (by simp;lia))];simp
theorem XY(a:List bi)(i)(h:i<=a.length)(b:a.length<900):ow (.list (a.map aW)) none (!(i:Int))=!.list ((a.take i).map aW):=by have e:HT.sIx (a.map aW).length (a.map aW).length (!i)=min i (a.map aW).length:=HT.sIx_nat _ _ i;rw[q0b,Nat.min_eq_left h]at e;show some (PyData.list (L3.cutD ..))=_;unfold L3.cutD;rw[q0b,e,show HT.sIx a.length 0 none=0 from rfl,List.drop_zero,Nat.sub_zero,q22]
theorem XZ(h:l≠[]):aG (.list (l.map PyData.int)) (.int (-1))=!.int (l.getLast h):=by
 have e:l.map PyData.int=l.dropLast.map PyData.int++[.int (l.getLast h)]:=by
  conv=>lhs;rw[<-List.dropLast_concat_getLast h]
  rw[q1k];rfl
 rw[e];exact dS
theorem Ya(a b):aI false (ai a) (ai b)=!.bool (decide (a=b)):=by simp[aI,WI,EM]
theorem Yb(e:d=pre++r::post)(o:d.length<900)(hL:L.length<900)(hd:r.wd=.done->lN pre r.dd r.ct) :
  ∃s,oP C [z0,z1,z2,z3,z4,z5,!.dat (.list (d.map aW)),z7,z8,z9,z10,z11,!.own false (.l (L.map ai)),!.dat (.int pre.length),!.dat (aW r),x15]=.nx [z0,z1,z2,z3,z4,z5,!.dat (.list (d.map aW)),z7,z8,z9,z10,z11,!.own false (.l ((L++if r.wd=.done then[bp r++[r.mo - dW pre (bp r)]]else[]).map ai)),!.dat (.int pre.length),!.dat (aW r),s]:=by
 have sz:10000<sizeLine:=by decide
 obtain⟨I,i1,w,y⟩:=nC r;have m:=vE r.wd;have sl:=XY d pre.length (by rw[e];simp) o;have J:d.take pre.length=pre:=by rw[e];simp
 rw[J]at sl;have lp:pre.length<900:=by rw[e]at o;simp at o;lia
 have M:(L.map ai).length<sizeLine:=by rw[q0b];lia
 by_cases h:r.wd=.done
 .rw[decide_eq_true h]at m;rw[if_pos h];have g:=rJ (c:=[!.dat (aW r)]) (t:=rh C) (e:=vi C) (p:=λx=>decide (x.wd=.begun)&&decide (bp x=bp r)) (f:=λx=>PyData.int x.mo) (λx=>by
   obtain⟨A,N,u,D⟩:=nC x;have ex:=vD x.wd;have O:=Ya (bp x) (bp r);generalize ai (bp x)=K1 at *;generalize ai (bp r)=Q at *;generalize aW x=R at *;generalize aW r=R2 at *;cases q:decide (x.wd=.begun) with
   |true=>rw[q]at ex;simp[-aG,rh,u,ex,D,y,O]
   |false=>
    rw[q]at ex;simp[-aG,rh,u,ex]) (λx=>by
   obtain⟨A,N,u,D⟩:=nC x;generalize aW x=R at *;generalize aW r=R2 at *;simp[-aG,vi,A]) pre [] none (by simp;lia)
  rw[q0y,show(pre.filter λx=>decide (x.wd=.begun)&&decide (bp x=bp r)).map (λx=>PyData.int x.mo)=((pre.filter λx=>decide (x.wd=.begun)&&decide (bp x=bp r)).map bi.mo).map PyData.int by rw[q0z];rfl]at g;have v:∃a,(((pre.filter λx=>decide (x.wd=.begun)&&decide (bp x=bp r)).map bi.mo).getLast a)=dW pre (bp r):=by
   have a:(pre.filter λx=>decide (x.wd=.begun)&&decide (bp x=bp r))≠[]:=λz=>by obtain⟨x,S,T,X,Y⟩:=hd h;have:x∈pre.filter λx=>decide (x.wd=.begun)&&decide (bp x=bp r):=q1P.mpr #[S,by rw[q0I];exact#[decide_eq_true T,decide_eq_true (by rw[bp,bp,X,Y])]];rw[z]at this;cases this
   refine#[by simpa using a,?_];unfold dW;rw[List.getLast?_eq_some_getLast a,List.getLast_map];rfl
  obtain⟨a,v⟩:=v;have E:=XZ a;rw[v]at E;have ll:(((pre.filter λx=>decide (x.wd=.begun)&&decide (bp x=bp r)).map bi.mo).map PyData.int).length<=sizeLine:=by have:=q1c (λx:bi=>decide (x.wd=.begun)&&decide (bp x=bp r)) pre;rw[q0b,q0b];lia
  have ct:eZ (ai (bp r)) (.tuple [.int (r.mo - dW pre (bp r))])=!ai (bp r++[r.mo - dW pre (bp r)]):=by unfold ai;simp[eZ,show(3:Nat)<=sizeLine by lia]
  rw[q1k,q2t];generalize ((pre.filter λx=>decide (x.wd=.begun)&&decide (bp x=bp r)).map bi.mo).map PyData.int=B at *;generalize ai (bp r++[r.mo - dW pre (bp r)])=K3 at *;generalize ai (bp r)=Q at *;generalize dW pre (bp r)=Z at *;generalize L.map ai=b at *;generalize d.map aW=j at *;generalize pre.map aW=PP at *;generalize aW r=R at *;generalize (pre.length:Int)=pl at *;refine#[!.dat (.list B),?_];unfold oP;generalize rh C=G at *;generalize vi C=H at *;have s1:=nB (n:=1) (caps:=[14]) (src:=dG (jJ (xV 6) jH (jI (xV 13)))) (g:=aA 0) (t:=G) (e:=H) (U:=[z0,z1,z2,z3,z4,z5,!.dat (.list j),z7,z8,z9,z10,z11,!.own false (.l b),!.dat (.int pl),!.dat R,x15]) (ph (by simp[sl])) rfl g ll;have s2:=jC (i:=15) s1 'c';have s3:(aj eZ (jJ (xV 14) (jI (xC (.int 3))) jH) (cn (av (aj iP (aj aG (xV 14) (xC (.int 0))) (aj aG (xV 15) (ko (xC (.int 1))))) aM))) [z0,z1,z2,z3,z4,z5,!.dat (.list j),z7,z8,z9,z10,z11,!.own false (.l b),!.dat (.int pl),!.dat R,!.dat (.list B)]=.ok K3 [z0,z1,z2,z3,z4,z5,!.dat (.list j),z7,z8,z9,z10,z11,!.own false (.l b),!.dat (.int pl),!.dat R,!.dat (.list B)]:=by simp[-aG,-eZ,I,y,E,ct,show(1:Nat)<=sizeLine by lia]
  have s4:=Jo (i:=12) (io:=false) (L:=b) s3 rfl M;generalize ef 1 [14] (dG (jJ (xV 6) jH (jI (xV 13)))) (aA 0) G H=XX at *;generalize aj eZ (jJ (xV 14) (jI (xC (.int 3))) jH) (cn (av (aj iP (aj aG (xV 14) (xC (.int 0))) (aj aG (xV 15) (ko (xC (.int 1))))) aM))=YY at *;have k:aZ (aj (aI false) (aj aG (xV 14) (xC (.int 2))) (xC (.str "done"))) [z0,z1,z2,z3,z4,z5,!.dat (.list j),z7,z8,z9,z10,z11,!.own false (.l b),!.dat (.int pl),!.dat R,x15]=.ok true [z0,z1,z2,z3,z4,z5,!.dat (.list j),z7,z8,z9,z10,z11,!.own false (.l b),!.dat (.int pl),!.dat R,x15]:=by simp[-aG,w,m]
  generalize aZ (aj (aI false) (aj aG (xV 14) (xC (.int 2))) (xC (.str "done")))=TT at *;simp only[bO,k,dE];rw[rq s2];exact s4
 .rw[decide_eq_false h]at m;rw[if_neg h,q0G];refine#[x15,?_];generalize L.map ai=b at *;generalize d.map aW=j at *;generalize aW r=R at *;generalize (pre.length:Int)=pl at *;have k:aZ (aj (aI false) (aj aG (xV 14) (xC (.int 2))) (xC (.str "done"))) [z0,z1,z2,z3,z4,z5,!.dat (.list j),z7,z8,z9,z10,z11,!.own false (.l b),!.dat (.int pl),!.dat R,x15]=.ok false [z0,z1,z2,z3,z4,z5,!.dat (.list j),z7,z8,z9,z10,z11,!.own false (.l b),!.dat (.int pl),!.dat R,x15]:=by simp[-aG,w,m]
  unfold oP;generalize aZ (aj (aI false) (aj aG (xV 14) (xC (.int 2))) (xC (.str "done")))=TT at *;simp only[bO,k,dE,bW,q0J,if_false]
theorem Js(p:rs.length<900):∀post pre  L  b c a,rs=pre++post->L.length+post.length<900->nv pre post->∃g j f,cw (gG 2 (cE (aA 13) (cE (aA 14) jd))) (oP C) ((post.map aW).mapIdx λi d=>PyData.tuple [.int ((pre.length+i:Nat):Int),d]) [z0,z1,z2,z3,z4,z5,!.dat (.list (rs.map aW)),z7,z8,z9,z10,z11,!.own false (.l (L.map ai)),b,c,a]=.nx [z0,z1,z2,z3,z4,z5,!.dat (.list (rs.map aW)),z7,z8,z9,z10,z11,!.own false (.l ((L++eU pre post).map ai)),g,j,f]
 |[],pre,L,b,c,a,_,_,_=>#[b,c,a,by simp[cw,eU]]
 |r::post,pre,L,b,c,a,e,h,hd=>by
  simp only[q0i]at h;obtain⟨f,st⟩:=Yb (C:=C) (L:=L) (z0:=z0) (z1:=z1) (z2:=z2) (z3:=z3) (z4:=z4) (z5:=z5) (z7:=z7) (z8:=z8) (z9:=z9) (z10:=z10) (z11:=z11) (x15:=a) e p 'b' hd.1;have l2:(L++if r.wd=.done then[bp r++[r.mo - dW pre (bp r)]]else[]).length<=L.length+1:=by rw[q0u];split<;>simp
  obtain⟨k,m,n,o⟩:=Js (C:=C) (z4:=z4) p post (pre++[r]) (L++if r.wd=.done then[bp r++[r.mo - dW pre (bp r)]]else[]) (!.dat (.int pre.length)) (!.dat (aW r)) f (by rw[e,q0x];rfl) 'b' hd.2;rw[q0x]at o;have q:((post.map aW).mapIdx λi d=>PyData.tuple [.int (((pre++[r]).length+i:Nat):Int),d])=(post.map aW).mapIdx λi d=>PyData.tuple [.int ((pre.length+(i+1):Nat):Int),d]:=by
   congr 1
   funext i d;rw[show(pre++[r]).length+i=pre.length+(i+1) by simp;lia]
  rw[q]at o;refine#[k,m,n,?_];rw[q0d,List.mapIdx_cons,cw,eU,<-o];generalize ((post.map aW).mapIdx λi d=>PyData.tuple [.int ((pre.length+(i+1):Nat):Int),d])=s at *;generalize (L++if r.wd=.done then[bp r++[r.mo - dW pre (bp r)]]else[]).map ai=L2 at *;generalize L.map ai=t at *;generalize rs.map aW=u at *;generalize aW r=R at *;generalize oP C=bb at *;simp[st]
theorem rK(l):L3.numbered l=l.mapIdx λi d=>PyData.tuple [.int ((0+i:Nat):Int),d]:=by unfold L3.numbered;apply q00;intro i;simp
theorem Yc{a:List PyData}{r:ak}(h:a.length=n):cV gm (av (xV 3) aM) (b::c::d::some (.dat (.tuple a))::r)=.ok (.int n) (b::c::d::some (.dat (.tuple a))::r):=by subst h;simp
theorem zt(c:A U=.ok x a)(d:B a=.ok x b)(e:SeqAt.shaped x=true):bO (aZ (aj (aI true) A B)) (bz (xC (.bool false))) bW U=.nx b:=by have:=HZ e;simp[c,d,this]
theorem Yd(e:a U=.ok x c)(f:b c=.ok y d)(h:g x y=!z):aj g a b U=.ok z d:=by simp[e,f,h]
theorem Ye(c:a U=.ok x b):bz a U=.rt (.dat x) b:=by simp[c]
theorem vI{r:ak}(h:f [.own true (hB C S)]=.rt (.dat D) [hB C S]):aV (aS f (ba 4 aJ)) (a::b::c::d::some (.own false (hB C S))::r)=.ok D (a::b::c::d::some (.own false (hB C S))::r):=by simp[h]
theorem Yf{r:ak}(e:jn C [.own true (hB C S)]=.rt (.dat (.list R)) [hB C S]):aV (dc C 4 "log" (jn C)) (a::b::c::d::some (.own false (hB C S))::r)=.ok (.list R) (a::b::c::d::some (.own false (hB C S))::r):=by simp[dc,ca,e]
theorem zu(h:m U=.ok x a)(b:f [x]=!y):cV f (av m aM) U=.ok y a:=by simp[h,b]
theorem Yg(a):∃L:List (List Int),il a=L.map ai:=#[((TS.sortR (cA a)).filter λl=>decide (1<bQ a l)).map λl=>l++[(bQ a l:Int)],by rw[q0z];rfl]
theorem Yh(b):∃L:List (List Int),jV b=L.map ai:=#[(fx (cA b)).map λa=>[a,(bQ b a)],by rw[q0z];rfl]
theorem Jt:∀a,fu (a.map PyData.int)=some a
 |[]=>rfl
 |k::a=>by rw[q0d,fu,Jt a];rfl
theorem Yi(h:a.length<64):yj [.list (a.map PyData.int)]=!a:=by
 have h1:qK [.list (a.map PyData.int)]=!a:=by unfold qK;simp only[Jt];simp;lia
 unfold yj;rw[h1,q2M,if_pos h]
theorem rL(h:U[i]? = !!.dat d):xV i U=.ok d U:=by simp[h]
theorem Ju(h:U[i]? = !!.own false (.l a)):xV i U=.ok (.list a) (U.set i (!.dat (.list a))):=by simp[h]
theorem Yj(h:U[i]? = !!.dat (.list a)):gn ku (av (xV i) aM) U=.ok (L3.numbered a) U:=by simp[h]
theorem Yl{V}(d:a U=.ok V U)(e:cw g b V U=.nx c):fO a g b U=.nx c:=by simp[d,e]
theorem Ym(i:f.length<=63):Gp C [.scr f]=.rt (.dat (.bool true)) []:=by
 have sz:1000<sizeLine:=by decide
 obtain⟨a,ss,D,h2,s4,rise,ah,top,l1⟩:=VC (ns:=f) (t:=[]) (wd:=40) i 'c' 'b';simp only[q04]at l1;have z:mL a ss:=#[by lia,rise,ah,λp H=>by have:=top p H;lia]
 obtain⟨G,E,hd,l4,l2,h3⟩:=Xf (ns:=f) (t:=D) (most:=4) (wd:=20) i 'b' #[by lia,by lia] #[by lia,by lia];have I:=Vq z;have J:=WE (ds:=G) 'b' hd;obtain⟨S,j,m,o,M,R,hm,N,O,Q,l3,T⟩:=Xh (C:=C) (ns:=f) (t:=E) (most:=40) i 'b' 'b' z 'b' (λd h=>(hd d h).1) I J;have g:rc C [.scr f,.own true (.l E),.dat (cO a ss),.dat (dh G),.dat (.int 40)]=.rt (.own false (.pr C (aq S) (.list j))) [.l o]:=M;subst N O Q;have rl:=R.rl;have X:=rA (C:=C) (S:=S);have Y:=XN (C:=C) (S:=S) 'b' 'b';have Z:=Xu (C:=C) (S:=S) 'b';have br:=Xz (C:=C) (S:=S) 'b';have ld:=XG (C:=C) (S:=S) 'b' R.dn;obtain⟨y8,y9,q⟩:=Jp (C:=C) (rs:=S.rows) (z0:=!.scr f) (z1:=!.own false (.l o)) (z2:=!.dat (cO S.a S.ss)) (z3:=!.dat (dh S.ds)) (z4:=!.own false (hB C S)) (z5:=!.dat (.list j)) (z10:=none) (z11:=none) (z12:=none) (z13:=none) (z14:=none) (z15:=none) 'b' S.ds.length 0 [] none none (by simp;lia);rw[q0y]at q;have bg:=XR (C:=C) S.rows 'b';have bl:=vF S.rows;have dl:=zn S.rows;have dg:=XS (C:=C) S.rows 'b';have ol:=nz (aF S.rows);have sp:=(TS.sortR_perm (cA (aF S.rows))).length_eq;have r:=Jq (C:=C) (ks:=aF S.rows) zp (TS.sortR (cA (aF S.rows))) [] none (by simp;lia) (λl h=>by obtain⟨d,c,e⟩:=zo (Jd h);rw[e];simp);rw[q0y]at r;change bB _ _ _ _ _ _=some (il (aF S.rows)) at r;have al:=Je (aF S.rows);have fr:=Jg (us:=aF S.rows) 'b' zp;have nr:qP [.list ((aF S.rows).map ai)]=!.list ((TS.sortR (cA (aF S.rows))).map ai):=by unfold qP;rw[fr,q1A,Xm]
 have a0:=nz (aO S.rows);have a1:=(q1v (cA (aO S.rows)) λa b=>decide (a<=b)).length_eq;have s:=Jr (C:=C) (ks:=aO S.rows) (fx (cA (aO S.rows))) [] none (by unfold fx;simp;lia);rw[q0y]at s;change bB _ _ _ _ _ _=some (jV (aO S.rows)) at s;have u:(jV (aO S.rows)).length<=sizeLine:=by unfold jV fx;rw[q0b];lia
 have nf:qQ [.list ((aO S.rows).map PyData.int)]=!.list ((fx (cA (aO S.rows))).map PyData.int):=by unfold qQ;rw[Yi 'b',q1A,Xn]
 obtain⟨a2,a3,a4,lo⟩:=Js (C:=C) (rs:=S.rows) (z0:=!.scr f) (z1:=!.own false (.l o)) (z2:=!.dat (cO S.a S.ss)) (z3:=!.dat (dh S.ds)) (z4:=!.own false (hB C S)) (z5:=!.dat (.list j)) (z7:=!.dat (.list ((List.range' 0 S.ds.length).map λk=>eV (cI S.rows k)))) (z8:=y8) (z9:=!.dat (.list ((aF S.rows).map ai))) (z10:=!.dat (.list (il (aF S.rows)))) (z11:=!.dat (.list ((aO S.rows).map PyData.int))) 'b' S.rows [] [] none none none rfl (by simp;lia) R.dn;rw[q0y]at lo;have nb:=rK (S.rows.map aW);simp only[q04]at lo;rw[<-nb]at lo;have so:=Jk (L:=eU [] S.rows) (by have:=zq S.rows [];lia) (zr _ _);have v:SeqAt.shaped (.list ((List.range' 0 S.ds.length).map λk=>eV (cI S.rows k)))=true:=by have:=vt ((List.range' 0 S.ds.length).map λk=>XO S.rows k);rw[q0z]at this;exact this
 have w:SeqAt.shaped (.list (il (aF S.rows)))=true:=by obtain⟨L,e⟩:=Yg (aF S.rows);rw[e];exact vt L
 have x:SeqAt.shaped (.list (jV (aO S.rows)))=true:=by obtain⟨L,e⟩:=Yh (aO S.rows);rw[e];exact vt L
 have y:=HY (vt (TS.sortR (eU [] S.rows)));have de:=oW S.ds;have a5:(S.ds.map dU).length=S.ds.length:=by simp
 rw[de]at h3 g q lo;generalize S.ds.map dU=DD at *;generalize cO S.a S.ss=zd at *;generalize ((List.range' 0 S.ds.length).map λk=>eV (cI S.rows k))=TA at *;generalize il (aF S.rows)=AG at *;generalize jV (aO S.rows)=BR at *;have A:((aF S.rows).map ai).length<=sizeLine:=by rw[q0b];lia
 have B:((aO S.rows).map PyData.int).length<=sizeLine:=by rw[q0b];lia
 generalize (TS.sortR (cA (aF S.rows))).map ai=SR at *;generalize (aF S.rows).map ai=BG at *;generalize (fx (cA (aO S.rows))).map PyData.int=SI at *;generalize (aO S.rows).map PyData.int=DI at *;generalize (eU [] S.rows).map ai=LN at *;generalize (TS.sortR (eU [] S.rows)).map ai=LS at *;generalize S.rows.map aW=RR at *;refine VN (n:=15) ?_;unfold Go;simp only[List.replicate];refine gv (by simp[FQ]<;>rfl) ?_;refine gv (by simp[FR,h2]<;>rfl) ?_;refine gv (by simp[FT,h3]<;>rfl) ?_;refine gv (by simp[FU,qH,qG,g]<;>rfl) ?_;refine gv (by unfold FV;exact jC (Yf X) 'c') ?_;refine gv (by simp[FY]<;>rfl) ?_;refine gv (by
  unfold Gc;exact Iz (m:=cV gm (av (xV 3) aM)) (n:=S.ds.length) 'b' 'b' (Yc 'b') (by rw[q0Z];exact q)) ?_
 refine gv (by
  unfold Gd;exact zt (vI Y) (Ju rfl) v) ?_
 refine gv (by
  unfold Gf;exact jC (nB (n:=1) (caps:=[]) (ph (rL rfl)) rfl bg A) 'c') ?_
 simp only[q0H,q03];refine gv (by
  unfold Gg;exact jC (nB (n:=1) (caps:=[9]) (ph (zu (rL rfl) nr)) rfl r 'b') 'c') ?_
 simp only[q0H,q03];refine gv (by
  unfold Gh;exact jC (nB (n:=1) (caps:=[]) (ph (rL rfl)) rfl dg B) 'c') ?_
 simp only[q0H,q03];refine gv (by
  unfold Gi;exact zt (vI Z) (rL rfl) w) ?_
 refine gv (by
  unfold Gj;exact zt (vI br) (nB (n:=1) (caps:=[11]) (ph (zu (rL rfl) nf)) rfl s u) x) ?_
 refine gv (by simp[Gk]<;>rfl) ?_;refine gv (by
  unfold Gm;exact Yl (Yj rfl) lo) ?_
 unfold Gn;exact#[_,_,Ye (Yd (vI ld) (zu (Ju rfl) so) y)]
end K3
namespace K3
open PySem PySem.Spec L2 L2.L3 PyProof.Rows
theorem Yn{K}(j:GH i H)(k:∀c,c.length<=63->f [.scr c]=.rt (.dat (.bool true)) [])(h:∃a c,vs=[.ref a]/\jA K H a c/\∀d,Q (.bl true) d):gE K i f vs H Q E:=by obtain⟨a,c,rfl,e,q⟩:=h;refine#[j,[.scr c],[[]],[],.oth (λ_ z=>by cases z) (λ_ _ z=>by cases z) #[a,rfl,e] .nil,q1q,λb m=>by simp at m,?_];rw[k c e.1];intro v d n g l _ _;rw[DV.bl_inv l];exact q d
def zv(K:Frag):Sp:=λvs H Q _=>∃a c,vs=[.ref a]/\jA K H a c/\∀b,Q (.bl true) b
abbrev LK(K:Frag)(f:Addr)(a:Value)(b:Option Addr)(n q:Str)(s:Stmt)(k d p:Value)(e:Option Addr)(c t:Value)(l:Array (Option Value)):Prop:=K.lookup f=!#[a,b,.func (fnOf n q (kf s) (ip s) (dY s) .none k d p e c t),l]
abbrev NI(K:Frag)(n:Str)(f:Addr):Prop:=nsIn K mainGlobals n=!some (.ref f)
abbrev NV(K:Frag)(n:Str)(i:Int)(t:Tok):Prop:=nsIn K mainGlobals n=!some (.int i t)
abbrev NZ(K:Frag)(n:Str):Prop:=nsIn K mainGlobals n=!none
abbrev KI(K:Frag)(f:Addr):Prop:=keepIn K (.ref f)=true
theorem all_mk{l:PySem.W.OpenLaw}{K}(X:K.In h)(G:h.Ns mainGlobals mg)(d5:mg "law" = !.ref fa)
  (Z:NI K "Hall" b)
  (l0:DF K "is_whole" Gq)
  (l1:DF K "is_tuple_of" Gr)
  (l2:DF K "is_ahead" Gs)
  (l3:DF K "is_moment" Gu)
  (l4:DF K "is_runner" Gv)
  (l5:DF K "is_term" Gw)
  (l6:DF K "are_shifts" Gx)
  (l7:DF K "is_zone" Gy)
  (l8:DF K "has_word" Gz)
  (l9:DF K "is_plan" GA)
  (e6:DF K "is_late" GB)
  (e7:DF K "is_deed" GC)
  (e8:DF K "are_deeds" GD)
  (e9:DF K "check_zone" GG)
  (f0:DF K "check_moment" GI)
  (f1:DF K "check_deeds" GJ)
  (f2:DF K "check_runner" GK)
  (f3:DF K "check_term" GL)
  (f4:DF K "shown" GN)
  (f5:DF K "stretches" GO)
  (f6:DF K "is_ahead_of" GP)
  (f7:DF K "first_showing" GQ)
  (f8:DF K "first_day" GR)
  (f9:DF K "daily_time" GS)
  (g0:DF K "time_of" GU)
  (g1:DF K "tally" GV)
  (g2:DF K "tallies" GW)
  (g3:DF K "begun_again" GX)
  (g4:DF K "by_runner" GY)
  (g5:DF K "long_done" GZ)
  (g6:DF K "is_left_out" Ha)
  (g7:MF K b "__init__" "Hall.__init__" Hb)
  (g8:MF K b "is_held" "Hall.is_held" Hc)
  (g9:MF K b "check_call" "Hall.check_call" Hd)
  (h0:MF K b "check_holder" "Hall.check_holder" He)
  (h1:MF K b "take" "Hall.take" Hf)
  (h2:MF K b "give" "Hall.give" Hg)
  (h3:MF K b "add_row" "Hall.add_row" Hh)
  (h4:MF K b "is_busy" "Hall.is_busy" Hi)
  (h5:MF K b "first_unsettled" "Hall.first_unsettled" Hj)
  (h6:MF K b "step" "Hall.step" Hk)
  (h7:MF K b "step_behind_a_fall" "Hall.step_behind_a_fall" Hm)
  (h8:MF K b "step_ahead" "Hall.step_ahead" Hn)
  (h9:MF K b "finish" "Hall.finish" Hq)
  (i0:MF K b "log" "Hall.log" Hr)
  (i1:DF K "check_call" Hs)
  (i2:DF K "ask" Ht)
  (i3:DF K "do" Hu)
  (i4:DF K "run" Hv)
  (i5:DF K "_law_cell_at" Hw)
  (i6:DF K "_law_mixed" Hx)
  (i7:DF K "_law_draw" Hy)
  (i8:DF K "_law_pick" Hz)
  (i9:DF K "_law_zone" HA)
  (j0:DF K "_law_plan" HB)
  (j1:DF K "_law_deeds" HD)
  (j2:DF K "_law_called" HE)
  (b7:NI K "law" J)
  (j3:LK K J b2 b0 "law" "law" lm a4 a5 a6 a3 L a7 b1)
  (j4:codeIn K L "law" = true)
  (j5:KI K J)
  (j6:NV K "LAST_MOMENT" (9999) d6)
  (j7:NV K "LAST_HOUR" (23) d7)
  (j8:NV K "LEAST_AHEAD" (-12) d8)
  (j9:NV K "MOST_AHEAD" (14) d9)
  (k0:NV K "MOST_SHIFTS" (6) e0)
  (k1:NV K "MOST_STEP" (999) e1)
  (k2:NV K "MOST_DEEDS" (6) e2)
  (k3:NV K "MOST_WITHIN" (999) e3)
  (k4:NV K "LAST_RUNNER" (3) e4)
  (k5:NV K "MOST_TERM" (99) e5)
  (b8:NV K "DAY_HOURS" (24) b3)
  (b9:NI K "WORDS" o)
  (M:K.lookup o=!#[.type "tuple",A,.seq [.str "begun" p,.str "done" q,.str "left" r,.str "unsure" t].toArray D,B])
  (c0:NV K "PLAN" (0) b4)
  (c1:NV K "LATE" (1) b5)
  (c2:NV K "AGAIN" (2) b6)
  (c3:NI K "LENGTHS" a)
  (x:K.lookup a=!#[.type "dict",none,.dict [#[hashStr w "take",.str "take" d,.int 4 f],#[hashStr w "give",.str "give" g,.int 3 i],#[hashStr w "step",.str "step" j,.int 3 k],#[hashStr w "finish",.str "finish" m,.int 3 n]].toArray u,#[]])
  (k6:NZ K "ANY_ZONE")
  (k7:NZ K "NO_DEEDS")
  (c4:NZ K "all")
  (c5:NZ K "any")
  (k8:NZ K "bool")
  (k9:NZ K "enumerate")
  (c6:NZ K "int")
  (m0:NZ K "isinstance")
  (c7:NZ K "len")
  (m1:NZ K "list")
  (c8:NZ K "max")
  (c9:NZ K "min")
  (m2:NZ K "range")
  (d0:NZ K "set")
  (m3:NZ K "sorted")
  (m4:NZ K "str")
  (m5:NZ K "tuple")
  (d1:NZ K "zip")
  (m6:plainGet K b Str.empty=true)
  (m7:PySem.W.hasDictIn K b=true)
  (m8:PySem.W.plainOver K b=true)
  (m9:findIn K (.ref b) "__setattr__" = !!.builtin "object.__setattr__")
  (d2:PySem.W.makesIn K b=true)
  (d3:KI K b)
  (N:findIn K (.ref b) "begun" = !none)
  (O:findIn K (.ref b) "deeds" = !none)
  (I:findIn K (.ref b) "holder" = !none)
  (R:findIn K (.ref b) "holds" = !none)
  (a0:findIn K (.ref b) "last" = !none)
  (a1:findIn K (.ref b) "rows" = !none)
  (y:findIn K (.ref b) "settled" = !none)
  (S:findIn K (.ref b) "until" = !none)
  (U:findIn K (.ref b) "words" = !none)
  (a2:findIn K (.ref b) "zone" = !none)
  (Y:NI K "DueError" D_)
  (z:(a==sysModules)=false)
  (a8:excIn K D_ pZ "ValueError.__new__" = true)
  (a9:Cz K D_ oF=true) :
  ∃fd,(∀s  v,BindsTo s fd #[[v],[]] [("_law_script",v)])/\∀base,K.In base->base.Ns mainGlobals mg->cD l.prog w K mg base (ej l.prog w) 12 fa fd ["_law_script"] (zv K):=by
 have e:=d5.symm.trans (mg_of X G b7);cases e;have d4:=pE (st:=lm) j3 j4 j5;have n0:FD K mg "law" lm ["_law_script"] _ _:=#[d4,mg_of X G b7,d4.binds λ_ _ _ _ _ _=>tT λ_=>rfl]
 have HC:dj K mg b:=#[#[m6,m7,m8,m9],mg_of X G Z,d2,d3,N,O,I,R,a0,a1,y,S,U,a2,g7.md,g8.md,g9.md,h0.md,h1.md,h2.md,h3.md,h4.md,h5.md,h6.md,h7.md,h8.md,h9.md,i0.md]
 have T:Tx l.prog w K mg:=#[l0.fd X G,l1.fd X G,l2.fd X G,l3.fd X G,l4.fd X G,l5.fd X G,l6.fd X G,l7.fd X G,l8.fd X G,l9.fd X G,e6.fd X G,e7.fd X G,e8.fd X G,e9.fd X G,f0.fd X G,f1.fd X G,f2.fd X G,f3.fd X G,f4.fd X G,f5.fd X G,f6.fd X G,f7.fd X G,f8.fd X G,f9.fd X G,g0.fd X G,g1.fd X G,g2.fd X G,g3.fd X G,g4.fd X G,g5.fd X G,g6.fd X G,i1.fd X G,i2.fd X G,i3.fd X G,i4.fd X G,i5.fd X G,i6.fd X G,i7.fd X G,i8.fd X G,i9.fd X G,j0.fd X G,j1.fd X G,j2.fd X G,#[_,mg_of X G j6],#[_,mg_of X G j7],#[_,mg_of X G j8],#[_,mg_of X G j9],#[_,mg_of X G k0],#[_,mg_of X G k1],#[_,mg_of X G k2],#[_,mg_of X G k3],#[_,mg_of X G k4],#[_,mg_of X G k5],#[_,mg_of X G b8],#[_,mg_of X G b9,_,_,_,M,rfl,rfl,(show(4:Nat)<=sizeLine from by decide),.cons #[_,rfl] (.cons #[_,rfl] (.cons #[_,rfl] (.cons #[_,rfl] (.nil))))],#[_,mg_of X G c0],#[_,mg_of X G c1],#[_,mg_of X G c2],#[_,mg_of X G c3,Sm [#["take",4,d,f],#["give",3,g,i],#["step",3,j,k],#["finish",3,m,n]] x (show(["take","give","step","finish"]:List Str).Nodup from by decide +kernel) z],mg_none_of X G c4,mg_none_of X G c5,mg_none_of X G k8,mg_none_of X G k9,mg_none_of X G c6,mg_none_of X G m0,mg_none_of X G c7,mg_none_of X G m1,mg_none_of X G c8,mg_none_of X G c9,mg_none_of X G m2,mg_none_of X G d0,mg_none_of X G m3,mg_none_of X G m4,mg_none_of X G m5,mg_none_of X G d1,#[D_,#[#[mg_of X G Y,Y,a8],a9,λc C e=>mg_of X G e]]];exact#[fnOf "law" "law" (kf lm) (ip lm) (dY lm) .none a4 a5 a6 a3 L a7,λs v=>.of_eq rfl,λbase _ _=>(Vn _ _ _ T HC n0).imp λvs H Q E h=>Yn (Sl (mg_none_of X G k6) (mg_none_of X G k7) H) (λns hn=>Ym hn) h]
theorem law_walk{l:PySem.W.OpenLaw}{K:Params->Frag}(m:l.most=!63)(e:d.params.defaults=[])
  (p:∀w  h,g w h->(K w.params).In h)
  (F:∀w  c  i  h,(K w.params).In h->h.Ns mainGlobals c->c d.name=!.ref i->
   ∃fd,(∀s  u,BindsTo s fd #[[u],[]] [("_law_script",u)])/\∀base,(K w.params).In base->base.Ns mainGlobals c->cD l.prog w (K w.params) c base (ej l.prog w) 12 i fd ["_law_script"] (zv (K w.params))) :
  PySem.W.WalkO q b j g l.row.toRowW d [] (λf vs=>PySem.call f vs):=by
 refine L2.walk_of m 'd' e #[rfl,by decide,by decide] p F (λw H a A r t v=>?hsp) (λ_ _ _ _ _ y=>by obtain⟨_,_,_,_,_,_,_,_,_,z⟩:=y;exact z);refine#[a,A,rfl,#[r,?_],λ_=>rfl];rcases v with(h1 |h1) |h1
 .rcases t a with h2 |⟨o,B,h2⟩
  .rw[h2]at h1;cases h1
  .rw[h2]at h1;cases h1
 .exact .inl h1
 .exact .inr h1
end K3
end
namespace PySem.W.Fast
def tw16749617808705232101:=Nat
def tw13247974915701743233:=Nat
def tw11457162716079897160:=Nat
def tw4461397477677136962:=Nat
def tw4234401843380821376:=Nat
def tw3090142991266297407:=Nat
def tw11055325997460869601:=Nat
def tw14524688713606213204:=Nat
def tw13746195349954197503:=Nat
def tw17082050198243870009:=Nat
def tw8818056692346346661:=Nat
def tw6049301472655247464:=Nat
def tw6906452406477447519:=Nat
def tw13233058224953341549:=Nat
def tw7342332275428120769:=Nat
def tw14939172181129811893:=Nat
def tw1365772744675736862:=Nat
def tw4325444077500708711:=Nat
def tw17041673583308339432:=Nat
def tw15248298978485888950:=Nat
def tw2348175091830763856:=Nat
def tw13332825945901023945:=Nat
def tw7713290106865307389:=Nat
def tw1538077757472502954:=Nat
def tw4829749194618703470:=Nat
def tw3775746475401797763:=Nat
def tw4215795319495214921:=Nat
def tw6371591298075789405:=Nat
def tw10668034229090966488:=Nat
def tw17671806335521431576:=Nat
def tw16930976628367644337:=Nat
def tw8885790012276478150:=Nat
def tw17830789255654567092:=Nat
def tw12759381092365473078:=Nat
def tw3671774125394351426:=Nat
def tw4931471327622150590:=Nat
def tw1511903705066696192:=Nat
def tw10935548351924089139:=Nat
def tw1094735709593981778:=Nat
def tw8071243913541723482:=Nat
def tw8925719376470130137:=Nat
def tw8648469055708323666:=Nat
def tw14828029704411662659:=Nat
def tw5648111525446486210:=Nat
def tw10067941985838185058:=Nat
def tw2504492305345026403:=Nat
def tw9782099786850829489:=Nat
def tw2995640155648148554:=Nat
def tw4468009847248604265:=Nat
def tw18330373190159197884:=Nat
def tw3440691012296423571:=Nat
def tw1778437369699484510:=Nat
def tw10218879806725002536:=Nat
def tw12892409162205958839:=Nat
def tw17275088232219604369:=Nat
def tw13789127514409826736:=Nat
def tw3779578811870188192:=Nat
def tw10786486533282985807:=Nat
def tw16032386385370420394:=Nat
def tw6271115368629033023:=Nat
def tw1126546398309437726:=Nat
def tw3974704163422136571:=Nat
def tw4490439993998865817:=Nat
def tw14512043314867120378:=Nat
def tw3229214480964005851:=Nat
def tw15172683306167043658:=Nat
def tw988204136638667422:=Nat
def tw5828505158306577864:=Nat
def tw15810255423348852594:=Nat
def tw3176884482143163480:=Nat
def tw1280547689735832172:=Nat
def tw16191546041435443702:=Nat
def tw7461669146804402992:=Nat
def tw16484354839565885903:=Nat
def tw6437529046029983437:=Nat
def tw10053111493263893141:=Nat
def tw11304575577515950992:=Nat
def tw5831525382394812067:=Nat
def tw3712021887834301671:=Nat
def tw16054655885528867409:=Nat
def tw16830352337209594365:=Nat
def tw11243911186335122227:=Nat
def tw10556809207710825787:=Nat
def tw2348014338085804919:=Nat
def tw9235453882402690542:=Nat
def tw6222209040850327473:=Nat
def tw5475836667698438812:=Nat
def tw3156777320915997197:=Nat
def tw8682134033908441209:=Nat
def tw15782970923153520851:=Nat
def tw11199567961240715091:=Nat
def tw9857455605470406298:=Nat
def tw14531619391295441155:=Nat
def tw16338666143989885718:=Nat
def tw12105787723335843569:=Nat
def tw4304182177148098203:=Nat
def tw18411865888174425530:=Nat
def tw12841541492180162089:=Nat
def tw686137696291727610:=Nat
def tw13977963234341422778:=Nat
def tw13757878722850596060:=Nat
def tw5245891992385629418:=Nat
def tw1616726225703859375:=Nat
def tw17809529370780202450:=Nat
def tw8299962706982330050:=Nat
def tw6223656768035349470:=Nat
def tw18335316309100461748:=Nat
def tw14239825612478485982:=Nat
def tw8312247934153464209:=Nat
def tw16216615473153358617:=Nat
def tw7614125070337785046:=Nat
def tw9703539220087987811:=Nat
def tw15972268552766766760:=Nat
def tw9780664616378043718:=Nat
def tw63548228585140332:=Nat
def tw5463540249525405853:=Nat
def tw17662865647670629445:=Nat
def tw13828108039862097810:=Nat
def tw15521204741391861642:=Nat
def tw12639448348463877964:=Nat
def tw17268761479907401003:=Nat
def tw8682791926050774471:=Nat
def tw5943955002756654815:=Nat
def tw11937554357900113030:=Nat
def tw11210292979645370451:=Nat
def tw16396832751452934205:=Nat
def tw6180294200851114119:=Nat
def tw4464180653278623282:=Nat
def tw17908503262694433410:=Nat
def tw13868575778522397396:=Nat
def tw13023243316593984326:=Nat
def tw11347281751515192753:=Nat
def tw8168228964454478199:=Nat
def tw17591723398466824263:=Nat
def tw12531815984935352748:=Nat
def tw2232263288244423922:=Nat
def tw6542256821476925751:=Nat
def tw5257660077049656507:=Nat
def tw8291862575328078047:=Nat
def tw1815842092200459943:=Nat
def tw17631017655456819891:=Nat
def tw15206645426605655135:=Nat
def tw18155375743990867458:=Nat
def tw18075187751573226704:=Nat
def tw17307590668207038922:=Nat
def tw8130152499496341418:=Nat
def tw8409539485457273206:=Nat
def tw15358571033495292892:=Nat
def tw17519731295448653560:=Nat
def tw7772998211602529254:=Nat
def tw7207363724925478776:=Nat
def tw17988564353469227678:=Nat
def tw13477068281668934474:=Nat
def tw6643555794321208061:=Nat
def tw4353009192023738829:=Nat
def tw2874805475629645261:=Nat
def tw3737798657226550194:=Nat
def tw15421943566298614335:=Nat
def tw11474052994400072436:=Nat
def tw4351049503050427118:=Nat
def tw17428055051803537931:=Nat
def tw7522785446042558899:=Nat
def tw8191963834197238700:=Nat
def tw14222366217791032701:=Nat
def tw6337312339902019439:=Nat
def tw142889027550315156:=Nat
def tw11589387583366926457:=Nat
def tw10881906090772875742:=Nat
def tw10215889686825485616:=Nat
def tw6256842236983610422:=Nat
def tw6169547171164726594:=Nat
def tw1307708936204864278:=Nat
def tw9346003871243856449:=Nat
def tw142294665458893804:=Nat
def tw13887465425270964316:=Nat
def tw12017586503419099185:=Nat
def tw11902925966112869568:=Nat
def tw12983582099896698361:=Nat
def tw14587780245944586844:=Nat
def tw14463088587420047222:=Nat
def tw12611616693439420507:=Nat
def tw10640702774711321496:=Nat
def tw3433835078251631773:=Nat
def tw16076079141501779821:=Nat
def tw12326591526415681931:=Nat
def tw12074703047968831320:=Nat
def tw13137930685458782733:=Nat
def tw6647478277176886795:=Nat
def tw14123490603591329065:=Nat
def tw17873541987354712193:=Nat
def tw170477313314064515:=Nat
def tw1609432748960622254:=Nat
def tw15421140860970022753:=Nat
def tw12857799933766009227:=Nat
def tw463994379477292371:=Nat
def tw13439381251463949659:=Nat
def tw928984723441367674:=Nat
def tw1688750027174018863:=Nat
def tw15060546665018102738:=Nat
def tw3156471463662738375:=Nat
def tw17368995458309909637:=Nat
def tw10037299052647180805:=Nat
def tw7107471416508620445:=Nat
def tw607875807481065732:=Nat
def tw4771959285928385467:=Nat
def tw18115499918820946680:=Nat
def tw17949238340381116638:=Nat
def tw15495155979665043024:=Nat
def tw1525272811926872479:=Nat
def tw1296064256471922290:=Nat
def tw11622668435170667294:=Nat
def tw9907625215652439530:=Nat
def tw9518890774370310913:=Nat
def tw7819873260422906816:=Nat
def tw662464343601632074:=Nat
def tw5326171347670030695:=Nat
def tw4574175476321760322:=Nat
def tw444703932624451864:=Nat
def tw3995251318593643476:=Nat
def tw2456894898764550376:=Nat
def tw15582624969416873413:=Nat
def tw13034439642810479506:=Nat
def tw12238308611342998247:=Nat
def tw10783563679951755306:=Nat
def tw10653854240026331460:=Nat
def tw6171989354717248299:=Nat
def tw6718310917477325374:=Nat
def tw13042296539922606174:=Nat
def tw7375975957494544836:=Nat
def tw9021428992977774865:=Nat
def tw17136318236511267690:=Nat
def tw10004600282900774271:=Nat
def tw10029983032476454344:=Nat
def tw1021373990917751000:=Nat
def tw10282976527105321221:=Nat
def tw10289797861242848872:=Nat
def tw10337469322619210474:=Nat
def tw1035958131299949666:=Nat
def tw10522659206490564736:=Nat
def tw10716886471309264415:=Nat
def tw10783624190246176274:=Nat
def tw10929249070134436699:=Nat
def tw11057707260550366563:=Nat
def tw11089717107260888403:=Nat
def tw11516408984654612911:=Nat
def tw12013392236603405526:=Nat
def tw12315549112417548266:=Nat
def tw12691430539424178791:=Nat
def tw12814739013400396179:=Nat
def tw12827215085125994251:=Nat
def tw12891675866987184709:=Nat
def tw13136168218745898675:=Nat
def tw13371779511235100360:=Nat
def tw13567258878192900088:=Nat
def tw13676874599897415763:=Nat
def tw13759936158530333443:=Nat
def tw1389045988317903224:=Nat
def tw1396120041649300977:=Nat
def tw13985932832709103115:=Nat
def tw14475249186564518041:=Nat
def tw14662184160775831202:=Nat
def tw14724198053829979367:=Nat
def tw14947357543762304343:=Nat
def tw14977208907227173295:=Nat
def tw15079773612494047990:=Nat
def tw15120055604168049060:=Nat
def tw15161505117828029589:=Nat
def tw15266160475206539499:=Nat
def tw15271338679023548376:=Nat
def tw15359349053416640829:=Nat
def tw15475674519927340484:=Nat
def tw15675703497633386991:=Nat
def tw15815560002914012410:=Nat
def tw15836889882935383041:=Nat
def tw1595791894509713279:=Nat
def tw16014564736537564434:=Nat
def tw16127295274589036490:=Nat
def tw16183091123930642966:=Nat
def tw1640550838452768558:=Nat
def tw16447934922874342911:=Nat
def tw16625795720124716591:=Nat
def tw16797461056285744549:=Nat
def tw16799189447175870942:=Nat
def tw16812415896225057661:=Nat
def tw16849910876220266882:=Nat
def tw16929642590608053338:=Nat
def tw1724051486056046397:=Nat
def tw173057045171998831:=Nat
def tw17619464588862212858:=Nat
def tw17781243821550818442:=Nat
def tw18078023990388030416:=Nat
def tw18317450560634042680:=Nat
def tw1858565756856418261:=Nat
def tw1861345935930123169:=Nat
def tw2520636546114200652:=Nat
def tw2627601258206592281:=Nat
def tw2645300040958855438:=Nat
def tw2775095651620838474:=Nat
def tw2784867553985656738:=Nat
def tw2833921292015332199:=Nat
def tw2893661569072635106:=Nat
def tw2996260322447806484:=Nat
def tw3043572434503017681:=Nat
def tw3465753806843039642:=Nat
def tw3575551513810458424:=Nat
def tw3577285972305166892:=Nat
def tw3617958575622740320:=Nat
def tw3732356576469703520:=Nat
def tw3806905244873110388:=Nat
def tw3884007658981969134:=Nat
def tw3943184439852235081:=Nat
def tw3952751078563498391:=Nat
def tw412979405779633577:=Nat
def tw4228128887251768074:=Nat
def tw4342573743997547185:=Nat
def tw5138697852089001622:=Nat
def tw5335388053029062883:=Nat
def tw5594514805339987542:=Nat
def tw5602796835168569003:=Nat
def tw5700567116542284604:=Nat
def tw5910164114529676122:=Nat
def tw6337898085407797026:=Nat
def tw6372830594239511908:=Nat
def tw638650635840539547:=Nat
def tw6470628434363461750:=Nat
def tw6595275847947995991:=Nat
def tw6635739508339677523:=Nat
def tw6658911388196748922:=Nat
def tw6668101366191494382:=Nat
def tw6915431825627649474:=Nat
def tw697366199351800670:=Nat
def tw7063500707382688367:=Nat
def tw7102204804358358751:=Nat
def tw7263271448188905281:=Nat
def tw7574365246144467013:=Nat
def tw7807471403299040525:=Nat
def tw7861415020647776952:=Nat
def tw7900686379407865137:=Nat
def tw801842302959406534:=Nat
def tw8215735738670863962:=Nat
def tw8255451854301766516:=Nat
def tw844245207592623594:=Nat
def tw8609631305675316723:=Nat
def tw9115188718130098133:=Nat
def tw9148825313498826520:=Nat
def tw9166843436061796375:=Nat
def tw9500853951682493733:=Nat
end PySem.W.Fast
open PySem PySem.W PyProof.Rows
set_option maxRecDepth 100000 in
set_option maxHeartbeats 0 in
theorem PySem.Challenge.cw_duehall_k31_whole_logs_told_holds : PySem.Challenge.rw_duehall_k31_whole_logs_told.Holds := by
  w_on;o_law;k_head;(case hw => w_witness2)
  k_fill
  refine K3.law_walk (l := PySem.Challenge.rw_duehall_k31_whole_logs_told) rfl rfl (fun w h Y => PySem.W.kIn_of Y) ?F
  case F =>
    intro w mg fa h KX G hmg
    refine' K3.all_mk KX G hmg ?a_Hall ?l0 ?l1 ?l2 ?l3 ?l4 ?l5 ?l6 ?l7 ?l8 ?l9 ?l10 ?l11 ?l12 ?l13 ?l14 ?l15 ?l16 ?l17 ?l18 ?l19 ?l20 ?l21 ?l22 ?l23 ?l24 ?l25 ?l26 ?l27 ?l28 ?l29 ?l30 ?l31 ?l32 ?l33 ?l34 ?l35 ?l36 ?l37 ?l38 ?l39 ?l40 ?l41 ?l42 ?l43 ?l44 ?l45 ?l46 ?l47 ?l48 ?l49 ?l50 ?l51 ?l52 ?l53 ?l54 ?l55 ?l56 ?a57 ?l57 ?c57 ?k57 ?v4_ ?v8_ ?v3_ ?v5_ ?v1_ ?v9_ ?v6_ ?v0_ ?v2_ ?v7_ ?v10_ ?v13_ ?w_WORDS ?v15_ ?v14_ ?v12_ ?v11_ ?w_LENGTHS ?z2_ ?z3_ ?z15_ ?z13_ ?z8_ ?z1_ ?z10_ ?z0_ ?z16_ ?z7_ ?z11_ ?z12_ ?z5_ ?z14_ ?z4_ ?z9_ ?z6_ ?z17_ ?pg_ ?hd_ ?po_ ?sa_ ?mks_ ?kpC_ ?n_begun ?n_deeds ?n_holder ?n_holds ?n_last ?n_rows ?n_settled ?n_until ?n_words ?n_zone ?a_Due ?y_LENGTHS ?x_Due ?x_tab
    (case a_Hall => (first |unfold K3.LK |unfold K3.NI |unfold K3.NV |unfold K3.NZ |unfold K3.KI |skip);k_is)
    (case l0|l1|l2|l3|l4|l5|l6|l7|l8|l9|l10|l11|l12|l13|l14|l15|l16|l17|l18|l19|l20|l21|l22|l23|l24|l25|l26|l27|l28|l29|l30|l45|l46|l47|l48|l49|l50|l51|l52|l53|l54|l55|l56 => exact⟨_,_,_,_,_,_,_,_,_,_,by k_is,by k_is,by k_is,by k_is⟩)
    (case l31|l32|l33|l34|l35|l36|l37|l38|l39|l40|l41|l42|l43|l44 => exact⟨_,_,_,_,_,_,_,_,_,_,by k_is,by k_is,by k_is,by k_is,by k_is⟩)
    (case a57|l57|c57|k57|v4_|v8_|v3_|v5_|v1_|v9_|v6_|v0_|v2_|v7_|v10_|v13_|w_WORDS|v15_|v14_|v12_|v11_|w_LENGTHS|z2_|z3_|z15_|z13_|z8_|z1_|z10_|z0_|z16_|z7_|z11_|z12_|z5_|z14_|z4_|z9_|z6_|z17_|pg_|hd_|po_|sa_|mks_|kpC_|n_begun|n_deeds|n_holder|n_holds|n_last|n_rows|n_settled|n_until|n_words|n_zone|a_Due => (first |unfold K3.LK |unfold K3.NI |unfold K3.NV |unfold K3.NZ |unfold K3.KI |skip);k_is)
    (case y_LENGTHS|x_Due|x_tab => first |kernel_rfl |rfl)
