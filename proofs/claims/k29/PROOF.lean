import PyProof.Rows.All
import Wide.All
import OpenK.AllK
import Wide.FinOn
import Lean
import PyProof.EqAt
import PyProof.EqKinds
import PyProof.TupleCall
import PySem.Challenge.RW_duehall_k29_whole_gaps
set_option Elab.async false
set_option linter.all false
set_option maxRecDepth 100000
/-! THE HAND LAYER, for ints, bools, texts, own classes, LISTS and tuples (index, slices, in, append, pop ..), calls, loops. Paste it whole ahead of your own text; what your proof does not reach may be deleted. -/
namespace L2
open PySem PySem.Spec PyProof.Rows

/-- a key: an int or a str -/
abbrev Key := Sum Int Str
def keyIs : Key → Value → Bool
  | .inl k, v => Value.isInt k v
  | .inr x, v => Value.isStrOf x v
def keyH (w : World) : Key → Int
  | .inl k => hashInt k
  | .inr x => hashStr w x
theorem keyIs_shape : ∀ {k : Key} {v : Value}, keyIs k v = true → (∃ i t, k = Sum.inl i ∧ v = Value.int i t) ∨ (∃ x t, k = Sum.inr x ∧ v = Value.str x t)
  | .inl i, v, h => by
    obtain ⟨t, e⟩ := Value.isInt_shape (k := i) (v := v) h
    exact .inl ⟨i, t, rfl, e⟩
  | .inr x, v, h => by
    obtain ⟨t, e⟩ := Value.isStrOf_shape (x := x) (v := v) h
    exact .inr ⟨x, t, rfl, e⟩
theorem key_ll (a b : Int) : decide ((Sum.inl a : Key) = Sum.inl b) = (a == b) := by
  by_cases e : a = b
  · subst e; simp
  · have h : ¬ (Sum.inl a : Key) = Sum.inl b := fun q => e (Sum.inl.inj q)
    rw [decide_eq_false h]
    exact (beq_eq_false_iff_ne.mpr e).symm
theorem key_rr (a b : Str) : decide ((Sum.inr a : Key) = Sum.inr b) = decide (a = b) := by
  by_cases e : a = b
  · subst e; simp
  · have h : ¬ (Sum.inr a : Key) = Sum.inr b := fun q => e (Sum.inr.inj q)
    rw [decide_eq_false h, decide_eq_false e]
theorem key_lr (a : Int) (b : Str) : decide ((Sum.inl a : Key) = Sum.inr b) = false := decide_eq_false (fun q => nomatch q)
theorem key_rl (a : Str) (b : Int) : decide ((Sum.inr a : Key) = Sum.inl b) = false := decide_eq_false (fun q => nomatch q)

def mixKind (prog : Program) (w : World) : PySem.KeyKind prog w Key where
  is := keyIs
  hash := keyH w
  inj := fun v a b ha hb => by
    rcases keyIs_shape ha with ⟨i, t, rfl, rfl⟩ | ⟨x, t, rfl, rfl⟩
    · rcases keyIs_shape hb with ⟨j, u, rfl, e⟩ | ⟨y, u, rfl, e⟩
      · injection e with e1 _; rw [e1]
      · exact nomatch e
    · rcases keyIs_shape hb with ⟨j, u, rfl, e⟩ | ⟨y, u, rfl, e⟩
      · exact nomatch e
      · injection e with e1 _; rw [e1]
  byValue := fun k v h => by
    rcases keyIs_shape h with ⟨i, t, rfl, rfl⟩ | ⟨x, t, rfl, rfl⟩ <;> rfl
  pyHash := fun hv h => by
    rcases keyIs_shape hv with ⟨i, t, rfl, rfl⟩ | ⟨x, t, rfl, rfl⟩
    · exact wpAny_pyHash_int h
    · exact wpAny_pyHash_str h
  eqBool := fun hu hv h => by
    rcases keyIs_shape hu with ⟨i, t, rfl, rfl⟩ | ⟨x, t, rfl, rfl⟩
    · rcases keyIs_shape hv with ⟨j, u, rfl, rfl⟩ | ⟨y, u, rfl, rfl⟩
      · rw [key_ll] at h; exact wpAny_eqBool_int h
      · rw [key_lr] at h; exact SeqAt.EqAt.int_str i t y u _ _ _ _ h
    · rcases keyIs_shape hv with ⟨j, u, rfl, rfl⟩ | ⟨y, u, rfl, rfl⟩
      · rw [key_rl] at h; exact SeqAt.EqAt.str_int x t j u _ _ _ _ h
      · rw [key_rr] at h; exact wpAny_eqBool_str h
  «strs» := fun k x t v h => by
    rcases keyIs_shape h with ⟨i, u, rfl, e⟩ | ⟨y, u, rfl, e⟩
    · exact nomatch e
    · injection e with e1 _
      subst e1
      cases v <;> rfl

end L2

namespace L2
open PySem PySem.Spec PyProof.Rows

/-- a value, without the heap -/
inductive V where
  | non | bl (b : Bool) | int (i : Int) | str (x : Str) | byt (b : Array UInt8) | flt (b : UInt64) | ref (a : Addr) | ty (n : String)
  deriving DecidableEq

def RelV : V → Value → Prop
  | .non, u => u = Value.none
  | .bl b, u => u = Value.bool b
  | .int i, u => ∃ t, u = Value.int i t
  | .str x, u => ∃ t, u = Value.str x t
  | .byt b, u => ∃ t, u = Value.bytes b t
  | .flt b, u => ∃ t, u = Value.float b t
  | .ref a, u => u = Value.ref a
  | .ty n, u => u = Value.type n

abbrev Vals : List V → List Value → Prop := Paired RelV
theorem Vals.length {xs : List V} {us : List Value} (r : Vals xs us) : xs.length = us.length := Paired.length r
theorem Vals.get : ∀ {xs : List V} {us : List Value} {i : Nat} {x : V}, Vals xs us → xs[i]? = some x → ∃ u, us[i]? = some u ∧ RelV x u
  | _, _, _, _, .nil, e => by simp at e
  | _, _, 0, _, .cons r _, e => by simp at e; subst e; exact ⟨_, rfl, r⟩
  | _, _, i + 1, x, .cons _ t, e => by
    obtain ⟨u, h1, h2⟩ := Vals.get (i := i) (x := x) t (by simpa using e)
    exact ⟨u, by simpa using h1, h2⟩
theorem Vals.append : ∀ {xs ys : List V} {us ws : List Value}, Vals xs us → Vals ys ws → Vals (xs ++ ys) (us ++ ws)
  | _, _, _, _, .nil, s => s
  | _, _, _, _, .cons r t, s => .cons r (Vals.append t s)
theorem Vals.take : ∀ {xs : List V} {us : List Value} (n : Nat), Vals xs us → Vals (xs.take n) (us.take n)
  | _, _, 0, _ => .nil
  | _, _, _ + 1, .nil => .nil
  | _, _, n + 1, .cons r t => .cons r (Vals.take n t)
theorem Vals.drop : ∀ {xs : List V} {us : List Value} (n : Nat), Vals xs us → Vals (xs.drop n) (us.drop n)
  | _, _, 0, r => r
  | _, _, _ + 1, .nil => .nil
  | _, _, n + 1, .cons _ t => Vals.drop n t

def RelO : Option V → Option Value → Prop
  | some v, some u => RelV v u
  | none, none => True
  | _, _ => False
def KV {κ : Type} : List (κ × V) → List (κ × Value) → Prop := Paired fun (p : κ × V) (q : κ × Value) => p.1 = q.1 ∧ RelV p.2 q.2

/-- a key of a dict (00_mix): an int or a text -/
def kV : Key → V
  | .inl i => .int i
  | .inr x => .str x

/-- what stands at a tracked address -/
inductive HO where
  /- a list -/
  | lst (xs : List V)
  /- a tuple (never changes) -/
  | tup (xs : List V)
  /- a dict whose keys are ints and texts; one whose keys are tuples of ints and texts (the empty one is both) -/
  | dK (kvs : List (Key × V)) | dT (kvs : List (List Key × V))
  /- a set of ints: its members, its size -/
  | set (S : Int → Bool) (n : Nat)
  /- an instance of the class at C, its dict at dx, its attributes -/
  | ins (C dx : Addr) (fs : List (Str × V))
  /- the dict of the instance at x -/
  | own (x : Addr)
  /- the dict of an exception -/
  | xd (fs : List (Str × V))
  /- a bound method, f of x -/
  | met (f x : Addr)
  /- a range object lo, lo + 1, .. below hi -/
  | rng (lo hi : Int)
  /- a thing that is known to the object (the script; a dict while a loop walks it): read, never written while it is so -/
  | frz (o : Obj) (u : HO)
  /- a code object's table -/
  | tbl (ps : Array Value)
  /- any other thing, by what is true of its one object (a def of one's own: SetO a S n := HO.ext fun h => ..) -/
  | ext (φ : Heap → Prop)

abbrev Hp := Addr → Option HO
def upd (H : Hp) (a : Addr) (o : HO) : Hp := fun b => if b = a then some o else H b
theorem upd_same {H : Hp} {a : Addr} {o : HO} : upd H a o a = some o := by unfold upd; rw [if_pos rfl]
theorem upd_ne {H : Hp} {a b : Addr} {o : HO} (h : b ≠ a) : upd H a o b = H b := by unfold upd; rw [if_neg h]
theorem ne_of_none {H : Hp} {a b : Addr} {o : HO} (h : H a = some o) (h' : H b = none) : a ≠ b := by
  intro e; subst e; rw [h] at h'; cases h'

section
variable (P : Program) (w : World)
def ObjOk (H : Hp) (h : Heap) (a : Addr) : HO → Prop
  | .lst xs => xs.length ≤ sizeLine ∧ ∃ (its : List Value) (n : Nat), Vals xs its ∧ h.get? a = some { cls := .type "list", data := .seq its.toArray n }
  | .tup xs => xs.length ≤ sizeLine ∧ ∃ its : List Value, Vals xs its ∧ IsTup h a its.toArray
  | .dK kvs => kvs.length ≤ sizeLine ∧ (a == sysModules) = false ∧ ∃ vs, KV kvs vs ∧ h.DictOf (mixKind P w) a vs
  | .dT kvs => kvs.length ≤ sizeLine ∧ (a == sysModules) = false ∧ ∃ xs : List (List Key × Addr × Value),
      Paired (fun (p : List Key × V) (q : List Key × Addr × Value) => p.1 = q.1 ∧ H q.2.1 = some (.tup (p.1.map kV)) ∧ RelV p.2 q.2.2) kvs xs ∧
      ∃ o es ep, h.get? a = some o ∧ o.ExactDict ∧ o.data = .dict es ep ∧ es.toList = xs.map (entryOfKey (tupleKind (mixKind P w))) ∧ (xs.map (·.1)).Nodup
  | .set S n => h.SetOf (intKind P w) a S n
  | .ins C dx fs => H dx = some (.own a) ∧ fs.length ≤ 1000 ∧ dx ≠ a ∧ h.get? a = some (PySem.W.instObj C dx) ∧
      ∃ mA, h.Ns1 dx mA ∧ (∀ f, RelO (fs.lookup f) (mA f)) ∧ PySem.Within mA (fs.map (·.1))
  | .own _ => ∃ o, h.get? a = some o
  | .xd fs => ∃ mA, h.Ns1 a mA ∧ ∀ f, RelO (fs.lookup f) (mA f)
  | .rng lo hi => ∃ t u v, h.get? a = some { cls := .type "range", data := .fields #[.int lo t, .int hi u, .int 1 v] }
  | .frz o u => h.get? a = some o ∧ ObjOk H h a u
  | .tbl ps => h.get? a = some { cls := .none, data := .fields ps }
  | .met f x => h.get? a = some (PySem.W.methodObj (.ref f) (.ref x))
  | .ext φ => φ h ∧ (∃ o, h.get? a = some o) ∧ ∀ h1 h2 : Heap, φ h1 → (∀ o, h1.get? a = some o → h2.get? a = some o) → φ h2
/-- the abstract heap is held -/
def HOk (H : Hp) (h : Heap) : Prop := ∀ a o, H a = some o → ObjOk P w H h a o
end

section
variable {P : Program} {w : World} {H H' : Hp} {h h' : Heap} {a : Addr} {o : HO}
theorem ObjOk.lt (x : ObjOk P w H h a o) : a < h.objs.size := by
  cases o with
  | lst xs => obtain ⟨_, _, _, _, e⟩ := x; exact Heap.lt_size e
  | tup xs => obtain ⟨_, _, _, p⟩ := x; exact p.lt
  | dK kvs => obtain ⟨_, _, _, _, o, _, _, e, _⟩ := x; exact Heap.lt_size e
  | dT kvs => obtain ⟨_, _, _, _, o, _, _, e, _⟩ := x; exact Heap.lt_size e
  | set S n => obtain ⟨o, _, _, _, e, _⟩ := x; exact Heap.lt_size e
  | ins C dx fs => obtain ⟨_, _, _, e, _⟩ := x; exact Heap.lt_size e
  | own y => obtain ⟨_, e⟩ := x; exact Heap.lt_size e
  | xd fs => obtain ⟨_, ⟨_, _, _, e, _⟩, _⟩ := x; exact Heap.lt_size e
  | rng lo hi => obtain ⟨_, _, _, e⟩ := x; exact Heap.lt_size e
  | frz ob u => obtain ⟨e, _⟩ := x; exact Heap.lt_size e
  | tbl ps => exact Heap.lt_size (show h.get? a = some _ from x)
  | met f y => exact Heap.lt_size (show h.get? a = some _ from x)
  | ext φ => obtain ⟨_, ⟨_, e⟩, _⟩ := x; exact Heap.lt_size e
theorem Paired.mapP {α β : Type} {F G : α → β → Prop} : ∀ {l₁ : List α} {l₂ : List β}, Paired F l₁ l₂ → (∀ a b, F a b → G a b) → Paired G l₁ l₂
  | _, _, .nil, _ => .nil
  | _, _, .cons r t, f => .cons (f _ _ r) (Paired.mapP t f)
/-- what an object's description leans on: its own object, its own dict, the tuples -/
theorem ObjOk.stay (x : ObjOk P w H h a o) (k : ∀ b u, (b = a ∨ H b = some (.own a)) → h.get? b = some u → h'.get? b = some u)
    (ho : ∀ b, H b = some (.own a) → H' b = some (.own a)) (ht : ∀ b xs, H b = some (.tup xs) → H' b = some (.tup xs)) : ObjOk P w H' h' a o := by
  induction o with
  | lst xs => obtain ⟨z, its, n, r, e⟩ := x; exact ⟨z, its, n, r, k _ _ (.inl rfl) e⟩
  | tup xs => obtain ⟨z, its, r, ob, e, c⟩ := x; exact ⟨z, its, r, ob, k _ _ (.inl rfl) e, c⟩
  | dK kvs => obtain ⟨z, y, vs, r, ob, es, ep, e, c⟩ := x; exact ⟨z, y, vs, r, ob, es, ep, k _ _ (.inl rfl) e, c⟩
  | dT kvs =>
    obtain ⟨z, y, xs, r, ob, es, ep, e, c⟩ := x
    exact ⟨z, y, xs, Paired.mapP r fun p q z => ⟨z.1, ht _ _ z.2.1, z.2.2⟩, ob, es, ep, k _ _ (.inl rfl) e, c⟩
  | set S n => obtain ⟨ob, es, ep, t, e, c⟩ := x; exact ⟨ob, es, ep, t, k _ _ (.inl rfl) e, c⟩
  | ins C dx fs =>
    obtain ⟨d, z, ne, e, mA, ⟨od, es, ep, e2, c⟩, r⟩ := x
    exact ⟨ho _ d, z, ne, k _ _ (.inl rfl) e, mA, ⟨od, es, ep, k _ _ (.inr d) e2, c⟩, r⟩
  | own y => obtain ⟨ob, e⟩ := x; exact ⟨ob, k _ _ (.inl rfl) e⟩
  | xd fs => obtain ⟨mA, ⟨od, es, ep, e, c⟩, r⟩ := x; exact ⟨mA, ⟨od, es, ep, k _ _ (.inl rfl) e, c⟩, r⟩
  | rng lo hi => obtain ⟨t, u, v, e⟩ := x; exact ⟨t, u, v, k _ _ (.inl rfl) e⟩
  | frz ob u ih => obtain ⟨e, q⟩ := x; exact ⟨k _ _ (.inl rfl) e, ih q⟩
  | tbl ps =>
    have e : h.get? a = some { cls := .none, data := .fields ps } := x
    show h'.get? a = some { cls := .none, data := .fields ps }
    exact k a _ (.inl rfl) e
  | met f y =>
    have e : h.get? a = some (PySem.W.methodObj (.ref f) (.ref y)) := x
    show h'.get? a = some (PySem.W.methodObj (.ref f) (.ref y))
    exact k a _ (.inl rfl) e
  | ext φ => obtain ⟨p, ⟨o, e⟩, st⟩ := x; exact ⟨st _ _ p fun o q => k _ _ (.inl rfl) q, ⟨o, k _ _ (.inl rfl) e⟩, st⟩
theorem HOk.lt (x : HOk P w H h) (e : H a = some o) : a < h.objs.size := (x a o e).lt
theorem HOk.fresh (x : HOk P w H h) (e : h.objs.size ≤ a) : H a = none := by
  cases q : H a with
  | none => rfl
  | some u => exact absurd (Nat.lt_of_lt_of_le (x.lt q) e) (Nat.lt_irrefl _)
/-- every object of the heap is kept -/
theorem HOk.kept (x : HOk P w H h) (k : ∀ b u, h.get? b = some u → h'.get? b = some u) : HOk P w H h' := fun a o e =>
  (x a o e).stay (fun b u _ q => k b u q) (fun _ q => q) fun _ _ q => q
/-- a new object is laid and tracked -/
theorem HOk.laid (x : HOk P w H h) (k : ∀ b u, h.get? b = some u → h'.get? b = some u) (hp : h.objs.size ≤ a) (new : ObjOk P w (upd H a o) h' a o) : HOk P w (upd H a o) h' := fun b u e => by
  have hn := x.fresh hp
  by_cases hb : b = a
  · subst hb; rw [upd_same] at e; cases e; exact new
  · rw [upd_ne hb] at e
    exact (x b u e).stay (fun c v _ q => k c v q) (fun c q => by rw [upd_ne (ne_of_none q hn)]; exact q) fun c xs q => by rw [upd_ne (ne_of_none q hn)]; exact q
end

/-- what may be read as u: it is u, or a known u -/
def Rd (H : Hp) (a : Addr) (u : HO) : Prop := H a = some u ∨ ∃ o, H a = some (.frz o u)
theorem Rd.ok {P : Program} {w : World} {H : Hp} {h : Heap} {a : Addr} {u : HO} (r : Rd H a u) (x : HOk P w H h) : ObjOk P w H h a u := by
  rcases r with r | ⟨o, r⟩
  · exact x a u r
  · obtain ⟨_, q⟩ := x a _ r
    exact q
/-- what may be written -/
def Mut : Option HO → Prop
  | some (.lst _) => True
  | some (.dK _) => True
  | some (.dT _) => True
  | some (.set _ _) => True
  | some (.ins _ _ _) => True
  | some (.ext _) => True
  | _ => False
section
variable {P : Program} {w : World} {H : Hp} {h h' : Heap} {x e : Addr} {o' : HO}
/-- the object at e is changed: x itself, or the dict of the instance x -/
theorem HOk.write (ok : HOk P w H h) (mu : Mut (H x)) (he : e = x ∨ H e = some (.own x)) (k : ∀ b u, b ≠ e → h.get? b = some u → h'.get? b = some u) (heo : ∃ u, h'.get? e = some u)
    (new : ObjOk P w (upd H x o') h' x o') : HOk P w (upd H x o') h' := fun b u q => by
  have nown : ∀ c y, H c = some (.own y) → c ≠ x := fun c y r z => by subst z; rw [r] at mu; exact mu
  have ntup : ∀ c xs, H c = some (.tup xs) → c ≠ x := fun c xs r z => by subst z; rw [r] at mu; exact mu
  by_cases hb : b = x
  · subst hb; rw [upd_same] at q; cases q; exact new
  · rw [upd_ne hb] at q
    by_cases hbe : b = e
    · have q' : H b = some (.own x) := by
        rcases he with z | z
        · exact absurd (hbe.trans z) hb
        · rw [hbe]; exact z
      rw [q] at q'; cases q'
      obtain ⟨v, hv⟩ := heo
      exact ⟨v, by rw [hbe]; exact hv⟩
    · refine (ok b u q).stay (fun c v hc r => k c v ?_ r) (fun c r => by rw [upd_ne (nown c b r)]; exact r) fun c xs r => by rw [upd_ne (ntup c xs r)]; exact r
      rcases hc with rfl | hc
      · exact hbe
      · rintro rfl
        rcases he with z | z
        · exact nown c b hc z
        · rw [hc] at z; cases z; exact hb rfl
end

/-! ### kept unless tracked; of the frames at fs (the callers') the slots may change (an exception that passes writes there); of the records at ex (iterators) nothing is said -/
structure Un (fs ex : List Addr) (H H' : Hp) (h h' : Heap) : Prop where
  keep : ∀ b o, h.get? b = some o → H b = none → b ∉ fs → b ∉ ex → h'.get? b = some o
  slot : ∀ b o, h.get? b = some o → H b = none → b ∈ fs → b ∉ ex → ∃ sl, h'.get? b = some { o with slots := sl }
  free : ∀ b o, h.get? b = some o → H b = none → b ∉ ex → H' b = none
  there : ∀ b o, h.get? b = some o → b ∉ ex → ∃ o', h'.get? b = some o'
  tups : ∀ b xs, H b = some (.tup xs) → H' b = some (.tup xs)
  frzs : ∀ b o u, H b = some (.frz o u) → H' b = some (.frz o u)
  tbls : ∀ b ps, H b = some (.tbl ps) → ∃ more, H' b = some (.tbl (ps ++ more))
section
variable {fs fs' ex ex' : List Addr} {H H1 H2 : Hp} {h h1 h2 h' : Heap} {a x e : Addr} {o : HO}
theorem Un.any (u : Un fs ex H H1 h h1) {b : Addr} {ob : Obj} (q : h.get? b = some ob) (n : H b = none) (hx : b ∉ ex) : ∃ sl, h1.get? b = some { ob with slots := sl } := by
  by_cases hb : b ∈ fs
  · exact u.slot b ob q n hb hx
  · exact ⟨ob.slots, u.keep b ob q n hb hx⟩
theorem Un.kept (k : ∀ b u, h.get? b = some u → h'.get? b = some u) : Un fs ex H H h h' :=
  ⟨fun b ob q _ _ _ => k b ob q, fun b ob q _ _ _ => ⟨ob.slots, k b ob q⟩, fun _ _ _ n _ => n, fun b ob q _ => ⟨ob, k b ob q⟩, fun _ _ q => q, fun _ _ _ q => q, fun _ ps q => ⟨#[], by rw [q]; simp⟩⟩
theorem Un.refl : Un fs ex H H h h := Un.kept fun _ _ q => q
theorem Un.laid (k : ∀ b u, h.get? b = some u → h'.get? b = some u) (hp : h.objs.size ≤ a) (hn : H a = none) : Un fs ex H (upd H a o) h h' where
  keep := fun b u q _ _ _ => k b u q
  slot := fun b u q _ _ _ => ⟨u.slots, k b u q⟩
  free := fun b u q n _ => by rw [upd_ne (Nat.ne_of_lt (Nat.lt_of_lt_of_le (Heap.lt_size q) hp))]; exact n
  there := fun b u q _ => ⟨u, k b u q⟩
  tups := fun b xs q => by rw [upd_ne (ne_of_none q hn)]; exact q
  frzs := fun b u xs q => by rw [upd_ne (ne_of_none q hn)]; exact q
  tbls := fun b ps q => ⟨#[], by rw [upd_ne (ne_of_none q hn), q]; simp⟩
theorem Un.write (mu : Mut (H x)) (he : e = x ∨ H e = some (.own x)) (k : ∀ b u, b ≠ e → h.get? b = some u → h'.get? b = some u) (heo : ∃ u, h'.get? e = some u) : Un fs ex H (upd H x o) h h' := by
  have hx : ∀ b, H b = none → b ≠ x := fun b n z => by subst z; rw [n] at mu; exact mu
  have hb : ∀ b, H b = none → b ≠ e := fun b n z => by
    subst z
    rcases he with r | r
    · exact hx b n r
    · rw [n] at r; cases r
  have hm : ∀ b u, H b = some u → ¬ Mut (some u) → b ≠ x := fun b u q nm z => by subst z; rw [q] at mu; exact nm mu
  refine ⟨fun b u q n _ _ => k b u (hb b n) q, fun b u q n _ _ => ⟨u.slots, k b u (hb b n) q⟩, fun b u q n _ => by rw [upd_ne (hx b n)]; exact n, fun b u q _ => ?_,
    fun b xs q => by rw [upd_ne (hm b _ q fun z => z)]; exact q, fun b u xs q => by rw [upd_ne (hm b _ q fun z => z)]; exact q, fun b ps q => ⟨#[], by rw [upd_ne (hm b _ q fun z => z), q]; simp⟩⟩
  by_cases hbe : b = e
  · subst hbe; exact heo
  · exact ⟨u, k b u hbe q⟩
end

/-! ### the heap without what is tracked -/
def trk (h : Heap) (H : Hp) : List Addr := (List.range h.objs.size).filter fun a => (H a).isSome
def hidT (h : Heap) (H : Hp) : Heap := PySem.W.hideAll h (trk h H)
theorem hidT_size (h : Heap) (H : Hp) : (hidT h H).objs.size = h.objs.size := PySem.W.hideAll_size _ _
theorem hidT_get {h : Heap} {H : Hp} {b : Addr} {o : Obj} (e : h.get? b = some o) (n : H b = none) : (hidT h H).get? b = some o :=
  PySem.W.hideAll_get _ e fun hm => by
    have q : (H b).isSome = true := (List.mem_filter.mp hm).2
    rw [n] at q; simp at q
theorem of_hidT {h : Heap} {H : Hp} {b : Addr} {o : Obj} (e : (hidT h H).get? b = some o) : h.get? b = some o ∧ H b = none := by
  have e' : h.get? b = some o := PySem.W.of_hideAll (trk h H) e
  refine ⟨e', ?_⟩
  cases q : H b with
  | none => rfl
  | some x =>
    have hm : b ∈ trk h H := List.mem_filter.mpr ⟨List.mem_range.mpr (Heap.lt_size e'), by simp [q]⟩
    have z : (hidT h H).get? b = none := PySem.W.hideAll_none (trk h H) hm
    rw [z] at e; cases e

/-! ### OpenK's ledger, filled with every new object but one -/
end L2

namespace L2
open PySem PySem.Spec PyProof.Rows

/-- the module's facts, over the base: the heap at the law's entry without what is tracked there -/
structure Mod (K : PySem.W.Frag) (mg : Str → Option Value) (base : Heap) : Prop where
  kin : K.In base
  glob : base.Ns mainGlobals mg
  blt : ∃ mb, base.Ns builtinsNs mb ∧ ∀ x : Str, x ≠ "__name__" → mb x = bootBuiltins x
  nolimit : base.NoLimit

/-- the context: a def's body (or a comprehension's block) running. base: fixed through the whole law; s₀, H₀: the entry; outer: the frames whose slots others may change (a def's callers); stack: all frames that run;
   ex: iterators that were made ahead of the entry and are walked here (a comprehension's); fn: the names whose cells were made at the entry (a def: all; a comprehension's block: its own); calm: not within an except suite; pn: pins that every state bears; xe: what is wanted of an exception that leaves the code -/
structure Cx where
  prog : Program
  w : World
  K : PySem.W.Frag
  mg : Str → Option Value
  base : Heap
  A : Around
  N : List Str
  s₀ : Shared
  H₀ : Hp
  env : Env
  outer : List Env
  stack : List Env
  ex : List Addr
  fn : Str → Bool
  calm : Bool
  pn : List (Addr × Obj)
  xe : Value → Shared → Prop
/-- the callers' frames -/
def frs (l : List Env) : List Addr := l.filterMap (·.frame)
abbrev Cx.fs (X : Cx) : List Addr := frs X.outer

def Vis (sc : Scope) (x : Str) : Prop := sc.names.lookup x = some .local ∨ sc.names.lookup x = some .cell ∨ sc.names.lookup x = some .free
def Loc (sc : Scope) (x : Str) : Prop := sc.names.lookup x = some .local ∨ sc.names.lookup x = some .cell
def Look (env : Env) (h : Heap) (m : Str → Option Value) (x : Str) (u : Value) : Prop :=
  (env.kindOf x = some .local ∧ m x = some u) ∨ ((env.kindOf x = some .cell ∨ env.kindOf x = some .free) ∧ ∃ c, env.cells.lookup x = some c ∧ h.IsCell c (some u))

structure Cx.Ok (X : Cx) : Prop where
  mod : Mod X.K X.mg X.base
  kind : X.env.scope.kind = .function
  glob : X.env.globals = mainGlobals
  blt : X.env.builtins = builtinsNs
  above : X.s₀.heap.objs.size ≤ X.env.locals
  inj : ∀ x y c, X.env.cells.lookup x = some c → X.env.cells.lookup y = some c → x = y
  has : ∀ x, (X.env.kindOf x = some .cell ∨ X.env.kindOf x = some .free) → ∃ c, X.env.cells.lookup x = some c
  cab : ∀ x c, X.fn x = true → X.env.cells.lookup x = some c → X.s₀.heap.objs.size ≤ c
  hd : X.calm = true → X.A.handled = none
  frames : X.A.frames = some X.stack
  stk : X.stack = X.outer ∨ (X.stack = X.env :: X.outer ∧ X.env.frame = some X.env.locals)
  exf : ∀ b ∈ X.ex, b ≠ X.env.locals ∧ ∀ x c, X.env.cells.lookup x = some c → c ≠ b
  bs : ∀ b o, X.base.get? b = some o → X.s₀.heap.get? b = some o ∧ X.H₀ b = none
  bsz : X.base.objs.size ≤ X.s₀.heap.objs.size
  noex : ∀ b o, X.base.get? b = some o → b ∉ X.ex
  exfs : ∀ b ∈ X.ex, b ∉ X.fs
  funs : X.s₀.heap.FunFrames X.base X.outer
  frf : ∀ b ∈ X.fs, X.H₀ b = none

structure Inv (X : Cx) (pins : List (Addr × Obj)) (σ : List (Option V)) (H : Hp) (s : Shared) : Prop where
  ok : X.Ok
  os : s.os = X.s₀.os
  bare : AllBare s.gens
  base : Un X.fs X.ex X.H₀ H X.s₀.heap s.heap
  loc : ∃ m, s.heap.Ns X.env.locals m ∧ ∀ (i : Nat) (x : Str) (v : V), X.N[i]? = some x → σ[i]? = some (some v) → Vis X.env.scope x → ∃ u, RelV v u ∧ Look X.env s.heap m x u
  cell : ∀ x c, X.env.cells.lookup x = some c → ∃ v, s.heap.IsCell c v
  free : H X.env.locals = none
  freeC : ∀ x c, X.env.cells.lookup x = some c → H c = none
  pin : ∀ p ∈ X.pn ++ pins, s.heap.get? p.1 = some p.2 ∧ H p.1 = none ∧ p.1 ≠ X.env.locals ∧ p.1 ∉ X.fs ∧ ∀ v, p.2.data ≠ .cell v
  hok : HOk X.prog X.w H s.heap
  len : σ.length = X.N.length

section
variable {X : Cx} {pins : List (Addr × Obj)} {σ : List (Option V)} {H H' : Hp} {s : Shared} {h' : Heap}

theorem Cx.Ok.nofr (ok : X.Ok) {b : Addr} {o : Obj} (e : X.base.get? b = some o) : b ∉ X.fs := fun hb => by
  have := (ok.funs.mem hb).1
  rw [e] at this; cases this
theorem Inv.bs (I : Inv X pins σ H s) : ∀ b o, X.base.get? b = some o → s.heap.get? b = some o ∧ H b = none := fun b o e =>
  ⟨I.base.keep b o (I.ok.bs b o e).1 (I.ok.bs b o e).2 (I.ok.nofr e) (I.ok.noex b o e), I.base.free b o (I.ok.bs b o e).1 (I.ok.bs b o e).2 (I.ok.noex b o e)⟩
theorem Inv.bk (I : Inv X pins σ H s) : ∀ b o, X.base.get? b = some o → s.heap.get? b = some o := fun b o e => (I.bs b o e).1
theorem Inv.mod (I : Inv X pins σ H s) : Mod X.K X.mg X.base := I.ok.mod
theorem Inv.kIn (I : Inv X pins σ H s) : X.K.In s.heap := I.ok.mod.kin.keeps I.bk
theorem Inv.lt (I : Inv X pins σ H s) : X.env.locals < s.heap.objs.size := let ⟨_, hn, _⟩ := I.loc; hn.lt
theorem Inv.sz (I : Inv X pins σ H s) : X.s₀.heap.objs.size ≤ s.heap.objs.size := Nat.le_trans I.ok.above (Nat.le_of_lt I.lt)
theorem Inv.nofs (I : Inv X pins σ H s) {a : Addr} (h : s.heap.objs.size ≤ a) : a ∉ X.fs := fun hb => by
  obtain ⟨_, o, ho, _⟩ := I.ok.funs.mem hb
  exact absurd (Nat.lt_of_lt_of_le (Heap.lt_size ho) (Nat.le_trans I.sz h)) (Nat.lt_irrefl _)
theorem Inv.cne (I : Inv X pins σ H s) : ∀ x c, X.env.cells.lookup x = some c → c ≠ X.env.locals := fun x c e z => by
  obtain ⟨v, o, ho, hd⟩ := I.cell x c e
  obtain ⟨m, ⟨o', es, ep, ho', hd', _⟩, _⟩ := I.loc
  rw [z, ho'] at ho; cases ho; rw [hd'] at hd; cases hd
theorem Inv.funs (I : Inv X pins σ H s) : s.heap.FunFrames X.base X.outer := by
  have all : ∀ (l : List Env), (∀ b ∈ frs l, b ∈ X.fs) → X.s₀.heap.FunFrames X.base l → s.heap.FunFrames X.base l := by
    intro l
    induction l with
    | nil => intro _ _; trivial
    | cons env r ih =>
      intro hs hl
      obtain ⟨hk, ⟨L, o, hf, hn, ho, hd⟩, hr⟩ := hl
      have hL : L ∈ X.fs := hs L (by unfold frs; rw [List.filterMap_cons, hf]; exact List.mem_cons_self)
      obtain ⟨sl, e⟩ := I.base.slot L o ho (I.ok.frf L hL) hL fun z => I.ok.exfs L z hL
      exact ⟨hk, ⟨L, _, hf, hn, e, hd⟩, ih (fun b hb => hs b (by unfold frs; rw [List.filterMap_cons, hf]; exact List.mem_cons_of_mem _ hb)) hr⟩
  exact all X.outer (fun _ hb => hb) I.ok.funs

/-- the frames that run, for a call -/
theorem Inv.stack (I : Inv X pins σ H s) : s.heap.FunFrames X.base X.stack := by
  rcases I.ok.stk with e | ⟨e, hf⟩
  · rw [e]; exact I.funs
  · rw [e]
    obtain ⟨m, hn, _⟩ := I.loc
    refine .cons (by rw [I.ok.kind]; decide) hf hn ?_ I.funs
    exact Heap.get?_none_of_le (Nat.le_trans I.ok.bsz I.ok.above)
theorem Inv.stkSub (I : Inv X pins σ H s) : ∀ b ∈ frs X.stack, b ∈ X.env.locals :: X.fs := fun b hb => by
  rcases I.ok.stk with e | ⟨e, hf⟩
  · rw [e] at hb; exact List.mem_cons_of_mem _ hb
  · rw [e] at hb
    unfold frs at hb
    rw [List.filterMap_cons, hf] at hb
    exact hb
theorem Inv.stkFree (I : Inv X pins σ H s) : ∀ b ∈ frs X.stack, H b = none := fun b hb => by
  rcases List.mem_cons.mp (I.stkSub b hb) with e | hb
  · rw [e]; exact I.free
  · obtain ⟨_, o, ho, _⟩ := I.ok.funs.mem hb
    exact I.base.free b o ho (I.ok.frf b hb) fun z => I.ok.exfs b z hb

/-- THE STEP: the untracked objects but the frame and the records at ch are kept (the callers' frames up to slots), the frame's map is kept, the new abstract heap is held -/
theorem Inv.step {g' : Array GenState} {t' : Nat} {d' : Drawn} {ch : List Addr} (I : Inv X pins σ H s)
    (hch : ∀ b ∈ ch, (b ∈ X.ex ∨ X.s₀.heap.objs.size ≤ b) ∧ b ≠ X.env.locals ∧ (∀ x c, X.env.cells.lookup x = some c → c ≠ b) ∧ ∀ p ∈ X.pn ++ pins, p.1 ≠ b)
    (keep : ∀ b o, b ≠ X.env.locals → b ∉ X.fs → b ∉ ch → s.heap.get? b = some o → H b = none → h'.get? b = some o)
    (slot : ∀ b o, b ≠ X.env.locals → b ∈ X.fs → b ∉ ch → s.heap.get? b = some o → H b = none → ∃ sl, h'.get? b = some { o with slots := sl }) (free : ∀ b o, b ∉ ch → s.heap.get? b = some o → H b = none → H' b = none)
    (there : ∀ b o, b ∉ ch → s.heap.get? b = some o → ∃ o', h'.get? b = some o')
    (tups : ∀ b xs, H b = some (.tup xs) → H' b = some (.tup xs)) (frzs : ∀ b o u, H b = some (.frz o u) → H' b = some (.frz o u)) (tbls : ∀ b ps, H b = some (.tbl ps) → ∃ more, H' b = some (.tbl (ps ++ more)))
    (ns : ∀ m, s.heap.Ns X.env.locals m → h'.Ns X.env.locals m) (hok : HOk X.prog X.w H' h') (hg : AllBare g') :
    Inv X pins σ H' { s with heap := h', gens := g', drawn := d', toks := t' } := by
  have neL : ∀ b o, X.s₀.heap.get? b = some o → b ≠ X.env.locals := fun b o e => Nat.ne_of_lt (Nat.lt_of_lt_of_le (Heap.lt_size e) I.ok.above)
  have neC : ∀ b o, X.s₀.heap.get? b = some o → b ∉ X.ex → b ∉ ch := fun b o e hx hb => by
    rcases (hch b hb).1 with z | z
    · exact hx z
    · exact absurd (Nat.lt_of_lt_of_le (Heap.lt_size e) z) (Nat.lt_irrefl _)
  have cellK : ∀ x c, X.env.cells.lookup x = some c → ∀ v, s.heap.IsCell c v → h'.IsCell c v := fun x c e v ⟨o, ho, hd⟩ => by
    have nch : c ∉ ch := fun z => (hch c z).2.2.1 x c e rfl
    by_cases hc : c ∈ X.fs
    · obtain ⟨sl, q⟩ := slot c o (I.cne x c e) hc nch ho (I.freeC x c e)
      exact ⟨_, q, hd⟩
    · exact ⟨o, keep c o (I.cne x c e) hc nch ho (I.freeC x c e), hd⟩
  refine ⟨I.ok, I.os, hg, ⟨fun b o e n hb hx => ?_, fun b o e n hb hx => ?_, fun b o e n hx => ?_, fun b o e hx => ?_, fun b xs e => tups b xs (I.base.tups b xs e), fun b o xs e => frzs b o xs (I.base.frzs b o xs e), fun b ps e => ?_⟩, ?_, fun x c e => ?_, ?_, fun x c e => ?_, fun p hp => ?_, hok, I.len⟩
  · exact keep b o (neL b o e) hb (neC b o e hx) (I.base.keep b o e n hb hx) (I.base.free b o e n hx)
  · obtain ⟨sl, e1⟩ := I.base.slot b o e n hb hx
    obtain ⟨sl', e2⟩ := slot b _ (neL b o e) hb (neC b o e hx) e1 (I.base.free b o e n hx)
    exact ⟨sl', e2⟩
  · obtain ⟨o', e1⟩ := I.base.there b o e hx
    exact free b o' (neC b o e hx) e1 (I.base.free b o e n hx)
  · obtain ⟨o', e1⟩ := I.base.there b o e hx
    exact there b o' (neC b o e hx) e1
  · obtain ⟨m1, e1⟩ := I.base.tbls b ps e
    obtain ⟨m2, e2⟩ := tbls b _ e1
    exact ⟨m1 ++ m2, by rw [e2, Array.append_assoc]⟩
  · obtain ⟨m, hn, hl⟩ := I.loc
    refine ⟨m, ns m hn, fun i x v e1 e2 e3 => ?_⟩
    obtain ⟨u, r, l⟩ := hl i x v e1 e2 e3
    refine ⟨u, r, ?_⟩
    rcases l with l | ⟨k, c, e, z⟩
    · exact .inl l
    · exact .inr ⟨k, c, e, cellK x c e _ z⟩
  · obtain ⟨v, z⟩ := I.cell x c e
    exact ⟨v, cellK x c e v z⟩
  · obtain ⟨m, ⟨o, _, _, ho, _⟩, _⟩ := I.loc
    exact free _ o (fun z => (hch _ z).2.1 rfl) ho I.free
  · obtain ⟨v, o, ho, hd⟩ := I.cell x c e
    exact free c o (fun z => (hch c z).2.2.1 x c e rfl) ho (I.freeC x c e)
  · obtain ⟨e, n, ne, nf, d⟩ := I.pin p hp
    have nch : p.1 ∉ ch := fun z => (hch p.1 z).2.2.2 p hp rfl
    exact ⟨keep p.1 p.2 ne nf nch e n, free p.1 p.2 nch e n, ne, nf, d⟩
/-- .. where the frame's own object is kept too -/
theorem Inv.un {t' : Nat} (I : Inv X pins σ H s) (u : Un X.fs [] H H' s.heap h') (hok : HOk X.prog X.w H' h') : Inv X pins σ H' { s with heap := h', toks := t' } := by
  obtain ⟨m, ⟨o, es, ep, ho, r⟩, _⟩ := id I.loc
  obtain ⟨sl, hL⟩ := u.any ho I.free (by simp)
  exact I.step (g' := s.gens) (d' := s.drawn) (ch := []) (fun _ z => nomatch z) (fun b o _ hb _ e n => u.keep b o e n hb (by simp)) (fun b o _ hb _ e n => u.slot b o e n hb (by simp)) (fun b o _ e n => u.free b o e n (by simp)) (fun b o _ e => u.there b o e (by simp)) u.tups u.frzs u.tbls (fun m' hm => by
    obtain ⟨o', es', ep', ho', r'⟩ := hm
    rw [ho] at ho'; cases ho'
    exact ⟨_, es', ep', hL, r'⟩) hok I.bare
/-- behind a call (or a comprehension's block): the slots of this frame may have changed too, the records at ch may have turned -/
theorem Inv.call {g' : Array GenState} {t' : Nat} {d' : Drawn} {ch : List Addr} (I : Inv X pins σ H s) (u : Un (frs X.stack) ch H H' s.heap h') (hok : HOk X.prog X.w H' h') (hg : AllBare g')
    (hch : ∀ b ∈ ch, (b ∈ X.ex ∨ X.s₀.heap.objs.size ≤ b) ∧ b ≠ X.env.locals ∧ (∀ x c, X.env.cells.lookup x = some c → c ≠ b) ∧ ∀ p ∈ X.pn ++ pins, p.1 ≠ b) :
    Inv X pins σ H' { s with heap := h', gens := g', drawn := d', toks := t' } := by
  obtain ⟨m, ⟨o, es, ep, ho, r⟩, _⟩ := id I.loc
  obtain ⟨sl, hL⟩ := u.any ho I.free fun z => (hch _ z).2.1 rfl
  exact I.step (ch := ch) hch (fun b o hL hb hc e n => u.keep b o e n (fun z => (List.mem_cons.mp (I.stkSub b z)).elim hL hb) hc) (fun b o _ _ hc e n => u.any e n hc) (fun b o hc e n => u.free b o e n hc) (fun b o hc e => u.there b o e hc) u.tups u.frzs u.tbls (fun m' hm => by
    obtain ⟨o', es', ep', ho', r'⟩ := hm
    rw [ho] at ho'; cases ho'
    exact ⟨_, es', ep', hL, r'⟩) hok hg
/-- an untracked record of ours (an iterator) has turned -/
theorem Inv.turned {t' : Nat} {it : Addr} (I : Inv X pins σ H s) (k : ∀ b o, b ≠ it → s.heap.get? b = some o → h'.get? b = some o) (hn : H it = none) (hL : it ≠ X.env.locals)
    (h1 : it ∈ X.ex ∨ X.s₀.heap.objs.size ≤ it) (h2 : ∀ x c, X.env.cells.lookup x = some c → c ≠ it) (h3 : ∀ p ∈ X.pn ++ pins, p.1 ≠ it) : Inv X pins σ H { s with heap := h', toks := t' } := by
  have nit : ∀ b u, H b = some u → b ≠ it := fun b u e z => by rw [z, hn] at e; cases e
  refine I.step (g' := s.gens) (d' := s.drawn) (ch := [it]) (fun b hb => ?_) (fun b o _ _ hc e _ => k b o (fun z => hc (by simp [z])) e) (fun b o _ _ hc e _ => ⟨o.slots, k b o (fun z => hc (by simp [z])) e⟩) (fun _ _ _ _ n => n)
    (fun b o hc e => ⟨o, k b o (fun z => hc (by simp [z])) e⟩) (fun _ _ e => e) (fun _ _ _ e => e) (fun b ps e => ⟨#[], by rw [e]; simp⟩) (fun m hm => ?_) (fun b u e => ?_) I.bare
  · have e : b = it := by simpa using hb
    subst e
    exact ⟨h1, hL, h2, h3⟩
  · obtain ⟨o, es, ep, ho, r⟩ := hm
    exact ⟨o, es, ep, k _ o (Ne.symm hL) ho, r⟩
  · refine (I.hok b u e).stay (fun c v hc q => k c v ?_ q) (fun _ q => q) fun _ _ q => q
    rcases hc with z | z
    · rw [z]; exact nit b u e
    · exact nit c _ z
theorem Inv.tok (I : Inv X pins σ H s) (t : Nat) : Inv X pins σ H { s with toks := t } := I.un (h' := s.heap) (t' := t) Un.refl I.hok
/-- all objects kept -/
theorem Inv.kept {t' : Nat} (I : Inv X pins σ H s) (k : ∀ b u, s.heap.get? b = some u → h'.get? b = some u) : Inv X pins σ H { s with heap := h', toks := t' } := I.un (Un.kept k) (I.hok.kept k)
/-- a new object laid and tracked -/
theorem Inv.laid {a : Addr} {o : HO} {t' : Nat} (I : Inv X pins σ H s) (k : ∀ b u, s.heap.get? b = some u → h'.get? b = some u) (hp : s.heap.objs.size ≤ a) (new : ObjOk X.prog X.w (upd H a o) h' a o) :
    Inv X pins σ (upd H a o) { s with heap := h', toks := t' } := I.un (Un.laid k hp (I.hok.fresh hp)) (I.hok.laid k hp new)
/-- an object written -/
theorem Inv.write {x e : Addr} {o : HO} {t' : Nat} (I : Inv X pins σ H s) (mu : Mut (H x)) (he : e = x ∨ H e = some (.own x)) (k : ∀ b u, b ≠ e → s.heap.get? b = some u → h'.get? b = some u) (heo : ∃ u, h'.get? e = some u)
    (new : ObjOk X.prog X.w (upd H x o) h' x o) : Inv X pins σ (upd H x o) { s with heap := h', toks := t' } := I.un (Un.write mu he k heo) (I.hok.write mu he k heo new)
theorem Inv.pins_of {pins' : List (Addr × Obj)} (I : Inv X pins σ H s) (h : ∀ p ∈ pins', s.heap.get? p.1 = some p.2 ∧ H p.1 = none ∧ p.1 ≠ X.env.locals ∧ p.1 ∉ X.fs ∧ ∀ v, p.2.data ≠ .cell v) : Inv X pins' σ H s :=
  ⟨I.ok, I.os, I.bare, I.base, I.loc, I.cell, I.free, I.freeC, fun p hp => (List.mem_append.mp hp).elim (fun z => I.pin p (List.mem_append_left _ z)) (h p), I.hok, I.len⟩

theorem nodup_ix {N : List Str} (hN : N.Nodup) {i j : Nat} {x : Str} (a : N[i]? = some x) (b : N[j]? = some x) : i = j := by
  obtain ⟨h1, e1⟩ := List.getElem?_eq_some_iff.mp a
  obtain ⟨h2, e2⟩ := List.getElem?_eq_some_iff.mp b
  exact (List.getElem_inj hN).mp (e1.trans e2.symm)

/-- a name is stored; what changed -/
theorem store_ok2 {M : Model} {A : Around} {E : Value → Shared → Prop} {i : Nat} {x : Str} {v : V} {u : Value} {Q : Unit → Shared → Prop} (I : Inv X pins σ H s) (hN : X.N.Nodup) (hi : X.N[i]? = some x) (hx : Loc X.env.scope x) (r : RelV v u)
    (h : ∀ s', Inv X pins (σ.set i (some v)) H s' → (∃ a, Heap.SameBut a s.heap s'.heap ∧ (a = X.env.locals ∨ X.env.cells.lookup x = some a)) → Q () s') (hf : X.fn x = true ∨ X.env.scope.names.lookup x = some .local := by first | exact .inl rfl | exact .inr rfl | assumption) : wpAny M A (storeName X.env x u) Q E s := by
  obtain ⟨m, hn, hl⟩ := id I.loc
  have hcls : (X.env.scope.kind == .class || (X.env.scope.kind == .module && X.env.locals != X.env.globals)) = false := by rw [I.ok.kind]; rfl
  have hiσ : i < σ.length := by rw [I.len]; exact (List.getElem?_eq_some_iff.mp hi).1
  have cne := I.cne
  have tracked : ∀ {a : Addr} {h' : Heap}, (∃ o, s.heap.get? a = some o ∧ H a = none) → Heap.SameBut a s.heap h' → HOk X.prog X.w H h' := fun {a h'} ha hs b ob e => by
    obtain ⟨_, _, hfree⟩ := ha
    refine (I.hok b ob e).stay (fun c w' hc q => (hs.2 c ?_).trans q) (fun _ q => q) fun _ _ q => q
    rintro rfl
    rcases hc with rfl | hc
    · rw [hfree] at e; cases e
    · rw [hfree] at hc; cases hc
  rcases hx with hk | hk
  · refine wpAny_storeName_local hk hn (fun h' hn' hs => ?_) hcls
    obtain ⟨oL, _, _, hoL, _⟩ := id hn
    refine h _ ⟨I.ok, I.os, I.bare, ⟨fun b o e n hb hx => ?_, fun b o e n hb hx => ?_, I.base.free, fun b o e hx => ?_, I.base.tups, I.base.frzs, I.base.tbls⟩, ⟨_, hn', fun j y v' e1 e2 e3 => ?_⟩, fun y c e => ?_, I.free, I.freeC, fun p hp => ?_, tracked ⟨oL, hoL, I.free⟩ hs, by simpa using I.len⟩ ⟨_, hs, .inl rfl⟩
    · exact (hs.2 b (Nat.ne_of_lt (Nat.lt_of_lt_of_le (Heap.lt_size e) I.ok.above))).trans (I.base.keep b o e n hb hx)
    · obtain ⟨sl, e1⟩ := I.base.slot b o e n hb hx
      exact ⟨sl, (hs.2 b (Nat.ne_of_lt (Nat.lt_of_lt_of_le (Heap.lt_size e) I.ok.above))).trans e1⟩
    · obtain ⟨o', e1⟩ := I.base.there b o e hx
      exact ⟨o', (hs.2 b (Nat.ne_of_lt (Nat.lt_of_lt_of_le (Heap.lt_size e) I.ok.above))).trans e1⟩
    · by_cases hj : j = i
      · subst hj
        rw [hi] at e1; cases e1
        rw [List.getElem?_set_self hiσ] at e2
        cases e2
        exact ⟨u, r, .inl ⟨hk, by simp⟩⟩
      · rw [List.getElem?_set_ne (Ne.symm hj)] at e2
        obtain ⟨u', r', q⟩ := hl j y v' e1 e2 e3
        refine ⟨u', r', ?_⟩
        rcases q with ⟨k, e⟩ | ⟨k, c, e, z⟩
        · refine .inl ⟨k, ?_⟩
          have : y ≠ x := fun e => hj (nodup_ix hN e1 (e ▸ hi))
          simp [this, e]
        · exact .inr ⟨k, c, e, z.sameBut hs (cne y c e)⟩
    · obtain ⟨w', z⟩ := I.cell y c e
      exact ⟨w', z.sameBut hs (cne y c e)⟩
    · obtain ⟨e, n, ne, nf, d⟩ := I.pin p hp
      exact ⟨(hs.2 p.1 ne).trans e, n, ne, nf, d⟩
  · have hfn : X.fn x = true := by
      rcases hf with z | z
      · exact z
      · rw [z] at hk; cases hk
    obtain ⟨c, hc⟩ := I.ok.has x (.inl hk)
    obtain ⟨w', z⟩ := I.cell x c hc
    refine wpAny_storeName_cell I.ok.kind hk hc z (fun h' hc' hs => ?_)
    obtain ⟨oc, hoc, hocd⟩ := id z
    refine h { s with heap := h' } ⟨I.ok, I.os, I.bare, ⟨fun b o e n hb hx => ?_, fun b o e n hb hx => ?_, I.base.free, fun b o e hx => ?_, I.base.tups, I.base.frzs, I.base.tbls⟩, ⟨m, hn.sameBut hs (Ne.symm (cne x c hc)), fun j y v' e1 e2 e3 => ?_⟩, fun y c' e => ?_, I.free, I.freeC, fun p hp => ?_, tracked ⟨oc, hoc, I.freeC x c hc⟩ hs, by simpa using I.len⟩ ⟨c, hs, .inr hc⟩
    · exact (hs.2 b (Nat.ne_of_lt (Nat.lt_of_lt_of_le (Heap.lt_size e) (I.ok.cab x c hfn hc)))).trans (I.base.keep b o e n hb hx)
    · obtain ⟨sl, e1⟩ := I.base.slot b o e n hb hx
      exact ⟨sl, (hs.2 b (Nat.ne_of_lt (Nat.lt_of_lt_of_le (Heap.lt_size e) (I.ok.cab x c hfn hc)))).trans e1⟩
    · obtain ⟨o', e1⟩ := I.base.there b o e hx
      exact ⟨o', (hs.2 b (Nat.ne_of_lt (Nat.lt_of_lt_of_le (Heap.lt_size e) (I.ok.cab x c hfn hc)))).trans e1⟩
    · by_cases hj : j = i
      · subst hj
        rw [hi] at e1; cases e1
        rw [List.getElem?_set_self hiσ] at e2
        cases e2
        exact ⟨u, r, .inr ⟨.inl hk, c, hc, hc'⟩⟩
      · rw [List.getElem?_set_ne (Ne.symm hj)] at e2
        obtain ⟨u', r', q⟩ := hl j y v' e1 e2 e3
        refine ⟨u', r', ?_⟩
        rcases q with q | ⟨k, c', e, z'⟩
        · exact .inl q
        · refine .inr ⟨k, c', e, z'.sameBut hs ?_⟩
          rintro rfl
          exact hj (nodup_ix hN e1 (I.ok.inj _ _ _ e hc ▸ hi))
    · by_cases hcc : c' = c
      · subst hcc; exact ⟨_, hc'⟩
      · obtain ⟨w2, z2⟩ := I.cell y c' e
        exact ⟨w2, z2.sameBut hs hcc⟩
    · obtain ⟨e, n, ne, nf, d⟩ := I.pin p hp
      refine ⟨(hs.2 p.1 ?_).trans e, n, ne, nf, d⟩
      intro q
      rw [q, hoc] at e
      have q' : oc = p.2 := Option.some.inj e
      exact d w' (by rw [← q']; exact hocd)
theorem store_ok {M : Model} {A : Around} {E : Value → Shared → Prop} {i : Nat} {x : Str} {v : V} {u : Value} {Q : Unit → Shared → Prop} (I : Inv X pins σ H s) (hN : X.N.Nodup) (hi : X.N[i]? = some x) (hx : Loc X.env.scope x) (r : RelV v u)
    (h : ∀ s', Inv X pins (σ.set i (some v)) H s' → Q () s') (hf : X.fn x = true ∨ X.env.scope.names.lookup x = some .local := by first | exact .inl rfl | exact .inr rfl | assumption) : wpAny M A (storeName X.env x u) Q E s :=
  store_ok2 I hN hi hx r (fun s' I' _ => h s' I') hf
/-- behind a call or a block, the state as it is -/
theorem Inv.call' {s' : Shared} {ch : List Addr} (I : Inv X pins σ H s) (ho : s'.os = s.os) (u : Un (frs X.stack) ch H H' s.heap s'.heap) (hok : HOk X.prog X.w H' s'.heap) (hg : AllBare s'.gens)
    (hch : ∀ b ∈ ch, (b ∈ X.ex ∨ X.s₀.heap.objs.size ≤ b) ∧ b ≠ X.env.locals ∧ (∀ x c, X.env.cells.lookup x = some c → c ≠ b) ∧ ∀ p ∈ X.pn ++ pins, p.1 ≠ b) : Inv X pins σ H' s' := by
  obtain ⟨h', g', d', t', o'⟩ := s'
  have e : o' = s.os := ho
  subst e
  exact I.call (g' := g') (t' := t') (d' := d') u hok hg hch
end

/-! ### the judgements -/
/-- an exception: its class, its own dict's address (where it has one), the abstract heap behind it -/
abbrev XK := Value → Option Addr → Hp → Prop
abbrev St := List (Option V)
abbrev VK := V → Hp → Prop
/-- an expression's reading; a test's; an argument list's -/
abbrev TE := St → Hp → VK → Prop
abbrev TT := St → Hp → (Bool → Hp → Prop) → Prop
abbrev TA := St → Hp → (List V → Hp → Prop) → Prop
/-- what is wanted behind a statement -/
structure Ends where
  nx : St → Hp → Prop
  rt : VK
  bk : St → Hp → Prop := fun _ _ => False
  ct : St → Hp → Prop := fun _ _ => False
abbrev TS := Ends → St → Hp → Prop

def EP (X : Cx) (pins : List (Addr × Obj)) (σ : St) (Q : VK) (u : Value) (s' : Shared) : Prop := ∃ v H', Inv X pins σ H' s' ∧ RelV v u ∧ Q v H'
def TP (X : Cx) (pins : List (Addr × Obj)) (σ : St) (Q : Bool → Hp → Prop) (b : Bool) (s' : Shared) : Prop := ∃ H', Inv X pins σ H' s' ∧ Q b H'
def AP (X : Cx) (pins : List (Addr × Obj)) (σ : St) (Q : List V → Hp → Prop) (us : List Value) (s' : Shared) : Prop := ∃ vs H', Inv X pins σ H' s' ∧ Vals vs us ∧ Q vs H'
def SP (X : Cx) (pins : List (Addr × Obj)) (D : Ends) (f : Flow) (s' : Shared) : Prop :=
  match f with
  | .next => ∃ σ' H', Inv X pins σ' H' s' ∧ D.nx σ' H'
  | .brk => ∃ σ' H', Inv X pins σ' H' s' ∧ D.bk σ' H'
  | .cont => ∃ σ' H', Inv X pins σ' H' s' ∧ D.ct σ' H'
  | .ret u => ∃ v σ' H', Inv X pins σ' H' s' ∧ RelV v u ∧ D.rt v H'

def PE (X : Cx) (e : Expr) (t : TE) : Prop :=
  ∀ (pins : List (Addr × Obj)) (s : Shared) (σ : St) (H : Hp) (Q : VK), Inv X pins σ H s → t σ H Q → wpAny (model X.prog X.w) X.A (eval e X.env) (EP X pins σ Q) X.xe s
def PT (X : Cx) (e : Expr) (t : TT) : Prop :=
  ∀ (pins : List (Addr × Obj)) (s : Shared) (σ : St) (H : Hp) (Q : Bool → Hp → Prop), Inv X pins σ H s → t σ H Q → wpAny (model X.prog X.w) X.A (isTrue e X.env (eval e X.env)) (TP X pins σ Q) X.xe s
/-- a test whatever its 'whole' is (and, or) -/
def PW (X : Cx) (e : Expr) (t : TT) : Prop :=
  ∀ (whole : Sem Value) (pins : List (Addr × Obj)) (s : Shared) (σ : St) (H : Hp) (Q : Bool → Hp → Prop), Inv X pins σ H s → t σ H Q → wpAny (model X.prog X.w) X.A (isTrue e X.env whole) (TP X pins σ Q) X.xe s
theorem PW.pt {X : Cx} {e : Expr} {t : TT} (h : PW X e t) : PT X e t := h _
/-- an argument list (no star), from the left -/
def PA (X : Cx) (es : List Expr) (t : TA) : Prop :=
  ∀ (pos : Pos) (pins : List (Addr × Obj)) (s : Shared) (σ : St) (H : Hp) (Q : List V → Hp → Prop), Inv X pins σ H s → t σ H Q → wpAny (model X.prog X.w) X.A (spliced (backTo pos (starEach es X.env))) (AP X pins σ Q) X.xe s
def PS (X : Cx) (st : Stmt) (t : TS) : Prop :=
  ∀ (pins : List (Addr × Obj)) (s : Shared) (σ : St) (H : Hp) (D : Ends), Inv X pins σ H s → t D σ H → wpAny (model X.prog X.w) X.A (exec st X.env) (SP X pins D) X.xe s
def PSs (X : Cx) (st : List Stmt) (t : TS) : Prop :=
  ∀ (pins : List (Addr × Obj)) (s : Shared) (σ : St) (H : Hp) (D : Ends), Inv X pins σ H s → t D σ H → wpAny (model X.prog X.w) X.A (execs st X.env) (SP X pins D) X.xe s
/-- weaken the end -/
theorem thn {α : Type} {t : Sem α} {Q Q' : α → Shared → Prop} {M : Model} {A : Around} {E : Value → Shared → Prop} {s : Shared} (h : wpAny M A t Q E s) (hQ : ∀ a s, Q a s → Q' a s) : wpAny M A t Q' E s := wpAny_mono h hQ fun _ _ x => x
end L2

namespace L2
open PySem PySem.Spec PyProof.Rows
section
variable {X : Cx}


/-! ### names and constants -/
def tVar (i : Nat) : TE := fun σ H Q => ∃ v, σ[i]? = some (some v) ∧ Q v H
def tC (v : V) : TE := fun _ H Q => Q v H
theorem pe_var {i : Nat} {x : Str} {pos : Pos} (hN : X.N[i]? = some x) (hv : Vis X.env.scope x) (hd : (x == ("__debug__" : Str)) = false := by decide) (hcd : (x == ("__classdict__" : Str)) = false := by decide) : PE X (.Name x pos) (tVar i) := by
  intro pins s σ H Q I h
  obtain ⟨v, e, h⟩ := h
  obtain ⟨m, hn, hl⟩ := I.loc
  obtain ⟨u, r, l⟩ := hl i x v hN e hv
  have fin : EP X pins σ Q u s := ⟨v, H, I, r, h⟩
  rcases l with ⟨hk, hm⟩ | ⟨hk, c, hc, hcell⟩
  · exact wpAny_Name (wpAny_loadName_local I.ok.kind hk hn hm fin) hd
  · rcases hk with hk | hk
    · exact wpAny_Name (wpAny_loadName_cell I.ok.kind hk hc hcell fin) hd
    · exact wpAny_Name (wpAny_loadName_free I.ok.kind hk hc hcell fin hcd) hd
theorem pe_int {i j pos} : PE X (.Constant (.int i) j pos) (tC (.int i)) := fun _ _ _ H _ I h => wpAny_Constant_int ⟨.int i, H, I.tok _, ⟨_, rfl⟩, h⟩
theorem pe_bl {b j pos} : PE X (.Constant (.bool b) j pos) (tC (.bl b)) := fun _ _ _ H _ I h => Constant_bool ⟨.bl b, H, I, rfl, h⟩
theorem pe_non {j pos} : PE X (.Constant .none j pos) (tC .non) := fun _ _ _ H _ I h => Constant_none ⟨.non, H, I, rfl, h⟩
theorem pe_str {x j pos} : PE X (.Constant (.str x) j pos) (tC (.str x)) := fun _ _ _ H _ I h => Calls.Constant_str ⟨.str x, H, I.tok _, ⟨_, rfl⟩, h⟩

/-- a global name of the def -/
def Gl (X : Cx) (x : Str) : Prop := X.env.kindOf x = some .globalImplicit
theorem ld_glob {E : Value → Shared → Prop} {pins : List (Addr × Obj)} {s : Shared} {σ : St} {H : Hp} {x : Str} {u : Value} {pos : Pos} {Q : Value → Shared → Prop} (I : Inv X pins σ H s) (hg : Gl X x) (hm : X.mg x = some u) (h : Q u s)
    (hd : (x == ("__debug__" : Str)) = false := by decide) : wpAny (model X.prog X.w) X.A (eval (.Name x pos) X.env) Q E s :=
  Calls.Name_function_global I.ok.kind hg (Calls.loadGlobal_global (by rw [I.ok.glob]; exact I.mod.glob.keeps I.bk) hm h) hd
theorem ld_blt {E : Value → Shared → Prop} {pins : List (Addr × Obj)} {s : Shared} {σ : St} {H : Hp} {x : Str} {u : Value} {pos : Pos} {Q : Value → Shared → Prop} (I : Inv X pins σ H s) (hg : Gl X x) (hm : X.mg x = none) (hv : bootBuiltins x = some u) (h : Q u s)
    (hn : x ≠ "__name__" := by decide) (hd : (x == ("__debug__" : Str)) = false := by decide) : wpAny (model X.prog X.w) X.A (eval (.Name x pos) X.env) Q E s := by
  obtain ⟨mb, h1, h2⟩ := I.mod.blt
  exact Calls.Name_function_global I.ok.kind hg (Calls.loadGlobal_builtin (by rw [I.ok.glob]; exact I.mod.glob.keeps I.bk) hm (by rw [I.ok.blt]; exact h1.keeps I.bk) ((h2 x hn).trans hv) h) hd
/-- a module's constant, a class, a function, as a value -/
theorem pe_glob {x : Str} {v : V} {u : Value} {pos : Pos} (hg : Gl X x) (hm : X.mg x = some u) (r : RelV v u) (hd : (x == ("__debug__" : Str)) = false := by decide) : PE X (.Name x pos) (tC v) :=
  fun _ _ _ H _ I h => ld_glob I hg hm ⟨v, H, I, r, h⟩ hd
theorem pe_bltn {x : Str} {v : V} {u : Value} {pos : Pos} (hg : Gl X x) (hm : X.mg x = none) (hv : bootBuiltins x = some u) (r : RelV v u) (hn : x ≠ "__name__" := by decide) (hd : (x == ("__debug__" : Str)) = false := by decide) : PE X (.Name x pos) (tC v) :=
  fun _ _ _ H _ I h => ld_blt I hg hm hv ⟨v, H, I, r, h⟩ hn hd

/-! ### arithmetic -/
variable {a b : Expr} {ta tb : TE} {pos : Pos}

/-! ### comparisons -/
/-- a comparison as a value, as a test -/
def tB (t : TE) : TT := fun σ H Q => t σ H fun x H1 => ∃ c, x = .bl c ∧ Q c H1
/-- an expression whose value is a bool, as a test -/
theorem pt_val {e : Expr} {t : TE} (h : PE X e t) (he : ∀ whole, isTrue e X.env whole = (do let v ← whole; standAt e.pos; holding [v] (truthy v)) := by intro _; rfl) : PT X e (tB t) := by
  intro pins s σ H Q I hw
  refine isTrue_plain (thn (h pins s σ H _ I hw) fun v s1 ⟨x, H1, I1, r1, q1⟩ => ?_) (he _)
  obtain ⟨d, rfl, q⟩ := q1
  cases r1
  exact wpAny_truthy_bool ⟨H1, I1, q⟩

/-! ### and, or, not -/
variable {tA tB' : TT} {rest : List Expr}
def tOr (t u : TT) : TT := fun σ H Q => t σ H fun c H1 => if c = true then Q true H1 else u σ H1 Q
def tNot (t : TT) : TT := fun σ H Q => t σ H fun c H1 => Q (!c) H1
theorem pw_or1 (ha : PT X a tA) : PW X (.BoolOp .Or [a] pos) tA := by
  intro wh pins s σ H Q I h
  refine isTrue_or (thn (ha pins s σ H Q I h) fun c s1 e => ?_)
  cases c with
  | false => exact isTrue_or_nil e
  | true => exact e
theorem pw_or (ha : PT X a tA) (hb : PW X (.BoolOp .Or (b :: rest) pos) tB') : PW X (.BoolOp .Or (a :: b :: rest) pos) (tOr tA tB') := by
  intro wh pins s σ H Q I h
  refine isTrue_or (thn (ha pins s σ H _ I h) fun c s1 ⟨H1, I1, q1⟩ => ?_)
  cases c with
  | true => exact ⟨H1, I1, q1⟩
  | false => exact hb wh pins s1 σ H1 Q I1 q1
theorem pt_not (ha : PT X a tA) : PT X (.UnaryOp .Not a pos) (tNot tA) := by
  intro pins s σ H Q I h
  exact isTrue_not (ha pins s σ H (fun c H1 => Q (!c) H1) I h)
/-- .. as values (bools) -/
def tAndV (ta tb : TE) : TE := fun σ H Q => ta σ H fun x H1 => ∃ c, x = .bl c ∧ if c = true then tb σ H1 Q else Q (.bl false) H1
def tOrV (ta tb : TE) : TE := fun σ H Q => ta σ H fun x H1 => ∃ c, x = .bl c ∧ if c = true then Q (.bl true) H1 else tb σ H1 Q
def tNotV (ta : TE) : TE := fun σ H Q => ta σ H fun x H1 => ∃ c, x = .bl c ∧ Q (.bl (!c)) H1
theorem pe_one {op} {t : TE} (h : PE X a t) : PE X (.BoolOp op [a] pos) t := fun pins s σ H Q I hw => BoolOp_one (h pins s σ H Q I hw)
theorem pe_and (ha : PE X a ta) (hb : PE X (.BoolOp .And (b :: rest) pos) tb) : PE X (.BoolOp .And (a :: b :: rest) pos) (tAndV ta tb) := by
  intro pins s σ H Q I h
  refine BoolOp_and (thn (ha pins s σ H _ I h) fun v s1 ⟨x, H1, I1, r1, q1⟩ => ?_)
  obtain ⟨c, rfl, q1⟩ := q1
  cases r1
  refine wpAny_truthy_bool ?_
  cases c with
  | true => exact hb pins s1 σ H1 Q I1 q1
  | false => exact ⟨.bl false, H1, I1, rfl, q1⟩
theorem pe_or (ha : PE X a ta) (hb : PE X (.BoolOp .Or (b :: rest) pos) tb) : PE X (.BoolOp .Or (a :: b :: rest) pos) (tOrV ta tb) := by
  intro pins s σ H Q I h
  refine BoolOp_or (thn (ha pins s σ H _ I h) fun v s1 ⟨x, H1, I1, r1, q1⟩ => ?_)
  obtain ⟨c, rfl, q1⟩ := q1
  cases r1
  refine wpAny_truthy_bool ?_
  cases c with
  | false => exact hb pins s1 σ H1 Q I1 q1
  | true => exact ⟨.bl true, H1, I1, rfl, q1⟩
theorem pe_not (ha : PE X a ta) : PE X (.UnaryOp .Not a pos) (tNotV ta) := by
  intro pins s σ H Q I h
  refine UnaryOp_ (thn (ha pins s σ H _ I h) fun v s1 ⟨x, H1, I1, r1, q1⟩ => ?_)
  obtain ⟨c, rfl, q1⟩ := q1
  cases r1
  exact not_of (wpAny_truthy_bool ⟨.bl (!c), H1, I1, rfl, q1⟩)
/-- a if t else b -/
def tIf (t : TT) (ta tb : TE) : TE := fun σ H Q => t σ H fun c H1 => if c = true then ta σ H1 Q else tb σ H1 Q
theorem pe_ifExp {c : Expr} (hc : PT X c tA) (ha : PE X a ta) (hb : PE X b tb) : PE X (.IfExp c a b pos) (tIf tA ta tb) := by
  intro pins s σ H Q I h
  refine wpAny_IfExp (thn (hc pins s σ H _ I h) fun d s1 ⟨H1, I1, q1⟩ => ?_)
  cases d with
  | true => exact ha pins s1 σ H1 Q I1 q1
  | false => exact hb pins s1 σ H1 Q I1 q1
end
end L2

namespace L2
open PySem PySem.Spec PyProof.Rows

/-! ### a list, a tuple that is read: tracked, frozen, or an object of the module -/
def SqL (K : PySem.W.Frag) (H : Hp) (a : Addr) (xs : List V) : Prop :=
  Rd H a (.lst xs) ∨
    ∃ (o : Obj) (its : Array Value) (n : Nat), K.lookup a = some o ∧ o.cls = .type "list" ∧ o.dict = none ∧ o.data = .seq its n ∧ its.size ≤ sizeLine ∧ Vals xs its.toList
def SqT (K : PySem.W.Frag) (H : Hp) (a : Addr) (xs : List V) : Prop :=
  Rd H a (.tup xs) ∨
    ∃ (o : Obj) (its : Array Value) (n : Nat), K.lookup a = some o ∧ o.cls = .type "tuple" ∧ o.data = .seq its n ∧ its.size ≤ sizeLine ∧ Vals xs its.toList
def absV : Value → Option V
  | .none => some .non
  | .bool b => some (.bl b)
  | .int i _ => some (.int i)
  | .str x _ => some (.str x)
  | .bytes b _ => some (.byt b)
  | .float b _ => some (.flt b)
  | .ref a => some (.ref a)
  | .type n => some (.ty n)
  | _ => none
theorem RelV.abs {x : V} {u : Value} (r : RelV x u) : absV u = some x := by
  cases x with
  | non => cases r; rfl
  | bl _ => cases r; rfl
  | int _ => obtain ⟨t, rfl⟩ := r; rfl
  | str _ => obtain ⟨t, rfl⟩ := r; rfl
  | byt _ => obtain ⟨t, rfl⟩ := r; rfl
  | flt _ => obtain ⟨t, rfl⟩ := r; rfl
  | ref _ => cases r; rfl
  | ty _ => cases r; rfl
theorem RelV.inj {x y : V} {u : Value} (r : RelV x u) (q : RelV y u) : x = y := Option.some.inj (r.abs.symm.trans q.abs)
theorem Vals.inj : ∀ {xs ys : List V} {us : List Value}, Vals xs us → Vals ys us → xs = ys
  | _, _, _, .nil, .nil => rfl
  | _, _, _, .cons r t, .cons r' t' => by rw [r.inj r', Vals.inj t t']
section
variable {X : Cx} {pins : List (Addr × Obj)} {σ : St} {H : Hp} {s : Shared} {a : Addr} {xs ys : List V}
theorem SqL.of {K : PySem.W.Frag} (h : H a = some (.lst xs)) : SqL K H a xs := .inl (.inl h)
theorem SqT.of {K : PySem.W.Frag} (h : H a = some (.tup xs)) : SqT K H a xs := .inl (.inl h)
theorem Inv.list (I : Inv X pins σ H s) (h : SqL X.K H a xs) : ∃ its : List Value, Vals xs its ∧ PlainL s.heap a its.toArray ∧ xs.length ≤ sizeLine := by
  rcases h with h | ⟨o, its, n, hk, hc, hd, hs, hz, r⟩
  · obtain ⟨z, its, n, r, e⟩ := h.ok I.hok
    exact ⟨its, r, ⟨_, n, e, rfl, rfl, rfl⟩, z⟩
  · refine ⟨its.toList, r, ⟨o, n, I.kIn a o hk, hc, hd, by simpa using hs⟩, ?_⟩
    have e := r.length
    simp only [Array.length_toList] at e
    omega
theorem Inv.tuple (I : Inv X pins σ H s) (h : SqT X.K H a xs) : ∃ its : List Value, Vals xs its ∧ IsTup s.heap a its.toArray ∧ xs.length ≤ sizeLine := by
  rcases h with h | ⟨o, its, n, hk, hc, hs, hz, r⟩
  · obtain ⟨z, its, r, p⟩ := h.ok I.hok
    exact ⟨its, r, p, z⟩
  · refine ⟨its.toList, r, ⟨o, I.kIn a o hk, hc, n, by simpa using hs⟩, ?_⟩
    have e := r.length
    simp only [Array.length_toList] at e
    omega
theorem Inv.list_inj (I : Inv X pins σ H s) (h : SqL X.K H a xs) (h' : SqL X.K H a ys) : xs = ys := by
  obtain ⟨its, r, ⟨o, n, e, _, _, d⟩, _⟩ := I.list h
  obtain ⟨its', r', ⟨o', n', e', _, _, d'⟩, _⟩ := I.list h'
  rw [e] at e'; cases e'
  rw [d] at d'
  injection d' with d1 _
  have : its = its' := by simpa using congrArg Array.toList d1
  subst this
  exact r.inj r'
theorem Inv.tuple_inj (I : Inv X pins σ H s) (h : SqT X.K H a xs) (h' : SqT X.K H a ys) : xs = ys := by
  obtain ⟨its, r, ⟨o, e, _, n, d⟩, _⟩ := I.tuple h
  obtain ⟨its', r', ⟨o', e', _, n', d'⟩, _⟩ := I.tuple h'
  rw [e] at e'; cases e'
  rw [d] at d'
  injection d' with d1 _
  have : its = its' := by simpa using congrArg Array.toList d1
  subst this
  exact r.inj r'
end

/-! ### another wish about exceptions -/
abbrev Cx.wish (X : Cx) (E : Value → Shared → Prop) : Cx := { X with xe := E }
/-- no exception leaves -/
abbrev Cx.nox (X : Cx) : Cx := X.wish fun _ _ => False
theorem Cx.Ok.wish {X : Cx} (ok : X.Ok) (E : Value → Shared → Prop) : (X.wish E).Ok :=
  ⟨ok.mod, ok.kind, ok.glob, ok.blt, ok.above, ok.inj, ok.has, ok.cab, ok.hd, ok.frames, ok.stk, ok.exf, ok.bs, ok.bsz, ok.noex, ok.exfs, ok.funs, ok.frf⟩
theorem Cx.Ok.unwish {X : Cx} {E : Value → Shared → Prop} (ok : (X.wish E).Ok) : X.Ok :=
  ⟨ok.mod, ok.kind, ok.glob, ok.blt, ok.above, ok.inj, ok.has, ok.cab, ok.hd, ok.frames, ok.stk, ok.exf, ok.bs, ok.bsz, ok.noex, ok.exfs, ok.funs, ok.frf⟩
section
variable {X : Cx} {pins : List (Addr × Obj)} {σ : St} {H : Hp} {s : Shared} {E : Value → Shared → Prop}
theorem Inv.wish (I : Inv X pins σ H s) (E : Value → Shared → Prop) : Inv (X.wish E) pins σ H s := ⟨I.ok.wish E, I.os, I.bare, I.base, I.loc, I.cell, I.free, I.freeC, I.pin, I.hok, I.len⟩
theorem Inv.unwish (I : Inv (X.wish E) pins σ H s) : Inv X pins σ H s := ⟨I.ok.unwish, I.os, I.bare, I.base, I.loc, I.cell, I.free, I.freeC, I.pin, I.hok, I.len⟩
theorem SP.unwish {D : Ends} {f : Flow} {s' : Shared} (h : SP (X.wish E) pins D f s') : SP X pins D f s' := by
  cases f with
  | next => obtain ⟨σ', H', I, q⟩ := h; exact ⟨σ', H', I.unwish, q⟩
  | brk => obtain ⟨σ', H', I, q⟩ := h; exact ⟨σ', H', I.unwish, q⟩
  | cont => obtain ⟨σ', H', I, q⟩ := h; exact ⟨σ', H', I.unwish, q⟩
  | ret u => obtain ⟨v, σ', H', I, r, q⟩ := h; exact ⟨v, σ', H', I.unwish, r, q⟩
theorem PSs.nox {st : List Stmt} {t : TS} (h : PSs X.nox st t) : PSs X st t := fun pins s σ H D I hw =>
  wpAny_mono (h pins s σ H D (I.wish _) hw) (fun _ _ q => q.unwish) fun _ _ z => False.elim z
end

/-! ### blocks and small statements -/
section
variable {X : Cx} {st : Stmt} {rest : List Stmt} {t u : TS} {e : Expr} {te : TE} {pos : Pos}
def tNext : TS := fun D σ H => D.nx σ H
def tSeq (t u : TS) : TS := fun D σ H => t { D with nx := u D } σ H
theorem pss_nil : PSs X [] tNext := fun _ _ σ H _ I h => wpAny_execs_nil ⟨σ, H, I, h⟩
theorem pss_cons (h1 : PS X st t) (h2 : PSs X rest u) : PSs X (st :: rest) (tSeq t u) := by
  intro pins s σ H D I h
  refine wpAny_execs_cons (thn (h1 pins s σ H { D with nx := u D } I h) fun f s1 q => ?_)
  cases f with
  | next =>
    obtain ⟨σ', H', I', q⟩ := q
    exact h2 pins s1 σ' H' D I' q
  | ret v => exact q
  | brk => exact q
  | cont => exact q
theorem pss_one (h1 : PS X st t) : PSs X [st] t := by
  intro pins s σ H D I h
  refine wpAny_execs_cons (thn (h1 pins s σ H D I h) fun f s1 q => ?_)
  cases f with
  | next => exact wpAny_execs_nil q
  | ret v => exact q
  | brk => exact q
  | cont => exact q
def tBreak : TS := fun D σ H => D.bk σ H
theorem ps_break : PS X (.Break pos) tBreak := fun _ _ σ H _ I h => wpAny_Break ⟨σ, H, I, h⟩
/-- in a def's body nothing is shown -/
theorem Inv.quiet {pins : List (Addr × Obj)} {σ : St} {H : Hp} {s : Shared} (I : Inv X pins σ H s) : interactive X.env = false := by simp [interactive, I.ok.kind]
/-- an expression whose value is dropped -/
def tDrop (te : TE) : TS := fun D σ H => te σ H fun _ H1 => D.nx σ H1
theorem ps_expr (he : PE X e te) (hs : swapsWith e none pos.line X.env = pure false := by rfl) : PS X (.Expr e pos) (tDrop te) := by
  intro pins s σ H D I h
  exact wpAny_Expr_any (thn (he pins s σ H _ I h) fun v s1 ⟨x, H1, I1, r1, q1⟩ => ⟨σ, H1, I1, q1⟩) I.quiet hs
def tRet (te : TE) : TS := fun D σ H => te σ H D.rt
theorem ps_ret (he : PE X e te) : PS X (.Return (some e) pos) (tRet te) := by
  intro pins s σ H D I h
  exact wpAny_Return_some (thn (he pins s σ H _ I h) fun v s1 ⟨x, H1, I1, r1, q1⟩ => ⟨x, σ, H1, I1, r1, q1⟩)
def tIfS (c : TT) (t u : TS) : TS := fun D σ H => c σ H fun b H1 => if b = true then t D σ H1 else u D σ H1
theorem ps_if {c : Expr} {a b : List Stmt} {tc : TT} (hc : PT X c tc) (ha : PSs X a t) (hb : PSs X b u) : PS X (.If c a b pos) (tIfS tc t u) := by
  intro pins s σ H D I h
  refine wpAny_If (thn (hc pins s σ H _ I h) fun d s1 ⟨H1, I1, q1⟩ => ?_)
  cases d with
  | true => exact ha pins s1 σ H1 D I1 q1
  | false => exact hb pins s1 σ H1 D I1 q1
/-- code that the proof never comes to -/
def tNever : TS := fun _ _ _ => False
theorem pss_never {sts : List Stmt} : PSs X sts tNever := fun _ _ _ _ _ _ h => h.elim
end

/-! ### targets -/
abbrev TG := V → St → Hp → (St → Hp → Prop) → Prop
abbrev TGs := List V → St → Hp → (St → Hp → Prop) → Prop
def PG (X : Cx) (target : Expr) (t : TG) : Prop :=
  ∀ (pins : List (Addr × Obj)) (s : Shared) (σ : St) (H : Hp) (v : V) (u : Value) (Q : St → Hp → Prop), Inv X pins σ H s → RelV v u → t v σ H Q →
    wpAny (model X.prog X.w) X.A (assign target X.env u) (fun _ s' => ∃ σ' H', Inv X pins σ' H' s' ∧ Q σ' H') X.xe s
/-- several targets, one after another -/
def PGs (X : Cx) (ts : List Expr) (t : TGs) : Prop :=
  ∀ (pins : List (Addr × Obj)) (s : Shared) (σ : St) (H : Hp) (vs : List V) (us : List Value) (Q : St → Hp → Prop), Inv X pins σ H s → Vals vs us → t vs σ H Q →
    wpAny (model X.prog X.w) X.A (assignInOrder ((assignEach ts X.env).map (·.2)) us) (fun _ s' => ∃ σ' H', Inv X pins σ' H' s' ∧ Q σ' H') X.xe s
section
variable {X : Cx} {pos : Pos}
def gName (i : Nat) : TG := fun v σ H Q => Q (σ.set i (some v)) H
theorem pg_name {i : Nat} {x : Str} (hN : X.N.Nodup) (hi : X.N[i]? = some x) (hx : Loc X.env.scope x) (hf : X.fn x = true ∨ X.env.scope.names.lookup x = some .local := by first | exact .inl rfl | exact .inr rfl | assumption) : PG X (.Name x pos) (gName i) := by
  intro pins s σ H v u Q I r h
  exact wpAny_assign_Name (store_ok I hN hi hx r (fun s' I' => ⟨_, H, I', h⟩) hf)
def gNil : TGs := fun vs σ H Q => vs = [] ∧ Q σ H
def gCons (t : TG) (u : TGs) : TGs := fun vs σ H Q => ∃ v r, vs = v :: r ∧ t v σ H fun σ' H' => u r σ' H' Q
theorem pgs_nil : PGs X [] gNil := by
  intro pins s σ H vs us Q I r h
  obtain ⟨e, h⟩ := h
  subst e
  cases r
  exact assignInOrder_nil ⟨σ, H, I, h⟩
theorem pgs_cons {e : Expr} {es : List Expr} {t : TG} {u : TGs} (h1 : PG X e t) (h2 : PGs X es u)
    (hs : (assignEach (e :: es) X.env).map (·.2) = assign e X.env :: (assignEach es X.env).map (·.2) := by rfl) : PGs X (e :: es) (gCons t u) := by
  intro pins s σ H vs us Q I r h
  obtain ⟨v, vr, e1, h⟩ := h
  subst e1
  cases r with
  | cons r rr =>
    rw [hs]
    refine assignInOrder_cons (thn (h1 pins s σ H _ _ _ I r h) fun _ s1 ⟨σ1, H1, I1, q1⟩ => ?_)
    exact h2 pins s1 σ1 H1 _ _ Q I1 rr q1
/-- (a, b, ..) = a tuple of that length -/
def gTup (K : PySem.W.Frag) (n : Nat) (t : TGs) : TG := fun v σ H Q => ∃ a xs, v = .ref a ∧ SqT K H a xs ∧ xs.length = n ∧ t xs σ H Q
theorem pg_tup {es : List Expr} {k : Nat} {t : TGs} {n : Nat} (hc : X.calm = true) (h : PGs X es t)
    (hn : (assignEach es X.env).length = n := by rfl) (hst : (assignEach es X.env).findIdx? (·.1) = none := by rfl) : PG X (.Tuple es k pos) (gTup X.K n t) := by
  intro pins s σ H v u Q I r hw
  obtain ⟨a, xs, e1, hq, hl, hw⟩ := hw
  subst e1
  cases r
  obtain ⟨its, rv, ht, hz⟩ := I.tuple hq
  refine assign_Tuple_tuple (I.ok.hd hc) ht (by simp [hn, ← hl, rv.length]) hst fun h' hx => ?_
  have I1 : Inv X pins σ H { s with heap := h' } := I.kept (t' := s.toks) fun b o e => hx b o (Nat.ne_of_lt (Heap.lt_size e)) e
  exact h pins _ σ H xs _ Q I1 (by simpa using rv) hw
/-- target = value -/
def tAsg (te : TE) (g : TG) : TS := fun D σ H => te σ H fun x H1 => g x σ H1 D.nx
theorem ps_asg {tg e : Expr} {te : TE} {g : TG} (he : PE X e te) (hg : PG X tg g) (hs : swapsWithSole [tg] e pos.line X.env = pure false := by rfl) (hw : swappedStores [tg] e X.env = pure none := by rfl)
    (h1 : (assignEach [tg] X.env).map (·.2) = [assign tg X.env] := by rfl) : PS X (.Assign [tg] e pos) (tAsg te g) := by
  intro pins s σ H D I h
  refine wpAny_Assign_stores (thn (he pins s σ H _ I h) fun v s1 ⟨x, H1, I1, r1, q1⟩ => ?_) hs hw
  rw [h1]
  exact thn (hg pins s1 σ H1 x v _ I1 r1 q1) fun _ s2 q => q
/-- name = value -/
theorem ps_set {i : Nat} {x : Str} {e : Expr} {te : TE} {pos' : Pos} (hN : X.N.Nodup) (hi : X.N[i]? = some x) (hx : Loc X.env.scope x) (he : PE X e te) (hs : swapsWith e (some (.Name x pos')) pos.line X.env = pure false := by rfl) (hf : X.fn x = true ∨ X.env.scope.names.lookup x = some .local := by first | exact .inl rfl | exact .inr rfl | assumption) :
    PS X (.Assign [.Name x pos'] e pos) (tAsg te (gName i)) := by
  intro pins s σ H D I h
  refine wpAny_Assign_Name (thn (he pins s σ H _ I h) fun v s1 ⟨y, H1, I1, r1, q1⟩ => ?_) hs
  exact store_ok I1 hN hi hx r1 (fun s2 I2 => ⟨_, H1, I2, q1⟩) hf
end

/-! ### while -/
section
variable {X : Cx} {pos : Pos}
/-- the invariant W with its measure -/
def tWhile (c : TT) (tb : TS) : TS := fun D σ H => ∃ W : Nat → St → Hp → Prop, (∃ m, W m σ H) ∧ ∀ m σ H, W m σ H →
  c σ H fun b H1 => if b = true then ∃ N : St → Hp → Prop, (∀ σ' H', N σ' H' → ∃ m', m' < m ∧ W m' σ' H') ∧ tb { D with nx := N, ct := N, bk := D.nx } σ H1 else D.nx σ H1
theorem ps_while {c : Expr} {body : List Stmt} {tc : TT} {tb : TS} (hp : PassesOwn (model X.prog X.w) X.A X.env X.xe) (hc : PT X c tc) (hb : PSs X body tb) : PS X (.While c body [] pos) (tWhile tc tb) := by
  intro pins s σ H D I h
  obtain ⟨W, ⟨m0, w0⟩, turn⟩ := h
  refine wpAny_While (codeAny_whileLoop (fun n s' => ∃ σ' H', Inv X pins σ' H' s' ∧ W n σ' H') ?_ m0 ⟨σ, H, I, w0⟩)
  rintro n s1 ⟨σ1, H1, I1, w1⟩
  refine wpAny_passesOwn hp (thn (hc pins s1 σ1 H1 _ I1 (turn n σ1 H1 w1)) fun b s2 ⟨H2, I2, q2⟩ => ?_)
  cases b with
  | true =>
    obtain ⟨N, hN, q2⟩ := q2
    rw [if_pos rfl]
    refine wpAny_passesOwn hp (thn (hb pins s2 σ1 H2 _ I2 q2) fun f s3 q3 => ?_)
    cases f with
    | next =>
      obtain ⟨σ3, H3, I3, n3⟩ := q3
      obtain ⟨m', hm, w3⟩ := hN σ3 H3 n3
      exact ⟨m', hm, σ3, H3, I3, w3⟩
    | cont =>
      obtain ⟨σ3, H3, I3, n3⟩ := q3
      obtain ⟨m', hm, w3⟩ := hN σ3 H3 n3
      exact ⟨m', hm, σ3, H3, I3, w3⟩
    | brk => exact q3
    | ret v => exact q3
  | false =>
    rw [if_neg Bool.false_ne_true]
    exact wpAny_execs_nil ⟨σ1, H2, I2, q2⟩
end

/-! ### what a loop or a comprehension walks -/
/-- at turn i: it yields x (the heap may grow), or it stops -/
structure It where
  go : Nat → Hp → Prop
  yld : Nat → Hp → V → Hp → Prop
  stop : Nat → Hp → Prop
/-- the iterator's own objects may turn: they are not the frame's, not pinned, younger than the entry (or a comprehension's own) -/
def FpOk (X : Cx) (pins : List (Addr × Obj)) (H : Hp) (b : Addr) : Prop :=
  H b = none ∧ b ≠ X.env.locals ∧ b ∉ X.fs ∧ (b ∈ X.ex ∨ X.s₀.heap.objs.size ≤ b) ∧ (∀ x c, X.env.cells.lookup x = some c → c ≠ b) ∧ ∀ p ∈ X.pn ++ pins, p.1 ≠ b
theorem Inv.fpOk {X : Cx} {pins : List (Addr × Obj)} {σ : St} {H H' : Hp} {s : Shared} {b : Addr} (I : Inv X pins σ H s) (hb : s.heap.objs.size ≤ b) (hn : H' b = none) : FpOk X pins H' b := by
  refine ⟨hn, Nat.ne_of_gt (Nat.lt_of_lt_of_le I.lt hb), I.nofs hb, .inr (Nat.le_trans I.sz hb), fun x c e z => ?_, fun p hp z => ?_⟩
  · obtain ⟨v, q⟩ := I.cell x c e
    exact absurd (Nat.lt_of_lt_of_le q.lt (by rw [z]; exact hb)) (Nat.lt_irrefl _)
  · exact absurd (Nat.lt_of_lt_of_le (Heap.lt_size (I.pin p hp).1) (by rw [z]; exact hb)) (Nat.lt_irrefl _)
structure Turn (P : Program) (w : World) (K : PySem.W.Frag) (tg : Expr) (J : It) (fp : List Addr) (it : Addr) (tn : Nat → Heap → Prop) : Prop where
  mem : it ∈ fp
  obj : ∀ i h, tn i h → ∀ b ∈ fp, ∃ o, h.get? b = some o ∧ ∀ v, o.data ≠ .cell v
  keep : ∀ i h h', tn i h → (∀ b ∈ fp, ∀ o, h.get? b = some o → h'.get? b = some o) → tn i h'
  item : ∀ (X : Cx), X.prog = P → X.w = w → X.K = K → X.calm = true → ∀ (i : Nat) (pins : List (Addr × Obj)) (s : Shared) (σ : St) (H : Hp) (E : Value → Shared → Prop), Inv X pins σ H s → (∀ b ∈ fp, FpOk X pins H b) → tn i s.heap → J.go i H →
    wpAny (model P w) X.A (pyNext (.ref it)) (fun r s1 => ∃ u, r = some u ∧
      wpAny (model P w) X.A (letOwnedTupleGo tg (.ref it) u) (fun _ s2 => ∃ x H', Inv X pins σ H' s2 ∧ RelV x u ∧ J.yld i H x H' ∧ tn (i + 1) s2.heap ∧ ∀ b ∈ fp, H' b = none) E s1) E s
  done : ∀ (X : Cx), X.prog = P → X.w = w → X.K = K → X.calm = true → ∀ (i : Nat) (pins : List (Addr × Obj)) (s : Shared) (σ : St) (H : Hp) (E : Value → Shared → Prop), Inv X pins σ H s → (∀ b ∈ fp, FpOk X pins H b) → tn i s.heap → J.stop i H →
    wpAny (model P w) X.A (pyNext (.ref it)) (fun r s1 => r = none ∧ Inv X pins σ H s1) E s
  self : ∀ (A : Around) (i : Nat) (s : Shared) (Q : Value → Shared → Prop) (E : Value → Shared → Prop), tn i s.heap → Q (.ref it) s → wpAny (model P w) A (pyIter (.ref it)) Q E s
abbrev TI := St → Hp → (It → Hp → Prop) → Prop
/-- an iterator has come -/
def PIE (X : Cx) (pins : List (Addr × Obj)) (σ : St) (tg : Expr) (R : It → Hp → Prop) (itv : Value) (s2 : Shared) : Prop :=
  ∃ (it : Addr) (fp : List Addr) (tn : Nat → Heap → Prop) (J : It) (H' : Hp), itv = .ref it ∧ Inv X pins σ H' s2 ∧ Turn X.prog X.w X.K tg J fp it tn ∧ tn 0 s2.heap ∧ (∀ b ∈ fp, FpOk X pins H' b) ∧ R J H'
def PI (X : Cx) (tg iter : Expr) (wi : TI) : Prop :=
  ∀ (pins : List (Addr × Obj)) (s : Shared) (σ : St) (H : Hp) (R : It → Hp → Prop), Inv X pins σ H s → wi σ H R →
    wpAny (model X.prog X.w) X.A (eval iter X.env) (fun v s1 => wpAny (model X.prog X.w) X.A (pyIter v) (PIE X pins σ tg R) X.xe s1) X.xe s

/-- the step ahead of the store is nothing for an iterator that keeps no tuple -/
theorem go_of {M : Model} {A : Around} {E : Value → Shared → Prop} {s : Shared} {tg : Expr} {it : Addr} {u : Value} {o : Obj} {n : String} {vs : Array Value} {Q : Unit → Shared → Prop} (ho : s.heap.get? it = some o) (hc : o.cls = .type n) (hd : o.data = .fields vs)
    (hn : ["enumerate", "zip", "dict_itemiterator", "dict_reverseitemiterator", "odict_iterator", "itertools.zip_longest", "itertools.pairwise"].contains n = false) (hQ : Q () s) : wpAny M A (letOwnedTupleGo tg (.ref it) u) Q E s := by
  unfold letOwnedTupleGo
  cases tg <;> first
    | exact wpAny_pure hQ
    | (cases u <;> first
        | exact wpAny_pure hQ
        | (refine wpAny_bind (wpAny_load ho ?_)
           rw [hc, hd]
           show wpAny M A (if (["enumerate", "zip", "dict_itemiterator", "dict_reverseitemiterator", "odict_iterator", "itertools.zip_longest", "itertools.pairwise"].contains n && vs[0]? == some (rawInt _)) = true then _ else _) Q E s
           rw [if_neg (by intro h; rw [hn, Bool.false_and] at h; cases h)]
           exact wpAny_pure hQ))

/-- the list at a, as it stands at each turn (a loop may append to it) -/
def Itl (K : PySem.W.Frag) (a : Addr) : It :=
  ⟨fun i H => ∃ xs x, SqL K H a xs ∧ xs[i]? = some x, fun i H x H' => H' = H ∧ ∀ xs, SqL K H a xs → xs[i]? = some x, fun i H => ∃ xs, SqL K H a xs ∧ xs.length ≤ i⟩
def Itt (K : PySem.W.Frag) (a : Addr) : It :=
  ⟨fun i H => ∃ xs x, SqT K H a xs ∧ xs[i]? = some x, fun i H x H' => H' = H ∧ ∀ xs, SqT K H a xs → xs[i]? = some x, fun i H => ∃ xs, SqT K H a xs ∧ xs.length ≤ i⟩
/-- lo, lo + 1, .. (n of them) -/
def Itr (lo : Int) (n : Nat) : It := ⟨fun i _ => i < n, fun i H x H' => H' = H ∧ x = .int (lo + i), fun i _ => n ≤ i⟩
theorem turn_list {P : Program} {w : World} {K : PySem.W.Frag} {tg : Expr} (a it : Addr) : Turn P w K tg (Itl K a) [it] it (fun i h => h.IsListIter it a i) where
  mem := by simp
  obj := fun i h st b hb => by
    have e : b = it := by simpa using hb
    subst e
    obtain ⟨o, e, c, d⟩ := st
    exact ⟨o, e, fun v z => by rw [d] at z; cases z⟩
  keep := fun i h h' st k => st.at fun o e => k it (by simp) o e
  item := by
    intro X hP hw hK hc i pins s σ H E I hf st hg
    subst hP hw hK
    obtain ⟨xs, x, hq, hx⟩ := hg
    obtain ⟨its, rv, p, hz⟩ := I.list hq
    obtain ⟨u, hu, ru⟩ := rv.get hx
    obtain ⟨f0, f1, f2, f3, f4, f5⟩ := hf it (by simp)
    refine wpAny_pyNext_list_item st p.isList (x := u) (by simpa using hu) fun h' st' sb => ?_
    have I1 : Inv X pins σ H { s with heap := h' } := I.turned (t' := s.toks) (fun b o hb e => (sb.2 b hb).trans e) f0 f1 f3 f4 f5
    obtain ⟨o, e, c, d⟩ := id st'
    exact ⟨u, rfl, go_of (s := { s with heap := h' }) e c d (by decide) ⟨x, H, I1, ru, ⟨rfl, fun ys hy => by rw [I.list_inj hy hq]; exact hx⟩, st', fun b hb => (hf b hb).1⟩⟩
  done := by
    intro X hP hw hK hc i pins s σ H E I hf st hg
    subst hP hw hK
    obtain ⟨xs, hq, hx⟩ := hg
    obtain ⟨its, rv, p, hz⟩ := I.list hq
    obtain ⟨f0, f1, f2, f3, f4, f5⟩ := hf it (by simp)
    have hl := rv.length
    exact wpAny_pyNext_list_end (I.ok.hd hc) st p.isList (by simp; omega) fun h' eb => ⟨rfl, I.turned (t' := s.toks) (fun b o hb e => eb b o hb e) f0 f1 f3 f4 f5⟩
  self := fun _ _ _ _ _ st h => wpAny_pyIter_listiter st h
theorem turn_tuple {P : Program} {w : World} {K : PySem.W.Frag} {tg : Expr} (a it : Addr) : Turn P w K tg (Itt K a) [it] it (fun i h => h.IsTupleIter it a i) where
  mem := by simp
  obj := fun i h st b hb => by
    have e : b = it := by simpa using hb
    subst e
    obtain ⟨o, e, c, d⟩ := st
    exact ⟨o, e, fun v z => by rw [d] at z; cases z⟩
  keep := fun i h h' st k => st.at fun o e => k it (by simp) o e
  item := by
    intro X hP hw hK hc i pins s σ H E I hf st hg
    subst hP hw hK
    obtain ⟨xs, x, hq, hx⟩ := hg
    obtain ⟨its, rv, p, hz⟩ := I.tuple hq
    obtain ⟨u, hu, ru⟩ := rv.get hx
    obtain ⟨f0, f1, f2, f3, f4, f5⟩ := hf it (by simp)
    refine wpAny_pyNext_tuple_item st (show s.heap.IsTuple a its.toArray from p) (x := u) (by simpa using hu) fun h' st' sb => ?_
    have I1 : Inv X pins σ H { s with heap := h' } := I.turned (t' := s.toks) (fun b o hb e => (sb.2 b hb).trans e) f0 f1 f3 f4 f5
    obtain ⟨o, e, c, d⟩ := id st'
    exact ⟨u, rfl, go_of (s := { s with heap := h' }) e c d (by decide) ⟨x, H, I1, ru, ⟨rfl, fun ys hy => by rw [I.tuple_inj hy hq]; exact hx⟩, st', fun b hb => (hf b hb).1⟩⟩
  done := by
    intro X hP hw hK hc i pins s σ H E I hf st hg
    subst hP hw hK
    obtain ⟨xs, hq, hx⟩ := hg
    obtain ⟨its, rv, p, hz⟩ := I.tuple hq
    obtain ⟨f0, f1, f2, f3, f4, f5⟩ := hf it (by simp)
    have hl := rv.length
    exact wpAny_pyNext_tuple_end (I.ok.hd hc) st (show s.heap.IsTuple a its.toArray from p) (by simp; omega) fun h' eb => ⟨rfl, I.turned (t' := s.toks) (fun b o hb e => eb b o hb e) f0 f1 f3 f4 f5⟩
  self := fun _ _ _ _ _ st h => wpAny_pyIter_tupleiter st h
theorem turn_range {P : Program} {w : World} {K : PySem.W.Frag} {tg : Expr} (it : Addr) (lo : Int) (n : Nat) : Turn P w K tg (Itr lo n) [it] it (fun i h => IsRangeIter h it (lo + (i : Nat) * 1) ((n : Int) - (i : Nat)) 1) where
  mem := by simp
  obj := fun i h st b hb => by
    have e : b = it := by simpa using hb
    subst e
    exact ⟨_, st, fun v z => by
      have z' : Data.fields _ = Data.cell v := z
      cases z'⟩
  keep := fun i h h' st k => k it (by simp) _ st
  item := by
    intro X hP hw hK hc i pins s σ H E I hf st hg
    subst hP hw hK
    obtain ⟨f0, f1, f2, f3, f4, f5⟩ := hf it (by simp)
    have W := Walks.range (prog := X.prog) (w := X.w) (I.ok.hd hc) it lo 1 n
    refine W.item i s _ _ hg st fun v h' tk hv st' kk => ?_
    obtain ⟨t, rfl⟩ := hv
    have I1 : Inv X pins σ H { s with heap := h', toks := tk } := I.turned (fun b o hb e => kk b o (by simpa using hb) e) f0 f1 f3 f4 f5
    refine ⟨_, rfl, go_of (s := { s with heap := h', toks := tk }) (n := "range_iterator") st' rfl rfl (by decide) ⟨.int (lo + i), H, I1, ⟨t, ?_⟩, ⟨rfl, rfl⟩, st', fun b hb => (hf b hb).1⟩⟩
    rw [Int.mul_one]
  done := by
    intro X hP hw hK hc i pins s σ H E I hf st hg
    subst hP hw hK
    obtain ⟨f0, f1, f2, f3, f4, f5⟩ := hf it (by simp)
    exact wpAny_pyNext_range_end (I.ok.hd hc) st (by have : n ≤ i := hg; omega) fun h' eb => ⟨rfl, I.turned (t' := s.toks) (fun b o hb e => eb b o hb e) f0 f1 f3 f4 f5⟩
  self := fun _ _ _ _ _ st h => wpAny_pyIter_rangeiter st h
end L2

namespace L2
open PySem PySem.Spec PyProof.Rows
section
variable {X : Cx} {tg : Expr}
def iList (K : PySem.W.Frag) (tl : TE) : TI := fun σ H R => tl σ H fun x H1 => ∃ a, x = .ref a ∧ (∃ xs, SqL K H1 a xs) ∧ R (Itl K a) H1
def iTup (K : PySem.W.Frag) (tl : TE) : TI := fun σ H R => tl σ H fun x H1 => ∃ a, x = .ref a ∧ (∃ xs, SqT K H1 a xs) ∧ R (Itt K a) H1
theorem pi_list {l : Expr} {tl : TE} (hl : PE X l tl) : PI X tg l (iList X.K tl) := by
  intro pins s σ H R I h
  refine thn (hl pins s σ H _ I h) fun v s1 ⟨x, H1, I1, r1, q1⟩ => ?_
  obtain ⟨a, e, ⟨xs, hq⟩, q⟩ := q1
  subst e
  cases r1
  obtain ⟨its, rv, p, hz⟩ := I1.list hq
  refine wpAny_pyIter_list p.isList ?_
  refine ⟨s1.heap.objs.size, [s1.heap.objs.size], _, _, H1, rfl, I1.kept (t' := s1.toks) fun b o e => Heap.get?_push_of_some _ e, turn_list a _, ⟨_, Heap.get?_push_size _ rfl, rfl, rfl⟩, fun b hb => ?_, q⟩
  have e : b = s1.heap.objs.size := by simpa using hb
  subst e
  exact I1.fpOk (Nat.le_refl _) (I1.hok.fresh (Nat.le_refl _))
theorem pi_tup {l : Expr} {tl : TE} (hl : PE X l tl) : PI X tg l (iTup X.K tl) := by
  intro pins s σ H R I h
  refine thn (hl pins s σ H _ I h) fun v s1 ⟨x, H1, I1, r1, q1⟩ => ?_
  obtain ⟨a, e, ⟨xs, hq⟩, q⟩ := q1
  subst e
  cases r1
  obtain ⟨its, rv, p, hz⟩ := I1.tuple hq
  refine wpAny_pyIter_tuple (show s1.heap.IsTuple a its.toArray from p) ?_
  refine ⟨s1.heap.objs.size, [s1.heap.objs.size], _, _, H1, rfl, I1.kept (t' := s1.toks) fun b o e => Heap.get?_push_of_some _ e, turn_tuple a _, ⟨_, Heap.get?_push_size _ rfl, rfl, rfl⟩, fun b hb => ?_, q⟩
  have e : b = s1.heap.objs.size := by simpa using hb
  subst e
  exact I1.fpOk (Nat.le_refl _) (I1.hok.fresh (Nat.le_refl _))
/-- a range object just made, walked -/
theorem range_it {pins : List (Addr × Obj)} {σ : St} {H : Hp} {s : Shared} {R : It → Hp → Prop} {E : Value → Shared → Prop} {lo hi : Int} {t u v : Tok} {tk : Nat} (I : Inv X pins σ H s) (h1 : -(2 ^ 62) ≤ lo) (h2 : lo < 2 ^ 62) (h3 : -(2 ^ 62) ≤ hi) (h4 : hi < 2 ^ 62)
    (q : R (Itr lo (hi - lo).toNat) H) : wpAny (model X.prog X.w) X.A (pyIter (.ref s.heap.objs.size)) (PIE X pins σ tg R) E { s with heap := s.heap.push { cls := .type "range", data := .fields #[.int lo t, .int hi u, .int 1 v] }, toks := tk } := by
  refine wpAny_pyIter_range (IsRange.new ..) (small_one h1 h2 h3 h4) ?_
  have I1 : Inv X pins σ H { s with heap := s.heap.push { cls := .type "range", data := .fields #[.int lo t, .int hi u, .int 1 v] }, toks := tk } := I.kept fun b o e => Heap.get?_push_of_some _ e
  refine ⟨(s.heap.push { cls := .type "range", data := .fields #[.int lo t, .int hi u, .int 1 v] }).objs.size, [(s.heap.push { cls := .type "range", data := .fields #[.int lo t, .int hi u, .int 1 v] }).objs.size], _, _, H, rfl,
    I1.kept (t' := tk) fun b o e => Heap.get?_push_of_some _ e, turn_range _ lo (hi - lo).toNat, ?_, fun b hb => ?_, q⟩
  · have e1 : lo + ((0 : Nat) : Int) * 1 = lo := by simp
    have e2 : (((hi - lo).toNat : Nat) : Int) - ((0 : Nat) : Int) = Builtin.Range.rangeSize lo hi 1 := by rw [rangeSize_one]; split <;> omega
    show IsRangeIter _ _ (lo + ((0 : Nat) : Int) * 1) ((((hi - lo).toNat : Nat) : Int) - ((0 : Nat) : Int)) 1
    rw [e1, e2]
    exact Heap.get?_push_size _ rfl
  · have e : b = (s.heap.push { cls := .type "range", data := .fields #[.int lo t, .int hi u, .int 1 v] }).objs.size := by simpa using hb
    subst e
    exact I1.fpOk (Nat.le_refl _) (I1.hok.fresh (Nat.le_refl _))
def iRng1 (ta : TA) : TI := fun σ H R => ta σ H fun vs H1 => ∃ j : Int, vs = [.int j] ∧ -(2 ^ 62) ≤ j ∧ j < 2 ^ 62 ∧ R (Itr 0 j.toNat) H1
theorem pi_range1 {a : Expr} {ta : TA} {p pos : Pos} (hg : Gl X "range") (hm : X.mg "range" = none) (ha : PA X [a] ta) (hs : starEach [a] X.env = [(false, eval a X.env)] := by rfl) : PI X tg (.Call (.Name "range" p) [a] [] pos) (iRng1 ta) := by
  intro pins s σ H R I h
  refine Call_ (ld_blt I hg hm boot_range (PyProof.Rows.callWith_type1 (thn (ha pos pins s σ H _ I h) fun us s1 ⟨vs, H1, I1, r1, q1⟩ => ?_) hs rfl))
  obtain ⟨j, e, q1, q2, q⟩ := q1
  subst e
  cases r1 with
  | cons r rr =>
    cases rr
    obtain ⟨t, rfl⟩ := r
    exact call_range_1 (range_it I1 (by omega) (by omega) q1 q2 (by simpa using q))

/-! ### for -/
/-- W: the invariant by the turn and a measure; N: what the body is to reach -/
def tFor (wi : TI) (g : TG) (tb : TS) : TS := fun D σ H => wi σ H fun J H1 => ∃ W : Nat → Nat → St → Hp → Prop, (∃ m, W 0 m σ H1) ∧ ∀ i m σ H, W i m σ H →
  (J.stop i H ∧ D.nx σ H) ∨ (J.go i H ∧ ∃ N : St → Hp → Prop, (∀ σ' H', N σ' H' → ∃ m', m' < m ∧ W (i + 1) m' σ' H') ∧ ∀ x H', J.yld i H x H' → g x σ H' fun σ2 H2 => tb { D with nx := N, ct := N, bk := D.nx } σ2 H2)
/-- the records at fp as they stand -/
def pinsAt (fp : List Addr) (h : Heap) : List (Addr × Obj) := fp.filterMap fun b => (h.get? b).map fun o => (b, o)
theorem mem_pinsAt {fp : List Addr} {h : Heap} {b : Addr} {o : Obj} (hb : b ∈ fp) (e : h.get? b = some o) : (b, o) ∈ pinsAt fp h := List.mem_filterMap.mpr ⟨b, hb, by rw [e]; rfl⟩
theorem of_pinsAt {fp : List Addr} {h : Heap} {p : Addr × Obj} (hp : p ∈ pinsAt fp h) : p.1 ∈ fp ∧ h.get? p.1 = some p.2 := by
  obtain ⟨b, hb, e⟩ := List.mem_filterMap.mp hp
  cases q : h.get? b with
  | none => rw [q] at e; cases e
  | some o =>
    rw [q] at e
    have e' : (b, o) = p := Option.some.inj e
    subst e'
    exact ⟨hb, q⟩
theorem Inv.pinned {pins : List (Addr × Obj)} {σ : St} {H : Hp} {s : Shared} {fp : List Addr} (I : Inv X pins σ H s) (hf : ∀ b ∈ fp, FpOk X pins H b) (ho : ∀ b ∈ fp, ∃ o, s.heap.get? b = some o ∧ ∀ v, o.data ≠ .cell v) : Inv X (pins ++ pinsAt fp s.heap) σ H s :=
  I.pins_of fun p hp => (List.mem_append.mp hp).elim (fun z => I.pin p (List.mem_append_right _ z)) fun z => by
    obtain ⟨hb, e⟩ := of_pinsAt z
    obtain ⟨f0, f1, f2, _⟩ := hf p.1 hb
    obtain ⟨o, e', d⟩ := ho p.1 hb
    rw [e] at e'; cases e'
    exact ⟨e, f0, f1, f2, d⟩
theorem Inv.unpinned {pins pl : List (Addr × Obj)} {σ : St} {H : Hp} {s : Shared} (I : Inv X (pins ++ pl) σ H s) : Inv X pins σ H s := I.pins_of fun p hp => I.pin p (List.mem_append_right _ (List.mem_append_left _ hp))
theorem ps_for {iter : Expr} {body : List Stmt} {wi : TI} {g : TG} {tb : TS} {pos : Pos} (hp : PassesOwn (model X.prog X.w) X.A X.env X.xe) (hc : X.calm = true) (hi : PI X tg iter wi) (hg : PG X tg g) (hb : PSs X body tb)
    (hs : ∀ x, foldedSetIterable iter X.env x = pure x := by intro _; rfl) : PS X (.For tg iter body [] pos) (tFor wi g tb) := by
  intro pins s σ H D I h
  refine wpAny_For (thn (hi pins s σ H _ I h) fun v s1 h1 => thn h1 fun itv s2 h2 => ?_) hs
  obtain ⟨it, fp, tn, J, H2, e, I2, T, st2, f2, W, ⟨m0, w0⟩, turn⟩ := h2
  subst e
  -- what stays true of the iterator's objects through the loop
  have stat : ∀ {H' : Hp}, (∀ b ∈ fp, H' b = none) → ∀ b ∈ fp, FpOk X pins H' b := fun hn b hb => ⟨hn b hb, (f2 b hb).2⟩
  refine codeAny_forLoop_any (fun n s' => ∃ i σ' H', Inv X pins σ' H' s' ∧ tn i s'.heap ∧ (∀ b ∈ fp, H' b = none) ∧ W i n σ' H') ?_ m0 ⟨0, σ, H2, I2, st2, fun b hb => (f2 b hb).1, w0⟩
  rintro n s3 ⟨i, σ3, H3, I3, st3, fr3, w3⟩
  rcases turn i n σ3 H3 w3 with ⟨stop, qn⟩ | ⟨go, N, hN, step⟩
  · refine wpAny_passesOwn hp (thn (T.done X rfl rfl rfl hc i pins s3 σ3 H3 X.xe I3 (stat fr3) st3 stop) fun r s4 ⟨hr, I4⟩ => ?_)
    subst hr
    exact wpAny_execs_nil ⟨σ3, H3, I4, qn⟩
  · refine wpAny_passesOwn hp (thn (T.item X rfl rfl rfl hc i pins s3 σ3 H3 X.xe I3 (stat fr3) st3 go) fun r s4 ⟨u, hr, h4⟩ => ?_)
    subst hr
    refine wpAny_passesOwn hp (thn h4 fun _ s5 ⟨x, H5, I5, r5, y5, st5, fr5⟩ => ?_)
    have I5' := I5.pinned (stat fr5) (T.obj _ _ st5)
    refine wpAny_passesOwn hp (thn (hg _ s5 σ3 H5 x u _ I5' r5 (step x H5 y5)) fun _ s6 ⟨σ6, H6, I6, q6⟩ => ?_)
    refine wpAny_passesOwn hp (thn (hb _ s6 σ6 H6 _ I6 q6) fun f s7 q7 => ?_)
    have again : ∀ {σ7 : St} {H7 : Hp}, Inv X (pins ++ pinsAt fp s5.heap) σ7 H7 s7 → N σ7 H7 → ∃ m, m < n ∧ ∃ i σ' H', Inv X pins σ' H' s7 ∧ tn i s7.heap ∧ (∀ b ∈ fp, H' b = none) ∧ W i m σ' H' := fun {σ7 H7} I7 n7 => by
      obtain ⟨m', hm, w7⟩ := hN σ7 H7 n7
      refine ⟨m', hm, i + 1, σ7, H7, I7.unpinned, T.keep _ _ _ st5 fun b hb o e => (I7.pin (b, o) (List.mem_append_right _ (List.mem_append_right _ (mem_pinsAt hb e)))).1, fun b hb => ?_, w7⟩
      obtain ⟨o, e, d⟩ := T.obj _ _ st5 b hb
      exact (I7.pin (b, o) (List.mem_append_right _ (List.mem_append_right _ (mem_pinsAt hb e)))).2.1
    cases f with
    | next => obtain ⟨σ7, H7, I7, n7⟩ := q7; exact again I7 n7
    | cont => obtain ⟨σ7, H7, I7, n7⟩ := q7; exact again I7 n7
    | brk => obtain ⟨σ7, H7, I7, q7⟩ := q7; exact ⟨σ7, H7, I7.unpinned, q7⟩
    | ret v => obtain ⟨x7, σ7, H7, I7, r7, q7⟩ := q7; exact ⟨x7, σ7, H7, I7.unpinned, r7, q7⟩
end

/-! ### the forms one uses -/
end L2

namespace L2
open PySem PySem.Spec PyProof.Rows

abbrev R2 := V → V → Hp → VK → Prop
/-- a two-place operation on values: f is binaryOp op, inplaceOp op or compareOp op -/
def OpR (X : Cx) (f : Value → Value → Sem Value) (r : R2) : Prop :=
  ∀ (pins : List (Addr × Obj)) (s : Shared) (σ : St) (H : Hp) (x y : V) (v u : Value) (Q : VK), Inv X pins σ H s → RelV x v → RelV y u → r x y H Q →
    wpAny (model X.prog X.w) X.A (f v u) (EP X pins σ Q) X.xe s
/-- a one-place operation -/
def UnR (X : Cx) (f : Value → Sem Value) (r : V → Hp → VK → Prop) : Prop :=
  ∀ (pins : List (Addr × Obj)) (s : Shared) (σ : St) (H : Hp) (x : V) (v : Value) (Q : VK), Inv X pins σ H s → RelV x v → r x H Q →
    wpAny (model X.prog X.w) X.A (f v) (EP X pins σ Q) X.xe s
/-- a call of a value that is known (a builtin, a type) with values -/
def CallR (X : Cx) (f : Value) (r : List V → Hp → VK → Prop) : Prop :=
  ∀ (pins : List (Addr × Obj)) (s : Shared) (σ : St) (H : Hp) (xs : List V) (us : List Value) (Q : VK), Inv X pins σ H s → Vals xs us → r xs H Q →
    wpAny (model X.prog X.w) X.A (call f us) (EP X pins σ Q) X.xe s

def tOp (r : R2) (ta tb : TE) : TE := fun σ H Q => ta σ H fun x H1 => tb σ H1 fun y H2 => r x y H2 Q
def tUn (r : V → Hp → VK → Prop) (ta : TE) : TE := fun σ H Q => ta σ H fun x H1 => r x H1 Q
/-- ints in, under C, and a value out -/
def rI (C : Int → Int → Prop) (g : Int → Int → V) : R2 := fun x y H Q => ∃ i j, x = .int i ∧ y = .int j ∧ C i j ∧ Q (g i j) H
def rI0 (g : Int → Int → V) : R2 := fun x y H Q => ∃ i j, x = .int i ∧ y = .int j ∧ Q (g i j) H
def rU (g : Int → V) : V → Hp → VK → Prop := fun x H Q => ∃ i, x = .int i ∧ Q (g i) H

section
variable {X : Cx} {a b c : Expr} {ta tb tc : TE} {pos : Pos}

theorem binT (ha : PE X a ta) (hb : PE X b tb) {pins : List (Addr × Obj)} {s : Shared} {σ : St} {H : Hp} {R : V → V → Hp → Prop} (I : Inv X pins σ H s)
    (h : ta σ H fun x H1 => tb σ H1 fun y H2 => R x y H2) {Q : Value → Shared → Prop} {f : Value → Value → Sem Value}
    (hf : ∀ v u s2 x y H2, Inv X pins σ H2 s2 → RelV x v → RelV y u → R x y H2 → wpAny (model X.prog X.w) X.A (f v u) Q X.xe s2) :
    wpAny (model X.prog X.w) X.A (eval a X.env) (fun v s₁ => wpAny (model X.prog X.w) X.A (eval b X.env) (fun u s₂ => wpAny (model X.prog X.w) X.A (f v u) Q X.xe s₂) X.xe s₁) X.xe s := by
  refine thn (ha pins s σ H _ I h) fun v s1 ⟨x, H1, I1, r1, q1⟩ => ?_
  refine thn (hb pins s1 σ H1 _ I1 q1) fun u s2 ⟨y, H2, I2, r2, q2⟩ => ?_
  exact hf v u s2 x y H2 I2 r1 r2 q2

theorem pe_op {op : Operator} {r : R2} (ho : OpR X (binaryOp op) r) (ha : PE X a ta) (hb : PE X b tb) : PE X (.BinOp a op b pos) (tOp r ta tb) := by
  intro pins s σ H Q I h
  exact wpAny_BinOp (binT ha hb I h fun v u s2 x y H2 I2 rx ry q => ho pins s2 σ H2 x y v u Q I2 rx ry q)
theorem pe_un {op : UnaryOp} {r : V → Hp → VK → Prop} (ho : UnR X (unaryOp op) r) (ha : PE X a ta) : PE X (.UnaryOp op a pos) (tUn r ta) := by
  intro pins s σ H Q I h
  exact UnaryOp_ (thn (ha pins s σ H _ I h) fun v s1 ⟨x, H1, I1, r1, q1⟩ => ho pins s1 σ H1 x v Q I1 r1 q1)

/-! ### ints -/
theorem opI {f : Value → Value → Sem Value} {C : Int → Int → Prop} {g : Int → Int → Int}
    (rule : ∀ (i j : Int) (t u : Tok) (s : Shared) (Q : Value → Shared → Prop) (E : Value → Shared → Prop), C i j → Q (.int (g i j) s.toks) { s with toks := s.toks + 1 } → wpAny (model X.prog X.w) X.A (f (.int i t) (.int j u)) Q E s) :
    OpR X f (rI C fun i j => .int (g i j)) := by
  intro pins s σ H x y v u Q I rx ry h
  obtain ⟨i, j, rfl, rfl, hc, q⟩ := h
  obtain ⟨t, rfl⟩ := rx
  obtain ⟨t', rfl⟩ := ry
  exact rule i j t t' s _ _ hc ⟨.int (g i j), H, I.tok _, ⟨_, rfl⟩, q⟩
theorem opI0 {f : Value → Value → Sem Value} {g : Int → Int → Int}
    (rule : ∀ (i j : Int) (t u : Tok) (s : Shared) (Q : Value → Shared → Prop) (E : Value → Shared → Prop), Q (.int (g i j) s.toks) { s with toks := s.toks + 1 } → wpAny (model X.prog X.w) X.A (f (.int i t) (.int j u)) Q E s) :
    OpR X f (rI0 fun i j => .int (g i j)) := by
  intro pins s σ H x y v u Q I rx ry h
  obtain ⟨i, j, rfl, rfl, q⟩ := h
  obtain ⟨t, rfl⟩ := rx
  obtain ⟨t', rfl⟩ := ry
  exact rule i j t t' s _ _ ⟨.int (g i j), H, I.tok _, ⟨_, rfl⟩, q⟩
theorem opB0 {f : Value → Value → Sem Value} {g : Int → Int → Bool}
    (rule : ∀ (i j : Int) (t u : Tok) (s : Shared) (Q : Value → Shared → Prop) (E : Value → Shared → Prop), Q (.bool (g i j)) s → wpAny (model X.prog X.w) X.A (f (.int i t) (.int j u)) Q E s) :
    OpR X f (rI0 fun i j => .bl (g i j)) := by
  intro pins s σ H x y v u Q I rx ry h
  obtain ⟨i, j, rfl, rfl, q⟩ := h
  obtain ⟨t, rfl⟩ := rx
  obtain ⟨t', rfl⟩ := ry
  exact rule i j t t' s _ _ ⟨.bl (g i j), H, I, rfl, q⟩

def CDiv (i j : Int) : Prop := 0 < j ∧ j < 1073741824
def CPow (i j : Int) : Prop := 0 ≤ j ∧ j ≤ 1000000 ∧ i.natAbs < 2 ^ 64
def CMul (i j : Int) : Prop := (-(2 ^ 64) < i ∧ i < 2 ^ 64) ∨ (-(2 ^ 64) < j ∧ j < 2 ^ 64)
theorem CMul.ok {i j : Int} (h : CMul i j) : IntMulOk i j := by
  rcases h with ⟨h1, h2⟩ | ⟨h1, h2⟩
  · exact .of_left (intBits_le_64 h1 h2)
  · exact .of_right (intBits_le_64 h1 h2)

theorem op_add : OpR X (binaryOp .Add) (rI0 fun i j => .int (i + j)) := opI0 fun _ _ _ _ _ _ _ q => add_int q
theorem op_sub : OpR X (binaryOp .Sub) (rI0 fun i j => .int (i - j)) := opI0 fun _ _ _ _ _ _ _ q => sub_int q
theorem op_mul : OpR X (binaryOp .Mult) (rI CMul fun i j => .int (i * j)) := opI fun _ _ _ _ _ _ _ hc q => mul_int q hc.ok
/-- // by a positive divisor -/
theorem op_fdiv : OpR X (binaryOp .FloorDiv) (rI CDiv fun i j => .int (i / j)) := opI fun i j _ _ _ _ _ hc q => by
  have h1 : (0 : Int) < j := hc.1
  have h2 : j < 1073741824 := hc.2
  exact floordiv_int (by omega) (by rw [Int.fdiv_eq_ediv_of_nonneg i (by omega)]; exact q) (.inl (PyProof.noPylong_small (by omega)))
/-- % by a positive divisor of any size -/
theorem op_mod : OpR X (binaryOp .Mod) (rI (fun _ j => 0 < j) fun i j => .int (i % j)) := opI fun i j _ _ _ _ _ hc q => by
  have h1 : (0 : Int) < j := hc
  exact mod_int' (by omega) (by rw [Int.fmod_eq_emod_of_nonneg i (by omega)]; exact q)
theorem op_pow : OpR X (binaryOp .Pow) (rI CPow fun i j => .int (i ^ j.toNat)) := opI fun _ _ _ _ _ _ _ hc q => pow_int_small hc.1 hc.2.1 hc.2.2 q


theorem unI {f : Value → Sem Value} {g : Int → Int}
    (rule : ∀ (i : Int) (t : Tok) (s : Shared) (Q : Value → Shared → Prop) (E : Value → Shared → Prop), Q (.int (g i) s.toks) { s with toks := s.toks + 1 } → wpAny (model X.prog X.w) X.A (f (.int i t)) Q E s) :
    UnR X f (rU fun i => .int (g i)) := by
  intro pins s σ H x v Q I rx h
  obtain ⟨i, rfl, q⟩ := h
  obtain ⟨t, rfl⟩ := rx
  exact rule i t s _ _ ⟨.int (g i), H, I.tok _, ⟨_, rfl⟩, q⟩
theorem un_neg : UnR X (unaryOp .USub) (rU fun i => .int (-i)) := unI fun _ _ _ _ _ q => neg_int q

/-! ### bools among ints: n += (a < b) -/
end

/-! ### comparisons -/


section
variable {X : Cx} {a b c : Expr} {ta tb tc : TE} {pos : Pos}
theorem fin_bl {pins : List (Addr × Obj)} {σ : St} {H : Hp} {s : Shared} {Q : VK} {k k' : Bool} (I : Inv X pins σ H s) (q : Q (.bl k) H) (e : k = k') : EP X pins σ Q (.bool k') s := by
  subst e
  exact ⟨.bl k, H, I, rfl, q⟩

theorem op_lt : OpR X (compareOp .Lt) (rI0 fun i j => .bl (decide (i < j))) := opB0 fun _ _ _ _ _ _ _ q => lt_int q
theorem op_le : OpR X (compareOp .LtE) (rI0 fun i j => .bl (decide (i ≤ j))) := opB0 fun _ _ _ _ _ _ _ q => le_int q
theorem op_gt : OpR X (compareOp .Gt) (rI0 fun i j => .bl (decide (j < i))) := opB0 fun _ _ _ _ _ _ _ q => gt_int q
theorem op_ge : OpR X (compareOp .GtE) (rI0 fun i j => .bl (decide (j ≤ i))) := opB0 fun _ _ _ _ _ _ _ q => ge_int q

/-- is None, is not None: the right side a value none -/
theorem op_isN : OpR X (compareOp .Is) (fun x y H Q => y = .non ∧ Q (.bl (decide (x = .non))) H) := by
  intro pins s σ H x y v u Q I rx ry h
  obtain ⟨rfl, q⟩ := h
  cases ry
  refine is_none_gen (fin_bl I q ?_)
  cases x <;> first
    | (cases rx; rfl)
    | (obtain ⟨t, rfl⟩ := rx; rfl)



theorem nomark (b : Expr) {op : CmpOp} (h : op ≠ .In := by decide) (h2 : op ≠ .NotIn := by decide) : behindInMarks op b = false := by
  have e1 : (op == CmpOp.In) = false := by cases op <;> first | rfl | exact absurd rfl h
  have e2 : (op == CmpOp.NotIn) = false := by cases op <;> first | rfl | exact absurd rfl h2
  cases b <;> simp [behindInMarks, e1, e2]
/-- a comparison as a value; hm: nomark b, or (for in, not in) by with_unfolding_all rfl -/
theorem pe_cmpR {op : CmpOp} {r : R2} (ho : OpR X (compareOp op) r) (ha : PE X a ta) (hb : PE X b tb) (hm : behindInMarks op b = false) : PE X (.Compare a [op] [b] pos) (tOp r ta tb) := by
  intro pins s σ H Q I h
  exact wpAny_Compare1 (binT ha hb I h fun v u s2 x y H2 I2 rx ry q => ho pins s2 σ H2 x y v u Q I2 rx ry q) hm
/-- a reading of a value as a test -/
def tTest (t : TE) : TT := fun σ H Q => t σ H fun x H' => ∃ k, x = .bl k ∧ Q k H'
theorem pt_cmpR {op : CmpOp} {r : R2} (ho : OpR X (compareOp op) r) (ha : PE X a ta) (hb : PE X b tb) (hm : behindInMarks op b = false) : PT X (.Compare a [op] [b] pos) (tTest (tOp r ta tb)) := by
  intro pins s σ H Q I h
  refine wpAny_isTrue_Compare1 (thn (ha pins s σ H _ I h) fun v s1 ⟨x, H1, I1, r1, q1⟩ => thn (hb pins s1 σ H1 _ I1 q1) fun u s2 ⟨y, H2, I2, r2, q2⟩ =>
    thn (ho pins s2 σ H2 x y v u _ I2 r1 r2 q2) fun c s3 ⟨z, H3, I3, r3, k, e, q3⟩ => ?_) hm
  subst e
  cases r3
  exact wpAny_truthy_bool ⟨H3, I3, q3⟩
/-- a op1 b op2 c -/
def tChain (r r' : R2) (ta tb tc : TE) : TE := fun σ H Q => ta σ H fun x H1 => tb σ H1 fun y H2 => r x y H2 fun z H3 => ∃ k, z = .bl k ∧
  (if k = true then tc σ H3 fun w' H4 => r' y w' H4 Q else Q (.bl false) H3)
theorem pe_chain {op op' : CmpOp} {r r' : R2} (ho : OpR X (compareOp op) r) (ho' : OpR X (compareOp op') r') (ha : PE X a ta) (hb : PE X b tb) (hc : PE X c tc)
    (hm : lastMarks [op, op'] [b, c] = false := by with_unfolding_all rfl) : PE X (.Compare a [op, op'] [b, c] pos) (tChain r r' ta tb tc) := by
  intro pins s σ H Q I h
  refine Compare_chain (thn (ha pins s σ H _ I h) fun v s1 ⟨x, H1, I1, r1, q1⟩ => chain_link (thn (hb pins s1 σ H1 _ I1 q1) fun u s2 ⟨y, H2, I2, r2, q2⟩ =>
    thn (ho pins s2 σ H2 x y v u _ I2 r1 r2 q2) fun d s3 ⟨z, H3, I3, r3, k, e, q3⟩ => ?_)) hm
  subst e
  cases r3
  refine wpAny_truthy_bool ?_
  cases k with
  | false => exact ite_ff ⟨.bl false, H3, I3, rfl, q3⟩
  | true => exact ite_tt (chain_last (thn (hc pins s3 σ H3 _ I3 q3) fun w' s4 ⟨z', H4, I4, r4, q4⟩ => ho' pins s4 σ H4 y z' u w' Q I4 r2 r4 q4))

/-! ### truth -/
theorem line63 : (sizeLine : Nat) < 2 ^ 63 := by rw [sizeLine_eq]; decide

/-! ### strs and bytes -/


/-! ### scalar builtins, by CallR -/
theorem vals1 {x : V} {us : List Value} (r : Vals [x] us) : ∃ u, us = [u] ∧ RelV x u := by
  cases r with
  | cons r1 r2 => cases r2; exact ⟨_, rfl, r1⟩
theorem vals2 {x y : V} {us : List Value} (r : Vals [x, y] us) : ∃ u w', us = [u, w'] ∧ RelV x u ∧ RelV y w' := by
  cases r with
  | cons r1 r2 =>
    cases r2 with
    | cons r3 r4 => cases r4; exact ⟨_, _, rfl, r1, r3⟩
theorem call_max2 (hc : X.calm = true) : CallR X (.builtin "max") (fun xs H Q => ∃ i j, xs = [.int i, .int j] ∧ Q (.int (if j > i then j else i)) H) := by
  intro pins s σ H xs us Q I r h
  obtain ⟨i, j, rfl, q⟩ := h
  obtain ⟨u, w', rfl, ⟨t, rfl⟩, ⟨t', rfl⟩⟩ := vals2 r
  refine max_two_ints (I.ok.hd hc) fun h' tk k => ⟨_, H, I.kept k, ?_, q⟩
  by_cases hj : j > i
  · rw [if_pos hj, if_pos hj]; exact ⟨_, rfl⟩
  · rw [if_neg hj, if_neg hj]; exact ⟨_, rfl⟩
end
end L2

namespace L2
open PySem PySem.Spec PyProof.Rows

/-! ### an instance, its attributes a map -/
structure ObjM (h : Heap) (x dx C : Addr) (mA : Str → Option Value) : Prop where
  obj : h.get? x = some (PySem.W.instObj C dx)
  ns : h.Ns1 dx mA
  ne : dx ≠ x

theorem lookIn_ns {h : Heap} {dx : Addr} {mA : Str → Option Value} (n : h.Ns1 dx mA) : ∃ od, h.get? dx = some od ∧ ∀ name, PySem.W.lookIn name od = some (mA name) := by
  obtain ⟨o, es, ep, ho, hd, hk, _, hm⟩ := n
  refine ⟨o, ho, fun name => ?_⟩
  have e := hm name
  unfold nsFind findBy at e
  rw [← Array.find?_toList] at e
  unfold PySem.W.lookIn
  rw [hd]
  dsimp only
  split
  · rename_i y q
    rw [q] at e
    exact congrArg some e
  · rename_i q
    rw [q] at e
    have a : es.toList.any (·.refKey) = false := by
      rw [List.any_eq_false]
      intro y hy
      obtain ⟨z, t, hkey⟩ := hk y (Array.mem_toList_iff.mp hy)
      simp [DictEntry.refKey, hkey]
    have a' : ¬ es.toList.any (·.refKey) = true := by rw [a]; exact Bool.false_ne_true
    rw [if_neg a']
    exact congrArg some e

theorem ObjM.look {h : Heap} {x dx C : Addr} {mA : Str → Option Value} (I : ObjM h x dx C mA) : ∃ od, PySem.W.InstAt h x (PySem.W.instObj C dx) C (some od) ∧ ∀ name, PySem.W.lookIn name od = some (mA name) :=
  let ⟨od, ho, hl⟩ := lookIn_ns I.ns
  ⟨od, ⟨I.obj, rfl, rfl, ho⟩, hl⟩

section
variable {prog : Program} {w : World} {A : Around} {E : Value → Shared → Prop} {s : Shared} {K : PySem.W.Frag} {x dx C f : Addr} {mA : Str → Option Value} {name : Str} {v : Value}





end

/-! ### the attributes as a list of pairs -/


section
variable {P : Program} {w : World} {H H' : Hp} {h h' : Heap} {a C dx : Addr} {fs fs' : List (Str × V)}
theorem ins_get (hok : HOk P w H h) (e : H a = some (.ins C dx fs)) : ∃ mA, ObjM h a dx C mA ∧ (∀ f, RelO (fs.lookup f) (mA f)) ∧ PySem.Within mA (fs.map (·.1)) ∧ fs.length ≤ 1000 ∧ H dx = some (.own a) := by
  obtain ⟨d, z, ne, ob, mA, n, r, q⟩ := (show ObjOk P w H h a (.ins C dx fs) from hok a _ e)
  exact ⟨mA, ⟨ob, n, ne⟩, r, q, z, d⟩
end

/-! ### what of the text a class must have -/
structure Cls (K : PySem.W.Frag) (C : Addr) : Prop where
  pg : PySem.W.plainGet K C Str.empty = true
  hd : PySem.W.hasDictIn K C = true
  po : PySem.W.plainOver K C = true
  sa : PySem.W.findIn K (.ref C) "__setattr__" = some (some (.builtin "object.__setattr__"))
theorem Cls.get {K : PySem.W.Frag} {C : Addr} (c : Cls K C) (f : Str) : PySem.W.plainGet K C f = true := c.pg

section
variable {X : Cx} {pins : List (Addr × Obj)} {σ : St} {H : Hp} {s : Shared} {a C dx : Addr} {fs : List (Str × V)} {f : Str} {v : V} {A : Around} {E : Value → Shared → Prop}






end

/-! ### readings and rules -/

section
variable {X : Cx} {o e value : Expr} {f : Str} {pos pos' tpos : Pos} {ta tv : TE}

end

/-! ### isinstance -/
section
variable {X : Cx} {pins : List (Addr × Obj)} {σ : St} {H : Hp} {s : Shared} {A : Around} {E : Value → Shared → Prop} {Q : Value → Shared → Prop} {c : Value} {b : Bool}
/-- the type of a value, as the fragment's deciders take it; for an instance its class -/
inductive TyOf (K : PySem.W.Frag) (H : Hp) : V → Value → Prop where
  | non : TyOf K H .non (.type "NoneType")
  | bl (x : Bool) : TyOf K H (.bl x) (.type "bool")
  | int (i : Int) : TyOf K H (.int i) (.type "int")
  | str (x : Str) : TyOf K H (.str x) (.type "str")
  | flt (x : UInt64) : TyOf K H (.flt x) (.type "float")
  | lst {a : Addr} {xs : List V} (e : H a = some (.lst xs)) : TyOf K H (.ref a) (.type "list")
  | frz {a : Addr} {o : Obj} {xs : List V} (e : H a = some (.frz o (.lst xs))) : TyOf K H (.ref a) (.type "list")
  | tup {a : Addr} {xs : List V} (e : H a = some (.tup xs)) : TyOf K H (.ref a) (.type "tuple")
  | dK {a : Addr} {kvs : List (Key × V)} (e : H a = some (.dK kvs)) : TyOf K H (.ref a) (.type "dict")
  | dT {a : Addr} {kvs : List (List Key × V)} (e : H a = some (.dT kvs)) : TyOf K H (.ref a) (.type "dict")
  | ins {a C dx : Addr} {fs : List (Str × V)} (e : H a = some (.ins C dx fs)) (cl : Cls K C) (ha : PySem.W.findIn K (.ref C) "__class__" = some (some (.builtin "object.__class__")))
      (hn : PySem.W.specialIn K (.builtin "object.__class__") "__get__" = some (some (.builtin "getset_descriptor.__get__"))) (htk : PySem.W.takesIn K (.builtin "object.__class__") = some true)
      (hm : PySem.W.mroIn K C (.type "object") = some true) : TyOf K H (.ref a) (.ref C)
/-- isinstance(x, c) for one class c, a built-in or an own one: kitOne's answer -/
theorem isinst_ok {x : V} {u t : Value} (I : Inv X pins σ H s) (rx : RelV x u) (ty : TyOf X.K H x t) (e : PySem.W.kitOne X.K t c = some b) (h : ∀ tk, Q (.bool b) { s with toks := tk }) :
    wpAny (model X.prog X.w) A (call (.builtin "isinstance") [u, c]) Q E s := by
  cases ty with
  | non => cases (show u = Value.none from rx); exact PySem.W.kia_one PySem.W.kitx_none I.kIn True.intro e (fun z => nomatch z) h
  | bl y => cases (show u = Value.bool y from rx); exact PySem.W.kia_one PySem.W.kitx_bool I.kIn True.intro e (fun z => nomatch z) h
  | int i => obtain ⟨t, q⟩ := (show ∃ t, u = Value.int i t from rx); cases q; exact PySem.W.kia_one PySem.W.kitx_int I.kIn True.intro e (fun z => nomatch z) h
  | str y => obtain ⟨t, q⟩ := (show ∃ t, u = Value.str y t from rx); cases q; exact PySem.W.kia_one PySem.W.kitx_str I.kIn True.intro e (fun z => nomatch z) h
  | flt y => obtain ⟨t, q⟩ := (show ∃ t, u = Value.float y t from rx); cases q; exact PySem.W.kia_one PySem.W.kitx_float I.kIn True.intro e (fun z => nomatch z) h
  | @lst a xs ea =>
    cases (show u = Value.ref a from rx)
    obtain ⟨_, _, n, _, h1⟩ := (show ObjOk X.prog X.w H s.heap a (.lst xs) from I.hok a _ ea)
    exact PySem.W.kia_one PySem.W.kitx_list I.kIn ⟨_, h1, rfl⟩ e (fun z => nomatch z) h
  | @frz a ob xs ea =>
    cases (show u = Value.ref a from rx)
    obtain ⟨_, _, _, n, _, h1⟩ := (show ObjOk X.prog X.w H s.heap a (.frz ob (.lst xs)) from I.hok a _ ea)
    exact PySem.W.kia_one PySem.W.kitx_list I.kIn ⟨_, h1, rfl⟩ e (fun z => nomatch z) h
  | @tup a xs ea =>
    cases (show u = Value.ref a from rx)
    obtain ⟨_, _, _, p⟩ := (show ObjOk X.prog X.w H s.heap a (.tup xs) from I.hok a _ ea)
    obtain ⟨o, h1, h2, _⟩ := p
    exact PySem.W.kia_one PySem.W.kitx_tuple I.kIn ⟨o, h1, h2⟩ e (fun z => nomatch z) h
  | @dK a kvs ea =>
    cases (show u = Value.ref a from rx)
    obtain ⟨_, _, vs, _, p⟩ := (show ObjOk X.prog X.w H s.heap a (.dK kvs) from I.hok a _ ea)
    obtain ⟨o, es, ep, h1, h2, _⟩ := p
    exact PySem.W.kia_one PySem.W.kitx_dict I.kIn ⟨o, h1, h2.1⟩ e (fun z => nomatch z) h
  | @dT a kvs ea =>
    cases (show u = Value.ref a from rx)
    obtain ⟨_, _, xs, _, o, es, ep, h1, h2, _⟩ := (show ObjOk X.prog X.w H s.heap a (.dT kvs) from I.hok a _ ea)
    exact PySem.W.kia_one PySem.W.kitx_dict I.kIn ⟨o, h1, h2.1⟩ e (fun z => nomatch z) h
  | @ins a C dx fs ea cl ha hn htk hm =>
    cases (show u = Value.ref a from rx)
    obtain ⟨mA, O, _⟩ := ins_get I.hok ea
    obtain ⟨od, J, _⟩ := O.look
    exact PySem.W.kia_one (PySem.W.kitx_own (cl.get _) cl.hd ha hn htk hm) I.kIn J e (fun z => nomatch z) h
end
end L2

namespace L2
open PySem PySem.Spec PyProof.Rows

/-! ### room -/
structure Room (k : Nat) (A : Around) : Prop where
  hd : A.handled = none
  dp : A.depth + 3 * k + 5 < recursionLimit
  un : A.units + 16 * k + 200 < cLine
theorem Room.mono {j k : Nat} {A : Around} (r : Room k A) (h : j ≤ k) : Room j A := ⟨r.hd, by have := r.dp; omega, by have := r.un; omega⟩
theorem Room.deeper {k : Nat} {A : Around} (r : Room (k + 1) A) (env : Env) : Room k (A.deeper env) :=
  ⟨r.hd, by have := r.dp; show A.depth + 1 + 3 * k + 5 < _; omega, by have := r.un; show A.units + 3 + 16 * k + 200 < _; omega⟩
theorem Room.depth {k : Nat} {A : Around} (r : Room k A) : A.depth < recursionLimit := by have := r.dp; omega
theorem Room.units {k : Nat} {A : Around} (r : Room k A) : A.units + 64 < cLine := by have := r.un; omega

/-! ### argument lists and displays -/
def tNil : TA := fun _ H Q => Q [] H
def tCons (ta : TE) (tr : TA) : TA := fun σ H Q => ta σ H fun x H1 => tr σ H1 fun xs H2 => Q (x :: xs) H2
section
variable {X : Cx} {e : Expr} {es : List Expr} {te : TE} {t : TA} {pos : Pos}
theorem pa_nil : PA X [] tNil := fun _ _ _ _ H Q I h => Calls.spliced_nil ⟨[], H, I, .nil, h⟩
theorem pa_cons (ha : PE X e te) (hr : PA X es t) (hs : starEach (e :: es) X.env = (false, eval e X.env) :: starEach es X.env := by rfl) : PA X (e :: es) (tCons te t) := by
  intro pos pins s σ H Q I h
  rw [hs]
  show wpAny _ _ (spliced ((false, eval e X.env) :: backTo pos (starEach es X.env))) _ _ s
  refine Calls.spliced_cons (thn (ha pins s σ H _ I h) fun u s1 ⟨x, H1, I1, r1, q1⟩ => ?_)
  exact thn (hr pos pins s1 σ H1 _ I1 q1) fun us s2 ⟨xs, H2, I2, r2, q2⟩ => ⟨x :: xs, H2, I2, .cons r1 r2, q2⟩

/-- a tuple, a list of written items -/
def tTup (t : TA) : TE := fun σ H Q => t σ H fun xs H1 => xs.length ≤ sizeLine ∧ ∀ p, H1 p = none → Q (.ref p) (upd H1 p (.tup xs))
def tLst (t : TA) : TE := fun σ H Q => t σ H fun xs H1 => xs.length ≤ sizeLine ∧ ∀ p, H1 p = none → Q (.ref p) (upd H1 p (.lst xs))
theorem pe_tup {x1} (h : PA X es t) : PE X (.Tuple es x1 pos) (tTup t) := by
  intro pins s σ H Q I hq
  refine wpAny_Tuple_spliced (thn (h pos pins s σ H _ I hq) fun us s1 ⟨xs, H1, I1, r, z, q⟩ => ⟨by rw [← r.length]; exact z, ?_⟩)
  have hf : H1 s1.heap.objs.size = none := I1.hok.fresh (Nat.le_refl _)
  refine ⟨.ref s1.heap.objs.size, upd H1 s1.heap.objs.size (.tup xs), I1.laid (t' := s1.toks) (fun b u e => Heap.get?_push_of_some _ e) (Nat.le_refl _) ?_, rfl, q _ hf⟩
  exact ⟨z, us, r, ⟨_, Heap.get?_push_size _ rfl, rfl, _, rfl⟩⟩
theorem pe_lst (h : PA X es t) : PE X (.List es pos) (tLst t) := by
  intro pins s σ H Q I hq
  refine wpAny_List_spliced (thn (h pos pins s σ H _ I hq) fun us s1 ⟨xs, H1, I1, r, z, q⟩ => ⟨by rw [← r.length]; exact z, ?_⟩)
  have hf : H1 s1.heap.objs.size = none := I1.hok.fresh (Nat.le_refl _)
  refine ⟨.ref s1.heap.objs.size, upd H1 s1.heap.objs.size (.lst xs), I1.laid (t' := s1.toks) (fun b u e => Heap.get?_push_of_some _ e) (Nat.le_refl _) ?_, rfl, q _ hf⟩
  exact ⟨z, us, 0, r, Heap.get?_push_size _ rfl⟩
end

/-! ### what a def promises -/
/-- a def's promise: the bound arguments in the parameters' order, the heap, the wanted end, the wanted exception -/
abbrev Sp := List V → Hp → VK → XK → Prop
/-- how an exception lies behind a call (file 08 gives it): the callers' frames, abstract heap and state ahead of the call, the wish, the exception, the state -/
abbrev CXT := List Env → Hp → Shared → XK → Value → Shared → Prop

/-- the state at a call -/
structure Env0 (P : Program) (w : World) (K : PySem.W.Frag) (mg : Str → Option Value) (base : Heap) (A : Around) (outer : List Env) (s : Shared) (H : Hp) : Prop where
  frames : A.frames = some outer
  mod : Mod K mg base
  bs : ∀ b o, base.get? b = some o → s.heap.get? b = some o ∧ H b = none
  bsz : base.objs.size ≤ s.heap.objs.size
  funs : s.heap.FunFrames base outer
  frf : ∀ b ∈ frs outer, H b = none
  hok : HOk P w H s.heap
  bare : AllBare s.gens
/-- a call's end -/
def CE (outer : List Env) (P : Program) (w : World) (H : Hp) (s : Shared) (Q : VK) (u : Value) (s' : Shared) : Prop :=
  ∃ v H', s'.os = s.os ∧ AllBare s'.gens ∧ Un (frs outer) [] H H' s.heap s'.heap ∧ HOk P w H' s'.heap ∧ RelV v u ∧ Q v H'
def CR (CX : CXT) (outer : List Env) (P : Program) (w : World) (H : Hp) (s : Shared) (Q : VK) (E : XK) (r : Result) (s' : Shared) : Prop :=
  match r with
  | .ok (.ret u) => CE outer P w H s Q u s'
  | .ok _ => False
  | .error e => CX outer H s E e s'
structure FnOk (P : Program) (w : World) (K : PySem.W.Frag) (mg : Str → Option Value) (base : Heap) (CX : CXT) (k : Nat) (f : Addr) (fd : FuncData) (ps : List Str) (sp : Sp) : Prop where
  len : ∀ vs H Q E, sp vs H Q E → vs.length = ps.length
  run : ∀ (A : Around) (outer : List Env) (s : Shared) (H : Hp) (args : Args) (us : List Value) (vs : List V) (Q : VK) (E : XK), Room k A → Env0 P w K mg base A outer s H → BindsTo s fd args (ps.zip us) → Vals vs us → sp vs H Q E →
    codeAny (model P w) A (.call (.ref f) args) (CR CX outer P w H s Q E) s


section
variable {X : Cx} {pins : List (Addr × Obj)} {σ : St} {H : Hp} {s s' : Shared}
/-- from a body: what a callee wants -/
theorem Inv.env0 (I : Inv X pins σ H s) : Env0 X.prog X.w X.K X.mg X.base X.A X.stack s H :=
  ⟨I.ok.frames, I.ok.mod, I.bs, Nat.le_trans I.ok.bsz I.sz, I.stack, I.stkFree, I.hok, I.bare⟩
/-- behind a call -/
theorem Inv.after {Q : VK} {u : Value} (I : Inv X pins σ H s) (h : CE X.stack X.prog X.w H s Q u s') : EP X pins σ Q u s' := by
  obtain ⟨v, H', os, bare, un, hok, r, q⟩ := h
  obtain ⟨hh, g, d, t, os'⟩ := s'
  obtain rfl : os' = s.os := os
  exact ⟨v, H', I.call (h' := hh) (g' := g) (d' := d) (t' := t) (ch := []) un hok bare (fun b z => absurd z (by simp)), r, q⟩
end

/-! ### calls -/
/-- f(..): the written arguments, then the defaults dvs; E: what is wanted of an exception -/
def tCall (sp : Sp) (dvs : List V) (E : XK) (t : TA) : TE := fun σ H Q => t σ H fun vs H1 => sp (vs ++ dvs) H1 Q E

/-- how the parameters are bound: us the positional arguments, kw the keywords' values by name, ds the defaults that fill up -/
def Binds (K : PySem.W.Frag) (fd : FuncData) (ps : List Str) (ds : List Value) : Prop :=
  ∀ (s : Shared) (us : List Value), K.In s.heap → (us ++ ds).length = ps.length → BindsTo s fd ⟨us, []⟩ (ps.zip (us ++ ds))
/-- every parameter is given -/
theorem Binds.all {K : PySem.W.Frag} {fd : FuncData} {ps : List Str} (h : ∀ us : List Value, us.length = ps.length → bindArgs fd ⟨us, []⟩ = pure (ps.zip us)) : Binds K fd ps [] := fun s us _ hl => by
  rw [List.append_nil] at hl ⊢
  exact .of_eq (h us hl)

/-- an exception of a callee reaches what this body wants of exceptions -/
def Passes (CX : CXT) (X : Cx) (E : XK) : Prop := ∀ (pins : List (Addr × Obj)) (σ : St) (H : Hp) (s : Shared) (e : Value) (s' : Shared), Inv X pins σ H s → CX X.stack H s E e s' → X.xe e s'

section
variable {X : Cx} {CX : CXT} {k : Nat} {f C : Addr} {fd : FuncData} {ps : List Str} {sp : Sp} {dvs : List V} {ds : List Value} {E : XK} {x m : Str} {p pos apos : Pos} {e o : Expr} {es : List Expr} {ta : TE} {t : TA}

/-- the callee runs -/
theorem run_fn {pins : List (Addr × Obj)} {σ : St} {H : Hp} {s : Shared} {Q : VK} {us : List Value} {vs : List V} (F : FnOk X.prog X.w X.K X.mg X.base CX k f fd ps sp) (hr : Room k X.A) (hb : Binds X.K fd ps ds) (hd : Vals dvs ds) (hx : Passes CX X E)
    (I : Inv X pins σ H s) (r : Vals vs us) (h : sp (vs ++ dvs) H Q E) : wpAny (model X.prog X.w) X.A (call (.ref f) us) (EP X pins σ Q) X.xe s := by
  have r2 : Vals (vs ++ dvs) (us ++ ds) := r.append hd
  have hl : (us ++ ds).length = ps.length := by rw [← r2.length]; exact F.len _ _ _ _ h
  refine wpAny_call (codeAny_mono (F.run X.A X.stack s H ⟨us, []⟩ (us ++ ds) (vs ++ dvs) Q E hr I.env0 (hb s us I.kIn hl) r2 h) fun r s' hq => ?_)
  cases r with
  | error e => exact hx pins σ H s e s' I hq
  | ok fl =>
    cases fl with
    | ret u => exact I.after hq
    | next => exact False.elim hq
    | brk => exact False.elim hq
    | cont => exact False.elim hq

theorem pe_call (F : FnOk X.prog X.w X.K X.mg X.base CX k f fd ps sp) (hr : Room k X.A) (hg : Gl X x) (hm : X.mg x = some (.ref f)) (hk : PySem.W.keepIn X.K (.ref f) = true) (hb : Binds X.K fd ps ds) (hd : Vals dvs ds) (hx : Passes CX X E)
    (ha : PA X (e :: es) t) (hdb : (x == ("__debug__" : Str)) = false := by decide) (he : starEach (e :: es) X.env = (false, eval e X.env) :: starEach es X.env := by rfl) (hpl : (backTo pos (starEach es X.env)).any (·.1) = false := by rfl) :
    PE X (.Call (.Name x p) (e :: es) [] pos) (tCall sp dvs E t) := by
  intro pins s σ H Q I h
  refine wpAny_Call_Name_kw (ld_glob I hg hm ?_ hdb)
  refine PySem.W.callWith_K (h₀ := X.base) I.ok.mod.kin hk (thn (ha pos pins s σ H _ I h) fun us s1 ⟨vs, H1, I1, r, q⟩ => ⟨I1.kIn, ?_⟩) he hpl
  exact run_fn F hr hb hd hx I1 r q



end

/-! ### keywords -/
section
variable {X : Cx} {CX : CXT} {k : Nat} {f C : Addr} {fd : FuncData} {ps ks : List Str} {sp : Sp} {E : XK} {x m : Str} {p pos apos kpos : Pos} {e o : Expr} {es : List Expr} {kws : List Keyword} {te ta : TE} {t tk : TA} {nm : Option Str}

variable {g : List Value → List Value → List Value} {gV : List V → List V → List V}
end

/-! ### a def's body keeps its promise -/
/-- names: the parameters first -/
structure FnScope (N P : List Str) (sc : Scope) : Prop where
  kind : sc.kind = .function
  co : sc.isCoroutine = false
  gen : sc.isGenerator = false
  nd : N.Nodup
  pre : N.take P.length = P
  par : ∀ x ∈ P, sc.names.lookup x = some .local ∨ sc.names.lookup x = some .cell
  nofree : ∀ y ∈ sc.names, y.2 ≠ .free

theorem bindL_out {kindOf : Str → Option NameKind} {x : Str} : ∀ {binds : List (Str × Value)} {m : Str → Option Value}, (∀ v, (x, v) ∉ binds) → bindL kindOf binds m x = m x
  | [], _, _ => rfl
  | (n, v) :: r, m, h => by
    unfold bindL
    rw [bindL_out fun w hw => h w (List.mem_cons_of_mem _ hw)]
    split
    · have : x ≠ n := by rintro rfl; exact h v List.mem_cons_self
      simp [this]
    · rfl
theorem bindC_out {kindOf : Str → Option NameKind} {x : Str} : ∀ {binds : List (Str × Value)} {m : Str → Option Value}, (∀ v, (x, v) ∉ binds) → bindC kindOf binds m x = m x
  | [], _, _ => rfl
  | (n, v) :: r, m, h => by
    unfold bindC
    rw [bindC_out fun w hw => h w (List.mem_cons_of_mem _ hw)]
    split
    · rfl
    · have : x ≠ n := by rintro rfl; exact h v List.mem_cons_self
      simp [this]
theorem bindL_get {kindOf : Str → Option NameKind} {x : Str} {v : Value} : ∀ {P : List Str} {vs : List Value} {i : Nat} {m : Str → Option Value}, P.Nodup → P[i]? = some x → vs[i]? = some v → kindOf x = some .local →
    bindL kindOf (P.zip vs) m x = some v
  | [], _, _, _, _, h, _, _ => by simp at h
  | _ :: _, [], _, _, _, _, h, _ => by simp at h
  | p :: P, w :: vs, 0, m, nd, h1, h2, hk => by
    simp at h1 h2; subst h1; subst h2
    show bindL kindOf ((p, w) :: P.zip vs) m p = _
    unfold bindL
    rw [bindL_out fun v hv => (List.nodup_cons.mp nd).1 (List.of_mem_zip hv).1, if_pos hk]
    simp
  | p :: P, w :: vs, i + 1, m, nd, h1, h2, hk => by
    show bindL kindOf ((p, w) :: P.zip vs) m x = _
    unfold bindL
    exact bindL_get (i := i) (List.nodup_cons.mp nd).2 (by simpa using h1) (by simpa using h2) hk
theorem bindC_get {kindOf : Str → Option NameKind} {x : Str} {v : Value} : ∀ {P : List Str} {vs : List Value} {i : Nat} {m : Str → Option Value}, P.Nodup → P[i]? = some x → vs[i]? = some v → kindOf x ≠ some .local →
    bindC kindOf (P.zip vs) m x = some v
  | [], _, _, _, _, h, _, _ => by simp at h
  | _ :: _, [], _, _, _, _, h, _ => by simp at h
  | p :: P, w :: vs, 0, m, nd, h1, h2, hk => by
    simp at h1 h2; subst h1; subst h2
    show bindC kindOf ((p, w) :: P.zip vs) m p = _
    unfold bindC
    rw [bindC_out fun v hv => (List.nodup_cons.mp nd).1 (List.of_mem_zip hv).1, if_neg hk]
    simp
  | p :: P, w :: vs, i + 1, m, nd, h1, h2, hk => by
    show bindC kindOf ((p, w) :: P.zip vs) m x = _
    unfold bindC
    exact bindC_get (i := i) (List.nodup_cons.mp nd).2 (by simpa using h1) (by simpa using h2) hk

/-- the names' values at the entry -/
def start (N : List Str) (vs : List V) : St := vs.map some ++ List.replicate (N.length - vs.length) none

/-- the context of a def's body, at its entry; an exception leaves the frame, then lies as CX says -/
def cxOf (CX : CXT) (P : Program) (w : World) (K : PySem.W.Frag) (mg : Str → Option Value) (base : Heap) (N : List Str) (qual : Str) (scope : Scope) (f : Addr) (cd : Value) (A : Around) (outer : List Env) (s : Shared) (H : Hp) (E : XK) : Cx where
  prog := P
  w := w
  K := K
  mg := mg
  base := base
  A := A.deeper (envOfC qual scope s.heap.objs.size f cd)
  N := N
  s₀ := s
  H₀ := H
  env := envOfC qual scope s.heap.objs.size f cd
  outer := outer
  stack := envOfC qual scope s.heap.objs.size f cd :: outer
  ex := []
  calm := true
  fn := fun _ => true
  pn := []
  xe := fun e s' => wpAny (model P w) (A.deeper (envOfC qual scope s.heap.objs.size f cd)) (leaving (envOfC qual scope s.heap.objs.size f cd) e) (fun _ s'' => CX outer H s E e s'') (fun e' s'' => CX outer H s E e' s'') s'

theorem cell_has {sc : Scope} {n : Nat} {x : Str} (h : sc.names.lookup x = some .cell) : ∃ c, (cellsFrom n sc.names []).lookup x = some c := by
  have q := PySem.W.cellsFrom_some sc.names n [] (.inl h)
  exact Option.isSome_iff_exists.mp q

theorem inv_start {CX : CXT} {P : Program} {w : World} {K : PySem.W.Frag} {mg : Str → Option Value} {base : Heap} {N ps : List Str} {qual : Str} {scope : Scope} {f : Addr} {cd : Value} {A : Around} {outer : List Env} {s s1 : Shared} {H : Hp} {E : XK} {us : List Value} {vs : List V}
    (S : FnScope N ps scope) (hd : A.handled = none) (e0 : Env0 P w K mg base A outer s H) (hl : vs.length = ps.length) (r : Vals vs us)
    (x : InCallC s s.heap.objs.size (bindL (envOfC qual scope s.heap.objs.size f cd).kindOf (ps.zip us) fun _ => none) (cellsFrom (s.heap.objs.size + 1) scope.names []) (bindC (envOfC qual scope s.heap.objs.size f cd).kindOf (ps.zip us) fun _ => none) s1) :
    Inv (cxOf CX P w K mg base N qual scope f cd A outer s H E) [] (start N vs) H s1 := by
  have hpl : ps.length ≤ N.length := by have := congrArg List.length S.pre; rw [List.length_take] at this; omega
  obtain ⟨h1, tk, rfl, hk⟩ := x.done
  have noA : ∀ b : Addr, b ∉ (cxOf CX P w K mg base N qual scope f cd A outer s H E).ex := fun b z => absurd (show b ∈ ([] : List Addr) from z) (by simp)
  refine ⟨⟨e0.mod, S.kind, rfl, rfl, Nat.le_refl _, fun y z c h1 h2 => ?_, fun y hy => ?_, fun y c _ h => ?_, fun _ => hd, Around.frames_deeper e0.frames, .inr ⟨rfl, rfl⟩, fun b z => absurd z (noA b), e0.bs, e0.bsz, fun b _ _ => noA b, fun b z => absurd z (noA b), e0.funs, e0.frf⟩,
    rfl, e0.bare, Un.kept hk, ⟨_, x.toInCall.ns, fun i y v h1 h2 h3 => ?_⟩, fun y c h => ⟨_, x.cell y c h⟩, e0.hok.fresh (Nat.le_refl _), fun y c h => ?_, fun p hp => absurd (show p ∈ ([] : List (Addr × Obj)) from hp) (by simp), e0.hok.kept hk, ?_⟩
  · exact name_of_addr x.apart (PySem.mem_of_lookup h1) (PySem.mem_of_lookup h2)
  · have hy : scope.names.lookup y = some .cell ∨ scope.names.lookup y = some .free := hy
    rcases hy with hy | hy
    · exact cell_has hy
    · exact absurd rfl (S.nofree _ (PySem.mem_of_lookup hy))
  · exact Nat.le_of_lt (x.above y c (PySem.mem_of_lookup h))
  · have hi : i < vs.length := by
      unfold start at h2
      by_cases hi : i < vs.length
      · exact hi
      · rw [List.getElem?_append_right (by simpa using hi)] at h2
        rw [List.getElem?_replicate] at h2
        split at h2 <;> cases h2
    have ha : vs[i]? = some v := by
      unfold start at h2
      rw [List.getElem?_append_left (by simpa using hi), List.getElem?_map] at h2
      cases e : vs[i]? with
      | none => rw [e] at h2; cases h2
      | some a => rw [e] at h2; cases h2; rfl
    obtain ⟨u, hu, rv⟩ := r.get ha
    have hp : ps[i]? = some y := by
      rw [← S.pre, List.getElem?_take_of_lt (by omega)]; exact h1
    have ndP : ps.Nodup := by rw [← S.pre]; exact S.nd.sublist (List.take_sublist _ _)
    refine ⟨u, rv, ?_⟩
    rcases S.par y (List.mem_of_getElem? hp) with k | k
    · exact .inl ⟨k, bindL_get ndP hp hu k⟩
    · obtain ⟨c, e⟩ := cell_has (n := s.heap.objs.size + 1) k
      refine .inr ⟨.inl k, c, e, ?_⟩
      have q := x.cell y c e
      rw [bindC_get ndP hp hu (by show scope.names.lookup y ≠ _; rw [k]; decide)] at q
      exact q
  · exact e0.hok.fresh (Nat.le_of_lt (x.above y c (PySem.mem_of_lookup h)))
  · unfold start
    show _ = N.length
    rw [List.length_append, List.length_map, List.length_replicate]
    omega

/-- THE RULE: a def (or a method) of the text, by its body. The body's reading t is chosen for each entry; it is run at the parameters' values -/
theorem fn_of {CX : CXT} {P : Program} {w : World} {K : PySem.W.Frag} {mg : Str → Option Value} {base : Heap} {k : Nat} {f : Addr} {name qual : Str} {params : Arguments} {body : List Stmt} {scope : Scope} {dV kV doc pm cdv ct oc : Value} {an od : Option Addr}
    {osl : Array (Option Value)} {N ps : List Str} {sp : Sp} (lk : K.lookup f = some ⟨oc, od, .func (PySem.W.fnOf name qual params body scope dV kV doc pm an cdv ct), osl⟩) (hcd : PySem.W.codeIn K cdv qual = true) (S : FnScope N ps scope)
    (len : ∀ vs H Q E, sp vs H Q E → vs.length = ps.length)
    (hbody : ∀ (A : Around) (outer : List Env) (s : Shared) (H : Hp) (vs : List V) (Q : VK) (E : XK), Room k (A.deeper (envOfC qual scope s.heap.objs.size f cdv)) → sp vs H Q E →
      ∃ t, PSs (cxOf CX P w K mg base N qual scope f cdv A outer s H E) body t ∧ t { nx := fun _ H' => Q .non H', rt := Q } (start N vs) H) :
    FnOk P w K mg base CX (k + 1) f (PySem.W.fnOf name qual params body scope dV kV doc pm an cdv ct) ps sp := by
  refine ⟨len, fun A outer s H args us vs Q E hr e0 hb r hsp => ?_⟩
  have hl := len _ _ _ _ hsp
  have KX : K.In s.heap := e0.mod.kin.keeps fun b o e => (e0.bs b o e).1
  have lim : s.heap.NoLimit := e0.mod.nolimit.keeps fun b o e => (e0.bs b o e).1
  have hkind : ∀ y ∈ ps.zip us, scope.names.lookup y.1 = some .local ∨ (scope.names.lookup y.1 = some .cell ∧ ((cellsFrom (s.heap.objs.size + 1) scope.names []).lookup y.1).isSome = true) := fun ⟨n, v⟩ hy => by
    rcases S.par n (List.of_mem_zip hy).1 with q | q
    · exact .inl q
    · exact .inr ⟨q, PySem.W.cellsFrom_some _ _ _ (.inl q)⟩
  refine codeAny_call_function hr.depth (KX _ _ lk) rfl S.co S.gen rfl (PySem.W.codeRec_of KX hcd) (hb _ _ _ _ ?_)
  refine wpAny_newFunctionEnv_cells S.kind hkind fun env he s1 x => ?_
  subst he
  refine ⟨lim.keeps x.toInCall.keep, codeAny_func ?_⟩
  obtain ⟨t, ht, hq⟩ := hbody A outer s H vs Q E (hr.deeper _) hsp
  have I : Inv (cxOf CX P w K mg base N qual scope f cdv A outer s H E) [] (start N vs) H s1 := inv_start S hr.hd e0 hl r x
  refine wpAny_mono (ht [] s1 (start N vs) H _ I hq) (fun fl s' hs => ?_) fun e s' hs => hs
  have fin : ∀ {σ' : St} {H' : Hp} {v : V} {u : Value}, Inv (cxOf CX P w K mg base N qual scope f cdv A outer s H E) [] σ' H' s' → RelV v u → Q v H' → CE outer P w H s Q u s' :=
    fun {σ' H' v u} J rv q => ⟨v, H', J.os, J.bare, J.base, J.hok, rv, q⟩
  cases fl with
  | ret u =>
    obtain ⟨v, σ', H', J, rv, q⟩ := hs
    exact fin J rv q
  | next =>
    obtain ⟨σ', H', J, q⟩ := hs
    exact fin (v := V.non) (u := Value.none) J rfl q
  | brk =>
    obtain ⟨_, _, _, q⟩ := hs
    exact False.elim q
  | cont =>
    obtain ⟨_, _, _, q⟩ := hs
    exact False.elim q
end L2

namespace L2
open PySem PySem.Spec PyProof.Rows
section
variable {X : Cx} {x : Str} {p pos : Pos} {e : Expr} {es : List Expr} {t : TA} {id T : String} {r : List V → Hp → VK → Prop}

def tCB (r : List V → Hp → VK → Prop) (t : TA) : TE := fun σ H Q => t σ H fun vs H1 => r vs H1 Q
/-- f(e, ..), f a built-in function -/
theorem pe_callB (hc : CallR X (.builtin id) r) (hg : Gl X x) (hm : X.mg x = none) (hv : bootBuiltins x = some (.builtin id)) (ha : PA X (e :: es) t) (hn : x ≠ "__name__" := by decide) (hdb : (x == ("__debug__" : Str)) = false := by decide)
    (he : starEach (e :: es) X.env = (false, eval e X.env) :: starEach es X.env := by rfl) (hpl : (backTo pos (starEach es X.env)).any (·.1) = false := by rfl) : PE X (.Call (.Name x p) (e :: es) [] pos) (tCB r t) := by
  intro pins s σ H Q I h
  refine wpAny_Call_Name_kw (ld_blt I hg hm hv ?_ hn hdb)
  exact PyProof.Rows.callWith_builtin1 (thn (ha pos pins s σ H _ I h) fun us s1 ⟨vs, H1, I1, r1, q1⟩ => hc pins s1 σ H1 vs us Q I1 r1 q1) he hpl
end
end L2

namespace HT
open PySem PyProof.Rows



section
open PySem.SeqAt
open PySem.AutoSeq1 (wpAny_loadPart')
open PySem.MeetsSeq PySem.MeetsSeq2 PySem.MeetsSeq3

end

section
variable {prog : Program} {w : World} {A : Around} {E : Value → Shared → Prop} {s : Shared}


/-- t + u, t not empty -/
theorem cat_tup {t b : Addr} {vs ws : List Value} {Q : Value → Shared → Prop} (ht : IsTup s.heap t vs.toArray) (hb : IsTup s.heap b ws.toArray) (hv : vs ≠ [])
    (h1 : ws = [] → Q (.ref t) s) (h2 : ws ≠ [] → Q (.ref s.heap.objs.size) { s with heap := s.heap.push { cls := .type "tuple", data := .seq (vs ++ ws).toArray } })
    (hsz : vs.length + ws.length ≤ sizeLine) : wpAny (model prog w) A (binaryOp .Add (.ref t) (.ref b)) Q E s := by
  obtain ⟨⟨cls, dd, data, sl⟩, ho, hc, n, hd⟩ := id ht
  obtain ⟨⟨cls2, dd2, data2, sl2⟩, ho2, hc2, n2, hd2⟩ := id hb
  simp only at hc hd hc2 hd2
  subst hc hd hc2 hd2
  have e : vs.toArray ++ ws.toArray = (vs ++ ws).toArray := by simp
  by_cases hw : ws = []
  · exact concat_meets ⟨_, ho, rfl⟩ ⟨_, ho2, rfl⟩ noFill_tuple_add seq_tuple_add PySem.F.slot_tuple_add PySem.F.entry_tuple_add (PySem.F.args_tuple_add_2 _ _)
      (tuple_addW1 t b vs.toArray ws.toArray n n2 dd dd2 sl sl2 (by simpa using hv) (by simp [hw])) ⟨ho, ho2, h1 hw⟩
  · refine concat_meets ⟨_, ho, rfl⟩ ⟨_, ho2, rfl⟩ noFill_tuple_add seq_tuple_add PySem.F.slot_tuple_add PySem.F.entry_tuple_add (PySem.F.args_tuple_add_2 _ _)
      (tuple_addW2 t b vs.toArray ws.toArray n n2 dd dd2 sl sl2 (by simpa using hv) (by simpa using hw) (by rw [List.size_toArray, List.size_toArray]; exact hsz)) ⟨ho, ho2, ?_⟩
    rw [e]
    exact h2 hw

/-! ### t[a:b], not the whole -/
/-- a slice's bound as a place among n (d where it is left out) -/
def sIx (n d : Nat) : Option Int → Nat
  | none => d
  | some v => if v < 0 then (v + (n : Int)).toNat else min v.toNat n
theorem sIx_none (n d : Nat) : sIx n d none = d := rfl
theorem sIx_nat (n d k : Nat) : sIx n d (some (k : Int)) = min k n := by
  show (if (k : Int) < 0 then ((k : Int) + (n : Int)).toNat else min (k : Int).toNat n) = min k n
  rw [if_neg (by omega), Int.toNat_natCast]

end
end HT

namespace L2
open PySem PySem.Spec PyProof.Rows

/-! ### the parts of a slice -/
abbrev TO := St → Hp → (Option Int → Hp → Prop) → Prop
/-- a slice's part (left out, or an int) -/
def PO (X : Cx) (e : Option Expr) (t : TO) : Prop :=
  ∀ (pins : List (Addr × Obj)) (s : Shared) (σ : St) (H : Hp) (Q : Option Int → Hp → Prop), Inv X pins σ H s → t σ H Q →
    wpAny (model X.prog X.w) X.A (evalPart e X.env) (fun u s' => ∃ o H', Inv X pins σ H' s' ∧ IsPart u o ∧ Q o H') X.xe s
def tNoPart : TO := fun _ H Q => Q none H
def tPart (t : TE) : TO := fun σ H Q => t σ H fun x H1 => ∃ i, x = .int i ∧ Q (some i) H1


section
variable {X : Cx} {e : Expr} {te : TE} {lo hi : Option Expr} {tl th : TO} {pos p2 : Pos}

theorem po_none : PO X none tNoPart := by
  intro pins s σ H Q I h
  rw [evalPart_none]
  exact wpAny_pure ⟨none, H, I, .none, h⟩
theorem po_some (h : PE X e te) : PO X (some e) (tPart te) := by
  intro pins s σ H Q I hw
  rw [evalPart_some]
  refine thn (h pins s σ H _ I hw) fun u s1 ⟨x, H1, I1, r1, q1⟩ => ?_
  obtain ⟨i, rfl, q⟩ := q1
  obtain ⟨t, rfl⟩ := r1
  exact ⟨some i, H1, I1, .int i t, q⟩

/-- what a slice of a value is, by values: the slice object stands at sl -/
def SlR (X : Cx) (r : V → Option Int → Option Int → Hp → VK → Prop) : Prop :=
  ∀ (pins : List (Addr × Obj)) (s : Shared) (σ : St) (H : Hp) (x : V) (v vl vu : Value) (lo hi : Option Int) (sl : Addr) (Q : VK), Inv X pins σ H s → RelV x v → s.heap.IsSliceOf sl vl vu .none → IsPart vl lo → IsPart vu hi → r x lo hi H Q →
    ∃ T id, typeLookup (.type T) "__getitem__" = pure (some (.builtin id)) ∧ s.TypeIs v T ∧ wpAny (model X.prog X.w) X.A (getItem v (.ref sl)) (EP X pins σ Q) X.xe s
def tSl (r : V → Option Int → Option Int → Hp → VK → Prop) (te : TE) (tl th : TO) : TE := fun σ H Q => te σ H fun x H1 => tl σ H1 fun l H2 => th σ H2 fun u H3 => r x l u H3 Q
/-- a[lo:hi], any a -/
theorem pe_slice {r : V → Option Int → Option Int → Hp → VK → Prop} (hr : SlR X r) (he : PE X e te) (hl : PO X lo tl) (hu : PO X hi th) : PE X (.Subscript e (.Slice lo hi none p2) pos) (tSl r te tl th) := by
  intro pins s σ H Q I h
  refine Subscript_ (thn (he pins s σ H _ I h) fun v s1 ⟨x, H1, I1, r1, q1⟩ => ?_)
  refine wpAny_Slice (thn (hl pins s1 σ H1 _ I1 q1) fun vl s2 ⟨l, H2, I2, pl, q2⟩ => thn (hu pins s2 σ H2 _ I2 q2) fun vu s3 ⟨u, H3, I3, pu, q3⟩ => ?_)
  rw [evalPart_none]
  refine wpAny_pure ?_
  have I4 : Inv X pins σ H3 { s3 with heap := s3.heap.push { cls := .type "slice", data := .fields #[vl, vu, .none] } } := I3.kept (t' := s3.toks) fun b ob q => Heap.get?_push_of_some _ q
  obtain ⟨T, id, hT, ht, hg⟩ := hr pins { s3 with heap := s3.heap.push { cls := .type "slice", data := .fields #[vl, vu, .none] } } σ H3 x v vl vu l u s3.heap.objs.size Q I4 r1 (Heap.IsSliceOf.new ..) pl pu q3
  show wpAny (model X.prog X.w) X.A (subscriptTail e (.Slice lo hi none p2) v (.ref s3.heap.objs.size)) (EP X pins σ Q) X.xe { s3 with heap := s3.heap.push { cls := .type "slice", data := .fields #[vl, vu, .none] } }
  exact tail_any (ops := [.ref s3.heap.objs.size, v]) ht hT hg (by with_unfolding_all rfl)

/-- the items of xs[lo:hi] -/
def cutV (xs : List V) (lo hi : Option Int) : List V := (xs.drop (HT.sIx xs.length 0 lo)).take (HT.sIx xs.length xs.length hi - HT.sIx xs.length 0 lo)
theorem cutV_length (xs : List V) (lo hi : Option Int) : (cutV xs lo hi).length ≤ xs.length := by
  unfold cutV
  rw [List.length_take, List.length_drop]
  omega

/-! ### t < u, t + u -/
/-- t + u, t not empty: u empty gives t itself -/
def rCatT (K : PySem.W.Frag) : R2 := fun x y H Q => ∃ a b xs ys, x = .ref a ∧ y = .ref b ∧ SqT K H a xs ∧ SqT K H b ys ∧ xs ≠ [] ∧ xs.length + ys.length ≤ sizeLine ∧
  (ys = [] → Q (.ref a) H) ∧ (ys ≠ [] → ∀ p, H p = none → Q (.ref p) (upd H p (.tup (xs ++ ys))))
theorem Vals.nil_iff {xs : List V} {us : List Value} (r : Vals xs us) : us = [] ↔ xs = [] := by
  cases r with
  | nil => simp
  | cons _ _ => simp
theorem op_catT : OpR X (binaryOp .Add) (rCatT X.K) := by
  intro pins s σ H x y v u Q I rx ry h
  obtain ⟨a, b, xs, ys, rfl, rfl, ha, hb, hx, hz, q1, q2⟩ := h
  cases rx
  cases ry
  obtain ⟨its, r1, p1, _⟩ := I.tuple ha
  obtain ⟨its2, r2, p2, _⟩ := I.tuple hb
  refine HT.cat_tup p1 p2 (fun z => hx (r1.nil_iff.mp z)) (fun z => ⟨.ref a, H, I, rfl, q1 (r2.nil_iff.mp z)⟩) (fun z => ?_) (by rw [← r1.length, ← r2.length]; exact hz)
  refine ⟨.ref s.heap.objs.size, _, I.laid (t' := s.toks) (o := .tup (xs ++ ys)) (fun b ob q => Heap.get?_push_of_some _ q) (Nat.le_refl _) ?_, rfl, q2 (fun w => z (r2.nil_iff.mpr w)) _ (I.hok.fresh (Nat.le_refl _))⟩
  exact ⟨by rw [List.length_append]; exact hz, _, r1.append r2, IsTup.new _ _⟩
end
end L2

namespace L2
open PySem PySem.Spec PyProof.Rows

/-! ### places -/
/-- the place that an index of any sign means -/
def ixN (n : Nat) (i : Int) : Option Nat := if 0 ≤ i then (if i < n then some i.toNat else none) else if -(n : Int) ≤ i then some (i + n).toNat else none
def atI {α : Type} (xs : List α) (i : Int) : Option α := (ixN xs.length i).bind fun j => xs[j]?
theorem ixN_seq {n : Nat} {i : Int} {j : Nat} (h : ixN n i = some j) : seqIndex? i n = some j ∧ j < n ∧ -(n : Int) ≤ i ∧ i < n := by
  unfold ixN at h
  by_cases h0 : 0 ≤ i
  · rw [if_pos h0] at h
    by_cases h1 : i < n
    · rw [if_pos h1] at h
      have e : i.toNat = j := Option.some.inj h
      exact ⟨by rw [seqIndex_of h0 h1, e], by omega, by omega, h1⟩
    · rw [if_neg h1] at h; cases h
  · rw [if_neg h0] at h
    by_cases h1 : -(n : Int) ≤ i
    · rw [if_pos h1] at h
      have e : (i + n).toNat = j := Option.some.inj h
      exact ⟨by rw [seqIndex_neg (by omega) h1, e], by omega, h1, by omega⟩
    · rw [if_neg h1] at h; cases h
theorem atI_get {α : Type} {xs : List α} {i : Int} {v : α} (h : atI xs i = some v) : ∃ j, seqIndex? i xs.length = some j ∧ xs[j]? = some v ∧ j < xs.length ∧ -(xs.length : Int) ≤ i ∧ i < xs.length := by
  unfold atI at h
  cases e : ixN xs.length i with
  | none => rw [e] at h; cases h
  | some j =>
    rw [e] at h
    obtain ⟨h1, h2, h3, h4⟩ := ixN_seq e
    exact ⟨j, h1, h, h2, h3, h4⟩
theorem atI_nat {α : Type} {xs : List α} {j : Nat} {v : α} (h : xs[j]? = some v) : atI xs (j : Int) = some v := by
  have hj : j < xs.length := (List.getElem?_eq_some_iff.mp h).1
  have e : ixN xs.length (j : Int) = some j := by
    unfold ixN
    rw [if_pos (by omega), if_pos (by omega)]; simp
  unfold atI; rw [e]; exact h
theorem atI_last {α : Type} (xs : List α) (v : α) : atI (xs ++ [v]) (-1) = some v := by
  have hl : (xs ++ [v]).length = xs.length + 1 := by simp
  have e : ixN (xs ++ [v]).length (-1) = some xs.length := by
    unfold ixN
    rw [hl, if_neg (by decide), if_pos (by omega)]
    congr 1
    omega
  unfold atI
  rw [e]
  show (xs ++ [v])[xs.length]? = some v
  simp

/-! ### what may be subscripted -/
/-- what stands as an index of a plain subscript -/
def PlainIx (b : Expr) : Prop := ∀ o i, subscripted b false o i = operate [o, i] (getItem o i)
/-- a subscript by values -/
def IxR (X : Cx) (r : R2) : Prop :=
  ∀ (value slice : Expr) (pins : List (Addr × Obj)) (s : Shared) (σ : St) (H : Hp) (x y : V) (v u : Value) (Q : VK), Inv X pins σ H s → RelV x v → RelV y u → r x y H Q →
    subscripted slice false v u = operate [v, u] (getItem v u) → wpAny (model X.prog X.w) X.A (subscriptTail value slice v u) (EP X pins σ Q) X.xe s
/-- a call of a builtin's method by values: the receiver, the arguments -/
def MtR (X : Cx) (id : String) (r : V → List V → Hp → VK → Prop) : Prop :=
  ∀ (pins : List (Addr × Obj)) (s : Shared) (σ : St) (H : Hp) (x : V) (xs : List V) (v : Value) (us : List Value) (Q : VK), Inv X pins σ H s → RelV x v → Vals xs us → r x xs H Q →
    wpAny (model X.prog X.w) X.A (call (.builtin id) (v :: us)) (EP X pins σ Q) X.xe s
section
variable {X : Cx} {a b : Expr} {ta tb : TE} {pos : Pos}
/-- a[b] -/
theorem pe_ix {r : R2} (hr : IxR X r) (ha : PE X a ta) (hb : PE X b tb) (hs : PlainIx b) : PE X (.Subscript a b pos) (tOp r ta tb) := by
  intro pins s σ H Q I h
  exact Subscript_ (binT ha hb I h fun v u s2 x y H2 I2 rx ry q => hr a b pins s2 σ H2 x y v u Q I2 rx ry q (hs _ _))

def rIxL (K : PySem.W.Frag) : R2 := fun x y H Q => ∃ p xs i v, x = .ref p ∧ y = .int i ∧ SqL K H p xs ∧ atI xs i = some v ∧ Q v H
def rIxT (K : PySem.W.Frag) : R2 := fun x y H Q => ∃ p xs i v, x = .ref p ∧ y = .int i ∧ SqT K H p xs ∧ atI xs i = some v ∧ Q v H
theorem ix_list : IxR X (rIxL X.K) := by
  intro value slice pins s σ H x y v u Q I rx ry h hs
  obtain ⟨p, xs, i, z, rfl, rfl, hq, he, q⟩ := h
  cases rx
  obtain ⟨t, rfl⟩ := ry
  obtain ⟨its, r, pl, hz⟩ := I.list hq
  obtain ⟨j, h1, h2, h3, h4, h5⟩ := atI_get he
  obtain ⟨w, ew, rw'⟩ := r.get h2
  have hl := r.length
  have hn := line63
  have fin : EP X pins σ Q w s := ⟨z, H, I, rw', q⟩
  by_cases h0 : 0 ≤ i
  · have hj : i.toNat = j := by
      rw [seqIndex_of h0 h5] at h1
      exact Option.some.inj h1
    exact item_listR pl.isList h0 (by omega) (by rw [hj]; simpa using ew) fin hs
  · have hj : (i + (its.toArray.size : Int)).toNat = j := by
      rw [seqIndex_neg (by omega) h4] at h1
      rw [List.size_toArray, ← hl]
      exact Option.some.inj h1
    exact subscriptTail_builtinR (x := w) pl.isList.typeIs slot_list_getitem.lookup
      (wpAny_getItem_list_neg (Q := fun r s' => r = w ∧ EP X pins σ Q r s') pl.isList (by omega) (by rw [List.size_toArray] <;> omega) (by omega) (by rw [hj]; simpa using ew) ⟨rfl, fin⟩) hs
theorem ix_tup : IxR X (rIxT X.K) := by
  intro value slice pins s σ H x y v u Q I rx ry h hs
  obtain ⟨p, xs, i, z, rfl, rfl, hq, he, q⟩ := h
  cases rx
  obtain ⟨t, rfl⟩ := ry
  obtain ⟨its, r, pl, hz⟩ := I.tuple hq
  obtain ⟨j, h1, h2, h3, h4, h5⟩ := atI_get he
  obtain ⟨w, ew, rw'⟩ := r.get h2
  have hl := r.length
  have hn := line63
  have fin : EP X pins σ Q w s := ⟨z, H, I, rw', q⟩
  exact subscriptTail_builtinR (x := w) pl.typeIs slot_tuple_getitem.lookup
    (getItem_tuple (j := j) (Q := fun r s' => r = w ∧ EP X pins σ Q r s') pl (by omega) (by omega) (by rw [List.size_toArray, ← hl]; exact h1) (by simpa using ew) ⟨rfl, fin⟩) hs

/-! ### xs[i] = v, any sign -/

/-! ### slices -/
theorem slice_bounds (lo hi : Option Int) (n : Nat) : (sliceBounds lo hi none n).1 = ((HT.sIx n 0 lo : Nat) : Int) ∧ (sliceBounds lo hi none n).2.1 = ((HT.sIx n n hi : Nat) : Int) ∧ (sliceBounds lo hi none n).2.2 = 1 := by
  refine ⟨?_, ?_, rfl⟩
  · cases lo with
    | none => simp [sliceBounds, HT.sIx]
    | some i =>
      simp only [sliceBounds, HT.sIx, Option.getD_none, show (1 : Int) > 0 by decide, if_true]
      by_cases h : i < 0
      · simp only [h, if_true] <;> omega
      · simp only [h, if_false] <;> omega
  · cases hi with
    | none => simp [sliceBounds, HT.sIx]
    | some i =>
      simp only [sliceBounds, HT.sIx, Option.getD_none, show (1 : Int) > 0 by decide, if_true]
      by_cases h : i < 0
      · simp only [h, if_true] <;> omega
      · simp only [h, if_false] <;> omega
theorem slicePick_cut (its : List Value) (lo hi : Option Int) : slicePick its.toArray lo hi none = ((its.drop (HT.sIx its.length 0 lo)).take (HT.sIx its.length its.length hi - HT.sIx its.length 0 lo)).toArray := by
  obtain ⟨h1, h2, h3⟩ := slice_bounds lo hi its.toArray.size
  unfold slicePick
  rw [h1, h2, h3]
  simp only [sliceRange_one, pick_run, List.size_toArray] <;> rfl
/-- xs[lo:hi] of a list: a new list -/
def rSlL (K : PySem.W.Frag) : V → Option Int → Option Int → Hp → VK → Prop := fun x lo hi H Q => ∃ a xs, x = .ref a ∧ SqL K H a xs ∧ ∀ p, H p = none → Q (.ref p) (upd H p (.lst (cutV xs lo hi)))
theorem sl_list : SlR X (rSlL X.K) := by
  intro pins s σ H x v vl vu lo hi sl Q I rx hs pl pu h
  obtain ⟨a, xs, rfl, hx, q⟩ := h
  cases rx
  obtain ⟨its, r, ht, hz⟩ := I.list hx
  have hlen := r.length
  refine ⟨"list", _, slot_list_getitem.lookup, ht.isList.typeIs, ?_⟩
  refine wpAny_getItem_list_slice ht.isList hs pl pu .none (by simp) ?_ (by rw [List.size_toArray] <;> omega)
  rw [slicePick_cut, ← hlen]
  refine ⟨.ref s.heap.objs.size, _, I.laid (t' := s.toks) (o := .lst (cutV xs lo hi)) (fun b ob q => Heap.get?_push_of_some _ q) (Nat.le_refl _) ?_, rfl, q _ (I.hok.fresh (Nat.le_refl _))⟩
  exact ⟨Nat.le_trans (cutV_length xs lo hi) hz, _, 0, (r.drop (HT.sIx xs.length 0 lo)).take (HT.sIx xs.length xs.length hi - HT.sIx xs.length 0 lo), Heap.get?_push_size _ rfl⟩

/-! ### in, not in: flat items -/

/-! ### len, list(x), tuple(x) of any list or tuple that is read -/
theorem call_len_seq : CallR X (.builtin "len") (fun xs H Q => ∃ p ys, xs = [.ref p] ∧ (SqL X.K H p ys ∨ SqT X.K H p ys) ∧ Q (.int ys.length) H) := by
  intro pins s σ H xs us Q I r h
  obtain ⟨p, ys, rfl, hq, q⟩ := h
  obtain ⟨u, rfl, rx⟩ := vals1 r
  cases rx
  have hn := line63
  rcases hq with hq | hq
  · obtain ⟨its, r', pl, hz⟩ := I.list hq
    have hlen := r'.length
    exact Calls.call_len_list pl.isList (by simp only [List.size_toArray] <;> omega) ⟨.int ys.length, H, I.tok _, ⟨s.toks + 1, by rw [List.size_toArray, hlen]⟩, q⟩
  · obtain ⟨its, r', pl, hz⟩ := I.tuple hq
    have hlen := r'.length
    exact len_tuple pl (by simp only [List.size_toArray] <;> omega) ⟨.int ys.length, H, I.tok _, ⟨s.toks + 1, by rw [List.size_toArray, hlen]⟩, q⟩

/-! ### the call of a builtin's method: o.m(..) -/
/-- the value is of that builtin type -/
def tyV (K : PySem.W.Frag) (T : String) (x : V) (H : Hp) : Prop := match x with
  | .str _ => T = "str"
  | .int _ => T = "int"
  | .ref p => (T = "list" ∧ ∃ xs, SqL K H p xs) ∨ (T = "tuple" ∧ ∃ o, K.lookup p = some o ∧ o.cls = .type "tuple" ∧ o.dict = none) ∨
      (T = "dict" ∧ ((∃ kvs, H p = some (.dK kvs)) ∨ ∃ kvs, H p = some (.dT kvs))) ∨ (T = "set" ∧ ∃ S n, H p = some (.set S n))
  | _ => False
theorem tyV_is {pins : List (Addr × Obj)} {σ : St} {H : Hp} {s : Shared} {T : String} {x : V} {v : Value} (I : Inv X pins σ H s) (r : RelV x v) (ty : tyV X.K T x H) :
    s.TypeIs v T ∧ ∀ a, v = .ref a → ∃ ob, s.heap.get? a = some ob ∧ ob.dict = none := by
  cases x with
  | str z =>
    obtain ⟨t, rfl⟩ := r
    cases (show T = "str" from ty)
    exact ⟨typeIs_str s z t, fun _ e => nomatch e⟩
  | int i =>
    obtain ⟨t, rfl⟩ := r
    cases (show T = "int" from ty)
    exact ⟨typeIs_int s i t, fun _ e => nomatch e⟩
  | ref p =>
    cases r
    rcases ty with ⟨rfl, xs, hq⟩ | ⟨rfl, o, hk, hc, hd⟩ | ⟨rfl, hk⟩ | ⟨rfl, S, n, hk⟩
    · obtain ⟨its, _, pl, _⟩ := I.list hq
      refine ⟨pl.isList.typeIs, fun a e => ?_⟩
      cases e
      obtain ⟨o, n, e, c, hd, _⟩ := pl
      exact ⟨o, e, hd⟩
    · refine ⟨⟨o, I.kIn p o hk, hc⟩, fun a e => ?_⟩
      cases e
      exact ⟨o, I.kIn _ o hk, hd⟩
    · have z : ∃ o, s.heap.get? p = some o ∧ o.ExactDict := by
        rcases hk with ⟨kvs, hk⟩ | ⟨kvs, hk⟩
        · obtain ⟨_, _, _, _, o, _, _, e, ex, _⟩ := I.hok p _ hk
          exact ⟨o, e, ex⟩
        · obtain ⟨_, _, _, _, o, _, _, e, ex, _⟩ := I.hok p _ hk
          exact ⟨o, e, ex⟩
      obtain ⟨o, e, ex⟩ := z
      refine ⟨⟨o, e, ex.1⟩, fun a e2 => ?_⟩
      cases e2
      exact ⟨o, e, ex.2.1⟩
    · obtain ⟨o, _, _, _, e, ex, _⟩ := I.hok p _ hk
      refine ⟨⟨o, e, ex.1⟩, fun a e2 => ?_⟩
      cases e2
      exact ⟨o, e, ex.2.1⟩
  | _ => exact False.elim ty
def tBM (K : PySem.W.Frag) (T : String) (r : V → List V → Hp → VK → Prop) (to : TE) (t : TA) : TE := fun σ H Q => to σ H fun x H1 => tyV K T x H1 ∧ t σ H1 fun xs H2 => r x xs H2 Q
variable {o e : Expr} {es : List Expr} {to : TE} {t : TA} {name : Str} {apos cpos : Pos} {T id : String} {r : V → List V → Hp → VK → Prop}
theorem pe_bm (pa : PlainAttrs T) (slot : Slot T name id) (hty : typeOf (.builtin id) = pure (.type "method_descriptor")) (hm : MtR X id r) (ho : PE X o to) (ha : PA X (e :: es) t)
    (hbase : attributeBase o name X.env (eval o X.env) = eval o X.env := by rfl)
    (hfew : ((backTo cpos (starEach (e :: es) X.env)).all (fun x => !x.1) && (backToKw cpos (keywordEach [] X.env)).all (fun x => x.1.isSome)
      && decide ((e :: es).length + ([] : List Keyword).length + (if ([] : List Keyword).isEmpty then 0 else 1) < 30)) = true := by rfl)
    (hline : (apos.endLine == cpos.line) = true := by rfl) (hs : starEach (e :: es) X.env = (false, eval e X.env) :: starEach es X.env := by rfl) (hplain : (backTo cpos (starEach es X.env)).any (·.1) = false := by rfl) :
    PE X (.Call (.Attribute o name apos) (e :: es) [] cpos) (tBM X.K T r to t) := by
  intro pins s σ H Q I h
  refine wpAny_Call_method_late hbase hfew hline rfl (thn (ho pins s σ H _ I h) fun v s1 ⟨x, H1, I1, r1, ty, q1⟩ => ?_)
  obtain ⟨h1, h2⟩ := tyV_is I1 r1 ty
  refine ⟨T, id, pa, slot, hty, h1, h2, ?_⟩
  have hA := ha cpos pins s1 σ H1 _ I1 q1
  rw [hs] at hA ⊢
  refine Calls.callWith_builtin (by show (false || (backTo cpos (starEach es X.env)).any (·.1)) = false; rw [hplain] <;> rfl) (Calls.evalArgs_plain ?_)
  exact thn hA fun us s2 ⟨vs, H2, I2, r2, q2⟩ => hm pins s2 σ H2 x vs v us Q I2 r1 r2 q2
/- xs.append(e), list.index on a module's tuple .. are MtR facts of 06m -/
end
end L2

namespace L2
open PySem PySem.Spec PyProof.Rows

def MtM (X : Cx) (id : String) (r : V → List V → Hp → VK → Prop) : Prop :=
  ∀ (pins : List (Addr × Obj)) (s : Shared) (σ : St) (H : Hp) (x : V) (xs : List V) (v : Value) (us : List Value) (Q : VK), Inv X pins σ H s → RelV x v → Vals xs us → r x xs H Q →
    wpAny (model X.prog X.w) X.A (call (.builtin id) (v :: us)) (EP X pins σ Q) X.xe s

/-! ### lists of values -/
theorem Vals.one : ∀ {x : V} {us : List Value}, Vals [x] us → ∃ u, us = [u] ∧ RelV x u
  | _, _, .cons r .nil => ⟨_, rfl, r⟩
theorem Vals.rep {xs : List V} {us : List Value} (h : Vals xs us) : ∀ k : Nat, Vals (List.replicate k xs).flatten (List.replicate k us).flatten
  | 0 => .nil
  | k + 1 => by
    rw [List.replicate_succ, List.replicate_succ, List.flatten_cons, List.flatten_cons]
    exact Vals.append h (Vals.rep h k)
theorem foldl_rep (its : List Value) : ∀ (k : Nat) (acc : List Value),
    List.foldl (fun x1 x2 => x1 ++ x2) acc.toArray (List.replicate k its.toArray) = (acc ++ (List.replicate k its).flatten).toArray
  | 0, acc => by simp
  | k + 1, acc => by
    have e : acc.toArray ++ its.toArray = (acc ++ its).toArray := by simp
    have e2 : (acc ++ its) ++ (List.replicate k its).flatten = acc ++ (List.replicate (k + 1) its).flatten := by
      rw [List.replicate_succ, List.flatten_cons, List.append_assoc]
    rw [← e2, ← foldl_rep its k (acc ++ its), ← e, List.replicate_succ, List.foldl_cons]

section
variable {X : Cx} {pins : List (Addr × Obj)} {σ : St} {H : Hp} {s : Shared} {l b : Addr} {xs ys zs : List V}

/-! ### the two steps: a tracked list is rewritten, a new list is laid -/
theorem Inv.lset {its its' : List Value} {n : Nat} {f : Array Value → Array Value} {t' : Nat} (I : Inv X pins σ H s) (hH : H l = some (.lst xs))
    (e : s.heap.get? l = some { cls := .type "list", data := .seq its.toArray n }) (hf : f its.toArray = its'.toArray) (hv : Vals ys its') (hz : ys.length ≤ sizeLine) :
    Inv X pins σ (upd H l (.lst ys)) { s with heap := s.heap.update l (Obj.mapSeq f), toks := t' } := by
  have q := PySem.IsL.update e f
  rw [hf] at q
  refine I.write (x := l) (e := l) (by rw [hH]; exact trivial) (.inl rfl) (fun b' u hb hu => (Heap.get?_update_other s.heap (Obj.mapSeq f) (Ne.symm hb)).trans hu) ⟨_, q⟩ ?_
  exact ⟨hz, its', _, hv, q⟩
theorem Inv.lnew {its : List Value} {t' : Nat} (I : Inv X pins σ H s) (hv : Vals ys its) (hz : ys.length ≤ sizeLine) :
    Inv X pins σ (upd H s.heap.objs.size (.lst ys)) { s with heap := s.heap.push { cls := .type "list", data := .seq its.toArray }, toks := t' } :=
  I.laid (fun _ _ q => Heap.get?_push_of_some _ q) (Nat.le_refl _) ⟨hz, its, 0, hv, Heap.get?_push_size _ rfl⟩
theorem Inv.fresh (I : Inv X pins σ H s) : H s.heap.objs.size = none := I.hok.fresh (Nat.le_refl _)
theorem Inv.lstM (I : Inv X pins σ H s) (hH : H l = some (.lst xs)) : xs.length ≤ sizeLine ∧ ∃ (its : List Value) (n : Nat), Vals xs its ∧ xs.length = its.length ∧ s.heap.get? l = some { cls := .type "list", data := .seq its.toArray n } := by
  obtain ⟨z, its, n, r, e⟩ := I.hok l _ hH
  exact ⟨z, its, n, r, r.length, e⟩

theorem notLongL {n : Nat} (h : n ≤ sizeLine) : Builtin.List.listTooLong n = false := by
  unfold Builtin.List.listTooLong
  exact decide_eq_false (by omega)
end

section
variable {X : Cx}

/-! ### methods -/
def rAppend : V → List V → Hp → VK → Prop := fun x vs H Q => ∃ l xs y, x = .ref l ∧ vs = [y] ∧ H l = some (.lst xs) ∧ xs.length < sizeLine ∧ Q .non (upd H l (.lst (xs ++ [y])))
theorem mt_append : MtM X "list.append" rAppend := by
  intro pins s σ H x vs v us Q I rx rv h
  obtain ⟨l, xs, y, rfl, rfl, hH, hz, q⟩ := h
  cases rx
  obtain ⟨u, rfl, ru⟩ := rv.one
  obtain ⟨z, its, n, r, hl, e⟩ := I.lstM hH
  refine call_meets F.slot_list_append ⟨_, e, rfl⟩ F.entry_list_append (F.args_list_append_2 _ _) (PySem.list_append l its.toArray n u (by rw [List.size_toArray]; omega)) ⟨e, ?_⟩
  refine ⟨.non, _, I.lset (its' := its ++ [u]) hH e (by simp) (r.append (.cons ru .nil)) ?_, rfl, q⟩
  rw [List.length_append, List.length_singleton]
  omega






/-! ### list + list, list += list, list * int -/
def rCat : R2 := fun x y H Q => ∃ l b xs zs, x = .ref l ∧ y = .ref b ∧ H l = some (.lst xs) ∧ H b = some (.lst zs) ∧ xs.length + zs.length ≤ sizeLine ∧ ∀ p, H p = none → Q (.ref p) (upd H p (.lst (xs ++ zs)))
theorem op_cat : OpR X (binaryOp .Add) rCat := by
  intro pins s σ H x y v u Q I rx ry h
  obtain ⟨l, b, xs, zs, rfl, rfl, hH, hB, hz, q⟩ := h
  cases rx
  cases ry
  obtain ⟨z, its, n, r, hl, e⟩ := I.lstM hH
  obtain ⟨z2, its2, n2, r2, hl2, e2⟩ := I.lstM hB
  refine PySem.P.add_list e e2 ?_ (by rw [List.size_toArray, List.size_toArray]; omega)
  have ea : its.toArray ++ its2.toArray = (its ++ its2).toArray := by simp
  rw [ea]
  exact ⟨.ref _, _, I.lnew (t' := s.toks) (r.append r2) (by rw [List.length_append]; omega), rfl, q _ I.fresh⟩
/-- a list times an int (a negative one is nothing) -/
def rRep : R2 := fun x y H Q => ∃ l k xs, x = .ref l ∧ y = .int k ∧ H l = some (.lst xs) ∧ -(2 ^ 63) ≤ k ∧ k < 2 ^ 63 ∧ xs.length * k.toNat ≤ sizeLine ∧
  ∀ p, H p = none → Q (.ref p) (upd H p (.lst (List.replicate k.toNat xs).flatten))
theorem len_rep {α : Type} (xs : List α) (k : Nat) : (List.replicate k xs).flatten.length = k * xs.length := by
  induction k with
  | zero => simp
  | succ k ih => rw [List.replicate_succ, List.flatten_cons, List.length_append, ih, Nat.succ_mul, Nat.add_comm]
theorem op_rep : OpR X (binaryOp .Mult) rRep := by
  intro pins s σ H x y v u Q I rx ry h
  obtain ⟨l, k, xs, rfl, rfl, hH, h1, h2, hz, q⟩ := h
  cases rx
  obtain ⟨t, rfl⟩ := ry
  obtain ⟨z, its, n, r, hl, e⟩ := I.lstM hH
  have hlen : its.toArray.size * k.toNat ≤ sizeLine := by rw [List.size_toArray, ← hl]; exact hz
  have hcap : ¬ its.toArray.size * k.toNat > (2 ^ 63 - 1) / 8 := by
    have : (sizeLine : Nat) ≤ (2 ^ 63 - 1) / 8 := by decide
    omega
  have hfit : ¬ (!Builtin.List.listFitsIndex k) = true := by
    rw [fitsIndex_both h1 h2]
    exact Bool.false_ne_true
  have hlong : ¬ Builtin.List.listTooLong (its.toArray.size * k.toNat) = true := by
    rw [notLongL hlen]
    exact Bool.false_ne_true
  have hnew : List.foldl (fun x1 x2 => x1 ++ x2) #[] (List.replicate (if its.toArray.isEmpty = true then 0 else k.toNat) its.toArray) = (List.replicate k.toNat its).flatten.toArray := by
    have f0 : ∀ m : Nat, List.foldl (fun x1 x2 => x1 ++ x2) #[] (List.replicate m its.toArray) = (List.replicate m its).flatten.toArray := fun m => by
      have := foldl_rep its m []
      rw [List.nil_append] at this
      exact this
    rw [f0]
    cases its with
    | nil => simp
    | cons a r' => rw [if_neg (by simp)]
  refine wpAny_binaryOp_repeat_ref (T := "list") (U := "int") (by decide) ⟨_, e, rfl⟩ (fun s' => typeIs_int s' k t) noFill_list_mul F.fills_int_mul F.slot_int_rmul repeat_list F.slot_int_index.lookup
    (call_meets F.slot_int_rmul (typeIs_int s k t) F.entry_int_rmul (F.args_int_rmul_2 _ _) (int___rmul___int_list k t l its.toArray n)
      ⟨e, rfl, ⟨_, e, rfl⟩, call_meets F.slot_list_mul ⟨_, e, rfl⟩ F.entry_list_mul (F.args_list_mul_2 _ _) (AutoListH.list___mul___list_int_3 l its.toArray n k t hfit hcap hlong) ⟨e, ?_⟩⟩)
  rw [hnew]
  exact ⟨.ref _, _, I.lnew (t' := s.toks) (r.rep k.toNat) (by rw [len_rep, Nat.mul_comm]; exact hz), rfl, q _ I.fresh⟩

/-! ### del xs[i] -/
end

/-! ### xs[a:b] = ys -/
section
variable {prog : Program} {w : World} {A : Around} {E : Value → Shared → Prop} {s : Shared}
set_option maxRecDepth 100000 in
end

section
variable {X : Cx}
end
end L2

namespace Att
open PySem PySem.W PySem.Calls PyProof.Rows

/-! ### the script -/
theorem ints_of_wellAll {P : Params} {h : Heap} : ∀ (ns : List Int) (vs : List Value), WellAll P h vs (ns.map WData.int) → IntsAre vs ns := by
  intro ns
  induction ns with
  | nil =>
    intro vs w
    rw [List.map_nil] at w
    cases w
    exact .nil
  | cons n ns ih =>
    intro vs w
    rw [List.map_cons] at w
    cases w with
    | cons a b =>
      cases a
      exact .cons _ _ (ih _ b)

theorem script_of {l : OpenLaw} {n : Nat} (hn : l.most = some n) {P : Params} {h : Heap} {args : List WData} {vals : List Value}
    (hpre : l.row.toRowW.claim.pre args = true) (hwl : WellAll P h vals args) :
    ∃ a vs ns, vals = [Value.ref a] ∧ args = [WData.list (ns.map WData.int)] ∧ h.get? a = some { cls := .type "list", data := .seq vs.toArray } ∧ IntsAre vs ns ∧ ns.length ≤ n := by
  have hsh : WShape.hasAll [] args [.list .int] = true := (pre_splitW hpre).1
  have hc : l.pre.holds [] { args := args } = true := (pre_splitW hpre).2
  obtain ⟨d, r, rfl, h1, h2⟩ := hasAllW_cons hsh
  obtain rfl := hasAllW_nil h2
  obtain ⟨xs, rfl, h3⟩ := hasW_list h1
  obtain ⟨ns, rfl⟩ := items_int h3
  have hlen : ns.length ≤ n := by
    unfold OpenLaw.pre at hc
    have h4 : (WTm.not (.lt (.lit (.int (n : Int))) (.len (.arg 0)))).holds [] { args := [.list (ns.map .int)] } = true := by
      have h4 := (holds_andW hc).1
      rw [hn] at h4
      exact h4
    have h5 := condW_of h4 (w_not (w_lt w_lit (w_len_list (w_arg rfl))))
    rw [List.length_map] at h5
    refine Nat.le_of_not_lt fun q => ?_
    have q' : (n : Int) < ((ns.length : Nat) : Int) := by omega
    first
      | (rw [decide_eq_true q'] at h5; exact absurd h5 (by decide))
      | (simp at h5; omega)
  cases hwl with
  | cons w1 w2 =>
    cases w2
    cases w1 with
    | list ho hall => exact ⟨_, _, ns, rfl, rfl, ho, ints_of_wellAll ns _ hall, hlen⟩

theorem post_true (l : OpenLaw) (args : List WData) : l.row.toRowW.claim.post args (.bool true) args = true :=
  postW_of (r := l.row.toRowW) (X := (true == true))
    (show WShape.has [] (.bool true) .bool = true by first | rfl | decide | simp [WShape.has, WShape.arms, WShape.armsAll])
    (show (WTm.eq .res (.lit (.bool true))).value [] { args := args, res := some (.bool true), after := args } = some (.bool (true == true)) from w_eq_bool (w_res rfl) w_lit) rfl

/-! ### the attachment: holds_open's last premise (the goal 'hc' behind k_head) from a wpAny of the law's body -/

/-- the same from a codeAny of the CALL (for a layer whose function contracts speak of calls) -/
theorem attach_call {l : OpenLaw} {n : Nat} {q : Program} {loose : List Str} {XP : (Str → Option Value) → Heap → Prop} {YP : World → Heap → Prop} {d : DefRec}
    (hn : l.most = some n) (hdf : d.params.defaults = [])
    (call : ∀ (w : World) (s₀ s₁ : Shared) (mg mb : Str → Option Value) (fa : Addr) (o : Obj) (pm cd doc : Value) (a : Addr) (vs : List Value) (ns : List Int),
      Ground q loose [] XP w s₀ mg mb s₁.heap → YP w s₁.heap →
      s₁.heap.get? fa = some o → o.data = .func (docDef d.name d.params d.body d.scope pm cd doc) → s₁.heap.CodeRec cd d.name → mg d.name = some (.ref fa) →
      s₁.heap.get? a = some { cls := .type "list", data := .seq vs.toArray } → IntsAre vs ns → ns.length ≤ n → s₁.gens = #[] →
      codeAny (model l.prog w) callerA (.call (.ref fa) ⟨[.ref a], []⟩) (fun r s' => r = .ok (.ret (.bool true)) ∧ OldK s₁.heap s'.heap ∧ s'.os = s₁.os ∧ AllBare s'.gens) s₁) :
    WalkO q loose XP YP l.row.toRowW d [] (fun f vs => PySem.call f vs) := by
  intro w s₀ s₁ mg mb G Y fa o pm cd doc dV kV ho hd hcd hD hmg hg args vals as hpre hlay hrd hwl hlo
  obtain rfl : dV = .none := Dflts.none hD hdf
  obtain rfl : kV = .none := Dflts.noKw hD
  obtain ⟨a, vs, ns, rfl, rfl, hobj, hints, hlen⟩ := script_of hn hpre hwl
  refine enter_call (codeAny_mono (call w s₀ s₁ mg mb fa o pm cd doc a vs ns G Y ho (fd_plain hd) hcd hmg hobj hints hlen hg) fun r s' hq => ?_)
  obtain ⟨rfl, h2, h3, h4⟩ := hq
  exact ⟨.inl ⟨.bool true, .bool true, [], rfl, fun _ => rfl, .bool true, post_true l _, fun _ => ⟨List.Pairwise.nil, fun _ hm => (nomatch hm)⟩⟩, h2, h3, h4⟩


/-! ### rules over ANY heap (no ledger) from facts about the written part K: the library's own take a ledger (News) for what they write -/
section
variable {prog : Program} {w : World} {A : Around} {E : Value → Shared → Prop} {s : Shared} {K : Frag}





/-! the whole heap as the ledger: makes every rule that writes through a ledger a rule over any heap -/

end
end Att

namespace L2
open PySem PySem.Spec PyProof.Rows

theorem vals_ints : ∀ {vs : List Value} {ns : List Int}, IntsAre vs ns → Vals (ns.map V.int) vs
  | _, _, .nil => .nil
  | _, _, .cons n t h => .cons ⟨t, rfl⟩ (vals_ints h)

/-- nothing is tracked but the script, known to the object (or it is an object of the module) -/
def Only (H : Hp) : Prop := ∀ b, H b = none ∨ ∃ o xs, H b = some (.frz o (.lst xs))

/-- THE HEAD: the law's promise, at the heap behind the top. F, the promise of the law's def, may use that base is part of the heap (so K.In base, base.Ns mainGlobals mg stand in Mod) -/
theorem law_call {P : Program} {w : World} {K : PySem.W.Frag} {mg mb : Str → Option Value} {CX : CXT} {k : Nat} {fa a : Addr} {fd : FuncData} {x : Str} {sp : Sp} {s₁ : Shared} {vs : List Value} {ns : List Int}
    (KX : K.In s₁.heap) (hns : s₁.heap.Ns mainGlobals mg) (hb : s₁.heap.Ns builtinsNs mb) (hbb : ∀ x : Str, x ≠ "__name__" → mb x = bootBuiltins x) (hlim : s₁.heap.NoLimit) (hg : s₁.gens = #[])
    (ha : s₁.heap.get? a = some { cls := .type "list", data := .seq vs.toArray }) (hi : IntsAre vs ns) (hl : ns.length ≤ sizeLine) (hr : Room k callerA)
    (F : ∀ base : Heap, K.In base → base.Ns mainGlobals mg → FnOk P w K mg base CX k fa fd [x] sp) (hbind : ∀ (s : Shared) (u : Value), BindsTo s fd ⟨[u], []⟩ [(x, u)])
    (hsp : ∀ H : Hp, Only H → SqL K H a (ns.map V.int) → sp [.ref a] H (fun v _ => v = .bl true) fun _ _ _ => False)
    (hCX : ∀ H e s', CX [] H s₁ (fun _ _ _ => False) e s' → False) :
    codeAny (model P w) callerA (.call (.ref fa) ⟨[.ref a], []⟩) (fun r s' => r = .ok (.ret (.bool true)) ∧ OldK s₁.heap s'.heap ∧ s'.os = s₁.os ∧ AllBare s'.gens) s₁ := by
  have rv := vals_ints hi
  have lenV := hi.length
  -- from an abstract heap in which nothing but the script may be tracked
  have core : ∀ H : Hp, Only H → SqL K H a (ns.map V.int) → HOk P w H s₁.heap → (∀ b, H b ≠ none → b = a) → (H a ≠ none → K.lookup a = none) →
      codeAny (model P w) callerA (.call (.ref fa) ⟨[.ref a], []⟩) (fun r s' => r = .ok (.ret (.bool true)) ∧ OldK s₁.heap s'.heap ∧ s'.os = s₁.os ∧ AllBare s'.gens) s₁ := by
    intro H hO hS hok hA hK
    have base_of : ∀ {b : Addr} {o : Obj}, s₁.heap.get? b = some o → H b = none → (hidT s₁.heap H).get? b = some o := fun e n => hidT_get e n
    have noA : ∀ {b : Addr} {o : Obj} {es : Array DictEntry} {ep : Nat}, s₁.heap.get? b = some o → o.data = .dict es ep → H b = none := fun {b o es ep} e d => by
      cases q : H b with
      | none => rfl
      | some u =>
        have e' : b = a := hA b (by rw [q]; simp)
        subst e'
        rw [ha] at e; cases e
        have d' : Data.seq vs.toArray _ = Data.dict es ep := d
        cases d'
    have nsK : ∀ {b : Addr} {m : Str → Option Value}, s₁.heap.Ns b m → (hidT s₁.heap H).Ns b m := fun {b m} ⟨o, es, ep, e, d, r⟩ => ⟨o, es, ep, base_of e (noA e d), d, r⟩
    have hKb : K.In (hidT s₁.heap H) := fun b o e => base_of (KX b o e) (by
      cases q : H b with
      | none => rfl
      | some u =>
        have e' : b = a := hA b (by rw [q]; simp)
        subst e'
        rw [hK (by rw [q]; simp)] at e; cases e)
    have hM : Mod K mg (hidT s₁.heap H) := ⟨hKb, nsK hns, ⟨mb, nsK hb, hbb⟩, let ⟨mc, h1, h2⟩ := hlim; ⟨mc, nsK h1, h2⟩⟩
    have e0 : Env0 P w K mg (hidT s₁.heap H) callerA [] s₁ H := ⟨rfl, hM, fun b o e => of_hidT e, Nat.le_of_eq (hidT_size _ _), trivial, fun b hb => absurd (show b ∈ ([] : List Addr) from hb) (by simp), hok, .of_eq hg⟩
    refine codeAny_mono ((F _ hKb (nsK hns)).run callerA [] s₁ H ⟨[.ref a], []⟩ [.ref a] [.ref a] _ _ hr e0 (hbind s₁ (.ref a)) (.cons rfl .nil) (hsp H hO hS)) fun r s' h => ?_
    cases r with
    | error e => exact (hCX H e s' h).elim
    | ok fl =>
      cases fl with
      | next => exact False.elim h
      | brk => exact False.elim h
      | cont => exact False.elim h
      | ret u =>
        obtain ⟨v, H', os, bare, un, hok', r', q⟩ := h
        have q' : v = .bl true := q
        subst q'
        obtain rfl : u = Value.bool true := r'
        refine ⟨rfl, OldK.of_keep fun b o e => ?_, os, bare⟩
        cases q : H b with
        | none => exact un.keep b o e q (by intro z; exact absurd (show b ∈ ([] : List Addr) from z) (by simp)) (by simp)
        | some u =>
          rcases hO b with z | ⟨ob, xs, z⟩
          · rw [q] at z; cases z
          · have z2 := un.frzs b ob _ z
            obtain ⟨e1, _⟩ := hok b _ z
            obtain ⟨e2, _⟩ := hok' b _ z2
            rw [e] at e1; cases e1
            exact e2
  cases hk : K.lookup a with
  | some o =>
    -- the script is one of the module's own objects
    have e := KX a o hk
    rw [ha] at e
    cases e
    refine core (fun _ => none) (fun _ => .inl rfl) (.inr ⟨_, vs.toArray, _, hk, rfl, rfl, rfl, by rw [List.size_toArray, lenV]; exact hl, by simpa using rv⟩) (fun b u z => by have z' : (none : Option HO) = some u := z; cases z') (fun b z => absurd rfl z) fun z => absurd rfl z
  | none =>
    refine core (fun b => if b = a then some (.frz { cls := .type "list", data := .seq vs.toArray } (.lst (ns.map V.int))) else none) (fun b => ?_) (.inl (.inr ⟨{ cls := .type "list", data := .seq vs.toArray }, if_pos rfl⟩)) (fun b u z => ?_) (fun b z => ?_) fun _ => hk
    · by_cases hb : b = a
      · exact .inr ⟨_, _, if_pos hb⟩
      · exact .inl (if_neg hb)
    · by_cases hb : b = a
      · have z' := (if_pos hb).symm.trans z
        cases z'
        subst hb
        exact ⟨ha, by rw [List.length_map]; exact hl, vs, _, rv, ha⟩
      · have z' := (if_neg hb).symm.trans z
        cases z'
    · by_cases hb : b = a
      · exact hb
      · exact absurd (if_neg hb) z
end L2

namespace L2
open PySem PySem.Spec PyProof.Rows


/-- the goal that k_head leaves (case hc), from the law's promise. F gives the function object fd (K's own) once, then the promise over every base -/
theorem walk_of {l : PySem.W.OpenLaw} {n k : Nat} {q : Program} {loose : List Str} {XP : (Str → Option Value) → Heap → Prop} {YP : World → Heap → Prop} {d : DefRec} {K : Params → PySem.W.Frag} {CX : World → CXT} {sp : World → Sp} {x : Str}
    (hn : l.most = some n) (hn2 : n ≤ sizeLine) (hdf : d.params.defaults = []) (hr : Room k callerA)
    (hY : ∀ (w : World) (h : Heap), YP w h → (K w.params).In h)
    (F : ∀ (w : World) (mg : Str → Option Value) (fa : Addr) (h : Heap), (K w.params).In h → h.Ns mainGlobals mg → mg d.name = some (.ref fa) →
      ∃ fd : FuncData, (∀ (s : Shared) (u : Value), BindsTo s fd ⟨[u], []⟩ [(x, u)]) ∧
        ∀ base : Heap, (K w.params).In base → base.Ns mainGlobals mg → FnOk l.prog w (K w.params) mg base (CX w) k fa fd [x] (sp w))
    (hsp : ∀ (w : World) (H : Hp) (a : Addr) (ns : List Int), ns.length ≤ n → Only H → SqL (K w.params) H a (ns.map V.int) → sp w [.ref a] H (fun v _ => v = .bl true) fun _ _ _ => False)
    (hCX : ∀ (w : World) (H : Hp) (s : Shared) (e : Value) (s' : Shared), CX w [] H s (fun _ _ _ => False) e s' → False) :
    PySem.W.WalkO q loose XP YP l.row.toRowW d [] (fun f vs => PySem.call f vs) := by
  refine Att.attach_call hn hdf fun w s₀ s₁ mg mb fa o pm cd doc a vs ns G Y ho hd hcd hmg hobj hints hlen hg => ?_
  have KX := hY w _ Y
  obtain ⟨fd, hb, hF⟩ := F w mg fa _ KX G.T.g hmg
  exact law_call KX G.T.g G.T.b G.T.builtins G.T.nolimit hg hobj hints (Nat.le_trans hlen hn2) hr hF hb (fun H hO hS => hsp w H a ns hlen hO hS) fun H e s' => hCX w H s₁ e s'
end L2

/- THE LAST THEOREM (shape; LID, My.* are yours):
   My.Adr: a structure of the addresses that your layer names (classes, functions); My.Txt K t: a structure (Prop) of the equations over K;
   My.txt_mk : {K} {implicit addresses ..} (e1 : nsIn K mainGlobals "law" = some (some (.ref f))) (e2 : K.lookup f = some ⟨oc, od, .func (fnOf "law" "law" params body scope dV kV doc pm an cdv ct), sl⟩) (e3 : codeIn K cdv "law" = true) .. : ∃ t, My.Txt K t

set_option maxRecDepth 100000 in
set_option maxHeartbeats 0 in
theorem PySem.Challenge.cw_LID_holds : PySem.Challenge.rw_LID.Holds := by
  w_on; o_law; k_head; (case hw => w_witness2)
  k_fill
  refine L2.walk_of (l := PySem.Challenge.rw_LID) (n := 63) (k := 40) (x := "script") (CX := fun w => ..) (sp := fun _ => My.sp_law) rfl (by decide) rfl ⟨rfl, by decide, by decide⟩ (fun w h Y => PySem.W.kIn_of Y) ?F ?S ?C
  case F =>
    intro w mg fa h KX G hmg
    have T : ∃ t, My.Txt (L2.KOf KX) t := by
      dsimp only [L2.KOf]                          -- K must stand as «<heap const> w.params» for k_is
      refine' My.txt_mk ?e1 ?e2 ?e3 ..
      (case e1 => PySem.W.k_is)                    -- in the order: a name -> its address -> its object -> its parts
      (case e2 => PySem.W.k_is)
      ..
    obtain ⟨t, T⟩ := T
    have e0 := hmg.symm.trans (PySem.W.mg_of KX G T.law)
    cases e0                                       -- fa is the law's own address
    exact ⟨_, fun s u => .of_eq rfl, fun base kb nb => My.law_fn T kb nb⟩     -- if «.of_eq rfl» comes too early: refine' ⟨_, ?b, fun base kb nb => My.law_fn T kb nb⟩; exact fun s u => .of_eq rfl
  case S => exact fun w H a ns hl hO hS => ..
  case C => exact ..
(the tactic k_is has no namespace: write k_is) -/

/-! SHORT WORDS over the layer: a def of the text, its body, what a loop and a test want. -/
namespace L2
open PySem PySem.Spec PyProof.Rows

/-! ### the text by places -/
def defArgs (s : Stmt) : Arguments := match s with
  | .FunctionDef _ a _ _ _ _ _ _ _ _ => a
  | _ => { posonlyargs := [], args := [], vararg := none, kwonlyargs := [], kw_defaults := [], kwarg := none, defaults := [] }
def defBody (s : Stmt) : List Stmt := match s with
  | .FunctionDef _ _ b _ _ _ _ _ _ _ => b
  | _ => []
def defScope (s : Stmt) : Scope := match s with
  | .FunctionDef _ _ _ _ _ _ sc _ _ _ => sc
  | _ => { kind := .function, names := [], isGenerator := false, isCoroutine := false }

/-! ### no exception leaves a def -/
abbrev CX0 : CXT := fun _ _ _ _ _ _ => False
abbrev E0 : XK := fun _ _ _ => False
theorem pass0 {X : Cx} : Passes CX0 X E0 := fun _ _ _ _ _ _ _ h => h.elim

/-! ### a def (or method) of the text as it stands behind the top -/
structure Fun (K : PySem.W.Frag) (x qual : Str) (st : Stmt) (f : Addr) (fd : FuncData) : Prop where
  ex : ∃ (oc : Value) (od : Option Addr) (kV doc pm : Value) (an : Option Addr) (cdv ct : Value) (osl : Array (Option Value)),
    fd = PySem.W.fnOf x qual (defArgs st) (defBody st) (defScope st) .none kV doc pm an cdv ct ∧ K.lookup f = some ⟨oc, od, .func fd, osl⟩ ∧ PySem.W.codeIn K cdv qual = true
  kp : PySem.W.keepIn K (.ref f) = true
section
variable {P : Program} {w : World} {K : PySem.W.Frag} {mg : Str → Option Value} {base : Heap}
/-- THE RULE for a def: its body as a term of rules, and the reading of that term -/
theorem Fun.ok {x qual : Str} {st : Stmt} {f : Addr} {fd : FuncData} {N ps : List Str} {k : Nat} {sp : Sp} (F : Fun K x qual st f fd) (S : FnScope N ps (defScope st)) (len : ∀ vs H Q E, sp vs H Q E → vs.length = ps.length)
    (hbody : ∀ (cdv : Value) (A : Around) (outer : List Env) (s : Shared) (H : Hp) (vs : List V) (Q : VK) (E : XK), Room k (A.deeper (envOfC qual (defScope st) s.heap.objs.size f cdv)) → sp vs H Q E →
      ∃ t, PSs (cxOf CX0 P w K mg base N qual (defScope st) f cdv A outer s H E).nox (defBody st) t ∧ t { nx := fun _ H' => Q .non H', rt := Q } (start N vs) H) : FnOk P w K mg base CX0 (k + 1) f fd ps sp := by
  obtain ⟨oc, od, kV, doc, pm, an, cdv, ct, osl, rfl, lk, hcd⟩ := F.ex
  refine fn_of lk hcd S len fun A outer s H vs Q E hr hsp => ?_
  obtain ⟨t, h, q⟩ := hbody cdv A outer s H vs Q E hr hsp
  exact ⟨t, h.nox, q⟩
/-- how its arguments bind (no defaults): h is «fun _ _ _ _ _ _ us hl => match us, hl with | [_, _], _ => rfl», one _ a parameter -/
theorem Fun.binds {x qual : Str} {st : Stmt} {f : Addr} {fd : FuncData} {ps : List Str} (F : Fun K x qual st f fd)
    (h : ∀ (kV doc pm : Value) (an : Option Addr) (cdv ct : Value) (us : List Value), us.length = ps.length → bindArgs (PySem.W.fnOf x qual (defArgs st) (defBody st) (defScope st) .none kV doc pm an cdv ct) ⟨us, []⟩ = pure (ps.zip us)) : Binds K fd ps [] := by
  obtain ⟨oc, od, kV, doc, pm, an, cdv, ct, osl, rfl, lk, hcd⟩ := F.ex
  exact .all (h kV doc pm an cdv ct)
theorem fun_mk {x qual : Str} {st : Stmt} {f : Addr} {oc : Value} {od an : Option Addr} {osl : Array (Option Value)} {kV doc pm cdv ct : Value} (l : K.lookup f = some ⟨oc, od, .func (PySem.W.fnOf x qual (defArgs st) (defBody st) (defScope st) .none kV doc pm an cdv ct), osl⟩)
    (c : PySem.W.codeIn K cdv qual = true) (k : PySem.W.keepIn K (.ref f) = true) : Fun K x qual st f (PySem.W.fnOf x qual (defArgs st) (defBody st) (defScope st) .none kV doc pm an cdv ct) := ⟨⟨oc, od, kV, doc, pm, an, cdv, ct, osl, rfl, l, c⟩, k⟩
end

/-! ### expressions in short: the name that stands in the i-th slot -/
section
variable {X : Cx}
theorem pv (i : Nat) {x : Str} {pos : Pos} (hN : X.N[i]? = some x := by rfl) (hv : Vis X.env.scope x := by first | exact Or.inl rfl | exact Or.inr (Or.inl rfl) | exact Or.inr (Or.inr rfl)) (hd : (x == ("__debug__" : Str)) = false := by decide)
    (hcd : (x == ("__classdict__" : Str)) = false := by decide) : PE X (.Name x pos) (tVar i) := pe_var hN hv hd hcd
end

/-! ### tests -/
theorem iteF {A B : Prop} (h : B) : if false = true then A else B := by
  rw [if_neg Bool.false_ne_true]
  exact h
theorem iteT {A B : Prop} (h : A) : if true = true then A else B := by
  rw [if_pos rfl]
  exact h

/-! ### heaps -/
/-- all that was tracked is as it was -/
def Same (H H' : Hp) : Prop := ∀ b o, H b = some o → H' b = some o
theorem Same.seq {K : PySem.W.Frag} {H H' : Hp} {a : Addr} {xs : List V} (e : Same H H') (h : SqL K H a xs) : SqL K H' a xs := by
  rcases h with (h | ⟨o, h⟩) | h
  · exact .inl (.inl (e _ _ h))
  · exact .inl (.inr ⟨o, e _ _ h⟩)
  · exact .inr h

end L2

set_option maxHeartbeats 4000000
namespace L2
open PySem PySem.Spec PyProof.Rows

/-! ### a comprehension: its closure -/
def closL (env : Env) : List (Str × NameKind) → List (Str × Addr) → List (Str × Addr)
  | [], acc => acc
  | (n, k) :: r, acc => if k == .free then closL env r ((n, (env.cells.lookup n).getD 0) :: acc) else closL env r acc
theorem closure_loop (env : Env) : ∀ (names : List (Str × NameKind)) (acc : List (Str × Addr)), (∀ y ∈ names, y.2 = .free → (env.cells.lookup y.1).isSome = true) →
    (forIn names acc fun (x : Str × NameKind) (cs : List (Str × Addr)) => if (x.2 == NameKind.free) = true then (do let c ← cellOf env x.1; pure (ForInStep.yield ((x.1, c) :: cs))) else (pure (ForInStep.yield cs) : Sem (ForInStep (List (Str × Addr))))) = pure (closL env names acc)
  | [], acc, _ => rfl
  | (n, k) :: r, acc, h => by
    have ih := fun a => closure_loop env r a fun y hy => h y (List.mem_cons_of_mem _ hy)
    rw [List.forIn_cons]
    unfold closL
    by_cases hk : (k == NameKind.free) = true
    · obtain ⟨c, hc⟩ := Option.isSome_iff_exists.mp (h (n, k) List.mem_cons_self (by simpa using hk))
      simp only [hk, if_true]
      have : cellOf env n = pure c := by unfold cellOf; rw [hc]
      rw [this, hc]
      exact ih _
    · simp only [hk]
      exact ih _
theorem closureFor_cells {scope : Scope} {env : Env} (h : ∀ y ∈ scope.names, y.2 = .free → (env.cells.lookup y.1).isSome = true) : closureFor scope env = pure (closL env scope.names []) := by
  have e := closure_loop env scope.names [] h
  unfold closureFor
  exact congrArg (fun m => m >>= pure) e
theorem closL_keep {env : Env} {x : Str} : ∀ {names : List (Str × NameKind)} {acc : List (Str × Addr)} {c : Addr}, (∀ y ∈ names, y.2 = .free → (env.cells.lookup y.1).isSome = true) →
    (∀ c, acc.lookup x = some c → env.cells.lookup x = some c) → (closL env names acc).lookup x = some c → env.cells.lookup x = some c
  | [], _, _, _, ha, h => ha _ h
  | (n, k) :: r, acc, c, hn, ha, h => by
    unfold closL at h
    by_cases hk : (k == NameKind.free) = true
    · rw [if_pos hk] at h
      refine closL_keep (fun y hy => hn y (List.mem_cons_of_mem _ hy)) (fun c' e => ?_) h
      rw [List.lookup_cons] at e
      cases hx : x == n with
      | true =>
        rw [hx] at e
        have : x = n := by simpa using hx
        subst this
        obtain ⟨d, hd⟩ := Option.isSome_iff_exists.mp (hn (x, k) List.mem_cons_self (by simpa using hk))
        rw [hd] at e ⊢
        exact e
      | false =>
        rw [hx] at e
        exact ha _ e
    · rw [if_neg hk] at h
      exact closL_keep (fun y hy => hn y (List.mem_cons_of_mem _ hy)) ha h
theorem closL_has {env : Env} {x : Str} : ∀ {names : List (Str × NameKind)} {acc : List (Str × Addr)}, ((x, NameKind.free) ∈ names ∨ (acc.lookup x).isSome = true) → ((closL env names acc).lookup x).isSome = true
  | [], _, h => by rcases h with h | h; cases h; exact h
  | (n, k) :: r, acc, h => by
    unfold closL
    by_cases hk : (k == NameKind.free) = true
    · rw [if_pos hk]
      refine closL_has ?_
      rw [List.lookup_cons]
      cases hx : x == n with
      | true => exact .inr rfl
      | false =>
        rcases h with h | h
        · rcases List.mem_cons.mp h with e | h
          · cases e; simp at hx
          · exact .inl h
        · exact .inr h
    · rw [if_neg hk]
      refine closL_has ?_
      rcases h with h | h
      · rcases List.mem_cons.mp h with e | h
        · cases e; simp at hk
        · exact .inl h
      · exact .inr h
abbrev rlab (env : Env) : Str × NameKind → Str × NameKind := fun (n, k) => if (k == NameKind.free && env.scope.kind == .function && env.kindOf n == some .cell) then (n, NameKind.cell) else (n, k)
theorem relabel_of {env : Env} : ∀ {names : List (Str × NameKind)} {x : Str} {k : NameKind}, names.lookup x = some k →
    (names.map (rlab env)).lookup x = some k ∨ (k = .free ∧ (names.map (rlab env)).lookup x = some .cell)
  | [], _, _, h => by simp at h
  | (n, k) :: r, x, k', h => by
    have ih := @relabel_of env r x k'
    rw [List.map_cons]
    have e : rlab env (n, k) = (n, k) ∨ (k = .free ∧ rlab env (n, k) = (n, .cell)) := by
      by_cases hc : (k == NameKind.free && env.scope.kind == .function && env.kindOf n == some .cell) = true
      · refine .inr ⟨?_, if_pos hc⟩
        cases k <;> first | rfl | (simp at hc)
      · exact .inl (if_neg hc)
    cases hx : x == n with
    | true =>
      simp only [List.lookup_cons, hx] at h
      cases h
      rcases e with e | ⟨e1, e⟩
      · rw [e]; exact .inl (by simp only [List.lookup_cons, hx])
      · rw [e]; exact .inr ⟨e1, by simp only [List.lookup_cons, hx]⟩
    | false =>
      simp only [List.lookup_cons, hx] at h
      rcases e with e | ⟨e1, e⟩ <;> (rw [e]; simp only [List.lookup_cons, hx]; exact ih h)
theorem relabel_none {env : Env} : ∀ {names : List (Str × NameKind)} {x : Str}, names.lookup x = none → (names.map (rlab env)).lookup x = none
  | [], _, _ => rfl
  | (n, k) :: r, x, h => by
    have ih := @relabel_none env r x
    rw [List.map_cons]
    have e : rlab env (n, k) = (n, k) ∨ rlab env (n, k) = (n, .cell) := by
      by_cases hc : (k == NameKind.free && env.scope.kind == .function && env.kindOf n == some .cell) = true
      · exact .inr (if_pos hc)
      · exact .inl (if_neg hc)
    cases hx : x == n with
    | true => simp only [List.lookup_cons, hx] at h; cases h
    | false =>
      simp only [List.lookup_cons, hx] at h
      rcases e with e | e <;> (rw [e]; simp only [List.lookup_cons, hx]; exact ih h)
section
variable {prog : Program} {w : World} {A : Around} {E : Value → Shared → Prop} {R : Result → Shared → Prop} {s : Shared}
/-- a comprehension's turns, whatever its target -/
theorem compLoop_any {elt target iter : Expr} {ifs : List Expr} {scope : Scope} {pos : Pos} {it acc : Value} {env : Env} (I : Nat → Shared → Prop)
    (turn : ∀ n s, I n s → wpAny (model prog w) A (pyNext it) (fun r s₁ => match r with
      | none => R (.ok .next) s₁
      | some v => wpAny (model prog w) A (letOwnedTupleGo target it v) (fun _ s₁' => wpAny (model prog w) A (assign target env v) (fun _ s₂ =>
          wpAny (model prog w) A (forIn ifs true fun c r => if r = true then do let ok ← isTrue c env (eval c env); pure (ForInStep.yield ok) else pure (ForInStep.yield r)) (fun ok s₃ =>
            if ok = true then wpAny (model prog w) A (eval elt env) (fun x s₄ =>
              wpAny (model prog w) A (call (.builtin "list.append") [acc, x]) (fun _ s₅ => ∃ m, m < n ∧ I m s₅) (fun _ _ => False) s₄) (fun _ _ => False) s₃
            else ∃ m, m < n ∧ I m s₃) (fun _ _ => False) s₂) (fun _ _ => False) s₁') (fun _ _ => False) s₁) (fun _ _ => False) s)
    (n : Nat) (h : I n s) :
    codeAny (model prog w) A (.compLoop (.ListComp elt [⟨target, iter, ifs, 0⟩] scope pos) 0 it acc env) R s := by
  refine codeAny_loop rfl I (fun n s hI => ?_) n h
  show wpAny _ A ((compTurn (.ListComp elt [⟨target, iter, ifs, 0⟩] scope pos) 0 it acc env).onRaise (fun x => do noteFrame x env; theTreesLotGoes x)) _ _ s
  refine wpAny_noted (wpAny_noRaise ?_)
  rw [compTurn_list]
  refine wpAny_bind (wpAny_standAt (wpAny_bind (wpAny_mono (turn n s hI) (fun r s₁ h₁ => ?_) fun _ _ h' => h')))
  cases r with
  | none => exact wpAny_pure h₁
  | some v =>
    refine wpAny_bind (wpAny_mono h₁ (fun _ s₁' h₁' => ?_) fun _ _ h' => h')
    refine wpAny_bind (wpAny_mono h₁' (fun _ s₂ h₂ => wpAny_bind (wpAny_mono h₂ (fun ok s₃ h₃ => ?_) fun _ _ h' => h')) fun _ _ h' => h')
    cases ok with
    | false => exact wpAny_pure ⟨rfl, h₃⟩
    | true =>
      exact wpAny_bind (wpAny_bind (wpAny_mono h₃ (fun x s₄ h₄ => wpAny_bind (wpAny_mono h₄ (fun _ s₅ h₅ => wpAny_pure (wpAny_pure ⟨rfl, h₅⟩)) fun _ _ h' => h')) fun _ _ h' => h'))
end

/-! ### its own context -/
abbrev compCx (X : Cx) (scope : Scope) (N' : List Str) (C : Addr) (fp : List Addr) (s₂ : Shared) (H₂ : Hp) (pl : List (Addr × Obj)) : Cx where
  prog := X.prog
  w := X.w
  K := X.K
  mg := X.mg
  base := X.base
  A := X.A
  N := N'
  s₀ := s₂
  H₀ := H₂
  env := compEnvC scope (closL X.env scope.names []) C X.env
  outer := X.stack
  stack := X.stack
  ex := fp
  fn := fun _ => false
  calm := X.calm
  pn := X.pn ++ pl
  xe := fun _ _ => False
/-- what a comprehension's scope must be like: own: its own names, capN: the names it reads from around, at the slots caps of the def -/
structure CompScope (X : Cx) (scope : Scope) (own capN : List Str) (caps : List Nat) : Prop where
  kind : scope.kind = .function
  nocell : ∀ y ∈ scope.names, y.2 ≠ .cell
  free : ∀ y ∈ scope.names, y.2 = .free → X.env.kindOf y.1 = some .cell ∨ X.env.kindOf y.1 = some .free
  loc : ∀ y ∈ scope.names, y.2 = .local → scope.names.lookup y.1 = some .local
  caps : caps.map (fun j => X.N[j]?) = capN.map some
  capf : ∀ x ∈ capN, scope.names.lookup x = some .free
def liftC (own : List Str) (caps : List Nat) (σ : St) : St := own.map (fun _ => none) ++ caps.map (fun j => (σ[j]?).getD none)
section
variable {X : Cx} {scope : Scope} {own capN : List Str} {caps : List Nat}
theorem CompScope.cells (S : CompScope X scope own capN caps) (ok : X.Ok) : ∀ y ∈ scope.names, y.2 = .free → (X.env.cells.lookup y.1).isSome = true := fun y hy hf => by
  obtain ⟨c, hc⟩ := ok.has y.1 (S.free y hy hf)
  rw [hc]; rfl
theorem CompScope.cl (S : CompScope X scope own capN caps) (ok : X.Ok) {x : Str} {c : Addr} (h : (closL X.env scope.names []).lookup x = some c) : X.env.cells.lookup x = some c :=
  closL_keep (S.cells ok) (fun _ e => by simp at e) h
theorem inv_comp {pins : List (Addr × Obj)} {σ : St} {H₂ : Hp} {s₂ : Shared} {h₁ : Heap} {C : Addr} {fp : List Addr} {tk : Nat} {m : Str → Option Value} (S : CompScope X scope own capN caps) (I : Inv X pins σ H₂ s₂)
    (hf : ∀ b ∈ fp, FpOk X pins H₂ b) (hfo : ∀ b ∈ fp, b < s₂.heap.objs.size) (hC : s₂.heap.objs.size ≤ C) (hk : ∀ b o, s₂.heap.get? b = some o → h₁.get? b = some o) (hn : h₁.Ns C m) :
    Inv (compCx X scope (own ++ capN) C fp s₂ H₂ pins) [] (liftC own caps σ) H₂ { s₂ with heap := h₁, toks := tk } := by
  have cl := fun {x : Str} {c : Addr} => S.cl (x := x) (c := c) I.ok
  have kindRel : ∀ x, ((relabel scope X.env).names.lookup x = some .cell ∨ (relabel scope X.env).names.lookup x = some .free) → scope.names.lookup x = some .free := fun x hx => by
    cases e : scope.names.lookup x with
    | none =>
      have z : (relabel scope X.env).names.lookup x = none := relabel_none (env := X.env) e
      rw [z] at hx
      rcases hx with q | q <;> cases q
    | some k =>
      rcases relabel_of (env := X.env) e with z | ⟨z, _⟩
      · have z' : (relabel scope X.env).names.lookup x = some k := z
        rw [z'] at hx
        rcases hx with q | q
        · cases q; exact absurd rfl (S.nocell _ (PySem.mem_of_lookup e))
        · cases q; rfl
      · rw [z]
  have stk : ∀ b, b ≠ X.env.locals → b ∉ X.fs → b ∉ frs X.stack := fun b h1 h2 z => (List.mem_cons.mp (I.stkSub b z)).elim h1 h2
  refine ⟨⟨I.ok.mod, S.kind, I.ok.glob, I.ok.blt, hC, fun x y c h1 h2 => I.ok.inj x y c (cl h1) (cl h2), fun x hx => ?_, fun x c h _ => (by cases h), I.ok.hd, I.ok.frames, .inl rfl, fun b hb => ⟨?_, fun x c h => (hf b hb).2.2.2.2.1 x c (cl h)⟩,
      I.bs, Nat.le_trans I.ok.bsz I.sz, fun b o e hb => ?_, fun b hb => stk b (hf b hb).2.1 (hf b hb).2.2.1, I.stack, I.stkFree⟩,
    rfl, I.bare, Un.kept hk, ⟨m, hn, fun i x v h1 h2 h3 => ?_⟩, fun x c h => ?_, I.hok.fresh hC, fun x c h => I.freeC x c (cl h), fun p hp => ?_, I.hok.kept hk, ?_⟩
  · have q := kindRel x hx
    exact Option.isSome_iff_exists.mp (closL_has (env := X.env) (.inl (PySem.mem_of_lookup q)))
  · exact Nat.ne_of_lt (Nat.lt_of_lt_of_le (hfo b hb) hC)
  · rcases (hf b hb).2.2.2.1 with z | z
    · exact I.ok.noex b o e z
    · exact absurd (Nat.lt_of_lt_of_le (Heap.lt_size (I.ok.bs b o e).1) z) (Nat.lt_irrefl _)
  · -- a name that is read from around
    have hi : own.length ≤ i := by
      refine Nat.le_of_not_lt fun hlt => ?_
      unfold liftC at h2
      rw [List.getElem?_append_left (by simpa using hlt), List.getElem?_map] at h2
      cases q : own[i]? with
      | none => rw [q] at h2; cases h2
      | some y => rw [q] at h2; cases h2
    have h1' : capN[i - own.length]? = some x := by
      have : (own ++ capN)[i]? = some x := h1
      rwa [List.getElem?_append_right hi] at this
    have h2' : (caps.map (fun j => (σ[j]?).getD none))[i - own.length]? = some (some v) := by
      unfold liftC at h2
      rwa [List.getElem?_append_right (by simpa using hi), List.length_map] at h2
    rw [List.getElem?_map] at h2'
    obtain ⟨j, hj, hj2⟩ := Option.map_eq_some_iff.mp h2'
    have hX : X.N[j]? = some x := by
      have q := congrArg (fun l => l[i - own.length]?) S.caps
      simp only [List.getElem?_map, hj, h1', Option.map_some] at q
      exact Option.some.inj q
    have hσ : σ[j]? = some (some v) := by
      cases q : σ[j]? with
      | none => rw [q] at hj2; cases hj2
      | some z => rw [q] at hj2; simp at hj2; rw [hj2]
    have hfr := S.capf x (List.mem_of_getElem? h1')
    have hmem : (x, NameKind.free) ∈ scope.names := PySem.mem_of_lookup hfr
    have hkX := S.free _ hmem rfl
    obtain ⟨m', hm', hl⟩ := I.loc
    obtain ⟨u, ru, l⟩ := hl j x v hX hσ (hkX.elim (fun q => .inr (.inl q)) fun q => .inr (.inr q))
    refine ⟨u, ru, .inr ⟨?_, ?_⟩⟩
    · rcases relabel_of (env := X.env) hfr with z | ⟨_, z⟩
      · exact .inr z
      · exact .inl z
    · rcases l with ⟨l, _⟩ | ⟨_, c, hc, hcell⟩
      · have l' : X.env.kindOf x = some .local := l
        rcases hkX with q | q <;> (rw [l'] at q; cases q)
      · obtain ⟨c', hc'⟩ := Option.isSome_iff_exists.mp (closL_has (env := X.env) (acc := []) (.inl hmem))
        have := cl hc'
        rw [hc] at this
        cases this
        obtain ⟨o, ho, hd⟩ := hcell
        exact ⟨c, hc', o, hk c o ho, hd⟩
  · obtain ⟨v, o, ho, hd⟩ := I.cell x c (cl h)
    exact ⟨v, o, hk c o ho, hd⟩
  · have hp' : p ∈ X.pn ++ pins := by simpa using hp
    obtain ⟨e, n, ne, nf, d⟩ := I.pin p hp'
    exact ⟨hk _ _ e, n, Nat.ne_of_lt (Nat.lt_of_lt_of_le (Heap.lt_size e) hC), stk p.1 ne nf, d⟩
  · unfold liftC
    have hl := congrArg List.length S.caps
    simp only [List.length_map] at hl
    show (own.map (fun _ => (none : Option V)) ++ caps.map (fun j => (σ[j]?).getD none)).length = (own ++ capN).length
    rw [List.length_append, List.length_append, List.length_map, List.length_map, hl]
end

/-! ### the tests -/
def PTs (X : Cx) (ifs : List Expr) (t : TT) : Prop :=
  ∀ (pins : List (Addr × Obj)) (s : Shared) (σ : St) (H : Hp) (Q : Bool → Hp → Prop), Inv X pins σ H s → t σ H Q →
    wpAny (model X.prog X.w) X.A (forIn ifs true fun c r => if r = true then do let ok ← isTrue c X.env (eval c X.env); pure (ForInStep.yield ok) else pure (ForInStep.yield r)) (TP X pins σ Q) X.xe s
def tYes : TT := fun _ H Q => Q true H
theorem pts_nil {X : Cx} : PTs X [] tYes := fun _ _ _ H _ I h => wpAny_tests_nil ⟨H, I, h⟩
theorem pts_one {X : Cx} {c : Expr} {t : TT} (h : PT X c t) : PTs X [c] t := fun pins s σ H Q I q => wpAny_tests_one (h pins s σ H Q I q)

/-! ### the list: turns, an invariant W over the turn, a measure, the items made so far, the own slots, the heap -/
def tComp (own : List Str) (caps : List Nat) (wi : TI) (g : TG) (tc : TT) (te : TE) : TE := fun σ H Q => wi σ H fun J H1 => ∃ W : Nat → Nat → List V → St → Hp → Prop, (∃ m, W 0 m [] (liftC own caps σ) H1) ∧ ∀ i m ys σ' H, W i m ys σ' H →
  (J.stop i H ∧ ys.length ≤ sizeLine ∧ ∀ p, H p = none → Q (.ref p) (upd H p (.lst ys))) ∨
  (J.go i H ∧ ∀ x H', J.yld i H x H' → g x σ' H' fun σ2 H2 => tc σ2 H2 fun b H3 => if b = true then te σ2 H3 fun y H4 => ys.length < sizeLine ∧ ∃ m', m' < m ∧ W (i + 1) m' (ys ++ [y]) σ2 H4 else ∃ m', m' < m ∧ W (i + 1) m' ys σ2 H3)

section
variable {X : Cx} {scope : Scope} {own capN : List Str} {caps : List Nat} {tg iter elt : Expr} {ifs : List Expr} {wi : TI} {g : TG} {tc : TT} {te : TE} {pos : Pos}
theorem comp_core {pins : List (Addr × Obj)} {σ : St} {H : Hp} {s : Shared} {Q : VK} {RR : Value → Addr → Result → Shared → Prop} (S : CompScope X scope own capN caps) (hc : X.calm = true) (hi : PI X tg iter wi)
    (hin : ∀ C fp s₂ H₂ pl, PG (compCx X scope (own ++ capN) C fp s₂ H₂ pl) tg g ∧ PTs (compCx X scope (own ++ capN) C fp s₂ H₂ pl) ifs tc ∧ PE (compCx X scope (own ++ capN) C fp s₂ H₂ pl) elt te)
    (I : Inv X pins σ H s) (h : tComp own caps wi g tc te σ H Q)
    (hRR : ∀ (D C : Addr) (s' : Shared) (H' : Hp) (m : Str → Option Value), Inv X pins σ H' s' → FpOk X pins H' C → s'.heap.Ns C m → Q (.ref D) H' → RR (.ref D) C (.ok .next) s') :
    wpAny (model X.prog X.w) X.A (eval iter X.env) (fun x s₁ => wpAny (model X.prog X.w) X.A (pyIter x) (fun it s₂ => wpAny (model X.prog X.w) X.A (newList []) (fun acc s₃ =>
      wpAny (model X.prog X.w) X.A (newFunctionEnv scope X.env.globals (closL X.env scope.names []) [] X.env.qual none .none (some X.env)) (fun cenv s₄ =>
        codeAny (model X.prog X.w) X.A (.compStart (.ListComp elt [⟨tg, iter, ifs, 0⟩] scope pos) 0 it acc { cenv with scope := relabel scope X.env }) (RR acc cenv.locals) s₄) X.xe s₃) X.xe s₂) X.xe s₁) X.xe s := by
  refine thn (hi pins s σ H _ I h) fun v s1 h1 => thn h1 fun itv s2 h2 => ?_
  obtain ⟨it, fp, tn, J, H2, e, I2, T, st2, f2, W, ⟨m0, w0⟩, turn⟩ := h2
  subst e
  have hfo : ∀ b ∈ fp, b < s2.heap.objs.size := fun b hb => by obtain ⟨o, e, _⟩ := T.obj _ _ st2 b hb; exact Heap.lt_size e
  refine wpAny_newObj_type (wpAny_newFunctionEnv S.nocell (by intro y hy; simp at hy) (fun h₁ hns₁ hsb₁ => ?_) S.kind)
  dsimp only at hns₁ hsb₁ ⊢
  generalize hH2 : s2.heap.push { cls := .type "list", dict := none, data := .seq ([] : List Value).toArray } = HH at hns₁ hsb₁ ⊢
  have hC : HH.objs.size = s2.heap.objs.size + 1 := by rw [← hH2, Heap.size_push]
  have hCle : s2.heap.objs.size ≤ HH.objs.size := by rw [hC]; exact Nat.le_succ _
  have hDC : s2.heap.objs.size ≠ HH.objs.size := by rw [hC]; exact Nat.ne_of_lt (Nat.lt_succ_self _)
  have below : ∀ b, b < s2.heap.objs.size → b ≠ HH.objs.size := fun b hb => by rw [hC]; exact Nat.ne_of_lt (Nat.lt_succ_of_lt hb)
  have old : ∀ b o, s2.heap.get? b = some o → h₁.get? b = some o := fun b o e => hsb₁.extBut b o (below b (Heap.lt_size e)) (Heap.get?_push_of_some _ (hH2 ▸ Heap.get?_push_of_some _ e))
  have hacc : h₁.get? s2.heap.objs.size = some { cls := .type "list", dict := none, data := .seq ([] : List Value).toArray } := hsb₁.extBut _ _ hDC (Heap.get?_push_of_some _ (hH2 ▸ Heap.get?_push_size _ rfl))
  generalize hCe : HH.objs.size = C at hns₁ hDC hCle below ⊢
  generalize hDe : s2.heap.objs.size = D at hacc hDC ⊢
  clear hsb₁ hH2 hC hCe HH
  obtain ⟨hg, ht, he⟩ := hin C fp s2 H2 pins
  have Ic : Inv (compCx X scope (own ++ capN) C fp s2 H2 pins) [] (liftC own caps σ) H2 { s2 with heap := h₁, toks := s2.toks + ([] : List (Str × Value)).length } := inv_comp S I2 f2 hfo (by rw [hDe]; rw [hDe] at hCle; exact hCle) old hns₁
  have cellsD : ∀ x c, (closL X.env scope.names []).lookup x = some c → c ≠ D := fun x c e z => by
    obtain ⟨v, q⟩ := I2.cell x c (S.cl I2.ok e)
    exact absurd q.lt (by rw [z, hDe]; exact Nat.lt_irrefl _)
  have DnotFs : D ∉ frs X.stack := fun z => by
    rcases List.mem_cons.mp (I2.stkSub D z) with q | q
    · exact absurd I2.lt (by rw [← q, hDe]; exact Nat.lt_irrefl _)
    · exact I2.nofs (by rw [hDe]; exact Nat.le_refl _) q
  have DnotPin : ∀ p ∈ X.pn ++ pins, p.1 ≠ D := fun p hp z => absurd (Heap.lt_size (I2.pin p hp).1) (by rw [z, hDe]; exact Nat.lt_irrefl _)
  -- the object of the list, pinned
  have pinD : ∀ {σ' : St} {H' : Hp} {s' : Shared} {us : List Value} {k : Nat}, Inv (compCx X scope (own ++ capN) C fp s2 H2 pins) [] σ' H' s' → s'.heap.get? D = some { cls := .type "list", data := .seq us.toArray k } → H' D = none →
      Inv (compCx X scope (own ++ capN) C fp s2 H2 pins) [(D, { cls := .type "list", data := .seq us.toArray k })] σ' H' s' := fun J e n => J.pins_of fun p hp => by
    obtain rfl := List.mem_singleton.mp hp
    exact ⟨e, n, hDC, DnotFs, fun v z => by cases z⟩
  have fpc : ∀ {H' : Hp} {o : Obj}, (∀ b ∈ fp, H' b = none) → ∀ b ∈ fp, FpOk (compCx X scope (own ++ capN) C fp s2 H2 pins) [(D, o)] H' b := fun hn b hb => by
    obtain ⟨f0, f1, f2', f3, f4, f5⟩ := f2 b hb
    refine ⟨hn b hb, Nat.ne_of_lt (Nat.lt_of_lt_of_le (hfo b hb) (by rw [hDe]; rw [hDe] at hCle; exact hCle)), fun z => (List.mem_cons.mp (I2.stkSub b z)).elim f1 f2', .inl hb, fun x c e => f4 x c (S.cl I2.ok e), fun p hp => ?_⟩
    rcases List.mem_append.mp hp with hp | hp
    · exact f5 p hp
    · obtain rfl := List.mem_singleton.mp hp
      intro z
      have z' : D = b := z
      exact absurd (hfo b hb) (by rw [← z', hDe]; exact Nat.lt_irrefl _)
  have loop : codeAny (model X.prog X.w) X.A (.compLoop (.ListComp elt [⟨tg, iter, ifs, 0⟩] scope pos) 0 (.ref it) (.ref D) (compEnvC scope (closL X.env scope.names []) C X.env)) (RR (.ref D) C) { s2 with heap := h₁, toks := s2.toks + ([] : List (Str × Value)).length } := by
    refine compLoop_any (fun n s' => ∃ i ys us k σ' H', Inv (compCx X scope (own ++ capN) C fp s2 H2 pins) [(D, { cls := .type "list", data := .seq us.toArray k })] σ' H' s' ∧ tn i s'.heap ∧ (∀ b ∈ fp, H' b = none) ∧ Vals ys us ∧ W i n ys σ' H') ?_ m0
      ⟨0, [], [], 0, _, H2, pinD Ic hacc (I2.hok.fresh (by rw [hDe]; exact Nat.le_refl _)), T.keep _ _ _ st2 fun b _ o e => old b o e, fun b hb => (f2 b hb).1, .nil, w0⟩
    rintro n s3 ⟨i, ys, us, k, σ3, H3, I3, st3, fr3, r3, w3⟩
    rcases turn i n ys σ3 H3 w3 with ⟨stop, hz, qn⟩ | ⟨go, step⟩
    · refine thn (T.done (compCx X scope (own ++ capN) C fp s2 H2 pins) rfl rfl rfl hc i _ s3 σ3 H3 _ I3 (fpc fr3) st3 stop) fun r s4 ⟨hr, I4⟩ => ?_
      subst hr
      obtain ⟨eD, nD, _⟩ := I4.pin (D, _) (List.mem_append_right _ (List.mem_singleton.mpr rfl))
      have nD' : H3 D = none := nD
      have I5 : Inv X pins σ (upd H3 D (.lst ys)) s4 := by
        refine I2.call' (ch := fp) I4.os ⟨I4.base.keep, I4.base.slot, fun b o e n hx => ?_, I4.base.there, fun b xs e => ?_, fun b o u e => ?_, fun b ps e => ?_⟩ (fun b u e => ?_) I4.bare fun b hb => ⟨(f2 b hb).2.2.2.1, (f2 b hb).2.1, (f2 b hb).2.2.2.2.1, (f2 b hb).2.2.2.2.2⟩
        · rw [upd_ne (by intro z; exact absurd (Heap.lt_size e) (by rw [z, hDe]; exact Nat.lt_irrefl _))]
          exact I4.base.free b o e n hx
        · have q := I4.base.tups b xs e
          rw [upd_ne (ne_of_none q nD')]; exact q
        · have q := I4.base.frzs b o u e
          rw [upd_ne (ne_of_none q nD')]; exact q
        · obtain ⟨more, q⟩ := I4.base.tbls b ps e
          exact ⟨more, by rw [upd_ne (ne_of_none q nD')]; exact q⟩
        · by_cases hb : b = D
          · subst hb
            rw [upd_same] at e; cases e
            exact ⟨hz, us, k, r3, eD⟩
          · rw [upd_ne hb] at e
            exact (I4.hok b u e).stay (fun _ _ _ q => q) (fun c q => by rw [upd_ne (ne_of_none q nD')]; exact q) fun c xs q => by rw [upd_ne (ne_of_none q nD')]; exact q
      obtain ⟨m, hm, _⟩ := I4.loc
      exact hRR D C s4 _ m I5 (I2.fpOk (by rw [hDe]; rw [hDe] at hCle; exact hCle) (by rw [upd_ne (Ne.symm hDC)]; exact I4.free)) hm (qn D nD')
    · refine thn (T.item (compCx X scope (own ++ capN) C fp s2 H2 pins) rfl rfl rfl hc i _ s3 σ3 H3 _ I3 (fpc fr3) st3 go) fun r s4 ⟨u, hr, h4⟩ => ?_
      subst hr
      refine thn h4 fun _ s5 ⟨x, H5, I5, r5, y5, st5, fr5⟩ => ?_
      have I5' := I5.pinned (fpc fr5) (T.obj _ _ st5)
      refine thn (hg _ s5 σ3 H5 x u _ I5' r5 (step x H5 y5)) fun _ s6 ⟨σ6, H6, I6, q6⟩ => ?_
      refine thn (ht _ s6 σ6 H6 _ I6 q6) fun ok s7 ⟨H7, I7, q7⟩ => ?_
      have back : ∀ {σ8 : St} {H8 : Hp} {s8 : Shared}, Inv (compCx X scope (own ++ capN) C fp s2 H2 pins) ([(D, { cls := .type "list", data := .seq us.toArray k })] ++ pinsAt fp s5.heap) σ8 H8 s8 → tn (i + 1) s8.heap ∧ (∀ b ∈ fp, H8 b = none) := fun {σ8 H8 s8} I8 => by
        refine ⟨T.keep _ _ _ st5 fun b hb o e => (I8.pin (b, o) (List.mem_append_right _ (List.mem_append_right _ (mem_pinsAt hb e)))).1, fun b hb => ?_⟩
        obtain ⟨o, e, d⟩ := T.obj _ _ st5 b hb
        exact (I8.pin (b, o) (List.mem_append_right _ (List.mem_append_right _ (mem_pinsAt hb e)))).2.1
      cases ok with
      | false =>
        obtain ⟨m', hm, w7⟩ := q7
        obtain ⟨t7, n7⟩ := back I7
        exact ⟨m', hm, i + 1, ys, us, k, σ6, H7, I7.unpinned, t7, n7, r3, w7⟩
      | true =>
        refine thn (he _ s7 σ6 H7 _ I7 q7) fun u8 s8 ⟨y, H8, I8, r8, hz, m', hm, w8⟩ => ?_
        obtain ⟨t8, n8⟩ := back I8
        have I9 := I8.unpinned
        obtain ⟨eD, nD, neD, nfD, _⟩ := I9.pin (D, _) (List.mem_append_right _ (List.mem_singleton.mpr rfl))
        have hl := r3.length
        refine call_meets F.slot_list_append ⟨_, eD, rfl⟩ F.entry_list_append (F.args_list_append_2 _ _) (PySem.list_append D us.toArray k u8 (by rw [List.size_toArray]; omega)) ⟨eD, ?_⟩
        have q := PySem.IsL.update eD (fun a => a.push u8)
        have e2 : us.toArray.push u8 = (us ++ [u8]).toArray := by simp
        rw [e2] at q
        have keep : ∀ b o, b ≠ D → s8.heap.get? b = some o → (s8.heap.update D (Obj.mapSeq fun a => a.push u8)).get? b = some o := fun b o hb e => (Heap.get?_update_other s8.heap _ (Ne.symm hb)).trans e
        have I10 : Inv (compCx X scope (own ++ capN) C fp s2 H2 pins) [] σ6 H8 { s8 with heap := s8.heap.update D (Obj.mapSeq fun a => a.push u8) } := by
          refine (I9.pins_of (pins' := []) fun p hp => absurd hp (by simp)).turned (t' := s8.toks) (it := D) keep nD neD (.inr (by rw [hDe]; exact Nat.le_refl _)) cellsD fun p hp => ?_
          exact DnotPin p (by simpa using hp)
        exact ⟨m', hm, i + 1, ys ++ [y], us ++ [u8], _, σ6, H8, pinD I10 q nD, T.keep _ _ _ t8 fun b hb o e => keep b o (by intro z; exact absurd (hfo b hb) (by rw [z, hDe]; exact Nat.lt_irrefl _)) e, n8, r3.append (.cons r8 .nil), w8⟩
  exact codeAny_compStart_list loop (wpAny_noRaise (T.self _ 0 _ _ _ (T.keep _ _ _ st2 fun b _ o e => old b o e) loop))

/-- [elt for tg in iter if ..] as a value -/
theorem pe_comp (S : CompScope X scope own capN caps) (hc : X.calm = true) (hi : PI X tg iter wi)
    (hin : ∀ C fp s₂ H₂ pl, PG (compCx X scope (own ++ capN) C fp s₂ H₂ pl) tg g ∧ PTs (compCx X scope (own ++ capN) C fp s₂ H₂ pl) ifs tc ∧ PE (compCx X scope (own ++ capN) C fp s₂ H₂ pl) elt te)
    (hs : ∀ x, foldedSetIterable iter X.env x = pure x := by intro _; rfl) : PE X (.ListComp elt [⟨tg, iter, ifs, 0⟩] scope pos) (tComp own caps wi g tc te) := by
  intro pins s σ H Q I h
  rw [eval_ListComp]
  refine wpAny_comprehension_free (use := none) rfl hs (closureFor_cells (S.cells I.ok)) S.kind S.loc ?_
  refine comp_core S hc hi hin I h fun D C s' H' m I' f hm q => ⟨m, hm, fun h' hs' => ?_⟩
  exact ⟨.ref D, H', I'.turned (t' := s'.toks) (it := C) (fun b o hb e => (hs'.2 b hb).trans e) f.1 f.2.1 f.2.2.2.1 f.2.2.2.2.1 f.2.2.2.2.2, rfl, q⟩
/-- name = [elt for tg in iter if ..], stored ahead of the block's end -/
theorem ps_setComp {i : Nat} {y : Str} {py spos : Pos} (hN : X.N.Nodup) (hi' : X.N[i]? = some y) (hx : Loc X.env.scope y) (S : CompScope X scope own capN caps) (hc : X.calm = true) (hi : PI X tg iter wi)
    (hin : ∀ C fp s₂ H₂ pl, PG (compCx X scope (own ++ capN) C fp s₂ H₂ pl) tg g ∧ PTs (compCx X scope (own ++ capN) C fp s₂ H₂ pl) ifs tc ∧ PE (compCx X scope (own ++ capN) C fp s₂ H₂ pl) elt te)
    (hsw : swapsWith (.ListComp elt [⟨tg, iter, ifs, 0⟩] scope pos) (some (.Name y py)) spos.line X.env = pure true := by rfl)
    (hs : ∀ x, foldedSetIterable iter X.env x = pure x := by intro _; rfl) (hf : X.fn y = true ∨ X.env.scope.names.lookup y = some .local := by first | exact .inl rfl | exact .inr rfl | assumption) :
    PS X (.Assign [.Name y py] (.ListComp elt [⟨tg, iter, ifs, 0⟩] scope pos) spos) (tAsg (tComp own caps wi g tc te) (gName i)) := by
  intro pins s σ H D I h
  rw [exec_Assign_Name_used _ _ _ _ hsw]
  refine wpAny_bind (wpAny_standAt (wpAny_bind ?_))
  show wpAny _ X.A (do let _ ← comprehension (.ListComp elt [⟨tg, iter, ifs, 0⟩] scope pos) scope X.env _ (newList []) false (eval iter X.env) (some (assign (.Name y py) X.env))) _ _ s
  refine wpAny_bind (wpAny_mono (wpAny_comprehension_free (use := some (assign (.Name y py) X.env)) (Q := fun _ s' => SP X pins D .next s') rfl hs (closureFor_cells (S.cells I.ok)) S.kind S.loc ?_) (fun _ s' hq => wpAny_pure (wpAny_pure hq)) fun _ _ e => e)
  refine comp_core S hc hi hin I h fun Da C s' H' m I' f hm q => ?_
  show wpAny _ X.A (assign (.Name y py) X.env (.ref Da)) _ _ _
  refine wpAny_assign_Name (store_ok2 I' hN hi' hx (v := .ref Da) rfl (fun s2 I2 ⟨a, sb, ha⟩ => ⟨m, ?_, fun h' hs' => ?_⟩) hf)
  · refine hm.sameBut sb ?_
    rcases ha with z | z
    · rw [z]; exact f.2.1
    · exact Ne.symm (f.2.2.2.2.1 y a z)
  · exact ⟨_, H', I2.turned (t' := s2.toks) (it := C) (fun b o hb e => (hs'.2 b hb).trans e) f.1 f.2.1 f.2.2.2.1 f.2.2.2.2.1 f.2.2.2.2.2, q⟩
end
end L2

namespace L2
open PySem
theorem wpAny_loadIfAlive {M : Model} {A : Around} {E : Value → Shared → Prop} {s : Shared} {a : Addr} {Q : Option Obj → Shared → Prop} (h : Q (s.heap.get? a) s) : wpAny M A (loadIfAlive a) Q E s := by
  intro Γ p hΓ
  unfold loadIfAlive
  rw [Sem.wp_loadIfAlive]
  exact wpAny_pure h Γ p hΓ
abbrev IsZipF (h : Heap) (z TI TO : Addr) (f0 f1 : Value) : Prop :=
  h.get? z = some { cls := .type "zip", dict := none, data := .fields #[f0, f1, .bool false, .ref TI, .ref TO], slots := #[] }
abbrev IsTrip (h : Heap) (T : Addr) (a b c : Value) : Prop := h.get? T = some { cls := .type "tuple", data := .seq #[a, b, c] }
section
variable {prog : Program} {w : World} {A : Around} {E : Value → Shared → Prop} {s : Shared}
theorem updateSeq_trip {T : Addr} {a b c x : Value} {k : Nat} {Q : Unit → Shared → Prop} (hT : IsTrip s.heap T a b c)
    (h : ∀ h', h'.get? T = some { cls := .type "tuple", data := .seq ((#[a, b, c] : Array Value).setIfInBounds k x) } → Heap.SameBut T s.heap h' → Q () { s with heap := h' }) :
    wpAny (model prog w) A (updateSeq T (·.setIfInBounds k x)) Q E s := by
  refine wpAny_updateSeq hT rfl (h _ ?_ (Heap.SameBut.update ..))
  rw [Heap.get?_update_self _ hT rfl]
  simp [Obj.mapSeq]
theorem zip3_owned {z TI TO i1 i2 i3 l1 l2 l3 : Addr} {k : Nat} {xs ys zs : Array Value} {x y v a b c : Value} {Q : Value → Shared → Prop}
    (nd : [z, TI, TO, i1, i2, i3].Nodup) (hl : ∀ l ∈ [l1, l2, l3], ∀ j ∈ [z, TI, TO, i1, i2, i3], l ≠ j)
    (hz : IsZipF s.heap z TI TO .none (.bool false)) (hTI : IsTrip s.heap TI (.ref i1) (.ref i2) (.ref i3)) (hTO : IsTrip s.heap TO a b c)
    (h1 : s.heap.IsListIter i1 l1 k) (h2 : s.heap.IsListIter i2 l2 k) (h3 : s.heap.IsListIter i3 l3 k) (hl1 : s.heap.IsList l1 xs) (hl2 : s.heap.IsList l2 ys) (hl3 : s.heap.IsList l3 zs)
    (hx : xs[k]? = some x) (hy : ys[k]? = some y) (hv : zs[k]? = some v)
    (hQ : ∀ h', IsZipF h' z TI TO (rawInt s.heap.objs.size) (.bool false) → IsTrip h' TO x y v → h'.IsListIter i1 l1 (k + 1) → h'.IsListIter i2 l2 (k + 1) → h'.IsListIter i3 l3 (k + 1) → IsTrip h' s.heap.objs.size x y v → h'.objs.size = s.heap.objs.size + 1 →
      (∀ c o, c ∉ [z, TO, i1, i2, i3] → s.heap.get? c = some o → h'.get? c = some o) → Q (.ref s.heap.objs.size) { s with heap := h' }) :
    wpAny (model prog w) A (Builtin.«zip.__next__» ⟨[.ref z], []⟩) (fun fin s' => ∃ v, fin = .done (.ret v) ∧ Q v s') E s := by
  simp only [List.nodup_cons, List.mem_cons, List.not_mem_nil, or_false, not_or, not_false_eq_true, and_true, List.nodup_nil] at nd
  obtain ⟨⟨zTI, zTO, z1, z2, z3⟩, ⟨TITO, TI1, TI2, TI3⟩, ⟨TO1, TO2, TO3⟩, ⟨i12, i13⟩, i23⟩ := nd
  have n1 : ∀ j ∈ [z, TI, TO, i1, i2, i3], l1 ≠ j := hl l1 (by simp)
  have n2 : ∀ j ∈ [z, TI, TO, i1, i2, i3], l2 ≠ j := hl l2 (by simp)
  have n3 : ∀ j ∈ [z, TI, TO, i1, i2, i3], l3 ≠ j := hl l3 (by simp)
  show wpAny _ _ (field (.ref z) 2 >>= _) _ _ _
  refine wpAny_bind (wpAny_field hz rfl (x := .bool false) rfl ?_)
  show wpAny _ _ (field (.ref z) 3 >>= _) _ _ _
  refine wpAny_bind (wpAny_field hz rfl (x := .ref TI) rfl ?_)
  refine wpAny_bind (wpAny_seqItems hTI rfl ?_)
  show wpAny _ _ (Builtin.SmallTypes.ownedTupleIsFree (.ref z) >>= _) _ _ _
  refine wpAny_bind ?_
  unfold Builtin.SmallTypes.ownedTupleIsFree
  refine wpAny_bind (wpAny_field hz rfl (x := .none) rfl (wpAny_pure ?_))
  simp only [if_true]
  refine wpAny_bind (wpAny_rule ?_)
  refine wpAny_bind (wpAny_field hz rfl (x := .ref TO) rfl ?_)
  refine wpAny_bind (wpAny_setField_rec hz (by simp) fun h₁ hz₁ hs₁ => ?_)
  replace hz₁ : IsZipF h₁ z TI TO .ellipsis (.bool false) := hz₁
  refine wpAny_bind ?_
  simp only [List.zipIdx_cons, List.zipIdx_nil, List.forIn_cons, List.forIn_nil]
  refine wpAny_bind (wpAny_bind (wpAny_onRaise ?_))
  show wpAny _ _ (Builtin.SmallTypes.nextOf (.ref i1) >>= _) _ _ _
  refine wpAny_bind (wpAny_nextOf_list_item (h1.extBut hs₁.extBut (Ne.symm z1)) (hl1.extBut hs₁.extBut (n1 z (by simp))) hx fun h₂ h1₂ hs₂ => wpAny_pure ?_)
  have hTO₂ : IsTrip h₂ TO a b c := hs₂.extBut _ _ TO1 (hs₁.extBut _ _ (Ne.symm zTO) hTO)
  refine wpAny_bind (wpAny_seqItems hTO₂ rfl ?_)
  refine wpAny_bind (updateSeq_trip hTO₂ fun h₃ hTO₃ hs₃ => ?_)
  replace hTO₃ : IsTrip h₃ TO x b c := hTO₃
  refine wpAny_bind (wpAny_letGo (wpAny_pure ?_))
  refine wpAny_bind (wpAny_bind (wpAny_onRaise ?_))
  show wpAny _ _ (Builtin.SmallTypes.nextOf (.ref i2) >>= _) _ _ _
  refine wpAny_bind (wpAny_nextOf_list_item (((h2.extBut hs₁.extBut (Ne.symm z2)).extBut hs₂.extBut (Ne.symm i12)).extBut hs₃.extBut (Ne.symm TO2))
    (((hl2.extBut hs₁.extBut (n2 z (by simp))).extBut hs₂.extBut (n2 i1 (by simp))).extBut hs₃.extBut (n2 TO (by simp))) hy fun h₄ h2₄ hs₄ => wpAny_pure ?_)
  have hTO₄ : IsTrip h₄ TO x b c := hs₄.extBut _ _ TO2 hTO₃
  refine wpAny_bind (wpAny_seqItems hTO₄ rfl ?_)
  refine wpAny_bind (updateSeq_trip hTO₄ fun h₅ hTO₅ hs₅ => ?_)
  replace hTO₅ : IsTrip h₅ TO x y c := hTO₅
  refine wpAny_bind (wpAny_letGo (wpAny_pure ?_))
  refine wpAny_bind (wpAny_bind (wpAny_onRaise ?_))
  show wpAny _ _ (Builtin.SmallTypes.nextOf (.ref i3) >>= _) _ _ _
  refine wpAny_bind (wpAny_nextOf_list_item (((((h3.extBut hs₁.extBut (Ne.symm z3)).extBut hs₂.extBut (Ne.symm i13)).extBut hs₃.extBut (Ne.symm TO3)).extBut hs₄.extBut (Ne.symm i23)).extBut hs₅.extBut (Ne.symm TO3))
    (((((hl3.extBut hs₁.extBut (n3 z (by simp))).extBut hs₂.extBut (n3 i1 (by simp))).extBut hs₃.extBut (n3 TO (by simp))).extBut hs₄.extBut (n3 i2 (by simp))).extBut hs₅.extBut (n3 TO (by simp))) hv fun h₆ h3₆ hs₆ => wpAny_pure ?_)
  have hTO₆ : IsTrip h₆ TO x y c := hs₆.extBut _ _ TO3 hTO₅
  refine wpAny_bind (wpAny_seqItems hTO₆ rfl ?_)
  refine wpAny_bind (updateSeq_trip hTO₆ fun h₇ hTO₇ hs₇ => ?_)
  replace hTO₇ : IsTrip h₇ TO x y v := hTO₇
  refine wpAny_bind (wpAny_letGo (wpAny_pure (wpAny_pure ?_)))
  refine wpAny_bind (wpAny_seqItems hTO₇ rfl ?_)
  refine wpAny_bind (wpAny_newTuple ?_)
  have up₇ : ∀ c o, c ∉ [z, TO, i1, i2, i3] → s.heap.get? c = some o → h₇.get? c = some o := fun c o hc e => by
    simp only [List.mem_cons, List.not_mem_nil, or_false, not_or] at hc
    obtain ⟨c1, c2, c3, c4, c5⟩ := hc
    exact hs₇.extBut _ _ c2 (hs₆.extBut _ _ c5 (hs₅.extBut _ _ c2 (hs₄.extBut _ _ c4 (hs₃.extBut _ _ c2 (hs₂.extBut _ _ c3 (hs₁.extBut _ _ c1 e))))))
  have hsz : h₇.objs.size = s.heap.objs.size := by rw [hs₇.1, hs₆.1, hs₅.1, hs₄.1, hs₃.1, hs₂.1, hs₁.1]
  have hz₇ : IsZipF h₇ z TI TO .ellipsis (.bool false) := hs₇.extBut _ _ zTO (hs₆.extBut _ _ z3 (hs₅.extBut _ _ zTO (hs₄.extBut _ _ z2 (hs₃.extBut _ _ zTO (hs₂.extBut _ _ z1 hz₁)))))
  have h1₇ : h₇.IsListIter i1 l1 (k + 1) := ((((h1₂.extBut hs₃.extBut (Ne.symm TO1)).extBut hs₄.extBut i12).extBut hs₅.extBut (Ne.symm TO1)).extBut hs₆.extBut i13).extBut hs₇.extBut (Ne.symm TO1)
  have h2₇ : h₇.IsListIter i2 l2 (k + 1) := ((h2₄.extBut hs₅.extBut (Ne.symm TO2)).extBut hs₆.extBut i23).extBut hs₇.extBut (Ne.symm TO2)
  have h3₇ : h₇.IsListIter i3 l3 (k + 1) := h3₆.extBut hs₇.extBut (Ne.symm TO3)
  have hzlt : z < h₇.objs.size := Heap.lt_size hz₇
  show wpAny _ _ (Builtin.SmallTypes.ownedTupleHandOut (.ref z) (.ref h₇.objs.size) >>= _) _ _ _
  refine wpAny_bind ?_
  unfold Builtin.SmallTypes.ownedTupleHandOut
  have hz₈ : IsZipF (h₇.push { cls := .type "tuple", data := .seq #[x, y, v] }) z TI TO .ellipsis (.bool false) := Heap.get?_push_of_some _ hz₇
  refine wpAny_bind (wpAny_setField_rec hz₈ (by simp) fun h₉ hz₉ hs₉ => ?_)
  replace hz₉ : IsZipF h₉ z TI TO (rawInt h₇.objs.size) (.bool false) := hz₉
  refine wpAny_setField_rec hz₉ (by simp) fun hA hzA hsA => ?_
  replace hzA : IsZipF hA z TI TO (rawInt h₇.objs.size) (.bool false) := hzA
  have up : ∀ c o, c ≠ z → h₇.get? c = some o → hA.get? c = some o := fun c o c1 e => hsA.extBut _ _ c1 (hs₉.extBut _ _ c1 (Heap.get?_push_of_some _ e))
  have hTA : IsTrip hA h₇.objs.size x y v := hsA.extBut _ _ (Nat.ne_of_gt hzlt) (hs₉.extBut _ _ (Nat.ne_of_gt hzlt) (Heap.get?_push_size _ rfl))
  have hzA' : hA.objs.size = h₇.objs.size + 1 := by rw [hsA.1, hs₉.1, Heap.size_push]
  rw [hsz] at hzA hTA hzA'
  refine wpAny_pure ⟨_, rfl, ?_⟩
  show Q (.ref h₇.objs.size) _
  rw [hsz]
  exact hQ hA hzA (up _ _ (Ne.symm zTO) hTO₇) (h1₇.at fun o e => up _ o (Ne.symm z1) e) (h2₇.at fun o e => up _ o (Ne.symm z2) e) (h3₇.at fun o e => up _ o (Ne.symm z3) e) hTA hzA' fun c o hc e => up c o (fun q => hc (by simp [q])) (up₇ c o hc e)

theorem zip_not_free {z TI TO T : Addr} {f1 : Value} {oT : Obj} {Q : Bool → Shared → Prop} (hf1 : f1 = .bool false ∨ f1 = .bool true) (hz : IsZipF s.heap z TI TO (rawInt T) f1) (hT : s.heap.get? T = some oT)
    (hQ : ∀ h', IsZipF h' z TI TO (rawInt T) (.bool true) → Heap.SameBut z s.heap h' → Q false { s with heap := h' }) : wpAny (model prog w) A (Builtin.SmallTypes.ownedTupleIsFree (.ref z)) Q E s := by
  unfold Builtin.SmallTypes.ownedTupleIsFree
  refine wpAny_bind (wpAny_field hz rfl (x := rawInt T) rfl ?_)
  show wpAny _ _ (loadIfAlive (Int.toNat T) >>= _) _ _ _
  refine wpAny_bind (wpAny_loadIfAlive ?_)
  rw [Int.toNat_natCast, hT]
  show wpAny _ _ (field (.ref z) 1 >>= _) _ _ _
  refine wpAny_bind (wpAny_field hz rfl (x := f1) rfl ?_)
  rcases hf1 with rfl | rfl
  · show wpAny _ _ (setField (.ref z) 1 (.bool true) >>= _) _ _ _
    exact wpAny_bind (wpAny_setField_rec hz (by simp) fun h₁ hz₁ hs₁ => wpAny_pure (hQ h₁ hz₁ hs₁))
  · exact wpAny_pure (hQ s.heap hz (Heap.SameBut.refl ..))
theorem zip3_new {z TI TO i1 i2 i3 l1 l2 l3 T : Addr} {k : Nat} {f1 : Value} {oT : Obj} {xs ys zs : Array Value} {x y v : Value} {Q : Value → Shared → Prop}
    (nd : [z, TI, TO, i1, i2, i3].Nodup) (hl : ∀ l ∈ [l1, l2, l3], ∀ j ∈ [z, TI, TO, i1, i2, i3], l ≠ j) (hf1 : f1 = .bool false ∨ f1 = .bool true)
    (hz : IsZipF s.heap z TI TO (rawInt T) f1) (hT : s.heap.get? T = some oT) (hTI : IsTrip s.heap TI (.ref i1) (.ref i2) (.ref i3))
    (h1 : s.heap.IsListIter i1 l1 k) (h2 : s.heap.IsListIter i2 l2 k) (h3 : s.heap.IsListIter i3 l3 k) (hl1 : s.heap.IsList l1 xs) (hl2 : s.heap.IsList l2 ys) (hl3 : s.heap.IsList l3 zs)
    (hx : xs[k]? = some x) (hy : ys[k]? = some y) (hv : zs[k]? = some v)
    (hQ : ∀ h', IsZipF h' z TI TO (rawInt T) (.bool true) → h'.IsListIter i1 l1 (k + 1) → h'.IsListIter i2 l2 (k + 1) → h'.IsListIter i3 l3 (k + 1) → IsTrip h' s.heap.objs.size x y v → h'.objs.size = s.heap.objs.size + 1 →
      (∀ c o, c ∉ [z, i1, i2, i3] → s.heap.get? c = some o → h'.get? c = some o) → Q (.ref s.heap.objs.size) { s with heap := h' }) :
    wpAny (model prog w) A (Builtin.«zip.__next__» ⟨[.ref z], []⟩) (fun fin s' => ∃ v, fin = .done (.ret v) ∧ Q v s') E s := by
  simp only [List.nodup_cons, List.mem_cons, List.not_mem_nil, or_false, not_or, not_false_eq_true, and_true, List.nodup_nil] at nd
  obtain ⟨⟨zTI, zTO, z1, z2, z3⟩, ⟨TITO, TI1, TI2, TI3⟩, ⟨TO1, TO2, TO3⟩, ⟨i12, i13⟩, i23⟩ := nd
  have n1 : ∀ j ∈ [z, TI, TO, i1, i2, i3], l1 ≠ j := hl l1 (by simp)
  have n2 : ∀ j ∈ [z, TI, TO, i1, i2, i3], l2 ≠ j := hl l2 (by simp)
  have n3 : ∀ j ∈ [z, TI, TO, i1, i2, i3], l3 ≠ j := hl l3 (by simp)
  show wpAny _ _ (field (.ref z) 2 >>= _) _ _ _
  refine wpAny_bind (wpAny_field hz rfl (x := .bool false) rfl ?_)
  show wpAny _ _ (field (.ref z) 3 >>= _) _ _ _
  refine wpAny_bind (wpAny_field hz rfl (x := .ref TI) rfl ?_)
  refine wpAny_bind (wpAny_seqItems hTI rfl ?_)
  show wpAny _ _ (Builtin.SmallTypes.ownedTupleIsFree (.ref z) >>= _) _ _ _
  refine wpAny_bind (zip_not_free hf1 hz hT fun h₁ hz₁ hs₁ => ?_)
  simp only [Bool.false_eq_true, if_false]
  refine wpAny_bind ?_
  simp only [List.forIn_toArray, List.forIn_cons, List.forIn_nil]
  refine wpAny_bind (wpAny_bind (wpAny_holding ?_))
  show wpAny _ _ (Builtin.SmallTypes.nextOf (.ref i1) >>= _) _ _ _
  refine wpAny_bind (wpAny_nextOf_list_item (h1.extBut hs₁.extBut (Ne.symm z1)) (hl1.extBut hs₁.extBut (n1 z (by simp))) hx fun h₂ h1₂ hs₂ => wpAny_pure (wpAny_pure ?_))
  refine wpAny_bind (wpAny_bind (wpAny_holding ?_))
  show wpAny _ _ (Builtin.SmallTypes.nextOf (.ref i2) >>= _) _ _ _
  refine wpAny_bind (wpAny_nextOf_list_item ((h2.extBut hs₁.extBut (Ne.symm z2)).extBut hs₂.extBut (Ne.symm i12)) ((hl2.extBut hs₁.extBut (n2 z (by simp))).extBut hs₂.extBut (n2 i1 (by simp))) hy fun h₃ h2₃ hs₃ => wpAny_pure (wpAny_pure ?_))
  refine wpAny_bind (wpAny_bind (wpAny_holding ?_))
  show wpAny _ _ (Builtin.SmallTypes.nextOf (.ref i3) >>= _) _ _ _
  refine wpAny_bind (wpAny_nextOf_list_item (((h3.extBut hs₁.extBut (Ne.symm z3)).extBut hs₂.extBut (Ne.symm i13)).extBut hs₃.extBut (Ne.symm i23)) (((hl3.extBut hs₁.extBut (n3 z (by simp))).extBut hs₂.extBut (n3 i1 (by simp))).extBut hs₃.extBut (n3 i2 (by simp))) hv fun h₄ h3₄ hs₄ => wpAny_pure (wpAny_pure (wpAny_pure ?_)))
  show wpAny _ _ (newTuple [x, y, v] >>= _) _ _ _
  refine wpAny_bind (wpAny_newTuple ?_)
  refine wpAny_pure ⟨_, rfl, ?_⟩
  have hsz : h₄.objs.size = s.heap.objs.size := by rw [hs₄.1, hs₃.1, hs₂.1, hs₁.1]
  show Q (.ref h₄.objs.size) { s with heap := h₄.push { cls := .type "tuple", data := .seq #[x, y, v] } }
  have up : ∀ c o, c ∉ [z, i1, i2, i3] → s.heap.get? c = some o → h₄.get? c = some o := fun c o hc e => by
    simp only [List.mem_cons, List.not_mem_nil, or_false, not_or] at hc
    obtain ⟨c1, c2, c3, c4⟩ := hc
    exact hs₄.extBut _ _ c4 (hs₃.extBut _ _ c3 (hs₂.extBut _ _ c2 (hs₁.extBut _ _ c1 e)))
  rw [hsz]
  refine hQ _ (Heap.get?_push_of_some _ (hs₄.extBut _ _ z3 (hs₃.extBut _ _ z2 (hs₂.extBut _ _ z1 hz₁)))) (((h1₂.extBut hs₃.extBut i12).extBut hs₄.extBut i13).at fun o e => Heap.get?_push_of_some _ e) ((h2₃.extBut hs₄.extBut i23).at fun o e => Heap.get?_push_of_some _ e)
    (h3₄.at fun o e => Heap.get?_push_of_some _ e) ?_ (by rw [Heap.size_push, hsz]) fun c o hc e => Heap.get?_push_of_some _ (up c o hc e)
  rw [← hsz]
  exact Heap.get?_push_size _ rfl
theorem zip3_end {z TI TO i1 i2 i3 l1 l2 l3 T : Addr} {k : Nat} {f1 : Value} {oT : Obj} {xs : Array Value} {Q : Fin → Shared → Prop} (hh : A.handled = none)
    (nd : [z, TI, TO, i1, i2, i3].Nodup) (hl : ∀ l ∈ [l1, l2, l3], ∀ j ∈ [z, TI, TO, i1, i2, i3], l ≠ j) (hf1 : f1 = .bool false ∨ f1 = .bool true)
    (hz : IsZipF s.heap z TI TO (rawInt T) f1) (hT : s.heap.get? T = some oT) (hTI : IsTrip s.heap TI (.ref i1) (.ref i2) (.ref i3))
    (h1 : s.heap.IsListIter i1 l1 k) (hl1 : s.heap.IsList l1 xs) (hx : xs[k]? = none)
    (hE : ∀ h' e, (∀ c o, c ∉ [z, i1] → s.heap.get? c = some o → h'.get? c = some o) → (∃ o, h'.get? e = some o ∧ o.cls = .type "StopIteration") → E (.ref e) { s with heap := h' }) :
    wpAny (model prog w) A (Builtin.«zip.__next__» ⟨[.ref z], []⟩) Q E s := by
  simp only [List.nodup_cons, List.mem_cons, List.not_mem_nil, or_false, not_or, not_false_eq_true, and_true, List.nodup_nil] at nd
  obtain ⟨⟨zTI, zTO, z1, z2, z3⟩, ⟨TITO, TI1, TI2, TI3⟩, ⟨TO1, TO2, TO3⟩, ⟨i12, i13⟩, i23⟩ := nd
  have n1 : ∀ j ∈ [z, TI, TO, i1, i2, i3], l1 ≠ j := hl l1 (by simp)
  show wpAny _ _ (field (.ref z) 2 >>= _) _ _ _
  refine wpAny_bind (wpAny_field hz rfl (x := .bool false) rfl ?_)
  show wpAny _ _ (field (.ref z) 3 >>= _) _ _ _
  refine wpAny_bind (wpAny_field hz rfl (x := .ref TI) rfl ?_)
  refine wpAny_bind (wpAny_seqItems hTI rfl ?_)
  show wpAny _ _ (Builtin.SmallTypes.ownedTupleIsFree (.ref z) >>= _) _ _ _
  refine wpAny_bind (zip_not_free hf1 hz hT fun h₁ hz₁ hs₁ => ?_)
  simp only [Bool.false_eq_true, if_false]
  refine wpAny_bind ?_
  simp only [List.forIn_toArray, List.forIn_cons, List.forIn_nil]
  refine wpAny_bind (wpAny_bind (wpAny_holding ?_))
  show wpAny _ _ (Builtin.SmallTypes.nextOf (.ref i1) >>= _) _ _ _
  refine wpAny_bind (wpAny_nextOf_list_end hh (h1.extBut hs₁.extBut (Ne.symm z1)) (hl1.extBut hs₁.extBut (n1 z (by simp))) hx fun h₂ e hs₂ he => ?_)
  refine hE h₂ e (fun c o hc x => ?_) he
  simp only [List.mem_cons, List.not_mem_nil, or_false, not_or] at hc
  exact hs₂ _ _ hc.2 (hs₁.extBut _ _ hc.1 x)

end
/-! ### zip of three lists, walked into a list -/
structure Z3 (h : Heap) (z TI TO i1 i2 i3 l1 l2 l3 : Addr) (xs ys zs : Array Value) (S : Addr) (i : Nat) : Prop where
  zrec : ∃ (f0 f1 : Value), IsZipF h z TI TO f0 f1 ∧ (f1 = .bool false ∨ f1 = .bool true) ∧ ((i = 0 ∧ f0 = .none ∧ f1 = .bool false) ∨ (0 < i ∧ ∃ (T : Addr) (oT : Obj), f0 = rawInt T ∧ h.get? T = some oT ∧ T ∉ [S, z, TO, i1, i2, i3]))
  ti : IsTrip h TI (.ref i1) (.ref i2) (.ref i3)
  to : ∃ a b c, IsTrip h TO a b c
  h1 : h.IsListIter i1 l1 i
  h2 : h.IsListIter i2 l2 i
  h3 : h.IsListIter i3 l3 i
  l1 : h.IsList l1 xs
  l2 : h.IsList l2 ys
  l3 : h.IsList l3 zs
/-- what the new list holds: triples, each at an address from n on -/
def Trips (h : Heap) (n : Addr) (xs ys zs : Array Value) (acc : List Value) : Prop :=
  ∀ (j : Nat) (v : Value), acc[j]? = some v → ∃ (T : Addr) (x y u : Value), v = Value.ref T ∧ n ≤ T ∧ IsTrip h T x y u ∧ xs[j]? = some x ∧ ys[j]? = some y ∧ zs[j]? = some u
section
variable {prog : Program} {w : World} {A : Around} {E : Value → Shared → Prop} {s : Shared}
theorem pyNext_zip3_item {z TI TO i1 i2 i3 l1 l2 l3 S : Addr} {i : Nat} {xs ys zs : Array Value} {x y v : Value} {Q : Option Value → Shared → Prop}
    (nd : [z, TI, TO, i1, i2, i3].Nodup) (hl : ∀ l ∈ [l1, l2, l3], ∀ j ∈ [z, TI, TO, i1, i2, i3], l ≠ j) (st : Z3 s.heap z TI TO i1 i2 i3 l1 l2 l3 xs ys zs S i) (hS : S < s.heap.objs.size)
    (hx : xs[i]? = some x) (hy : ys[i]? = some y) (hv : zs[i]? = some v)
    (hQ : ∀ h', Z3 h' z TI TO i1 i2 i3 l1 l2 l3 xs ys zs S (i + 1) → IsTrip h' s.heap.objs.size x y v → h'.objs.size = s.heap.objs.size + 1 → (∀ c o, c ∉ [z, TO, i1, i2, i3] → s.heap.get? c = some o → h'.get? c = some o) → Q (some (.ref s.heap.objs.size)) { s with heap := h' }) :
    wpAny (model prog w) A (pyNext (.ref z)) Q E s := by
  obtain ⟨⟨f0, f1, hz, hf1, hf⟩, ti, ⟨a, b, c, to⟩, h1, h2, h3, hl1, hl2, hl3⟩ := st
  have hT : s.TypeIs (.ref z) "zip" := ⟨_, hz, rfl⟩
  have lt : ∀ {c o}, s.heap.get? c = some o → s.heap.objs.size ≠ c := fun e => Nat.ne_of_gt (Heap.lt_size e)
  have new : s.heap.objs.size ∉ [S, z, TO, i1, i2, i3] := by
    simp only [List.mem_cons, List.not_mem_nil, or_false, not_or]
    exact ⟨Nat.ne_of_gt hS, lt hz, lt to, (by obtain ⟨_, e, _⟩ := h1; exact lt e), (by obtain ⟨_, e, _⟩ := h2; exact lt e), (by obtain ⟨_, e, _⟩ := h3; exact lt e)⟩
  have sub : ∀ l ∈ [l1, l2, l3], l ∉ [z, TO, i1, i2, i3] := fun l hm z' => by
    simp only [List.mem_cons, List.not_mem_nil, or_false] at z'
    rcases z' with q | q | q | q | q <;> exact hl l hm _ (by simp) q
  have tiN : TI ∉ [z, TO, i1, i2, i3] := by
    simp only [List.nodup_cons, List.mem_cons, List.not_mem_nil, or_false, not_or, not_false_eq_true, and_true, List.nodup_nil] at nd
    obtain ⟨⟨zTI, zTO, z1, z2, z3⟩, ⟨TITO, TI1, TI2, TI3⟩, _⟩ := nd
    simp only [List.mem_cons, List.not_mem_nil, or_false, not_or]
    exact ⟨Ne.symm zTI, TITO, TI1, TI2, TI3⟩
  unfold pyNext
  refine wpAny_bind (wpAny_attempt (wpAny_callSpecial?_slot (name := Str.ofString "__next__") hT F.slot_zip_next (wpAny_call_entry F.slot_zip_next hT F.entry_zip_next ?_ (F.args_zip_next_1 _))))
  rcases hf with ⟨hi, rfl, rfl⟩ | ⟨hi, T, oT, rfl, eT, nT⟩
  · refine zip3_owned nd hl hz ti to h1 h2 h3 hl1 hl2 hl3 hx hy hv fun h' a1 a2 a3 a4 a5 a6 a7 a8 => wpAny_pure ?_
    exact hQ h' ⟨⟨_, _, a1, .inl rfl, .inr ⟨Nat.succ_pos _, _, _, rfl, a6, new⟩⟩, a8 _ _ tiN ti, ⟨_, _, _, a2⟩, a3, a4, a5, hl1.at fun o e => a8 _ o (sub l1 (by simp)) e, hl2.at fun o e => a8 _ o (sub l2 (by simp)) e, hl3.at fun o e => a8 _ o (sub l3 (by simp)) e⟩ a6 a7 a8
  · refine zip3_new nd hl hf1 hz eT ti h1 h2 h3 hl1 hl2 hl3 hx hy hv fun h' a1 a3 a4 a5 a6 a7 a8 => wpAny_pure ?_
    have a8' : ∀ c o, c ∉ [z, TO, i1, i2, i3] → s.heap.get? c = some o → h'.get? c = some o := fun c o hc e => a8 c o (fun q => hc (by simp only [List.mem_cons, List.not_mem_nil, or_false] at q ⊢; rcases q with q | q | q | q <;> simp [q])) e
    have TO4 : TO ∉ [z, i1, i2, i3] := by
      simp only [List.nodup_cons, List.mem_cons, List.not_mem_nil, or_false, not_or, not_false_eq_true, and_true, List.nodup_nil] at nd
      obtain ⟨⟨zTI, zTO, z1, z2, z3⟩, ⟨TITO, TI1, TI2, TI3⟩, ⟨TO1, TO2, TO3⟩, _⟩ := nd
      simp only [List.mem_cons, List.not_mem_nil, or_false, not_or]
      exact ⟨Ne.symm zTO, TO1, TO2, TO3⟩
    refine hQ h' ⟨⟨_, _, a1, .inr rfl, .inr ⟨Nat.succ_pos _, _, _, rfl, a8' T oT (fun q => nT (List.mem_cons_of_mem _ q)) eT, nT⟩⟩, a8' _ _ tiN ti, ⟨a, b, c, a8 _ _ TO4 to⟩, a3, a4, a5, hl1.at fun o e => a8' _ o (sub l1 (by simp)) e, hl2.at fun o e => a8' _ o (sub l2 (by simp)) e, hl3.at fun o e => a8' _ o (sub l3 (by simp)) e⟩ a6 a7 a8'
theorem pyNext_zip3_end {z TI TO i1 i2 i3 l1 l2 l3 S : Addr} {i : Nat} {xs ys zs : Array Value} {Q : Option Value → Shared → Prop} (hh : A.handled = none)
    (nd : [z, TI, TO, i1, i2, i3].Nodup) (hl : ∀ l ∈ [l1, l2, l3], ∀ j ∈ [z, TI, TO, i1, i2, i3], l ≠ j) (st : Z3 s.heap z TI TO i1 i2 i3 l1 l2 l3 xs ys zs S i) (hi : 0 < i) (hx : xs[i]? = none)
    (hQ : ∀ h', (∀ c o, c ∉ [z, i1] → s.heap.get? c = some o → h'.get? c = some o) → Q none { s with heap := h' }) :
    wpAny (model prog w) A (pyNext (.ref z)) Q E s := by
  obtain ⟨⟨f0, f1, hz, hf1, hf⟩, ti, ⟨a, b, c, to⟩, h1, h2, h3, hl1, hl2, hl3⟩ := st
  have hT : s.TypeIs (.ref z) "zip" := ⟨_, hz, rfl⟩
  rcases hf with ⟨hi0, _⟩ | ⟨_, T, oT, rfl, eT, nT⟩
  · omega
  · unfold pyNext
    refine wpAny_bind (wpAny_attempt (wpAny_callSpecial?_slot (name := Str.ofString "__next__") hT F.slot_zip_next
      (wpAny_call_entry F.slot_zip_next hT F.entry_zip_next (zip3_end hh nd hl hf1 hz eT ti h1 hl1 hx fun h' e hk he => ?_) (F.args_zip_next_1 _))))
    obtain ⟨o, ho, hc⟩ := he
    refine wpAny_bind (wpAny_isInstance (T := "StopIteration") (b := true) ⟨o, ho, hc⟩ isSubtype_stop ?_)
    exact wpAny_pure (hQ _ hk)
end
section
variable {prog : Program} {w : World} {A : Around} {R : Result → Shared → Prop}
theorem Z3.keep {h h' : Heap} {z TI TO i1 i2 i3 l1 l2 l3 S : Addr} {xs ys zs : Array Value} {i : Nat} (st : Z3 h z TI TO i1 i2 i3 l1 l2 l3 xs ys zs S i) (hS : S ∉ [z, TI, TO, i1, i2, i3, l1, l2, l3]) (k : ∀ b o, b ≠ S → h.get? b = some o → h'.get? b = some o) :
    Z3 h' z TI TO i1 i2 i3 l1 l2 l3 xs ys zs S i := by
  simp only [List.mem_cons, List.not_mem_nil, or_false, not_or] at hS
  obtain ⟨n1, n2, n3, n4, n5, n6, n7, n8, n9⟩ := hS
  obtain ⟨⟨f0, f1, hz, hf1, hf⟩, ti, ⟨a, b, c, to⟩, h1, h2, h3, hl1, hl2, hl3⟩ := st
  refine ⟨⟨f0, f1, k _ _ (Ne.symm n1) hz, hf1, ?_⟩, k _ _ (Ne.symm n2) ti, ⟨a, b, c, k _ _ (Ne.symm n3) to⟩, h1.at fun o e => k _ o (Ne.symm n4) e, h2.at fun o e => k _ o (Ne.symm n5) e, h3.at fun o e => k _ o (Ne.symm n6) e, hl1.at fun o e => k _ o (Ne.symm n7) e, hl2.at fun o e => k _ o (Ne.symm n8) e, hl3.at fun o e => k _ o (Ne.symm n9) e⟩
  rcases hf with hf | ⟨hi, T, oT, e, eT, nT⟩
  · exact .inl hf
  · exact .inr ⟨hi, T, oT, e, k _ _ (fun q => nT (by simp [q])) eT, nT⟩
abbrev cntOf (a : Array Value) (v : Value) (c : Nat) : Nat := if (a.push v).size == a.size then c else c + 1
theorem extend_zip3 {z TI TO i1 i2 i3 l1 l2 l3 S n₀ : Addr} {xs ys zs : Array Value} (hh : A.handled = none)
    (nd : [z, TI, TO, i1, i2, i3].Nodup) (hl : ∀ l ∈ [l1, l2, l3], ∀ j ∈ [z, TI, TO, i1, i2, i3], l ≠ j) (hS : S ∉ [z, TI, TO, i1, i2, i3, l1, l2, l3]) (hb : ∀ j ∈ [S, z, TI, TO, i1, i2, i3], j < n₀)
    (e2 : ys.size = xs.size) (e3 : zs.size = xs.size) (hpos : 0 < xs.size) (hn : xs.size ≤ sizeLine) (res : Value) :
    ∀ (k i : Nat) (s : Shared) (acc : List Value) (c : Nat), xs.size - i = k → i ≤ xs.size → Z3 s.heap z TI TO i1 i2 i3 l1 l2 l3 xs ys zs S i → n₀ ≤ s.heap.objs.size → s.heap.get? S = some { cls := .type "list", dict := none, data := .seq acc.toArray c, slots := #[] } → acc.length = i → Trips s.heap n₀ xs ys zs acc →
    (∀ h' acc' c', (∀ b o, b ∉ [S, z, TO, i1, i2, i3] → s.heap.get? b = some o → h'.get? b = some o) → h'.get? S = some { cls := .type "list", dict := none, data := .seq acc'.toArray c', slots := #[] } → acc'.length = xs.size → Trips h' n₀ xs ys zs acc' → R (.ok (.ret res)) { s with heap := h' }) →
    codeAny (model prog w) A (.builtin "list.extend.loop" ⟨[.ref S, .ref z, res], []⟩) R s := by
  intro k
  induction k with
  | zero =>
    intro i s acc c hk hi st hsz hSo hlen tr hR
    have hin : i = xs.size := by omega
    refine codeAny_builtin F.entry_extend_loop ?_
    rw [Around.under_plainId F.plain_extend_loop _]
    show wpAny _ A.in1 (pyNext (.ref z) >>= _) _ _ s
    have nS : S ∉ [z, i1] := fun q => hS (by simp only [List.mem_cons, List.not_mem_nil, or_false] at q ⊢; rcases q with q | q <;> simp [q])
    refine wpAny_bind (pyNext_zip3_end hh nd hl st (by omega) (by rw [hin]; exact Array.getElem?_eq_none (Nat.le_refl _)) fun h' hk' => ?_)
    refine wpAny_pure (hR h' acc c (fun b o hb e => hk' b o (fun q => hb (by simp only [List.mem_cons, List.not_mem_nil, or_false] at q ⊢; rcases q with q | q <;> simp [q])) e) (hk' S _ nS hSo) (hlen.trans hin) fun j v hj => ?_)
    obtain ⟨T, x, y, u, e, hT, t, q⟩ := tr j v hj
    refine ⟨T, x, y, u, e, hT, hk' T _ (fun m => ?_) t, q⟩
    simp only [List.mem_cons, List.not_mem_nil, or_false] at m
    rcases m with m | m
    · exact absurd (hb z (by simp)) (by rw [← m]; exact Nat.not_lt.mpr hT)
    · exact absurd (hb i1 (by simp)) (by rw [← m]; exact Nat.not_lt.mpr hT)
  | succ k ih =>
    intro i s acc c hk hi st hsz hSo hlen tr hR
    have hlt : i < xs.size := by omega
    refine codeAny_builtin F.entry_extend_loop ?_
    rw [Around.under_plainId F.plain_extend_loop _]
    show wpAny _ A.in1 (pyNext (.ref z) >>= _) _ _ s
    refine wpAny_bind (pyNext_zip3_item nd hl st (Heap.lt_size hSo) (x := xs[i]) (y := ys[i]) (v := zs[i]) (Array.getElem?_eq_getElem hlt) (Array.getElem?_eq_getElem (by omega)) (Array.getElem?_eq_getElem (by omega)) fun h' st' hT' hsz' hk' => ?_)
    have nS : S ∉ [z, TO, i1, i2, i3] := fun q => hS (by simp only [List.mem_cons, List.not_mem_nil, or_false] at q ⊢; rcases q with q | q | q | q | q <;> simp [q])
    have hS' := hk' S _ nS hSo
    have ha : acc.toArray.size = i := by rw [List.size_toArray]; exact hlen
    show wpAny _ A.in1 (updateSeq S (·.push (.ref s.heap.objs.size)) >>= _) _ _ _
    refine wpAny_bind ?_
    have old : ∀ b o, b ≠ S → h'.get? b = some o → (h'.update S (Obj.mapSeq (·.push (.ref s.heap.objs.size)))).get? b = some o := fun b o hb e => (Heap.get?_update_other _ _ (Ne.symm hb)).trans e
    have big : ∀ T, n₀ ≤ T → T ∉ [S, z, TO, i1, i2, i3] := fun T hT m => by
      simp only [List.mem_cons, List.not_mem_nil, or_false] at m
      rcases m with m | m | m | m | m | m <;> exact absurd (hb T (by rw [m]; simp)) (Nat.not_lt.mpr hT)
    refine wpAny_updateSeq hS' rfl (wpAny_pure ⟨plainId_quiet F.plain_extend_loop _, ih (i + 1) _ (acc ++ [.ref s.heap.objs.size]) (cntOf acc.toArray (.ref s.heap.objs.size) c) (by omega) hlt (st'.keep hS old) ?_ ?_ (by rw [List.length_append, hlen]; rfl) ?_ fun h'' acc' c' hk'' hS'' hl' tr'' => ?_⟩)
      (by rw [ha]; omega) (by show (acc.toArray.push _).size ≤ sizeLine + 1; rw [Array.size_push, ha]; omega)
    · show n₀ ≤ (h'.update S (Obj.mapSeq (·.push (.ref s.heap.objs.size)))).objs.size
      rw [show (h'.update S (Obj.mapSeq (·.push (Value.ref s.heap.objs.size)))).objs.size = h'.objs.size from (Heap.SameBut.update ..).1, hsz']
      exact Nat.le_succ_of_le hsz
    · have q := Heap.get?_update_self (Obj.mapSeq (·.push (Value.ref s.heap.objs.size))) hS' rfl
      have e : acc.toArray.push (Value.ref s.heap.objs.size) = (acc ++ [Value.ref s.heap.objs.size]).toArray := by simp
      have q' : (h'.update S (Obj.mapSeq (·.push (Value.ref s.heap.objs.size)))).get? S = some { cls := .type "list", dict := none, data := .seq (acc.toArray.push (Value.ref s.heap.objs.size)) (cntOf acc.toArray (Value.ref s.heap.objs.size) c), slots := #[] } := q
      rw [e] at q'
      exact q'
    · intro j v hj
      by_cases hji : j < acc.length
      · rw [List.getElem?_append_left hji] at hj
        obtain ⟨T, x, y, u, e, hT, t, q⟩ := tr j v hj
        have nb := big T hT
        exact ⟨T, x, y, u, e, hT, old T _ (fun z' => nb (by simp [z'])) (hk' T _ (fun z' => nb (List.mem_cons_of_mem _ z')) t), q⟩
      · have hj' : j = acc.length := by
          have := (List.getElem?_eq_some_iff.mp hj).1
          rw [List.length_append, List.length_singleton] at this
          omega
        subst hj'
        rw [List.getElem?_append_right (Nat.le_refl _), Nat.sub_self] at hj
        cases hj
        have nb := big s.heap.objs.size hsz
        refine ⟨s.heap.objs.size, xs[i], ys[i], zs[i], rfl, hsz, old _ _ (fun z' => nb (by simp [z'])) hT', ?_, ?_, ?_⟩ <;> (rw [hlen]; exact Array.getElem?_eq_getElem (by omega))
    · refine hR h'' acc' c' (fun b o hb' e => hk'' b o hb' (old b o (fun z' => hb' (by simp [z'])) (hk' b o (fun z' => hb' (List.mem_cons_of_mem _ z')) e))) hS'' hl' tr''
end

namespace F3
theorem zip_no_len : typeLookup (.type "zip") "__len__" = pure none := by rw [typeLookup_type, builtinLookup_eq_fast]; kernel_rfl
theorem zip_no_hint : typeLookup (.type "zip") "__length_hint__" = pure none := by rw [typeLookup_type, builtinLookup_eq_fast]; kernel_rfl
theorem typeCall_zip_3 (a b c : Value) : checkTypeCall "zip" ⟨[a, b, c], []⟩ = pure () := by kernel_rfl
theorem newCall_zip_3 (a b c : Value) : checkBuiltinCall "zip.__new__" ⟨[.type "zip", a, b, c], []⟩ = pure () := by kernel_rfl
theorem args_object_init_4 (a b c d : Value) : argsOk "object.__init__" ⟨[a, b, c, d], []⟩ := by
  unfold argsOk; rw [signature?_of (id := "object.__init__") (n := ['_', '_', 't', 'i', 'n', 'i', '_', '_']) (o := ['t', 'c', 'e', 'j', 'b', 'o']) (by kernel_rfl) F.owner_object]; kernel_rfl
end F3
abbrev zA (h : Heap) (l1 : Addr) : Heap := h.push { cls := .type "list_iterator", data := .fields #[.ref l1, .int 0 0] }
abbrev zB (h : Heap) (l1 l2 : Addr) : Heap := (zA h l1).push { cls := .type "list_iterator", data := .fields #[.ref l2, .int 0 0] }
abbrev zC (h : Heap) (l1 l2 l3 : Addr) : Heap := (zB h l1 l2).push { cls := .type "list_iterator", data := .fields #[.ref l3, .int 0 0] }
abbrev zD (h : Heap) (l1 l2 l3 : Addr) : Heap := (zC h l1 l2 l3).push { cls := .type "tuple", data := .seq #[.ref h.objs.size, .ref (zA h l1).objs.size, .ref (zB h l1 l2).objs.size] }
abbrev zE (h : Heap) (l1 l2 l3 : Addr) : Heap := (zD h l1 l2 l3).push { cls := .type "tuple", data := .seq #[.none, .none, .none] }
abbrev zF (h : Heap) (l1 l2 l3 : Addr) : Heap := (zE h l1 l2 l3).push { cls := .type "zip", data := .fields #[.none, .bool false, .bool false, .ref (zC h l1 l2 l3).objs.size, .ref (zD h l1 l2 l3).objs.size] }
theorem meets_zip_new3 (l1 l2 l3 : Addr) (xs ys zs : Array Value) :
    Meets (Builtin.«zip.__new__» ⟨[.type "zip", .ref l1, .ref l2, .ref l3], []⟩) (fun _ R s => s.heap.IsList l1 xs ∧ s.heap.IsList l2 ys ∧ s.heap.IsList l3 zs ∧
      R (.ok (.ret (.ref (zE s.heap l1 l2 l3).objs.size))) { s with heap := zF s.heap l1 l2 l3 }) :=
  .of_wp fun prog w A R s h => by
    obtain ⟨hp, g, d, tk, os⟩ := s; obtain ⟨hl1, hl2, hl3, h⟩ := h
    have hsub := sub_zip
    have hL1 : Heap.IsList (Shared.heap ⟨hp, g, d, tk, os⟩) l1 xs := hl1
    have hL2 : Heap.IsList (Shared.heap ⟨hp.push { cls := .type "list_iterator", data := .fields #[.ref l1, .int 0 0] }, g, d, tk, os⟩) l2 ys := Heap.IsList.push hl2 _
    have hL3 : Heap.IsList (Shared.heap ⟨(hp.push { cls := .type "list_iterator", data := .fields #[.ref l1, .int 0 0] }).push { cls := .type "list_iterator", data := .fields #[.ref l2, .int 0 0] }, g, d, tk, os⟩) l3 zs := Heap.IsList.push (Heap.IsList.push hl3 _) _
    wp_walk using wpAny_pyIter_list hL1, wpAny_pyIter_list hL2, wpAny_pyIter_list hL3
    exact ⟨_, rfl, h⟩
section
variable {prog : Program} {w : World} {A : Around} {E : Value → Shared → Prop} {s : Shared}
theorem call_zip_3 {l1 l2 l3 : Addr} {xs ys zs : Array Value} {Q : Value → Shared → Prop} (hl1 : s.heap.IsList l1 xs) (hl2 : s.heap.IsList l2 ys) (hl3 : s.heap.IsList l3 zs)
    (h : ∀ h', IsZipF h' (s.heap.objs.size + 5) (s.heap.objs.size + 3) (s.heap.objs.size + 4) .none (.bool false) → IsTrip h' (s.heap.objs.size + 3) (.ref s.heap.objs.size) (.ref (s.heap.objs.size + 1)) (.ref (s.heap.objs.size + 2)) →
      IsTrip h' (s.heap.objs.size + 4) .none .none .none → h'.IsListIter s.heap.objs.size l1 0 → h'.IsListIter (s.heap.objs.size + 1) l2 0 → h'.IsListIter (s.heap.objs.size + 2) l3 0 → h'.objs.size = s.heap.objs.size + 6 →
      (∀ c o, s.heap.get? c = some o → h'.get? c = some o) → Q (.ref (s.heap.objs.size + 5)) { s with heap := h' }) :
    wpAny (model prog w) A (call (.type "zip") [.ref l1, .ref l2, .ref l3]) Q E s := by
  refine callType_new F.called_zip (by decide) (F3.typeCall_zip_3 _ _ _) (F3.newCall_zip_3 _ _ _) (fun obj => F3.args_object_init_4 obj _ _ _) F.entry_zip_new
    (meets_zip_new3 l1 l2 l3 xs ys zs) ⟨hl1, hl2, hl3, ?_⟩
  have z1 : (zA s.heap l1).objs.size = s.heap.objs.size + 1 := Heap.size_push ..
  have z2 : (zB s.heap l1 l2).objs.size = s.heap.objs.size + 2 := by rw [Heap.size_push, z1]
  have z3 : (zC s.heap l1 l2 l3).objs.size = s.heap.objs.size + 3 := by rw [Heap.size_push, z2]
  have z4 : (zD s.heap l1 l2 l3).objs.size = s.heap.objs.size + 4 := by rw [Heap.size_push, z3]
  have z5 : (zE s.heap l1 l2 l3).objs.size = s.heap.objs.size + 5 := by rw [Heap.size_push, z4]
  have z6 : (zF s.heap l1 l2 l3).objs.size = s.heap.objs.size + 6 := by rw [Heap.size_push, z5]
  have g6 : (zF s.heap l1 l2 l3).get? (zE s.heap l1 l2 l3).objs.size = some _ := Heap.get?_push_size _ rfl
  have g5 : (zF s.heap l1 l2 l3).get? (zD s.heap l1 l2 l3).objs.size = some _ := Heap.get?_push_of_some _ (Heap.get?_push_size _ rfl)
  have g4 : (zF s.heap l1 l2 l3).get? (zC s.heap l1 l2 l3).objs.size = some _ := Heap.get?_push_of_some _ (Heap.get?_push_of_some _ (Heap.get?_push_size _ rfl))
  have g3 : (zF s.heap l1 l2 l3).get? (zB s.heap l1 l2).objs.size = some _ := Heap.get?_push_of_some _ (Heap.get?_push_of_some _ (Heap.get?_push_of_some _ (Heap.get?_push_size _ rfl)))
  have g2 : (zF s.heap l1 l2 l3).get? (zA s.heap l1).objs.size = some _ := Heap.get?_push_of_some _ (Heap.get?_push_of_some _ (Heap.get?_push_of_some _ (Heap.get?_push_of_some _ (Heap.get?_push_size _ rfl))))
  have g1 : (zF s.heap l1 l2 l3).get? s.heap.objs.size = some _ := Heap.get?_push_of_some _ (Heap.get?_push_of_some _ (Heap.get?_push_of_some _ (Heap.get?_push_of_some _ (Heap.get?_push_of_some _ (Heap.get?_push_size _ rfl)))))
  show _ ∧ _
  rw [z3, z4, z5] at g6
  rw [z1, z2, z3] at g4
  rw [z4] at g5
  rw [z2] at g3
  rw [z1] at g2
  rw [z5]
  exact ⟨⟨_, g6, rfl⟩, h _ g6 g4 g5 ⟨_, g1, rfl, rfl⟩ ⟨_, g2, rfl, rfl⟩ ⟨_, g3, rfl, rfl⟩ z6 fun c o x =>
    Heap.get?_push_of_some _ (Heap.get?_push_of_some _ (Heap.get?_push_of_some _ (Heap.get?_push_of_some _ (Heap.get?_push_of_some _ (Heap.get?_push_of_some _ x)))))⟩
/-- list(z), z a zip of three lists of one length, not walked yet -/
theorem call_list_zip3 {z TI TO i1 i2 i3 l1 l2 l3 : Addr} {xs ys zs : Array Value} {Q : Value → Shared → Prop} (hh : A.handled = none)
    (nd : [z, TI, TO, i1, i2, i3].Nodup) (hl : ∀ l ∈ [l1, l2, l3], ∀ j ∈ [z, TI, TO, i1, i2, i3], l ≠ j) (hlt : ∀ j ∈ [z, TI, TO, i1, i2, i3, l1, l2, l3], j < s.heap.objs.size)
    (hz : IsZipF s.heap z TI TO .none (.bool false)) (ti : IsTrip s.heap TI (.ref i1) (.ref i2) (.ref i3)) (to : IsTrip s.heap TO .none .none .none)
    (h1 : s.heap.IsListIter i1 l1 0) (h2 : s.heap.IsListIter i2 l2 0) (h3 : s.heap.IsListIter i3 l3 0) (hl1 : s.heap.IsList l1 xs) (hl2 : s.heap.IsList l2 ys) (hl3 : s.heap.IsList l3 zs)
    (e2 : ys.size = xs.size) (e3 : zs.size = xs.size) (hpos : 0 < xs.size) (hn : xs.size ≤ sizeLine)
    (hQ : ∀ h' acc c, (∀ b o, b ∉ [z, TO, i1, i2, i3] → s.heap.get? b = some o → h'.get? b = some o) → h'.get? s.heap.objs.size = some { cls := .type "list", dict := none, data := .seq acc.toArray c, slots := #[] } → acc.length = xs.size → Trips h' (s.heap.objs.size + 1) xs ys zs acc →
      Q (.ref s.heap.objs.size) { s with heap := h' }) : wpAny (model prog w) A (call (.type "list") [.ref z]) Q E s := by
  have hSf : s.heap.objs.size ∉ [z, TI, TO, i1, i2, i3, l1, l2, l3] := fun hm => Nat.lt_irrefl _ (hlt _ hm)
  have hSI : s.heap.objs.size ≠ z := fun e => hSf (by simp [e])
  refine callType_codes (Q₁ := fun obj s₁ => obj = .ref s.heap.objs.size ∧ s₁ = { s with heap := s.heap.push { cls := .type "list", data := .seq #[] } }) F.called_list (F.typeCall_list_1 _) F.entry_list_init
    (code_list_new _ ⟨rfl, rfl⟩) fun obj s₁ h₁ => ?_
  obtain ⟨rfl, rfl⟩ := h₁
  have hS : (s.heap.push { cls := .type "list", data := .seq #[] }).get? s.heap.objs.size = some { cls := .type "list", data := .seq #[] } := Heap.get?_push_size _ rfl
  have hTz : ∀ h', IsZipF h' z TI TO .none (.bool false) → Shared.TypeIs { s with heap := h' } (.ref z) "zip" := fun h' q => ⟨_, q, rfl⟩
  refine ⟨⟨_, hS, rfl⟩, F.args_list_init_2 _ _, ?_⟩
  have pu : ∀ b o, s.heap.get? b = some o → (s.heap.push { cls := .type "list", data := .seq #[] }).get? b = some o := fun b o e => Heap.get?_push_of_some _ e
  show wpAny _ A.in1.in1 (do let old ← Builtin.List.listItems (.ref s.heap.objs.size); Builtin.List.listUpdate (.ref s.heap.objs.size) (fun _ => #[]); letGo old.toList.reverse; Builtin.List.listExtendWith (.ref s.heap.objs.size) (.ref z) .none) _ _ _
  refine wpAny_bind ?_
  unfold Builtin.List.listItems
  refine wpAny_bind (wpAny_seqItems hS rfl (wpAny_pure ?_))
  show wpAny _ _ (updateSeq s.heap.objs.size (fun _ => #[]) >>= fun _ => letGo (#[] : Array Value).toList.reverse >>= fun _ => Builtin.List.listExtendWith (.ref s.heap.objs.size) (.ref z) .none) _ _ _
  refine wpAny_bind (wpAny_updateSeq hS rfl ?_)
  have hS₂ := Heap.get?_update_self (Obj.mapSeq (fun _ => (#[] : Array Value))) hS rfl
  refine wpAny_bind (wpAny_letGo ?_)
  generalize hg1 : (s.heap.push { cls := .type "list", data := .seq #[] }).update s.heap.objs.size (Obj.mapSeq (fun _ => (#[] : Array Value))) = H1 at hS₂ ⊢
  have oth1 : ∀ b o, s.heap.get? b = some o → H1.get? b = some o := fun b o e => by
    rw [← hg1]; exact (Heap.get?_update_other _ _ (Nat.ne_of_gt (Heap.lt_size e))).trans (pu b o e)
  have sz1 : H1.objs.size = s.heap.objs.size + 1 := by rw [← hg1, show ((s.heap.push { cls := .type "list", data := .seq #[] }).update s.heap.objs.size (Obj.mapSeq (fun _ => (#[] : Array Value)))).objs.size = (s.heap.push { cls := .type "list", data := .seq #[] }).objs.size from (Heap.SameBut.update ..).1, Heap.size_push]
  unfold Builtin.List.listExtendWith
  refine wpAny_bind (wpAny_typeOf (hTz _ (oth1 _ _ hz)) ?_)
  have g1 : Builtin.List.listSameRef (.ref s.heap.objs.size) (.ref z) = false := by simp [Builtin.List.listSameRef, hSI]
  have g2 : (Value.type "zip" == Value.type "list") = false := by decide
  have g3 : (Value.type "zip" == Value.type "tuple") = false := by decide
  simp only [g1, g2, g3, Bool.or_false, Bool.false_eq_true, if_false]
  refine wpAny_bind (wpAny_pyIter_zip (s := { s with heap := H1 }) (oth1 _ _ hz) ?_)
  refine wpAny_bind (wpAny_holding ?_)
  unfold Builtin.List.listLengthHint
  refine wpAny_bind (wpAny_specialOf (hTz _ (oth1 _ _ hz)) F3.zip_no_len ?_)
  show wpAny _ _ (specialOf (Value.ref z) (Str.ofString "__length_hint__") >>= _) _ _ _
  refine wpAny_bind (wpAny_specialOf (hTz _ (oth1 _ _ hz)) F3.zip_no_hint ?_)
  refine wpAny_pure ?_
  show wpAny _ _ (rule "list.extend.makes-room" >>= fun _ => Builtin.List.listTouch (.ref s.heap.objs.size) >>= fun _ =>
    again (.builtin "list.extend.loop" ⟨[.ref s.heap.objs.size, .ref z, .none], []⟩)) _ _ _
  refine wpAny_bind (wpAny_rule ?_)
  refine wpAny_bind ?_
  show wpAny _ _ (updateSeq s.heap.objs.size (·.push .none) >>= fun _ => updateSeq s.heap.objs.size (·.pop)) _ _ _
  refine wpAny_bind (wpAny_updateSeq hS₂ rfl ?_)
  have hS₃ := Heap.get?_update_self (Obj.mapSeq (·.push Value.none)) hS₂ rfl
  refine wpAny_updateSeq (hz := by seq_fits) hS₃ rfl ?_
  have hS₄ := Heap.get?_update_self (Obj.mapSeq (·.pop)) hS₃ rfl
  generalize hg2 : (H1.update s.heap.objs.size (Obj.mapSeq (·.push Value.none))).update s.heap.objs.size (Obj.mapSeq (·.pop)) = H2 at hS₄ ⊢
  have oth2 : ∀ b o, s.heap.get? b = some o → H2.get? b = some o := fun b o e => by
    rw [← hg2]; exact (Heap.get?_update_other _ _ (Nat.ne_of_gt (Heap.lt_size e))).trans ((Heap.get?_update_other _ _ (Nat.ne_of_gt (Heap.lt_size e))).trans (oth1 b o e))
  have sz2 : H2.objs.size = s.heap.objs.size + 1 := by
    rw [← hg2, show ((H1.update s.heap.objs.size (Obj.mapSeq (·.push Value.none))).update s.heap.objs.size (Obj.mapSeq (·.pop))).objs.size = (H1.update s.heap.objs.size (Obj.mapSeq (·.push Value.none))).objs.size from (Heap.SameBut.update ..).1,
      show (H1.update s.heap.objs.size (Obj.mapSeq (·.push Value.none))).objs.size = H1.objs.size from (Heap.SameBut.update ..).1, sz1]
  refine wpAny_pure ⟨plainId_quiet F.plain_extend_loop _, extend_zip3 (A := A.in1) (n₀ := s.heap.objs.size + 1) (show A.in1.handled = none from hh) nd hl hSf (fun j hj => ?_) e2 e3 hpos hn _ xs.size 0 _ [] _ rfl (Nat.zero_le _)
    ⟨⟨_, _, oth2 _ _ hz, .inl rfl, .inl ⟨rfl, rfl, rfl⟩⟩, oth2 _ _ ti, ⟨_, _, _, oth2 _ _ to⟩, h1.at fun o e => oth2 _ o e, h2.at fun o e => oth2 _ o e, h3.at fun o e => oth2 _ o e, hl1.at fun o e => oth2 _ o e, hl2.at fun o e => oth2 _ o e, hl3.at fun o e => oth2 _ o e⟩
    (Nat.le_of_eq sz2.symm) hS₄ rfl (fun j v h => by simp at h) fun h' acc' c' hk' hS' hl' tr' => ?_⟩
  · rcases List.mem_cons.mp hj with rfl | hj
    · exact Nat.lt_succ_self _
    · refine Nat.lt_succ_of_lt (hlt j ?_)
      simp only [List.mem_cons, List.not_mem_nil, or_false] at hj ⊢
      rcases hj with q | q | q | q | q | q <;> simp [q]
  · refine ⟨rfl, hQ h' acc' c' (fun b o hb e => hk' b o (fun m => ?_) (oth2 b o e)) hS' hl' tr'⟩
    rcases List.mem_cons.mp m with q | q
    · exact absurd (Heap.lt_size e) (by rw [q]; exact Nat.lt_irrefl _)
    · exact hb q
end
end L2

namespace L2
open PySem PySem.Spec PyProof.Rows

/-! ### what is read as plain data -/
mutual
inductive DV (H : Hp) : V → PyData → Prop where
  | non : DV H .non .none
  | bl (b : Bool) : DV H (.bl b) (.bool b)
  | int (i : Int) : DV H (.int i) (.int i)
  | str (x : Str) : DV H (.str x) (.str x)
  | lst {a : Addr} {xs : List V} {ds : List PyData} : H a = some (.lst xs) → DVs H xs ds → DV H (.ref a) (.list ds)
  | tup {a : Addr} {xs : List V} {ds : List PyData} : H a = some (.tup xs) → DVs H xs ds → DV H (.ref a) (.tuple ds)
inductive DVs (H : Hp) : List V → List PyData → Prop where
  | nil : DVs H [] []
  | cons {x : V} {xs : List V} {d : PyData} {ds : List PyData} : DV H x d → DVs H xs ds → DVs H (x :: xs) (d :: ds)
end
section
variable {H H' : Hp}
mutual
theorem DV.mono (s : Same H H') : ∀ {v : V} {d : PyData}, DV H v d → DV H' v d
  | _, _, .non => .non
  | _, _, .bl b => .bl b
  | _, _, .int i => .int i
  | _, _, .str x => .str x
  | _, _, .lst h r => .lst (s _ _ h) (DVs.mono s r)
  | _, _, .tup h r => .tup (s _ _ h) (DVs.mono s r)
theorem DVs.mono (s : Same H H') : ∀ {vs : List V} {ds : List PyData}, DVs H vs ds → DVs H' vs ds
  | _, _, .nil => .nil
  | _, _, .cons h r => .cons (DV.mono s h) (DVs.mono s r)
end
theorem DVs.length : ∀ {vs : List V} {ds : List PyData}, DVs H vs ds → vs.length = ds.length
  | _, _, .nil => rfl
  | _, _, .cons _ r => congrArg (· + 1) r.length
theorem DVs.append : ∀ {vs ws : List V} {ds es : List PyData}, DVs H vs ds → DVs H ws es → DVs H (vs ++ ws) (ds ++ es)
  | _, _, _, _, .nil, s => s
  | _, _, _, _, .cons h r, s => .cons h (r.append s)
theorem DVs.get : ∀ {vs : List V} {ds : List PyData} {i : Nat} {d : PyData}, DVs H vs ds → ds[i]? = some d → ∃ v, vs[i]? = some v ∧ DV H v d
  | _, _, _, _, .nil, e => by simp at e
  | _, _, 0, _, .cons h _, e => by simp at e; subst e; exact ⟨_, rfl, h⟩
  | _, _, i + 1, d, .cons _ r, e => by
    obtain ⟨v, h1, h2⟩ := r.get (i := i) (d := d) (by simpa using e)
    exact ⟨v, by simpa using h1, h2⟩
theorem DVs.get' : ∀ {vs : List V} {ds : List PyData} {i : Nat} {v : V}, DVs H vs ds → vs[i]? = some v → ∃ d, ds[i]? = some d ∧ DV H v d
  | _, _, _, _, .nil, e => by simp at e
  | _, _, 0, _, .cons h _, e => by simp at e; subst e; exact ⟨_, rfl, h⟩
  | _, _, i + 1, d, .cons _ r, e => by
    obtain ⟨v, h1, h2⟩ := r.get' (i := i) (v := d) (by simpa using e)
    exact ⟨v, by simpa using h1, h2⟩
theorem DVs.drop : ∀ {vs : List V} {ds : List PyData} (n : Nat), DVs H vs ds → DVs H (vs.drop n) (ds.drop n)
  | _, _, 0, r => r
  | _, _, _ + 1, .nil => .nil
  | _, _, n + 1, .cons _ r => r.drop n
theorem same_upd {a : Addr} {o : HO} (h : H a = none) : Same H (upd H a o) := fun b u e => by rw [upd_ne (ne_of_none e h)]; exact e
theorem DV.tup_inv {v : V} {ds : List PyData} (h : DV H v (.tuple ds)) : ∃ a xs, v = .ref a ∧ H a = some (.tup xs) ∧ DVs H xs ds := by
  cases h with | tup h r => exact ⟨_, _, rfl, h, r⟩
theorem DV.lst_inv {v : V} {ds : List PyData} (h : DV H v (.list ds)) : ∃ a xs, v = .ref a ∧ H a = some (.lst xs) ∧ DVs H xs ds := by
  cases h with | lst h r => exact ⟨_, _, rfl, h, r⟩
theorem DV.int_inv {v : V} {i : Int} (h : DV H v (.int i)) : v = .int i := by cases h; rfl
theorem DV.bl_inv {v : V} {b : Bool} (h : DV H v (.bool b)) : v = .bl b := by cases h; rfl
theorem DV.non_inv {v : V} (h : DV H v .none) : v = .non := by cases h; rfl
end
section
variable {X : Cx} {pins : List (Addr × Obj)} {σ : St} {H : Hp} {s : Shared}
mutual
theorem Inv.reads (I : Inv X pins σ H s) : ∀ {v : V} {d : PyData} {u : Value}, DV H v d → RelV v u → ∃ as, Reads s.heap u d as
  | _, _, _, .non, r => by cases r; exact ⟨_, .none⟩
  | _, _, _, .bl b, r => by cases r; exact ⟨_, .bool b⟩
  | _, _, _, .int i, r => by obtain ⟨t, rfl⟩ := r; exact ⟨_, .int i t⟩
  | _, _, _, .str x, r => by obtain ⟨t, rfl⟩ := r; exact ⟨_, .str x t⟩
  | _, _, _, .lst h q, r => by
    cases r
    obtain ⟨_, its, n, rv, e⟩ := I.hok _ _ h
    obtain ⟨as, z⟩ := I.readsAll q rv
    exact ⟨_, reads_list_at e rfl rfl (by simpa using z)⟩
  | _, _, _, .tup h q, r => by
    cases r
    obtain ⟨_, its, rv, o, e, c, n, d⟩ := I.hok _ _ h
    obtain ⟨as, z⟩ := I.readsAll q rv
    exact ⟨_, reads_tuple_at e c d (by simpa using z)⟩
theorem Inv.readsAll (I : Inv X pins σ H s) : ∀ {vs : List V} {ds : List PyData} {us : List Value}, DVs H vs ds → Vals vs us → ∃ as, ReadsAll s.heap us ds as
  | _, _, _, .nil, .nil => ⟨_, .nil⟩
  | _, _, _, .cons h q, .cons r rr => by
    obtain ⟨as, z⟩ := I.reads h r
    obtain ⟨bs, z'⟩ := I.readsAll q rr
    exact ⟨_, .cons z z'⟩
end
end
section
variable {X : Cx}
/-! ### == and != of plain data -/
def rEqD (neg : Bool) : R2 := fun x y H Q => ∃ d e, DV H x d ∧ DV H y e ∧ SeqAt.shaped d = true ∧ SeqAt.shaped e = true ∧ Q (.bl (PyData.eqv d e != neg)) H
theorem op_eqD (hu : X.A.units + 64 < cLine) : OpR X (compareOp .Eq) (rEqD false) := by
  intro pins s σ H x y v u Q I rx ry h
  obtain ⟨d, e, h1, h2, h3, h4, q⟩ := h
  obtain ⟨as, z1⟩ := I.reads h1 rx
  obtain ⟨bs, z2⟩ := I.reads h2 ry
  exact eq_dataH z1 z2 h3 h4 hu ⟨_, H, I, by show Value.bool (PyData.eqv d e) = Value.bool (PyData.eqv d e != false); rw [Bool.bne_false], q⟩
theorem op_neD (hu : X.A.units + 64 < cLine) : OpR X (compareOp .NotEq) (rEqD true) := by
  intro pins s σ H x y v u Q I rx ry h
  obtain ⟨d, e, h1, h2, h3, h4, q⟩ := h
  obtain ⟨as, z1⟩ := I.reads h1 rx
  obtain ⟨bs, z2⟩ := I.reads h2 ry
  exact ne_dataH z1 z2 h3 h4 hu ⟨_, H, I, by show Value.bool (!PyData.eqv d e) = Value.bool (PyData.eqv d e != true); rw [Bool.bne_true], q⟩
/-! ### isinstance(x, T), T a built-in type -/
def tyOfD : PyData → String
  | .none => "NoneType"
  | .bool _ => "bool"
  | .int _ => "int"
  | .str _ => "str"
  | .list _ => "list"
  | .tuple _ => "tuple"
  | .dict _ => "dict"
theorem DV.ty {H : Hp} {K : PySem.W.Frag} {v : V} {d : PyData} (h : DV H v d) : TyOf K H v (.type (tyOfD d)) := by
  cases h with
  | non => exact .non
  | bl b => exact .bl b
  | int i => exact .int i
  | str x => exact .str x
  | lst h r => exact .lst h
  | tup h r => exact .tup h
def rIsI : List V → Hp → VK → Prop := fun xs H Q => ∃ x d n b, xs = [x, .ty n] ∧ DV H x d ∧ (∀ K : PySem.W.Frag, PySem.W.kitOne K (.type (tyOfD d)) (.type n) = some b) ∧ Q (.bl b) H
theorem call_isinst : CallR X (.builtin "isinstance") rIsI := by
  intro pins s σ H xs us Q I r h
  obtain ⟨x, d, n, b, rfl, hd, e, q⟩ := h
  obtain ⟨u, w, rfl, r1, r2⟩ := vals2 r
  cases r2
  exact isinst_ok I r1 hd.ty (e _) fun tk => ⟨.bl b, H, I.tok tk, rfl, q⟩
end

/-! ### iterators that hand out new tuples -/
section
variable {X : Cx} {pins : List (Addr × Obj)} {σ : St} {H : Hp} {s : Shared} {h' : Heap}
end
section
variable {X : Cx} {elts : List Expr} {kk : Nat} {tpos : Pos}
end
end L2

namespace L2.L3
open PySem PySem.Spec PyProof.Rows

/-! ### a third layer: a def's names as plain data -/
def hide (O : List Addr) (H : Hp) : Hp := fun b => if b ∈ O then none else H b
section
variable {O O' : List Addr} {H H' H1 H2 : Hp}
theorem hide_of {b : Addr} {o : HO} (h : H b = some o) (n : b ∉ O) : hide O H b = some o := by unfold hide; rw [if_neg n]; exact h
theorem of_hide {b : Addr} {o : HO} (h : hide O H b = some o) : H b = some o ∧ b ∉ O := by
  unfold hide at h
  by_cases e : b ∈ O
  · rw [if_pos e] at h; cases h
  · rw [if_neg e] at h; exact ⟨h, e⟩
theorem hide_le : Same (hide O H) H := fun b o h => (of_hide h).1
/-- from one heap and its owned lists to a later one: what is not owned stays, what is owned stays owned, new owned lists are new -/
structure Stp (O : List Addr) (H : Hp) (O' : List Addr) (H' : Hp) : Prop where
  keep : ∀ b o, b ∉ O → H b = some o → H' b = some o
  new : ∀ a ∈ O', a ∈ O ∨ H a = none
theorem Stp.refl : Stp O H O H := ⟨fun _ _ _ h => h, fun _ h => .inl h⟩
theorem Stp.trans {O1 O2 O3 : List Addr} {H3 : Hp} (a : Stp O1 H1 O2 H2) (b : Stp O2 H2 O3 H3) : Stp O1 H1 O3 H3 := by
  have nw : ∀ c o, c ∉ O1 → H1 c = some o → c ∉ O2 := fun c o hc e z => (a.new c z).elim hc fun n => by rw [n] at e; cases e
  refine ⟨fun c o hc e => b.keep c o (nw c o hc e) (a.keep c o hc e), fun c h => ?_⟩
  by_cases hc : c ∈ O1
  · exact .inl hc
  · refine .inr ?_
    cases e : H1 c with
    | none => rfl
    | some o =>
      rcases b.new c h with z | z
      · exact absurd z (nw c o hc e)
      · rw [a.keep c o hc e] at z; cases z
theorem Stp.same (s : Same H H') : Stp O H O H' := ⟨fun b o _ e => s b o e, fun _ h => .inl h⟩
theorem Stp.hid (s : Stp O H O' H') : Same (hide O H) (hide O' H') := fun b o e => by
  obtain ⟨e1, n⟩ := of_hide e
  refine hide_of (s.keep b o n e1) fun z => ?_
  rcases s.new b z with q | q
  · exact n q
  · rw [q] at e1; cases e1
theorem hide_same (s : Same H H') : Same (hide O H) (hide O H') := (Stp.same s).hid
theorem hide_more (s : ∀ a ∈ O', a ∈ O) : Same (hide O H) (hide O' H) := fun b o e => by
  obtain ⟨e1, n⟩ := of_hide e
  exact hide_of e1 fun z => n (s b z)
end

inductive Cell where
  /-- plain data, never changed -/
  | dat (d : PyData)
  /-- a list of the def's own, that grows -/
  | own (ds : List PyData)
  /-- a list that is handed round, of at most n items -/
  | cnt (a : Addr) (n : Nat)
  /-- the script -/
  | scr (ns : List Int)
abbrev DEnv := List (Option Cell)
/-- fixed through a def's run: the heap at its entry, the lists that were handed in to be changed, those never touched -/
structure Fx where
  H₀ : Hp
  A₀ : List Addr
  O₀ : List Addr
def Scr (K : PySem.W.Frag) (H : Hp) (a : Addr) (ns : List Int) : Prop := ns.length ≤ 63 ∧ ((∃ o, H a = some (.frz o (.lst (ns.map V.int)))) ∨
  ∃ (o : Obj) (its : Array Value) (n : Nat), K.lookup a = some o ∧ o.cls = .type "list" ∧ o.dict = none ∧ o.data = .seq its n ∧ its.size ≤ sizeLine ∧ Vals (ns.map V.int) its.toList)
theorem Scr.sq {K : PySem.W.Frag} {H : Hp} {a : Addr} {ns : List Int} (h : Scr K H a ns) : SqL K H a (ns.map V.int) := h.2.elim (fun ⟨o, e⟩ => .inl (.inr ⟨o, e⟩)) .inr
theorem Scr.mono {K : PySem.W.Frag} {H H' : Hp} {a : Addr} {ns : List Int} (h : Scr K H a ns) (k : ∀ o u, H a = some (.frz o u) → H' a = some (.frz o u)) : Scr K H' a ns := ⟨h.1, h.2.imp (fun ⟨o, e⟩ => ⟨o, k _ _ e⟩) id⟩
/-- what stands in a slot -/
def CellAt (K : PySem.W.Frag) (F : Fx) (H : Hp) (O : List Addr) (v : V) : Cell → Prop
  | .dat d => DV (hide O H) v d
  | .own ds => ∃ a xs, v = .ref a ∧ a ∈ O ∧ (a ∉ F.O₀ ∧ a ∉ F.A₀) ∧ H a = some (.lst xs) ∧ DVs (hide O H) xs ds
  | .cnt a n => ∃ xs, v = .ref a ∧ a ∈ O ∧ a ∉ F.O₀ ∧ H a = some (.lst xs) ∧ xs.length ≤ n
  | .scr ns => ∃ a, v = .ref a ∧ Scr K H a ns
def Cell.isOwn : Cell → Bool
  | .own _ => true
  | .cnt _ _ => true
  | _ => false
structure DSt (K : PySem.W.Frag) (F : Fx) (H : Hp) (σ : St) (ρ : DEnv) (O : List Addr) : Prop where
  at_ : ∀ (i : Nat) (c : Cell), ρ[i]? = some (some c) → ∃ v, σ[i]? = some (some v) ∧ CellAt K F H O v c
  inj : ∀ (i j : Nat) (c d : Cell) (a : Addr), ρ[i]? = some (some c) → ρ[j]? = some (some d) → c.isOwn = true → d.isOwn = true → σ[i]? = some (some (.ref a)) → σ[j]? = some (some (.ref a)) → i = j
  sub : ∀ a, (a ∈ F.O₀ ∨ a ∈ F.A₀) → a ∈ O
  kept : ∀ b o, b ∉ F.A₀ → F.H₀ b = some o → H b = some o
  new : ∀ a ∈ O, a ∈ F.O₀ ∨ a ∈ F.A₀ ∨ F.H₀ a = none
  live : ∀ a ∈ O, ∃ xs, H a = some (.lst xs)
  len : ρ.length = σ.length
section
variable {K : PySem.W.Frag} {F : Fx} {H H' : Hp} {σ : St} {ρ : DEnv} {O O' : List Addr}
theorem CellAt.grow {v : V} {c : Cell} (h : CellAt K F H O v c) (s : Same H H') : CellAt K F H' O v c := by
  cases c with
  | dat d => exact DV.mono (hide_same s) h
  | own ds => obtain ⟨a, xs, e, h1, h2, h3, h4⟩ := h; exact ⟨a, xs, e, h1, h2, s _ _ h3, DVs.mono (hide_same s) h4⟩
  | cnt a n => obtain ⟨xs, e, h1, h2, h3, h4⟩ := h; exact ⟨xs, e, h1, h2, s _ _ h3, h4⟩
  | scr ns => obtain ⟨a, e, h2⟩ := h; exact ⟨a, e, h2.mono fun o u q => s _ _ q⟩
theorem DSt.grow (st : DSt K F H σ ρ O) (s : Same H H') : DSt K F H' σ ρ O where
  at_ := fun i c e => let ⟨v, h1, h2⟩ := st.at_ i c e; ⟨v, h1, h2.grow s⟩
  inj := st.inj
  sub := st.sub
  kept := fun b o n e => s b o (st.kept b o n e)
  new := st.new
  live := fun a h => let ⟨xs, e⟩ := st.live a h; ⟨xs, s _ _ e⟩
  len := st.len
theorem get_set {α : Type} {l : List α} {i j : Nat} {x y : α} (e : (l.set i x)[j]? = some y) : (j = i ∧ y = x ∧ i < l.length) ∨ (j ≠ i ∧ l[j]? = some y) := by
  by_cases hj : j = i
  · subst hj
    have hlt : j < l.length := by
      have := (List.getElem?_eq_some_iff.mp e).1
      rwa [List.length_set] at this
    rw [List.getElem?_set_self hlt] at e
    exact .inl ⟨rfl, (Option.some.inj e).symm, hlt⟩
  · rw [List.getElem?_set_ne (Ne.symm hj)] at e
    exact .inr ⟨hj, e⟩
/-- a slot is changed; O and H too -/
theorem DSt.put (st : DSt K F H σ ρ O) {i : Nat} {v : V} {c : Cell} (hold : ∀ j w d, j ≠ i → ρ[j]? = some (some d) → σ[j]? = some (some w) → CellAt K F H O w d → CellAt K F H' O' w d) (hc : CellAt K F H' O' v c)
    (hi : c.isOwn = true → ∀ j d a, j ≠ i → ρ[j]? = some (some d) → d.isOwn = true → v = .ref a → σ[j]? = some (some (.ref a)) → False)
    (hs : ∀ a ∈ O, a ∈ O') (hk : ∀ b o, b ∉ F.A₀ → F.H₀ b = some o → H b = some o → H' b = some o) (hn : ∀ a ∈ O', a ∈ F.O₀ ∨ a ∈ F.A₀ ∨ F.H₀ a = none) (hl : ∀ a ∈ O', ∃ xs, H' a = some (.lst xs)) :
    DSt K F H' (σ.set i (some v)) (ρ.set i (some c)) O' where
  at_ := fun j d e => by
    rcases get_set e with ⟨rfl, e1, hlt⟩ | ⟨hj, e1⟩
    · cases e1
      exact ⟨v, List.getElem?_set_self (by rw [← st.len]; exact hlt), hc⟩
    · obtain ⟨w, h1, h2⟩ := st.at_ j d e1
      exact ⟨w, by rw [List.getElem?_set_ne (Ne.symm hj)]; exact h1, hold j w d hj e1 h1 h2⟩
  inj := fun j k c1 c2 a e1 e2 h1 h2 e3 e4 => by
    rcases get_set e1 with ⟨rfl, q1, _⟩ | ⟨hj, q1⟩
    · rcases get_set e2 with ⟨rfl, q2, _⟩ | ⟨hk, q2⟩
      · rfl
      · rcases get_set e3 with ⟨_, q3, _⟩ | ⟨hj', _⟩
        · rw [List.getElem?_set_ne (Ne.symm hk)] at e4
          cases q1
          exact (hi h1 k c2 a hk q2 h2 (Option.some.inj q3).symm e4).elim
        · exact absurd rfl hj'
    · rcases get_set e2 with ⟨rfl, q2, _⟩ | ⟨hk, q2⟩
      · rcases get_set e4 with ⟨_, q4, _⟩ | ⟨hj', _⟩
        · rw [List.getElem?_set_ne (Ne.symm hj)] at e3
          cases q2
          exact (hi h2 j c1 a hj q1 h1 (Option.some.inj q4).symm e3).elim
        · exact absurd rfl hj'
      · rw [List.getElem?_set_ne (Ne.symm hj)] at e3
        rw [List.getElem?_set_ne (Ne.symm hk)] at e4
        exact st.inj j k c1 c2 a q1 q2 h1 h2 e3 e4
  sub := fun a h => hs a (st.sub a h)
  kept := fun b o n e => hk b o n e (st.kept b o n e)
  new := hn
  live := hl
  len := by rw [List.length_set, List.length_set, st.len]
theorem DSt.set (st : DSt K F H σ ρ O) {i : Nat} {v : V} {d : PyData} (h : DV (hide O H) v d) : DSt K F H (σ.set i (some v)) (ρ.set i (some (.dat d))) O :=
  st.put (fun _ _ _ _ _ _ q => q) h (fun z => by cases z) (fun _ h => h) (fun _ _ _ _ e => e) st.new st.live
theorem DSt.nofree (st : DSt K F H σ ρ O) : ∀ p, H p = none → p ∉ O := fun p hp z => by obtain ⟨ys, e⟩ := st.live p z; rw [hp] at e; cases e
/-- a new list of the def's own -/
theorem DSt.setOwn (st : DSt K F H σ ρ O) {i : Nat} {p : Addr} {xs : List V} {c : Cell} (hp : H p = none) (hc : (∃ ds, c = .own ds ∧ DVs (hide O H) xs ds) ∨ ∃ n, c = .cnt p n ∧ xs.length ≤ n) :
    DSt K F (upd H p (.lst xs)) (σ.set i (some (.ref p))) (ρ.set i (some c)) (p :: O) ∧ Stp O H (p :: O) (upd H p (.lst xs)) := by
  have hO : p ∉ O := st.nofree p hp
  have stp : Stp O H (p :: O) (upd H p (.lst xs)) := ⟨fun b o n e => by rw [upd_ne (ne_of_none e hp)]; exact e, fun a h => by
    rcases List.mem_cons.mp h with rfl | h
    · exact .inr hp
    · exact .inl h⟩
  have pO₀ : p ∉ F.O₀ := fun z => hO (st.sub p (.inl z))
  have hA : p ∉ F.A₀ := fun z => hO (st.sub p (.inr z))
  have old : ∀ v c, CellAt K F H O v c → CellAt K F (upd H p (.lst xs)) (p :: O) v c := fun v c h => by
    cases c with
    | dat d => exact DV.mono stp.hid h
    | own ds => obtain ⟨a, ys, e, h1, h2, h3, h4⟩ := h; exact ⟨a, ys, e, List.mem_cons_of_mem _ h1, h2, same_upd hp _ _ h3, DVs.mono stp.hid h4⟩
    | cnt a n => obtain ⟨ys, e, h1, h2, h3, h4⟩ := h; exact ⟨ys, e, List.mem_cons_of_mem _ h1, h2, same_upd hp _ _ h3, h4⟩
    | scr ns => obtain ⟨a, e, h2⟩ := h; exact ⟨a, e, h2.mono fun o u q => same_upd hp _ _ q⟩
  have new : CellAt K F (upd H p (.lst xs)) (p :: O) (.ref p) c := by
    rcases hc with ⟨ds, rfl, h⟩ | ⟨n, rfl, h⟩
    · exact ⟨p, xs, rfl, List.mem_cons_self, ⟨pO₀, hA⟩, upd_same, DVs.mono stp.hid h⟩
    · exact ⟨xs, rfl, List.mem_cons_self, pO₀, upd_same, h⟩
  refine ⟨st.put (fun j w d _ _ _ q => old w d q) new (fun _ j d a hj e hd ha q => ?_) (fun a h => List.mem_cons_of_mem _ h) (fun b o _ _ e => same_upd hp _ _ e) (fun a h => ?_) fun a h => ?_, stp⟩
  · cases ha
    obtain ⟨w, e1, e2⟩ := st.at_ j d e
    rw [q] at e1
    cases e1
    cases d with
    | dat _ => cases hd
    | scr _ => cases hd
    | own ds => obtain ⟨a, ys, e, h1, _⟩ := e2; cases e; exact hO h1
    | cnt a n => obtain ⟨ys, e, h1, _⟩ := e2; cases e; exact hO h1
  · rcases List.mem_cons.mp h with rfl | h
    · refine .inr (.inr ?_)
      cases e : F.H₀ a with
      | none => rfl
      | some o => have := st.kept a o hA e; rw [hp] at this; cases this
    · exact st.new a h
  · rcases List.mem_cons.mp h with rfl | h
    · exact ⟨xs, upd_same⟩
    · obtain ⟨ys, e⟩ := st.live a h
      exact ⟨ys, same_upd hp _ _ e⟩
/-- an own list has changed, other things may have come -/
theorem DSt.app (st : DSt K F H σ ρ O) {i : Nat} {a : Addr} {xs ys : List V} {c c' : Cell} (e : ρ[i]? = some (some c)) (ev : σ[i]? = some (some (.ref a))) (ho : c.isOwn = true) (hO : a ∈ O) (h0 : a ∉ F.O₀) (hH : H a = some (.lst xs))
    (hk : ∀ b o, b ≠ a → H b = some o → H' b = some o) (ha : H' a = some (.lst ys)) (hc : (∃ ds, c' = .own ds ∧ a ∉ F.A₀ ∧ DVs (hide O H') ys ds) ∨ ∃ n, c' = .cnt a n ∧ ys.length ≤ n) : DSt K F H' σ (ρ.set i (some c')) O ∧ Stp O H O H' := by
  have stp : Stp O H O H' := ⟨fun b o n e => hk b o (fun z => n (by rw [z]; exact hO)) e, fun _ h => .inl h⟩
  have eσ : σ.set i (some (.ref a)) = σ := by
    apply List.ext_getElem?
    intro j
    by_cases hj : j = i
    · subst hj; rw [List.getElem?_set_self (List.getElem?_eq_some_iff.mp ev).1, ev]
    · rw [List.getElem?_set_ne (Ne.symm hj)]
  have new : CellAt K F H' O (.ref a) c' := by
    rcases hc with ⟨ds, rfl, hA, h⟩ | ⟨n, rfl, h⟩
    · exact ⟨a, ys, rfl, hO, ⟨h0, hA⟩, ha, h⟩
    · exact ⟨ys, rfl, hO, h0, ha, h⟩
  refine ⟨?_, stp⟩
  have q := st.put (H' := H') (O' := O) (i := i) (v := .ref a) (c := c') (fun j w d hj e1 e2 h => ?_) new (fun _ j d b hj e1 hd hb e2 => ?_) (fun _ h => h) (fun b o hA e0 e1 => ?_) st.new fun b h => ?_
  · rw [eσ] at q; exact q
  · have nea : ∀ b, w = .ref b → d.isOwn = true → b ≠ a := fun b hb hd z => hj (st.inj j i d c a e1 e hd ho (by rw [e2, hb, z]) ev)
    cases d with
    | dat d => exact DV.mono stp.hid h
    | own ds => obtain ⟨b, zs, eb, h1, h2, h3, h4⟩ := h; exact ⟨b, zs, eb, h1, h2, hk _ _ (nea b eb rfl) h3, DVs.mono stp.hid h4⟩
    | cnt b n => obtain ⟨zs, eb, h1, h2, h3, h4⟩ := h; exact ⟨zs, eb, h1, h2, hk _ _ (nea b eb rfl) h3, h4⟩
    | scr ns => obtain ⟨b, eb, h2⟩ := h; exact ⟨b, eb, h2.mono fun o u q => hk _ _ (fun z => by rw [z, hH] at q; cases q) q⟩
  · cases hb
    exact hj (st.inj j i d c a e1 e hd ho e2 ev)
  · by_cases hb : b = a
    · subst hb
      rcases st.new b hO with z | z | z
      · exact absurd z h0
      · exact absurd z hA
      · rw [z] at e0; cases e0
    · exact hk _ _ hb e1
  · by_cases hb : b = a
    · subst hb; exact ⟨ys, ha⟩
    · obtain ⟨zs, e⟩ := st.live b h
      exact ⟨zs, hk _ _ hb e⟩
end

/-- an own list grows no more: from here on it is plain data -/
theorem DSt.freeze {K : PySem.W.Frag} {F : Fx} {H : Hp} {σ : St} {ρ : DEnv} {O : List Addr} (st : DSt K F H σ ρ O) {i : Nat} {ds : List PyData} (e : ρ[i]? = some (some (.own ds))) :
    ∃ v O', σ[i]? = some (some v) ∧ DSt K F H σ (ρ.set i (some (.dat (.list ds)))) O' ∧ Stp O H O' H ∧ DV (hide O' H) v (.list ds) := by
  obtain ⟨v, ev, a, xs, rfl, hO, h0, hH, hd⟩ := st.at_ i _ e
  have sub : ∀ b, b ∈ O.filter (fun b => decide (b ≠ a)) → b ∈ O := fun b h => (List.mem_filter.mp h).1
  have nin : a ∉ O.filter (fun b => decide (b ≠ a)) := fun h => absurd (List.mem_filter.mp h).2 (by simp)
  have mem : ∀ b, b ≠ a → b ∈ O → b ∈ O.filter (fun b => decide (b ≠ a)) := fun b hb h => List.mem_filter.mpr ⟨h, by simp [hb]⟩
  have stp : Stp O H (O.filter fun b => decide (b ≠ a)) H := ⟨fun _ _ _ h => h, fun b h => .inl (sub b h)⟩
  have dv : DV (hide (O.filter fun b => decide (b ≠ a)) H) (.ref a) (.list ds) := .lst (hide_of hH nin) (DVs.mono stp.hid hd)
  have eσ : σ.set i (some (.ref a)) = σ := by
    apply List.ext_getElem?
    intro j
    by_cases hj : j = i
    · subst hj; rw [List.getElem?_set_self (List.getElem?_eq_some_iff.mp ev).1, ev]
    · rw [List.getElem?_set_ne (Ne.symm hj)]
  refine ⟨.ref a, _, ev, ?_, stp, dv⟩
  have at' : ∀ (j : Nat) (c : Cell), (ρ.set i (some (.dat (.list ds))))[j]? = some (some c) → ∃ v, σ[j]? = some (some v) ∧ CellAt K F H (O.filter fun b => decide (b ≠ a)) v c := fun j c ej => by
    rcases get_set ej with ⟨rfl, e1, _⟩ | ⟨hj, e1⟩
    · cases e1; exact ⟨_, ev, dv⟩
    · obtain ⟨w, h1, h2⟩ := st.at_ j c e1
      refine ⟨w, h1, ?_⟩
      have ne : ∀ b, w = .ref b → c.isOwn = true → b ≠ a := fun b hb hc z => hj (st.inj j i c _ a e1 e hc rfl (by rw [h1, hb, z]) ev)
      cases c with
      | dat d => exact DV.mono stp.hid h2
      | own es => obtain ⟨b, ys, eb, q1, q2, q3, q4⟩ := h2; exact ⟨b, ys, eb, mem b (ne b eb rfl) q1, q2, q3, DVs.mono stp.hid q4⟩
      | cnt b n => obtain ⟨ys, eb, q1, q2, q3, q4⟩ := h2; exact ⟨ys, eb, mem b (ne b eb rfl) q1, q2, q3, q4⟩
      | scr ns => exact h2
  refine ⟨at', fun j k c d b e1 e2 h1 h2 e3 e4 => ?_, fun b h => mem b (fun z => ?_) (st.sub b h), st.kept, fun b h => st.new b (sub b h), fun b h => st.live b (sub b h), by rw [List.length_set]; exact st.len⟩
  · rcases get_set e1 with ⟨rfl, q1, _⟩ | ⟨hj, q1⟩
    · cases q1; cases h1
    · rcases get_set e2 with ⟨rfl, q2, _⟩ | ⟨hk, q2⟩
      · cases q2; cases h2
      · exact st.inj j k c d b q1 q2 h1 h2 e3 e4
  · subst z; exact h.elim h0.1 h0.2

/-! ### expressions -/
abbrev DT := DEnv → (PyData → DEnv → Prop) → Prop
def Mn (t : DT) : Prop := ∀ ρ Q Q', (∀ d ρ', Q d ρ' → Q' d ρ') → t ρ Q → t ρ Q'
def rdE (K : PySem.W.Frag) (F : Fx) (t : DT) : TE := fun σ H Q => ∃ ρ O, DSt K F H σ ρ O ∧ t ρ fun d ρ' => ∀ v H' O', DSt K F H' σ ρ' O' → Stp O H O' H' → DV (hide O' H') v d → Q v H'
structure DE (X : Cx) (F : Fx) (e : Expr) (t : DT) : Prop where
  mn : Mn t
  pe : PE X e (rdE X.K F t)
theorem _root_.L2.PE.imp {X : Cx} {e : Expr} {t t' : TE} (h : PE X e t) (k : ∀ σ H Q, t' σ H Q → t σ H Q) : PE X e t' := fun pins s σ H Q I q => h pins s σ H Q I (k σ H Q q)
theorem _root_.L2.PT.imp {X : Cx} {e : Expr} {t t' : TT} (h : PT X e t) (k : ∀ σ H Q, t' σ H Q → t σ H Q) : PT X e t' := fun pins s σ H Q I q => h pins s σ H Q I (k σ H Q q)
theorem _root_.L2.PS.imp {X : Cx} {e : Stmt} {t t' : TS} (h : PS X e t) (k : ∀ D σ H, t' D σ H → t D σ H) : PS X e t' := fun pins s σ H D I q => h pins s σ H D I (k D σ H q)
theorem _root_.L2.PSs.imp {X : Cx} {e : List Stmt} {t t' : TS} (h : PSs X e t) (k : ∀ D σ H, t' D σ H → t D σ H) : PSs X e t' := fun pins s σ H D I q => h pins s σ H D I (k D σ H q)
section
variable {X : Cx} {F : Fx} {a b e : Expr} {ta tb : DT} {pos : Pos}
def dC (d : PyData) : DT := fun ρ Q => Q d ρ
def dV (i : Nat) : DT := fun ρ Q => (∃ d, ρ[i]? = some (some (.dat d)) ∧ Q d ρ) ∨ ∃ ds, ρ[i]? = some (some (.own ds)) ∧ Q (.list ds) (ρ.set i (some (.dat (.list ds))))
theorem mn_C {d : PyData} : Mn (dC d) := fun _ _ _ h q => h _ _ q
theorem de_const {d : PyData} {v : V} (h : PE X e (tC v)) (hd : ∀ H, DV H v d) : DE X F e (dC d) :=
  ⟨mn_C, h.imp fun σ H Q ⟨ρ, O, st, q⟩ => q v H O st .refl (hd _)⟩
theorem de_int {i j} : DE X F (.Constant (.int i) j pos) (dC (.int i)) := de_const pe_int fun _ => .int i
theorem de_bl {i j} : DE X F (.Constant (.bool i) j pos) (dC (.bool i)) := de_const pe_bl fun _ => .bl i
theorem de_non {j} : DE X F (.Constant .none j pos) (dC .none) := de_const pe_non fun _ => .non
theorem de_str {x j} : DE X F (.Constant (.str x) j pos) (dC (.str x)) := de_const pe_str fun _ => .str x
theorem de_var (i : Nat) {x : Str} (h : PE X (.Name x pos) (tVar i)) : DE X F (.Name x pos) (dV i) :=
  ⟨fun _ _ _ k q => q.imp (fun ⟨d, e, q⟩ => ⟨d, e, k _ _ q⟩) fun ⟨d, e, q⟩ => ⟨d, e, k _ _ q⟩, h.imp fun σ H Q ⟨ρ, O, st, q⟩ => by
    rcases q with ⟨d, e, q⟩ | ⟨ds, e, q⟩
    · obtain ⟨v, h1, h2⟩ := st.at_ i _ e
      exact ⟨v, h1, q v H O st .refl h2⟩
    · obtain ⟨v, O', h1, h2, h3, h4⟩ := st.freeze e
      exact ⟨v, h1, q v H O' h2 h3 h4⟩⟩
/-- two parts, then an operation by values that leaves the heap or lays new things -/
abbrev D2 := PyData → PyData → (PyData → Prop) → Prop
def dOp (f : D2) (ta tb : DT) : DT := fun ρ Q => ta ρ fun x ρ1 => tb ρ1 fun y ρ2 => f x y fun d => Q d ρ2
structure Op2 (r : R2) (f : D2) : Prop where
  mn : ∀ x y Q Q', (∀ d, Q d → Q' d) → f x y Q → f x y Q'
  ok : ∀ (O : List Addr) (H : Hp) (u v : V) (x y : PyData) (Q : VK), (∀ p, H p = none → p ∉ O) → DV (hide O H) u x → DV (hide O H) v y → f x y (fun d => ∀ w H', Same H H' → DV (hide O H') w d → Q w H') → r u v H Q
theorem rd2 {r : R2} {f : D2} {ta tb : DT} (o : Op2 r f) (ha : Mn ta) (hb : Mn tb) {K : PySem.W.Frag} : ∀ σ H Q, rdE K F (dOp f ta tb) σ H Q → tOp r (rdE K F ta) (rdE K F tb) σ H Q := fun σ H Q ⟨ρ, O, st, q⟩ => by
  refine ⟨ρ, O, st, ha _ _ _ (fun x ρ1 q1 v1 H1 O1 st1 s1 d1 => ?_) q⟩
  refine ⟨ρ1, O1, st1, hb _ _ _ (fun y ρ2 q2 v2 H2 O2 st2 s2 d2 => ?_) q1⟩
  refine o.ok O2 H2 v1 v2 x y Q st2.nofree (DV.mono s2.hid d1) d2 (o.mn _ _ _ _ (fun d q3 w H3 s3 d3 => ?_) q2)
  exact q3 w H3 O2 (st2.grow s3) (s1.trans (s2.trans (.same s3))) d3
theorem mn2 {r : R2} {f : D2} (o : Op2 r f) (ha : Mn ta) (hb : Mn tb) : Mn (dOp f ta tb) := fun _ _ _ k q => ha _ _ _ (fun _ _ q1 => hb _ _ _ (fun _ _ q2 => o.mn _ _ _ _ (fun _ q3 => k _ _ q3) q2) q1) q
theorem de_op {op : Operator} {r : R2} {f : D2} (ho : OpR X (binaryOp op) r) (o : Op2 r f) (ha : DE X F a ta) (hb : DE X F b tb) : DE X F (.BinOp a op b pos) (dOp f ta tb) :=
  ⟨mn2 o ha.mn hb.mn, (pe_op ho ha.pe hb.pe).imp (rd2 o ha.mn hb.mn)⟩
theorem de_cmp {op : CmpOp} {r : R2} {f : D2} (ho : OpR X (compareOp op) r) (o : Op2 r f) (ha : DE X F a ta) (hb : DE X F b tb) (hm : behindInMarks op b = false) : DE X F (.Compare a [op] [b] pos) (dOp f ta tb) :=
  ⟨mn2 o ha.mn hb.mn, (pe_cmpR ho ha.pe hb.pe hm).imp (rd2 o ha.mn hb.mn)⟩
theorem de_ix {r : R2} {f : D2} (hr : IxR X r) (o : Op2 r f) (ha : DE X F a ta) (hb : DE X F b tb) (hs : PlainIx b) : DE X F (.Subscript a b pos) (dOp f ta tb) :=
  ⟨mn2 o ha.mn hb.mn, (pe_ix hr ha.pe hb.pe hs).imp (rd2 o ha.mn hb.mn)⟩
/-! the operations -/
def fI (C : Int → Int → Prop) (g : Int → Int → PyData) : D2 := fun x y Q => ∃ i j, x = .int i ∧ y = .int j ∧ C i j ∧ Q (g i j)
theorem o_int {C : Int → Int → Prop} {g : Int → Int → V} {g' : Int → Int → PyData} (hg : ∀ i j H, DV H (g i j) (g' i j)) : Op2 (rI C g) (fI C g') where
  mn := fun _ _ _ _ k ⟨i, j, e1, e2, c, q⟩ => ⟨i, j, e1, e2, c, k _ q⟩
  ok := fun O H u v x y Q hO h1 h2 ⟨i, j, e1, e2, c, q⟩ => by
    subst e1 e2
    exact ⟨i, j, h1.int_inv, h2.int_inv, c, q _ H (fun _ _ h => h) (hg i j _)⟩
theorem o_int0 {g : Int → Int → V} {g' : Int → Int → PyData} (hg : ∀ i j H, DV H (g i j) (g' i j)) : Op2 (rI0 g) (fI (fun _ _ => True) g') where
  mn := fun _ _ _ _ k ⟨i, j, e1, e2, c, q⟩ => ⟨i, j, e1, e2, c, k _ q⟩
  ok := fun O H u v x y Q hO h1 h2 ⟨i, j, e1, e2, _, q⟩ => by
    subst e1 e2
    exact ⟨i, j, h1.int_inv, h2.int_inv, q _ H (fun _ _ h => h) (hg i j _)⟩
/-- == and != of plain data -/
def fEq (neg : Bool) : D2 := fun x y Q => SeqAt.shaped x = true ∧ SeqAt.shaped y = true ∧ Q (.bool (PyData.eqv x y != neg))
theorem o_eq {neg : Bool} : Op2 (rEqD neg) (fEq neg) where
  mn := fun _ _ _ _ k ⟨e1, e2, q⟩ => ⟨e1, e2, k _ q⟩
  ok := fun O H u v x y Q hO h1 h2 ⟨e1, e2, q⟩ => ⟨x, y, DV.mono hide_le h1, DV.mono hide_le h2, e1, e2, q _ H (fun _ _ h => h) (.bl _)⟩
/-- is None -/
def isNone : PyData → Bool
  | .none => true
  | _ => false
def fIs : D2 := fun x y Q => y = .none ∧ Q (.bool (isNone x))
def fIsNot : D2 := fun x y Q => y = .none ∧ Q (.bool (!isNone x))
theorem dv_non {H : Hp} {v : V} {d : PyData} (h : DV H v d) : decide (v = .non) = isNone d := by
  cases h <;> first | rfl | (exact decide_eq_false (fun z => by cases z))
theorem o_is : Op2 (fun x y H Q => y = .non ∧ Q (.bl (decide (x = .non))) H) fIs where
  mn := fun _ _ _ _ k ⟨e, q⟩ => ⟨e, k _ q⟩
  ok := fun O H u v x y Q hO h1 h2 ⟨e, q⟩ => by
    subst e
    exact ⟨h2.non_inv, by rw [dv_non h1]; exact q _ H (fun _ _ h => h) (.bl _)⟩
/-- an item of a tuple, of a list -/
def fIxT : D2 := fun x y Q => ∃ ds i d, x = .tuple ds ∧ y = .int i ∧ atI ds i = some d ∧ Q d
def fIxL : D2 := fun x y Q => ∃ ds i d, x = .list ds ∧ y = .int i ∧ atI ds i = some d ∧ Q d
theorem atI_dv {H : Hp} {vs : List V} {ds : List PyData} {i : Int} {d : PyData} (h : DVs H vs ds) (e : atI ds i = some d) : ∃ v, atI vs i = some v ∧ DV H v d := by
  unfold atI at e ⊢
  rw [h.length]
  cases q : ixN ds.length i with
  | none => rw [q] at e; cases e
  | some j =>
    rw [q] at e
    exact h.get e
theorem o_ixT {K : PySem.W.Frag} : Op2 (rIxT K) fIxT where
  mn := fun _ _ _ _ k ⟨ds, i, d, e1, e2, e3, q⟩ => ⟨ds, i, d, e1, e2, e3, k _ q⟩
  ok := fun O H u v x y Q hO h1 h2 ⟨ds, i, d, e1, e2, e3, q⟩ => by
    subst e1 e2
    obtain ⟨a, xs, rfl, ha, hd⟩ := h1.tup_inv
    obtain ⟨w, ew, hw⟩ := atI_dv hd e3
    exact ⟨a, xs, i, w, rfl, h2.int_inv, .of (of_hide ha).1, ew, q w H (fun _ _ h => h) hw⟩
theorem o_ixL {K : PySem.W.Frag} : Op2 (rIxL K) fIxL where
  mn := fun _ _ _ _ k ⟨ds, i, d, e1, e2, e3, q⟩ => ⟨ds, i, d, e1, e2, e3, k _ q⟩
  ok := fun O H u v x y Q hO h1 h2 ⟨ds, i, d, e1, e2, e3, q⟩ => by
    subst e1 e2
    obtain ⟨a, xs, rfl, ha, hd⟩ := h1.lst_inv
    obtain ⟨w, ew, hw⟩ := atI_dv hd e3
    exact ⟨a, xs, i, w, rfl, h2.int_inv, .of (of_hide ha).1, ew, q w H (fun _ _ h => h) hw⟩
theorem dv_new_lst {O : List Addr} {H : Hp} {p : Addr} {xs : List V} {ds : List PyData} (hp : H p = none) (hO : p ∉ O) (h : DVs (hide O H) xs ds) : DV (hide O (upd H p (.lst xs))) (.ref p) (.list ds) :=
  .lst (hide_of upd_same hO) (DVs.mono (hide_same (same_upd hp)) h)
theorem dv_new_tup {O : List Addr} {H : Hp} {p : Addr} {xs : List V} {ds : List PyData} (hp : H p = none) (hO : p ∉ O) (h : DVs (hide O H) xs ds) : DV (hide O (upd H p (.tup xs))) (.ref p) (.tuple ds) :=
  .tup (hide_of upd_same hO) (DVs.mono (hide_same (same_upd hp)) h)
/-- list + list -/
def fCatL : D2 := fun x y Q => ∃ ds es, x = .list ds ∧ y = .list es ∧ ds.length + es.length ≤ sizeLine ∧ Q (.list (ds ++ es))
theorem o_catL : Op2 rCat fCatL where
  mn := fun _ _ _ _ k ⟨ds, es, e1, e2, e3, q⟩ => ⟨ds, es, e1, e2, e3, k _ q⟩
  ok := fun O H u v x y Q hO h1 h2 ⟨ds, es, e1, e2, e3, q⟩ => by
    subst e1 e2
    obtain ⟨a, xs, rfl, ha, hd⟩ := h1.lst_inv
    obtain ⟨b, ys, rfl, hb, he⟩ := h2.lst_inv
    refine ⟨a, b, xs, ys, rfl, rfl, (of_hide ha).1, (of_hide hb).1, by rw [hd.length, he.length]; exact e3, fun p hp => q _ _ (same_upd hp) (dv_new_lst hp (hO p hp) (hd.append he))⟩
/-- tuple + tuple, neither empty -/
def fCatT : D2 := fun x y Q => ∃ ds es, x = .tuple ds ∧ y = .tuple es ∧ ds.length + es.length ≤ sizeLine ∧ Q (.tuple (ds ++ es))
end
end L2.L3

namespace L2.L3
open PySem PySem.Spec PyProof.Rows
theorem ofT {A B : Prop} (h : if true = true then A else B) : A := by rw [if_pos rfl] at h; exact h
theorem ofF {A B : Prop} (h : if false = true then A else B) : B := by rw [if_neg Bool.false_ne_true] at h; exact h
/-! ### argument lists -/
abbrev DTA := DEnv → (List PyData → DEnv → Prop) → Prop
def MnA (t : DTA) : Prop := ∀ ρ Q Q', (∀ d ρ', Q d ρ' → Q' d ρ') → t ρ Q → t ρ Q'
def rdA (K : PySem.W.Frag) (F : Fx) (t : DTA) : TA := fun σ H Q => ∃ ρ O, DSt K F H σ ρ O ∧ t ρ fun ds ρ' => ∀ vs H' O', DSt K F H' σ ρ' O' → Stp O H O' H' → DVs (hide O' H') vs ds → Q vs H'
structure DA (X : Cx) (F : Fx) (es : List Expr) (t : DTA) : Prop where
  mn : MnA t
  pa : PA X es (rdA X.K F t)
theorem _root_.L2.PA.imp {X : Cx} {e : List Expr} {t t' : TA} (h : PA X e t) (k : ∀ σ H Q, t' σ H Q → t σ H Q) : PA X e t' := fun pos pins s σ H Q I q => h pos pins s σ H Q I (k σ H Q q)
section
variable {X : Cx} {F : Fx} {a b e c : Expr} {es : List Expr} {ta tb tc : DT} {tA : DTA} {pos : Pos}
def dNil : DTA := fun ρ Q => Q [] ρ
def dCons (ta : DT) (tr : DTA) : DTA := fun ρ Q => ta ρ fun d ρ1 => tr ρ1 fun ds ρ2 => Q (d :: ds) ρ2
theorem da_nil : DA X F [] dNil := ⟨fun _ _ _ k q => k _ _ q, pa_nil.imp fun σ H Q ⟨ρ, O, st, q⟩ => q [] H O st .refl .nil⟩
theorem da_cons (ha : DE X F e ta) (hr : DA X F es tA) (hs : starEach (e :: es) X.env = (false, eval e X.env) :: starEach es X.env := by rfl) : DA X F (e :: es) (dCons ta tA) :=
  ⟨fun _ _ _ k q => ha.mn _ _ _ (fun _ _ q1 => hr.mn _ _ _ (fun _ _ q2 => k _ _ q2) q1) q, (pa_cons ha.pe hr.pa hs).imp fun σ H Q ⟨ρ, O, st, q⟩ =>
    ⟨ρ, O, st, ha.mn _ _ _ (fun d ρ1 q1 v H1 O1 st1 s1 d1 => ⟨ρ1, O1, st1, hr.mn _ _ _ (fun ds ρ2 q2 vs H2 O2 st2 s2 d2 => q2 (v :: vs) H2 O2 st2 (s1.trans s2) (.cons (DV.mono s2.hid d1) d2)) q1⟩) q⟩⟩
/-! ### displays -/
def dTup (t : DTA) : DT := fun ρ Q => t ρ fun ds ρ' => ds.length ≤ sizeLine ∧ Q (.tuple ds) ρ'
def dLst (t : DTA) : DT := fun ρ Q => t ρ fun ds ρ' => ds.length ≤ sizeLine ∧ Q (.list ds) ρ'
theorem de_tup {x1} (h : DA X F es tA) : DE X F (.Tuple es x1 pos) (dTup tA) :=
  ⟨fun _ _ _ k q => h.mn _ _ _ (fun _ _ q1 => ⟨q1.1, k _ _ q1.2⟩) q, (pe_tup h.pa).imp fun σ H Q ⟨ρ, O, st, q⟩ =>
    ⟨ρ, O, st, h.mn _ _ _ (fun ds ρ1 q1 vs H1 O1 st1 s1 d1 => ⟨by rw [d1.length]; exact q1.1, fun p hp => q1.2 _ _ O1 (st1.grow (same_upd hp)) (s1.trans (.same (same_upd hp))) (dv_new_tup hp (st1.nofree p hp) d1)⟩) q⟩⟩
theorem de_lst (h : DA X F es tA) : DE X F (.List es pos) (dLst tA) :=
  ⟨fun _ _ _ k q => h.mn _ _ _ (fun _ _ q1 => ⟨q1.1, k _ _ q1.2⟩) q, (pe_lst h.pa).imp fun σ H Q ⟨ρ, O, st, q⟩ =>
    ⟨ρ, O, st, h.mn _ _ _ (fun ds ρ1 q1 vs H1 O1 st1 s1 d1 => ⟨by rw [d1.length]; exact q1.1, fun p hp => q1.2 _ _ O1 (st1.grow (same_upd hp)) (s1.trans (.same (same_upd hp))) (dv_new_lst hp (st1.nofree p hp) d1)⟩) q⟩⟩
/-! ### unary minus, not, and, or, a if t else b, chains -/
def dNeg (ta : DT) : DT := fun ρ Q => ta ρ fun d ρ' => ∃ i, d = .int i ∧ Q (.int (-i)) ρ'
theorem de_neg (ha : DE X F a ta) : DE X F (.UnaryOp .USub a pos) (dNeg ta) :=
  ⟨fun _ _ _ k q => ha.mn _ _ _ (fun _ _ ⟨i, e, q⟩ => ⟨i, e, k _ _ q⟩) q, (pe_un un_neg ha.pe).imp fun σ H Q ⟨ρ, O, st, q⟩ =>
    ⟨ρ, O, st, ha.mn _ _ _ (fun d ρ1 ⟨i, e, q1⟩ v H1 O1 st1 s1 d1 => by subst e; exact ⟨i, d1.int_inv, q1 _ H1 O1 st1 s1 (.int _)⟩) q⟩⟩
def dNot (ta : DT) : DT := fun ρ Q => ta ρ fun d ρ' => ∃ b, d = .bool b ∧ Q (.bool (!b)) ρ'
theorem de_not (ha : DE X F a ta) : DE X F (.UnaryOp .Not a pos) (dNot ta) :=
  ⟨fun _ _ _ k q => ha.mn _ _ _ (fun _ _ ⟨i, e, q⟩ => ⟨i, e, k _ _ q⟩) q, (pe_not ha.pe).imp fun σ H Q ⟨ρ, O, st, q⟩ =>
    ⟨ρ, O, st, ha.mn _ _ _ (fun d ρ1 ⟨i, e, q1⟩ v H1 O1 st1 s1 d1 => by subst e; exact ⟨i, d1.bl_inv, q1 _ H1 O1 st1 s1 (.bl _)⟩) q⟩⟩
def dAnd (ta tb : DT) : DT := fun ρ Q => ta ρ fun d ρ1 => ∃ b, d = .bool b ∧ if b = true then tb ρ1 Q else Q (.bool false) ρ1
def dOr (ta tb : DT) : DT := fun ρ Q => ta ρ fun d ρ1 => ∃ b, d = .bool b ∧ if b = true then Q (.bool true) ρ1 else tb ρ1 Q
theorem de_one {op} (h : DE X F a ta) : DE X F (.BoolOp op [a] pos) ta := ⟨h.mn, pe_one h.pe⟩
theorem de_and {rest : List Expr} (ha : DE X F a ta) (hb : DE X F (.BoolOp .And (b :: rest) pos) tb) : DE X F (.BoolOp .And (a :: b :: rest) pos) (dAnd ta tb) :=
  ⟨fun _ _ _ k q => ha.mn _ _ _ (fun _ _ ⟨i, e, q⟩ => ⟨i, e, by cases i <;> first | exact k _ _ q | exact hb.mn _ _ _ k q⟩) q, (pe_and ha.pe hb.pe).imp fun σ H Q ⟨ρ, O, st, q⟩ =>
    ⟨ρ, O, st, ha.mn _ _ _ (fun d ρ1 ⟨i, e, q1⟩ v H1 O1 st1 s1 d1 => by
      subst e
      refine ⟨i, d1.bl_inv, ?_⟩
      cases i with
      | true => exact iteT ⟨ρ1, O1, st1, hb.mn _ _ _ (fun d ρ2 q2 w H2 O2 st2 s2 d2 => q2 w H2 O2 st2 (s1.trans s2) d2) (ofT q1)⟩
      | false => exact iteF (ofF q1 _ H1 O1 st1 s1 (.bl _))) q⟩⟩
theorem de_or {rest : List Expr} (ha : DE X F a ta) (hb : DE X F (.BoolOp .Or (b :: rest) pos) tb) : DE X F (.BoolOp .Or (a :: b :: rest) pos) (dOr ta tb) :=
  ⟨fun _ _ _ k q => ha.mn _ _ _ (fun _ _ ⟨i, e, q⟩ => ⟨i, e, by cases i <;> first | exact k _ _ q | exact hb.mn _ _ _ k q⟩) q, (pe_or ha.pe hb.pe).imp fun σ H Q ⟨ρ, O, st, q⟩ =>
    ⟨ρ, O, st, ha.mn _ _ _ (fun d ρ1 ⟨i, e, q1⟩ v H1 O1 st1 s1 d1 => by
      subst e
      refine ⟨i, d1.bl_inv, ?_⟩
      cases i with
      | false => exact iteF ⟨ρ1, O1, st1, hb.mn _ _ _ (fun d ρ2 q2 w H2 O2 st2 s2 d2 => q2 w H2 O2 st2 (s1.trans s2) d2) (ofF q1)⟩
      | true => exact iteT (ofT q1 _ H1 O1 st1 s1 (.bl _))) q⟩⟩
/-- a op1 b op2 c, ints -/
def dChain (p p' : Int → Int → Bool) (ta tb tc : DT) : DT := fun ρ Q => ta ρ fun x ρ1 => tb ρ1 fun y ρ2 => ∃ i j, x = .int i ∧ y = .int j ∧ if p i j = true then tc ρ2 (fun z ρ3 => ∃ k, z = .int k ∧ Q (.bool (p' j k)) ρ3) else Q (.bool false) ρ2
theorem de_chain {op op' : CmpOp} {p p' : Int → Int → Bool} (ho : OpR X (compareOp op) (rI0 fun i j => .bl (p i j))) (ho' : OpR X (compareOp op') (rI0 fun i j => .bl (p' i j))) (ha : DE X F a ta) (hb : DE X F b tb) (hc : DE X F c tc)
    (hm : lastMarks [op, op'] [b, c] = false := by with_unfolding_all rfl) : DE X F (.Compare a [op, op'] [b, c] pos) (dChain p p' ta tb tc) :=
  ⟨fun _ _ _ k q => ha.mn _ _ _ (fun _ _ q1 => hb.mn _ _ _ (fun _ _ ⟨i, j, e1, e2, q2⟩ => ⟨i, j, e1, e2, by
      by_cases h : p i j = true
      · rw [if_pos h] at q2 ⊢; exact hc.mn _ _ _ (fun _ _ ⟨l, e, q3⟩ => ⟨l, e, k _ _ q3⟩) q2
      · rw [if_neg h] at q2 ⊢; exact k _ _ q2⟩) q1) q,
   (pe_chain ho ho' ha.pe hb.pe hc.pe hm).imp fun σ H Q ⟨ρ, O, st, q⟩ =>
    ⟨ρ, O, st, ha.mn _ _ _ (fun x ρ1 q1 v H1 O1 st1 s1 d1 => ⟨ρ1, O1, st1, hb.mn _ _ _ (fun y ρ2 ⟨i, j, e1, e2, q2⟩ w H2 O2 st2 s2 d2 => by
      subst e1 e2
      refine ⟨i, j, (DV.mono s2.hid d1).int_inv, d2.int_inv, p i j, rfl, ?_⟩
      by_cases h : p i j = true
      · rw [if_pos h] at q2 ⊢
        exact ⟨ρ2, O2, st2, hc.mn _ _ _ (fun z ρ3 ⟨l, e, q3⟩ u H3 O3 st3 s3 d3 => by subst e; exact ⟨j, l, (DV.mono s3.hid d2).int_inv, d3.int_inv, q3 _ H3 O3 st3 (s1.trans (s2.trans s3)) (.bl _)⟩) q2⟩
      · rw [if_neg h] at q2 ⊢
        exact q2 _ H2 O2 st2 (s1.trans s2) (.bl _)) q1⟩) q⟩⟩
end
/-! ### tests -/
abbrev DTT := DEnv → (Bool → DEnv → Prop) → Prop
def MnT (t : DTT) : Prop := ∀ ρ Q Q', (∀ d ρ', Q d ρ' → Q' d ρ') → t ρ Q → t ρ Q'
def rdT (K : PySem.W.Frag) (F : Fx) (t : DTT) : TT := fun σ H Q => ∃ ρ O, DSt K F H σ ρ O ∧ t ρ fun b ρ' => ∀ H' O', DSt K F H' σ ρ' O' → Stp O H O' H' → Q b H'
structure DB (X : Cx) (F : Fx) (e : Expr) (t : DTT) : Prop where
  mn : MnT t
  pt : PT X e (rdT X.K F t)
section
variable {X : Cx} {F : Fx} {a b e c : Expr} {ta tb tc : DT} {tA tB : DTT} {pos : Pos}
def dTst (ta : DT) : DTT := fun ρ Q => ta ρ fun d ρ' => ∃ b, d = .bool b ∧ Q b ρ'
theorem mn_tst (h : Mn ta) : MnT (dTst ta) := fun _ _ _ k q => h _ _ _ (fun _ _ ⟨b, e, q1⟩ => ⟨b, e, k _ _ q1⟩) q
theorem rd_tst {K : PySem.W.Frag} (h : Mn ta) : ∀ σ H Q, rdT K F (dTst ta) σ H Q → rdE K F ta σ H fun x H' => ∃ k, x = .bl k ∧ Q k H' := fun σ H Q ⟨ρ, O, st, q⟩ =>
  ⟨ρ, O, st, h _ _ _ (fun d ρ1 ⟨b, e, q1⟩ v H1 O1 st1 s1 d1 => by subst e; exact ⟨b, d1.bl_inv, q1 H1 O1 st1 s1⟩) q⟩
/-- a call, a name, a subscript whose value is a bool -/
theorem db_val (h : DE X F e ta) (he : ∀ whole, isTrue e X.env whole = (do let v ← whole; standAt e.pos; holding [v] (truthy v)) := by intro _; rfl) : DB X F e (dTst ta) := ⟨mn_tst h.mn, (pt_val h.pe he).imp (rd_tst h.mn)⟩
theorem db_cmp {op : CmpOp} {r : R2} {f : D2} (ho : OpR X (compareOp op) r) (o : Op2 r f) (ha : DE X F a ta) (hb : DE X F b tb) (hm : behindInMarks op b = false) : DB X F (.Compare a [op] [b] pos) (dTst (dOp f ta tb)) :=
  ⟨mn_tst (mn2 o ha.mn hb.mn), (pt_cmpR ho ha.pe hb.pe hm).imp fun σ H Q q => rd2 o ha.mn hb.mn σ H _ (rd_tst (mn2 o ha.mn hb.mn) σ H Q q)⟩
def bNot (t : DTT) : DTT := fun ρ Q => t ρ fun b ρ' => Q (!b) ρ'
theorem db_not (h : DB X F a tA) : DB X F (.UnaryOp .Not a pos) (bNot tA) := ⟨fun _ _ _ k q => h.mn _ _ _ (fun _ _ q => k _ _ q) q, (pt_not h.pt).imp fun σ H Q ⟨ρ, O, st, q⟩ => ⟨ρ, O, st, h.mn _ _ _ (fun b ρ1 q1 H1 O1 st1 s1 => q1 H1 O1 st1 s1) q⟩⟩
/-- and, or: a list of tests -/
structure DW (X : Cx) (F : Fx) (e : Expr) (t : DTT) : Prop where
  mn : MnT t
  pw : PW X e (rdT X.K F t)
theorem _root_.L2.PW.imp {X : Cx} {e : Expr} {t t' : TT} (h : PW X e t) (k : ∀ σ H Q, t' σ H Q → t σ H Q) : PW X e t' := fun wh pins s σ H Q I q => h wh pins s σ H Q I (k σ H Q q)
theorem DW.db {t : DTT} (h : DW X F e t) : DB X F e t := ⟨h.mn, h.pw.pt⟩
def bAnd (t u : DTT) : DTT := fun ρ Q => t ρ fun b ρ1 => if b = true then u ρ1 Q else Q false ρ1
def bOr (t u : DTT) : DTT := fun ρ Q => t ρ fun b ρ1 => if b = true then Q true ρ1 else u ρ1 Q
theorem dw_or1 (h : DB X F a tA) : DW X F (.BoolOp .Or [a] pos) tA := ⟨h.mn, pw_or1 h.pt⟩
theorem dw_or {rest : List Expr} (ha : DB X F a tA) (hb : DW X F (.BoolOp .Or (b :: rest) pos) tB) : DW X F (.BoolOp .Or (a :: b :: rest) pos) (bOr tA tB) :=
  ⟨fun _ _ _ k q => ha.mn _ _ _ (fun b _ q => by cases b <;> first | exact k _ _ q | exact hb.mn _ _ _ k q) q, (pw_or ha.pt hb.pw).imp fun σ H Q ⟨ρ, O, st, q⟩ =>
    ⟨ρ, O, st, ha.mn _ _ _ (fun b ρ1 q1 H1 O1 st1 s1 => by
      cases b with
      | false => exact iteF ⟨ρ1, O1, st1, hb.mn _ _ _ (fun b ρ2 q2 H2 O2 st2 s2 => q2 H2 O2 st2 (s1.trans s2)) (ofF q1)⟩
      | true => exact iteT (ofT q1 H1 O1 st1 s1)) q⟩⟩
def dIf (t : DTT) (ta tb : DT) : DT := fun ρ Q => t ρ fun b ρ1 => if b = true then ta ρ1 Q else tb ρ1 Q
theorem de_if (hc : DB X F c tA) (ha : DE X F a ta) (hb : DE X F b tb) : DE X F (.IfExp c a b pos) (dIf tA ta tb) :=
  ⟨fun _ _ _ k q => hc.mn _ _ _ (fun b _ q => by cases b <;> first | exact ha.mn _ _ _ k q | exact hb.mn _ _ _ k q) q, (pe_ifExp hc.pt ha.pe hb.pe).imp fun σ H Q ⟨ρ, O, st, q⟩ =>
    ⟨ρ, O, st, hc.mn _ _ _ (fun b ρ1 q1 H1 O1 st1 s1 => by
      cases b with
      | true => exact iteT ⟨ρ1, O1, st1, ha.mn _ _ _ (fun d ρ2 q2 v H2 O2 st2 s2 d2 => q2 v H2 O2 st2 (s1.trans s2) d2) (ofT q1)⟩
      | false => exact iteF ⟨ρ1, O1, st1, hb.mn _ _ _ (fun d ρ2 q2 v H2 O2 st2 s2 d2 => q2 v H2 O2 st2 (s1.trans s2) d2) (ofF q1)⟩) q⟩⟩
end
/-! ### built-in calls on plain data -/
abbrev DN := List PyData → (PyData → Prop) → Prop
structure OpN (r : List V → Hp → VK → Prop) (f : DN) : Prop where
  mn : ∀ xs Q Q', (∀ d, Q d → Q' d) → f xs Q → f xs Q'
  ok : ∀ (O : List Addr) (H : Hp) (vs : List V) (xs : List PyData) (Q : VK), (∀ p, H p = none → p ∉ O) → DVs (hide O H) vs xs → f xs (fun d => ∀ w H', Same H H' → DV (hide O H') w d → Q w H') → r vs H Q
def dCB (f : DN) (t : DTA) : DT := fun ρ Q => t ρ fun ds ρ' => f ds fun d => Q d ρ'
section
variable {X : Cx} {F : Fx} {e : Expr} {es : List Expr} {tA : DTA} {pos p : Pos} {x : Str} {id T : String} {r : List V → Hp → VK → Prop} {f : DN}
theorem rdN {K : PySem.W.Frag} (o : OpN r f) (h : MnA tA) : ∀ σ H Q, rdE K F (dCB f tA) σ H Q → tCB r (rdA K F tA) σ H Q := fun σ H Q ⟨ρ, O, st, q⟩ =>
  ⟨ρ, O, st, h _ _ _ (fun ds ρ1 q1 vs H1 O1 st1 s1 d1 => o.ok O1 H1 vs ds Q st1.nofree d1 (o.mn _ _ _ (fun d q2 w H2 s2 d2 => q2 w H2 O1 (st1.grow s2) (s1.trans (.same s2)) d2) q1)) q⟩
theorem mnN (o : OpN r f) (h : MnA tA) : Mn (dCB f tA) := fun _ _ _ k q => h _ _ _ (fun _ _ q1 => o.mn _ _ _ (fun _ q2 => k _ _ q2) q1) q
theorem de_callB (hc : CallR X (.builtin id) r) (o : OpN r f) (hg : Gl X x) (hm : X.mg x = none) (hv : bootBuiltins x = some (.builtin id)) (ha : DA X F (e :: es) tA) (hn : x ≠ "__name__" := by decide) (hdb : (x == ("__debug__" : Str)) = false := by decide)
    (he : starEach (e :: es) X.env = (false, eval e X.env) :: starEach es X.env := by rfl) (hpl : (backTo pos (starEach es X.env)).any (·.1) = false := by rfl) : DE X F (.Call (.Name x p) (e :: es) [] pos) (dCB f tA) :=
  ⟨mnN o ha.mn, (pe_callB hc hg hm hv ha.pa hn hdb he hpl).imp (rdN o ha.mn)⟩
end
/-- isinstance(x, T): T told by name -/
def dIsI (n : String) (ta : DT) : DT := fun ρ Q => ta ρ fun d ρ' => ∃ b, (∀ K : PySem.W.Frag, PySem.W.kitOne K (.type (tyOfD d)) (.type n) = some b) ∧ Q (.bool b) ρ'
section
variable {X : Cx} {F : Fx} {e : Expr} {ta : DT} {pos p p2 : Pos} {T : String} {x : Str}
theorem de_isinst (hg : Gl X "isinstance") (hm : X.mg "isinstance" = none) (h : DE X F e ta) (ht : PE X (.Name x p2) (tC (.ty T)))
    (he : starEach [e, .Name x p2] X.env = (false, eval e X.env) :: starEach [.Name x p2] X.env := by rfl) (he2 : starEach [.Name x p2] X.env = (false, eval (.Name x p2) X.env) :: starEach [] X.env := by rfl) (hpl : (backTo pos (starEach [.Name x p2] X.env)).any (·.1) = false := by rfl) :
    DE X F (.Call (.Name "isinstance" p) [e, .Name x p2] [] pos) (dIsI T ta) :=
  ⟨fun _ _ _ k q => h.mn _ _ _ (fun _ _ ⟨b, e, q⟩ => ⟨b, e, k _ _ q⟩) q,
   (pe_callB call_isinst hg hm (show bootBuiltins "isinstance" = some (.builtin "isinstance") by decide +kernel) (pa_cons h.pe (pa_cons ht pa_nil he2) he) (by decide) (by decide) he hpl).imp fun σ H Q ⟨ρ, O, st, q⟩ =>
    ⟨ρ, O, st, h.mn _ _ _ (fun d ρ1 ⟨b, e, q1⟩ v H1 O1 st1 s1 d1 => ⟨v, d, T, b, rfl, DV.mono hide_le d1, e, q1 _ H1 O1 st1 s1 (.bl b)⟩) q⟩⟩
end
end L2.L3

namespace L2.L3
open PySem PySem.Spec PyProof.Rows
/-! ### calls of the text's defs: plain data in, plain data out -/
def OOk (H : Hp) (O : List Addr) : Prop := ∀ a ∈ O, ∃ xs, H a = some (.lst xs)
def MnN (f : DN) : Prop := ∀ xs Q Q', (∀ d, Q d → Q' d) → f xs Q → f xs Q'
def spP (f : DN) : Sp := fun vs H Q _ => ∃ O ds, OOk H O ∧ DVs (hide O H) vs ds ∧ f ds fun d => ∀ v H', Same H H' → DV (hide O H') v d → Q v H'
section
variable {X : Cx} {F : Fx} {e : Expr} {es : List Expr} {tA : DTA} {pos p : Pos} {x : Str} {f : DN} {k : Nat} {g : Addr} {fd : FuncData} {ps : List Str}
theorem de_call (G : FnOk X.prog X.w X.K X.mg X.base CX0 k g fd ps (spP f)) (hf : MnN f) (hr : Room k X.A) (hg : Gl X x) (hm : X.mg x = some (.ref g)) (hk : PySem.W.keepIn X.K (.ref g) = true) (hb : Binds X.K fd ps [])
    (ha : DA X F (e :: es) tA) (hdb : (x == ("__debug__" : Str)) = false := by decide) (he : starEach (e :: es) X.env = (false, eval e X.env) :: starEach es X.env := by rfl) (hpl : (backTo pos (starEach es X.env)).any (·.1) = false := by rfl) :
    DE X F (.Call (.Name x p) (e :: es) [] pos) (dCB f tA) :=
  ⟨fun _ _ _ k q => ha.mn _ _ _ (fun _ _ q1 => hf _ _ _ (fun _ q2 => k _ _ q2) q1) q, (pe_call G hr hg hm hk hb .nil pass0 ha.pa hdb he hpl).imp fun σ H Q ⟨ρ, O, st, q⟩ =>
    ⟨ρ, O, st, ha.mn _ _ _ (fun ds ρ1 q1 vs H1 O1 st1 s1 d1 => by
      refine ⟨O1, ds, st1.live, by rw [List.append_nil]; exact d1, hf _ _ _ (fun d q2 v H2 s2 d2 => q2 v H2 O1 (st1.grow s2) (s1.trans (.same s2)) d2) q1⟩) q⟩⟩
end
/-! ### calls that draw: the script and a list that grows are handed in first -/
abbrev DR := Nat → List PyData → (PyData → Nat → Prop) → Prop
def MnR (f : DR) : Prop := ∀ n xs Q Q', (∀ d m, Q d m → Q' d m) → f n xs Q → f n xs Q'
def spR (K : PySem.W.Frag) (f : DR) : Sp := fun vs H Q _ => ∃ O sa ta ts ns rest ds n, vs = V.ref sa :: V.ref ta :: rest ∧ OOk H O ∧ Scr K H sa ns ∧ ta ∈ O ∧ H ta = some (.lst ts) ∧ ts.length ≤ n ∧ DVs (hide O H) rest ds ∧
  f n ds fun d m => ∀ v H' ts', (∀ b o, b ≠ ta → H b = some o → H' b = some o) → H' ta = some (.lst ts') → ts'.length ≤ m → DV (hide O H') v d → Q v H'
def dDraw (f : DR) (i j : Nat) (t : DTA) : DT := fun ρ Q => ∃ ns a, ρ[i]? = some (some (.scr ns)) ∧ (∃ n, ρ[j]? = some (some (.cnt a n))) ∧ t ρ fun ds ρ1 => ∃ n, ρ1[j]? = some (some (.cnt a n)) ∧ f n ds fun d m => Q d (ρ1.set j (some (.cnt a m)))
section
variable {X : Cx} {F : Fx} {e1 e2 : Expr} {es : List Expr} {tA : DTA} {pos p p1 p2 : Pos} {x s1 s2 : Str} {f : DR} {k : Nat} {g : Addr} {fd : FuncData} {ps : List Str} {i j : Nat}
theorem de_draw (G : FnOk X.prog X.w X.K X.mg X.base CX0 k g fd ps (spR X.K f)) (hf : MnR f) (hr : Room k X.A) (hg : Gl X x) (hm : X.mg x = some (.ref g)) (hk : PySem.W.keepIn X.K (.ref g) = true) (hb : Binds X.K fd ps [])
    (h1 : PE X (.Name s1 p1) (tVar i)) (h2 : PE X (.Name s2 p2) (tVar j)) (ha : DA X F es tA) (hdb : (x == ("__debug__" : Str)) = false := by decide)
    (he : starEach (.Name s1 p1 :: .Name s2 p2 :: es) X.env = (false, eval (.Name s1 p1) X.env) :: starEach (.Name s2 p2 :: es) X.env := by rfl) (he2 : starEach (.Name s2 p2 :: es) X.env = (false, eval (.Name s2 p2) X.env) :: starEach es X.env := by rfl)
    (hpl : (backTo pos (starEach (.Name s2 p2 :: es) X.env)).any (·.1) = false := by rfl) :
    DE X F (.Call (.Name x p) (.Name s1 p1 :: .Name s2 p2 :: es) [] pos) (dDraw f i j tA) :=
  ⟨fun _ _ _ k ⟨ns, a, e1, e2, q⟩ => ⟨ns, a, e1, e2, ha.mn _ _ _ (fun _ _ ⟨n, e, q1⟩ => ⟨n, e, hf _ _ _ _ (fun _ _ q2 => k _ _ q2) q1⟩) q⟩,
   (pe_call G hr hg hm hk hb .nil pass0 (pa_cons h1 (pa_cons h2 ha.pa he2) he) hdb he hpl).imp fun σ H Q ⟨ρ, O, st, ns, a, e1, ⟨n0, e2⟩, q⟩ => by
    obtain ⟨v1, hv1, sa, rfl, hsc⟩ := st.at_ i _ e1
    obtain ⟨v2, hv2, ts0, rfl, haO0, ha00, hts0, hl0⟩ := st.at_ j _ e2
    refine ⟨_, hv1, _, hv2, ρ, O, st, ha.mn _ _ _ (fun ds ρ1 ⟨n, e, q1⟩ vs H1 O1 st1 s1 d1 => ?_) q⟩
    obtain ⟨v3, hv3, ts, rfl, haO, ha0, hts, hl⟩ := st1.at_ j _ e
    have hsc1 : Scr X.K H1 sa ns := hsc.mono fun o u q => s1.keep _ _ (fun z => by obtain ⟨xs, e⟩ := st.live _ z; rw [q] at e; cases e) q
    refine ⟨O1, sa, a, ts, ns, vs ++ [], ds, n, rfl, st1.live, hsc1, haO, hts, hl, by rw [List.append_nil]; exact d1, hf _ _ _ _ (fun d m q2 v H2 ts' hk2 ht2 hl2 d2 => ?_) q1⟩
    obtain ⟨st2, s2⟩ := st1.app (H' := H2) (c' := .cnt a m) e hv3 rfl haO ha0 hts hk2 ht2 (.inr ⟨m, rfl, hl2⟩)
    exact q2 v H2 O1 st2 (s1.trans s2) d2⟩
end
/-! ### targets -/
abbrev DTG := PyData → DEnv → (DEnv → Prop) → Prop
def rdG (K : PySem.W.Frag) (F : Fx) (t : DTG) : TG := fun v σ H Q => ∃ ρ O d, DSt K F H σ ρ O ∧ DV (hide O H) v d ∧ t d ρ fun ρ' => ∀ σ' H' O', DSt K F H' σ' ρ' O' → Stp O H O' H' → Q σ' H'
structure DG (X : Cx) (F : Fx) (tg : Expr) (t : DTG) : Prop where
  mn : ∀ d ρ Q Q', (∀ ρ', Q ρ' → Q' ρ') → t d ρ Q → t d ρ Q'
  pg : PG X tg (rdG X.K F t)
abbrev DTGs := List PyData → DEnv → (DEnv → Prop) → Prop
def rdGs (K : PySem.W.Frag) (F : Fx) (t : DTGs) : TGs := fun vs σ H Q => ∃ ρ O ds, DSt K F H σ ρ O ∧ DVs (hide O H) vs ds ∧ t ds ρ fun ρ' => ∀ σ' H' O', DSt K F H' σ' ρ' O' → Stp O H O' H' → Q σ' H'
structure DGs (X : Cx) (F : Fx) (tg : List Expr) (t : DTGs) : Prop where
  mn : ∀ d ρ Q Q', (∀ ρ', Q ρ' → Q' ρ') → t d ρ Q → t d ρ Q'
  pg : PGs X tg (rdGs X.K F t)
theorem _root_.L2.PG.imp {X : Cx} {e : Expr} {t t' : TG} (h : PG X e t) (k : ∀ v σ H Q, t' v σ H Q → t v σ H Q) : PG X e t' := fun pins s σ H v u Q I r q => h pins s σ H v u Q I r (k v σ H Q q)
theorem _root_.L2.PGs.imp {X : Cx} {e : List Expr} {t t' : TGs} (h : PGs X e t) (k : ∀ v σ H Q, t' v σ H Q → t v σ H Q) : PGs X e t' := fun pins s σ H v u Q I r q => h pins s σ H v u Q I r (k v σ H Q q)
section
variable {X : Cx} {F : Fx} {e : Expr} {es : List Expr} {pos : Pos} {x : Str} {t : DTG} {ts : DTGs}
def gN (i : Nat) : DTG := fun d ρ Q => Q (ρ.set i (some (.dat d)))
theorem dg_name {i : Nat} (h : PG X (.Name x pos) (gName i)) : DG X F (.Name x pos) (gN i) := ⟨fun _ _ _ _ k q => k _ q, h.imp fun v σ H Q ⟨ρ, O, d, st, hd, q⟩ => q _ H O (st.set hd) .refl⟩
def gNl : DTGs := fun ds ρ Q => ds = [] ∧ Q ρ
def gCs (t : DTG) (u : DTGs) : DTGs := fun ds ρ Q => ∃ d r, ds = d :: r ∧ t d ρ fun ρ' => u r ρ' Q
theorem dgs_nil : DGs X F [] gNl := ⟨fun _ _ _ _ k q => ⟨q.1, k _ q.2⟩, pgs_nil.imp fun vs σ H Q ⟨ρ, O, ds, st, hd, e, q⟩ => by
  subst e
  cases hd
  exact ⟨rfl, q _ H O st .refl⟩⟩
theorem dgs_cons (h1 : DG X F e t) (h2 : DGs X F es ts) (hs : (assignEach (e :: es) X.env).map (·.2) = assign e X.env :: (assignEach es X.env).map (·.2) := by rfl) : DGs X F (e :: es) (gCs t ts) :=
  ⟨fun _ _ _ _ k ⟨d, r, e, q⟩ => ⟨d, r, e, h1.mn _ _ _ _ (fun _ q1 => h2.mn _ _ _ _ k q1) q⟩, (pgs_cons h1.pg h2.pg hs).imp fun vs σ H Q ⟨ρ, O, ds, st, hd, d, r, e, q⟩ => by
    subst e
    cases hd with
    | cons hd hr =>
      exact ⟨_, _, rfl, ρ, O, d, st, hd, h1.mn _ _ _ _ (fun ρ1 q1 σ1 H1 O1 st1 s1 => ⟨ρ1, O1, r, st1, DVs.mono s1.hid hr, h2.mn _ _ _ _ (fun ρ2 q2 σ2 H2 O2 st2 s2 => q2 σ2 H2 O2 st2 (s1.trans s2)) q1⟩) q⟩⟩
def gTp (n : Nat) (t : DTGs) : DTG := fun d ρ Q => ∃ ds, d = .tuple ds ∧ ds.length = n ∧ t ds ρ Q
theorem dg_tup {k n : Nat} (hc : X.calm = true) (h : DGs X F es ts) (hn : (assignEach es X.env).length = n := by rfl) (hst : (assignEach es X.env).findIdx? (·.1) = none := by rfl) : DG X F (.Tuple es k pos) (gTp n ts) :=
  ⟨fun _ _ _ _ k ⟨ds, e, l, q⟩ => ⟨ds, e, l, h.mn _ _ _ _ k q⟩, (pg_tup hc h.pg hn hst).imp fun v σ H Q ⟨ρ, O, d, st, hd, ds, e, l, q⟩ => by
    subst e
    obtain ⟨a, xs, rfl, ha, hx⟩ := hd.tup_inv
    exact ⟨a, xs, rfl, .of (of_hide ha).1, by rw [hx.length]; exact l, ρ, O, ds, st, hx, q⟩⟩
end
/-! ### statements -/
structure DEnds where
  nx : DEnv → Prop
  rt : PyData → DEnv → Prop
  bk : DEnv → Prop := fun _ => False
  ct : DEnv → Prop := fun _ => False
abbrev DTS := DEnds → DEnv → Prop
structure Fits (K : PySem.W.Frag) (F : Fx) (O : List Addr) (H : Hp) (D : Ends) (DD : DEnds) : Prop where
  nx : ∀ σ' H' ρ' O', DSt K F H' σ' ρ' O' → Stp O H O' H' → DD.nx ρ' → D.nx σ' H'
  rt : ∀ v σ' H' d ρ' O', DSt K F H' σ' ρ' O' → Stp O H O' H' → DV (hide (F.O₀ ++ F.A₀) H') v d → DD.rt d ρ' → D.rt v H'
  bk : ∀ σ' H' ρ' O', DSt K F H' σ' ρ' O' → Stp O H O' H' → DD.bk ρ' → D.bk σ' H'
  ct : ∀ σ' H' ρ' O', DSt K F H' σ' ρ' O' → Stp O H O' H' → DD.ct ρ' → D.ct σ' H'
theorem Fits.later {K : PySem.W.Frag} {F : Fx} {O O' : List Addr} {H H' : Hp} {D : Ends} {DD : DEnds} (f : Fits K F O H D DD) (s : Stp O H O' H') : Fits K F O' H' D DD :=
  ⟨fun σ H ρ O st s' q => f.nx σ H ρ O st (s.trans s') q, fun v σ H d ρ O st s' dv q => f.rt v σ H d ρ O st (s.trans s') dv q, fun σ H ρ O st s' q => f.bk σ H ρ O st (s.trans s') q, fun σ H ρ O st s' q => f.ct σ H ρ O st (s.trans s') q⟩
def rdS (K : PySem.W.Frag) (F : Fx) (t : DTS) : TS := fun D σ H => ∃ ρ O DD, DSt K F H σ ρ O ∧ t DD ρ ∧ Fits K F O H D DD
def DS (X : Cx) (F : Fx) (s : Stmt) (t : DTS) : Prop := PS X s (rdS X.K F t)
def DSs (X : Cx) (F : Fx) (s : List Stmt) (t : DTS) : Prop := PSs X s (rdS X.K F t)
section
variable {X : Cx} {F : Fx} {e : Expr} {es : List Expr} {st : Stmt} {rest : List Stmt} {t u : DTS} {te : DT} {tA : DTA} {tc : DTT} {tg : DTG} {pos : Pos} {x : Str}
def sNext : DTS := fun D ρ => D.nx ρ
def sSeq (t u : DTS) : DTS := fun D ρ => t { D with nx := fun ρ' => u D ρ' } ρ
theorem dss_nil : DSs X F [] sNext := pss_nil.imp fun D σ H ⟨ρ, O, DD, st, q, f⟩ => f.nx σ H ρ O st .refl q
theorem dss_cons (h1 : DS X F st t) (h2 : DSs X F rest u) : DSs X F (st :: rest) (sSeq t u) :=
  (pss_cons h1 h2).imp fun D σ H ⟨ρ, O, DD, s, q, f⟩ => ⟨ρ, O, _, s, q, ⟨fun σ' H' ρ' O' st' s' q' => ⟨ρ', O', DD, st', q', f.later s'⟩, f.rt, f.bk, f.ct⟩⟩
theorem dss_one (h : DS X F st t) : DSs X F [st] t := pss_one h
def sSet (te : DT) (tg : DTG) : DTS := fun D ρ => te ρ fun d ρ' => tg d ρ' D.nx
theorem ds_asg {tgt : Expr} (he : DE X F e te) (hg : DG X F tgt tg) (hs : swapsWithSole [tgt] e pos.line X.env = pure false := by rfl) (hw : swappedStores [tgt] e X.env = pure none := by rfl)
    (h1 : (assignEach [tgt] X.env).map (·.2) = [assign tgt X.env] := by rfl) : DS X F (.Assign [tgt] e pos) (sSet te tg) :=
  (ps_asg he.pe hg.pg hs hw h1).imp fun D σ H ⟨ρ, O, DD, st, q, f⟩ => ⟨ρ, O, st, he.mn _ _ _ (fun d ρ1 q1 v H1 O1 st1 s1 d1 => ⟨ρ1, O1, d, st1, d1, hg.mn _ _ _ _ (fun ρ2 q2 σ2 H2 O2 st2 s2 => f.nx σ2 H2 ρ2 O2 st2 (s1.trans s2) q2) q1⟩) q⟩
theorem ds_set {i : Nat} {pos' : Pos} (hN : X.N.Nodup) (hi : X.N[i]? = some x) (hx : Loc X.env.scope x) (he : DE X F e te) (hs : swapsWith e (some (.Name x pos')) pos.line X.env = pure false := by rfl)
    (hf : X.fn x = true ∨ X.env.scope.names.lookup x = some .local := by first | exact .inl rfl | exact .inr rfl | assumption) : DS X F (.Assign [.Name x pos'] e pos) (sSet te (gN i)) :=
  (ps_set hN hi hx he.pe hs hf).imp fun D σ H ⟨ρ, O, DD, st, q, f⟩ => ⟨ρ, O, st, he.mn _ _ _ (fun d ρ1 q1 v H1 O1 st1 s1 d1 => f.nx _ H1 _ O1 (st1.set d1) s1 q1) q⟩
/-- x = [..], a list that is to grow -/
def sOwn (i : Nat) (t : DTA) : DTS := fun D ρ => t ρ fun ds ρ' => ds.length ≤ sizeLine ∧ D.nx (ρ'.set i (some (.own ds)))
def sCnt (i : Nat) (t : DTA) : DTS := fun D ρ => t ρ fun ds ρ' => ds.length ≤ sizeLine ∧ ∀ a, D.nx (ρ'.set i (some (.cnt a ds.length)))
theorem ds_own {i : Nat} {pos' lp : Pos} (hN : X.N.Nodup) (hi : X.N[i]? = some x) (hx : Loc X.env.scope x) (he : DA X F es tA) (hs : swapsWith (.List es lp) (some (.Name x pos')) pos.line X.env = pure false := by rfl)
    (hf : X.fn x = true ∨ X.env.scope.names.lookup x = some .local := by first | exact .inl rfl | exact .inr rfl | assumption) : DS X F (.Assign [.Name x pos'] (.List es lp) pos) (sOwn i tA) :=
  (ps_set hN hi hx (pe_lst he.pa) hs hf).imp fun D σ H ⟨ρ, O, DD, st, q, f⟩ => ⟨ρ, O, st, he.mn _ _ _ (fun ds ρ1 q1 vs H1 O1 st1 s1 d1 => ⟨by rw [d1.length]; exact q1.1, fun p hp => by
    obtain ⟨st2, s2⟩ := st1.setOwn (i := i) hp (.inl ⟨ds, rfl, d1⟩)
    exact f.nx _ _ _ _ st2 (s1.trans s2) q1.2⟩) q⟩
theorem ds_cnt {i : Nat} {pos' lp : Pos} (hN : X.N.Nodup) (hi : X.N[i]? = some x) (hx : Loc X.env.scope x) (he : DA X F es tA) (hs : swapsWith (.List es lp) (some (.Name x pos')) pos.line X.env = pure false := by rfl)
    (hf : X.fn x = true ∨ X.env.scope.names.lookup x = some .local := by first | exact .inl rfl | exact .inr rfl | assumption) : DS X F (.Assign [.Name x pos'] (.List es lp) pos) (sCnt i tA) :=
  (ps_set hN hi hx (pe_lst he.pa) hs hf).imp fun D σ H ⟨ρ, O, DD, st, q, f⟩ => ⟨ρ, O, st, he.mn _ _ _ (fun ds ρ1 q1 vs H1 O1 st1 s1 d1 => ⟨by rw [d1.length]; exact q1.1, fun p hp => by
    obtain ⟨st2, s2⟩ := st1.setOwn (i := i) hp (.inr ⟨ds.length, rfl, Nat.le_of_eq d1.length⟩)
    exact f.nx _ _ _ _ st2 (s1.trans s2) (q1.2 p)⟩) q⟩
/-- x.append(e) -/
def sApp (i : Nat) (te : DT) : DTS := fun D ρ => (∃ c, ρ[i]? = some (some c) ∧ c.isOwn = true) ∧ te ρ fun d ρ' => (∃ ds, ρ'[i]? = some (some (.own ds)) ∧ ds.length < sizeLine ∧ D.nx (ρ'.set i (some (.own (ds ++ [d]))))) ∨ ∃ a n, ρ'[i]? = some (some (.cnt a n)) ∧ n < sizeLine ∧ D.nx (ρ'.set i (some (.cnt a (n + 1))))
theorem ds_app {i : Nat} {p1 apos cpos : Pos} (hv : PE X (.Name x p1) (tVar i)) (he : DE X F e te) (hsw : swapsWith (.Call (.Attribute (.Name x p1) "append" apos) [e] [] cpos) none pos.line X.env = pure false := by rfl)
    (hbase : attributeBase (.Name x p1) "append" X.env (eval (.Name x p1) X.env) = eval (.Name x p1) X.env := by rfl)
    (hfew : ((backTo cpos (starEach [e] X.env)).all (fun x => !x.1) && (backToKw cpos (keywordEach [] X.env)).all (fun x => x.1.isSome) && decide (([e] : List Expr).length + ([] : List Keyword).length + (if ([] : List Keyword).isEmpty then 0 else 1) < 30)) = true := by rfl)
    (hline : (apos.endLine == cpos.line) = true := by rfl) (hs : starEach [e] X.env = (false, eval e X.env) :: starEach [] X.env := by rfl) (hplain : (backTo cpos (starEach [] X.env)).any (·.1) = false := by rfl) :
    DS X F (.Expr (.Call (.Attribute (.Name x p1) "append" apos) [e] [] cpos) pos) (sApp i te) :=
  (ps_expr (pe_bm PySem.F.plainAttrs_list PySem.F.slot_list_append PySem.F.type_list_append mt_append hv (pa_cons he.pe pa_nil hs) hbase hfew hline hs hplain) hsw).imp fun D σ H ⟨ρ, O, DD, st, ⟨⟨c, ec, oc⟩, q⟩, f⟩ => by
    obtain ⟨v, hv0, hcell⟩ := st.at_ i c ec
    have : ∃ a xs, v = .ref a ∧ H a = some (.lst xs) := by
      cases c with
      | dat d => cases oc
      | scr ns => cases oc
      | own ds => obtain ⟨a, xs, e, _, _, h, _⟩ := hcell; exact ⟨a, xs, e, h⟩
      | cnt a n => obtain ⟨xs, e, _, _, h, _⟩ := hcell; exact ⟨a, xs, e, h⟩
    obtain ⟨a, xs, rfl, hH⟩ := this
    refine ⟨_, hv0, .inl ⟨rfl, xs, .of hH⟩, ρ, O, st, he.mn _ _ _ (fun d ρ1 q1 w H1 O1 st1 s1 d1 => ?_) q⟩
    rcases q1 with ⟨ds, e1, hz, q1⟩ | ⟨a', n, e1, hz, q1⟩
    · obtain ⟨v1, hv1, a1, ys, rfl, hO, h0, hH1, hd⟩ := st1.at_ i _ e1
      rw [hv0] at hv1; cases hv1
      refine ⟨a, ys, w, rfl, rfl, hH1, by rw [hd.length]; exact hz, ?_⟩
      have sm : ∀ b o, b ≠ a → H1 b = some o → upd H1 a (.lst (ys ++ [w])) b = some o := fun b o hb e => by rw [upd_ne hb]; exact e
      have hid : Same (hide O1 H1) (hide O1 (upd H1 a (.lst (ys ++ [w])))) := fun b o e => by
        obtain ⟨e', n'⟩ := of_hide e
        exact hide_of (by rw [upd_ne (fun z => n' (by rw [z]; exact hO))]; exact e') n'
      obtain ⟨st2, s2⟩ := st1.app (H' := upd H1 a (.lst (ys ++ [w]))) (c' := .own (ds ++ [d])) e1 hv0 rfl hO h0.1 hH1 sm upd_same (.inl ⟨_, rfl, h0.2, DVs.mono hid (hd.append (.cons d1 .nil))⟩)
      exact f.nx _ _ _ _ st2 (s1.trans s2) q1
    · obtain ⟨v1, hv1, ys, rfl, hO, h0, hH1, hl⟩ := st1.at_ i _ e1
      rw [hv0] at hv1; cases hv1
      refine ⟨a, ys, w, rfl, rfl, hH1, Nat.lt_of_le_of_lt hl hz, ?_⟩
      have sm : ∀ b o, b ≠ a → H1 b = some o → upd H1 a (.lst (ys ++ [w])) b = some o := fun b o hb e => by rw [upd_ne hb]; exact e
      obtain ⟨st2, s2⟩ := st1.app (H' := upd H1 a (.lst (ys ++ [w]))) (c' := .cnt a (n + 1)) e1 hv0 rfl hO h0 hH1 sm upd_same (.inr ⟨_, rfl, by rw [List.length_append, List.length_singleton]; exact Nat.succ_le_succ hl⟩)
      exact f.nx _ _ _ _ st2 (s1.trans s2) q1
/-- an expression whose value is dropped -/
def sDrop (te : DT) : DTS := fun D ρ => te ρ fun _ ρ' => D.nx ρ'
theorem ds_expr (he : DE X F e te) (hs : swapsWith e none pos.line X.env = pure false := by rfl) : DS X F (.Expr e pos) (sDrop te) :=
  (ps_expr he.pe hs).imp fun D σ H ⟨ρ, O, DD, st, q, f⟩ => ⟨ρ, O, st, he.mn _ _ _ (fun d ρ1 q1 v H1 O1 st1 s1 d1 => f.nx _ _ _ _ st1 s1 q1) q⟩
def sRet (te : DT) : DTS := fun D ρ => te ρ fun d ρ' => D.rt d ρ'
theorem ds_ret (he : DE X F e te) : DS X F (.Return (some e) pos) (sRet te) :=
  (ps_ret he.pe).imp fun D σ H ⟨ρ, O, DD, st, q, f⟩ => ⟨ρ, O, st, he.mn _ _ _ (fun d ρ1 q1 v H1 O1 st1 s1 d1 => f.rt v _ _ d ρ1 O1 st1 s1 (DV.mono (hide_more fun a h => st1.sub a (List.mem_append.mp h)) d1) q1) q⟩
def sIf (tc : DTT) (t u : DTS) : DTS := fun D ρ => tc ρ fun b ρ' => if b = true then t D ρ' else u D ρ'
theorem ds_if {c : Expr} {a b : List Stmt} (hc : DB X F c tc) (ha : DSs X F a t) (hb : DSs X F b u) : DS X F (.If c a b pos) (sIf tc t u) :=
  (ps_if hc.pt ha hb).imp fun D σ H ⟨ρ, O, DD, st, q, f⟩ => ⟨ρ, O, st, hc.mn _ _ _ (fun b ρ1 q1 H1 O1 st1 s1 => by
    cases b with
    | true => exact iteT ⟨ρ1, O1, DD, st1, ofT q1, f.later s1⟩
    | false => exact iteF ⟨ρ1, O1, DD, st1, ofF q1, f.later s1⟩) q⟩
def sNever : DTS := fun _ _ => False
theorem dss_never {sts : List Stmt} : DSs X F sts sNever := pss_never.imp fun _ _ _ ⟨_, _, _, _, q, _⟩ => q
/-- x += e, ints -/
def sAug (i : Nat) (te : DT) (g : Int → Int → Int) : DTS := fun D ρ => ∃ k, ρ[i]? = some (some (.dat (.int k))) ∧ te ρ fun d ρ' => ∃ l, d = .int l ∧ D.nx (ρ'.set i (some (.dat (.int (g k l)))))
end
end L2.L3

namespace L2.L3
open PySem PySem.Spec PyProof.Rows
/-! ### what is walked, as a list of plain data -/
abbrev DTI := DEnv → (List PyData → DEnv → Prop) → Prop
def Wk (O : List Addr) (H : Hp) (J : It) (its : List PyData) : Prop := ∀ O' H', Stp O H O' H' → OOk H' O' →
  (∀ i d, its[i]? = some d → J.go i H' ∧ ∀ x H'', J.yld i H' x H'' → Same H' H'' ∧ DV (hide O' H'') x d) ∧ J.stop its.length H'
def rdI (K : PySem.W.Frag) (F : Fx) (s : DTI) : TI := fun σ H R => ∃ ρ O, DSt K F H σ ρ O ∧ s ρ fun its ρ' => ∀ J H' O', DSt K F H' σ ρ' O' → Stp O H O' H' → Wk O' H' J its → R J H'
structure DI (X : Cx) (F : Fx) (tg iter : Expr) (s : DTI) : Prop where
  mn : ∀ ρ Q Q', (∀ d ρ', Q d ρ' → Q' d ρ') → s ρ Q → s ρ Q'
  pi : PI X tg iter (rdI X.K F s)
theorem _root_.L2.PI.imp {X : Cx} {tg e : Expr} {t t' : TI} (h : PI X tg e t) (k : ∀ σ H Q, t' σ H Q → t σ H Q) : PI X tg e t' := fun pins s σ H Q I q => h pins s σ H Q I (k σ H Q q)
section
variable {X : Cx} {F : Fx} {tg e a b : Expr} {te : DT} {tA : DTA} {pos p : Pos}
def iL (te : DT) : DTI := fun ρ Q => te ρ fun d ρ' => ∃ ds, d = .list ds ∧ Q ds ρ'
def iT (te : DT) : DTI := fun ρ Q => te ρ fun d ρ' => ∃ ds, d = .tuple ds ∧ Q ds ρ'
theorem wk_list {K : PySem.W.Frag} {O : List Addr} {H : Hp} {a : Addr} {xs : List V} {ds : List PyData} (ha : hide O H a = some (.lst xs)) (hd : DVs (hide O H) xs ds) : Wk O H (Itl K a) ds := fun O' H' s ok => by
  obtain ⟨h1, n1⟩ := of_hide ha
  have h2 := s.keep a _ n1 h1
  have hd' := DVs.mono s.hid hd
  refine ⟨fun i d e => ?_, ⟨xs, .of h2, by rw [hd.length]; exact Nat.le_refl _⟩⟩
  obtain ⟨v, hv, dv⟩ := hd'.get e
  refine ⟨⟨xs, v, .of h2, hv⟩, fun x H'' ⟨e1, e2⟩ => ?_⟩
  subst e1
  have := e2 xs (.of h2)
  rw [hv] at this
  cases this
  exact ⟨fun _ _ h => h, dv⟩
theorem wk_tup {K : PySem.W.Frag} {O : List Addr} {H : Hp} {a : Addr} {xs : List V} {ds : List PyData} (ha : hide O H a = some (.tup xs)) (hd : DVs (hide O H) xs ds) : Wk O H (Itt K a) ds := fun O' H' s ok => by
  obtain ⟨h1, n1⟩ := of_hide ha
  have h2 := s.keep a _ n1 h1
  have hd' := DVs.mono s.hid hd
  refine ⟨fun i d e => ?_, ⟨xs, .of h2, by rw [hd.length]; exact Nat.le_refl _⟩⟩
  obtain ⟨v, hv, dv⟩ := hd'.get e
  refine ⟨⟨xs, v, .of h2, hv⟩, fun x H'' ⟨e1, e2⟩ => ?_⟩
  subst e1
  have := e2 xs (.of h2)
  rw [hv] at this
  cases this
  exact ⟨fun _ _ h => h, dv⟩
theorem di_list (h : DE X F e te) : DI X F tg e (iL te) :=
  ⟨fun _ _ _ k q => h.mn _ _ _ (fun _ _ ⟨ds, e, q⟩ => ⟨ds, e, k _ _ q⟩) q, (pi_list h.pe).imp fun σ H R ⟨ρ, O, st, q⟩ =>
    ⟨ρ, O, st, h.mn _ _ _ (fun d ρ1 ⟨ds, e, q1⟩ v H1 O1 st1 s1 d1 => by
      subst e
      obtain ⟨a, xs, rfl, ha, hd⟩ := d1.lst_inv
      exact ⟨a, rfl, ⟨xs, .of (of_hide ha).1⟩, q1 _ H1 O1 st1 s1 (wk_list ha hd)⟩) q⟩⟩
theorem di_tup (h : DE X F e te) : DI X F tg e (iT te) :=
  ⟨fun _ _ _ k q => h.mn _ _ _ (fun _ _ ⟨ds, e, q⟩ => ⟨ds, e, k _ _ q⟩) q, (pi_tup h.pe).imp fun σ H R ⟨ρ, O, st, q⟩ =>
    ⟨ρ, O, st, h.mn _ _ _ (fun d ρ1 ⟨ds, e, q1⟩ v H1 O1 st1 s1 d1 => by
      subst e
      obtain ⟨a, xs, rfl, ha, hd⟩ := d1.tup_inv
      exact ⟨a, rfl, ⟨xs, .of (of_hide ha).1⟩, q1 _ H1 O1 st1 s1 (wk_tup ha hd)⟩) q⟩⟩
/-- lo, lo + 1, .. -/
def intsFrom (lo : Int) (n : Nat) : List PyData := (List.range n).map fun (i : Nat) => PyData.int (lo + i)
theorem intsFrom_length (lo : Int) (n : Nat) : (intsFrom lo n).length = n := by unfold intsFrom; rw [List.length_map, List.length_range]
theorem wk_range {O : List Addr} {H : Hp} {lo : Int} {n : Nat} : Wk O H (Itr lo n) (intsFrom lo n) := fun O' H' s ok => by
  refine ⟨fun i d e => ?_, by show n ≤ (intsFrom lo n).length; rw [intsFrom_length]; exact Nat.le_refl _⟩
  unfold intsFrom at e
  rw [List.getElem?_map] at e
  obtain ⟨j, e1, e2⟩ := Option.map_eq_some_iff.mp e
  obtain ⟨hlt, e3⟩ := List.getElem?_eq_some_iff.mp e1
  rw [List.length_range] at hlt
  rw [List.getElem_range] at e3
  subst e3 e2
  exact ⟨hlt, fun x H'' ⟨q1, q2⟩ => by subst q1 q2; exact ⟨fun _ _ h => h, .int _⟩⟩
def iR1 (t : DTA) : DTI := fun ρ Q => t ρ fun ds ρ' => ∃ j : Int, ds = [.int j] ∧ -(2 ^ 62) ≤ j ∧ j < 2 ^ 62 ∧ Q (intsFrom 0 j.toNat) ρ'
theorem di_range1 (hg : Gl X "range") (hm : X.mg "range" = none) (ha : DA X F [a] tA) (hs : starEach [a] X.env = [(false, eval a X.env)] := by rfl) : DI X F tg (.Call (.Name "range" p) [a] [] pos) (iR1 tA) :=
  ⟨fun _ _ _ k q => ha.mn _ _ _ (fun _ _ ⟨j, e, h1, h2, q⟩ => ⟨j, e, h1, h2, k _ _ q⟩) q, (pi_range1 hg hm ha.pa hs).imp fun σ H R ⟨ρ, O, st, q⟩ =>
    ⟨ρ, O, st, ha.mn _ _ _ (fun ds ρ1 ⟨j, e, h1, h2, q1⟩ vs H1 O1 st1 s1 d1 => by
      subst e
      cases d1 with
      | cons d r =>
        cases r
        obtain rfl := d.int_inv
        exact ⟨j, rfl, h1, h2, q1 _ H1 O1 st1 s1 wk_range⟩) q⟩⟩
/-- enumerate(x) -/
def numbered (ds : List PyData) : List PyData := ds.mapIdx fun i d => PyData.tuple [.int i, d]
def iE (t : DTA) : DTI := fun ρ Q => t ρ fun ds ρ' => ∃ es, ds = [.list es] ∧ Q (numbered es) ρ'
/-- zip(x, y) -/
def paired (ds es : List PyData) : List PyData := (ds.zip es).map fun q => PyData.tuple [q.1, q.2]
def iZ (t : DTA) : DTI := fun ρ Q => t ρ fun ds ρ' => ∃ es fs, ds = [.list es, .list fs] ∧ Q (paired es fs) ρ'
end
/-! ### for -/
def sFor (s : DTI) (g : DTG) (tb : DTS) : DTS := fun D ρ => s ρ fun its ρ1 => ∃ Iv : Nat → DEnv → Prop, Iv 0 ρ1 ∧ (∀ i d ρ, its[i]? = some d → Iv i ρ → g d ρ fun ρ2 => tb { D with nx := Iv (i + 1), ct := Iv (i + 1), bk := D.nx } ρ2) ∧ ∀ ρ, Iv its.length ρ → D.nx ρ
section
variable {X : Cx} {F : Fx} {tg iter : Expr} {body : List Stmt} {s : DTI} {g : DTG} {tb : DTS} {pos : Pos}
theorem ds_for (hp : PassesOwn (model X.prog X.w) X.A X.env X.xe) (hc : X.calm = true) (hi : DI X F tg iter s) (hg : DG X F tg g) (hb : DSs X F body tb) (hs : ∀ x, foldedSetIterable iter X.env x = pure x := by intro _; rfl) : DS X F (.For tg iter body [] pos) (sFor s g tb) :=
  (ps_for hp hc hi.pi hg.pg hb hs).imp fun D σ H ⟨ρ, O, DD, st, q, f⟩ => by
    refine ⟨ρ, O, st, hi.mn _ _ _ (fun its ρ1 ⟨Iv, i0, step, fin⟩ J H1 O1 st1 s1 wk => ?_) q⟩
    refine ⟨fun i m σ' H' => ∃ ρ' O', DSt X.K F H' σ' ρ' O' ∧ Stp O1 H1 O' H' ∧ Iv i ρ' ∧ i ≤ its.length ∧ m = its.length - i, ⟨its.length, ρ1, O1, st1, .refl, i0, Nat.zero_le _, rfl⟩, ?_⟩
    rintro i m σ' H' ⟨ρ', O', st', s', iv, hi', rfl⟩
    obtain ⟨w1, w2⟩ := wk O' H' s' st'.live
    by_cases hlt : i < its.length
    · obtain ⟨go, yld⟩ := w1 i its[i] (List.getElem?_eq_getElem hlt)
      refine .inr ⟨go, fun σ2 H2 => ∃ ρ2 O2, DSt X.K F H2 σ2 ρ2 O2 ∧ Stp O1 H1 O2 H2 ∧ Iv (i + 1) ρ2, fun σ2 H2 ⟨ρ2, O2, st2, s2, iv2⟩ => ⟨its.length - (i + 1), by omega, ρ2, O2, st2, s2, iv2, hlt, rfl⟩, fun x H2 hy => ?_⟩
      obtain ⟨sm, dv⟩ := yld x H2 hy
      refine ⟨ρ', O', its[i], st'.grow sm, dv, hg.mn _ _ _ _ (fun ρ2 q2 σ3 H3 O3 st3 s3 => ?_) (step i its[i] ρ' (List.getElem?_eq_getElem hlt) iv)⟩
      have s13 : Stp O1 H1 O3 H3 := s'.trans ((Stp.same sm).trans s3)
      have nxt : ∀ σ4 H4 ρ4 O4, DSt X.K F H4 σ4 ρ4 O4 → Stp O3 H3 O4 H4 → Iv (i + 1) ρ4 → ∃ ρ2 O2, DSt X.K F H4 σ4 ρ2 O2 ∧ Stp O1 H1 O2 H4 ∧ Iv (i + 1) ρ2 := fun σ4 H4 ρ4 O4 st4 s4 q4 => ⟨ρ4, O4, st4, s13.trans s4, q4⟩
      exact ⟨ρ2, O3, _, st3, q2, ⟨nxt, fun v σ4 H4 d ρ4 O4 st4 s4 dv q4 => f.rt v σ4 H4 d ρ4 O4 st4 (s1.trans (s13.trans s4)) dv q4, fun σ4 H4 ρ4 O4 st4 s4 q4 => f.nx σ4 H4 ρ4 O4 st4 (s1.trans (s13.trans s4)) q4, nxt⟩⟩
    · have e : i = its.length := by omega
      subst e
      exact .inl ⟨w2, f.nx σ' H' ρ' O' st' (s1.trans s') (fin ρ' iv)⟩
end
/-! ### while -/
def sWhile (c : DTT) (tb : DTS) : DTS := fun D ρ => ∃ (Iv : DEnv → Prop) (μ : DEnv → Nat), Iv ρ ∧ ∀ ρ, Iv ρ → c ρ fun b ρ1 => if b = true then tb { D with nx := fun ρ2 => Iv ρ2 ∧ μ ρ2 < μ ρ, ct := fun ρ2 => Iv ρ2 ∧ μ ρ2 < μ ρ, bk := D.nx } ρ1 else D.nx ρ1
section
variable {X : Cx} {F : Fx} {c : Expr} {body : List Stmt} {tc : DTT} {tb : DTS} {pos : Pos}
theorem ds_while (hp : PassesOwn (model X.prog X.w) X.A X.env X.xe) (hc : DB X F c tc) (hb : DSs X F body tb) : DS X F (.While c body [] pos) (sWhile tc tb) :=
  (ps_while hp hc.pt hb).imp fun D σ H ⟨ρ, O, DD, st, ⟨Iv, μ, i0, step⟩, f⟩ => by
    refine ⟨fun m σ' H' => ∃ ρ' O', DSt X.K F H' σ' ρ' O' ∧ Stp O H O' H' ∧ Iv ρ' ∧ m = μ ρ', ⟨μ ρ, ρ, O, st, .refl, i0, rfl⟩, ?_⟩
    rintro m σ' H' ⟨ρ', O', st', s', iv, rfl⟩
    refine ⟨ρ', O', st', hc.mn _ _ _ (fun b ρ1 q1 H1 O1 st1 s1 => ?_) (step ρ' iv)⟩
    cases b with
    | false => exact iteF (f.nx _ _ _ _ st1 (s'.trans s1) (ofF q1))
    | true =>
      refine iteT ⟨fun σ2 H2 => ∃ ρ2 O2, DSt X.K F H2 σ2 ρ2 O2 ∧ Stp O H O2 H2 ∧ Iv ρ2 ∧ μ ρ2 < μ ρ', fun σ2 H2 ⟨ρ2, O2, st2, s2, iv2, lt⟩ => ⟨μ ρ2, lt, ρ2, O2, st2, s2, iv2, rfl⟩, ?_⟩
      have nxt : ∀ σ4 H4 ρ4 O4, DSt X.K F H4 σ4 ρ4 O4 → Stp O1 H1 O4 H4 → (Iv ρ4 ∧ μ ρ4 < μ ρ') → ∃ ρ2 O2, DSt X.K F H4 σ4 ρ2 O2 ∧ Stp O H O2 H4 ∧ Iv ρ2 ∧ μ ρ2 < μ ρ' := fun σ4 H4 ρ4 O4 st4 s4 q4 => ⟨ρ4, O4, st4, s'.trans (s1.trans s4), q4⟩
      exact ⟨ρ1, O1, _, st1, ofT q1, ⟨nxt, fun v σ4 H4 d ρ4 O4 st4 s4 dv q4 => f.rt v σ4 H4 d ρ4 O4 st4 (s'.trans (s1.trans s4)) dv q4, fun σ4 H4 ρ4 O4 st4 s4 q4 => f.nx σ4 H4 ρ4 O4 st4 (s'.trans (s1.trans s4)) q4, nxt⟩⟩
end
end L2.L3

namespace L2.L3
open PySem PySem.Spec PyProof.Rows
/-! ### comprehensions -/
def capC : Option (Option Cell) → Option Cell
  | some (some (.dat d)) => some (.dat d)
  | some (some (.scr ns)) => some (.scr ns)
  | _ => none
def liftD (own : List Str) (caps : List Nat) (ρ : DEnv) : DEnv := own.map (fun _ => none) ++ caps.map fun j => capC ρ[j]?
def dCmp (own : List Str) (caps : List Nat) (s : DTI) (g : DTG) (tc : DTT) (te : DT) : DT := fun ρ Q => s ρ fun its ρ1 => ∃ Iv : Nat → List PyData → DEnv → Prop, Iv 0 [] (liftD own caps ρ1) ∧
  (∀ i d ys ρ', its[i]? = some d → Iv i ys ρ' → g d ρ' fun ρ2 => tc ρ2 fun b ρ3 => if b = true then te ρ3 fun y ρ4 => ys.length < sizeLine ∧ Iv (i + 1) (ys ++ [y]) ρ4 else Iv (i + 1) ys ρ3) ∧
  ∀ ys ρ', Iv its.length ys ρ' → ys.length ≤ sizeLine ∧ Q (.list ys) ρ1
def MnI (s : DTI) : Prop := ∀ ρ Q Q', (∀ d ρ', Q d ρ' → Q' d ρ') → s ρ Q → s ρ Q'
section
variable {K : PySem.W.Frag} {F : Fx} {own : List Str} {caps : List Nat} {s : DTI} {g : DTG} {tc : DTT} {te : DT}
theorem mn_cmp (hs : MnI s) : Mn (dCmp own caps s g tc te) := fun _ _ _ k q => hs _ _ _ (fun _ _ ⟨Iv, h0, h1, h2⟩ => ⟨Iv, h0, h1, fun ys ρ' h => ⟨(h2 ys ρ' h).1, k _ _ (h2 ys ρ' h).2⟩⟩) q
theorem rd_cmp (hs : MnI s) (hg : ∀ d ρ Q Q', (∀ ρ', Q ρ' → Q' ρ') → g d ρ Q → g d ρ Q') (ht : MnT tc) (he : Mn te) : ∀ σ H Q, rdE K F (dCmp own caps s g tc te) σ H Q →
    tComp own caps (rdI K F s) (fun v σ H Q => ∃ F', rdG K F' g v σ H Q) (fun σ H Q => ∃ F', rdT K F' tc σ H Q) (fun σ H Q => ∃ F', rdE K F' te σ H Q) σ H Q := fun σ H Q ⟨ρ, O, st, q⟩ => by
  refine ⟨ρ, O, st, hs _ _ _ (fun its ρ1 ⟨Iv, i0, step, fin⟩ J H1 O1 st1 s1 wk => ?_) q⟩
  refine ⟨fun i m ys σ' H' => ∃ ρ' O' ds, DSt K ⟨H1, [], O1⟩ H' σ' ρ' O' ∧ Iv i ds ρ' ∧ DVs (hide O' H') ys ds ∧ i ≤ its.length ∧ m = its.length - i, ⟨its.length, liftD own caps ρ1, O1, [], ?_, i0, .nil, Nat.zero_le _, rfl⟩, ?_⟩
  · have cell : ∀ (i : Nat) (c : Cell), (liftD own caps ρ1)[i]? = some (some c) → c.isOwn = false ∧ ∃ v, (liftC own caps σ)[i]? = some (some v) ∧ CellAt K ⟨H1, [], O1⟩ H1 O1 v c := fun i c e => by
      unfold liftD at e
      unfold liftC
      by_cases hi : i < own.length
      · rw [List.getElem?_append_left (by simpa using hi), List.getElem?_map] at e
        cases h : own[i]? with
        | none => rw [h] at e; cases e
        | some y => rw [h] at e; cases e
      · rw [List.getElem?_append_right (by simpa using Nat.le_of_not_lt hi), List.length_map, List.getElem?_map] at e
        rw [List.getElem?_append_right (by simpa using Nat.le_of_not_lt hi), List.length_map, List.getElem?_map]
        obtain ⟨j, h1, h2⟩ := Option.map_eq_some_iff.mp e
        rw [h1]
        show _ ∧ ∃ v, some ((σ[j]?).getD none) = some (some v) ∧ _
        cases h3 : ρ1[j]? with
        | none => rw [h3] at h2; cases h2
        | some o =>
          cases o with
          | none => rw [h3] at h2; cases h2
          | some c' =>
            rw [h3] at h2
            obtain ⟨v, e1, e2⟩ := st1.at_ j c' h3
            rw [e1]
            cases c' with
            | dat d => cases h2; exact ⟨rfl, v, rfl, e2⟩
            | scr ns => cases h2; exact ⟨rfl, v, rfl, e2⟩
            | own _ => cases h2
            | cnt _ _ => cases h2
    refine ⟨fun i c e => (cell i c e).2, fun i j c d a e1 e2 h1 h2 _ _ => ?_, fun a h => h.elim id fun z => absurd z (by simp), fun _ _ _ h => h, fun a h => .inl h, st1.live, ?_⟩
    · rw [(cell i c e1).1] at h1; cases h1
    · unfold liftD liftC
      simp
  · rintro i m ys σ' H' ⟨ρ', O', ds, st', iv, dv, hi, rfl⟩
    have sm : Same H1 H' := fun b o e => st'.kept b o (by simp) e
    have stp : Stp O1 H1 O' H' := ⟨fun b o _ e => sm b o e, fun a h => (st'.new a h).elim .inl fun z => z.elim (fun z => absurd z (by simp)) .inr⟩
    have sub1 : ∀ a ∈ O1, a ∈ O' := fun a h => st'.sub a (.inl h)
    obtain ⟨w1, w2⟩ := wk O' H' stp st'.live
    by_cases hlt : i < its.length
    · obtain ⟨go, yld⟩ := w1 i its[i] (List.getElem?_eq_getElem hlt)
      refine .inr ⟨go, fun x H2 hy => ?_⟩
      obtain ⟨sm2, dx⟩ := yld x H2 hy
      refine ⟨⟨H1, [], O1⟩, ρ', O', its[i], st'.grow sm2, dx, hg _ _ _ _ (fun ρ2 q2 σ3 H3 O3 st3 s3 => ?_) (step i its[i] ds ρ' (List.getElem?_eq_getElem hlt) iv)⟩
      refine ⟨⟨H1, [], O1⟩, ρ2, O3, st3, ht _ _ _ (fun b ρ3 q3 H4 O4 st4 s4 => ?_) q2⟩
      have d4 : DVs (hide O4 H4) ys ds := DVs.mono s4.hid (DVs.mono s3.hid (DVs.mono (hide_same sm2) dv))
      cases b with
      | false => exact iteF ⟨its.length - (i + 1), by omega, ρ3, O4, ds, st4, ofF q3, d4, hlt, rfl⟩
      | true =>
        refine iteT ⟨⟨H1, [], O1⟩, ρ3, O4, st4, he _ _ _ (fun y ρ4 q4 v H5 O5 st5 s5 dy => ?_) (ofT q3)⟩
        refine ⟨by rw [d4.length]; exact q4.1, its.length - (i + 1), by omega, ρ4, O5, ds ++ [y], st5, q4.2, (DVs.mono s5.hid d4).append (.cons dy .nil), hlt, rfl⟩
    · have e : i = its.length := by omega
      subst e
      obtain ⟨hz, q⟩ := fin ds ρ' iv
      refine .inl ⟨w2, by rw [dv.length]; exact hz, fun p hp => ?_⟩
      have pO' := st'.nofree p hp
      exact q _ _ O1 (st1.grow fun b o e => same_upd hp _ _ (sm b o e)) (s1.trans (.same fun b o e => same_upd hp _ _ (sm b o e))) (dv_new_lst hp (fun z => pO' (sub1 p z)) (DVs.mono (hide_more sub1) dv))
end
def DBs (X : Cx) (F : Fx) (ifs : List Expr) (t : DTT) : Prop := MnT t ∧ PTs X ifs (rdT X.K F t)
def bYes : DTT := fun ρ Q => Q true ρ
theorem dbs_nil {X : Cx} {F : Fx} : DBs X F [] bYes := ⟨fun _ _ _ k q => k _ _ q, fun pins s σ H Q I ⟨ρ, O, st, q⟩ => pts_nil pins s σ H Q I (q H O st .refl)⟩
theorem dbs_one {X : Cx} {F : Fx} {c : Expr} {t : DTT} (h : DB X F c t) : DBs X F [c] t := ⟨h.mn, pts_one h.pt⟩
section
variable {X : Cx} {F : Fx} {scope : Scope} {own capN : List Str} {caps : List Nat} {tg iter elt : Expr} {ifs : List Expr} {s : DTI} {g : DTG} {tc : DTT} {te : DT} {pos : Pos}
theorem de_comp (S : CompScope X scope own capN caps) (hc : X.calm = true) (hi : DI X F tg iter s)
    (hin : ∀ C fp s₂ H₂ pl F', DG (compCx X scope (own ++ capN) C fp s₂ H₂ pl) F' tg g ∧ DBs (compCx X scope (own ++ capN) C fp s₂ H₂ pl) F' ifs tc ∧ DE (compCx X scope (own ++ capN) C fp s₂ H₂ pl) F' elt te)
    (hs : ∀ x, foldedSetIterable iter X.env x = pure x := by intro _; rfl) : DE X F (.ListComp elt [⟨tg, iter, ifs, 0⟩] scope pos) (dCmp own caps s g tc te) := by
  have F0 : Fx := F
  obtain ⟨hg, ht, he⟩ := hin 0 [] (PySem.start X.prog).1 (fun _ => none) [] F
  refine ⟨mn_cmp hi.mn, (pe_comp S hc hi.pi (fun C fp s₂ H₂ pl => ⟨fun pins s σ H v u Q I r ⟨F', q⟩ => (hin C fp s₂ H₂ pl F').1.pg pins s σ H v u Q I r q, fun pins s σ H Q I ⟨F', q⟩ => (hin C fp s₂ H₂ pl F').2.1.2 pins s σ H Q I q, fun pins s σ H Q I ⟨F', q⟩ => (hin C fp s₂ H₂ pl F').2.2.pe pins s σ H Q I q⟩) hs).imp (rd_cmp hi.mn hg.mn ht.1 he.mn)⟩
theorem ds_setComp {i : Nat} {y : Str} {py spos : Pos} (hN : X.N.Nodup) (hi' : X.N[i]? = some y) (hx : Loc X.env.scope y) (S : CompScope X scope own capN caps) (hc : X.calm = true) (hi : DI X F tg iter s)
    (hin : ∀ C fp s₂ H₂ pl F', DG (compCx X scope (own ++ capN) C fp s₂ H₂ pl) F' tg g ∧ DBs (compCx X scope (own ++ capN) C fp s₂ H₂ pl) F' ifs tc ∧ DE (compCx X scope (own ++ capN) C fp s₂ H₂ pl) F' elt te)
    (hsw : swapsWith (.ListComp elt [⟨tg, iter, ifs, 0⟩] scope pos) (some (.Name y py)) spos.line X.env = pure true := by rfl)
    (hs : ∀ x, foldedSetIterable iter X.env x = pure x := by intro _; rfl) (hf : X.fn y = true ∨ X.env.scope.names.lookup y = some .local := by first | exact .inl rfl | exact .inr rfl | assumption) :
    DS X F (.Assign [.Name y py] (.ListComp elt [⟨tg, iter, ifs, 0⟩] scope pos) spos) (sSet (dCmp own caps s g tc te) (gN i)) := by
  obtain ⟨hg, ht, he⟩ := hin 0 [] (PySem.start X.prog).1 (fun _ => none) [] F
  refine (ps_setComp hN hi' hx S hc hi.pi (fun C fp s₂ H₂ pl => ⟨fun pins s σ H v u Q I r ⟨F', q⟩ => (hin C fp s₂ H₂ pl F').1.pg pins s σ H v u Q I r q, fun pins s σ H Q I ⟨F', q⟩ => (hin C fp s₂ H₂ pl F').2.1.2 pins s σ H Q I q, fun pins s σ H Q I ⟨F', q⟩ => (hin C fp s₂ H₂ pl F').2.2.pe pins s σ H Q I q⟩) hsw hs hf).imp
    fun D σ H ⟨ρ, O, DD, st, q, f⟩ => rd_cmp hi.mn hg.mn ht.1 he.mn σ H _ ⟨ρ, O, st, mn_cmp hi.mn _ _ _ (fun d ρ1 q1 v H1 O1 st1 s1 d1 => f.nx _ H1 _ O1 (st1.set d1) s1 q1) q⟩
end
/-! ### a def of the text, by its body -/
def startD (N : List Str) (cs : List Cell) : DEnv := cs.map some ++ List.replicate (N.length - cs.length) none
theorem dst_start {K : PySem.W.Frag} {F : Fx} {H : Hp} {O : List Addr} {N : List Str} {vs : List V} {cs : List Cell} (hl : vs.length = cs.length) (hc : ∀ (i : Nat) c v, cs[i]? = some c → vs[i]? = some v → CellAt K F H O v c)
    (hi : ∀ (i j : Nat) c d, cs[i]? = some c → cs[j]? = some d → c.isOwn = true → d.isOwn = true → i = j) (sub : ∀ a, (a ∈ F.O₀ ∨ a ∈ F.A₀) → a ∈ O) (kept : ∀ b o, b ∉ F.A₀ → F.H₀ b = some o → H b = some o) (new : ∀ a ∈ O, a ∈ F.O₀ ∨ a ∈ F.A₀ ∨ F.H₀ a = none) (live : OOk H O) :
    DSt K F H (start N vs) (startD N cs) O := by
  have get : ∀ (i : Nat) c, (startD N cs)[i]? = some (some c) → cs[i]? = some c := fun i c e => by
    unfold startD at e
    by_cases h : i < cs.length
    · rw [List.getElem?_append_left (by simpa using h), List.getElem?_map] at e
      obtain ⟨d, h1, h2⟩ := Option.map_eq_some_iff.mp e
      cases h2
      exact h1
    · rw [List.getElem?_append_right (by simpa using Nat.le_of_not_lt h), List.getElem?_replicate] at e
      split at e <;> cases e
  have put : ∀ (i : Nat) v, vs[i]? = some v → (start N vs)[i]? = some (some v) := fun i v e => by
    unfold start
    rw [List.getElem?_append_left (by simpa using (List.getElem?_eq_some_iff.mp e).1), List.getElem?_map, e]
    rfl
  refine ⟨fun i c e => ?_, fun i j c d a e1 e2 h1 h2 _ _ => hi i j c d (get i c e1) (get j d e2) h1 h2, sub, kept, new, live, ?_⟩
  · have e' := get i c e
    have hlt : i < vs.length := by rw [hl]; exact (List.getElem?_eq_some_iff.mp e').1
    exact ⟨vs[i], put i _ (List.getElem?_eq_getElem hlt), hc i c _ e' (List.getElem?_eq_getElem hlt)⟩
  · unfold startD start
    rw [List.length_append, List.length_append, List.length_map, List.length_map, List.length_replicate, List.length_replicate, hl]
section
variable {P : Program} {w : World} {K : PySem.W.Frag} {mg : Str → Option Value} {base : Heap} {x qual : Str} {st : Stmt} {f : Addr} {fd : FuncData} {N ps : List Str} {k : Nat} {tS : DTS}
/-- plain data in, plain data out -/
theorem fn_pure {fN : DN} (Fn : Fun K x qual st f fd) (S : FnScope N ps (defScope st)) (len : ∀ ds Q, fN ds Q → ds.length = ps.length) (hm : MnN fN)
    (der : ∀ (cdv : Value) (A : Around) (outer : List Env) (s : Shared) (H : Hp) (E : XK) (F : Fx), Room k (A.deeper (envOfC qual (defScope st) s.heap.objs.size f cdv)) → DSs (cxOf CX0 P w K mg base N qual (defScope st) f cdv A outer s H E).nox F (defBody st) tS)
    (rd : ∀ ds Q, fN ds Q → tS { nx := fun _ => Q .none, rt := fun d _ => Q d } (startD N (ds.map .dat))) : FnOk P w K mg base CX0 (k + 1) f fd ps (spP fN) := by
  refine Fn.ok S (fun vs H Q E ⟨O, ds, _, hd, q⟩ => by rw [hd.length]; exact len _ _ q) fun cdv A outer s H vs Q E hr ⟨O, ds, ok, hd, q⟩ => ⟨_, der cdv A outer s H E ⟨H, [], O⟩ hr, ?_⟩
  refine ⟨startD N (ds.map .dat), O, _, dst_start (by rw [List.length_map]; exact hd.length) (fun i c v e1 e2 => ?_) (fun i j c d e1 _ h1 _ => ?_) (fun a h => h.elim id fun z => absurd z (by simp)) (fun _ _ _ h => h) (fun a h => .inl h) ok, rd ds _ q, ?_⟩
  · rw [List.getElem?_map] at e1
    obtain ⟨d, e3, e4⟩ := Option.map_eq_some_iff.mp e1
    subst e4
    obtain ⟨v', h1, h2⟩ := hd.get e3
    rw [e2] at h1
    cases h1
    exact h2
  · rw [List.getElem?_map] at e1
    obtain ⟨d, e3, e4⟩ := Option.map_eq_some_iff.mp e1
    subst e4
    cases h1
  · refine ⟨fun σ' H' ρ' O' st' s' q' => q' _ H' (fun b o e => st'.kept b o (by simp) e) .non, fun v σ' H' d ρ' O' st' s' dv q' => q' v H' (fun b o e => st'.kept b o (by simp) e) (by rw [List.append_nil] at dv; exact dv), fun _ _ _ _ _ _ z => z.elim, fun _ _ _ _ _ _ z => z.elim⟩
/-- the script and a list that grows are handed in first -/
theorem fn_draw {fR : DR} (Fn : Fun K x qual st f fd) (S : FnScope N ps (defScope st)) (len : ∀ n ds Q, fR n ds Q → ds.length + 2 = ps.length) (hm : MnR fR)
    (der : ∀ (cdv : Value) (A : Around) (outer : List Env) (s : Shared) (H : Hp) (E : XK) (F : Fx), Room k (A.deeper (envOfC qual (defScope st) s.heap.objs.size f cdv)) → DSs (cxOf CX0 P w K mg base N qual (defScope st) f cdv A outer s H E).nox F (defBody st) tS)
    (rd : ∀ n ds Q ns a, fR n ds Q → ns.length ≤ 63 → tS { nx := fun ρ => ∃ m, ρ[1]? = some (some (.cnt a m)) ∧ Q .none m, rt := fun d ρ => ∃ m, ρ[1]? = some (some (.cnt a m)) ∧ Q d m } (startD N (.scr ns :: .cnt a n :: ds.map .dat))) : FnOk P w K mg base CX0 (k + 1) f fd ps (spR K fR) := by
  refine Fn.ok S (fun vs H Q E h => ?_) fun cdv A outer s H vs Q E hr h => ?_
  · obtain ⟨O, sa, ta, ts, ns, rest, ds, n, rfl, _, _, _, _, _, hd, q⟩ := h
    rw [List.length_cons, List.length_cons, hd.length]; exact len _ _ _ q
  · obtain ⟨O, sa, ta, ts, ns, rest, ds, n, rfl, ok, hsc, hO, hH, hl, hd, q⟩ := h
    refine ⟨_, der cdv A outer s H E ⟨H, [ta], O.filter fun b => decide (b ≠ ta)⟩ hr, ?_⟩
    have nin : ta ∉ O.filter (fun b => decide (b ≠ ta)) := fun h => absurd (List.mem_filter.mp h).2 (by simp)
    refine ⟨startD N (.scr ns :: .cnt ta n :: ds.map .dat), O, _, dst_start (by simp [hd.length]) (fun i c v e1 e2 => ?_) (fun i j c d e1 e2 h1 h2 => ?_) (fun a h => ?_) (fun _ _ _ h => h) (fun a h => ?_) ok, rd n ds _ ns ta q hsc.1, ?_⟩
    · match i, e1, e2 with
      | 0, e1, e2 => cases e1; cases e2; exact ⟨sa, rfl, hsc⟩
      | 1, e1, e2 => cases e1; cases e2; exact ⟨ts, rfl, hO, nin, hH, hl⟩
      | i + 2, e1, e2 =>
        have e1 : (ds.map Cell.dat)[i]? = some c := e1
        have e2 : rest[i]? = some v := e2
        rw [List.getElem?_map] at e1
        obtain ⟨d, e3, e4⟩ := Option.map_eq_some_iff.mp e1
        subst e4
        obtain ⟨v', h1, h2⟩ := hd.get e3
        rw [e2] at h1
        cases h1
        exact h2
    · have one : ∀ (i : Nat) c, (Cell.scr ns :: Cell.cnt ta n :: ds.map .dat)[i]? = some c → c.isOwn = true → i = 1 := fun i c e h => by
        match i, e with
        | 0, e => cases e; cases h
        | 1, e => rfl
        | i + 2, e =>
          have e : (ds.map Cell.dat)[i]? = some c := e
          rw [List.getElem?_map] at e
          obtain ⟨d, e3, e4⟩ := Option.map_eq_some_iff.mp e
          subst e4
          cases h
      rw [one i c e1 h1, one j d e2 h2]
    · rcases h with h | h
      · exact (List.mem_filter.mp h).1
      · obtain rfl := List.mem_singleton.mp h; exact hO
    · by_cases e : a = ta
      · exact .inr (.inl (by simp [e]))
      · exact .inl (List.mem_filter.mpr ⟨h, by simp [e]⟩)
    · have town : ∀ σ' H' ρ' O' m, DSt K ⟨H, [ta], O.filter fun b => decide (b ≠ ta)⟩ H' σ' ρ' O' → ρ'[1]? = some (some (.cnt ta m)) → ∃ ts', H' ta = some (.lst ts') ∧ ts'.length ≤ m := fun σ' H' ρ' O' m st' e => by
        obtain ⟨v, _, ts', _, _, _, h1, h2⟩ := st'.at_ 1 _ e
        exact ⟨ts', h1, h2⟩
      have kp : ∀ σ' H' ρ' O', DSt K ⟨H, [ta], O.filter fun b => decide (b ≠ ta)⟩ H' σ' ρ' O' → ∀ b o, b ≠ ta → H b = some o → H' b = some o := fun σ' H' ρ' O' st' b o hb e => st'.kept b o (by simp [hb]) e
      refine ⟨fun σ' H' ρ' O' st' s' ⟨m, e, q'⟩ => ?_, fun v σ' H' d ρ' O' st' s' dv ⟨m, e, q'⟩ => ?_, fun _ _ _ _ _ _ z => z.elim, fun _ _ _ _ _ _ z => z.elim⟩
      · obtain ⟨ts', h1, h2⟩ := town σ' H' ρ' O' m st' e
        exact q' _ H' ts' (kp σ' H' ρ' O' st') h1 h2 .non
      · obtain ⟨ts', h1, h2⟩ := town σ' H' ρ' O' m st' e
        refine q' v H' ts' (kp σ' H' ρ' O' st') h1 h2 (DV.mono (hide_more fun a h => ?_) dv)
        by_cases e : a = ta
        · exact List.mem_append_right _ (by simp [e])
        · exact List.mem_append_left _ (List.mem_filter.mpr ⟨h, by simp [e]⟩)
end
end L2.L3

namespace L2
open PySem PySem.Spec PyProof.Rows
section
variable {X : Cx} {pins : List (Addr × Obj)} {σ : St} {H : Hp} {s : Shared}
/-- an object that stands already is tracked from here on -/
theorem Inv.track {a : Addr} {o : HO} (I : Inv X pins σ H s) (f : FpOk X pins H a) (new : ObjOk X.prog X.w (upd H a o) s.heap a o) : Inv X pins σ (upd H a o) s := by
  have hn := f.1
  refine I.step (h' := s.heap) (g' := s.gens) (d' := s.drawn) (t' := s.toks) (ch := [a]) (fun b hb => by obtain rfl := List.mem_singleton.mp hb; exact ⟨f.2.2.2.1, f.2.1, f.2.2.2.2.1, f.2.2.2.2.2⟩) (fun b ob _ _ _ e _ => e) (fun b ob _ _ _ e _ => ⟨ob.slots, e⟩)
    (fun b ob hc _ n => by rw [upd_ne (fun z => hc (by simp [z]))]; exact n) (fun b ob _ e => ⟨ob, e⟩) (fun b xs e => same_upd hn b _ e) (fun b ob u e => same_upd hn b _ e) (fun b ps e => ⟨#[], by rw [same_upd hn b _ e]; simp⟩) (fun m hm => hm) (fun b u e => ?_) I.bare
  by_cases hb : b = a
  · subst hb; rw [upd_same] at e; cases e; exact new
  · rw [upd_ne hb] at e
    exact (I.hok b u e).stay (fun _ _ _ q => q) (fun c q => same_upd hn c _ q) fun c xs q => same_upd hn c _ q
end
theorem vals3 {x y z : V} {us : List Value} (r : Vals [x, y, z] us) : ∃ u v w, us = [u, v, w] ∧ RelV x u ∧ RelV y v ∧ RelV z w := by
  cases r with
  | cons r1 r => cases r with
    | cons r2 r => cases r with
      | cons r3 r => cases r; exact ⟨_, _, _, rfl, r1, r2, r3⟩
section
variable {X : Cx} {a b c : Expr} {t : TA} {pos p1 p2 pos2 : Pos}
/-- list(zip(a, b, c)) -/
def tLZ (t : TA) : TE := fun σ H Q => t σ H fun vs H1 => ∃ l1 l2 l3 xs ys zs, vs = [.ref l1, .ref l2, .ref l3] ∧ H1 l1 = some (.lst xs) ∧ H1 l2 = some (.lst ys) ∧ H1 l3 = some (.lst zs) ∧ ys.length = xs.length ∧ zs.length = xs.length ∧ 0 < xs.length ∧
  ∀ p H2 (qs : List Addr), Same H1 H2 → H1 p = none → H2 p = some (.lst (qs.map V.ref)) → qs.length = xs.length → (∀ (i : Nat) (q : Addr), qs[i]? = some q → ∃ x y z, xs[i]? = some x ∧ ys[i]? = some y ∧ zs[i]? = some z ∧ H1 q = none ∧ H2 q = some (.tup [x, y, z])) → Q (.ref p) H2
theorem refs_of : ∀ {acc : List Value}, (∀ (j : Nat) (w : Value), acc[j]? = some w → ∃ T, w = Value.ref T) → ∃ qs : List Addr, acc = qs.map Value.ref
  | [], _ => ⟨[], rfl⟩
  | v :: r, h => by
    obtain ⟨T, e⟩ := h 0 v rfl
    obtain ⟨qs, hq⟩ := refs_of (acc := r) fun j w e => h (j + 1) w (by simpa using e)
    exact ⟨T :: qs, by rw [hq, e]; rfl⟩
theorem trips_refs {h : Heap} {n : Addr} {xs ys zs : Array Value} {acc : List Value} (t : Trips h n xs ys zs acc) : ∃ qs : List Addr, acc = qs.map Value.ref :=
  refs_of fun j w e => by obtain ⟨T, _, _, _, e, _⟩ := t j w e; exact ⟨T, e⟩
theorem pe_listzip3 (hc : X.calm = true) (hg1 : Gl X "list") (hm1 : X.mg "list" = none) (hg2 : Gl X "zip") (hm2 : X.mg "zip" = none) (ha : PA X [a, b, c] t)
    (he : starEach [.Call (.Name "zip" p2) [a, b, c] [] pos2] X.env = [(false, eval (.Call (.Name "zip" p2) [a, b, c] [] pos2) X.env)] := by rfl)
    (hs : starEach [a, b, c] X.env = (false, eval a X.env) :: starEach [b, c] X.env := by rfl) (hpl : (backTo pos2 (starEach [b, c] X.env)).any (·.1) = false := by rfl) :
    PE X (.Call (.Name "list" p1) [.Call (.Name "zip" p2) [a, b, c] [] pos2] [] pos) (tLZ t) := by
  intro pins s σ H Q I h
  refine wpAny_Call_Name_kw (ld_blt I hg1 hm1 (show bootBuiltins "list" = some (.type "list") by decide +kernel) ?_ (by decide) (by decide))
  refine PyProof.Rows.callWith_type1 ?_ (by rw [he]; rfl) rfl
  rw [he]
  show wpAny _ _ (spliced [(false, eval (.Call (.Name "zip" p2) [a, b, c] [] pos2) X.env)]) _ _ s
  refine Calls.spliced_cons ?_
  refine wpAny_Call_Name_kw (ld_blt I hg2 hm2 boot_zip ?_ (by decide) (by decide))
  refine PyProof.Rows.callWith_type1 (thn (ha pos2 pins s σ H _ I h) fun us s1 ⟨vs, H1, I1, r1, q1⟩ => ?_) hs hpl
  obtain ⟨l1, l2, l3, xs, ys, zs, rfl, h1, h2, h3, e2, e3, hpos, q⟩ := q1
  obtain ⟨u1, u2, u3, rfl, ru1, ru2, ru3⟩ := vals3 r1
  cases ru1; cases ru2; cases ru3
  obtain ⟨z1, its1, n1, r1', g1⟩ := I1.hok _ _ h1
  obtain ⟨z2, its2, n2, r2', g2⟩ := I1.hok _ _ h2
  obtain ⟨z3, its3, n3, r3', g3⟩ := I1.hok _ _ h3
  have L1 : s1.heap.IsList l1 its1.toArray := ⟨_, g1, rfl, _, rfl⟩
  have L2' : s1.heap.IsList l2 its2.toArray := ⟨_, g2, rfl, _, rfl⟩
  have L3' : s1.heap.IsList l3 its3.toArray := ⟨_, g3, rfl, _, rfl⟩
  have len1 := r1'.length
  have len2 := r2'.length
  have len3 := r3'.length
  refine call_zip_3 L1 L2' L3' fun h' hz hti hto hi1 hi2 hi3 hsz hk => ?_
  refine Calls.spliced_nil ?_
  have lt1 : l1 < s1.heap.objs.size := Heap.lt_size g1
  have lt2 : l2 < s1.heap.objs.size := Heap.lt_size g2
  have lt3 : l3 < s1.heap.objs.size := Heap.lt_size g3
  have nd : [s1.heap.objs.size + 5, s1.heap.objs.size + 3, s1.heap.objs.size + 4, s1.heap.objs.size, s1.heap.objs.size + 1, s1.heap.objs.size + 2].Nodup := by
    generalize s1.heap.objs.size = n
    simp only [List.nodup_cons, List.mem_cons, List.not_mem_nil, or_false, not_or, not_false_eq_true, and_true, List.nodup_nil]
    refine ⟨⟨?_, ?_, ?_, ?_, ?_⟩, ⟨?_, ?_, ?_, ?_⟩, ⟨?_, ?_, ?_⟩, ⟨?_, ?_⟩, ?_⟩ <;> exact (by intro e; exact absurd (show (_ : Nat) = _ from e) (by omega))
  have ge : ∀ j ∈ [s1.heap.objs.size + 5, s1.heap.objs.size + 3, s1.heap.objs.size + 4, s1.heap.objs.size, s1.heap.objs.size + 1, s1.heap.objs.size + 2], s1.heap.objs.size ≤ j := fun j hj => by
    simp only [List.mem_cons, List.not_mem_nil, or_false] at hj
    rcases hj with rfl | rfl | rfl | rfl | rfl | rfl
    · exact Nat.le_add_right _ _
    · exact Nat.le_add_right _ _
    · exact Nat.le_add_right _ _
    · exact Nat.le_refl _
    · exact Nat.le_add_right _ _
    · exact Nat.le_add_right _ _
  have I2 : Inv X pins σ H1 { s1 with heap := h' } := I1.kept (t' := s1.toks) hk
  refine call_list_zip3 (s := { s1 with heap := h' }) (I1.ok.hd hc) nd (fun l hl j hj => ?_) (fun j hj => ?_) hz hti hto hi1 hi2 hi3 (L1.at fun o e => hk _ _ e) (L2'.at fun o e => hk _ _ e) (L3'.at fun o e => hk _ _ e)
    (by simp only [List.size_toArray]; omega) (by simp only [List.size_toArray]; omega) (by simp only [List.size_toArray]; omega) (by simp only [List.size_toArray]; omega) fun h2 acc cc hk2 hS hl tr => ?_
  · simp only [List.mem_cons, List.not_mem_nil, or_false] at hl
    rcases hl with rfl | rfl | rfl
    · exact Nat.ne_of_lt (Nat.lt_of_lt_of_le lt1 (ge j hj))
    · exact Nat.ne_of_lt (Nat.lt_of_lt_of_le lt2 (ge j hj))
    · exact Nat.ne_of_lt (Nat.lt_of_lt_of_le lt3 (ge j hj))
  · show j < h'.objs.size
    rw [hsz]
    simp only [List.mem_cons, List.not_mem_nil, or_false] at hj
    generalize s1.heap.objs.size = n at *
    rcases hj with rfl | rfl | rfl | rfl | rfl | rfl | rfl | rfl | rfl
    · exact Nat.lt_succ_self _
    · exact Nat.add_lt_add_left (show (3 : Nat) < 6 by decide) _
    · exact Nat.add_lt_add_left (show (4 : Nat) < 6 by decide) _
    · exact Nat.lt_add_of_pos_right (by decide)
    · exact Nat.add_lt_add_left (show (1 : Nat) < 6 by decide) _
    · exact Nat.add_lt_add_left (show (2 : Nat) < 6 by decide) _
    · exact Nat.lt_of_lt_of_le lt1 (Nat.le_add_right _ _)
    · exact Nat.lt_of_lt_of_le lt2 (Nat.le_add_right _ _)
    · exact Nat.lt_of_lt_of_le lt3 (Nat.le_add_right _ _)
  · -- the heap behind it
    have kp : ∀ b ob, s1.heap.get? b = some ob → h2.get? b = some ob := fun b ob e => hk2 b ob (fun z => absurd (ge b (by
      simp only [List.mem_cons, List.not_mem_nil, or_false] at z ⊢
      rcases z with z | z | z | z | z <;> simp [z])) (Nat.not_le.mpr (Heap.lt_size e))) (hk b ob e)
    have I3 : Inv X pins σ H1 { s1 with heap := h2 } := I1.kept (t' := s1.toks) kp
    obtain ⟨qs, hqs⟩ := trips_refs tr
    have big : ∀ b, h'.objs.size ≤ b → FpOk X pins H1 b := fun b hb => I2.fpOk hb (I2.hok.fresh hb)
    have hlq : qs.length = xs.length := by
      have := congrArg List.length hqs
      rw [List.length_map] at this
      rw [← this, hl, List.size_toArray]
      exact len1.symm
    have vq : ∀ qs : List Addr, Vals (qs.map V.ref) (qs.map Value.ref) := fun qs => by
      induction qs with
      | nil => exact .nil
      | cons q r ih => exact .cons rfl ih
    have I4 : Inv X pins σ (upd H1 h'.objs.size (.lst (qs.map V.ref))) { s1 with heap := h2 } := I3.track (big _ (Nat.le_refl _)) ⟨by rw [List.length_map, hlq]; exact z1, _, _, vq qs, by rw [← hqs]; exact hS⟩
    -- the triples, one by one
    have all : ∀ k, k ≤ qs.length → ∃ H2, Same H1 H2 ∧ Inv X pins σ H2 { s1 with heap := h2 } ∧ H2 h'.objs.size = some (.lst (qs.map V.ref)) ∧ (∀ b, h'.objs.size < b → H2 b = none ∨ ∃ row, H2 b = some (.tup row)) ∧
        ∀ (i : Nat) (q : Addr), i < k → qs[i]? = some q → ∃ x y z, xs[i]? = some x ∧ ys[i]? = some y ∧ zs[i]? = some z ∧ H1 q = none ∧ H2 q = some (.tup [x, y, z]) := fun k => by
      induction k with
      | zero => exact fun _ => ⟨_, same_upd (big _ (Nat.le_refl _)).1, I4, upd_same, fun b hb => .inl (by rw [upd_ne (Nat.ne_of_gt hb)]; exact (big b (Nat.le_of_lt hb)).1), fun i q h => absurd h (Nat.not_lt_zero _)⟩
      | succ k ih =>
        intro hk'
        obtain ⟨H2, sm, J, hp, hb2, hrow⟩ := ih (Nat.le_of_succ_le hk')
        have hkl : k < qs.length := hk'
        have eqk : qs[k]? = some qs[k] := List.getElem?_eq_getElem hkl
        obtain ⟨T, x', y', u', eT, hT, trp, ex, ey, eu⟩ := tr k (.ref qs[k]) (by rw [hqs, List.getElem?_map, eqk]; rfl)
        cases eT
        have hTlt : h'.objs.size < qs[k] := hT
        have kx : k < xs.length := by rw [← hlq]; exact hkl
        have vx : xs[k]? = some xs[k] := List.getElem?_eq_getElem kx
        have vy : ys[k]? = some (ys[k]'(by omega)) := List.getElem?_eq_getElem (by omega)
        have vz : zs[k]? = some (zs[k]'(by omega)) := List.getElem?_eq_getElem (by omega)
        obtain ⟨w1, hw1, rw1⟩ := r1'.get vx
        obtain ⟨w2, hw2, rw2⟩ := r2'.get vy
        obtain ⟨w3, hw3, rw3⟩ := r3'.get vz
        have e1 : x' = w1 := by simp only [List.getElem?_toArray] at ex; rw [hw1] at ex; exact (Option.some.inj ex).symm
        have e2' : y' = w2 := by simp only [List.getElem?_toArray] at ey; rw [hw2] at ey; exact (Option.some.inj ey).symm
        have e3' : u' = w3 := by simp only [List.getElem?_toArray] at eu; rw [hw3] at eu; exact (Option.some.inj eu).symm
        subst e1 e2' e3'
        have rel : Vals [xs[k], ys[k]'(by omega), zs[k]'(by omega)] [x', y', u'] := .cons rw1 (.cons rw2 (.cons rw3 .nil))
        have H1q : H1 qs[k] = none := (big _ (Nat.le_of_lt hTlt)).1
        rcases hb2 qs[k] hTlt with hn | ⟨row, hr⟩
        · refine ⟨upd H2 qs[k] (.tup [xs[k], ys[k]'(by omega), zs[k]'(by omega)]), fun b o e => same_upd hn _ _ (sm b o e), J.track ⟨hn, (big _ (Nat.le_of_lt hTlt)).2⟩ ⟨by show 3 ≤ sizeLine; decide, _, rel, ⟨_, trp, rfl, _, rfl⟩⟩,
            by rw [upd_ne (Nat.ne_of_lt hTlt)]; exact hp, fun b hb => ?_, fun i q hi hq => ?_⟩
          · by_cases e : b = qs[k]
            · subst e; exact .inr ⟨_, upd_same⟩
            · rw [upd_ne e]; exact hb2 b hb
          · rcases Nat.lt_succ_iff_lt_or_eq.mp hi with hi | rfl
            · obtain ⟨x, y, z, a1, a2, a3, a4, a5⟩ := hrow i q hi hq
              exact ⟨x, y, z, a1, a2, a3, a4, same_upd hn _ _ a5⟩
            · rw [eqk] at hq; cases hq
              exact ⟨_, _, _, vx, vy, vz, H1q, upd_same⟩
        · have same : row = [xs[k], ys[k]'(by omega), zs[k]'(by omega)] := by
            obtain ⟨_, its, rv, o, eo, co, n, dn⟩ := J.hok _ _ hr
            have eo' : h2.get? qs[k] = some o := eo
            rw [trp] at eo'
            cases eo'
            have d' : (#[x', y', u'] : Array Value) = its.toArray := by injection dn
            have : its = [x', y', u'] := by have := congrArg Array.toList d'; simpa using this.symm
            subst this
            exact rv.inj rel
          refine ⟨H2, sm, J, hp, hb2, fun i q hi hq => ?_⟩
          rcases Nat.lt_succ_iff_lt_or_eq.mp hi with hi | rfl
          · exact hrow i q hi hq
          · rw [eqk] at hq; cases hq
            exact ⟨_, _, _, vx, vy, vz, H1q, by rw [hr, same]⟩
    obtain ⟨H2, sm, J, hp, _, hrow⟩ := all qs.length (Nat.le_refl _)
    exact ⟨.ref h'.objs.size, H2, J, rfl, q h'.objs.size H2 qs sm (big _ (Nat.le_refl _)).1 hp hlq fun i qq e => hrow i qq (List.getElem?_eq_some_iff.mp e).1 e⟩
end
end L2

namespace L2.L3
open PySem PySem.Spec PyProof.Rows
/-! ### built-in functions on plain data -/
def fLen : DN := fun xs Q => ∃ ds, (xs = [.list ds] ∨ xs = [.tuple ds]) ∧ Q (.int ds.length)
theorem n_len {K : PySem.W.Frag} : OpN (fun xs H Q => ∃ p ys, xs = [.ref p] ∧ (SqL K H p ys ∨ SqT K H p ys) ∧ Q (.int ys.length) H) fLen where
  mn := fun _ _ _ k ⟨ds, e, q⟩ => ⟨ds, e, k _ q⟩
  ok := fun O H vs xs Q hO hd ⟨ds, e, q⟩ => by
    rcases e with rfl | rfl
    · cases hd with
      | cons d r =>
        cases r
        obtain ⟨a, ys, rfl, ha, hy⟩ := d.lst_inv
        exact ⟨a, ys, rfl, .inl (.of (of_hide ha).1), by rw [hy.length]; exact q _ H (fun _ _ h => h) (.int _)⟩
    · cases hd with
      | cons d r =>
        cases r
        obtain ⟨a, ys, rfl, ha, hy⟩ := d.tup_inv
        exact ⟨a, ys, rfl, .inr (.of (of_hide ha).1), by rw [hy.length]; exact q _ H (fun _ _ h => h) (.int _)⟩
theorem dvs2 {H : Hp} {vs : List V} {a b : PyData} (h : DVs H vs [a, b]) : ∃ x y, vs = [x, y] ∧ DV H x a ∧ DV H y b := by
  cases h with | cons d r => cases r with | cons d' r => cases r; exact ⟨_, _, rfl, d, d'⟩
theorem dvs1 {H : Hp} {vs : List V} {a : PyData} (h : DVs H vs [a]) : ∃ x, vs = [x] ∧ DV H x a := by
  cases h with | cons d r => cases r; exact ⟨_, rfl, d⟩
theorem dvs3 {H : Hp} {vs : List V} {a b c : PyData} (h : DVs H vs [a, b, c]) : ∃ x y z, vs = [x, y, z] ∧ DV H x a ∧ DV H y b ∧ DV H z c := by
  cases h with | cons d r => cases r with | cons d' r => cases r with | cons d'' r => cases r; exact ⟨_, _, _, rfl, d, d', d''⟩
def fMax : DN := fun xs Q => ∃ i j : Int, xs = [.int i, .int j] ∧ Q (.int (max i j))
theorem n_max : OpN (fun xs H Q => ∃ i j, xs = [.int i, .int j] ∧ Q (.int (if j > i then j else i)) H) fMax where
  mn := fun _ _ _ k ⟨i, j, e, q⟩ => ⟨i, j, e, k _ q⟩
  ok := fun O H vs xs Q hO hd ⟨i, j, e, q⟩ => by
    subst e
    obtain ⟨x, y, rfl, h1, h2⟩ := dvs2 hd
    have e : (if j > i then j else i) = max i j := by split <;> omega
    exact ⟨i, j, by rw [h1.int_inv, h2.int_inv], by rw [e]; exact q _ H (fun _ _ h => h) (.int _)⟩
def fInt : DN := fun xs Q => (∃ i, xs = [.int i] ∧ Q (.int i)) ∨ ∃ b : Bool, xs = [.bool b] ∧ Q (.int (if b then 1 else 0))
def fDivmod : DN := fun xs Q => ∃ i j : Int, xs = [.int i, .int j] ∧ CDiv i j ∧ Q (.tuple [.int (i / j), .int (i % j)])
def fTuple : DN := fun xs Q => (∃ ds, xs = [.list ds] ∧ Q (.tuple ds)) ∨ ∃ ds, xs = [.tuple ds] ∧ Q (.tuple ds)
def fAll : DN := fun xs Q => ∃ bs : List Bool, xs = [.list (bs.map .bool)] ∧ Q (.bool (bs.all id))
/-! ### list(zip(a, b, c)), list(range(a)), slices -/
def zip3D (as bs cs : List PyData) : List PyData := (as.zip (bs.zip cs)).map fun q => PyData.tuple [q.1, q.2.1, q.2.2]
def dLZ (t : DTA) : DT := fun ρ Q => t ρ fun ds ρ' => ∃ as bs cs, ds = [.list as, .list bs, .list cs] ∧ bs.length = as.length ∧ cs.length = as.length ∧ 0 < as.length ∧ Q (.list (zip3D as bs cs)) ρ'
theorem dvs_of : ∀ {H : Hp} {vs : List V} {ds : List PyData}, vs.length = ds.length → (∀ (i : Nat) v d, vs[i]? = some v → ds[i]? = some d → DV H v d) → DVs H vs ds
  | _, [], [], _, _ => .nil
  | _, [], _ :: _, e, _ => by cases e
  | _, _ :: _, [], e, _ => by cases e
  | H, v :: vs, d :: ds, e, h => .cons (h 0 v d rfl rfl) (dvs_of (by simpa using e) fun i v' d' e1 e2 => h (i + 1) v' d' (by simpa using e1) (by simpa using e2))
section
variable {X : Cx} {F : Fx} {a b c e : Expr} {te : DT} {tA : DTA} {pos p1 p2 pos2 : Pos}
theorem de_listzip3 (hc : X.calm = true) (hg1 : Gl X "list") (hm1 : X.mg "list" = none) (hg2 : Gl X "zip") (hm2 : X.mg "zip" = none) (ha : DA X F [a, b, c] tA)
    (he : starEach [.Call (.Name "zip" p2) [a, b, c] [] pos2] X.env = [(false, eval (.Call (.Name "zip" p2) [a, b, c] [] pos2) X.env)] := by rfl)
    (hs : starEach [a, b, c] X.env = (false, eval a X.env) :: starEach [b, c] X.env := by rfl) (hpl : (backTo pos2 (starEach [b, c] X.env)).any (·.1) = false := by rfl) :
    DE X F (.Call (.Name "list" p1) [.Call (.Name "zip" p2) [a, b, c] [] pos2] [] pos) (dLZ tA) :=
  ⟨fun _ _ _ k q => ha.mn _ _ _ (fun _ _ ⟨x, y, z, e, h1, h2, h3, q⟩ => ⟨x, y, z, e, h1, h2, h3, k _ _ q⟩) q, (pe_listzip3 hc hg1 hm1 hg2 hm2 ha.pa he hs hpl).imp fun σ H Q ⟨ρ, O, st, q⟩ =>
    ⟨ρ, O, st, ha.mn _ _ _ (fun ds ρ1 ⟨as, bs, cs, e, l1, l2, l3, q1⟩ vs H1 O1 st1 s1 d1 => by
      subst e
      obtain ⟨x, y, z, rfl, h1, h2, h3⟩ := dvs3 d1
      obtain ⟨a1, xs, rfl, ha1, hx⟩ := h1.lst_inv
      obtain ⟨a2, ys, rfl, ha2, hy⟩ := h2.lst_inv
      obtain ⟨a3, zs, rfl, ha3, hz⟩ := h3.lst_inv
      refine ⟨a1, a2, a3, xs, ys, zs, rfl, (of_hide ha1).1, (of_hide ha2).1, (of_hide ha3).1, by rw [hx.length, hy.length]; exact l1, by rw [hx.length, hz.length]; exact l2, by rw [hx.length]; exact l3, fun p H2 qs sm hp hH2 hl hrow => ?_⟩
      have nO : ∀ b, H1 b = none → b ∉ O1 := st1.nofree
      refine q1 _ H2 O1 (st1.grow sm) (s1.trans (.same sm)) (.lst (hide_of hH2 (nO p hp)) (dvs_of ?_ fun i v d e1 e2 => ?_))
      · unfold zip3D
        rw [List.length_map, List.length_map, List.length_zip, List.length_zip, hl, hx.length]
        omega
      · rw [List.getElem?_map] at e1
        obtain ⟨qq, e3, e4⟩ := Option.map_eq_some_iff.mp e1
        subst e4
        obtain ⟨x, y, z, g1, g2, g3, g4, g5⟩ := hrow i qq e3
        unfold zip3D at e2
        rw [List.getElem?_map] at e2
        obtain ⟨⟨d0, d1, d2⟩, e5, e6⟩ := Option.map_eq_some_iff.mp e2
        subst e6
        obtain ⟨e7, e8⟩ := List.getElem?_zip_eq_some.mp e5
        obtain ⟨e9, e10⟩ := List.getElem?_zip_eq_some.mp e8
        obtain ⟨dx, k1, k2⟩ := hx.get' g1
        obtain ⟨dy, k3, k4⟩ := hy.get' g2
        obtain ⟨dz, k5, k6⟩ := hz.get' g3
        have e7' : as[i]? = some d0 := e7
        have e9' : bs[i]? = some d1 := e9
        have e10' : cs[i]? = some d2 := e10
        rw [k1] at e7'; rw [k3] at e9'; rw [k5] at e10'
        cases e7'; cases e9'; cases e10'
        have m := hide_same (O := O1) sm
        exact .tup (hide_of g5 (nO qq g4)) (.cons (DV.mono m k2) (.cons (DV.mono m k4) (.cons (DV.mono m k6) .nil)))) q⟩⟩
def dLR (t : DTA) : DT := fun ρ Q => t ρ fun ds ρ' => ∃ j : Int, ds = [.int j] ∧ 0 ≤ j ∧ j ≤ 2 ^ 24 ∧ Q (.list (intsFrom 0 j.toNat)) ρ'
/-- xs[k:] of a list, k written -/
def dTail (te : DT) (k : Nat) : DT := fun ρ Q => te ρ fun d ρ' => ∃ ds, d = .list ds ∧ Q (.list (ds.drop k)) ρ'
theorem de_tail {k j : Nat} {kp sp : Pos} (he : DE X F e te) : DE X F (.Subscript e (.Slice (some (.Constant (.int (k : Int)) j kp)) none none sp) pos) (dTail te k) :=
  ⟨fun _ _ _ k q => he.mn _ _ _ (fun _ _ ⟨ds, e, q⟩ => ⟨ds, e, k _ _ q⟩) q, (pe_slice sl_list he.pe (po_some pe_int) po_none).imp fun σ H Q ⟨ρ, O, st, q⟩ =>
    ⟨ρ, O, st, he.mn _ _ _ (fun d ρ1 ⟨ds, e, q1⟩ v H1 O1 st1 s1 d1 => by
      subst e
      obtain ⟨a, xs, rfl, ha, hx⟩ := d1.lst_inv
      refine ⟨(k : Int), rfl, a, xs, rfl, .of (of_hide ha).1, fun p hp => q1 _ _ O1 (st1.grow (same_upd hp)) (s1.trans (.same (same_upd hp))) (dv_new_lst hp (st1.nofree p hp) ?_)⟩
      have : cutV xs (some (k : Int)) none = xs.drop k := by
        unfold cutV
        rw [HT.sIx_none, HT.sIx_nat]
        by_cases h : k ≤ xs.length
        · rw [Nat.min_eq_left h, List.take_of_length_le (by rw [List.length_drop]; exact Nat.le_refl _)]
        · rw [Nat.min_eq_right (by omega), List.drop_of_length_le (Nat.le_refl _), List.drop_of_length_le (by omega)]
          simp
      rw [this]
      exact hx.drop k) q⟩⟩
end
/-! ### the script: len, an item, == [] -/
section
variable {X : Cx} {F : Fx} {a b c e : Expr} {te : DT} {tA : DTA} {pos p p1 p2 pos2 : Pos} {x : Str} {i : Nat}
def dLenS (i : Nat) : DT := fun ρ Q => ∃ ns, ρ[i]? = some (some (.scr ns)) ∧ (ns.length ≤ 63 → Q (.int ns.length) ρ)
theorem de_lenS (hg : Gl X "len") (hm : X.mg "len" = none) (h : PE X (.Name x p1) (tVar i)) (he : starEach [.Name x p1] X.env = (false, eval (.Name x p1) X.env) :: starEach [] X.env := by rfl) (hpl : (backTo pos (starEach [] X.env)).any (·.1) = false := by rfl) :
    DE X F (.Call (.Name "len" p) [.Name x p1] [] pos) (dLenS i) :=
  ⟨fun _ _ _ k ⟨ns, e, q⟩ => ⟨ns, e, fun h => k _ _ (q h)⟩, (pe_callB call_len_seq hg hm PySem.boot_len (pa_cons h pa_nil he) (by decide) (by decide) he hpl).imp fun σ H Q ⟨ρ, O, st, ns, e, q⟩ => by
    obtain ⟨v, hv, sa, rfl, hs⟩ := st.at_ i _ e
    refine ⟨_, hv, sa, ns.map V.int, rfl, .inl hs.sq, ?_⟩
    rw [List.length_map]
    exact q hs.1 _ H O st .refl (.int _)⟩
def dIxS (i : Nat) (te : DT) : DT := fun ρ Q => ∃ ns, ρ[i]? = some (some (.scr ns)) ∧ te ρ fun d ρ' => ∃ k n, d = .int k ∧ atI ns k = some n ∧ Q (.int n) ρ'
theorem atI_map {α β : Type} {g : α → β} {l : List α} {k : Int} {n : α} (h : atI l k = some n) : atI (l.map g) k = some (g n) := by
  unfold atI at h ⊢
  rw [List.length_map]
  cases q : ixN l.length k with
  | none => rw [q] at h; cases h
  | some j =>
    rw [q] at h
    show (l.map g)[j]? = some (g n)
    rw [List.getElem?_map]
    have h : l[j]? = some n := h
    rw [h]
    rfl
theorem de_ixS (h : PE X (.Name x p1) (tVar i)) (he : DE X F e te) (hs : PlainIx e) : DE X F (.Subscript (.Name x p1) e pos) (dIxS i te) :=
  ⟨fun _ _ _ k ⟨ns, e, q⟩ => ⟨ns, e, he.mn _ _ _ (fun _ _ ⟨k', n, e1, e2, q⟩ => ⟨k', n, e1, e2, k _ _ q⟩) q⟩, (pe_ix ix_list h he.pe hs).imp fun σ H Q ⟨ρ, O, st, ns, e, q⟩ => by
    obtain ⟨v, hv, sa, rfl, hs⟩ := st.at_ i _ e
    refine ⟨_, hv, ρ, O, st, he.mn _ _ _ (fun d ρ1 ⟨k, n, e1, e2, q1⟩ w H1 O1 st1 s1 d1 => ?_) q⟩
    subst e1
    have hs1 : Scr X.K H1 sa ns := hs.mono fun o u q => s1.keep _ _ (fun z => by obtain ⟨xs, e⟩ := st.live _ z; rw [q] at e; cases e) q
    exact ⟨sa, ns.map V.int, k, .int n, rfl, d1.int_inv, hs1.sq, atI_map e2, q1 _ H1 O1 st1 s1 (.int _)⟩⟩
def rEqS (K : PySem.W.Frag) : R2 := fun x y H Q => ∃ a b ns, x = .ref a ∧ y = .ref b ∧ SqL K H a (ns.map V.int) ∧ H b = some (.lst []) ∧ Q (.bl (decide (ns = []))) H
theorem reads_ints {h : Heap} : ∀ {ns : List Int} {us : List Value}, Vals (ns.map V.int) us → ∃ as, ReadsAll h us (ns.map PyData.int) as
  | [], _, r => by cases r; exact ⟨_, .nil⟩
  | n :: ns, _, r => by
    cases r with
    | cons r1 r =>
      obtain ⟨t, rfl⟩ := r1
      obtain ⟨as, q⟩ := reads_ints r
      exact ⟨_, .cons (.int n t) q⟩
theorem op_eqS (hu : X.A.units + 64 < cLine) : OpR X (compareOp .Eq) (rEqS X.K) := by
  intro pins s σ H x y v u Q I rx ry h
  obtain ⟨a, b, ns, rfl, rfl, h1, h2, q⟩ := h
  cases rx; cases ry
  obtain ⟨its, rv, ⟨o, n, e, c1, _, d1⟩, hz⟩ := I.list h1
  obtain ⟨_, its2, n2, rv2, e2⟩ := I.hok _ _ h2
  cases rv2
  obtain ⟨as, ra⟩ := reads_ints (h := s.heap) rv
  have e3 : PyData.eqv (.list (ns.map .int)) (.list []) = decide (ns = []) := by cases ns <;> rfl
  refine eq_dataH (reads_list_at e c1 d1 (by simpa using ra)) (reads_list_at (xs := []) e2 rfl rfl .nil) ?_ (by decide) hu (by rw [e3]; exact ⟨.bl _, H, I, rfl, q⟩)
  unfold SeqAt.shaped
  have c0 : PyData.canLay0 (.list (ns.map .int)) = true := by
    have : ∀ ns : List Int, PyData.canLayAll0 (ns.map .int) = true := fun ns => by
      induction ns with
      | nil => rfl
      | cons n r ih => rw [List.map_cons]; simp only [PyData.canLayAll0, PyData.canLay0, ih, Bool.and_self]
    simp only [PyData.canLay0, this]
  have dp : PyData.depth (.list (ns.map .int)) ≤ 64 := by
    have : ∀ ns : List Int, PyData.depthAll (ns.map .int) ≤ 1 := fun ns => by
      induction ns with
      | nil => simp [PyData.depthAll]
      | cons n r ih => rw [List.map_cons]; simp only [PyData.depthAll, PyData.depth]; omega
    have := this ns
    simp only [PyData.depth]
    omega
  rw [c0, Bool.true_and]
  exact decide_eq_true dp
def dEqS (i : Nat) : DTT := fun ρ Q => ∃ ns, ρ[i]? = some (some (.scr ns)) ∧ Q (decide (ns = [])) ρ
theorem db_eqS {lp : Pos} (hu : X.A.units + 64 < cLine) (h : PE X (.Name x p1) (tVar i)) : DB X F (.Compare (.Name x p1) [.Eq] [.List [] lp] pos) (dEqS i) :=
  ⟨fun _ _ _ k ⟨ns, e, q⟩ => ⟨ns, e, k _ _ q⟩, (pt_cmpR (op_eqS hu) h (pe_lst pa_nil) (nomark _)).imp fun σ H Q ⟨ρ, O, st, ns, e, q⟩ => by
    obtain ⟨v, hv, sa, rfl, hs⟩ := st.at_ i _ e
    refine ⟨_, hv, Nat.zero_le _, fun p hp => ⟨sa, p, ns, rfl, rfl, (same_upd hp).seq hs.sq, upd_same, _, rfl, q _ O (st.grow (same_upd hp)) (.same (same_upd hp))⟩⟩⟩
/-! ### the script is handed in first -/
def spS (K : PySem.W.Frag) (f : DN) : Sp := fun vs H Q _ => ∃ O sa ns rest ds, vs = V.ref sa :: rest ∧ OOk H O ∧ Scr K H sa ns ∧ DVs (hide O H) rest ds ∧ f ds fun d => ∀ v H', Same H H' → DV (hide O H') v d → Q v H'
def dScr (f : DN) (i : Nat) (t : DTA) : DT := fun ρ Q => ∃ ns, ρ[i]? = some (some (.scr ns)) ∧ t ρ fun ds ρ1 => f ds fun d => Q d ρ1
theorem de_scr {es : List Expr} {s1 : Str} {f : DN} {k : Nat} {g : Addr} {fd : FuncData} {ps : List Str} (G : FnOk X.prog X.w X.K X.mg X.base CX0 k g fd ps (spS X.K f)) (hf : MnN f) (hr : Room k X.A) (hg : Gl X x) (hm : X.mg x = some (.ref g)) (hk : PySem.W.keepIn X.K (.ref g) = true) (hb : Binds X.K fd ps [])
    (h1 : PE X (.Name s1 p1) (tVar i)) (ha : DA X F es tA) (hdb : (x == ("__debug__" : Str)) = false := by decide)
    (he : starEach (.Name s1 p1 :: es) X.env = (false, eval (.Name s1 p1) X.env) :: starEach es X.env := by rfl) (hpl : (backTo pos (starEach es X.env)).any (·.1) = false := by rfl) : DE X F (.Call (.Name x p) (.Name s1 p1 :: es) [] pos) (dScr f i tA) :=
  ⟨fun _ _ _ k ⟨ns, e1, q⟩ => ⟨ns, e1, ha.mn _ _ _ (fun _ _ q1 => hf _ _ _ (fun _ q2 => k _ _ q2) q1) q⟩,
   (pe_call G hr hg hm hk hb .nil pass0 (pa_cons h1 ha.pa he) hdb he hpl).imp fun σ H Q ⟨ρ, O, st, ns, e1, q⟩ => by
    obtain ⟨v1, hv1, sa, rfl, hsc⟩ := st.at_ i _ e1
    refine ⟨_, hv1, ρ, O, st, ha.mn _ _ _ (fun ds ρ1 q1 vs H1 O1 st1 s1 d1 => ?_) q⟩
    have hsc1 : Scr X.K H1 sa ns := hsc.mono fun o u q => s1.keep _ _ (fun z => by obtain ⟨xs, e⟩ := st.live _ z; rw [q] at e; cases e) q
    exact ⟨O1, sa, ns, vs ++ [], ds, rfl, st1.live, hsc1, by rw [List.append_nil]; exact d1, hf _ _ _ (fun d q2 v H2 s2 d2 => q2 v H2 O1 (st1.grow s2) (s1.trans (.same s2)) d2) q1⟩⟩
end
section
variable {P : Program} {w : World} {K : PySem.W.Frag} {mg : Str → Option Value} {base : Heap} {x qual : Str} {st : Stmt} {f : Addr} {fd : FuncData} {N ps : List Str} {k : Nat} {tS : DTS}
theorem fn_scr {fN : DN} (Fn : Fun K x qual st f fd) (S : FnScope N ps (defScope st)) (len : ∀ ds Q, fN ds Q → ds.length + 1 = ps.length) (hm : MnN fN)
    (der : ∀ (cdv : Value) (A : Around) (outer : List Env) (s : Shared) (H : Hp) (E : XK) (F : Fx), Room k (A.deeper (envOfC qual (defScope st) s.heap.objs.size f cdv)) → DSs (cxOf CX0 P w K mg base N qual (defScope st) f cdv A outer s H E).nox F (defBody st) tS)
    (rd : ∀ ds Q ns, fN ds Q → ns.length ≤ 63 → tS { nx := fun _ => Q .none, rt := fun d _ => Q d } (startD N (.scr ns :: ds.map .dat))) : FnOk P w K mg base CX0 (k + 1) f fd ps (spS K fN) := by
  refine Fn.ok S (fun vs H Q E h => ?_) fun cdv A outer s H vs Q E hr h => ?_
  · obtain ⟨O, sa, ns, rest, ds, rfl, _, _, hd, q⟩ := h
    rw [List.length_cons, hd.length]; exact len _ _ q
  · obtain ⟨O, sa, ns, rest, ds, rfl, ok, hsc, hd, q⟩ := h
    refine ⟨_, der cdv A outer s H E ⟨H, [], O⟩ hr, ?_⟩
    refine ⟨startD N (.scr ns :: ds.map .dat), O, _, dst_start (by simp [hd.length]) (fun i c v e1 e2 => ?_) (fun i j c d e1 e2 h1 h2 => ?_) (fun a h => h.elim id fun z => absurd z (by simp)) (fun _ _ _ h => h) (fun a h => .inl h) ok, rd ds _ ns q hsc.1, ?_⟩
    · match i, e1, e2 with
      | 0, e1, e2 => cases e1; cases e2; exact ⟨sa, rfl, hsc⟩
      | i + 1, e1, e2 =>
        have e1 : (ds.map Cell.dat)[i]? = some c := e1
        have e2 : rest[i]? = some v := e2
        rw [List.getElem?_map] at e1
        obtain ⟨d, e3, e4⟩ := Option.map_eq_some_iff.mp e1
        subst e4
        obtain ⟨v', h1, h2⟩ := hd.get e3
        rw [e2] at h1
        cases h1
        exact h2
    · exfalso
      match i, e1 with
      | 0, e => cases e; cases h1
      | i + 1, e =>
        have e : (ds.map Cell.dat)[i]? = some c := e
        rw [List.getElem?_map] at e
        obtain ⟨d, e3, e4⟩ := Option.map_eq_some_iff.mp e
        subst e4
        cases h1
    · refine ⟨fun σ' H' ρ' O' st' s' q' => q' _ H' (fun b o e => st'.kept b o (by simp) e) .non, fun v σ' H' d ρ' O' st' s' dv q' => q' v H' (fun b o e => st'.kept b o (by simp) e) (by rw [List.append_nil] at dv; exact dv), fun _ _ _ _ _ _ z => z.elim, fun _ _ _ _ _ _ z => z.elim⟩
end
end L2.L3

namespace L2.L3
open PySem PySem.Spec PyProof.Rows
/-! ### short words for what the text writes -/
structure FD (K : PySem.W.Frag) (mg : Str → Option Value) (x : Str) (st : Stmt) (ps : List Str) (g : Addr) (fd : FuncData) : Prop where
  fn : Fun K x x st g fd
  mgf : mg x = some (.ref g)
  b : Binds K fd ps []
section
variable {X : Cx} {scope : Scope} {own capN : List Str} {caps : List Nat}
theorem CompScope.of (h1 : scope.kind = .function := by rfl) (h2 : (scope.names.all fun y => y.2 != .cell) = true := by rfl)
    (h3 : (scope.names.all fun y => y.2 != .free || (X.env.kindOf y.1 == some .cell || X.env.kindOf y.1 == some .free)) = true := by rfl)
    (h4 : (scope.names.all fun y => y.2 != .local || scope.names.lookup y.1 == some .local) = true := by rfl) (h5 : caps.map (fun j => X.N[j]?) = capN.map some := by rfl)
    (h6 : (capN.all fun x => scope.names.lookup x == some .free) = true := by rfl) : CompScope X scope own capN caps where
  kind := h1
  nocell := fun y hy e => by
    have := List.all_eq_true.mp h2 y hy
    rw [e] at this
    exact absurd this (by decide)
  free := fun y hy e => by
    have := List.all_eq_true.mp h3 y hy
    rw [e] at this
    rw [Bool.or_eq_true] at this
    rcases this with z | z
    · exact absurd z (by decide)
    · rw [Bool.or_eq_true] at z
      exact z.imp (fun z => eq_of_beq z) fun z => eq_of_beq z
  loc := fun y hy e => by
    have := List.all_eq_true.mp h4 y hy
    rw [e] at this
    rw [Bool.or_eq_true] at this
    rcases this with z | z
    · exact absurd z (by decide)
    · exact eq_of_beq z
  caps := h5
  capf := fun x hx => eq_of_beq (List.all_eq_true.mp h6 x hx)
end
section
variable {X : Cx} {F : Fx} {a b c e : Expr} {ta tb tc : DT} {pos : Pos}
abbrev qI (g : Int → Int → Int) : D2 := fI (fun _ _ => True) fun i j => .int (g i j)
abbrev qB (g : Int → Int → Bool) : D2 := fI (fun _ _ => True) fun i j => .bool (g i j)
theorem de_add (ha : DE X F a ta) (hb : DE X F b tb) : DE X F (.BinOp a .Add b pos) (dOp (qI fun i j => i + j) ta tb) := de_op op_add (o_int0 fun _ _ _ => .int _) ha hb
theorem de_sub (ha : DE X F a ta) (hb : DE X F b tb) : DE X F (.BinOp a .Sub b pos) (dOp (qI fun i j => i - j) ta tb) := de_op op_sub (o_int0 fun _ _ _ => .int _) ha hb
theorem de_mul (ha : DE X F a ta) (hb : DE X F b tb) : DE X F (.BinOp a .Mult b pos) (dOp (fI CMul fun i j => .int (i * j)) ta tb) := de_op op_mul (o_int fun _ _ _ => .int _) ha hb
theorem de_div (ha : DE X F a ta) (hb : DE X F b tb) : DE X F (.BinOp a .FloorDiv b pos) (dOp (fI CDiv fun i j => .int (i / j)) ta tb) := de_op op_fdiv (o_int fun _ _ _ => .int _) ha hb
theorem de_mod (ha : DE X F a ta) (hb : DE X F b tb) : DE X F (.BinOp a .Mod b pos) (dOp (fI (fun _ j => 0 < j) fun i j => .int (i % j)) ta tb) := de_op op_mod (o_int fun _ _ _ => .int _) ha hb
theorem de_cat (ha : DE X F a ta) (hb : DE X F b tb) : DE X F (.BinOp a .Add b pos) (dOp fCatL ta tb) := de_op op_cat o_catL ha hb
theorem de_lt (ha : DE X F a ta) (hb : DE X F b tb) : DE X F (.Compare a [.Lt] [b] pos) (dOp (qB fun i j => decide (i < j)) ta tb) := de_cmp op_lt (o_int0 fun _ _ _ => .bl _) ha hb (nomark _)
theorem db_lt (ha : DE X F a ta) (hb : DE X F b tb) : DB X F (.Compare a [.Lt] [b] pos) (dTst (dOp (qB fun i j => decide (i < j)) ta tb)) := db_cmp op_lt (o_int0 fun _ _ _ => .bl _) ha hb (nomark _)
theorem db_le (ha : DE X F a ta) (hb : DE X F b tb) : DB X F (.Compare a [.LtE] [b] pos) (dTst (dOp (qB fun i j => decide (i ≤ j)) ta tb)) := db_cmp op_le (o_int0 fun _ _ _ => .bl _) ha hb (nomark _)
theorem db_gt (ha : DE X F a ta) (hb : DE X F b tb) : DB X F (.Compare a [.Gt] [b] pos) (dTst (dOp (qB fun i j => decide (j < i)) ta tb)) := db_cmp op_gt (o_int0 fun _ _ _ => .bl _) ha hb (nomark _)
theorem db_ge (ha : DE X F a ta) (hb : DE X F b tb) : DB X F (.Compare a [.GtE] [b] pos) (dTst (dOp (qB fun i j => decide (j ≤ i)) ta tb)) := db_cmp op_ge (o_int0 fun _ _ _ => .bl _) ha hb (nomark _)
theorem de_eq (hu : X.A.units + 64 < cLine) (ha : DE X F a ta) (hb : DE X F b tb) : DE X F (.Compare a [.Eq] [b] pos) (dOp (fEq false) ta tb) := de_cmp (op_eqD hu) o_eq ha hb (nomark _)
theorem db_eq (hu : X.A.units + 64 < cLine) (ha : DE X F a ta) (hb : DE X F b tb) : DB X F (.Compare a [.Eq] [b] pos) (dTst (dOp (fEq false) ta tb)) := db_cmp (op_eqD hu) o_eq ha hb (nomark _)
theorem db_ne (hu : X.A.units + 64 < cLine) (ha : DE X F a ta) (hb : DE X F b tb) : DB X F (.Compare a [.NotEq] [b] pos) (dTst (dOp (fEq true) ta tb)) := db_cmp (op_neD hu) o_eq ha hb (nomark _)
theorem de_isN (ha : DE X F a ta) (hb : DE X F b tb) : DE X F (.Compare a [.Is] [b] pos) (dOp fIs ta tb) := de_cmp op_isN o_is ha hb (nomark _)
theorem db_isN (ha : DE X F a ta) (hb : DE X F b tb) : DB X F (.Compare a [.Is] [b] pos) (dTst (dOp fIs ta tb)) := db_cmp op_isN o_is ha hb (nomark _)
theorem de_lele (ha : DE X F a ta) (hb : DE X F b tb) (hc : DE X F c tc) (hm : lastMarks [.LtE, .LtE] [b, c] = false := by with_unfolding_all rfl) : DE X F (.Compare a [.LtE, .LtE] [b, c] pos) (dChain (fun i j => decide (i ≤ j)) (fun i j => decide (i ≤ j)) ta tb tc) := de_chain op_le op_le ha hb hc hm
theorem de_ixT (ha : DE X F a ta) (hb : DE X F b tb) (hs : PlainIx b := by intro _ _; rfl) : DE X F (.Subscript a b pos) (dOp fIxT ta tb) := de_ix ix_tup o_ixT ha hb hs
theorem de_ixL (ha : DE X F a ta) (hb : DE X F b tb) (hs : PlainIx b := by intro _ _; rfl) : DE X F (.Subscript a b pos) (dOp fIxL ta tb) := de_ix ix_list o_ixL ha hb hs
theorem de_gint {x : Str} {i : Int} {t : Tok} (hg : Gl X x) (hm : X.mg x = some (.int i t)) (hd : (x == ("__debug__" : Str)) = false := by decide) : DE X F (.Name x pos) (dC (.int i)) := de_const (v := .int i) (pe_glob hg hm ⟨t, rfl⟩ hd) fun _ => .int i
mutual
theorem eqv_refl : ∀ (d : PyData), d.canLay0 = true → PyData.eqv d d = true
  | .none, _ => rfl
  | .bool b, _ => by simp [PyData.eqv]
  | .int i, _ => by simp [PyData.eqv]
  | .str s, _ => by simp [PyData.eqv]
  | .list xs, h => by rw [PyData.eqv]; exact eqvAll_refl xs (by simpa [PyData.canLay0] using h)
  | .tuple xs, h => by rw [PyData.eqv]; exact eqvAll_refl xs (by simpa [PyData.canLay0] using h)
  | .dict kvs, h => by simp [PyData.canLay0] at h
theorem eqvAll_refl : ∀ (ds : List PyData), PyData.canLayAll0 ds = true → PyData.eqvAll ds ds = true
  | [], _ => rfl
  | x :: xs, h => by
    simp only [PyData.canLayAll0, Bool.and_eq_true] at h
    rw [PyData.eqvAll, eqv_refl x h.1, eqvAll_refl xs h.2]
    rfl
end
theorem eqv_shaped {d : PyData} (h : SeqAt.shaped d = true) : PyData.eqv d d = true := eqv_refl d (SeqAt.canLay_of_shaped h)
end
end L2.L3

namespace L2.L3
open PySem PySem.Spec PyProof.Rows
section
variable {X : Cx} {F : Fx} {pos p p1 : Pos} {x : Str} {i : Nat}
def dLenT (i : Nat) : DT := fun ρ Q => ∃ a n, ρ[i]? = some (some (.cnt a n)) ∧ ∀ m : Nat, m ≤ n → Q (.int m) ρ
theorem de_lenT (hg : Gl X "len") (hm : X.mg "len" = none) (h : PE X (.Name x p1) (tVar i)) (he : starEach [.Name x p1] X.env = (false, eval (.Name x p1) X.env) :: starEach [] X.env := by rfl) (hpl : (backTo pos (starEach [] X.env)).any (·.1) = false := by rfl) :
    DE X F (.Call (.Name "len" p) [.Name x p1] [] pos) (dLenT i) :=
  ⟨fun _ _ _ k ⟨a, n, e, q⟩ => ⟨a, n, e, fun m h => k _ _ (q m h)⟩, (pe_callB call_len_seq hg hm PySem.boot_len (pa_cons h pa_nil he) (by decide) (by decide) he hpl).imp fun σ H Q ⟨ρ, O, st, a, n, e, q⟩ => by
    obtain ⟨v, hv, ts, rfl, _, _, hH, hl⟩ := st.at_ i _ e
    exact ⟨_, hv, a, ts, rfl, .inl (.of hH), q _ hl _ H O st .refl (.int _)⟩⟩
end
theorem at0 {α : Type} (x : α) (l : List α) : atI (x :: l) 0 = some x := by unfold atI ixN; simp
theorem at1 {α : Type} (x y : α) (l : List α) : atI (x :: y :: l) 1 = some y := atI_nat (j := 1) rfl
theorem at2 {α : Type} (x y z : α) (l : List α) : atI (x :: y :: z :: l) 2 = some z := atI_nat (j := 2) rfl
theorem kit_same (n : String) (K : PySem.W.Frag) : PySem.W.kitOne K (.type n) (.type n) = some true := by unfold PySem.W.kitOne; rw [if_pos (by simp)]

/-- a comprehension by a test and a function of each item -/
theorem cmp_gen {its : List PyData} {g : DTG} {tc : DTT} {te : DT} {k : Nat} {κ : DEnv} {R : List PyData → Prop} (p : PyData → Bool) (f : PyData → PyData) (hz : its.length ≤ 100000)
    (hs : ∀ d, d ∈ its → ∀ o : DEnv, o.length = k → ∀ Q : Option PyData → DEnv → Prop, (∀ o' : DEnv, o'.length = k → Q (if p d then some (f d) else none) (o' ++ κ)) → g d (o ++ κ) fun ρ2 => tc ρ2 fun b ρ3 => if b = true then te ρ3 fun y ρ4 => Q (some y) ρ4 else Q none ρ3)
    (fin : R ((its.filter p).map f)) :
    ∃ Iv : Nat → List PyData → DEnv → Prop, Iv 0 [] (List.replicate k none ++ κ) ∧ (∀ i d ys ρ', its[i]? = some d → Iv i ys ρ' → g d ρ' fun ρ2 => tc ρ2 fun b ρ3 => if b = true then te ρ3 fun y ρ4 => ys.length < sizeLine ∧ Iv (i + 1) (ys ++ [y]) ρ4 else Iv (i + 1) ys ρ3) ∧
      ∀ ys ρ', Iv its.length ys ρ' → ys.length ≤ sizeLine ∧ R ys := by
  have line : (100000 : Nat) < sizeLine := by decide
  refine ⟨fun i ys ρ' => ys = ((its.take i).filter p).map f ∧ ∃ o : DEnv, o.length = k ∧ ρ' = o ++ κ, ⟨rfl, _, by simp, rfl⟩, fun i d ys ρ' e ⟨ey, o, ho, er⟩ => ?_, fun ys ρ' ⟨ey, _⟩ => ?_⟩
  · subst er
    have hlt : ys.length ≤ 100000 := by
      rw [ey, List.length_map]
      exact Nat.le_trans (List.length_filter_le _ _) (Nat.le_trans (by rw [List.length_take]; exact Nat.min_le_right _ _) hz)
    have tk : its.take (i + 1) = its.take i ++ [d] := by rw [List.take_add_one, e]; rfl
    have := hs d (List.mem_of_getElem? e) o ho (fun y ρ4 => match y with
      | some y => ys.length < sizeLine ∧ ys ++ [y] = ((its.take (i + 1)).filter p).map f ∧ ∃ o : DEnv, o.length = k ∧ ρ4 = o ++ κ
      | none => ys = ((its.take (i + 1)).filter p).map f ∧ ∃ o : DEnv, o.length = k ∧ ρ4 = o ++ κ) fun o' ho' => by
        rw [tk, List.filter_append]
        by_cases hp : p d = true
        · rw [if_pos hp]
          refine ⟨Nat.lt_of_le_of_lt hlt line, ?_, o', ho', rfl⟩
          rw [ey, List.map_append]
          simp [hp]
        · rw [if_neg hp]
          refine ⟨?_, o', ho', rfl⟩
          rw [ey]
          simp [hp]
    exact this
  · rw [List.take_length] at ey
    subst ey
    refine ⟨?_, fin⟩
    rw [List.length_map]
    exact Nat.le_trans (List.length_filter_le _ _) (Nat.le_trans hz (Nat.le_of_lt line))
def CmpGo (own : List Str) (caps : List Nat) (g : DTG) (tc : DTT) (te : DT) (its : List PyData) (ρ1 : DEnv) (R : List PyData → Prop) : Prop := ∃ Iv : Nat → List PyData → DEnv → Prop, Iv 0 [] (liftD own caps ρ1) ∧
  (∀ i d ys ρ', its[i]? = some d → Iv i ys ρ' → g d ρ' fun ρ2 => tc ρ2 fun b ρ3 => if b = true then te ρ3 fun y ρ4 => ys.length < sizeLine ∧ Iv (i + 1) (ys ++ [y]) ρ4 else Iv (i + 1) ys ρ3) ∧
  ∀ ys ρ', Iv its.length ys ρ' → ys.length ≤ sizeLine ∧ R ys
theorem dCmp_ap {own : List Str} {caps : List Nat} {s : DTI} {g : DTG} {tc : DTT} {te : DT} {ρ : DEnv} {Q : PyData → DEnv → Prop} : dCmp own caps s g tc te ρ Q = s ρ fun its ρ1 => CmpGo own caps g tc te its ρ1 fun ys => Q (.list ys) ρ1 := rfl
theorem cmpGo {own : List Str} {caps : List Nat} {g : DTG} {tc : DTT} {te : DT} {its : List PyData} {ρ1 : DEnv} {R : List PyData → Prop} (k : Nat) (hk : own.length = k) (κ : DEnv) (hκ : (caps.map fun j => capC ρ1[j]?) = κ) (p : PyData → Bool) (f : PyData → PyData) (hz : its.length ≤ 100000)
    (hs : ∀ d, d ∈ its → ∀ o : DEnv, o.length = k → ∀ Q : Option PyData → DEnv → Prop, (∀ o' : DEnv, o'.length = k → Q (if p d then some (f d) else none) (o' ++ κ)) → g d (o ++ κ) fun ρ2 => tc ρ2 fun b ρ3 => if b = true then te ρ3 fun y ρ4 => Q (some y) ρ4 else Q none ρ3)
    (fin : R ((its.filter p).map f)) : CmpGo own caps g tc te its ρ1 R := by
  have e : liftD own caps ρ1 = List.replicate k none ++ κ := by
    unfold liftD
    rw [hκ, ← hk]
    congr 1
    clear hk hs hκ
    induction own with
    | nil => rfl
    | cons x r ih => rw [List.map_cons, List.length_cons, List.replicate_succ, ih]
  unfold CmpGo
  rw [e]
  exact cmp_gen p f hz hs fin
def ForGo (g : DTG) (tb : DTS) (D : DEnds) (its : List PyData) (ρ1 : DEnv) : Prop := ∃ Iv : Nat → DEnv → Prop, Iv 0 ρ1 ∧ (∀ i d ρ, its[i]? = some d → Iv i ρ → g d ρ fun ρ2 => tb { D with nx := Iv (i + 1), ct := Iv (i + 1), bk := D.nx } ρ2) ∧ ∀ ρ, Iv its.length ρ → D.nx ρ
theorem sFor_ap {s : DTI} {g : DTG} {tb : DTS} {D : DEnds} {ρ : DEnv} : sFor s g tb D ρ = s ρ fun its ρ1 => ForGo g tb D its ρ1 := rfl
theorem list1 {α : Type} {o : List α} (h : o.length = 1) : ∃ x, o = [x] := by match o, h with | [x], _ => exact ⟨x, rfl⟩
theorem list3 {α : Type} {o : List α} (h : o.length = 3) : ∃ x y z, o = [x, y, z] := by match o, h with | [x, y, z], _ => exact ⟨x, y, z, rfl⟩
end L2.L3

namespace L2.L3
open PySem PySem.Spec PyProof.Rows
/-- a comprehension over items that are made of another kind of thing -/
theorem cmpGoM {α : Type} {own : List Str} {caps : List Nat} {g : DTG} {tc : DTT} {te : DT} {φ : α → PyData} {l : List α} {ρ1 : DEnv} {R : List PyData → Prop} (k : Nat) (hk : own.length = k) (κ : DEnv) (hκ : (caps.map fun j => capC ρ1[j]?) = κ) (p : α → Bool) (f : α → PyData) (hz : l.length ≤ 100000)
    (hs : ∀ d, d ∈ l → ∀ o : DEnv, o.length = k → ∀ Q : Option PyData → DEnv → Prop, (∀ o' : DEnv, o'.length = k → Q (if p d then some (f d) else none) (o' ++ κ)) → g (φ d) (o ++ κ) fun ρ2 => tc ρ2 fun b ρ3 => if b = true then te ρ3 fun y ρ4 => Q (some y) ρ4 else Q none ρ3)
    (fin : R ((l.filter p).map f)) : CmpGo own caps g tc te (l.map φ) ρ1 R := by
  have line : (100000 : Nat) < sizeLine := by decide
  have e : liftD own caps ρ1 = List.replicate k none ++ κ := by
    unfold liftD
    rw [hκ, ← hk]
    congr 1
    clear hk hs hκ
    induction own with
    | nil => rfl
    | cons x r ih => rw [List.map_cons, List.length_cons, List.replicate_succ, ih]
  unfold CmpGo
  rw [e]
  refine ⟨fun i ys ρ' => ys = ((l.take i).filter p).map f ∧ ∃ o : DEnv, o.length = k ∧ ρ' = o ++ κ, ⟨rfl, _, by simp, rfl⟩, fun i d0 ys ρ' e ⟨ey, o, ho, er⟩ => ?_, fun ys ρ' ⟨ey, _⟩ => ?_⟩
  · subst er
    rw [List.getElem?_map] at e
    obtain ⟨d, e2, rfl⟩ := Option.map_eq_some_iff.mp e
    have hlt : ys.length ≤ 100000 := by
      rw [ey, List.length_map]
      exact Nat.le_trans (List.length_filter_le _ _) (Nat.le_trans (by rw [List.length_take]; exact Nat.min_le_right _ _) hz)
    have tk : l.take (i + 1) = l.take i ++ [d] := by rw [List.take_add_one, e2]; rfl
    have := hs d (List.mem_of_getElem? e2) o ho (fun y ρ4 => match y with
      | some y => ys.length < sizeLine ∧ ys ++ [y] = ((l.take (i + 1)).filter p).map f ∧ ∃ o : DEnv, o.length = k ∧ ρ4 = o ++ κ
      | none => ys = ((l.take (i + 1)).filter p).map f ∧ ∃ o : DEnv, o.length = k ∧ ρ4 = o ++ κ) fun o' ho' => by
        rw [tk, List.filter_append]
        by_cases hp : p d = true
        · rw [if_pos hp]
          refine ⟨Nat.lt_of_le_of_lt hlt line, ?_, o', ho', rfl⟩
          rw [ey, List.map_append]
          simp [hp]
        · rw [if_neg hp]
          refine ⟨?_, o', ho', rfl⟩
          rw [ey]
          simp [hp]
    exact this
  · rw [List.length_map, List.take_length] at ey
    subst ey
    refine ⟨?_, fin⟩
    rw [List.length_map]
    exact Nat.le_trans (List.length_filter_le _ _) (Nat.le_trans hz (Nat.le_of_lt line))
end L2.L3

namespace L2.L3
open PySem PySem.Spec PyProof.Rows
section
variable {ρ : DEnv} {Q : PyData → DEnv → Prop} {i j : Nat} {d x y : PyData} {ds es : List PyData} {ta tb tc : DT} {tA : DTA} {f : D2} {N B C : DEnv → Prop} {R : PyData → DEnv → Prop} {t u : DTS} {cT dT : DTT} {QT : Bool → DEnv → Prop} {QA : List PyData → DEnv → Prop} {q : PyData → Prop} {g : DTG} {gs : DTGs} {b : Bool}
theorem ev_seq (h : t ⟨fun ρ' => u ⟨N, R, B, C⟩ ρ', R, B, C⟩ ρ) : sSeq t u ⟨N, R, B, C⟩ ρ := h
theorem ev_set (h : ta ρ fun d ρ' => g d ρ' N) : sSet ta g ⟨N, R, B, C⟩ ρ := h
theorem ev_next (h : N ρ) : sNext ⟨N, R, B, C⟩ ρ := h
theorem ev_ret (h : ta ρ R) : sRet ta ⟨N, R, B, C⟩ ρ := h
theorem ev_drop (h : ta ρ fun _ ρ' => N ρ') : sDrop ta ⟨N, R, B, C⟩ ρ := h
theorem ev_if {D : DEnds} (h : cT ρ fun b ρ' => if b = true then t D ρ' else u D ρ') : sIf cT t u D ρ := h
theorem ev_ownS (h : tA ρ fun ds ρ' => ds.length ≤ sizeLine ∧ N (ρ'.set i (some (.own ds)))) : sOwn i tA ⟨N, R, B, C⟩ ρ := h
theorem ev_cntS (h : tA ρ fun ds ρ' => ds.length ≤ sizeLine ∧ ∀ a, N (ρ'.set i (some (.cnt a ds.length)))) : sCnt i tA ⟨N, R, B, C⟩ ρ := h
/-- what an append does, behind its item -/
def sApp2 (i : Nat) (N : DEnv → Prop) (d : PyData) (ρ' : DEnv) : Prop := (∃ ds, ρ'[i]? = some (some (.own ds)) ∧ ds.length < sizeLine ∧ N (ρ'.set i (some (.own (ds ++ [d]))))) ∨ ∃ a n, ρ'[i]? = some (some (.cnt a n)) ∧ n < sizeLine ∧ N (ρ'.set i (some (.cnt a (n + 1))))
theorem ev_appS {c : Cell} (h1 : ρ[i]? = some (some c)) (h2 : c.isOwn = true) (h : ta ρ fun d ρ' => sApp2 i N d ρ') : sApp i ta ⟨N, R, B, C⟩ ρ := ⟨⟨c, h1, h2⟩, h⟩
theorem ev_app2 (h : ρ[i]? = some (some (.own ds))) (h2 : ds.length < sizeLine ∧ N (ρ.set i (some (.own (ds ++ [d]))))) : sApp2 i N d ρ := .inl ⟨ds, h, h2.1, h2.2⟩
theorem ev_app2c {a : Addr} {n : Nat} (h : ρ[i]? = some (some (.cnt a n))) (h2 : n < sizeLine ∧ N (ρ.set i (some (.cnt a (n + 1))))) : sApp2 i N d ρ := .inr ⟨a, n, h, h2.1, h2.2⟩
def sAug2 (i : Nat) (N : DEnv → Prop) (gg : Int → Int → Int) (k : Int) (d : PyData) (ρ' : DEnv) : Prop := ∃ l, d = .int l ∧ N (ρ'.set i (some (.dat (.int (gg k l)))))
theorem ev_aug {gg : Int → Int → Int} {k : Int} (h : ρ[i]? = some (some (.dat (.int k)))) (h2 : ta ρ fun d ρ' => sAug2 i N gg k d ρ') : sAug i ta gg ⟨N, R, B, C⟩ ρ := ⟨k, h, h2⟩
theorem ev_aug2 {gg : Int → Int → Int} {k l : Int} (h : N (ρ.set i (some (.dat (.int (gg k l)))))) : sAug2 i N gg k (.int l) ρ := ⟨l, rfl, h⟩
theorem ev_op (h : ta ρ fun x ρ1 => tb ρ1 fun y ρ2 => f x y fun d => Q d ρ2) : dOp f ta tb ρ Q := h
theorem ev_c (h : Q d ρ) : dC d ρ Q := h
theorem ev_dat (h : ρ[i]? = some (some (.dat d))) (h2 : Q d ρ) : dV i ρ Q := .inl ⟨d, h, h2⟩
theorem ev_own (h : ρ[i]? = some (some (.own ds))) (h2 : Q (.list ds) (ρ.set i (some (.dat (.list ds))))) : dV i ρ Q := .inr ⟨ds, h, h2⟩
theorem ev_cons (h : ta ρ fun d ρ1 => tA ρ1 fun ds ρ2 => QA (d :: ds) ρ2) : dCons ta tA ρ QA := h
theorem ev_nil (h : QA [] ρ) : dNil ρ QA := h
theorem ev_tup (h : tA ρ fun ds ρ' => ds.length ≤ sizeLine ∧ Q (.tuple ds) ρ') : dTup tA ρ Q := h
theorem ev_lst (h : tA ρ fun ds ρ' => ds.length ≤ sizeLine ∧ Q (.list ds) ρ') : dLst tA ρ Q := h
def isI (d : PyData) (Q : Int → Prop) : Prop := ∃ i, d = .int i ∧ Q i
theorem ev_isI {k : Int} {Q : Int → Prop} (h : Q k) : isI (.int k) Q := ⟨k, rfl, h⟩
def isB (d : PyData) (Q : Bool → Prop) : Prop := ∃ b, d = .bool b ∧ Q b
theorem ev_isB {Q : Bool → Prop} (h : Q b) : isB (.bool b) Q := ⟨b, rfl, h⟩
def isL (d : PyData) (Q : List PyData → Prop) : Prop := ∃ b, d = .list b ∧ Q b
theorem ev_isL {Q : List PyData → Prop} (h : Q ds) : isL (.list ds) Q := ⟨ds, rfl, h⟩
def isT (d : PyData) (Q : List PyData → Prop) : Prop := ∃ b, d = .tuple b ∧ Q b
theorem ev_isT {Q : List PyData → Prop} (h : Q ds) : isT (.tuple ds) Q := ⟨ds, rfl, h⟩
theorem ev_neg (h : ta ρ fun d ρ' => isI d fun i => Q (.int (-i)) ρ') : dNeg ta ρ Q := h
theorem ev_not (h : ta ρ fun d ρ' => isB d fun b => Q (.bool (!b)) ρ') : dNot ta ρ Q := h
theorem ev_and (h : ta ρ fun d ρ1 => isB d fun b => if b = true then tb ρ1 Q else Q (.bool false) ρ1) : dAnd ta tb ρ Q := h
theorem ev_or (h : ta ρ fun d ρ1 => isB d fun b => if b = true then Q (.bool true) ρ1 else tb ρ1 Q) : dOr ta tb ρ Q := h
theorem ev_ifE (h : cT ρ fun b ρ1 => if b = true then ta ρ1 Q else tb ρ1 Q) : dIf cT ta tb ρ Q := h
theorem ev_tst (h : ta ρ fun d ρ' => isB d fun b => QT b ρ') : dTst ta ρ QT := h
theorem ev_bnot (h : cT ρ fun b ρ' => QT (!b) ρ') : bNot cT ρ QT := h
theorem ev_band (h : cT ρ fun b ρ1 => if b = true then dT ρ1 QT else QT false ρ1) : bAnd cT dT ρ QT := h
theorem ev_bor (h : cT ρ fun b ρ1 => if b = true then QT true ρ1 else dT ρ1 QT) : bOr cT dT ρ QT := h
theorem ev_byes (h : QT true ρ) : bYes ρ QT := h
theorem ev_cb {n : DN} (h : tA ρ fun ds ρ' => n ds fun d => Q d ρ') : dCB n tA ρ Q := h
theorem ev_fI {C : Int → Int → Prop} {gg : Int → Int → PyData} {k l : Int} (h : C k l ∧ q (gg k l)) : fI C gg (.int k) (.int l) q := ⟨k, l, rfl, rfl, h⟩
theorem ev_fT {gg : Int → Int → PyData} {k l : Int} (h : q (gg k l)) : fI (fun _ _ => True) gg (.int k) (.int l) q := ⟨k, l, rfl, rfl, trivial, h⟩
theorem ev_fEq {ng : Bool} (h : SeqAt.shaped x = true ∧ SeqAt.shaped y = true ∧ q (.bool (PyData.eqv x y != ng))) : fEq ng x y q := h
theorem ev_fIs (h : q (.bool (isNone x))) : fIs x .none q := ⟨rfl, h⟩
theorem ev_fIsNot (h : q (.bool (!isNone x))) : fIsNot x .none q := ⟨rfl, h⟩
theorem ev_ixT {k : Int} (h : ∃ d, atI ds k = some d ∧ q d) : fIxT (.tuple ds) (.int k) q := let ⟨d, h1, h2⟩ := h; ⟨ds, k, d, rfl, rfl, h1, h2⟩
theorem ev_ixT0 {k : Int} (h : atI ds k = some d) (h2 : q d) : fIxT (.tuple ds) (.int k) q := ⟨ds, k, d, rfl, rfl, h, h2⟩
theorem ev_ixL {k : Int} (h : ∃ d, atI ds k = some d ∧ q d) : fIxL (.list ds) (.int k) q := let ⟨d, h1, h2⟩ := h; ⟨ds, k, d, rfl, rfl, h1, h2⟩
theorem ev_catL (h : ds.length + es.length ≤ sizeLine ∧ q (.list (ds ++ es))) : fCatL (.list ds) (.list es) q := ⟨ds, es, rfl, rfl, h⟩
theorem ev_lenL (h : q (.int ds.length)) : fLen [.list ds] q := ⟨ds, .inl rfl, h⟩
theorem ev_lenT (h : q (.int ds.length)) : fLen [.tuple ds] q := ⟨ds, .inr rfl, h⟩
theorem ev_max {k l : Int} (h : q (.int (max k l))) : fMax [.int k, .int l] q := ⟨k, l, rfl, h⟩
theorem ev_intB (h : q (.int (if b then 1 else 0))) : fInt [.bool b] q := .inr ⟨b, rfl, h⟩
theorem ev_intI {k : Int} (h : q (.int k)) : fInt [.int k] q := .inl ⟨k, rfl, h⟩
theorem ev_divmod {k l : Int} (h : CDiv k l ∧ q (.tuple [.int (k / l), .int (k % l)])) : fDivmod [.int k, .int l] q := ⟨k, l, rfl, h⟩
theorem ev_tupL (h : q (.tuple ds)) : fTuple [.list ds] q := .inl ⟨ds, rfl, h⟩
theorem ev_tupT (h : q (.tuple ds)) : fTuple [.tuple ds] q := .inr ⟨ds, rfl, h⟩
theorem ev_gN (h : N (ρ.set i (some (.dat d)))) : gN i d ρ N := h
theorem ev_gT {n : Nat} (h1 : ds.length = n) (h : gs ds ρ N) : gTp n gs (.tuple ds) ρ N := ⟨ds, rfl, h1, h⟩
theorem ev_gC (h : g d ρ fun ρ' => gs ds ρ' N) : gCs g gs (d :: ds) ρ N := ⟨d, ds, rfl, h⟩
theorem ev_g0 (h : N ρ) : gNl [] ρ N := ⟨rfl, h⟩
theorem ev_for {D : DEnds} {s : DTI} (h : s ρ fun its ρ1 => ForGo g t D its ρ1) : sFor s g t D ρ := h
theorem ev_cmp {own : List Str} {caps : List Nat} {s : DTI} (h : s ρ fun its ρ1 => CmpGo own caps g cT ta its ρ1 fun ys => Q (.list ys) ρ1) : dCmp own caps s g cT ta ρ Q := h
theorem ev_iL (h : ta ρ fun d ρ' => isL d fun ds => QA ds ρ') : iL ta ρ QA := h
theorem ev_iT (h : ta ρ fun d ρ' => isT d fun ds => QA ds ρ') : iT ta ρ QA := h
def rgn (ds : List PyData) (Q : List PyData → Prop) : Prop := ∃ j : Int, ds = [.int j] ∧ -(2 ^ 62) ≤ j ∧ j < 2 ^ 62 ∧ Q (intsFrom 0 j.toNat)
theorem ev_rgn {k : Int} {Q : List PyData → Prop} (h : (-(2 ^ 62) ≤ k ∧ k < 2 ^ 62) ∧ Q (intsFrom 0 k.toNat)) : rgn [.int k] Q := ⟨k, rfl, h.1.1, h.1.2, h.2⟩
theorem ev_iR (h : tA ρ fun ds ρ' => rgn ds fun its => QA its ρ') : iR1 tA ρ QA := h
def enm (ds : List PyData) (Q : List PyData → Prop) : Prop := ∃ es, ds = [.list es] ∧ Q (numbered es)
theorem ev_enm {Q : List PyData → Prop} (h : Q (numbered es)) : enm [.list es] Q := ⟨es, rfl, h⟩
theorem ev_iE (h : tA ρ fun ds ρ' => enm ds fun its => QA its ρ') : iE tA ρ QA := h
def zpp (ds : List PyData) (Q : List PyData → Prop) : Prop := ∃ es fs, ds = [.list es, .list fs] ∧ Q (paired es fs)
theorem ev_zpp {fs : List PyData} {Q : List PyData → Prop} (h : Q (paired es fs)) : zpp [.list es, .list fs] Q := ⟨es, fs, rfl, h⟩
theorem ev_iZ (h : tA ρ fun ds ρ' => zpp ds fun its => QA its ρ') : iZ tA ρ QA := h
def lrg (ds : List PyData) (Q : List PyData → Prop) : Prop := ∃ j : Int, ds = [.int j] ∧ 0 ≤ j ∧ j ≤ 2 ^ 24 ∧ Q (intsFrom 0 j.toNat)
theorem ev_lrg {k : Int} {Q : List PyData → Prop} (h : (0 ≤ k ∧ k ≤ 2 ^ 24) ∧ Q (intsFrom 0 k.toNat)) : lrg [.int k] Q := ⟨k, rfl, h.1.1, h.1.2, h.2⟩
theorem ev_LR (h : tA ρ fun ds ρ' => lrg ds fun its => Q (.list its) ρ') : dLR tA ρ Q := h
theorem ev_tail {k : Nat} (h : ta ρ fun d ρ' => isL d fun ds => Q (.list (ds.drop k)) ρ') : dTail ta k ρ Q := h
def drw (f : DR) (j : Nat) (a : Addr) (Q : PyData → DEnv → Prop) (ds : List PyData) (ρ1 : DEnv) : Prop := ∃ n, ρ1[j]? = some (some (.cnt a n)) ∧ f n ds fun d m => Q d (ρ1.set j (some (.cnt a m)))
theorem ev_drw {f : DR} {a : Addr} {n : Nat} (h : ρ[j]? = some (some (.cnt a n))) (h2 : f n ds fun d m => Q d (ρ.set j (some (.cnt a m)))) : drw f j a Q ds ρ := ⟨n, h, h2⟩
theorem ev_draw {f : DR} {ns : List Int} {a : Addr} {n : Nat} (h1 : ρ[i]? = some (some (.scr ns))) (h2 : ρ[j]? = some (some (.cnt a n))) (h : tA ρ fun ds ρ1 => drw f j a Q ds ρ1) : dDraw f i j tA ρ Q := ⟨ns, a, h1, ⟨n, h2⟩, h⟩
theorem ev_ite1 {A Z : Prop} (h : A) : if true = true then A else Z := h
theorem ev_ite0 {A Z : Prop} (h : Z) : if false = true then A else Z := h
end
end L2.L3

namespace L2
open PySem PySem.Spec PyProof.Rows
section
variable {X : Cx}
/-- t + u, any t, u -/
def rCatT0 (K : PySem.W.Frag) : R2 := fun x y H Q => ∃ a b xs ys, x = .ref a ∧ y = .ref b ∧ SqT K H a xs ∧ SqT K H b ys ∧ xs.length + ys.length ≤ sizeLine ∧
  (xs = [] → Q (.ref b) H) ∧ (xs ≠ [] → ys = [] → Q (.ref a) H) ∧ (xs ≠ [] → ys ≠ [] → ∀ p, H p = none → Q (.ref p) (upd H p (.tup (xs ++ ys))))
theorem op_catT0 : OpR X (binaryOp .Add) (rCatT0 X.K) := by
  intro pins s σ H x y v u Q I rx ry h
  obtain ⟨a, b, xs, ys, rfl, rfl, ha, hb, hz, q0, q1, q2⟩ := h
  by_cases hx : xs = []
  · subst hx
    cases rx
    cases ry
    obtain ⟨its, r1, p1, _⟩ := I.tuple ha
    obtain ⟨its2, r2, p2, _⟩ := I.tuple hb
    have e1 : its = [] := r1.nil_iff.mpr rfl
    subst e1
    obtain ⟨⟨cls, dd, data, sl⟩, ho, hc, n, hd⟩ := id p1
    obtain ⟨⟨cls2, dd2, data2, sl2⟩, ho2, hc2, n2, hd2⟩ := id p2
    simp only at hc hd hc2 hd2
    subst hc hd hc2 hd2
    exact concat_meets ⟨_, ho, rfl⟩ ⟨_, ho2, rfl⟩ noFill_tuple_add seq_tuple_add PySem.F.slot_tuple_add PySem.F.entry_tuple_add (PySem.F.args_tuple_add_2 _ _)
      (tuple_addW0 a b [].toArray its2.toArray n n2 dd dd2 sl sl2 rfl) ⟨ho, ho2, .ref b, H, I, rfl, q0 rfl⟩
  · exact op_catT pins s σ H _ _ v u Q I rx ry ⟨a, b, xs, ys, rfl, rfl, ha, hb, hx, hz, q1 hx, q2 hx⟩
end
end L2
namespace L2.L3
open PySem PySem.Spec PyProof.Rows
section
variable {X : Cx} {F : Fx} {a b : Expr} {ta tb : DT} {pos : Pos}
theorem o_catT {K : PySem.W.Frag} : Op2 (rCatT0 K) fCatT where
  mn := fun _ _ _ _ k ⟨ds, es, e1, e2, e3, q⟩ => ⟨ds, es, e1, e2, e3, k _ q⟩
  ok := fun O H u v x y Q hO h1 h2 ⟨ds, es, e1, e2, e3, q⟩ => by
    subst e1 e2
    obtain ⟨a, xs, rfl, ha, hd⟩ := h1.tup_inv
    obtain ⟨b, ys, rfl, hb, he⟩ := h2.tup_inv
    refine ⟨a, b, xs, ys, rfl, rfl, .of (of_hide ha).1, .of (of_hide hb).1, by rw [hd.length, he.length]; exact e3, fun z => ?_, fun _ z => ?_, fun _ _ p hp => q _ _ (same_upd hp) (dv_new_tup hp (hO p hp) (hd.append he))⟩
    · subst z
      cases hd
      exact q _ H (fun _ _ h => h) (.tup hb he)
    · subst z
      cases he
      rw [List.append_nil] at q
      exact q _ H (fun _ _ h => h) (.tup ha hd)
theorem de_catT (ha : DE X F a ta) (hb : DE X F b tb) : DE X F (.BinOp a .Add b pos) (dOp fCatT ta tb) := de_op op_catT0 o_catT ha hb
end
end L2.L3

namespace L2.L3
open PySem PySem.Spec PyProof.Rows
section
variable {ρ : DEnv} {Q : PyData → DEnv → Prop} {i j : Nat} {d x y : PyData} {ds es : List PyData} {ta tb tc : DT} {tA : DTA} {QT : Bool → DEnv → Prop} {q : PyData → Prop} {b : Bool}
def lz3 (ds : List PyData) (q : PyData → Prop) : Prop := ∃ as bs cs, ds = [.list as, .list bs, .list cs] ∧ bs.length = as.length ∧ cs.length = as.length ∧ 0 < as.length ∧ q (.list (zip3D as bs cs))
theorem ev_lz3 {as bs cs : List PyData} (h : (bs.length = as.length ∧ cs.length = as.length ∧ 0 < as.length) ∧ q (.list (zip3D as bs cs))) : lz3 [.list as, .list bs, .list cs] q := ⟨as, bs, cs, rfl, h.1.1, h.1.2.1, h.1.2.2, h.2⟩
theorem ev_LZ (h : tA ρ fun ds ρ' => lz3 ds fun d => Q d ρ') : dLZ tA ρ Q := h
def chn (p p' : Int → Int → Bool) (tc : DT) (Q : PyData → DEnv → Prop) (x y : PyData) (ρ2 : DEnv) : Prop := ∃ i j, x = .int i ∧ y = .int j ∧ if p i j = true then tc ρ2 (fun z ρ3 => isI z fun k => Q (.bool (p' j k)) ρ3) else Q (.bool false) ρ2
theorem ev_chn {p p' : Int → Int → Bool} {k l : Int} (h : if p k l = true then tc ρ (fun z ρ3 => isI z fun k => Q (.bool (p' l k)) ρ3) else Q (.bool false) ρ) : chn p p' tc Q (.int k) (.int l) ρ := ⟨k, l, rfl, rfl, h⟩
theorem ev_chain {p p' : Int → Int → Bool} (h : ta ρ fun x ρ1 => tb ρ1 fun y ρ2 => chn p p' tc Q x y ρ2) : dChain p p' ta tb tc ρ Q := h
theorem ev_lenS {ns : List Int} (h : ρ[i]? = some (some (.scr ns))) (h2 : ns.length ≤ 63 → Q (.int ns.length) ρ) : dLenS i ρ Q := ⟨ns, h, h2⟩
def ixS (ns : List Int) (d : PyData) (q : PyData → Prop) : Prop := ∃ k n, d = .int k ∧ atI ns k = some n ∧ q (.int n)
theorem ev_ixs {ns : List Int} {k : Int} (h : ∃ n, atI ns k = some n ∧ q (.int n)) : ixS ns (.int k) q := let ⟨n, h1, h2⟩ := h; ⟨k, n, rfl, h1, h2⟩
theorem ev_ixS {ns : List Int} (h : ρ[i]? = some (some (.scr ns))) (h2 : ta ρ fun d ρ' => ixS ns d fun d => Q d ρ') : dIxS i ta ρ Q := ⟨ns, h, h2⟩
theorem ev_eqS {ns : List Int} (h : ρ[i]? = some (some (.scr ns))) (h2 : QT (decide (ns = [])) ρ) : dEqS i ρ QT := ⟨ns, h, h2⟩
theorem ev_scr {f : DN} {ns : List Int} (h : ρ[i]? = some (some (.scr ns))) (h2 : tA ρ fun ds ρ1 => f ds fun d => Q d ρ1) : dScr f i tA ρ Q := ⟨ns, h, h2⟩
theorem ev_lenTn {a : Addr} {n : Nat} (h : ρ[i]? = some (some (.cnt a n))) (h2 : ∀ m : Nat, m ≤ n → Q (.int m) ρ) : dLenT i ρ Q := ⟨a, n, h, h2⟩
end
end L2.L3

namespace L2
open PySem PySem.Spec PyProof.Rows
section
variable {X : Cx}
theorem preSum_list (ns : List Int) : ∀ n, n ≤ ns.length → preSum (fun i => ns.getD i 0) n = (ns.take n).sum
  | 0, _ => by rw [List.take_zero]; rfl
  | n + 1, h => by
    rw [preSum, preSum_list ns n (by omega), List.take_add_one, List.sum_append, List.getElem?_eq_getElem (by omega)]
    simp [List.getD, List.getElem?_eq_getElem (show n < ns.length by omega)]
/-- sum(a list of ints) -/
theorem call_sumB (hc : X.calm = true) : CallR X (.builtin "sum") (fun xs H Q => ∃ (l : Addr) (ns : List Int), xs = [.ref l] ∧ H l = some (.lst (ns.map V.int)) ∧ Q (.int ns.sum) H) := by
  intro pins s σ H xs us Q I r h
  obtain ⟨l, ns, rfl, hl, q⟩ := h
  obtain ⟨u, rfl, ru⟩ := vals1 r
  cases ru
  obtain ⟨z, its, n, rv, e⟩ := I.hok _ _ hl
  have L : s.heap.IsList l its.toArray := ⟨_, e, rfl, _, rfl⟩
  have hlt : l < s.heap.objs.size := Heap.lt_size e
  have len := rv.length
  rw [List.length_map] at len
  refine call_sum_walkG (wpAny_pyIter_list L ?_)
  refine ⟨s.heap.objs.size, _, _, _, _, _, fun i => ns.getD i 0, rfl, Walks.list (A := X.A.in1) (show X.A.in1.handled = none from I.ok.hd hc) s.heap.objs.size l (Nat.ne_of_lt hlt) its.toArray, ⟨⟨_, Heap.get?_push_size _ rfl, rfl, rfl⟩, L.push _⟩, ?_, ?_, fun h' tk t' hk => ?_⟩
  · intro b hb
    rcases List.mem_cons.mp hb with rfl | hb
    · show _ < (s.heap.push _).objs.size
      rw [Heap.size_push]; exact Nat.lt_succ_self _
    · rw [List.mem_singleton.mp hb]
      show _ < (s.heap.push _).objs.size
      rw [Heap.size_push]; exact Nat.lt_succ_of_lt hlt
  · intro i v hv
    have hi : its[i]? = some v := by simpa using hv
    have hlt : i < ns.length := by rw [len]; exact (List.getElem?_eq_some_iff.mp hi).1
    obtain ⟨w, hw, rw'⟩ := rv.get (i := i) (x := .int ns[i]) (by rw [List.getElem?_map, List.getElem?_eq_getElem hlt]; rfl)
    rw [hi] at hw
    cases hw
    cases rw'
    rename_i tk0 etk
    refine ⟨tk0, etk.trans ?_⟩
    congr 1
    simp [List.getD, hlt]
  · have e1 : preSum (fun i => ns.getD i 0) its.toArray.size = ns.sum := by
      rw [List.size_toArray, ← len, preSum_list ns _ (Nat.le_refl _), List.take_length]
    rw [e1]
    exact ⟨.int ns.sum, H, I.kept fun b o eb => hk b o (fun zz => absurd (Heap.lt_size eb) (by rw [List.mem_singleton.mp zz]; exact Nat.lt_irrefl _)) (Heap.get?_push_of_some _ eb), ⟨_, rfl⟩, q⟩
end
end L2
namespace L2.L3
open PySem PySem.Spec PyProof.Rows
section
variable {X : Cx} {F : Fx} {a b : Expr} {ta tb : DT} {pos : Pos} {q : PyData → Prop}
theorem de_pow (ha : DE X F a ta) (hb : DE X F b tb) : DE X F (.BinOp a .Pow b pos) (dOp (fI CPow fun i j => .int (i ^ j.toNat)) ta tb) := de_op op_pow (o_int fun _ _ _ => .int _) ha hb
def fSum : DN := fun xs Q => ∃ ns : List Int, xs = [.list (ns.map .int)] ∧ Q (.int ns.sum)
theorem dvs_intsq {H : Hp} : ∀ {ns : List Int} {vs : List V}, DVs H vs (ns.map PyData.int) → vs = ns.map V.int
  | [], _, h => by cases h; rfl
  | b :: r, _, h => by
    cases h with
    | cons d q => rw [d.int_inv, dvs_intsq q]; rfl
theorem n_sum : OpN (fun xs H Q => ∃ (l : Addr) (ns : List Int), xs = [.ref l] ∧ H l = some (.lst (ns.map V.int)) ∧ Q (.int ns.sum) H) fSum where
  mn := fun _ _ _ k ⟨bs, e, q⟩ => ⟨bs, e, k _ q⟩
  ok := fun O H vs xs Q hO hd ⟨ns, e, q⟩ => by
    subst e
    obtain ⟨x, rfl, h1⟩ := dvs1 hd
    obtain ⟨a, ys, rfl, ha, hy⟩ := h1.lst_inv
    exact ⟨a, ns, rfl, by rw [(of_hide ha).1, dvs_intsq hy], q _ H (fun _ _ h => h) (.int _)⟩
theorem ev_sum {ns : List Int} (h : q (.int ns.sum)) : fSum [.list (ns.map .int)] q := ⟨ns, rfl, h⟩
theorem ev_catT {ds es : List PyData} (h : ds.length + es.length ≤ sizeLine ∧ q (.tuple (ds ++ es))) : fCatT (.tuple ds) (.tuple es) q := ⟨ds, es, rfl, rfl, h⟩
end
end L2.L3

namespace L2
open PySem PySem.Spec PyProof.Rows
section
variable {X : Cx} {a b c e k : Expr} {t : TA} {te : TE} {tk : TO} {pos pos2 p1 p2 : Pos}
/-- xs[::2] -/
def evens {α : Type} (xs : List α) : List α := (List.range ((xs.length + 1) / 2)).filterMap fun i => xs[2 * i]?
/-- how many of a, a + c, .. are less than b -/
def cnt3 (a b c : Int) : Nat := (if a < b then (b - a - 1) / c + 1 else 0).toNat
def tLR3 (t : TA) : TE := fun σ H Q => t σ H fun vs H1 => ∃ i j k : Int, vs = [.int i, .int j, .int k] ∧ (0 ≤ i ∧ i ≤ 2 ^ 20) ∧ (0 ≤ j ∧ j ≤ 2 ^ 20) ∧ (0 < k ∧ k ≤ 2 ^ 20) ∧ ∀ p, H1 p = none → Q (.ref p) (upd H1 p (.lst ((List.range (cnt3 i j k)).map fun (m : Nat) => V.int (i + m * k))))
theorem size3 {i j k : Int} (hi : 0 ≤ i ∧ i ≤ 2 ^ 20) (hj : 0 ≤ j ∧ j ≤ 2 ^ 20) (hk : 0 < k ∧ k ≤ 2 ^ 20) : Builtin.Range.rangeSize i j k = cnt3 i j k ∧ cnt3 i j k ≤ 2 ^ 20 := by
  unfold Builtin.Range.rangeSize cnt3
  rw [if_pos (show k > 0 from hk.1)]
  by_cases h : i < j
  · rw [if_pos h]
    have h1 : 0 ≤ (j - i - 1) / k := Int.ediv_nonneg (by omega) (by omega)
    have h2 : (j - i - 1) / k ≤ j - i - 1 := Int.ediv_le_self _ (by omega)
    omega
  · rw [if_neg h]
    exact ⟨rfl, by decide⟩
theorem small3 {i j k : Int} (hi : 0 ≤ i ∧ i ≤ 2 ^ 20) (hj : 0 ≤ j ∧ j ≤ 2 ^ 20) (hk : 0 < k ∧ k ≤ 2 ^ 20) : Builtin.Range.small i j k = true := by
  obtain ⟨e1, e2⟩ := size3 hi hj hk
  unfold Builtin.Range.small
  rw [e1]
  simp only [Builtin.Range.rangeFitsLong, Bool.and_eq_true, Bool.or_eq_true, decide_eq_true_eq, beq_iff_eq, show k > 0 from hk.1, if_true]
  omega
theorem vals_ap {i k : Int} : ∀ (n : Nat) (l : List Value) (z : Nat), l.length = n → (∀ (m : Nat) v, l[m]? = some v → ∃ t, v = Value.int (i + ((z + m : Nat) : Int) * k) t) → Vals ((List.range n).map fun (m : Nat) => V.int (i + ((z + m : Nat) : Int) * k)) l := by
  intro n
  induction n with
  | zero => intro l z hl _; cases l with | nil => exact .nil | cons _ _ => cases hl
  | succ n ih =>
    intro l z hl hv
    cases l with
    | nil => cases hl
    | cons v l =>
      rw [List.range_succ_eq_map, List.map_cons, List.map_map]
      refine .cons (hv 0 v rfl) ?_
      have := ih l (z + 1) (by simpa using hl) fun m w e => by
        obtain ⟨t, e'⟩ := hv (m + 1) w (by simpa using e)
        exact ⟨t, by rw [e', show z + (m + 1) = z + 1 + m by omega]⟩
      have ef : (fun (m : Nat) => V.int (i + ((z + 1 + m : Nat) : Int) * k)) = ((fun (m : Nat) => V.int (i + ((z + m : Nat) : Int) * k)) ∘ Nat.succ) := by
        funext m
        show V.int _ = V.int _
        rw [show z + 1 + m = z + Nat.succ m by omega]
      rw [ef] at this
      exact this
/-- list(range(a, b, c)) -/
theorem pe_listrange3 (hc : X.calm = true) (hg1 : Gl X "list") (hm1 : X.mg "list" = none) (hg2 : Gl X "range") (hm2 : X.mg "range" = none) (ha : PA X [a, b, c] t)
    (he : starEach [.Call (.Name "range" p2) [a, b, c] [] pos2] X.env = [(false, eval (.Call (.Name "range" p2) [a, b, c] [] pos2) X.env)] := by rfl)
    (hs : starEach [a, b, c] X.env = (false, eval a X.env) :: starEach [b, c] X.env := by rfl) (hpl : (backTo pos2 (starEach [b, c] X.env)).any (·.1) = false := by rfl) :
    PE X (.Call (.Name "list" p1) [.Call (.Name "range" p2) [a, b, c] [] pos2] [] pos) (tLR3 t) := by
  intro pins s σ H Q I h
  refine wpAny_Call_Name_kw (ld_blt I hg1 hm1 (show bootBuiltins "list" = some (.type "list") by decide +kernel) ?_ (by decide) (by decide))
  refine PyProof.Rows.callWith_type1 ?_ (by rw [he]; rfl) rfl
  rw [he]
  show wpAny _ _ (spliced [(false, eval (.Call (.Name "range" p2) [a, b, c] [] pos2) X.env)]) _ _ s
  refine Calls.spliced_cons ?_
  refine wpAny_Call_Name_kw (ld_blt I hg2 hm2 boot_range ?_ (by decide) (by decide))
  refine PyProof.Rows.callWith_type1 (thn (ha pos2 pins s σ H _ I h) fun us s1 ⟨vs, H1, I1, r1, q1⟩ => ?_) hs hpl
  obtain ⟨i, j, k, rfl, hi, hj, hk, q⟩ := q1
  obtain ⟨u1, u2, u3, rfl, ⟨t1, rfl⟩, ⟨t2, rfl⟩, ⟨t3, rfl⟩⟩ := vals3 r1
  refine call_range_3 (by omega) ?_ (.inl (PyProof.noPylong_small (by omega)))
  refine Calls.spliced_nil ?_
  have I2 : Inv X pins σ H1 { s1 with heap := s1.heap.push { cls := .type "range", data := .fields #[.int i t1, .int j t2, .int k t3] }, toks := s1.toks } := I1.kept fun b o e => Heap.get?_push_of_some _ e
  obtain ⟨e1, e2⟩ := size3 hi hj hk
  refine call_list_range (s := { s1 with heap := s1.heap.push { cls := .type "range", data := .fields #[.int i t1, .int j t2, .int k t3] }, toks := s1.toks }) (n := cnt3 i j k) (I1.ok.hd hc) (IsRange.new ..) (small3 hi hj hk) e1 (Nat.le_trans e2 (by decide)) fun h' tk' acc c hk' hS hacc => ?_
  have hz : ((List.range (cnt3 i j k)).map fun (m : Nat) => V.int (i + m * k)).length ≤ sizeLine := by rw [List.length_map, List.length_range, sizeLine_eq]; omega
  have vals : Vals ((List.range (cnt3 i j k)).map fun (m : Nat) => V.int (i + m * k)) acc.toList := by
    obtain ⟨hl, hit⟩ := hacc
    have := vals_ap (i := i) (k := k) (cnt3 i j k) acc.toList 0 (by rw [Array.length_toList]; exact hl) fun m v e => by
      obtain ⟨t, e'⟩ := hit m v (by simpa using e)
      exact ⟨t, by rw [e', Nat.zero_add]⟩
    simpa using this
  exact ⟨.ref (s1.heap.push { cls := .type "range", data := .fields #[.int i t1, .int j t2, .int k t3] }).objs.size, _, I2.laid (o := .lst ((List.range (cnt3 i j k)).map fun (m : Nat) => V.int (i + m * k))) hk' (Nat.le_refl _) ⟨hz, acc.toList, c, vals, by simpa using hS⟩, rfl, q _ (I2.hok.fresh (Nat.le_refl _))⟩
end
end L2
namespace L2.L3
open PySem PySem.Spec PyProof.Rows
section
variable {X : Cx} {F : Fx} {a b c e k : Expr} {te : DT} {tA : DTA} {pos pos2 p1 p2 : Pos} {q : PyData → Prop} {ρ : DEnv} {Q : PyData → DEnv → Prop}
def dLR3 (t : DTA) : DT := fun ρ Q => t ρ fun ds ρ' => ∃ i j k : Int, ds = [.int i, .int j, .int k] ∧ ((0 ≤ i ∧ i ≤ 2 ^ 20) ∧ (0 ≤ j ∧ j ≤ 2 ^ 20) ∧ (0 < k ∧ k ≤ 2 ^ 20)) ∧ Q (.list ((List.range (cnt3 i j k)).map fun (m : Nat) => .int (i + m * k))) ρ'
theorem de_listrange3 (hc : X.calm = true) (hg1 : Gl X "list") (hm1 : X.mg "list" = none) (hg2 : Gl X "range") (hm2 : X.mg "range" = none) (ha : DA X F [a, b, c] tA)
    (he : starEach [.Call (.Name "range" p2) [a, b, c] [] pos2] X.env = [(false, eval (.Call (.Name "range" p2) [a, b, c] [] pos2) X.env)] := by rfl)
    (hs : starEach [a, b, c] X.env = (false, eval a X.env) :: starEach [b, c] X.env := by rfl) (hpl : (backTo pos2 (starEach [b, c] X.env)).any (·.1) = false := by rfl) :
    DE X F (.Call (.Name "list" p1) [.Call (.Name "range" p2) [a, b, c] [] pos2] [] pos) (dLR3 tA) :=
  ⟨fun _ _ _ k q => ha.mn _ _ _ (fun _ _ ⟨x, y, z, e, h1, q⟩ => ⟨x, y, z, e, h1, k _ _ q⟩) q, (pe_listrange3 hc hg1 hm1 hg2 hm2 ha.pa he hs hpl).imp fun σ H Q ⟨ρ, O, st, q⟩ =>
    ⟨ρ, O, st, ha.mn _ _ _ (fun ds ρ1 ⟨i, j, k, e, ⟨h0, h1, h2⟩, q1⟩ vs H1 O1 st1 s1 d1 => by
      subst e
      obtain ⟨x, y, z, rfl, hx, hy, hz⟩ := dvs3 d1
      refine ⟨i, j, k, by rw [hx.int_inv, hy.int_inv, hz.int_inv], h0, h1, h2, fun p hp => q1 _ _ O1 (st1.grow (same_upd hp)) (s1.trans (.same (same_upd hp))) (dv_new_lst hp (st1.nofree p hp) (dvs_of (by simp) fun n v d e1 e2 => ?_))⟩
      rw [List.getElem?_map] at e1 e2
      obtain ⟨m, e3, e4⟩ := Option.map_eq_some_iff.mp e1
      obtain ⟨m', e5, e6⟩ := Option.map_eq_some_iff.mp e2
      rw [e3] at e5
      cases e5
      subst e4 e6
      exact .int _) q⟩⟩
def lr3 (ds : List PyData) (q : PyData → Prop) : Prop := ∃ i j k : Int, ds = [.int i, .int j, .int k] ∧ ((0 ≤ i ∧ i ≤ 2 ^ 20) ∧ (0 ≤ j ∧ j ≤ 2 ^ 20) ∧ (0 < k ∧ k ≤ 2 ^ 20)) ∧ q (.list ((List.range (cnt3 i j k)).map fun (m : Nat) => .int (i + m * k)))
theorem ev_lr3 {i j k : Int} (h : ((0 ≤ i ∧ i ≤ 2 ^ 20) ∧ (0 ≤ j ∧ j ≤ 2 ^ 20) ∧ (0 < k ∧ k ≤ 2 ^ 20)) ∧ q (.list ((List.range (cnt3 i j k)).map fun (m : Nat) => .int (i + m * k)))) : lr3 [.int i, .int j, .int k] q := ⟨i, j, k, rfl, h.1, h.2⟩
theorem ev_LR3 (h : tA ρ fun ds ρ' => lr3 ds fun d => Q d ρ') : dLR3 tA ρ Q := h
def dEvens (te : DT) : DT := fun ρ Q => te ρ fun d ρ' => ∃ ds, d = .list ds ∧ Q (.list (evens ds)) ρ'
theorem ev_evens (h : te ρ fun d ρ' => isL d fun ds => Q (.list (evens ds)) ρ') : dEvens te ρ Q := h
end
end L2.L3

namespace L2.L3
open PySem PySem.Spec PyProof.Rows
section
variable {X : Cx} {F : Fx} {a b : Expr} {ta tb : DT} {pos : Pos} {q : PyData → Prop}
/-- a list times an int -/
def fRep : D2 := fun x y Q => ∃ ds k, x = .list ds ∧ y = .int k ∧ (-(2 ^ 63) ≤ k ∧ k < 2 ^ 63 ∧ ds.length * k.toNat ≤ sizeLine) ∧ Q (.list (List.replicate k.toNat ds).flatten)
theorem dvs_rep {H : Hp} {vs : List V} {ds : List PyData} (r : DVs H vs ds) : ∀ k : Nat, DVs H (List.replicate k vs).flatten (List.replicate k ds).flatten
  | 0 => .nil
  | k + 1 => by
    rw [List.replicate_succ, List.replicate_succ, List.flatten_cons, List.flatten_cons]
    exact r.append (dvs_rep r k)
theorem o_rep : Op2 rRep fRep where
  mn := fun _ _ _ _ k ⟨ds, n, e1, e2, e3, q⟩ => ⟨ds, n, e1, e2, e3, k _ q⟩
  ok := fun O H u v x y Q hO h1 h2 ⟨ds, k, e1, e2, ⟨e3, e4, e5⟩, q⟩ => by
    subst e1 e2
    obtain ⟨a, xs, rfl, ha, hd⟩ := h1.lst_inv
    refine ⟨a, k, xs, rfl, h2.int_inv, (of_hide ha).1, e3, e4, by rw [hd.length]; exact e5, fun p hp => q _ _ (same_upd hp) (dv_new_lst hp (hO p hp) (dvs_rep hd _))⟩
theorem de_rep (ha : DE X F a ta) (hb : DE X F b tb) : DE X F (.BinOp a .Mult b pos) (dOp fRep ta tb) := de_op op_rep o_rep ha hb
theorem ev_rep {ds : List PyData} {k : Int} (h : (-(2 ^ 63) ≤ k ∧ k < 2 ^ 63 ∧ ds.length * k.toNat ≤ sizeLine) ∧ q (.list (List.replicate k.toNat ds).flatten)) : fRep (.list ds) (.int k) q := ⟨ds, k, rfl, rfl, h.1, h.2⟩
end
end L2.L3

namespace L2
open PySem PySem.Spec PyProof.Rows
section
variable {X : Cx}
end
end L2
namespace L2.L3
open PySem PySem.Spec PyProof.Rows
section
variable {q : PyData → Prop}
end
end L2.L3

namespace L2.L3
open PySem PySem.Spec PyProof.Rows
section
variable {X : Cx} {F : Fx} {tA : DTA} {ρ : DEnv} {N B C : DEnv → Prop} {R : PyData → DEnv → Prop}
def sBrk : DTS := fun D ρ => D.bk ρ
def sCont : DTS := fun D ρ => D.ct ρ
theorem ds_break {pos : Pos} : DS X F (.Break pos) sBrk := ps_break.imp fun D σ H ⟨ρ, O, DD, st, q, f⟩ => f.bk σ H ρ O st .refl q
theorem ev_brk (h : B ρ) : sBrk ⟨N, R, B, C⟩ ρ := h
theorem ev_cont (h : C ρ) : sCont ⟨N, R, B, C⟩ ρ := h
/-- what a, b = .. does behind its two values -/
def par2 (i j : Nat) (N : DEnv → Prop) (ds : List PyData) (ρ' : DEnv) : Prop := ∃ x y, ds = [x, y] ∧ N ((ρ'.set i (some (.dat x))).set j (some (.dat y)))
def sPar (i j : Nat) (tA : DTA) : DTS := fun D ρ => tA ρ fun ds ρ' => par2 i j D.nx ds ρ'
theorem ev_par {i j : Nat} (h : tA ρ fun ds ρ' => par2 i j N ds ρ') : sPar i j tA ⟨N, R, B, C⟩ ρ := h
theorem ev_par2 {i j : Nat} {x y : PyData} (h : N ((ρ.set i (some (.dat x))).set j (some (.dat y)))) : par2 i j N [x, y] ρ := ⟨x, y, rfl, h⟩
end
end L2.L3

namespace Due
/-! ### the wall -/
abbrev Sh := List (Int × Int)
def aheadAt (a : Int) : Sh → Int → Int
  | [], _ => a
  | (b, c) :: r, m => aheadAt (if b ≤ m then c else a) r m
def shownM (a : Int) (ss : Sh) (m : Int) : Int := m + aheadAt a ss m
def Rising : Int → Sh → Prop
  | _, [] => True
  | lo, (b, _) :: r => lo < b ∧ Rising b r
theorem ahead_before {a m : Int} : ∀ {ss : Sh} {lo : Int}, Rising lo ss → m ≤ lo → aheadAt a ss m = a
  | [], _, _, _ => rfl
  | (b, c) :: r, lo, ⟨h1, h2⟩, hm => by
    unfold aheadAt
    rw [if_neg (by omega)]
    exact ahead_before h2 (by omega)
/-- the first moment from s on at which g or more is shown -/
def firstM (g : Int) : Int → Int → Sh → Int
  | s, a, [] => max s (g - a)
  | s, a, (b, c) :: r => if max s (g - a) < b then max s (g - a) else firstM g b c r
theorem firstM_spec {g : Int} : ∀ {ss : Sh} {s a : Int}, Rising s ss → s ≤ firstM g s a ss ∧ g ≤ shownM a ss (firstM g s a ss) ∧ ∀ m, s ≤ m → m < firstM g s a ss → shownM a ss m < g
  | [], s, a, _ => by
    unfold firstM shownM aheadAt
    refine ⟨by omega, by omega, fun m h1 h2 => ?_⟩
    omega
  | (b, c) :: r, s, a, ⟨h1, h2⟩ => by
    unfold firstM
    have bef : ∀ m, m < b → shownM a ((b, c) :: r) m = m + a := fun m hm => by
      unfold shownM aheadAt
      rw [if_neg (by omega), ahead_before h2 (by omega)]
    have aft : ∀ m, b ≤ m → shownM a ((b, c) :: r) m = shownM c r m := fun m hm => by
      unfold shownM
      rw [aheadAt, if_pos hm]
    by_cases hlt : max s (g - a) < b
    · rw [if_pos hlt]
      refine ⟨by omega, ?_, fun m h1 h2 => ?_⟩
      · rw [bef _ hlt]; omega
      · rw [bef _ (by omega)]; omega
    · rw [if_neg hlt]
      obtain ⟨q1, q2, q3⟩ := firstM_spec (g := g) (a := c) h2
      refine ⟨by omega, ?_, fun m h3 h4 => ?_⟩
      · rw [aft _ q1]; exact q2
      · by_cases hm : m < b
        · rw [bef _ hm]; omega
        · rw [aft _ (by omega)]; exact q3 m (by omega) h4
theorem firstM_mono {g g' : Int} (h : g ≤ g') {ss : Sh} {s a : Int} (hr : Rising s ss) : firstM g s a ss ≤ firstM g' s a ss := by
  obtain ⟨q1, q2, q3⟩ := firstM_spec (g := g) (a := a) hr
  obtain ⟨p1, p2, p3⟩ := firstM_spec (g := g') (a := a) hr
  refine Int.not_lt.mp fun hlt => ?_
  have := q3 _ p1 hlt
  omega
def AheadOk (a : Int) (ss : Sh) : Prop := (-12 ≤ a ∧ a ≤ 14) ∧ ∀ p ∈ ss, -12 ≤ p.2 ∧ p.2 ≤ 14
theorem ahead_ok {m : Int} : ∀ {ss : Sh} {a : Int}, AheadOk a ss → -12 ≤ aheadAt a ss m ∧ aheadAt a ss m ≤ 14
  | [], a, h => h.1
  | (b, c) :: r, a, h => by
    unfold aheadAt
    refine ahead_ok ⟨?_, fun p hp => h.2 p (List.mem_cons_of_mem _ hp)⟩
    split
    · exact h.2 (b, c) List.mem_cons_self
    · exact h.1
/-- the stretches between the shifts -/
def stret (s a : Int) : Sh → List (Int × Option Int × Int)
  | [] => [(s, none, a)]
  | (b, c) :: r => (s, some b, a) :: stret b c r
def isAheadM (m : Int) : Option Int → Bool
  | none => true
  | some e => decide (m < e)
def reachedM (g : Int) (l : List (Int × Option Int × Int)) : List Int := (l.filter fun p => isAheadM (max p.1 (g - p.2.2)) p.2.1).map fun p => max p.1 (g - p.2.2)
theorem reached_head (g : Int) : ∀ (ss : Sh) (s a : Int), ∃ t, reachedM g (stret s a ss) = firstM g s a ss :: t
  | [], s, a => ⟨[], rfl⟩
  | (b, c) :: r, s, a => by
    obtain ⟨t, ih⟩ := reached_head g r b c
    unfold stret firstM reachedM
    rw [List.filter_cons]
    by_cases h : max s (g - a) < b
    · rw [if_pos (by show decide (max s (g - a) < b) = true; exact decide_eq_true h), if_pos h]
      exact ⟨_, rfl⟩
    · rw [if_neg (by show ¬ decide (max s (g - a) < b) = true; simpa using h), if_neg h]
      exact ⟨t, ih⟩
/-- the moments that show just g -/
def showingM (g : Int) (l : List (Int × Option Int × Int)) : List Int := (l.filter fun p => decide (p.1 ≤ g - p.2.2) && isAheadM (g - p.2.2) p.2.1).map fun p => g - p.2.2
/-! ### times -/
def firstDayM (a : Int) (ss : Sh) (h : Int) : Int := -((h - shownM a ss 0) / 24)
theorem firstDay_spec {a h : Int} {ss : Sh} : shownM a ss 0 ≤ 24 * firstDayM a ss h + h ∧ 24 * firstDayM a ss h + h < shownM a ss 0 + 24 := by
  unfold firstDayM
  omega
def dailyM (a : Int) (ss : Sh) (h : Int) (c : Nat) : Int := firstM ((firstDayM a ss h + c) * 24 + h) 0 a ss
inductive Plan where
  | once (m : Int) | every (f s : Int) | daily (h : Int)
def timeM (a : Int) (ss : Sh) : Plan → Nat → Option Int
  | .once m, c => if c = 0 then some m else none
  | .every f s, c => some (f + c * s)
  | .daily h, c => some (dailyM a ss h c)
theorem daily_nn {a h : Int} {ss : Sh} {c : Nat} (hr : Rising 0 ss) : 0 ≤ dailyM a ss h c := (firstM_spec hr).1
theorem daily_mono {a h : Int} {ss : Sh} {c d : Nat} (hr : Rising 0 ss) (hcd : c ≤ d) : dailyM a ss h c ≤ dailyM a ss h d := firstM_mono (by omega) hr
theorem daily_ge {a h : Int} {ss : Sh} {c : Nat} (hr : Rising 0 ss) (ho : AheadOk a ss) : 24 * (c : Int) - 26 ≤ dailyM a ss h c := by
  obtain ⟨q1, q2, _⟩ := firstM_spec (g := (firstDayM a ss h + c) * 24 + h) (a := a) hr
  have := firstDay_spec (a := a) (h := h) (ss := ss)
  have b1 := ahead_ok (m := 0) ho
  have b2 := ahead_ok (m := firstM ((firstDayM a ss h + c) * 24 + h) 0 a ss) ho
  unfold shownM at *
  unfold dailyM
  omega
end Due

namespace K3
open PySem PySem.Spec L2 L2.L3 Due
def top (i : Nat) : Stmt := PySem.Challenge.pw_duehall_k29_whole_gaps.main.body.getD i (.Pass ⟨0, 0, 0, 0⟩)
abbrev s_is_whole : Stmt := top 13
abbrev s_is_tuple_of : Stmt := top 14
abbrev s_is_ahead : Stmt := top 15
abbrev s_is_moment : Stmt := top 16
abbrev s_are_shifts : Stmt := top 17
abbrev s_is_zone : Stmt := top 18
abbrev s_has_word : Stmt := top 19
abbrev s_is_plan : Stmt := top 20
abbrev s_check_zone : Stmt := top 21
abbrev s_check_plan : Stmt := top 22
abbrev s_check_count : Stmt := top 23
abbrev s_shown : Stmt := top 26
abbrev s_stretches : Stmt := top 27
abbrev s_is_ahead_of : Stmt := top 28
abbrev s_first_showing : Stmt := top 29
abbrev s_first_day : Stmt := top 31
abbrev s_daily_time : Stmt := top 32
abbrev s_time_of : Stmt := top 33
abbrev s_due : Stmt := top 34
abbrev s_gaps : Stmt := top 37
abbrev s__law_cell_at : Stmt := top 39
abbrev s__law_mixed : Stmt := top 40
abbrev s__law_draw : Stmt := top 41
abbrev s__law_pick : Stmt := top 42
abbrev s__law_zone : Stmt := top 43
abbrev s__law_shown : Stmt := top 44
abbrev s__law_plan : Stmt := top 45
abbrev s__law_times : Stmt := top 46
abbrev s_law : Stmt := top 47
theorem sc_is_whole : FnScope ["thing", "least", "most"] ["thing", "least", "most"] (defScope s_is_whole) := ⟨rfl, rfl, rfl, by decide +kernel, rfl, by decide +kernel, by decide +kernel⟩
theorem sc_is_tuple_of : FnScope ["thing", "length"] ["thing", "length"] (defScope s_is_tuple_of) := ⟨rfl, rfl, rfl, by decide +kernel, rfl, by decide +kernel, by decide +kernel⟩
theorem sc_is_ahead : FnScope ["thing"] ["thing"] (defScope s_is_ahead) := ⟨rfl, rfl, rfl, by decide +kernel, rfl, by decide +kernel, by decide +kernel⟩
theorem sc_is_moment : FnScope ["thing"] ["thing"] (defScope s_is_moment) := ⟨rfl, rfl, rfl, by decide +kernel, rfl, by decide +kernel, by decide +kernel⟩
theorem sc_are_shifts : FnScope ["thing", "earliest", "shift"] ["thing"] (defScope s_are_shifts) := ⟨rfl, rfl, rfl, by decide +kernel, rfl, by decide +kernel, by decide +kernel⟩
theorem sc_is_zone : FnScope ["thing"] ["thing"] (defScope s_is_zone) := ⟨rfl, rfl, rfl, by decide +kernel, rfl, by decide +kernel, by decide +kernel⟩
theorem sc_has_word : FnScope ["thing", "word", "length"] ["thing", "word", "length"] (defScope s_has_word) := ⟨rfl, rfl, rfl, by decide +kernel, rfl, by decide +kernel, by decide +kernel⟩
theorem sc_is_plan : FnScope ["thing"] ["thing"] (defScope s_is_plan) := ⟨rfl, rfl, rfl, by decide +kernel, rfl, by decide +kernel, by decide +kernel⟩
theorem sc_check_zone : FnScope ["thing"] ["thing"] (defScope s_check_zone) := ⟨rfl, rfl, rfl, by decide +kernel, rfl, by decide +kernel, by decide +kernel⟩
theorem sc_check_plan : FnScope ["thing"] ["thing"] (defScope s_check_plan) := ⟨rfl, rfl, rfl, by decide +kernel, rfl, by decide +kernel, by decide +kernel⟩
theorem sc_check_count : FnScope ["thing"] ["thing"] (defScope s_check_count) := ⟨rfl, rfl, rfl, by decide +kernel, rfl, by decide +kernel, by decide +kernel⟩
theorem sc_shown : FnScope ["zone", "moment", "ahead", "shift"] ["zone", "moment"] (defScope s_shown) := ⟨rfl, rfl, rfl, by decide +kernel, rfl, by decide +kernel, by decide +kernel⟩
theorem sc_stretches : FnScope ["zone", "starts", "ends", "aheads"] ["zone"] (defScope s_stretches) := ⟨rfl, rfl, rfl, by decide +kernel, rfl, by decide +kernel, by decide +kernel⟩
theorem sc_is_ahead_of : FnScope ["moment", "end"] ["moment", "end"] (defScope s_is_ahead_of) := ⟨rfl, rfl, rfl, by decide +kernel, rfl, by decide +kernel, by decide +kernel⟩
theorem sc_first_showing : FnScope ["zone", "hours", "reached"] ["zone", "hours"] (defScope s_first_showing) := ⟨rfl, rfl, rfl, by decide +kernel, rfl, by decide +kernel, by decide +kernel⟩
theorem sc_first_day : FnScope ["zone", "hour"] ["zone", "hour"] (defScope s_first_day) := ⟨rfl, rfl, rfl, by decide +kernel, rfl, by decide +kernel, by decide +kernel⟩
theorem sc_daily_time : FnScope ["zone", "hour", "count", "day"] ["zone", "hour", "count"] (defScope s_daily_time) := ⟨rfl, rfl, rfl, by decide +kernel, rfl, by decide +kernel, by decide +kernel⟩
theorem sc_time_of : FnScope ["zone", "plan", "count"] ["zone", "plan", "count"] (defScope s_time_of) := ⟨rfl, rfl, rfl, by decide +kernel, rfl, by decide +kernel, by decide +kernel⟩
theorem sc_due : FnScope ["zone", "plan", "count"] ["zone", "plan", "count"] (defScope s_due) := ⟨rfl, rfl, rfl, by decide +kernel, rfl, by decide +kernel, by decide +kernel⟩
theorem sc_gaps : FnScope ["zone", "plan", "many", "found", "count", "later"] ["zone", "plan", "many"] (defScope s_gaps) := ⟨rfl, rfl, rfl, by decide +kernel, rfl, by decide +kernel, by decide +kernel⟩
theorem sc__law_cell_at : FnScope ["_law_script", "_law_k"] ["_law_script", "_law_k"] (defScope s__law_cell_at) := ⟨rfl, rfl, rfl, by decide +kernel, rfl, by decide +kernel, by decide +kernel⟩
theorem sc__law_mixed : FnScope ["_law_script", "_law_k", "_law_many", "_law_drawn"] ["_law_script", "_law_k", "_law_many"] (defScope s__law_mixed) := ⟨rfl, rfl, rfl, by decide +kernel, rfl, by decide +kernel, by decide +kernel⟩
theorem sc__law_draw : FnScope ["_law_script", "_law_town", "_law_many"] ["_law_script", "_law_town", "_law_many"] (defScope s__law_draw) := ⟨rfl, rfl, rfl, by decide +kernel, rfl, by decide +kernel, by decide +kernel⟩
theorem sc__law_pick : FnScope ["_law_script", "_law_town", "_law_some"] ["_law_script", "_law_town", "_law_some"] (defScope s__law_pick) := ⟨rfl, rfl, rfl, by decide +kernel, rfl, by decide +kernel, by decide +kernel⟩
theorem sc__law_zone : FnScope ["_law_script", "_law_town", "_law_wide", "_law_made", "_law_at", "_law_k"] ["_law_script", "_law_town", "_law_wide"] (defScope s__law_zone) := ⟨rfl, rfl, rfl, by decide +kernel, rfl, by decide +kernel, by decide +kernel⟩
theorem sc__law_shown : FnScope ["_law_zone_here", "_law_moment", "_law_ahead", "_law_begin", "_law_more"] ["_law_zone_here", "_law_moment"] (defScope s__law_shown) := ⟨rfl, rfl, rfl, by decide +kernel, rfl, by decide +kernel, by decide +kernel⟩
theorem sc__law_plan : FnScope ["_law_script", "_law_town", "_law_wide", "_law_kind", "_law_step"] ["_law_script", "_law_town", "_law_wide"] (defScope s__law_plan) := ⟨rfl, rfl, rfl, by decide +kernel, rfl, by decide +kernel, by decide +kernel⟩
theorem sc__law_times : FnScope ["_law_zone_here", "_law_plan_here", "_law_last", "_law_goal", "_law_made", "_law_moment"] ["_law_zone_here", "_law_plan_here", "_law_last"] (defScope s__law_times) := ⟨rfl, rfl, rfl, by decide +kernel, rfl, by decide +kernel, by decide +kernel⟩
theorem sc_law : FnScope ["_law_script", "_law_town", "_law_zone_here", "_law_plan_here", "_law_many", "_law_made", "_law_some", "_law_apart"] ["_law_script"] (defScope s_law) := ⟨rfl, rfl, rfl, by decide +kernel, rfl, by decide +kernel, by decide +kernel⟩
/-- what the text's top has made -/
structure Tx (K : PySem.W.Frag) (mg : Str → Option Value) : Prop where
  d_is_whole : ∃ g fd, FD K mg "is_whole" s_is_whole ["thing", "least", "most"] g fd
  d_is_tuple_of : ∃ g fd, FD K mg "is_tuple_of" s_is_tuple_of ["thing", "length"] g fd
  d_is_ahead : ∃ g fd, FD K mg "is_ahead" s_is_ahead ["thing"] g fd
  d_is_moment : ∃ g fd, FD K mg "is_moment" s_is_moment ["thing"] g fd
  d_are_shifts : ∃ g fd, FD K mg "are_shifts" s_are_shifts ["thing"] g fd
  d_is_zone : ∃ g fd, FD K mg "is_zone" s_is_zone ["thing"] g fd
  d_has_word : ∃ g fd, FD K mg "has_word" s_has_word ["thing", "word", "length"] g fd
  d_is_plan : ∃ g fd, FD K mg "is_plan" s_is_plan ["thing"] g fd
  d_check_zone : ∃ g fd, FD K mg "check_zone" s_check_zone ["thing"] g fd
  d_check_plan : ∃ g fd, FD K mg "check_plan" s_check_plan ["thing"] g fd
  d_check_count : ∃ g fd, FD K mg "check_count" s_check_count ["thing"] g fd
  d_shown : ∃ g fd, FD K mg "shown" s_shown ["zone", "moment"] g fd
  d_stretches : ∃ g fd, FD K mg "stretches" s_stretches ["zone"] g fd
  d_is_ahead_of : ∃ g fd, FD K mg "is_ahead_of" s_is_ahead_of ["moment", "end"] g fd
  d_first_showing : ∃ g fd, FD K mg "first_showing" s_first_showing ["zone", "hours"] g fd
  d_first_day : ∃ g fd, FD K mg "first_day" s_first_day ["zone", "hour"] g fd
  d_daily_time : ∃ g fd, FD K mg "daily_time" s_daily_time ["zone", "hour", "count"] g fd
  d_time_of : ∃ g fd, FD K mg "time_of" s_time_of ["zone", "plan", "count"] g fd
  d_due : ∃ g fd, FD K mg "due" s_due ["zone", "plan", "count"] g fd
  d_gaps : ∃ g fd, FD K mg "gaps" s_gaps ["zone", "plan", "many"] g fd
  d__law_cell_at : ∃ g fd, FD K mg "_law_cell_at" s__law_cell_at ["_law_script", "_law_k"] g fd
  d__law_mixed : ∃ g fd, FD K mg "_law_mixed" s__law_mixed ["_law_script", "_law_k", "_law_many"] g fd
  d__law_draw : ∃ g fd, FD K mg "_law_draw" s__law_draw ["_law_script", "_law_town", "_law_many"] g fd
  d__law_pick : ∃ g fd, FD K mg "_law_pick" s__law_pick ["_law_script", "_law_town", "_law_some"] g fd
  d__law_zone : ∃ g fd, FD K mg "_law_zone" s__law_zone ["_law_script", "_law_town", "_law_wide"] g fd
  d__law_shown : ∃ g fd, FD K mg "_law_shown" s__law_shown ["_law_zone_here", "_law_moment"] g fd
  d__law_plan : ∃ g fd, FD K mg "_law_plan" s__law_plan ["_law_script", "_law_town", "_law_wide"] g fd
  d__law_times : ∃ g fd, FD K mg "_law_times" s__law_times ["_law_zone_here", "_law_plan_here", "_law_last"] g fd
  c_LAST_MOMENT : ∃ t, mg "LAST_MOMENT" = some (.int (9999) t)
  c_LAST_COUNT : ∃ t, mg "LAST_COUNT" = some (.int (9999) t)
  c_LAST_HOUR : ∃ t, mg "LAST_HOUR" = some (.int (23) t)
  c_LEAST_AHEAD : ∃ t, mg "LEAST_AHEAD" = some (.int (-12) t)
  c_MOST_AHEAD : ∃ t, mg "MOST_AHEAD" = some (.int (14) t)
  c_MOST_SHIFTS : ∃ t, mg "MOST_SHIFTS" = some (.int (6) t)
  c_MOST_STEP : ∃ t, mg "MOST_STEP" = some (.int (999) t)
  c_DAY_HOURS : ∃ t, mg "DAY_HOURS" = some (.int (24) t)
  c_MOST_GAPS : ∃ t, mg "MOST_GAPS" = some (.int (999) t)
  b_bool : mg "bool" = none
  b_int : mg "int" = none
  b_isinstance : mg "isinstance" = none
  b_len : mg "len" = none
  b_list : mg "list" = none
  b_max : mg "max" = none
  b_range : mg "range" = none
  b_str : mg "str" = none
  b_sum : mg "sum" = none
  b_tuple : mg "tuple" = none
  b_zip : mg "zip" = none
theorem bt_int : bootBuiltins "int" = some (.type "int") := by decide +kernel
theorem bt_bool : bootBuiltins "bool" = some (.type "bool") := by decide +kernel
theorem bt_str : bootBuiltins "str" = some (.type "str") := by decide +kernel
theorem bt_tuple : bootBuiltins "tuple" = some (.type "tuple") := by decide +kernel
theorem bt_list : bootBuiltins "list" = some (.type "list") := by decide +kernel
theorem bt_max : bootBuiltins "max" = some (.builtin "max") := by decide +kernel
theorem bt_divmod : bootBuiltins "divmod" = some (.builtin "divmod") := by decide +kernel
theorem bt_all : bootBuiltins "all" = some (.builtin "all") := by decide +kernel
theorem bt_sum : bootBuiltins "sum" = some (.builtin "sum") := by decide +kernel
theorem bt_min : bootBuiltins "min" = some (.builtin "min") := by decide +kernel
section
variable {P : Program} {w : World} {K : PySem.W.Frag} {mg : Str → Option Value} {base : Heap}
theorem kit_int_bool (K : PySem.W.Frag) : PySem.W.kitOne K (.type "int") (.type "bool") = some false := by rfl
theorem ifT {c A B : Prop} [Decidable c] (h : c) (a : A) : if c then A else B := by rw [if_pos h]; exact a
theorem ifF {c A B : Prop} [Decidable c] (h : ¬ c) (b : B) : if c then A else B := by rw [if_neg h]; exact b
theorem eqv_int (i j : Int) : PyData.eqv (.int i) (.int j) = (i == j) := by rw [PyData.eqv]
theorem eqv_str (i j : Str) : PyData.eqv (.str i) (.str j) = (i == j) := by rw [PyData.eqv]
theorem shaped_int (i : Int) : SeqAt.shaped (.int i) = true := by rfl
/-! zones, plans as data -/
abbrev shD (p : Int × Int) : PyData := .tuple [.int p.1, .int p.2]
abbrev zoneD (a : Int) (ss : Sh) : PyData := .tuple [.int a, .tuple (ss.map shD)]
structure ZOk (a : Int) (ss : Sh) : Prop where
  len : ss.length ≤ 6
  rise : Rising 0 ss
  ah : AheadOk a ss
  top : ∀ p ∈ ss, p.1 ≤ 9999
abbrev planD : Plan → PyData
  | .once m => .tuple [.str "once", .int m]
  | .every f s => .tuple [.str "every", .int f, .int s]
  | .daily h => .tuple [.str "daily", .int h]
def PlanOk : Plan → Prop
  | .once m => 0 ≤ m ∧ m ≤ 9999
  | .every f s => (0 ≤ f ∧ f ≤ 9999) ∧ 1 ≤ s ∧ s ≤ 999
  | .daily h => 0 ≤ h ∧ h ≤ 23
theorem rise_drop {lo : Int} : ∀ {ss : Sh} {i : Nat} {b c : Int}, Rising lo ss → ss[i]? = some (b, c) → True := fun _ _ => trivial
def q_is_whole : DN := fun ds Q => ∃ i lo hi, ds = [.int i, .int lo, .int hi] ∧ Q (.bool (decide (lo ≤ i) && decide (i ≤ hi)))
theorem m_is_whole : MnN q_is_whole := fun _ _ _ k ⟨a, b, c, e, q⟩ => ⟨a, b, c, e, k _ q⟩
theorem ok_is_whole {g : Addr} {fd : FuncData} (T : Tx K mg) (D : FD K mg "is_whole" s_is_whole ["thing", "least", "most"] g fd) : FnOk P w K mg base CX0 1 g fd ["thing", "least", "most"] (spP q_is_whole) := by
  refine fn_pure D.fn sc_is_whole ?len m_is_whole (fun cdv A outer s H E F hr =>
      (dss_one (ds_ret (de_and (de_isinst rfl T.b_isinstance (de_var 0 (pv 0)) (pe_bltn rfl T.b_int bt_int rfl)) (de_and (de_not (de_isinst rfl T.b_isinstance (de_var 0 (pv 0)) (pe_bltn rfl T.b_bool bt_bool rfl))) (de_one (de_lele (de_var 1 (pv 1)) (de_var 0 (pv 0)) (de_var 2 (pv 2))))))))) ?rd
  case len => rintro ds Q ⟨i, lo, hi, rfl, _⟩; rfl
  case rd =>
    rintro ds Q ⟨i, lo, hi, rfl, q⟩
    simp only [dCmp_ap, sFor_ap, and_assoc, at0, at1, at2, startD, sOwn, sCnt, sApp, sRet, sSeq, sSet, sIf, sNext, sNever, sDrop, sAug, dAnd, dOr, dIsI, dV, dNot, dNeg, dC, dChain, dOp, dIf, dTup, dLst, dCons, dNil, dCB, dTst, bNot, bAnd, bOr, bYes, gN, gTp, gCs, gNl, fI, fEq, fIs, fIsNot, fIxT, fIxL, fCatL, dTail, dLZ, dLR, fLen, fMax, fInt, fDivmod, fTuple, fAll, iL, iT, iR1, iE, iZ, dLenS, dIxS, dEqS, dScr, dDraw, dLenT, capC, liftD, List.map_cons, List.map_nil, List.map, List.length_cons, List.length_nil, List.cons_append, List.nil_append, List.append_nil, List.replicate, Nat.zero_add, Nat.add_sub_cancel, Nat.sub_self, Nat.reduceAdd, Nat.reduceSub, List.getElem?_cons_zero, List.getElem?_cons_succ, List.getElem?_nil, List.set_cons_zero, List.set_cons_succ, Option.some.injEq, Option.some_ne_none, Cell.dat.injEq, Cell.scr.injEq, Cell.cnt.injEq, Cell.own.injEq, reduceCtorEq, PyData.int.injEq, PyData.bool.injEq, PyData.str.injEq, PyData.list.injEq, PyData.tuple.injEq, List.cons.injEq, exists_eq_left', exists_eq_left, exists_and_left, exists_eq', exists_false, and_true, true_and, and_false, false_and, or_false, false_or, and_self, exists_const, exists_eq_right, exists_eq, if_true, if_false, Bool.false_eq_true, Bool.true_eq_false, List.length, reduceIte]
    refine ⟨true, kit_same _, iteT ⟨false, kit_int_bool, iteT ?_⟩⟩
    by_cases h : lo ≤ i
    · rw [decide_eq_true h, Bool.true_and] at q; exact ifT (decide_eq_true h) q
    · rw [decide_eq_false h, Bool.false_and] at q; exact ifF (by simpa using h) q

def q_is_tuple_of : DN := fun ds Q => ∃ xs n, ds = [.tuple xs, .int n] ∧ Q (.bool (decide ((xs.length : Int) = n)))
theorem m_is_tuple_of : MnN q_is_tuple_of := fun _ _ _ k ⟨a, b, e, q⟩ => ⟨a, b, e, k _ q⟩
theorem beq_dec (i j : Int) : (i == j) = decide (i = j) := by by_cases h : i = j <;> simp [h]
theorem ok_is_tuple_of {g : Addr} {fd : FuncData} (T : Tx K mg) (D : FD K mg "is_tuple_of" s_is_tuple_of ["thing", "length"] g fd) : FnOk P w K mg base CX0 1 g fd ["thing", "length"] (spP q_is_tuple_of) := by
  refine fn_pure D.fn sc_is_tuple_of ?len m_is_tuple_of (fun cdv A outer s H E F hr =>
      (dss_one (ds_ret (de_and (de_isinst rfl T.b_isinstance (de_var 0 (pv 0)) (pe_bltn rfl T.b_tuple bt_tuple rfl)) (de_one (de_eq hr.units (de_callB call_len_seq n_len rfl T.b_len PySem.boot_len (da_cons (de_var 0 (pv 0)) da_nil)) (de_var 1 (pv 1)))))))) ?rd
  case len => rintro ds Q ⟨xs, n, rfl, _⟩; rfl
  case rd =>
    rintro ds Q ⟨xs, n, rfl, q⟩
    simp only [dCmp_ap, sFor_ap, and_assoc, at0, at1, at2, startD, sOwn, sCnt, sApp, sRet, sSeq, sSet, sIf, sNext, sNever, sDrop, sAug, dAnd, dOr, dIsI, dV, dNot, dNeg, dC, dChain, dOp, dIf, dTup, dLst, dCons, dNil, dCB, dTst, bNot, bAnd, bOr, bYes, gN, gTp, gCs, gNl, fI, fEq, fIs, fIsNot, fIxT, fIxL, fCatL, dTail, dLZ, dLR, fLen, fMax, fInt, fDivmod, fTuple, fAll, iL, iT, iR1, iE, iZ, dLenS, dIxS, dEqS, dScr, dDraw, dLenT, capC, liftD, List.map_cons, List.map_nil, List.map, List.length_cons, List.length_nil, List.cons_append, List.nil_append, List.append_nil, List.replicate, Nat.zero_add, Nat.add_sub_cancel, Nat.sub_self, Nat.reduceAdd, Nat.reduceSub, List.getElem?_cons_zero, List.getElem?_cons_succ, List.getElem?_nil, List.set_cons_zero, List.set_cons_succ, Option.some.injEq, Option.some_ne_none, Cell.dat.injEq, Cell.scr.injEq, Cell.cnt.injEq, Cell.own.injEq, reduceCtorEq, PyData.int.injEq, PyData.bool.injEq, PyData.str.injEq, PyData.list.injEq, PyData.tuple.injEq, List.cons.injEq, exists_eq_left', exists_eq_left, exists_and_left, exists_eq', exists_false, and_true, true_and, and_false, false_and, or_false, false_or, and_self, exists_const, exists_eq_right, exists_eq, if_true, if_false, Bool.false_eq_true, Bool.true_eq_false, List.length, reduceIte]
    refine ⟨true, kit_same _, iteT ⟨rfl, rfl, ?_⟩⟩
    rw [eqv_int, Bool.bne_false, beq_dec]
    exact q

def q_is_ahead : DN := fun ds Q => ∃ i, ds = [.int i] ∧ Q (.bool (decide ((-12) ≤ i) && decide (i ≤ 14)))
theorem m_is_ahead : MnN q_is_ahead := fun _ _ _ k ⟨a, e, q⟩ => ⟨a, e, k _ q⟩
theorem ok_is_ahead {g : Addr} {fd : FuncData} (T : Tx K mg) (D : FD K mg "is_ahead" s_is_ahead ["thing"] g fd) : FnOk P w K mg base CX0 2 g fd ["thing"] (spP q_is_ahead) := by
  obtain ⟨g_is_whole, fd_is_whole, D_is_whole⟩ := T.d_is_whole
  have G_is_whole := ok_is_whole (P := P) (w := w) (base := base) T D_is_whole
  obtain ⟨t_LEAST_AHEAD, g_LEAST_AHEAD⟩ := T.c_LEAST_AHEAD
  obtain ⟨t_MOST_AHEAD, g_MOST_AHEAD⟩ := T.c_MOST_AHEAD
  refine fn_pure D.fn sc_is_ahead ?len m_is_ahead (fun cdv A outer s H E F hr =>
      (dss_one (ds_ret (de_call G_is_whole m_is_whole (hr.mono (by decide)) rfl D_is_whole.mgf D_is_whole.fn.kp D_is_whole.b (da_cons (de_var 0 (pv 0)) (da_cons (de_gint rfl g_LEAST_AHEAD) (da_cons (de_gint rfl g_MOST_AHEAD) da_nil))))))) ?rd
  case len => rintro ds Q ⟨i, rfl, _⟩; rfl
  case rd =>
    rintro ds Q ⟨i, rfl, q⟩
    simp only [dCmp_ap, sFor_ap, and_assoc, at0, at1, at2, startD, sOwn, sCnt, sApp, sRet, sSeq, sSet, sIf, sNext, sNever, sDrop, sAug, dAnd, dOr, dIsI, dV, dNot, dNeg, dC, dChain, dOp, dIf, dTup, dLst, dCons, dNil, dCB, dTst, bNot, bAnd, bOr, bYes, gN, gTp, gCs, gNl, fI, fEq, fIs, fIsNot, fIxT, fIxL, fCatL, dTail, dLZ, dLR, fLen, fMax, fInt, fDivmod, fTuple, fAll, iL, iT, iR1, iE, iZ, dLenS, dIxS, dEqS, dScr, dDraw, dLenT, capC, liftD, List.map_cons, List.map_nil, List.map, List.length_cons, List.length_nil, List.cons_append, List.nil_append, List.append_nil, List.replicate, Nat.zero_add, Nat.add_sub_cancel, Nat.sub_self, Nat.reduceAdd, Nat.reduceSub, List.getElem?_cons_zero, List.getElem?_cons_succ, List.getElem?_nil, List.set_cons_zero, List.set_cons_succ, Option.some.injEq, Option.some_ne_none, Cell.dat.injEq, Cell.scr.injEq, Cell.cnt.injEq, Cell.own.injEq, reduceCtorEq, PyData.int.injEq, PyData.bool.injEq, PyData.str.injEq, PyData.list.injEq, PyData.tuple.injEq, List.cons.injEq, exists_eq_left', exists_eq_left, exists_and_left, exists_eq', exists_false, and_true, true_and, and_false, false_and, or_false, false_or, and_self, exists_const, exists_eq_right, exists_eq, if_true, if_false, Bool.false_eq_true, Bool.true_eq_false, List.length, reduceIte]
    exact ⟨i, _, _, rfl, q⟩

def q_is_moment : DN := fun ds Q => ∃ i, ds = [.int i] ∧ Q (.bool (decide (0 ≤ i) && decide (i ≤ 9999)))
theorem m_is_moment : MnN q_is_moment := fun _ _ _ k ⟨a, e, q⟩ => ⟨a, e, k _ q⟩
theorem ok_is_moment {g : Addr} {fd : FuncData} (T : Tx K mg) (D : FD K mg "is_moment" s_is_moment ["thing"] g fd) : FnOk P w K mg base CX0 2 g fd ["thing"] (spP q_is_moment) := by
  obtain ⟨g_is_whole, fd_is_whole, D_is_whole⟩ := T.d_is_whole
  have G_is_whole := ok_is_whole (P := P) (w := w) (base := base) T D_is_whole
  obtain ⟨t_LAST_MOMENT, g_LAST_MOMENT⟩ := T.c_LAST_MOMENT
  refine fn_pure D.fn sc_is_moment ?len m_is_moment (fun cdv A outer s H E F hr =>
      (dss_one (ds_ret (de_call G_is_whole m_is_whole (hr.mono (by decide)) rfl D_is_whole.mgf D_is_whole.fn.kp D_is_whole.b (da_cons (de_var 0 (pv 0)) (da_cons de_int (da_cons (de_gint rfl g_LAST_MOMENT) da_nil))))))) ?rd
  case len => rintro ds Q ⟨i, rfl, _⟩; rfl
  case rd =>
    rintro ds Q ⟨i, rfl, q⟩
    simp only [dCmp_ap, sFor_ap, and_assoc, at0, at1, at2, startD, sOwn, sCnt, sApp, sRet, sSeq, sSet, sIf, sNext, sNever, sDrop, sAug, dAnd, dOr, dIsI, dV, dNot, dNeg, dC, dChain, dOp, dIf, dTup, dLst, dCons, dNil, dCB, dTst, bNot, bAnd, bOr, bYes, gN, gTp, gCs, gNl, fI, fEq, fIs, fIsNot, fIxT, fIxL, fCatL, dTail, dLZ, dLR, fLen, fMax, fInt, fDivmod, fTuple, fAll, iL, iT, iR1, iE, iZ, dLenS, dIxS, dEqS, dScr, dDraw, dLenT, capC, liftD, List.map_cons, List.map_nil, List.map, List.length_cons, List.length_nil, List.cons_append, List.nil_append, List.append_nil, List.replicate, Nat.zero_add, Nat.add_sub_cancel, Nat.sub_self, Nat.reduceAdd, Nat.reduceSub, List.getElem?_cons_zero, List.getElem?_cons_succ, List.getElem?_nil, List.set_cons_zero, List.set_cons_succ, Option.some.injEq, Option.some_ne_none, Cell.dat.injEq, Cell.scr.injEq, Cell.cnt.injEq, Cell.own.injEq, reduceCtorEq, PyData.int.injEq, PyData.bool.injEq, PyData.str.injEq, PyData.list.injEq, PyData.tuple.injEq, List.cons.injEq, exists_eq_left', exists_eq_left, exists_and_left, exists_eq', exists_false, and_true, true_and, and_false, false_and, or_false, false_or, and_self, exists_const, exists_eq_right, exists_eq, if_true, if_false, Bool.false_eq_true, Bool.true_eq_false, List.length, reduceIte]
    exact ⟨i, _, _, rfl, q⟩

theorem get_shift {ss : Sh} {i : Nat} {d : PyData} (e : (ss.map shD)[i]? = some d) : ∃ b c, d = .tuple [.int b, .int c] ∧ ss.drop i = (b, c) :: ss.drop (i + 1) ∧ (b, c) ∈ ss := by
  rw [List.getElem?_map] at e
  obtain ⟨⟨b, c⟩, h1, h2⟩ := Option.map_eq_some_iff.mp e
  obtain ⟨hlt, h3⟩ := List.getElem?_eq_some_iff.mp h1
  exact ⟨b, c, h2.symm, by rw [List.drop_eq_getElem_cons hlt, h3], List.mem_of_getElem? h1⟩
def q_are_shifts : DN := fun ds Q => ∃ ss : Sh, ds = [.tuple (ss.map shD)] ∧ (ss.length ≤ 6 ∧ Rising 0 ss ∧ ∀ p ∈ ss, p.1 ≤ 9999 ∧ -12 ≤ p.2 ∧ p.2 ≤ 14) ∧ Q (.bool true)
theorem m_are_shifts : MnN q_are_shifts := fun _ _ _ k ⟨a, e, h, q⟩ => ⟨a, e, h, k _ q⟩
theorem ok_are_shifts {g : Addr} {fd : FuncData} (T : Tx K mg) (D : FD K mg "are_shifts" s_are_shifts ["thing"] g fd) : FnOk P w K mg base CX0 3 g fd ["thing"] (spP q_are_shifts) := by
  obtain ⟨g_is_whole, fd_is_whole, D_is_whole⟩ := T.d_is_whole
  have G_is_whole := ok_is_whole (P := P) (w := w) (base := base) T D_is_whole
  obtain ⟨g_is_tuple_of, fd_is_tuple_of, D_is_tuple_of⟩ := T.d_is_tuple_of
  have G_is_tuple_of := ok_is_tuple_of (P := P) (w := w) (base := base) T D_is_tuple_of
  obtain ⟨g_is_ahead, fd_is_ahead, D_is_ahead⟩ := T.d_is_ahead
  have G_is_ahead := ok_is_ahead (P := P) (w := w) (base := base) T D_is_ahead
  obtain ⟨t_LAST_MOMENT, g_LAST_MOMENT⟩ := T.c_LAST_MOMENT
  obtain ⟨t_MOST_SHIFTS, g_MOST_SHIFTS⟩ := T.c_MOST_SHIFTS
  refine fn_pure D.fn sc_are_shifts ?len m_are_shifts (fun cdv A outer s H E F hr =>
      (dss_cons (ds_if (DW.db (dw_or (db_not (db_val (de_isinst rfl T.b_isinstance (de_var 0 (pv 0)) (pe_bltn rfl T.b_tuple bt_tuple rfl)))) (dw_or1 (db_gt (de_callB call_len_seq n_len rfl T.b_len PySem.boot_len (da_cons (de_var 0 (pv 0)) da_nil)) (de_gint rfl g_MOST_SHIFTS))))) (dss_one (ds_ret de_bl)) dss_nil)
        (dss_cons (ds_set (i := 1) sc_are_shifts.nd rfl (by first | exact Or.inl rfl | exact Or.inr rfl) de_int)
        (dss_cons (ds_for PassesOwn.never rfl (di_tup (de_var 0 (pv 0))) (dg_name (pg_name (i := 2) sc_are_shifts.nd rfl (by first | exact Or.inl rfl | exact Or.inr rfl))) (dss_cons (ds_if (DW.db (dw_or (db_not (db_val (de_call G_is_tuple_of m_is_tuple_of (hr.mono (by decide)) rfl D_is_tuple_of.mgf D_is_tuple_of.fn.kp D_is_tuple_of.b (da_cons (de_var 2 (pv 2)) (da_cons de_int da_nil))))) (dw_or1 (db_not (db_val (de_call G_is_ahead m_is_ahead (hr.mono (by decide)) rfl D_is_ahead.mgf D_is_ahead.fn.kp D_is_ahead.b (da_cons (de_ixT (de_var 2 (pv 2)) de_int) da_nil))))))) (dss_one (ds_ret de_bl)) dss_nil)
        (dss_cons (ds_if (db_not (db_val (de_call G_is_whole m_is_whole (hr.mono (by decide)) rfl D_is_whole.mgf D_is_whole.fn.kp D_is_whole.b (da_cons (de_ixT (de_var 2 (pv 2)) de_int) (da_cons (de_var 1 (pv 1)) (da_cons (de_gint rfl g_LAST_MOMENT) da_nil)))))) (dss_one (ds_ret de_bl)) dss_nil)
        (dss_one (ds_set (i := 1) sc_are_shifts.nd rfl (by first | exact Or.inl rfl | exact Or.inr rfl) (de_add (de_ixT (de_var 2 (pv 2)) de_int) de_int))))))
        (dss_one (ds_ret de_bl)))))) ?rd
  case len => rintro ds Q ⟨ss, rfl, _⟩; rfl
  case rd =>
    rintro ds Q ⟨ss, rfl, ⟨h1, h2, h3⟩, q⟩
    simp only [dCmp_ap, sFor_ap, and_assoc, at0, at1, at2, startD, sOwn, sCnt, sApp, sRet, sSeq, sSet, sIf, sNext, sNever, sDrop, sAug, dAnd, dOr, dIsI, dV, dNot, dNeg, dC, dChain, dOp, dIf, dTup, dLst, dCons, dNil, dCB, dTst, bNot, bAnd, bOr, bYes, gN, gTp, gCs, gNl, fI, fEq, fIs, fIsNot, fIxT, fIxL, fCatL, dTail, dLZ, dLR, fLen, fMax, fInt, fDivmod, fTuple, fAll, iL, iT, iR1, iE, iZ, dLenS, dIxS, dEqS, dScr, dDraw, dLenT, capC, liftD, List.map_cons, List.map_nil, List.map, List.length_cons, List.length_nil, List.cons_append, List.nil_append, List.append_nil, List.replicate, Nat.zero_add, Nat.add_sub_cancel, Nat.sub_self, Nat.reduceAdd, Nat.reduceSub, List.getElem?_cons_zero, List.getElem?_cons_succ, List.getElem?_nil, List.set_cons_zero, List.set_cons_succ, Option.some.injEq, Option.some_ne_none, Cell.dat.injEq, Cell.scr.injEq, Cell.cnt.injEq, Cell.own.injEq, reduceCtorEq, PyData.int.injEq, PyData.bool.injEq, PyData.str.injEq, PyData.list.injEq, PyData.tuple.injEq, List.cons.injEq, exists_eq_left', exists_eq_left, exists_and_left, exists_eq', exists_false, and_true, true_and, and_false, false_and, or_false, false_or, and_self, exists_const, exists_eq_right, exists_eq, if_true, if_false, Bool.false_eq_true, Bool.true_eq_false, List.length, reduceIte]
    refine ⟨true, kit_same _, ifF (by simp) (ifF (by rw [List.length_map]; simp; omega) ?_)⟩
    refine ⟨fun i ρ => ∃ e sh, ρ = [some (.dat (.tuple (ss.map shD))), some (.dat (.int e)), sh] ∧ 1 ≤ e ∧ Rising (e - 1) (ss.drop i), ⟨1, none, rfl, by omega, by simpa using h2⟩, ?_, ?_⟩
    · rintro i d ρ hd ⟨e, sh, rfl, he, hr⟩
      obtain ⟨b, c, rfl, hdrop, hm⟩ := get_shift hd
      rw [hdrop] at hr
      obtain ⟨hr1, hr2⟩ := hr
      obtain ⟨t1, t2, t3⟩ := h3 _ hm
      simp only [q_is_whole, q_is_tuple_of, q_is_ahead, dCmp_ap, sFor_ap, and_assoc, at0, at1, at2, startD, sOwn, sCnt, sApp, sRet, sSeq, sSet, sIf, sNext, sNever, sDrop, sAug, dAnd, dOr, dIsI, dV, dNot, dNeg, dC, dChain, dOp, dIf, dTup, dLst, dCons, dNil, dCB, dTst, bNot, bAnd, bOr, bYes, gN, gTp, gCs, gNl, fI, fEq, fIs, fIsNot, fIxT, fIxL, fCatL, dTail, dLZ, dLR, fLen, fMax, fInt, fDivmod, fTuple, fAll, iL, iT, iR1, iE, iZ, dLenS, dIxS, dEqS, dScr, dDraw, dLenT, capC, liftD, List.map_cons, List.map_nil, List.map, List.length_cons, List.length_nil, List.cons_append, List.nil_append, List.append_nil, List.replicate, Nat.zero_add, Nat.add_sub_cancel, Nat.sub_self, Nat.reduceAdd, Nat.reduceSub, List.getElem?_cons_zero, List.getElem?_cons_succ, List.getElem?_nil, List.set_cons_zero, List.set_cons_succ, Option.some.injEq, Option.some_ne_none, Cell.dat.injEq, Cell.scr.injEq, Cell.cnt.injEq, Cell.own.injEq, reduceCtorEq, PyData.int.injEq, PyData.bool.injEq, PyData.str.injEq, PyData.list.injEq, PyData.tuple.injEq, List.cons.injEq, exists_eq_left', exists_eq_left, exists_and_left, exists_eq', exists_false, and_true, true_and, and_false, false_and, or_false, false_or, and_self, exists_const, exists_eq_right, exists_eq, if_true, if_false, Bool.false_eq_true, Bool.true_eq_false, List.length, reduceIte]
      refine ifF (by simp) (ifF (by simp; omega) (ifF (by simp; omega) ?_))
      exact ⟨by omega, by rw [show b + 1 - 1 = b by omega]; exact hr2⟩
    · rintro ρ ⟨e, sh, rfl, _⟩
      exact q

end
end K3

open L2.L3
local macro_rules | `(tactic| walk_at "ev1") => `(tactic| first
  | with_reducible refine ev_seq ?_
  | ((with_reducible apply ev_dat); exact rfl)
  | with_reducible refine ev_op ?_
  | with_reducible refine ev_c ?_
  | with_reducible refine ev_fT ?_
  | with_reducible refine ev_isB ?_
  | with_reducible refine ev_tst ?_
  | with_reducible refine ev_cons ?_
  | with_reducible refine ev_nil ?_
  | with_reducible refine ev_set ?_
  | with_reducible refine ev_gN ?_
  | with_reducible refine ev_cb ?_
  | with_reducible refine ev_if ?_
  | with_reducible refine ev_next ?_
  | with_reducible refine ev_ret ?_
  | with_reducible refine ev_drop ?_
  | with_reducible refine ev_ownS ?_
  | with_reducible refine ev_cntS ?_
  | ((with_reducible apply ev_appS); exact rfl; exact rfl)
  | ((with_reducible apply ev_app2); exact rfl)
  | ((with_reducible apply ev_app2c); exact rfl)
  | ((with_reducible apply ev_aug); exact rfl)
  | with_reducible refine ev_aug2 ?_
  | ((with_reducible apply ev_own); exact rfl)
  | with_reducible refine ev_tup ?_
  | with_reducible refine ev_lst ?_
  | with_reducible refine ev_isI ?_
  | with_reducible refine ev_isL ?_
  | with_reducible refine ev_isT ?_
  | with_reducible refine ev_neg ?_
  | with_reducible refine ev_not ?_
  | with_reducible refine ev_and ?_
  | with_reducible refine ev_or ?_
  | with_reducible refine ev_ifE ?_
  | with_reducible refine ev_bnot ?_
  | with_reducible refine ev_band ?_
  | with_reducible refine ev_bor ?_
  | with_reducible refine ev_byes ?_
  | with_reducible refine ev_fI ?_
  | with_reducible refine ev_fEq ?_
  | with_reducible refine ev_fIs ?_
  | with_reducible refine ev_fIsNot ?_
  | (with_reducible refine ev_ixT0 (at0 _ _) ?_)
  | (with_reducible refine ev_ixT0 (at1 _ _ _) ?_)
  | (with_reducible refine ev_ixT0 (at2 _ _ _ _) ?_)
  | with_reducible refine ev_ixT ?_
  | with_reducible refine ev_ixL ?_
  | with_reducible refine ev_catL ?_
  | with_reducible refine ev_lenL ?_
  | with_reducible refine ev_lenT ?_
  | with_reducible refine ev_max ?_
  | with_reducible refine ev_intB ?_
  | with_reducible refine ev_intI ?_
  | with_reducible refine ev_divmod ?_
  | with_reducible refine ev_tupL ?_
  | with_reducible refine ev_tupT ?_
  | ((with_reducible apply ev_gT); exact rfl)
  | with_reducible refine ev_gC ?_
  | with_reducible refine ev_g0 ?_
  | with_reducible refine ev_for ?_
  | with_reducible refine ev_cmp ?_
  | with_reducible refine ev_iL ?_
  | with_reducible refine ev_iT ?_
  | with_reducible refine ev_iR ?_
  | with_reducible refine ev_rgn ?_
  | with_reducible refine ev_iE ?_
  | with_reducible refine ev_enm ?_
  | with_reducible refine ev_iZ ?_
  | with_reducible refine ev_zpp ?_
  | with_reducible refine ev_LR ?_
  | with_reducible refine ev_lrg ?_
  | with_reducible refine ev_tail ?_
  | ((with_reducible apply ev_draw); exact rfl; exact rfl)
  | ((with_reducible apply ev_drw); exact rfl)
  | with_reducible refine ev_lz3 ?_
  | with_reducible refine ev_LZ ?_
  | with_reducible refine ev_chn ?_
  | with_reducible refine ev_chain ?_
  | ((with_reducible apply ev_lenS); exact rfl)
  | with_reducible refine ev_ixs ?_
  | ((with_reducible apply ev_ixS); exact rfl)
  | ((with_reducible apply ev_eqS); exact rfl)
  | ((with_reducible apply ev_scr); exact rfl)
  | ((with_reducible apply ev_lenTn); exact rfl)
  | with_reducible refine ev_catT ?_
  | with_reducible refine ev_lr3 ?_
  | with_reducible refine ev_LR3 ?_
  | with_reducible refine ev_evens ?_
  | with_reducible refine ev_rep ?_
  | with_reducible refine ev_par ?_
  | with_reducible refine ev_par2 ?_
  | with_reducible refine ev_brk ?_
  | with_reducible refine ev_cont ?_
  | with_reducible refine ev_ite1 ?_
  | with_reducible refine ev_ite0 ?_)
namespace K3
open PySem PySem.Spec L2 L2.L3 Due
section
variable {P : Program} {w : World} {K : PySem.W.Frag} {mg : Str → Option Value} {base : Heap}
def q_is_zone : DN := fun ds Q => ∃ a ss, ds = [zoneD a ss] ∧ ZOk a ss ∧ Q (.bool true)
theorem m_is_zone : MnN q_is_zone := fun _ _ _ k ⟨a, ss, e, h, q⟩ => ⟨a, ss, e, h, k _ q⟩
theorem ok_is_zone {g : Addr} {fd : FuncData} (T : Tx K mg) (D : FD K mg "is_zone" s_is_zone ["thing"] g fd) : FnOk P w K mg base CX0 4 g fd ["thing"] (spP q_is_zone) := by
  obtain ⟨g_is_tuple_of, fd_is_tuple_of, D_is_tuple_of⟩ := T.d_is_tuple_of
  have G_is_tuple_of := ok_is_tuple_of (P := P) (w := w) (base := base) T D_is_tuple_of
  obtain ⟨g_is_ahead, fd_is_ahead, D_is_ahead⟩ := T.d_is_ahead
  have G_is_ahead := ok_is_ahead (P := P) (w := w) (base := base) T D_is_ahead
  obtain ⟨g_are_shifts, fd_are_shifts, D_are_shifts⟩ := T.d_are_shifts
  have G_are_shifts := ok_are_shifts (P := P) (w := w) (base := base) T D_are_shifts
  refine fn_pure D.fn sc_is_zone ?len m_is_zone (fun cdv A outer s H E F hr =>
      (dss_one (ds_ret (de_and (de_call G_is_tuple_of m_is_tuple_of (hr.mono (by decide)) rfl D_is_tuple_of.mgf D_is_tuple_of.fn.kp D_is_tuple_of.b (da_cons (de_var 0 (pv 0)) (da_cons de_int da_nil))) (de_and (de_call G_is_ahead m_is_ahead (hr.mono (by decide)) rfl D_is_ahead.mgf D_is_ahead.fn.kp D_is_ahead.b (da_cons (de_ixT (de_var 0 (pv 0)) de_int) da_nil)) (de_one (de_call G_are_shifts m_are_shifts (hr.mono (by decide)) rfl D_are_shifts.mgf D_are_shifts.fn.kp D_are_shifts.b (da_cons (de_ixT (de_var 0 (pv 0)) de_int) da_nil)))))))) ?rd
  case len => rintro ds Q ⟨a, ss, rfl, h, _⟩; rfl
  case rd =>
    rintro ds Q ⟨a, ss, rfl, h, q⟩
    obtain ⟨z1, z2, z3, z4⟩ := h
    have z31 := z3.1
    show (_ : DTS) _ [some (.dat (zoneD a ss))]
    repeat walk_at "ev1"
    refine ⟨_, _, rfl, ?_⟩
    repeat walk_at "ev1"
    refine ifT (by simp) ?_
    repeat walk_at "ev1"
    refine ⟨a, rfl, ?_⟩
    repeat walk_at "ev1"
    refine ifT (by simp; omega) ?_
    repeat walk_at "ev1"
    exact ⟨ss, rfl, ⟨z1, z2, fun p hp => ⟨z4 p hp, z3.2 p hp⟩⟩, q⟩

def q_has_word : DN := fun ds Q => ∃ w rest w' n, ds = [.tuple (.str w :: rest), .str w', .int n] ∧ (PyData.strOk w = true ∧ PyData.strOk w' = true) ∧ Q (.bool (decide ((rest.length : Int) + 1 = n) && (w == w')))
theorem m_has_word : MnN q_has_word := fun _ _ _ k ⟨wd, rest, wd', n, e, h, q⟩ => ⟨wd, rest, wd', n, e, h, k _ q⟩
theorem ok_has_word {g : Addr} {fd : FuncData} (T : Tx K mg) (D : FD K mg "has_word" s_has_word ["thing", "word", "length"] g fd) : FnOk P w K mg base CX0 2 g fd ["thing", "word", "length"] (spP q_has_word) := by
  obtain ⟨g_is_tuple_of, fd_is_tuple_of, D_is_tuple_of⟩ := T.d_is_tuple_of
  have G_is_tuple_of := ok_is_tuple_of (P := P) (w := w) (base := base) T D_is_tuple_of
  refine fn_pure D.fn sc_has_word ?len m_has_word (fun cdv A outer s H E F hr =>
      (dss_one (ds_ret (de_and (de_call G_is_tuple_of m_is_tuple_of (hr.mono (by decide)) rfl D_is_tuple_of.mgf D_is_tuple_of.fn.kp D_is_tuple_of.b (da_cons (de_var 0 (pv 0)) (da_cons (de_var 2 (pv 2)) da_nil))) (de_and (de_isinst rfl T.b_isinstance (de_ixT (de_var 0 (pv 0)) de_int) (pe_bltn rfl T.b_str bt_str rfl)) (de_one (de_eq hr.units (de_ixT (de_var 0 (pv 0)) de_int) (de_var 1 (pv 1))))))))) ?rd
  case len => rintro ds Q ⟨wd, rest, wd', n, rfl, h, _⟩; rfl
  case rd =>
    rintro ds Q ⟨wd, rest, wd', n, rfl, h, q⟩
    simp only [q_is_whole, q_is_tuple_of, q_is_ahead, q_is_moment, dCmp_ap, sFor_ap, and_assoc, at0, at1, at2, startD, sOwn, sCnt, sApp, sRet, sSeq, sSet, sIf, sNext, sNever, sDrop, sAug, dAnd, dOr, dIsI, dV, dNot, dNeg, dC, dChain, dOp, dIf, dTup, dLst, dCons, dNil, dCB, dTst, bNot, bAnd, bOr, bYes, gN, gTp, gCs, gNl, fI, fEq, fIs, fIsNot, fIxT, fIxL, fCatL, dTail, dLZ, dLR, fLen, fMax, fInt, fDivmod, fTuple, fAll, iL, iT, iR1, iE, iZ, dLenS, dIxS, dEqS, dScr, dDraw, dLenT, capC, liftD, List.map_cons, List.map_nil, List.map, List.length_cons, List.length_nil, List.cons_append, List.nil_append, List.append_nil, List.replicate, Nat.zero_add, Nat.add_sub_cancel, Nat.sub_self, Nat.reduceAdd, Nat.reduceSub, List.getElem?_cons_zero, List.getElem?_cons_succ, List.getElem?_nil, List.set_cons_zero, List.set_cons_succ, Option.some.injEq, Option.some_ne_none, Cell.dat.injEq, Cell.scr.injEq, Cell.cnt.injEq, Cell.own.injEq, reduceCtorEq, PyData.int.injEq, PyData.bool.injEq, PyData.str.injEq, PyData.list.injEq, PyData.tuple.injEq, List.cons.injEq, exists_eq_left', exists_eq_left, exists_and_left, exists_eq', exists_false, and_true, true_and, and_false, false_and, or_false, false_or, and_self, exists_const, exists_eq_right, exists_eq, if_true, if_false, Bool.false_eq_true, Bool.true_eq_false, List.length, reduceIte]
    by_cases e : (rest.length : Int) + 1 = n
    · rw [decide_eq_true e, Bool.true_and] at q
      refine ifT (by simpa using e) ⟨true, kit_same _, iteT ⟨?_, ?_, ?_⟩⟩
      · unfold SeqAt.shaped; simp [PyData.canLay0, PyData.depth, h.1]
      · unfold SeqAt.shaped; simp [PyData.canLay0, PyData.depth, h.2]
      · rw [eqv_str, Bool.bne_false]; exact q
    · rw [decide_eq_false e, Bool.false_and] at q
      exact ifF (by simpa using e) q

def q_is_plan : DN := fun ds Q => ∃ p, ds = [planD p] ∧ PlanOk p ∧ Q (.bool true)
theorem m_is_plan : MnN q_is_plan := fun _ _ _ k ⟨p, e, h, q⟩ => ⟨p, e, h, k _ q⟩
theorem ok_is_plan {g : Addr} {fd : FuncData} (T : Tx K mg) (D : FD K mg "is_plan" s_is_plan ["thing"] g fd) : FnOk P w K mg base CX0 3 g fd ["thing"] (spP q_is_plan) := by
  obtain ⟨g_has_word, fd_has_word, D_has_word⟩ := T.d_has_word
  have G_has_word := ok_has_word (P := P) (w := w) (base := base) T D_has_word
  obtain ⟨g_is_moment, fd_is_moment, D_is_moment⟩ := T.d_is_moment
  have G_is_moment := ok_is_moment (P := P) (w := w) (base := base) T D_is_moment
  obtain ⟨g_is_whole, fd_is_whole, D_is_whole⟩ := T.d_is_whole
  have G_is_whole := ok_is_whole (P := P) (w := w) (base := base) T D_is_whole
  obtain ⟨t_LAST_HOUR, g_LAST_HOUR⟩ := T.c_LAST_HOUR
  obtain ⟨t_MOST_STEP, g_MOST_STEP⟩ := T.c_MOST_STEP
  refine fn_pure D.fn sc_is_plan ?len m_is_plan (fun cdv A outer s H E F hr =>
      (dss_cons (ds_if (db_val (de_call G_has_word m_has_word (hr.mono (by decide)) rfl D_has_word.mgf D_has_word.fn.kp D_has_word.b (da_cons (de_var 0 (pv 0)) (da_cons de_str (da_cons de_int da_nil))))) (dss_one (ds_ret (de_call G_is_moment m_is_moment (hr.mono (by decide)) rfl D_is_moment.mgf D_is_moment.fn.kp D_is_moment.b (da_cons (de_ixT (de_var 0 (pv 0)) de_int) da_nil)))) dss_nil)
        (dss_cons (ds_if (db_val (de_call G_has_word m_has_word (hr.mono (by decide)) rfl D_has_word.mgf D_has_word.fn.kp D_has_word.b (da_cons (de_var 0 (pv 0)) (da_cons de_str (da_cons de_int da_nil))))) (dss_one (ds_ret (de_and (de_call G_is_moment m_is_moment (hr.mono (by decide)) rfl D_is_moment.mgf D_is_moment.fn.kp D_is_moment.b (da_cons (de_ixT (de_var 0 (pv 0)) de_int) da_nil)) (de_one (de_call G_is_whole m_is_whole (hr.mono (by decide)) rfl D_is_whole.mgf D_is_whole.fn.kp D_is_whole.b (da_cons (de_ixT (de_var 0 (pv 0)) de_int) (da_cons de_int (da_cons (de_gint rfl g_MOST_STEP) da_nil)))))))) dss_nil)
        (dss_one (ds_ret (de_and (de_call G_has_word m_has_word (hr.mono (by decide)) rfl D_has_word.mgf D_has_word.fn.kp D_has_word.b (da_cons (de_var 0 (pv 0)) (da_cons de_str (da_cons de_int da_nil)))) (de_one (de_call G_is_whole m_is_whole (hr.mono (by decide)) rfl D_is_whole.mgf D_is_whole.fn.kp D_is_whole.b (da_cons (de_ixT (de_var 0 (pv 0)) de_int) (da_cons de_int (da_cons (de_gint rfl g_LAST_HOUR) da_nil))))))))))) ?rd
  case len => rintro ds Q ⟨p, rfl, h, _⟩; rfl
  case rd =>
    rintro ds Q ⟨p, rfl, h, q⟩
    have s1 : PyData.strOk (Str.ofString "once") = true := by decide +kernel
    have s2 : PyData.strOk (Str.ofString "every") = true := by decide +kernel
    have s3 : PyData.strOk (Str.ofString "daily") = true := by decide +kernel
    cases p with
    | once m =>
      obtain ⟨h1, h2⟩ := h
      show (_ : DTS) _ [some (.dat (planD (.once m)))]
      repeat walk_at "ev1"
      refine ⟨_, _, _, _, rfl, ⟨s1, s1⟩, ?_⟩
      repeat walk_at "ev1"
      refine ifT (by show (decide ((((1 : Nat) : Int)) + 1 = 2) && (Str.ofString "once" == Str.ofString "once")) = true; decide +kernel) ?_
      repeat walk_at "ev1"
      refine ⟨m, rfl, ?_⟩
      rw [show (decide (0 ≤ m) && decide (m ≤ 9999)) = true by simp; omega]
      exact q
    | every f s =>
      obtain ⟨⟨h1, h2⟩, h3, h4⟩ := h
      show (_ : DTS) _ [some (.dat (planD (.every f s)))]
      repeat walk_at "ev1"
      refine ⟨_, _, _, _, rfl, ⟨s2, s1⟩, ?_⟩
      repeat walk_at "ev1"
      refine ifF (by show ¬ (decide ((((2 : Nat) : Int)) + 1 = 2) && (Str.ofString "every" == Str.ofString "once")) = true; decide +kernel) ?_
      repeat walk_at "ev1"
      refine ⟨_, _, _, _, rfl, ⟨s2, s2⟩, ?_⟩
      repeat walk_at "ev1"
      refine ifT (by show (decide ((((2 : Nat) : Int)) + 1 = 3) && (Str.ofString "every" == Str.ofString "every")) = true; decide +kernel) ?_
      repeat walk_at "ev1"
      refine ⟨f, rfl, ?_⟩
      repeat walk_at "ev1"
      refine ifT (by simp; omega) ?_
      repeat walk_at "ev1"
      refine ⟨s, _, _, rfl, ?_⟩
      rw [show (decide (1 ≤ s) && decide (s ≤ 999)) = true by simp; omega]
      exact q
    | daily hh =>
      obtain ⟨h1, h2⟩ := h
      show (_ : DTS) _ [some (.dat (planD (.daily hh)))]
      repeat walk_at "ev1"
      refine ⟨_, _, _, _, rfl, ⟨s3, s1⟩, ?_⟩
      repeat walk_at "ev1"
      refine ifF (by show ¬ (decide ((((1 : Nat) : Int)) + 1 = 2) && (Str.ofString "daily" == Str.ofString "once")) = true; decide +kernel) ?_
      repeat walk_at "ev1"
      refine ⟨_, _, _, _, rfl, ⟨s3, s2⟩, ?_⟩
      repeat walk_at "ev1"
      refine ifF (by show ¬ (decide ((((1 : Nat) : Int)) + 1 = 3) && (Str.ofString "daily" == Str.ofString "every")) = true; decide +kernel) ?_
      repeat walk_at "ev1"
      refine ⟨_, _, _, _, rfl, ⟨s3, s3⟩, ?_⟩
      repeat walk_at "ev1"
      refine ifT (by show (decide ((((1 : Nat) : Int)) + 1 = 2) && (Str.ofString "daily" == Str.ofString "daily")) = true; decide +kernel) ?_
      repeat walk_at "ev1"
      refine ⟨hh, _, _, rfl, ?_⟩
      rw [show (decide (0 ≤ hh) && decide (hh ≤ 23)) = true by simp; omega]
      exact q

def q_check_zone : DN := fun ds Q => ∃ a ss, ds = [zoneD a ss] ∧ ZOk a ss ∧ Q .none
theorem m_check_zone : MnN q_check_zone := fun _ _ _ k ⟨a, ss, e, h, q⟩ => ⟨a, ss, e, h, k _ q⟩
theorem ok_check_zone {g : Addr} {fd : FuncData} (T : Tx K mg) (D : FD K mg "check_zone" s_check_zone ["thing"] g fd) : FnOk P w K mg base CX0 5 g fd ["thing"] (spP q_check_zone) := by
  obtain ⟨g_is_zone, fd_is_zone, D_is_zone⟩ := T.d_is_zone
  have G_is_zone := ok_is_zone (P := P) (w := w) (base := base) T D_is_zone
  refine fn_pure D.fn sc_check_zone ?len m_check_zone (fun cdv A outer s H E F hr =>
      (dss_one (ds_if (db_not (db_val (de_call G_is_zone m_is_zone (hr.mono (by decide)) rfl D_is_zone.mgf D_is_zone.fn.kp D_is_zone.b (da_cons (de_var 0 (pv 0)) da_nil)))) dss_never dss_nil))) ?rd
  case len => rintro ds Q ⟨a, ss, rfl, h, _⟩; rfl
  case rd =>
    rintro ds Q ⟨a, ss, rfl, h, q⟩
    show (_ : DTS) _ [some (.dat (zoneD a ss))]
    repeat walk_at "ev1"
    refine ⟨a, ss, rfl, h, ?_⟩
    repeat walk_at "ev1"
    refine ifF (by simp) ?_
    repeat walk_at "ev1"
    exact q

def q_check_plan : DN := fun ds Q => ∃ p, ds = [planD p] ∧ PlanOk p ∧ Q .none
theorem m_check_plan : MnN q_check_plan := fun _ _ _ k ⟨p, e, h, q⟩ => ⟨p, e, h, k _ q⟩
theorem ok_check_plan {g : Addr} {fd : FuncData} (T : Tx K mg) (D : FD K mg "check_plan" s_check_plan ["thing"] g fd) : FnOk P w K mg base CX0 4 g fd ["thing"] (spP q_check_plan) := by
  obtain ⟨g_is_plan, fd_is_plan, D_is_plan⟩ := T.d_is_plan
  have G_is_plan := ok_is_plan (P := P) (w := w) (base := base) T D_is_plan
  refine fn_pure D.fn sc_check_plan ?len m_check_plan (fun cdv A outer s H E F hr =>
      (dss_one (ds_if (db_not (db_val (de_call G_is_plan m_is_plan (hr.mono (by decide)) rfl D_is_plan.mgf D_is_plan.fn.kp D_is_plan.b (da_cons (de_var 0 (pv 0)) da_nil)))) dss_never dss_nil))) ?rd
  case len => rintro ds Q ⟨p, rfl, h, _⟩; rfl
  case rd =>
    rintro ds Q ⟨p, rfl, h, q⟩
    show (_ : DTS) _ [some (.dat (planD p))]
    repeat walk_at "ev1"
    refine ⟨p, rfl, h, ?_⟩
    repeat walk_at "ev1"
    refine ifF (by simp) ?_
    repeat walk_at "ev1"
    exact q

def q_shown : DN := fun ds Q => ∃ a ss m, ds = [zoneD a ss, .int m] ∧ Q (.int (shownM a ss m))
theorem m_shown : MnN q_shown := fun _ _ _ k ⟨a, ss, m, e, q⟩ => ⟨a, ss, m, e, k _ q⟩
theorem ok_shown {g : Addr} {fd : FuncData} (T : Tx K mg) (D : FD K mg "shown" s_shown ["zone", "moment"] g fd) : FnOk P w K mg base CX0 1 g fd ["zone", "moment"] (spP q_shown) := by
  refine fn_pure D.fn sc_shown ?len m_shown (fun cdv A outer s H E F hr =>
      (dss_cons (ds_set (i := 2) sc_shown.nd rfl (by first | exact Or.inl rfl | exact Or.inr rfl) (de_ixT (de_var 0 (pv 0)) de_int))
        (dss_cons (ds_for PassesOwn.never rfl (di_tup (de_ixT (de_var 0 (pv 0)) de_int)) (dg_name (pg_name (i := 3) sc_shown.nd rfl (by first | exact Or.inl rfl | exact Or.inr rfl))) (dss_one (ds_if (db_le (de_ixT (de_var 3 (pv 3)) de_int) (de_var 1 (pv 1))) (dss_one (ds_set (i := 2) sc_shown.nd rfl (by first | exact Or.inl rfl | exact Or.inr rfl) (de_ixT (de_var 3 (pv 3)) de_int))) dss_nil)))
        (dss_one (ds_ret (de_add (de_var 1 (pv 1)) (de_var 2 (pv 2)))))))) ?rd
  case len => rintro ds Q ⟨a, ss, m, rfl, _⟩; rfl
  case rd =>
    rintro ds Q ⟨a, ss, m, rfl, q⟩
    show (_ : DTS) _ [some (.dat (zoneD a ss)), some (.dat (.int m)), none, none]
    repeat walk_at "ev1"
    refine ⟨fun i ρ => ∃ x sh, ρ = [some (.dat (zoneD a ss)), some (.dat (.int m)), some (.dat (.int x)), sh] ∧ aheadAt x (ss.drop i) m = aheadAt a ss m, ⟨a, none, rfl, rfl⟩, ?_, ?_⟩
    · rintro i d ρ hd ⟨x, sh, rfl, hx⟩
      obtain ⟨b, c, rfl, hdrop, hm⟩ := get_shift hd
      rw [hdrop, aheadAt] at hx
      repeat walk_at "ev1"
      by_cases hb : b ≤ m
      · rw [if_pos hb] at hx
        refine ifT (decide_eq_true hb) ?_
        repeat walk_at "ev1"
        exact ⟨_, _, rfl, hx⟩
      · rw [if_neg hb] at hx
        refine ifF (by simpa using hb) ?_
        repeat walk_at "ev1"
        exact ⟨_, _, rfl, hx⟩
    · rintro ρ ⟨x, sh, rfl, hx⟩
      rw [List.length_map, List.drop_length, aheadAt] at hx
      repeat walk_at "ev1"
      subst hx
      exact q

end
end K3

namespace K3
open PySem PySem.Spec L2 L2.L3 Due
section
variable {P : Program} {w : World} {K : PySem.W.Frag} {mg : Str → Option Value} {base : Heap}
abbrev optD : Option Int → PyData
  | none => .none
  | some e => .int e
abbrev stD (p : Int × Option Int × Int) : PyData := .tuple [.int p.1, optD p.2.1, .int p.2.2]
theorem line_ge {n : Nat} (h : n ≤ 1000) : n ≤ sizeLine := Nat.le_trans h (by decide)
theorem stret_len : ∀ (ss : Sh) (s a : Int), (stret s a ss).length = ss.length + 1
  | [], _, _ => rfl
  | (b, c) :: r, s, a => by rw [stret, List.length_cons, stret_len r b c, List.length_cons]
theorem stret_zip : ∀ (ss : Sh) (s a : Int), zip3D (.int s :: ss.map fun p => .int p.1) ((ss.map fun p => PyData.int p.1) ++ [.none]) (.int a :: ss.map fun p => .int p.2) = (stret s a ss).map stD
  | [], s, a => rfl
  | (b, c) :: r, s, a => by
    have ih := stret_zip r b c
    unfold zip3D at ih ⊢
    rw [List.map_cons, List.map_cons, List.cons_append, List.zip_cons_cons, List.zip_cons_cons, List.map_cons, ih]
    rfl
theorem fst_map {ss : Sh} : ((ss.map shD).filter fun _ => true).map (fun d => match d with | .tuple [.int b, _] => PyData.int b | d => d) = ss.map fun p => .int p.1 := by
  rw [List.filter_eq_self.mpr (fun _ _ => rfl), List.map_map]; rfl
theorem snd_map {ss : Sh} : ((ss.map shD).filter fun _ => true).map (fun d => match d with | .tuple [_, .int b] => PyData.int b | d => d) = ss.map fun p => .int p.2 := by
  rw [List.filter_eq_self.mpr (fun _ _ => rfl), List.map_map]; rfl
def q_stretches : DN := fun ds Q => ∃ a ss, ds = [zoneD a ss] ∧ ss.length ≤ 6 ∧ Q (.list ((stret 0 a ss).map stD))
theorem m_stretches : MnN q_stretches := fun _ _ _ k ⟨a, ss, e, h, q⟩ => ⟨a, ss, e, h, k _ q⟩
theorem ok_stretches {g : Addr} {fd : FuncData} (T : Tx K mg) (D : FD K mg "stretches" s_stretches ["zone"] g fd) : FnOk P w K mg base CX0 1 g fd ["zone"] (spP q_stretches) := by
  refine fn_pure D.fn sc_stretches ?len m_stretches (fun cdv A outer s H E F hr =>
      (dss_cons (ds_set (i := 1) sc_stretches.nd rfl (by first | exact Or.inl rfl | exact Or.inr rfl) (de_cat (de_lst (da_cons de_int da_nil)) (de_comp (CompScope.of (own := ["shift"]) (capN := []) (caps := [])) rfl (di_tup (de_ixT (de_var 0 (pv 0)) de_int)) (fun _ _ _ _ _ _ => ⟨(dg_name (pg_name (i := 0) (show ((["shift"] : List Str) ++ ([] : List Str)).Nodup from by decide +kernel) rfl (by first | exact Or.inl rfl | exact Or.inr rfl))), dbs_nil, (de_ixT (de_var 0 (pv 0)) de_int)⟩))))
        (dss_cons (ds_set (i := 2) sc_stretches.nd rfl (by first | exact Or.inl rfl | exact Or.inr rfl) (de_cat (de_tail (k := 1) (de_var 1 (pv 1))) (de_lst (da_cons de_non da_nil))))
        (dss_cons (ds_set (i := 3) sc_stretches.nd rfl (by first | exact Or.inl rfl | exact Or.inr rfl) (de_cat (de_lst (da_cons (de_ixT (de_var 0 (pv 0)) de_int) da_nil)) (de_comp (CompScope.of (own := ["shift"]) (capN := []) (caps := [])) rfl (di_tup (de_ixT (de_var 0 (pv 0)) de_int)) (fun _ _ _ _ _ _ => ⟨(dg_name (pg_name (i := 0) (show ((["shift"] : List Str) ++ ([] : List Str)).Nodup from by decide +kernel) rfl (by first | exact Or.inl rfl | exact Or.inr rfl))), dbs_nil, (de_ixT (de_var 0 (pv 0)) de_int)⟩))))
        (dss_one (ds_ret (de_listzip3 rfl rfl T.b_list rfl T.b_zip (da_cons (de_var 1 (pv 1)) (da_cons (de_var 2 (pv 2)) (da_cons (de_var 3 (pv 3)) da_nil)))))))))) ?rd
  case len => rintro ds Q ⟨a, ss, rfl, h, _⟩; rfl
  case rd =>
    rintro ds Q ⟨a, ss, rfl, h, q⟩
    show (_ : DTS) _ [some (.dat (zoneD a ss)), none, none, none]
    repeat walk_at "ev1"
    refine ⟨line_ge (n := 1) (by decide), ?_⟩
    repeat walk_at "ev1"
    refine cmpGo 1 rfl [] rfl (fun _ => true) (fun d => match d with | .tuple [.int b, _] => PyData.int b | d => d) (by rw [List.length_map]; omega) (fun d hd o ho Q' q' => ?_) ?_
    · obtain ⟨x, rfl⟩ := list1 ho
      obtain ⟨⟨b, c⟩, _, rfl⟩ := List.mem_map.mp hd
      repeat walk_at "ev1"
      exact q' [_] rfl
    rw [fst_map]
    repeat walk_at "ev1"
    refine ⟨by rw [List.length_map]; exact line_ge (by show 1 + ss.length ≤ 1000; omega), ?_⟩
    repeat walk_at "ev1"
    refine ⟨line_ge (n := 1) (by decide), ?_⟩
    repeat walk_at "ev1"
    refine ⟨by rw [List.length_drop, List.length_append, List.length_map]; exact line_ge (by show 1 + ss.length - 1 + 1 ≤ 1000; omega), ?_⟩
    repeat walk_at "ev1"
    refine ⟨line_ge (n := 1) (by decide), ?_⟩
    repeat walk_at "ev1"
    refine cmpGo 1 rfl [] rfl (fun _ => true) (fun d => match d with | .tuple [_, .int b] => PyData.int b | d => d) (by rw [List.length_map]; omega) (fun d hd o ho Q' q' => ?_) ?_
    · obtain ⟨x, rfl⟩ := list1 ho
      obtain ⟨⟨b, c⟩, _, rfl⟩ := List.mem_map.mp hd
      repeat walk_at "ev1"
      exact q' [_] rfl
    rw [snd_map]
    repeat walk_at "ev1"
    refine ⟨by rw [List.length_map]; exact line_ge (by show 1 + ss.length ≤ 1000; omega), ?_⟩
    repeat walk_at "ev1"
    refine ⟨⟨by simp, by simp, by simp⟩, ?_⟩
    have e : zip3D (PyData.int 0 :: ss.map fun p => .int p.1) ((ss.map fun p => PyData.int p.1) ++ [.none]) (PyData.int a :: ss.map fun p => .int p.2) = (stret 0 a ss).map stD := stret_zip ss 0 a
    rw [← e] at q
    exact q

def q_is_ahead_of : DN := fun ds Q => ∃ m e, ds = [.int m, optD e] ∧ Q (.bool (isAheadM m e))
theorem m_is_ahead_of : MnN q_is_ahead_of := fun _ _ _ k ⟨m, e, e1, q⟩ => ⟨m, e, e1, k _ q⟩
theorem ok_is_ahead_of {g : Addr} {fd : FuncData} (T : Tx K mg) (D : FD K mg "is_ahead_of" s_is_ahead_of ["moment", "end"] g fd) : FnOk P w K mg base CX0 1 g fd ["moment", "end"] (spP q_is_ahead_of) := by
  refine fn_pure D.fn sc_is_ahead_of ?len m_is_ahead_of (fun cdv A outer s H E F hr =>
      (dss_one (ds_ret (de_or (de_isN (de_var 1 (pv 1)) de_non) (de_one (de_lt (de_var 0 (pv 0)) (de_var 1 (pv 1)))))))) ?rd
  case len => rintro ds Q ⟨m, e, rfl, _⟩; rfl
  case rd =>
    rintro ds Q ⟨m, e, rfl, q⟩
    cases e with
    | none =>
      simp only [q_is_whole, q_is_tuple_of, q_is_ahead, q_is_moment, q_has_word, q_shown, q_stretches, dCmp_ap, sFor_ap, and_assoc, at0, at1, at2, startD, sOwn, sCnt, sApp, sRet, sSeq, sSet, sIf, sNext, sNever, sDrop, sAug, dAnd, dOr, dIsI, dV, dNot, dNeg, dC, dChain, dOp, dIf, dTup, dLst, dCons, dNil, dCB, dTst, bNot, bAnd, bOr, bYes, gN, gTp, gCs, gNl, fI, fEq, fIs, fIsNot, fIxT, fIxL, fCatL, dTail, dLZ, dLR, fLen, fMax, fInt, fDivmod, fTuple, fAll, iL, iT, iR1, iE, iZ, dLenS, dIxS, dEqS, dScr, dDraw, dLenT, capC, liftD, List.map_cons, List.map_nil, List.map, List.length_cons, List.length_nil, List.cons_append, List.nil_append, List.append_nil, List.replicate, Nat.zero_add, Nat.add_sub_cancel, Nat.sub_self, Nat.reduceAdd, Nat.reduceSub, List.getElem?_cons_zero, List.getElem?_cons_succ, List.getElem?_nil, List.set_cons_zero, List.set_cons_succ, Option.some.injEq, Option.some_ne_none, Cell.dat.injEq, Cell.scr.injEq, Cell.cnt.injEq, Cell.own.injEq, reduceCtorEq, PyData.int.injEq, PyData.bool.injEq, PyData.str.injEq, PyData.list.injEq, PyData.tuple.injEq, List.cons.injEq, exists_eq_left', exists_eq_left, exists_and_left, exists_eq', exists_false, and_true, true_and, and_false, false_and, or_false, false_or, and_self, exists_const, exists_eq_right, exists_eq, if_true, if_false, Bool.false_eq_true, Bool.true_eq_false, List.length, reduceIte]
      exact ifT rfl q
    | some e =>
      simp only [q_is_whole, q_is_tuple_of, q_is_ahead, q_is_moment, q_has_word, q_shown, q_stretches, dCmp_ap, sFor_ap, and_assoc, at0, at1, at2, startD, sOwn, sCnt, sApp, sRet, sSeq, sSet, sIf, sNext, sNever, sDrop, sAug, dAnd, dOr, dIsI, dV, dNot, dNeg, dC, dChain, dOp, dIf, dTup, dLst, dCons, dNil, dCB, dTst, bNot, bAnd, bOr, bYes, gN, gTp, gCs, gNl, fI, fEq, fIs, fIsNot, fIxT, fIxL, fCatL, dTail, dLZ, dLR, fLen, fMax, fInt, fDivmod, fTuple, fAll, iL, iT, iR1, iE, iZ, dLenS, dIxS, dEqS, dScr, dDraw, dLenT, capC, liftD, List.map_cons, List.map_nil, List.map, List.length_cons, List.length_nil, List.cons_append, List.nil_append, List.append_nil, List.replicate, Nat.zero_add, Nat.add_sub_cancel, Nat.sub_self, Nat.reduceAdd, Nat.reduceSub, List.getElem?_cons_zero, List.getElem?_cons_succ, List.getElem?_nil, List.set_cons_zero, List.set_cons_succ, Option.some.injEq, Option.some_ne_none, Cell.dat.injEq, Cell.scr.injEq, Cell.cnt.injEq, Cell.own.injEq, reduceCtorEq, PyData.int.injEq, PyData.bool.injEq, PyData.str.injEq, PyData.list.injEq, PyData.tuple.injEq, List.cons.injEq, exists_eq_left', exists_eq_left, exists_and_left, exists_eq', exists_false, and_true, true_and, and_false, false_and, or_false, false_or, and_self, exists_const, exists_eq_right, exists_eq, if_true, if_false, Bool.false_eq_true, Bool.true_eq_false, List.length, reduceIte]
      exact ifF (by simp [isNone]) q

theorem get_str {l : List (Int × Option Int × Int)} {i : Nat} {d : PyData} (e : (l.map stD)[i]? = some d) : ∃ s x c, d = .tuple [.int s, optD x, .int c] ∧ l.take (i + 1) = l.take i ++ [(s, x, c)] := by
  rw [List.getElem?_map] at e
  obtain ⟨⟨s, x, c⟩, h1, h2⟩ := Option.map_eq_some_iff.mp e
  exact ⟨s, x, c, h2.symm, by rw [List.take_add_one, h1]; rfl⟩
theorem fltr_len {g : Int} {a : Int} {ss : Sh} : (showingM g (stret 0 a ss)).length ≤ ss.length + 1 := by
  unfold showingM
  rw [List.length_map]
  exact Nat.le_trans (List.length_filter_le _ _) (by rw [stret_len]; omega)
theorem take_fltr_len {g : Int} {i : Nat} {a : Int} {ss : Sh} : (showingM g ((stret 0 a ss).take i)).length ≤ ss.length + 1 := by
  unfold showingM
  rw [List.length_map]
  refine Nat.le_trans (List.length_filter_le _ _) ?_
  rw [List.length_take, stret_len]; omega
theorem showing_app {g : Int} {l m : List (Int × Option Int × Int)} : showingM g (l ++ m) = showingM g l ++ showingM g m := by
  unfold showingM; rw [List.filter_append, List.map_append]
def q_first_showing : DN := fun ds Q => ∃ a ss g, ds = [zoneD a ss, .int g] ∧ ss.length ≤ 6 ∧ Q (.int (firstM g 0 a ss))
theorem m_first_showing : MnN q_first_showing := fun _ _ _ k ⟨a, ss, gg, e, h, q⟩ => ⟨a, ss, gg, e, h, k _ q⟩
theorem ok_first_showing {g : Addr} {fd : FuncData} (T : Tx K mg) (D : FD K mg "first_showing" s_first_showing ["zone", "hours"] g fd) : FnOk P w K mg base CX0 2 g fd ["zone", "hours"] (spP q_first_showing) := by
  obtain ⟨g_stretches, fd_stretches, D_stretches⟩ := T.d_stretches
  have G_stretches := ok_stretches (P := P) (w := w) (base := base) T D_stretches
  obtain ⟨g_is_ahead_of, fd_is_ahead_of, D_is_ahead_of⟩ := T.d_is_ahead_of
  have G_is_ahead_of := ok_is_ahead_of (P := P) (w := w) (base := base) T D_is_ahead_of
  refine fn_pure D.fn sc_first_showing ?len m_first_showing (fun cdv A outer s H E F hr =>
      (dss_cons (ds_setComp (i := 2) sc_first_showing.nd rfl (by first | exact Or.inl rfl | exact Or.inr rfl) (CompScope.of (own := ["start", "end", "ahead"]) (capN := ["hours"]) (caps := [1])) rfl (di_list (de_call G_stretches m_stretches (hr.mono (by decide)) rfl D_stretches.mgf D_stretches.fn.kp D_stretches.b (da_cons (de_var 0 (pv 0)) da_nil))) (fun _ _ _ _ _ _ => ⟨(dg_tup (n := 3) rfl (dgs_cons (dg_name (pg_name (i := 0) (show ((["start", "end", "ahead"] : List Str) ++ (["hours"] : List Str)).Nodup from by decide +kernel) rfl (by first | exact Or.inl rfl | exact Or.inr rfl))) (dgs_cons (dg_name (pg_name (i := 1) (show ((["start", "end", "ahead"] : List Str) ++ (["hours"] : List Str)).Nodup from by decide +kernel) rfl (by first | exact Or.inl rfl | exact Or.inr rfl))) (dgs_cons (dg_name (pg_name (i := 2) (show ((["start", "end", "ahead"] : List Str) ++ (["hours"] : List Str)).Nodup from by decide +kernel) rfl (by first | exact Or.inl rfl | exact Or.inr rfl))) dgs_nil)))), (dbs_one (db_val (de_call G_is_ahead_of m_is_ahead_of (hr.mono (by decide)) rfl D_is_ahead_of.mgf D_is_ahead_of.fn.kp D_is_ahead_of.b (da_cons (de_callB (call_max2 rfl) n_max rfl T.b_max bt_max (da_cons (de_var 0 (pv 0)) (da_cons (de_sub (de_var 3 (pv 3)) (de_var 2 (pv 2))) da_nil))) (da_cons (de_var 1 (pv 1)) da_nil))))), (de_callB (call_max2 rfl) n_max rfl T.b_max bt_max (da_cons (de_var 0 (pv 0)) (da_cons (de_sub (de_var 3 (pv 3)) (de_var 2 (pv 2))) da_nil)))⟩))
        (dss_one (ds_ret (de_ixL (de_var 2 (pv 2)) de_int))))) ?rd
  case len => rintro ds Q ⟨a, ss, gg, rfl, h, _⟩; rfl
  case rd =>
    rintro ds Q ⟨a, ss, gg, rfl, h, q⟩
    show (_ : DTS) _ [some (.dat (zoneD a ss)), some (.dat (.int gg)), none]
    repeat walk_at "ev1"
    refine ⟨a, ss, rfl, h, ?_⟩
    repeat walk_at "ev1"
    refine cmpGoM 3 rfl [some (.dat (.int gg))] rfl (fun p => isAheadM (max p.1 (gg - p.2.2)) p.2.1) (fun p => .int (max p.1 (gg - p.2.2))) (by rw [stret_len]; omega) (fun d hd o ho Q' q' => ?_) ?_
    · obtain ⟨x, y, z, rfl⟩ := list3 ho
      obtain ⟨s, x, c⟩ := d
      repeat walk_at "ev1"
      refine ⟨_, x, rfl, ?_⟩
      repeat walk_at "ev1"
      have q2 := q' [some (.dat (.int s)), some (.dat (optD x)), some (.dat (.int c))] rfl
      by_cases e2 : isAheadM (max s (gg - c)) x = true
      · rw [if_pos e2] at q2
        refine ifT e2 ?_
        repeat walk_at "ev1"
        exact q2
      · rw [if_neg e2] at q2; exact ifF e2 q2
    obtain ⟨t, ht⟩ := reached_head gg ss 0 a
    unfold reachedM at ht
    have : ((stret 0 a ss).filter fun p => isAheadM (max p.1 (gg - p.2.2)) p.2.1).map (fun p => PyData.int (max p.1 (gg - p.2.2))) = .int (firstM gg 0 a ss) :: t.map .int := by
      rw [← List.map_cons (f := PyData.int), ← ht, List.map_map]; rfl
    rw [this]
    repeat walk_at "ev1"
    exact ⟨_, at0 _ _, q⟩

def q_first_day : DN := fun ds Q => ∃ a ss h, ds = [zoneD a ss, .int h] ∧ Q (.int (firstDayM a ss h))
theorem m_first_day : MnN q_first_day := fun _ _ _ k ⟨a, ss, hh, e, q⟩ => ⟨a, ss, hh, e, k _ q⟩
theorem ok_first_day {g : Addr} {fd : FuncData} (T : Tx K mg) (D : FD K mg "first_day" s_first_day ["zone", "hour"] g fd) : FnOk P w K mg base CX0 2 g fd ["zone", "hour"] (spP q_first_day) := by
  obtain ⟨g_shown, fd_shown, D_shown⟩ := T.d_shown
  have G_shown := ok_shown (P := P) (w := w) (base := base) T D_shown
  obtain ⟨t_DAY_HOURS, g_DAY_HOURS⟩ := T.c_DAY_HOURS
  refine fn_pure D.fn sc_first_day ?len m_first_day (fun cdv A outer s H E F hr =>
      (dss_one (ds_ret (de_neg (de_div (de_sub (de_var 1 (pv 1)) (de_call G_shown m_shown (hr.mono (by decide)) rfl D_shown.mgf D_shown.fn.kp D_shown.b (da_cons (de_var 0 (pv 0)) (da_cons de_int da_nil)))) (de_gint rfl g_DAY_HOURS)))))) ?rd
  case len => rintro ds Q ⟨a, ss, hh, rfl, _⟩; rfl
  case rd =>
    rintro ds Q ⟨a, ss, hh, rfl, q⟩
    show (_ : DTS) _ [some (.dat (zoneD a ss)), some (.dat (.int hh))]
    repeat walk_at "ev1"
    refine ⟨a, ss, 0, rfl, ?_⟩
    repeat walk_at "ev1"
    refine ⟨⟨by decide, by decide⟩, ?_⟩
    repeat walk_at "ev1"
    exact q


def q_daily_time : DN := fun ds Q => ∃ a ss h c, ds = [zoneD a ss, .int h, .int (c : Nat)] ∧ ss.length ≤ 6 ∧ Q (.int (dailyM a ss h c))
theorem m_daily_time : MnN q_daily_time := fun _ _ _ k ⟨a, ss, hh, c, e, h, q⟩ => ⟨a, ss, hh, c, e, h, k _ q⟩
theorem ok_daily_time {g : Addr} {fd : FuncData} (T : Tx K mg) (D : FD K mg "daily_time" s_daily_time ["zone", "hour", "count"] g fd) : FnOk P w K mg base CX0 3 g fd ["zone", "hour", "count"] (spP q_daily_time) := by
  obtain ⟨g_first_showing, fd_first_showing, D_first_showing⟩ := T.d_first_showing
  have G_first_showing := ok_first_showing (P := P) (w := w) (base := base) T D_first_showing
  obtain ⟨g_first_day, fd_first_day, D_first_day⟩ := T.d_first_day
  have G_first_day := ok_first_day (P := P) (w := w) (base := base) T D_first_day
  obtain ⟨t_DAY_HOURS, g_DAY_HOURS⟩ := T.c_DAY_HOURS
  refine fn_pure D.fn sc_daily_time ?len m_daily_time (fun cdv A outer s H E F hr =>
      (dss_cons (ds_set (i := 3) sc_daily_time.nd rfl (by first | exact Or.inl rfl | exact Or.inr rfl) (de_add (de_call G_first_day m_first_day (hr.mono (by decide)) rfl D_first_day.mgf D_first_day.fn.kp D_first_day.b (da_cons (de_var 0 (pv 0)) (da_cons (de_var 1 (pv 1)) da_nil))) (de_var 2 (pv 2))))
        (dss_one (ds_ret (de_call G_first_showing m_first_showing (hr.mono (by decide)) rfl D_first_showing.mgf D_first_showing.fn.kp D_first_showing.b (da_cons (de_var 0 (pv 0)) (da_cons (de_add (de_mul (de_var 3 (pv 3)) (de_gint rfl g_DAY_HOURS)) (de_var 1 (pv 1))) da_nil))))))) ?rd
  case len => rintro ds Q ⟨a, ss, hh, c, rfl, h, _⟩; rfl
  case rd =>
    rintro ds Q ⟨a, ss, hh, c, rfl, h, q⟩
    show (_ : DTS) _ [some (.dat (zoneD a ss)), some (.dat (.int hh)), some (.dat (.int (c : Nat))), none]
    repeat walk_at "ev1"
    refine ⟨a, ss, hh, rfl, ?_⟩
    repeat walk_at "ev1"
    refine ⟨.inr (by decide), ?_⟩
    repeat walk_at "ev1"
    exact ⟨a, ss, _, rfl, h, q⟩


def q_time_of : DN := fun ds Q => ∃ a ss p c, ds = [zoneD a ss, planD p, .int (c : Nat)] ∧ (ss.length ≤ 6 ∧ PlanOk p) ∧ Q (optD (timeM a ss p c))
theorem m_time_of : MnN q_time_of := fun _ _ _ k ⟨a, ss, p, c, e, h, q⟩ => ⟨a, ss, p, c, e, h, k _ q⟩
theorem ok_time_of {g : Addr} {fd : FuncData} (T : Tx K mg) (D : FD K mg "time_of" s_time_of ["zone", "plan", "count"] g fd) : FnOk P w K mg base CX0 4 g fd ["zone", "plan", "count"] (spP q_time_of) := by
  obtain ⟨g_daily_time, fd_daily_time, D_daily_time⟩ := T.d_daily_time
  have G_daily_time := ok_daily_time (P := P) (w := w) (base := base) T D_daily_time
  refine fn_pure D.fn sc_time_of ?len m_time_of (fun cdv A outer s H E F hr =>
      (dss_cons (ds_if (db_eq hr.units (de_ixT (de_var 1 (pv 1)) de_int) de_str) (dss_one (ds_ret (de_if (db_eq hr.units (de_var 2 (pv 2)) de_int) (de_ixT (de_var 1 (pv 1)) de_int) de_non))) dss_nil)
        (dss_cons (ds_if (db_eq hr.units (de_ixT (de_var 1 (pv 1)) de_int) de_str) (dss_one (ds_ret (de_add (de_ixT (de_var 1 (pv 1)) de_int) (de_mul (de_var 2 (pv 2)) (de_ixT (de_var 1 (pv 1)) de_int))))) dss_nil)
        (dss_one (ds_ret (de_call G_daily_time m_daily_time (hr.mono (by decide)) rfl D_daily_time.mgf D_daily_time.fn.kp D_daily_time.b (da_cons (de_var 0 (pv 0)) (da_cons (de_ixT (de_var 1 (pv 1)) de_int) (da_cons (de_var 2 (pv 2)) da_nil))))))))) ?rd
  case len => rintro ds Q ⟨a, ss, p, c, rfl, h, _⟩; rfl
  case rd =>
    rintro ds Q ⟨a, ss, p, c, rfl, h, q⟩
    have s1 : SeqAt.shaped (PyData.str (Str.ofString "once")) = true := by decide +kernel
    have s2 : SeqAt.shaped (PyData.str (Str.ofString "every")) = true := by decide +kernel
    have s3 : SeqAt.shaped (PyData.str (Str.ofString "daily")) = true := by decide +kernel
    have c1 : (PyData.eqv (PyData.str (Str.ofString "once")) (.str (Str.ofString "once")) != false) = true := by rw [eqv_str]; decide +kernel
    have c2 : ¬ (PyData.eqv (PyData.str (Str.ofString "every")) (.str (Str.ofString "once")) != false) = true := by rw [eqv_str]; decide +kernel
    have c3 : (PyData.eqv (PyData.str (Str.ofString "every")) (.str (Str.ofString "every")) != false) = true := by rw [eqv_str]; decide +kernel
    have c4 : ¬ (PyData.eqv (PyData.str (Str.ofString "daily")) (.str (Str.ofString "once")) != false) = true := by rw [eqv_str]; decide +kernel
    have c5 : ¬ (PyData.eqv (PyData.str (Str.ofString "daily")) (.str (Str.ofString "every")) != false) = true := by rw [eqv_str]; decide +kernel
    obtain ⟨h, ok⟩ := h
    cases p with
    | once m =>
      show (_ : DTS) _ [some (.dat (zoneD a ss)), some (.dat (planD (.once m))), some (.dat (.int (c : Nat)))]
      repeat walk_at "ev1"
      refine ⟨s1, s1, ?_⟩
      repeat walk_at "ev1"
      refine ifT c1 ?_
      repeat walk_at "ev1"
      refine ⟨rfl, rfl, ?_⟩
      repeat walk_at "ev1"
      rw [eqv_int, Bool.bne_false]
      by_cases e : c = 0
      · subst e
        refine ifT rfl ?_
        repeat walk_at "ev1"
        exact q
      · rw [timeM, if_neg e] at q
        refine ifF (by simpa using e) ?_
        repeat walk_at "ev1"
        exact q
    | every f s =>
      obtain ⟨_, o1, o2⟩ := ok
      show (_ : DTS) _ [some (.dat (zoneD a ss)), some (.dat (planD (.every f s))), some (.dat (.int (c : Nat)))]
      repeat walk_at "ev1"
      refine ⟨s2, s1, ?_⟩
      repeat walk_at "ev1"
      refine ifF c2 ?_
      repeat walk_at "ev1"
      refine ⟨s2, s2, ?_⟩
      repeat walk_at "ev1"
      refine ifT c3 ?_
      repeat walk_at "ev1"
      refine ⟨.inr ⟨by omega, by omega⟩, ?_⟩
      repeat walk_at "ev1"
      exact q
    | daily hh =>
      show (_ : DTS) _ [some (.dat (zoneD a ss)), some (.dat (planD (.daily hh))), some (.dat (.int (c : Nat)))]
      repeat walk_at "ev1"
      refine ⟨s3, s1, ?_⟩
      repeat walk_at "ev1"
      refine ifF c4 ?_
      repeat walk_at "ev1"
      refine ⟨s3, s2, ?_⟩
      repeat walk_at "ev1"
      refine ifF c5 ?_
      repeat walk_at "ev1"
      exact ⟨a, ss, hh, c, rfl, h, q⟩


end
end K3

namespace K3
open PySem PySem.Spec L2 L2.L3 Due
section
variable {P : Program} {w : World} {K : PySem.W.Frag} {mg : Str → Option Value} {base : Heap}

theorem whileGo {c : DTT} {tb : DTS} {D : DEnds} {ρ : DEnv} (n : Nat) (Iv : Nat → DEnv → Prop) (μ : DEnv → Nat) (hμ : ∀ i ρ, Iv i ρ → μ ρ = n - i) (h0 : Iv 0 ρ)
    (hs : ∀ i ρ, i ≤ n → Iv i ρ → ∀ N : DEnv → Prop, (i < n → ∀ ρ2, Iv (i + 1) ρ2 → N ρ2) → c ρ fun b ρ1 => if b = true then tb { D with nx := N, ct := N, bk := D.nx } ρ1 else D.nx ρ1) : sWhile c tb D ρ := by
  refine ⟨fun ρ => ∃ i, i ≤ n ∧ Iv i ρ, μ, ⟨0, Nat.zero_le _, h0⟩, ?_⟩
  rintro ρ ⟨i, hi, iv⟩
  refine hs i ρ hi iv _ fun hlt ρ2 h2 => ⟨⟨i + 1, hlt, h2⟩, ?_⟩
  rw [hμ _ _ h2, hμ _ _ iv]
  omega
theorem sWhile_ap {c : DTT} {tb : DTS} {D : DEnds} {ρ : DEnv} : sWhile c tb D ρ = ∃ (Iv : DEnv → Prop) (μ : DEnv → Nat), Iv ρ ∧ ∀ ρ, Iv ρ → c ρ fun b ρ1 => if b = true then tb { D with nx := fun ρ2 => Iv ρ2 ∧ μ ρ2 < μ ρ, ct := fun ρ2 => Iv ρ2 ∧ μ ρ2 < μ ρ, bk := D.nx } ρ1 else D.nx ρ1 := rfl
def q__law_cell_at : DN := fun ds Q => ∃ k : Nat, ds = [.int k] ∧ ∀ r : Int, Q (.int r)
theorem m__law_cell_at : MnN q__law_cell_at := fun _ _ _ k ⟨a, e, q⟩ => ⟨a, e, fun r => k _ (q r)⟩
theorem ok__law_cell_at {g : Addr} {fd : FuncData} (T : Tx K mg) (D : FD K mg "_law_cell_at" s__law_cell_at ["_law_script", "_law_k"] g fd) : FnOk P w K mg base CX0 1 g fd ["_law_script", "_law_k"] (spS K q__law_cell_at) := by
  refine fn_scr D.fn sc__law_cell_at ?len m__law_cell_at (fun cdv A outer s H E F hr =>
      (dss_cons (ds_if (db_lt (de_var 1 (pv 1)) (de_lenS rfl T.b_len (pv 0))) (dss_one (ds_ret (de_ixS (pv 0) (de_var 1 (pv 1)) (by intro _ _; rfl)))) dss_nil)
        (dss_cons (ds_if (db_eqS hr.units (pv 0)) (dss_one (ds_ret de_int)) dss_nil)
        (dss_one (ds_ret (de_add (de_mul (de_ixS (pv 0) (de_mod (de_var 1 (pv 1)) (de_lenS rfl T.b_len (pv 0))) (by intro _ _; rfl)) de_int) (de_var 1 (pv 1)))))))) ?rd
  case len => rintro ds Q ⟨k, rfl, _⟩; rfl
  case rd =>
    rintro ds Q ns ⟨k, rfl, q⟩ hns
    show (_ : DTS) _ [some (.scr ns), some (.dat (.int (k : Nat)))]
    repeat walk_at "ev1"
    intro _
    repeat walk_at "ev1"
    by_cases h1 : (k : Int) < ns.length
    · refine ifT (decide_eq_true h1) ?_
      repeat walk_at "ev1"
      refine ⟨_, atI_nat (List.getElem?_eq_getElem (by omega)), ?_⟩
      exact q _
    · refine ifF (by simpa using h1) ?_
      repeat walk_at "ev1"
      by_cases h2 : ns = []
      · refine ifT (decide_eq_true h2) ?_
        repeat walk_at "ev1"
        exact q _
      · have hp : 0 < ns.length := List.length_pos_iff.mpr h2
        refine ifF (by simpa using h2) ?_
        repeat walk_at "ev1"
        intro _
        repeat walk_at "ev1"
        refine ⟨by omega, ?_⟩
        repeat walk_at "ev1"
        refine ⟨ns[k % ns.length]'(Nat.mod_lt _ hp), ?_, ?_⟩
        · show atI ns ((k : Int) % (ns.length : Int)) = _
          rw [show (k : Int) % (ns.length : Int) = ((k % ns.length : Nat) : Int) by simp]
          exact atI_nat (List.getElem?_eq_getElem (Nat.mod_lt _ hp))
        repeat walk_at "ev1"
        refine ⟨.inr (by decide), ?_⟩
        repeat walk_at "ev1"
        exact q _

def q__law_mixed : DN := fun ds Q => ∃ (k : Nat) (m : Int), ds = [.int k, .int m] ∧ 0 < m ∧ ∀ r : Int, 0 ≤ r → r < m → Q (.int r)
theorem m__law_mixed : MnN q__law_mixed := fun _ _ _ k ⟨a, b, e, h, q⟩ => ⟨a, b, e, h, fun r h1 h2 => k _ (q r h1 h2)⟩
theorem ok__law_mixed {g : Addr} {fd : FuncData} (T : Tx K mg) (D : FD K mg "_law_mixed" s__law_mixed ["_law_script", "_law_k", "_law_many"] g fd) : FnOk P w K mg base CX0 2 g fd ["_law_script", "_law_k", "_law_many"] (spS K q__law_mixed) := by
  obtain ⟨g__law_cell_at, fd__law_cell_at, D__law_cell_at⟩ := T.d__law_cell_at
  have G__law_cell_at := ok__law_cell_at (P := P) (w := w) (base := base) T D__law_cell_at
  refine fn_scr D.fn sc__law_mixed ?len m__law_mixed (fun cdv A outer s H E F hr =>
      (dss_cons (ds_set (i := 3) sc__law_mixed.nd rfl (by first | exact Or.inl rfl | exact Or.inr rfl) (de_mod (de_add (de_add (de_mul (de_scr G__law_cell_at m__law_cell_at (hr.mono (by decide)) rfl D__law_cell_at.mgf D__law_cell_at.fn.kp D__law_cell_at.b (pv 0) (da_cons (de_var 1 (pv 1)) da_nil)) de_int) (de_mul de_int (de_var 1 (pv 1)))) de_int) de_int))
        (dss_one (ds_ret (de_mod (de_mod (de_mod (de_pow (de_var 3 (pv 3)) de_int) de_int) de_int) (de_var 2 (pv 2))))))) ?rd
  case len => rintro ds Q ⟨k, m, rfl, hm, _⟩; rfl
  case rd =>
    rintro ds Q ns ⟨k, m, rfl, hm, q⟩ hns
    show (_ : DTS) _ [some (.scr ns), some (.dat (.int k)), some (.dat (.int m)), none]
    repeat walk_at "ev1"
    refine ⟨k, rfl, fun r => ?_⟩
    repeat walk_at "ev1"
    refine ⟨.inr (by decide), ?_⟩
    repeat walk_at "ev1"
    refine ⟨.inl (by decide), ?_⟩
    repeat walk_at "ev1"
    refine ⟨by decide, ?_⟩
    repeat walk_at "ev1"
    have h1 := Int.emod_nonneg (r * 1103515245 + 7919 * ↑k + 12345) (b := 2147483647) (by decide)
    have h2 := Int.emod_lt_of_pos (r * 1103515245 + 7919 * ↑k + 12345) (b := 2147483647) (by decide)
    refine ⟨⟨by decide, by decide, ?_⟩, ?_⟩
    · show ((r * 1103515245 + 7919 * ↑k + 12345) % 2147483647).natAbs < 2 ^ 64
      omega
    repeat walk_at "ev1"
    refine ⟨by decide, ?_⟩
    repeat walk_at "ev1"
    refine ⟨by decide, ?_⟩
    repeat walk_at "ev1"
    refine ⟨hm, ?_⟩
    exact q _ (Int.emod_nonneg _ (by omega)) (Int.emod_lt_of_pos _ hm)

def q__law_draw : DR := fun n ds Q => ∃ m : Int, ds = [.int m] ∧ n < 1000 ∧ 0 < m ∧ ∀ r : Int, 0 ≤ r → r < m → Q (.int r) (n + 1)
theorem m__law_draw : MnR q__law_draw := fun _ _ _ _ k ⟨a, e, h1, h2, q⟩ => ⟨a, e, h1, h2, fun r h1 h2 => k _ _ (q r h1 h2)⟩
theorem ok__law_draw {g : Addr} {fd : FuncData} (T : Tx K mg) (D : FD K mg "_law_draw" s__law_draw ["_law_script", "_law_town", "_law_many"] g fd) : FnOk P w K mg base CX0 3 g fd ["_law_script", "_law_town", "_law_many"] (spR K q__law_draw) := by
  obtain ⟨g__law_mixed, fd__law_mixed, D__law_mixed⟩ := T.d__law_mixed
  have G__law_mixed := ok__law_mixed (P := P) (w := w) (base := base) T D__law_mixed
  refine fn_draw D.fn sc__law_draw ?len m__law_draw (fun cdv A outer s H E F hr =>
      (dss_cons (ds_app (pv 1) de_int)
        (dss_one (ds_ret (de_scr G__law_mixed m__law_mixed (hr.mono (by decide)) rfl D__law_mixed.mgf D__law_mixed.fn.kp D__law_mixed.b (pv 0) (da_cons (de_lenT rfl T.b_len (pv 1)) (da_cons (de_var 2 (pv 2)) da_nil))))))) ?rd
  case len => rintro n ds Q ⟨m, rfl, hn, hm, _⟩; rfl
  case rd =>
    rintro n ds Q ns adr ⟨m, rfl, hn, hm, q⟩ hns
    show (_ : DTS) _ [some (.scr ns), some (.cnt adr n), some (.dat (.int m))]
    repeat walk_at "ev1"
    refine ⟨Nat.lt_of_lt_of_le hn (line_ge (Nat.le_refl _)), ?_⟩
    repeat walk_at "ev1"
    intro j hj
    repeat walk_at "ev1"
    refine ⟨j, m, rfl, hm, fun r h1 h2 => ?_⟩
    exact ⟨_, rfl, q r h1 h2⟩

def q__law_pick : DR := fun n ds Q => ∃ xs : List PyData, ds = [.list xs] ∧ n < 1000 ∧ xs ≠ [] ∧ ∀ x, x ∈ xs → Q x (n + 1)
theorem m__law_pick : MnR q__law_pick := fun _ _ _ _ k ⟨a, e, h1, h2, q⟩ => ⟨a, e, h1, h2, fun x h => k _ _ (q x h)⟩
theorem ok__law_pick {g : Addr} {fd : FuncData} (T : Tx K mg) (D : FD K mg "_law_pick" s__law_pick ["_law_script", "_law_town", "_law_some"] g fd) : FnOk P w K mg base CX0 4 g fd ["_law_script", "_law_town", "_law_some"] (spR K q__law_pick) := by
  obtain ⟨g__law_draw, fd__law_draw, D__law_draw⟩ := T.d__law_draw
  have G__law_draw := ok__law_draw (P := P) (w := w) (base := base) T D__law_draw
  refine fn_draw D.fn sc__law_pick ?len m__law_pick (fun cdv A outer s H E F hr =>
      (dss_one (ds_ret (de_ixL (de_var 2 (pv 2)) (de_draw G__law_draw m__law_draw (hr.mono (by decide)) rfl D__law_draw.mgf D__law_draw.fn.kp D__law_draw.b (pv 0) (pv 1) (da_cons (de_callB call_len_seq n_len rfl T.b_len PySem.boot_len (da_cons (de_var 2 (pv 2)) da_nil)) da_nil)))))) ?rd
  case len => rintro n ds Q ⟨xs, rfl, hn, hx, _⟩; rfl
  case rd =>
    rintro n ds Q ns adr ⟨xs, rfl, hn, hx, q⟩ hns
    have hp : 0 < xs.length := List.length_pos_iff.mpr hx
    show (_ : DTS) _ [some (.scr ns), some (.cnt adr n), some (.dat (.list xs))]
    repeat walk_at "ev1"
    refine ⟨_, rfl, hn, by omega, fun r h1 h2 => ?_⟩
    repeat walk_at "ev1"
    have hr : r.toNat < xs.length := by omega
    have e : r = (r.toNat : Int) := by omega
    rw [e]
    refine ⟨_, atI_nat (List.getElem?_eq_getElem hr), ?_⟩
    exact ⟨_, rfl, q _ (List.getElem_mem hr)⟩


theorem rising_snoc {b c : Int} : ∀ {ss : Sh} {lo : Int}, Rising lo ss → (∀ p ∈ ss, p.1 < b) → lo < b → Rising lo (ss ++ [(b, c)])
  | [], lo, _, _, h => ⟨h, trivial⟩
  | (x, y) :: r, lo, h, h2, h3 => ⟨h.1, rising_snoc h.2 (fun p hp => h2 p (List.mem_cons_of_mem _ hp)) (h2 (x, y) List.mem_cons_self)⟩
theorem rising_fst : ∀ {ss ss' : Sh} {lo : Int}, ss.map (·.1) = ss'.map (·.1) → Rising lo ss → Rising lo ss'
  | [], [], _, _, _ => trivial
  | (x, y) :: r, (x', y') :: r', lo, e, h => by
    rw [List.map_cons, List.map_cons] at e
    obtain ⟨e1, e2⟩ := List.cons.inj e
    have e1 : x = x' := e1
    subst e1
    exact ⟨h.1, rising_fst e2 h.2⟩
theorem numbered_map {ss : Sh} : L3.numbered (ss.map shD) = ss.zipIdx.map fun p => PyData.tuple [.int p.2, shD p.1] := by
  unfold L3.numbered
  apply List.ext_getElem
  · simp
  · intro i h1 h2
    simp
def bent (ss : Sh) : Sh := ss.zipIdx.map fun p => (p.1.1, 1 + (p.2 : Int) % 2)
theorem bent_fst {ss : Sh} : (bent ss).map (·.1) = ss.map (·.1) := by
  unfold bent
  apply List.ext_getElem
  · simp
  · intro i h1 h2
    simp
theorem last_cons {α : Type} (x y : α) (l : List α) : atI (x :: y :: l) (-1) = atI (y :: l) (-1) := by
  obtain ⟨xs, z, e⟩ : ∃ xs z, y :: l = xs ++ [z] := ⟨_, _, (List.dropLast_concat_getLast (l := y :: l) (by simp)).symm⟩
  rw [e, atI_last, ← List.cons_append, atI_last]
theorem clock_last {m : Int} : ∀ (ss : Sh) (a : Int), atI (PyData.int a :: (ss.filter fun p => decide (p.1 ≤ m)).map fun p => .int p.2) (-1) = some (.int (aheadAt a ss m))
  | [], a => atI_last [] _
  | (b, c) :: r, a => by
    rw [List.filter_cons, aheadAt]
    by_cases h : b ≤ m
    · rw [if_pos (decide_eq_true h), if_pos h, List.map_cons, last_cons]
      exact clock_last r c
    · rw [if_neg (by simpa using h), if_neg h]
      exact clock_last r a
def q__law_zone : DR := fun n ds Q => ∃ wd : Int, ds = [.int wd] ∧ (n + 30 ≤ 1000 ∧ 0 < wd ∧ wd ≤ 60) ∧ ∀ a ss m, ZOk a ss → (∀ p ∈ ss, p.1 ≤ 4 * wd) → m ≤ n + 30 → Q (zoneD a ss) m
theorem m__law_zone : MnR q__law_zone := fun _ _ _ _ k ⟨a, e, h, q⟩ => ⟨a, e, h, fun a ss m h1 h2 h3 => k _ _ (q a ss m h1 h2 h3)⟩
theorem ok__law_zone {g : Addr} {fd : FuncData} (T : Tx K mg) (D : FD K mg "_law_zone" s__law_zone ["_law_script", "_law_town", "_law_wide"] g fd) : FnOk P w K mg base CX0 5 g fd ["_law_script", "_law_town", "_law_wide"] (spR K q__law_zone) := by
  obtain ⟨g__law_draw, fd__law_draw, D__law_draw⟩ := T.d__law_draw
  have G__law_draw := ok__law_draw (P := P) (w := w) (base := base) T D__law_draw
  obtain ⟨g__law_pick, fd__law_pick, D__law_pick⟩ := T.d__law_pick
  have G__law_pick := ok__law_pick (P := P) (w := w) (base := base) T D__law_pick
  refine fn_draw D.fn sc__law_zone ?len m__law_zone (fun cdv A outer s H E F hr =>
      (dss_cons (ds_asg (de_tup (da_cons (de_tup da_nil) (da_cons de_int da_nil))) (dg_tup (n := 2) rfl (dgs_cons (dg_name (pg_name (i := 3) sc__law_zone.nd rfl (by first | exact Or.inl rfl | exact Or.inr rfl))) (dgs_cons (dg_name (pg_name (i := 4) sc__law_zone.nd rfl (by first | exact Or.inl rfl | exact Or.inr rfl))) dgs_nil))))
        (dss_cons (ds_for PassesOwn.never rfl (di_range1 rfl T.b_range (da_cons (de_draw G__law_draw m__law_draw (hr.mono (by decide)) rfl D__law_draw.mgf D__law_draw.fn.kp D__law_draw.b (pv 0) (pv 1) (da_cons de_int da_nil)) da_nil)) (dg_name (pg_name (i := 5) sc__law_zone.nd rfl (by first | exact Or.inl rfl | exact Or.inr rfl))) (dss_cons (ds_set (i := 4) sc__law_zone.nd rfl (by first | exact Or.inl rfl | exact Or.inr rfl) (de_add (de_add (de_var 4 (pv 4)) de_int) (de_draw G__law_draw m__law_draw (hr.mono (by decide)) rfl D__law_draw.mgf D__law_draw.fn.kp D__law_draw.b (pv 0) (pv 1) (da_cons (de_var 2 (pv 2)) da_nil))))
        (dss_one (ds_set (i := 3) sc__law_zone.nd rfl (by first | exact Or.inl rfl | exact Or.inr rfl) (de_catT (de_var 3 (pv 3)) (de_tup (da_cons (de_tup (da_cons (de_var 4 (pv 4)) (da_cons (de_draw G__law_pick m__law_pick (hr.mono (by decide)) rfl D__law_pick.mgf D__law_pick.fn.kp D__law_pick.b (pv 0) (pv 1) (da_cons (de_lst (da_cons de_int (da_cons de_int (da_cons de_int (da_cons (de_neg de_int) (da_cons de_int (da_cons (de_neg de_int) (da_cons de_int da_nil)))))))) da_nil)) da_nil))) da_nil)))))))
        (dss_one (ds_ret (de_tup (da_cons (de_draw G__law_pick m__law_pick (hr.mono (by decide)) rfl D__law_pick.mgf D__law_pick.fn.kp D__law_pick.b (pv 0) (pv 1) (da_cons (de_lst (da_cons de_int (da_cons de_int (da_cons de_int (da_cons (de_neg de_int) (da_cons de_int (da_cons (de_neg de_int) da_nil))))))) da_nil)) (da_cons (de_var 3 (pv 3)) da_nil)))))))) ?rd
  case len => rintro n ds Q ⟨wd, rfl, hn, _⟩; rfl
  case rd =>
    rintro n ds Q ns adr ⟨wd, rfl, hn, q⟩ hns
    obtain ⟨hn, w0, w1⟩ := hn
    show (_ : DTS) _ [some (.scr ns), some (.cnt adr n), some (.dat (.int wd)), none, none, none]
    repeat walk_at "ev1"
    refine ⟨Nat.zero_le _, ?_⟩
    repeat walk_at "ev1"
    refine ⟨(by decide : 2 ≤ sizeLine), ?_⟩
    repeat walk_at "ev1"
    refine ⟨5, rfl, by omega, by decide, fun r h1 h2 => ?_⟩
    repeat walk_at "ev1"
    refine ⟨⟨by omega, by omega⟩, ?_⟩
    refine ⟨fun i ρ => ∃ (ss : Sh) (n' : Nat) (mo : Int) (k : Option Cell), ρ = [some (.scr ns), some (.cnt adr n'), some (.dat (.int wd)), some (.dat (.tuple (ss.map shD))), some (.dat (.int mo)), k] ∧ n' ≤ n + 1 + 2 * i ∧ ss.length = i ∧ Rising 0 ss ∧ (∀ p ∈ ss, p.1 ≤ mo ∧ -12 ≤ p.2 ∧ p.2 ≤ 14) ∧ 0 ≤ mo ∧ mo ≤ wd * i, ⟨[], n + 1, 0, none, rfl, by omega, rfl, trivial, by simp, by omega, by omega⟩, ?_, ?_⟩
    · rintro i d ρ hd ⟨ss, n', mo, k, rfl, i1, i2, i3, i4, i5, i6⟩
      have hi : i < 4 := by
        have := (List.getElem?_eq_some_iff.mp hd).1
        rw [intsFrom_length] at this
        omega
      repeat walk_at "ev1"
      refine ⟨wd, rfl, by omega, by omega, fun r1 a1 a2 => ?_⟩
      repeat walk_at "ev1"
      refine ⟨(by decide : 7 ≤ sizeLine), ?_⟩
      repeat walk_at "ev1"
      refine ⟨_, rfl, by omega, by simp, fun x hx => ?_⟩
      have hm : ∃ c : Int, x = .int c ∧ -12 ≤ c ∧ c ≤ 14 := by
        simp only [List.mem_cons, List.not_mem_nil, or_false] at hx
        rcases hx with rfl | rfl | rfl | rfl | rfl | rfl | rfl <;> exact ⟨_, rfl, by decide, by decide⟩
      obtain ⟨c, rfl, c1, c2⟩ := hm
      repeat walk_at "ev1"
      refine ⟨(by decide : 2 ≤ sizeLine), ?_⟩
      repeat walk_at "ev1"
      refine ⟨(by decide : 1 ≤ sizeLine), ?_⟩
      repeat walk_at "ev1"
      refine ⟨by rw [List.length_map]; exact line_ge (show ss.length + 1 ≤ 1000 by omega), ?_⟩
      repeat walk_at "ev1"
      have e0 : wd * ((i + 1 : Nat) : Int) = wd * i + wd := by rw [Int.natCast_add, Int.mul_add]; simp
      refine ⟨ss ++ [(mo + 1 + r1, c)], n' + 1 + 1, mo + 1 + r1, _, by rw [List.map_append]; rfl, by omega, by rw [List.length_append, i2]; rfl, ?_, ?_, by omega, by rw [e0]; omega⟩
      · exact rising_snoc i3 (fun p hp => by have := (i4 p hp).1; omega) (by omega)
      · intro p hp
        rcases List.mem_append.mp hp with hp | hp
        · have := i4 p hp; omega
        · rw [List.mem_singleton] at hp; subst hp; exact ⟨Int.le_refl _, c1, c2⟩
    · rintro ρ ⟨ss, n', mo, k, rfl, i1, i2, i3, i4, i5, i6⟩
      rw [intsFrom_length] at i1 i2 i6
      have h4 : wd * ((r.toNat : Nat) : Int) ≤ wd * 4 := Int.mul_le_mul_of_nonneg_left (by omega) (by omega)
      repeat walk_at "ev1"
      refine ⟨(by decide : 6 ≤ sizeLine), ?_⟩
      repeat walk_at "ev1"
      refine ⟨_, rfl, by omega, by simp, fun x hx => ?_⟩
      have hm : ∃ c : Int, x = .int c ∧ -12 ≤ c ∧ c ≤ 14 := by
        simp only [List.mem_cons, List.not_mem_nil, or_false] at hx
        rcases hx with rfl | rfl | rfl | rfl | rfl | rfl <;> exact ⟨_, rfl, by decide, by decide⟩
      obtain ⟨c, rfl, c1, c2⟩ := hm
      repeat walk_at "ev1"
      refine ⟨(by decide : 2 ≤ sizeLine), ?_⟩
      exact ⟨n' + 1, rfl, q c ss (n' + 1) ⟨by omega, i3, ⟨⟨c1, c2⟩, fun p hp => (i4 p hp).2⟩, fun p hp => by have := (i4 p hp).1; omega⟩ (fun p hp => by have := (i4 p hp).1; omega) (by omega)⟩

def q__law_shown : DN := fun ds Q => ∃ a ss m, ds = [zoneD a ss, .int m] ∧ Q (.int (shownM a ss m))
theorem m__law_shown : MnN q__law_shown := fun _ _ _ k ⟨a, ss, m, e, q⟩ => ⟨a, ss, m, e, k _ q⟩
theorem ok__law_shown {g : Addr} {fd : FuncData} (T : Tx K mg) (D : FD K mg "_law_shown" s__law_shown ["_law_zone_here", "_law_moment"] g fd) : FnOk P w K mg base CX0 1 g fd ["_law_zone_here", "_law_moment"] (spP q__law_shown) := by
  refine fn_pure D.fn sc__law_shown ?len m__law_shown (fun cdv A outer s H E F hr =>
      (dss_cons (ds_set (i := 2) sc__law_shown.nd rfl (by first | exact Or.inl rfl | exact Or.inr rfl) (de_ixT (de_var 0 (pv 0)) de_int))
        (dss_cons (ds_for PassesOwn.never rfl (di_tup (de_ixT (de_var 0 (pv 0)) de_int)) (dg_tup (n := 2) rfl (dgs_cons (dg_name (pg_name (i := 3) sc__law_shown.nd rfl (by first | exact Or.inl rfl | exact Or.inr rfl))) (dgs_cons (dg_name (pg_name (i := 4) sc__law_shown.nd rfl (by first | exact Or.inl rfl | exact Or.inr rfl))) dgs_nil))) (dss_one (ds_set (i := 2) sc__law_shown.nd rfl (by first | exact Or.inl rfl | exact Or.inr rfl) (de_if (db_le (de_var 3 (pv 3)) (de_var 1 (pv 1))) (de_var 4 (pv 4)) (de_var 2 (pv 2))))))
        (dss_one (ds_ret (de_add (de_var 1 (pv 1)) (de_var 2 (pv 2)))))))) ?rd
  case len => rintro ds Q ⟨a, ss, m, rfl, _⟩; rfl
  case rd =>
    rintro ds Q ⟨a, ss, m, rfl, q⟩
    show (_ : DTS) _ [some (.dat (zoneD a ss)), some (.dat (.int m)), none, none, none]
    repeat walk_at "ev1"
    refine ⟨fun i ρ => ∃ x y sh, ρ = [some (.dat (zoneD a ss)), some (.dat (.int m)), some (.dat (.int x)), sh, y] ∧ aheadAt x (ss.drop i) m = aheadAt a ss m, ⟨a, none, none, rfl, rfl⟩, ?_, ?_⟩
    · rintro i d ρ hd ⟨x, y, sh, rfl, hx⟩
      obtain ⟨b, c, rfl, hdrop, hm⟩ := get_shift hd
      rw [hdrop, aheadAt] at hx
      repeat walk_at "ev1"
      by_cases hb : b ≤ m
      · rw [if_pos hb] at hx
        refine ifT (by simpa using hb) ?_
        repeat walk_at "ev1"
        exact ⟨_, _, _, rfl, hx⟩
      · rw [if_neg hb] at hx
        refine ifF (by simpa using hb) ?_
        repeat walk_at "ev1"
        exact ⟨_, _, _, rfl, hx⟩
    · rintro ρ ⟨x, y, sh, rfl, hx⟩
      rw [List.length_map, List.drop_length, aheadAt] at hx
      repeat walk_at "ev1"
      subst hx
      exact q


def timeV (a : Int) (ss : Sh) (p : Plan) (c : Nat) : Int := (timeM a ss p c).getD 0
def rowsM (a : Int) (ss : Sh) (p : Plan) (first : Int) (n : Nat) : List Nat := (List.range n).filter fun c => decide (first ≤ timeV a ss p c)
abbrev rowD (a : Int) (ss : Sh) (p : Plan) (c : Nat) : PyData := .tuple [.int c, .int (timeV a ss p c)]
structure Upto (a : Int) (ss : Sh) (p : Plan) (last : Int) (n : Nat) : Prop where
  le : n ≤ 20000
  in_ : ∀ c, c < n → ∃ v, timeM a ss p c = some v ∧ v ≤ last
  out : timeM a ss p n = none ∨ ∃ v, timeM a ss p n = some v ∧ last < v
end
end K3

namespace K3
open PySem PySem.Spec L2 L2.L3 Due
section
variable {P : Program} {w : World} {K : PySem.W.Frag} {mg : Str → Option Value} {base : Heap}

theorem least {P : Nat → Prop} : ∀ N, P N → ∃ n, n ≤ N ∧ P n ∧ ∀ m, m < n → ¬ P m
  | 0, h => ⟨0, Nat.le_refl _, h, fun m hm => absurd hm (Nat.not_lt_zero m)⟩
  | N + 1, h => by
    by_cases e : ∃ m, m ≤ N ∧ P m
    · obtain ⟨m, hm, pm⟩ := e
      obtain ⟨n, h1, h2, h3⟩ := least m pm
      exact ⟨n, by omega, h2, h3⟩
    · exact ⟨N + 1, Nat.le_refl _, h, fun m hm pm => e ⟨m, by omega, pm⟩⟩
theorem upto_daily {a h last : Int} {ss : Sh} (z : ZOk a ss) (hl : last ≤ 9999) : ∃ n, Upto a ss (.daily h) last n := by
  obtain ⟨n, h1, h2, h3⟩ := least (P := fun c => last < dailyM a ss h c) 1000 (by
    have := daily_ge (h := h) (c := 1000) z.rise z.ah
    show last < dailyM a ss h 1000
    omega)
  refine ⟨n, by omega, fun c hc => ⟨_, rfl, ?_⟩, .inr ⟨_, rfl, h2⟩⟩
  have := h3 c hc
  omega
theorem rows_daily {a h : Int} {ss : Sh} (z : ZOk a ss) (n : Nat) : rowsM a ss (.daily h) 0 n = List.range n := by
  unfold rowsM
  exact List.filter_eq_self.mpr fun c _ => decide_eq_true (daily_nn z.rise)
def topM (a : Int) (ss : Sh) : Nat → Int
  | 0 => -100
  | i + 1 => max (topM a ss i) (shownM a ss i)
theorem top_lt {a G : Int} {ss : Sh} : ∀ i : Nat, topM a ss i < G ↔ -100 < G ∧ ∀ m : Nat, m < i → shownM a ss m < G
  | 0 => ⟨fun h => ⟨h, fun m hm => absurd hm (Nat.not_lt_zero m)⟩, fun h => h.1⟩
  | i + 1 => by
    unfold topM
    constructor
    · intro h
      have h1 : topM a ss i < G := by omega
      obtain ⟨q1, q2⟩ := (top_lt i).mp h1
      refine ⟨q1, fun m hm => ?_⟩
      by_cases e : m = i
      · subst e; omega
      · exact q2 m (by omega)
    · rintro ⟨q1, q2⟩
      have h1 := (top_lt i).mpr ⟨q1, fun m hm => q2 m (by omega)⟩
      have h2 := q2 i (by omega)
      omega
theorem day_eq {a h : Int} {ss : Sh} (hh : 0 ≤ h ∧ h ≤ 23) : shownM a ss 0 / 24 + (if decide (shownM a ss 0 % 24 > h) = true then 1 else 0) = firstDayM a ss h := by
  have := firstDay_spec (a := a) (h := h) (ss := ss)
  by_cases e : shownM a ss 0 % 24 > h
  · rw [if_pos (decide_eq_true e)]; omega
  · rw [if_neg (by simpa using e)]; omega
theorem plain_daily {a h : Int} {c : Nat} : dailyM a [] h c = (firstDayM a [] h + c) * 24 + h - a := by
  have := firstDay_spec (a := a) (h := h) (ss := [])
  unfold shownM aheadAt at this
  unfold dailyM firstM
  omega
theorem zok_nil {a : Int} {ss : Sh} (z : ZOk a ss) : ZOk a [] := ⟨by simp, trivial, ⟨z.ah.1, by simp⟩, by simp⟩

theorem shaped_ints (l : List Int) : SeqAt.shaped (.list (l.map .int)) = true := by
  have h1 : ∀ l : List Int, PyData.canLayAll0 (l.map .int) = true := fun l => by
    induction l with
    | nil => rfl
    | cons x r ih => rw [List.map_cons, PyData.canLayAll0, ih]; rfl
  have h2 : ∀ l : List Int, PyData.depthAll (l.map .int) ≤ 1 := fun l => by
    induction l with
    | nil => exact Nat.zero_le _
    | cons x r ih =>
      rw [List.map_cons, PyData.depthAll]
      have : PyData.depth (.int x) ≤ 1 := by unfold PyData.depth; exact Nat.zero_le _
      omega
  unfold SeqAt.shaped
  rw [PyData.canLay0, PyData.depth, h1 l, Bool.true_and]
  have := h2 l
  exact decide_eq_true (by omega)
theorem paired_rows (n : Nat) (φ : Nat → PyData) : L3.paired ((List.range n).map φ) (((List.range n).map φ).drop 1) = (List.range (n - 1)).map fun k => PyData.tuple [φ k, φ (k + 1)] := by
  unfold L3.paired
  apply List.ext_getElem
  · simp
  · intro i h1 h2
    simp
    try (congr 1; omega)
theorem eqv_nil_cons (x : PyData) (r : List PyData) : PyData.eqv (.list (x :: r)) (.list []) = false := by
  rw [PyData.eqv, PyData.eqvAll]
theorem time_mono {a : Int} {ss : Sh} {p : Plan} (z : ZOk a ss) (ok : PlanOk p) {c d : Nat} {v w : Int} (h : c ≤ d) (hv : timeM a ss p c = some v) (hw : timeM a ss p d = some w) : v ≤ w := by
  cases p with
  | once m =>
    rw [timeM] at hv hw
    by_cases e : c = 0
    · by_cases e2 : d = 0
      · rw [if_pos e] at hv; rw [if_pos e2] at hw; cases hv; cases hw; exact Int.le_refl _
      · rw [if_neg e2] at hw; cases hw
    · rw [if_neg e] at hv; cases hv
  | every f s =>
    rw [timeM] at hv hw
    cases hv; cases hw
    have := Int.mul_le_mul_of_nonneg_right (show (c : Int) ≤ d by omega) (show (0 : Int) ≤ s by have := ok.2.1; omega)
    omega
  | daily h' =>
    rw [timeM] at hv hw
    cases hv; cases hw
    exact daily_mono z.rise h
theorem time_nn {a : Int} {ss : Sh} {p : Plan} (z : ZOk a ss) (ok : PlanOk p) {c : Nat} {v : Int} (hv : timeM a ss p c = some v) : 0 ≤ v := by
  cases p with
  | once m =>
    rw [timeM] at hv
    by_cases e : c = 0
    · rw [if_pos e] at hv; cases hv; exact ok.1
    · rw [if_neg e] at hv; cases hv
  | every f s =>
    rw [timeM] at hv
    cases hv
    have := Int.mul_nonneg (show (0 : Int) ≤ c by omega) (show (0 : Int) ≤ s by have := ok.2.1; omega)
    have := ok.1.1
    omega
  | daily h' =>
    rw [timeM] at hv
    cases hv
    exact daily_nn z.rise
theorem upto_any {a last : Int} {ss : Sh} {p : Plan} (z : ZOk a ss) (ok : PlanOk p) (hl : last ≤ 9999) : ∃ n, Upto a ss p last n := by
  cases p with
  | once m =>
    by_cases e : m ≤ last
    · refine ⟨1, by omega, fun c hc => ⟨m, by rw [timeM, if_pos (by omega)], e⟩, .inl (by rw [timeM, if_neg (by omega)])⟩
    · exact ⟨0, by omega, fun c hc => absurd hc (Nat.not_lt_zero c), .inr ⟨m, by rw [timeM, if_pos rfl], by omega⟩⟩
  | every f s =>
    obtain ⟨n, h1, h2, h3⟩ := least (P := fun (c : Nat) => last < f + c * s) 10000 (by
      have := ok.1.1
      have := Int.mul_le_mul_of_nonneg_left (show (1 : Int) ≤ s from ok.2.1) (show (0 : Int) ≤ ((10000 : Nat) : Int) by omega)
      show last < f + ((10000 : Nat) : Int) * s
      omega)
    exact ⟨n, by omega, fun c hc => ⟨_, rfl, Int.not_lt.mp (h3 c hc)⟩, .inr ⟨_, rfl, h2⟩⟩
  | daily h => exact upto_daily z hl
theorem upto_out {a last : Int} {ss : Sh} {p : Plan} {n : Nat} (z : ZOk a ss) (ok : PlanOk p) (u : Upto a ss p last n) {c : Nat} {v : Int} (h : n ≤ c) (hv : timeM a ss p c = some v) : last < v := by
  rcases u.out with e | ⟨w, e, hw⟩
  · cases p with
    | once m =>
      rw [timeM] at e hv
      by_cases e1 : n = 0
      · rw [if_pos e1] at e; cases e
      · rw [if_neg (by omega)] at hv; cases hv
    | every f s => cases e
    | daily h' => cases e
  · have := time_mono z ok h e hv
    omega
theorem upto_eq {a a' last : Int} {ss ss' : Sh} {p p' : Plan} {n n' : Nat} (u : Upto a ss p last n) (u' : Upto a' ss' p' last n') (h : ∀ c v, v ≤ last → (timeM a ss p c = some v ↔ timeM a' ss' p' c = some v)) : n = n' := by
  rcases Nat.lt_trichotomy n n' with hlt | e | hlt
  · obtain ⟨v, hv, hle⟩ := u'.in_ n hlt
    have hv' := (h n v hle).mpr hv
    rcases u.out with e | ⟨w, e, hw⟩
    · rw [e] at hv'; cases hv'
    · rw [e] at hv'; cases hv'; omega
  · exact e
  · obtain ⟨v, hv, hle⟩ := u.in_ n' hlt
    have hv' := (h n' v hle).mp hv
    rcases u'.out with e | ⟨w, e, hw⟩
    · rw [e] at hv'; cases hv'
    · rw [e] at hv'; cases hv'; omega
theorem rows_all {a last : Int} {ss : Sh} {p : Plan} {n : Nat} (z : ZOk a ss) (ok : PlanOk p) (u : Upto a ss p last n) : rowsM a ss p 0 n = List.range n := by
  unfold rowsM
  refine List.filter_eq_self.mpr fun c hc => decide_eq_true ?_
  obtain ⟨v, hv, _⟩ := u.in_ c (List.mem_range.mp hc)
  unfold timeV
  rw [hv]
  exact time_nn z ok hv
theorem range_cut {n1 : Nat} : ∀ n, n1 ≤ n → List.range n1 ++ (List.range n).filter (fun c => decide (n1 ≤ c)) = List.range n
  | n, h => by
    by_cases e : n = n1
    · subst e
      rw [List.filter_eq_nil_iff.mpr, List.append_nil]
      intro c hc
      have := List.mem_range.mp hc
      simpa using this
    · obtain ⟨m, rfl⟩ : ∃ m, n = m + 1 := ⟨n - 1, by omega⟩
      rw [List.range_succ, List.filter_append, ← List.append_assoc, range_cut m (by omega), List.filter_cons, if_pos (by simp; omega), List.filter_nil]
theorem rows_cut {a cut last : Int} {ss : Sh} {p : Plan} {n1 n3 : Nat} (z : ZOk a ss) (ok : PlanOk p) (hcl : cut ≤ last) (u1 : Upto a ss p cut n1) (u3 : Upto a ss p last n3) : rowsM a ss p 0 n1 ++ rowsM a ss p (cut + 1) n3 = rowsM a ss p 0 n3 := by
  rw [rows_all z ok u1, rows_all z ok u3]
  have h13 : n1 ≤ n3 := by
    refine Nat.le_of_not_lt fun hlt => ?_
    obtain ⟨v, hv, hle⟩ := u1.in_ n3 hlt
    have := upto_out z ok u3 (Nat.le_refl _) hv
    omega
  have e : rowsM a ss p (cut + 1) n3 = (List.range n3).filter (fun c => decide (n1 ≤ c)) := by
    unfold rowsM
    refine List.filter_congr fun c hc => ?_
    obtain ⟨v, hv, _⟩ := u3.in_ c (List.mem_range.mp hc)
    have ev : timeV a ss p c = v := by unfold timeV; rw [hv]; rfl
    rw [ev]
    by_cases h : n1 ≤ c
    · have := upto_out z ok u1 h hv
      rw [decide_eq_true h, decide_eq_true (by omega)]
    · obtain ⟨w, hw, hle⟩ := u1.in_ c (by omega)
      rw [hv] at hw; cases hw
      rw [decide_eq_false h, decide_eq_false (by omega)]
  rw [e]
  exact range_cut n3 h13
theorem lt_cancel {x y s : Int} (hs : 0 < s) (h : x * s < y * s) : x < y := Int.lt_of_mul_lt_mul_right h (by omega)
theorem every_in {a b s last : Int} {ss : Sh} {n : Nat} (u : Upto a ss (.every b s) last n) : (∀ c : Nat, c < n → b + c * s ≤ last) ∧ last < b + n * s := by
  refine ⟨fun c hc => ?_, ?_⟩
  · obtain ⟨v, hv, h⟩ := u.in_ c hc
    cases hv
    exact h
  · rcases u.out with e | ⟨v, e, h⟩
    · cases e
    · cases e
      exact h
theorem every_cnt {a b s last : Int} {ss : Sh} {n : Nat} (hs : 0 < s) (u : Upto a ss (.every b s) last n) : n = cnt3 b (last + 1) s := by
  obtain ⟨h1, h2⟩ := every_in u
  unfold cnt3
  by_cases h : b < last + 1
  · rw [if_pos h]
    have n0 : 0 < n := by
      refine Nat.pos_of_ne_zero fun e => ?_
      subst e
      simp at h2
      omega
    have h3 := h1 (n - 1) (by omega)
    have e1 : ((n - 1 : Nat) : Int) = (n : Int) - 1 := by omega
    rw [e1] at h3
    have e : (last + 1 - b - 1) / s = (n : Int) - 1 := by
      refine Int.le_antisymm ?_ ?_
      · have : (last + 1 - b - 1) / s < n := Int.ediv_lt_of_lt_mul hs (by omega)
        omega
      · exact Int.le_ediv_of_mul_le hs (by omega)
    rw [e]
    omega
  · rw [if_neg h]
    have : n = 0 := by
      refine Nat.eq_zero_of_not_pos fun hp => ?_
      have := h1 0 hp
      simp at this
      omega
    rw [this]; rfl
theorem every_half {a a' b s last : Int} {ss ss' : Sh} {n1 n2 : Nat} (hs : 0 < s) (u1 : Upto a ss (.every b s) last n1) (u2 : Upto a' ss' (.every b (2 * s)) last n2) : n2 = (n1 + 1) / 2 := by
  obtain ⟨h1, h2⟩ := every_in u1
  obtain ⟨h3, h4⟩ := every_in u2
  have r : ∀ x : Int, x * (2 * s) = (2 * x) * s := fun x => by rw [← Int.mul_assoc, Int.mul_comm x 2]
  have q1 : (n2 : Nat) ≤ (n1 + 1) / 2 := by
    by_cases hp : 0 < n2
    · have h5 := h3 (n2 - 1) (by omega)
      rw [r] at h5
      have := lt_cancel (x := 2 * ((n2 - 1 : Nat) : Int)) (y := n1) hs (by omega)
      omega
    · omega
  have q2 : (n1 + 1) / 2 ≤ n2 := by
    by_cases hp : 0 < n1
    · have h5 := h1 (n1 - 1) (by omega)
      rw [r] at h4
      have := lt_cancel (x := ((n1 - 1 : Nat) : Int)) (y := 2 * n2) hs (by omega)
      omega
    · omega
  omega
theorem evens_range {α : Type} (n : Nat) (f : Nat → α) : evens ((List.range n).map f) = (List.range ((n + 1) / 2)).map fun c => f (2 * c) := by
  unfold evens
  rw [List.length_map, List.length_range]
  have : ∀ l : List Nat, (∀ c ∈ l, c < (n + 1) / 2) → l.filterMap (fun i => ((List.range n).map f)[2 * i]?) = l.map fun c => f (2 * c) := fun l => by
    induction l with
    | nil => intro _; rfl
    | cons x r ih =>
      intro h
      have hx := h x List.mem_cons_self
      rw [List.filterMap_cons, List.getElem?_map, List.getElem?_range (by omega), List.map_cons, ← ih fun c hc => h c (List.mem_cons_of_mem _ hc)]
      rfl
  exact this _ fun c hc => List.mem_range.mp hc
theorem shift_time {a h : Int} (hh : 0 ≤ h ∧ h ≤ 23) (c : Nat) : timeM a [] (.daily h) c = timeM 0 [] (.daily ((h - a) % 24)) c := by
  rw [timeM, timeM, plain_daily, plain_daily]
  have f1 := firstDay_spec (a := a) (h := h) (ss := [])
  have f2 := firstDay_spec (a := 0) (h := (h - a) % 24) (ss := [])
  unfold shownM aheadAt at f1 f2
  congr 1
  omega
theorem shown_snoc {b c m : Int} : ∀ {ss : Sh} {a : Int}, m < b → aheadAt a (ss ++ [(b, c)]) m = aheadAt a ss m
  | [], a, h => by
    show aheadAt (if b ≤ m then c else a) [] m = a
    rw [if_neg (by omega)]; rfl
  | (x, y) :: r, a, h => by
    show aheadAt _ (r ++ [(b, c)]) m = aheadAt _ r m
    exact shown_snoc h
theorem first_snoc {a b c g v : Int} {ss : Sh} (hr : Rising 0 ss) (hr' : Rising 0 (ss ++ [(b, c)])) (hv : v < b) : firstM g 0 a ss = v ↔ firstM g 0 a (ss ++ [(b, c)]) = v := by
  obtain ⟨p1, p2, p3⟩ := firstM_spec (g := g) (a := a) hr
  obtain ⟨q1, q2, q3⟩ := firstM_spec (g := g) (a := a) hr'
  have same : ∀ m, m < b → shownM a (ss ++ [(b, c)]) m = shownM a ss m := fun m hm => by unfold shownM; rw [shown_snoc hm]
  constructor
  · intro e
    rw [e] at p1 p2 p3
    rcases Int.lt_trichotomy (firstM g 0 a (ss ++ [(b, c)])) v with h | h | h
    · have h1 := p3 _ q1 h
      rw [same _ (by omega)] at q2
      omega
    · exact h
    · have h1 := q3 _ p1 h
      rw [same _ hv] at h1
      omega
  · intro e
    rw [e] at q1 q2 q3
    rcases Int.lt_trichotomy (firstM g 0 a ss) v with h | h | h
    · have h1 := q3 _ p1 h
      rw [same _ (by omega)] at h1
      omega
    · exact h
    · have h1 := p3 _ q1 h
      rw [same _ hv] at q2
      omega
theorem first_day_snoc {a b c h : Int} {ss : Sh} (hb : 0 < b) : firstDayM a (ss ++ [(b, c)]) h = firstDayM a ss h := by
  unfold firstDayM shownM
  rw [shown_snoc hb]
theorem time_snoc {a b c : Int} {ss : Sh} {p : Plan} (hr : Rising 0 ss) (hr' : Rising 0 (ss ++ [(b, c)])) (hb : 0 < b) (k : Nat) (v : Int) (hv : v ≤ b - 1) : timeM a ss p k = some v ↔ timeM a (ss ++ [(b, c)]) p k = some v := by
  cases p with
  | once m => exact Iff.rfl
  | every f s => exact Iff.rfl
  | daily h =>
    rw [timeM, timeM, dailyM, dailyM, first_day_snoc hb, Option.some.injEq, Option.some.injEq]
    exact first_snoc hr hr' (by omega)
theorem rows_same {a a' last : Int} {ss ss' : Sh} {p p' : Plan} {n : Nat} (u : Upto a ss p last n) (h : ∀ c v, v ≤ last → (timeM a ss p c = some v ↔ timeM a' ss' p' c = some v)) (first : Int) : (rowsM a ss p first n).map (rowD a ss p) = (rowsM a' ss' p' first n).map (rowD a' ss' p') := by
  have e : ∀ c, c < n → timeV a ss p c = timeV a' ss' p' c := fun c hc => by
    obtain ⟨v, hv, hle⟩ := u.in_ c hc
    unfold timeV
    rw [hv, (h c v hle).mp hv]
  have e1 : rowsM a ss p first n = rowsM a' ss' p' first n := by
    unfold rowsM
    refine List.filter_congr fun c hc => ?_
    rw [e c (List.mem_range.mp hc)]
  rw [← e1]
  refine List.map_congr_left fun c hc => ?_
  unfold rowsM at hc
  unfold rowD
  rw [e c (List.mem_range.mp (List.mem_filter.mp hc).1)]

theorem rows_len {a f : Int} {ss : Sh} {p : Plan} {n : Nat} : (rowsM a ss p f n).length ≤ n := by
  unfold rowsM
  exact Nat.le_trans (List.length_filter_le _ _) (by rw [List.length_range]; omega)
theorem lay_pairs {α : Type} (l : List α) (x y : α → Int) : PyData.canLayAll0 (l.map fun c => PyData.tuple [.int (x c), .int (y c)]) = true ∧ PyData.depthAll (l.map fun c => PyData.tuple [.int (x c), .int (y c)]) ≤ 2 := by
  induction l with
  | nil => exact ⟨rfl, Nat.zero_le _⟩
  | cons c r ih =>
    rw [List.map_cons, PyData.canLayAll0, PyData.depthAll, ih.1]
    refine ⟨rfl, ?_⟩
    have : PyData.depth (.tuple [.int (x c), .int (y c)]) ≤ 2 := by
      simp only [PyData.depth, PyData.depthAll]
      decide
    have := ih.2
    omega
theorem shaped_pairs {α : Type} (l : List α) (x y : α → Int) : SeqAt.shaped (.list (l.map fun c => PyData.tuple [.int (x c), .int (y c)])) = true := by
  obtain ⟨h1, h2⟩ := lay_pairs l x y
  unfold SeqAt.shaped
  rw [PyData.canLay0, PyData.depth, h1, Bool.true_and]
  exact decide_eq_true (by omega)
theorem shaped_pairsT {α : Type} (l : List α) (x y : α → Int) : SeqAt.shaped (.tuple (l.map fun c => PyData.tuple [.int (x c), .int (y c)])) = true := by
  obtain ⟨h1, h2⟩ := lay_pairs l x y
  unfold SeqAt.shaped
  rw [PyData.canLay0, PyData.depth, h1, Bool.true_and]
  exact decide_eq_true (by omega)

theorem shaped_mapint {α : Type} (l : List α) (f : α → Int) : SeqAt.shaped (.list (l.map fun c => PyData.int (f c))) = true := by
  have := shaped_ints (l.map f)
  rw [List.map_map] at this
  exact this
theorem upto_tr {a a' last : Int} {ss ss' : Sh} {p p' : Plan} {n : Nat} (e : ∀ c, timeM a ss p c = timeM a' ss' p' c) (u : Upto a ss p last n) : Upto a' ss' p' last n :=
  ⟨u.le, fun c hc => by rw [← e]; exact u.in_ c hc, by rw [← e]; exact u.out⟩
theorem times_tr {a a' : Int} {ss ss' : Sh} {p p' : Plan} {n : Nat} (e : ∀ c, timeM a ss p c = timeM a' ss' p' c) : (List.range n).map (fun c => PyData.int (timeV a ss p c)) = (List.range n).map (fun c => PyData.int (timeV a' ss' p' c)) := by
  have h : ∀ c, timeV a ss p c = timeV a' ss' p' c := fun c => by unfold timeV; rw [e]
  simp only [h]
theorem shift_every {a h : Int} {c : Nat} : timeM a [] (.daily h) c = timeM a [] (.every ((h - a) % 24) 24) c := by
  rw [timeM, timeM, plain_daily]
  have f1 := firstDay_spec (a := a) (h := h) (ss := [])
  unfold shownM aheadAt at f1
  congr 1
  omega
theorem zok_zero : ZOk 0 [] := ⟨by simp, trivial, ⟨by omega, by simp⟩, by simp⟩
theorem upto_none {a : Int} {ss : Sh} {p : Plan} (z : ZOk a ss) (ok : PlanOk p) : Upto a ss p (0 - 1) 0 := by
  refine ⟨by omega, fun c hc => absurd hc (Nat.not_lt_zero c), ?_⟩
  cases h : timeM a ss p 0 with
  | none => exact .inl rfl
  | some v => exact .inr ⟨v, rfl, by have := time_nn z ok h; omega⟩
theorem line5 {n : Nat} (h : n ≤ 100000) : n ≤ sizeLine := Nat.le_trans h (by decide)
def q__law_plan : DR := fun n ds Q => ∃ wd : Int, ds = [.int wd] ∧ (n + 30 ≤ 1000 ∧ 0 < wd ∧ wd ≤ 10000) ∧ ∀ p m, PlanOk p → m ≤ n + 30 → Q (planD p) m
theorem m__law_plan : MnR q__law_plan := fun _ _ _ _ k ⟨a, e, h, q⟩ => ⟨a, e, h, fun p m h1 h2 => k _ _ (q p m h1 h2)⟩
theorem ok__law_plan {g : Addr} {fd : FuncData} (T : Tx K mg) (D : FD K mg "_law_plan" s__law_plan ["_law_script", "_law_town", "_law_wide"] g fd) : FnOk P w K mg base CX0 5 g fd ["_law_script", "_law_town", "_law_wide"] (spR K q__law_plan) := by
  obtain ⟨g__law_draw, fd__law_draw, D__law_draw⟩ := T.d__law_draw
  have G__law_draw := ok__law_draw (P := P) (w := w) (base := base) T D__law_draw
  obtain ⟨g__law_pick, fd__law_pick, D__law_pick⟩ := T.d__law_pick
  have G__law_pick := ok__law_pick (P := P) (w := w) (base := base) T D__law_pick
  refine fn_draw D.fn sc__law_plan ?len m__law_plan (fun cdv A outer s H E F hr =>
      (dss_cons (ds_set (i := 3) sc__law_plan.nd rfl (by first | exact Or.inl rfl | exact Or.inr rfl) (de_draw G__law_draw m__law_draw (hr.mono (by decide)) rfl D__law_draw.mgf D__law_draw.fn.kp D__law_draw.b (pv 0) (pv 1) (da_cons de_int da_nil)))
        (dss_cons (ds_if (db_eq hr.units (de_var 3 (pv 3)) de_int) (dss_one (ds_ret (de_tup (da_cons de_str (da_cons (de_draw G__law_draw m__law_draw (hr.mono (by decide)) rfl D__law_draw.mgf D__law_draw.fn.kp D__law_draw.b (pv 0) (pv 1) (da_cons (de_var 2 (pv 2)) da_nil)) da_nil))))) dss_nil)
        (dss_cons (ds_if (db_eq hr.units (de_var 3 (pv 3)) de_int) (dss_cons (ds_set (i := 4) sc__law_plan.nd rfl (by first | exact Or.inl rfl | exact Or.inr rfl) (de_add de_int (de_draw G__law_draw m__law_draw (hr.mono (by decide)) rfl D__law_draw.mgf D__law_draw.fn.kp D__law_draw.b (pv 0) (pv 1) (da_cons (de_draw G__law_pick m__law_pick (hr.mono (by decide)) rfl D__law_pick.mgf D__law_pick.fn.kp D__law_pick.b (pv 0) (pv 1) (da_cons (de_lst (da_cons de_int (da_cons de_int (da_cons de_int da_nil)))) da_nil)) da_nil))))
        (dss_one (ds_ret (de_tup (da_cons de_str (da_cons (de_draw G__law_draw m__law_draw (hr.mono (by decide)) rfl D__law_draw.mgf D__law_draw.fn.kp D__law_draw.b (pv 0) (pv 1) (da_cons (de_var 2 (pv 2)) da_nil)) (da_cons (de_var 4 (pv 4)) da_nil))))))) dss_nil)
        (dss_one (ds_ret (de_tup (da_cons de_str (da_cons (de_draw G__law_draw m__law_draw (hr.mono (by decide)) rfl D__law_draw.mgf D__law_draw.fn.kp D__law_draw.b (pv 0) (pv 1) (da_cons de_int da_nil)) da_nil))))))))) ?rd
  case len => rintro n ds Q ⟨wd, rfl, hn, _⟩; rfl
  case rd =>
    rintro n ds Q ns adr ⟨wd, rfl, hn, q⟩ hns
    obtain ⟨hn, w0, w1⟩ := hn
    show (_ : DTS) _ [some (.scr ns), some (.cnt adr n), some (.dat (.int wd)), none, none]
    repeat walk_at "ev1"
    refine ⟨3, rfl, by omega, by decide, fun k k1 k2 => ?_⟩
    repeat walk_at "ev1"
    refine ⟨shaped_int _, shaped_int _, ?_⟩
    rw [eqv_int, Bool.bne_false]
    repeat walk_at "ev1"
    by_cases e : k = 0
    · refine ifT (by simpa using e) ?_
      repeat walk_at "ev1"
      refine ⟨wd, rfl, by omega, w0, fun r r1 r2 => ?_⟩
      repeat walk_at "ev1"
      refine ⟨(by decide : 2 ≤ sizeLine), ?_⟩
      exact ⟨_, rfl, q (.once r) (n + 1 + 1) ⟨r1, by omega⟩ (by omega)⟩
    · refine ifF (by simpa using e) ?_
      repeat walk_at "ev1"
      refine ⟨shaped_int _, shaped_int _, ?_⟩
      rw [eqv_int, Bool.bne_false]
      repeat walk_at "ev1"
      by_cases e2 : k = 1
      · refine ifT (by simpa using e2) ?_
        repeat walk_at "ev1"
        refine ⟨(by decide : 3 ≤ sizeLine), ?_⟩
        repeat walk_at "ev1"
        refine ⟨_, rfl, by omega, by simp, fun x hx => ?_⟩
        have hc : ∃ c : Int, x = .int c ∧ 0 < c ∧ c ≤ 200 := by
          simp only [List.mem_cons, List.not_mem_nil, or_false] at hx
          rcases hx with rfl | rfl | rfl <;> exact ⟨_, rfl, by decide, by decide⟩
        obtain ⟨c, rfl, c1, c2⟩ := hc
        repeat walk_at "ev1"
        refine ⟨c, rfl, by omega, c1, fun r r1 r2 => ?_⟩
        repeat walk_at "ev1"
        refine ⟨wd, rfl, by omega, w0, fun f f1 f2 => ?_⟩
        repeat walk_at "ev1"
        refine ⟨(by decide : 3 ≤ sizeLine), ?_⟩
        exact ⟨_, rfl, q (.every f (1 + r)) (n + 1 + 1 + 1 + 1) ⟨⟨f1, by omega⟩, by omega, by omega⟩ (by omega)⟩
      · refine ifF (by simpa using e2) ?_
        repeat walk_at "ev1"
        refine ⟨24, rfl, by omega, by decide, fun h h1 h2 => ?_⟩
        repeat walk_at "ev1"
        refine ⟨(by decide : 2 ≤ sizeLine), ?_⟩
        exact ⟨_, rfl, q (.daily h) (n + 1 + 1) ⟨h1, by omega⟩ (by omega)⟩


def goalM (a : Int) (ss : Sh) (h : Int) (k : Nat) : Int := (firstDayM a ss h + k) * 24 + h
theorem daily_first {a h m : Int} {ss : Sh} {k : Nat} (hr : Rising 0 ss) (h0 : 0 ≤ m) (h1 : m ≤ dailyM a ss h k) : goalM a ss h k ≤ shownM a ss m ↔ dailyM a ss h k = m := by
  obtain ⟨q1, q2, q3⟩ := firstM_spec (g := goalM a ss h k) (a := a) hr
  have e : dailyM a ss h k = firstM (goalM a ss h k) 0 a ss := rfl
  rw [e] at h1 ⊢
  constructor
  · intro h2
    refine Int.le_antisymm (Int.not_lt.mp fun hlt => ?_) h1
    have := q3 m h0 hlt
    omega
  · intro h2
    rw [h2] at q2
    exact q2
theorem dailies_len {a h m : Int} {ss : Sh} {n : Nat} (u : Upto a ss (.daily h) m n) (hr : Rising 0 ss) {k : Nat} (hk : k ≤ n) (h1 : m ≤ dailyM a ss h k) (h2 : goalM a ss h k ≤ shownM a ss m) (h0 : 0 ≤ m) : k < n := by
  have e := (daily_first hr h0 h1).mp h2
  refine Nat.lt_of_le_of_ne hk fun e2 => ?_
  subst e2
  rcases u.out with e' | ⟨v, e', hv⟩
  · cases e'
  · cases e'
    omega
def q__law_times : DN := fun ds Q => ∃ a ss p last n, ds = [zoneD a ss, planD p, .int last] ∧ ZOk a ss ∧ PlanOk p ∧ (0 ≤ last ∧ last ≤ 9999) ∧ Upto a ss p last n ∧ Q (.list ((List.range n).map fun c => .int (timeV a ss p c)))
theorem m__law_times : MnN q__law_times := fun _ _ _ k ⟨a, ss, p, last, n, e, z, ok, hl, u, q⟩ => ⟨a, ss, p, last, n, e, z, ok, hl, u, k _ q⟩
theorem ok__law_times {g : Addr} {fd : FuncData} (T : Tx K mg) (D : FD K mg "_law_times" s__law_times ["_law_zone_here", "_law_plan_here", "_law_last"] g fd) : FnOk P w K mg base CX0 2 g fd ["_law_zone_here", "_law_plan_here", "_law_last"] (spP q__law_times) := by
  obtain ⟨g__law_shown, fd__law_shown, D__law_shown⟩ := T.d__law_shown
  have G__law_shown := ok__law_shown (P := P) (w := w) (base := base) T D__law_shown
  refine fn_pure D.fn sc__law_times ?len m__law_times (fun cdv A outer s H E F hr =>
      (dss_cons (ds_if (db_eq hr.units (de_ixT (de_var 1 (pv 1)) de_int) de_str) (dss_one (ds_ret (de_if (db_le (de_ixT (de_var 1 (pv 1)) de_int) (de_var 2 (pv 2))) (de_lst (da_cons (de_ixT (de_var 1 (pv 1)) de_int) da_nil)) (de_lst da_nil)))) dss_nil)
        (dss_cons (ds_if (db_eq hr.units (de_ixT (de_var 1 (pv 1)) de_int) de_str) (dss_one (ds_ret (de_listrange3 rfl rfl T.b_list rfl T.b_range (da_cons (de_ixT (de_var 1 (pv 1)) de_int) (da_cons (de_add (de_var 2 (pv 2)) de_int) (da_cons (de_ixT (de_var 1 (pv 1)) de_int) da_nil)))))) dss_nil)
        (dss_cons (ds_set (i := 3) sc__law_times.nd rfl (by first | exact Or.inl rfl | exact Or.inr rfl) (de_ixT (de_var 1 (pv 1)) de_int))
        (dss_cons (ds_while PassesOwn.never (db_lt (de_var 3 (pv 3)) (de_call G__law_shown m__law_shown (hr.mono (by decide)) rfl D__law_shown.mgf D__law_shown.fn.kp D__law_shown.b (da_cons (de_var 0 (pv 0)) (da_cons de_int da_nil)))) (dss_one (ds_set (i := 3) sc__law_times.nd rfl (by first | exact Or.inl rfl | exact Or.inr rfl) (de_add (de_var 3 (pv 3)) de_int))))
        (dss_cons (ds_while PassesOwn.never (db_ge (de_sub (de_var 3 (pv 3)) de_int) (de_call G__law_shown m__law_shown (hr.mono (by decide)) rfl D__law_shown.mgf D__law_shown.fn.kp D__law_shown.b (da_cons (de_var 0 (pv 0)) (da_cons de_int da_nil)))) (dss_one (ds_set (i := 3) sc__law_times.nd rfl (by first | exact Or.inl rfl | exact Or.inr rfl) (de_sub (de_var 3 (pv 3)) de_int))))
        (dss_cons (ds_own (i := 4) sc__law_times.nd rfl (by first | exact Or.inl rfl | exact Or.inr rfl) da_nil)
        (dss_cons (ds_for PassesOwn.never rfl (di_range1 rfl T.b_range (da_cons (de_add (de_var 2 (pv 2)) de_int) da_nil)) (dg_name (pg_name (i := 5) sc__law_times.nd rfl (by first | exact Or.inl rfl | exact Or.inr rfl))) (dss_one (ds_while PassesOwn.never (db_le (de_var 3 (pv 3)) (de_call G__law_shown m__law_shown (hr.mono (by decide)) rfl D__law_shown.mgf D__law_shown.fn.kp D__law_shown.b (da_cons (de_var 0 (pv 0)) (da_cons (de_var 5 (pv 5)) da_nil)))) (dss_cons (ds_app (pv 4) (de_var 5 (pv 5)))
        (dss_one (ds_set (i := 3) sc__law_times.nd rfl (by first | exact Or.inl rfl | exact Or.inr rfl) (de_add (de_var 3 (pv 3)) de_int)))))))
        (dss_one (ds_ret (de_var 4 (pv 4)))))))))))) ?rd
  case len => rintro ds Q ⟨a, ss, p, last, n, rfl, z, ok, hl, u, _⟩; rfl
  case rd =>
    rintro ds Q ⟨a, ss, p, last, n, rfl, z, ok, hl, u, q⟩
    have s1 : SeqAt.shaped (PyData.str (Str.ofString "once")) = true := by decide +kernel
    have s2 : SeqAt.shaped (PyData.str (Str.ofString "every")) = true := by decide +kernel
    have s3 : SeqAt.shaped (PyData.str (Str.ofString "daily")) = true := by decide +kernel
    have c1 : (PyData.eqv (PyData.str (Str.ofString "once")) (.str (Str.ofString "once")) != false) = true := by rw [eqv_str]; decide +kernel
    have c2 : ¬ (PyData.eqv (PyData.str (Str.ofString "every")) (.str (Str.ofString "once")) != false) = true := by rw [eqv_str]; decide +kernel
    have c3 : (PyData.eqv (PyData.str (Str.ofString "every")) (.str (Str.ofString "every")) != false) = true := by rw [eqv_str]; decide +kernel
    have c4 : ¬ (PyData.eqv (PyData.str (Str.ofString "daily")) (.str (Str.ofString "once")) != false) = true := by rw [eqv_str]; decide +kernel
    have c5 : ¬ (PyData.eqv (PyData.str (Str.ofString "daily")) (.str (Str.ofString "every")) != false) = true := by rw [eqv_str]; decide +kernel
    have bn := u.le
    cases p with
    | once m =>
      show (_ : DTS) _ [some (.dat (zoneD a ss)), some (.dat (planD (.once m))), some (.dat (.int last)), none, none, none]
      repeat walk_at "ev1"
      refine ⟨s1, s1, ?_⟩
      repeat walk_at "ev1"
      refine ifT c1 ?_
      repeat walk_at "ev1"
      by_cases e : m ≤ last
      · refine ifT (decide_eq_true e) ?_
        repeat walk_at "ev1"
        refine ⟨(by decide : 1 ≤ sizeLine), ?_⟩
        have hn : n = 1 := by
          rcases Nat.lt_trichotomy n 1 with h | h | h
          · have h0 : n = 0 := by omega
            subst h0
            rcases u.out with h | ⟨v, h, hv⟩
            · rw [timeM, if_pos rfl] at h; cases h
            · rw [timeM, if_pos rfl] at h; cases h; omega
          · exact h
          · obtain ⟨v, hv, _⟩ := u.in_ 1 h
            rw [timeM, if_neg (by decide)] at hv; cases hv
        subst hn
        exact q
      · refine ifF (by simpa using e) ?_
        repeat walk_at "ev1"
        refine ⟨Nat.zero_le _, ?_⟩
        have hn : n = 0 := by
          refine Nat.eq_zero_of_not_pos fun h => ?_
          obtain ⟨v, hv, h'⟩ := u.in_ 0 h
          rw [timeM, if_pos rfl] at hv; cases hv; omega
        subst hn
        exact q
    | every f s =>
      obtain ⟨o0, o1, o2⟩ := id ok
      show (_ : DTS) _ [some (.dat (zoneD a ss)), some (.dat (planD (.every f s))), some (.dat (.int last)), none, none, none]
      repeat walk_at "ev1"
      refine ⟨s2, s1, ?_⟩
      repeat walk_at "ev1"
      refine ifF c2 ?_
      repeat walk_at "ev1"
      refine ⟨s2, s2, ?_⟩
      repeat walk_at "ev1"
      refine ifT c3 ?_
      repeat walk_at "ev1"
      refine ⟨⟨⟨o0.1, by omega⟩, ⟨by show 0 ≤ last + 1; omega, by show last + 1 ≤ 2 ^ 20; omega⟩, ⟨by omega, by omega⟩⟩, ?_⟩
      have ec : cnt3 f (last + 1) s = n := (every_cnt (by omega) u).symm
      show Q (.list ((List.range (cnt3 f (last + 1) s)).map fun (m : Nat) => PyData.int (f + m * s)))
      rw [ec]
      exact q
    | daily hh =>
      show (_ : DTS) _ [some (.dat (zoneD a ss)), some (.dat (planD (.daily hh))), some (.dat (.int last)), none, none, none]
      repeat walk_at "ev1"
      refine ⟨s3, s1, ?_⟩
      repeat walk_at "ev1"
      refine ifF c4 ?_
      repeat walk_at "ev1"
      refine ⟨s3, s2, ?_⟩
      repeat walk_at "ev1"
      refine ifF c5 ?_
      try dsimp only [List.set_cons_zero, List.set_cons_succ]
      repeat walk_at "ev1"
      have fd := firstDay_spec (a := a) (h := hh) (ss := ss)
      refine ⟨fun ρ => ∃ g j : Int, ρ = [some (.dat (zoneD a ss)), some (.dat (planD (.daily hh))), some (.dat (.int last)), some (.dat (.int g)), none, none] ∧ g = hh + 24 * j ∧ (g < shownM a ss 0 + 24 ∨ g = hh), fun ρ => match ρ with | [_, _, _, some (.dat (.int g)), _, _] => (shownM a ss 0 - g).toNat | _ => 0, ⟨hh, 0, rfl, by omega, .inr rfl⟩, ?_⟩
      rintro ρ ⟨g, j, rfl, hg, hg2⟩
      repeat walk_at "ev1"
      refine ⟨a, ss, 0, rfl, ?_⟩
      repeat walk_at "ev1"
      by_cases e1 : g < shownM a ss 0
      · refine ifT (decide_eq_true e1) ?_
        repeat walk_at "ev1"
        refine ⟨⟨g + 24, j + 1, rfl, by omega, .inl (by omega)⟩, ?_⟩
        show (shownM a ss 0 - (g + 24)).toNat < (shownM a ss 0 - g).toNat
        omega
      · refine ifF (by simpa using e1) ?_
        repeat walk_at "ev1"
        refine ⟨fun ρ => ∃ g j : Int, ρ = [some (.dat (zoneD a ss)), some (.dat (planD (.daily hh))), some (.dat (.int last)), some (.dat (.int g)), none, none] ∧ g = hh + 24 * j ∧ shownM a ss 0 ≤ g, fun ρ => match ρ with | [_, _, _, some (.dat (.int g)), _, _] => (g - shownM a ss 0).toNat | _ => 0, ⟨g, j, rfl, hg, by omega⟩, ?_⟩
        rintro ρ ⟨g, j, rfl, hg, hg2⟩
        repeat walk_at "ev1"
        refine ⟨a, ss, 0, rfl, ?_⟩
        repeat walk_at "ev1"
        by_cases e2 : g - 24 ≥ shownM a ss 0
        · refine ifT (decide_eq_true e2) ?_
          repeat walk_at "ev1"
          refine ⟨⟨g - 24, j - 1, rfl, by omega, by omega⟩, ?_⟩
          show (g - 24 - shownM a ss 0).toNat < (g - shownM a ss 0).toNat
          omega
        · refine ifF (by simpa using e2) ?_
          have eg : g = goalM a ss hh 0 := by unfold goalM; omega
          subst eg
          repeat walk_at "ev1"
          refine ⟨Nat.zero_le _, ?_⟩
          repeat walk_at "ev1"
          refine ⟨⟨by show -(2 ^ 62) ≤ last + 1; omega, by show last + 1 < 2 ^ 62; omega⟩, ?_⟩
          refine ⟨fun i ρ => ∃ (k : Nat) (x : Option Cell), ρ = [some (.dat (zoneD a ss)), some (.dat (planD (.daily hh))), some (.dat (.int last)), some (.dat (.int (goalM a ss hh k))), some (.own ((List.range k).map fun c => PyData.int (dailyM a ss hh c))), x] ∧ k ≤ n ∧ (∀ c, c < k → dailyM a ss hh c < i) ∧ (i : Int) ≤ dailyM a ss hh k, ⟨0, none, rfl, Nat.zero_le _, fun c hc => absurd hc (Nat.not_lt_zero c), daily_nn z.rise⟩, ?_, ?_⟩
          · rintro i d ρ hd ⟨k, x, rfl, kn, k1, k2⟩
            have hi : i < (last + 1).toNat := by
              have := (List.getElem?_eq_some_iff.mp hd).1
              rw [intsFrom_length] at this
              exact this
            have hd' : d = .int (0 + (i : Int)) := by
              unfold L3.intsFrom at hd
              rw [List.getElem?_map, List.getElem?_range (by exact hi)] at hd
              exact (Option.some.inj hd).symm
            subst hd'
            rw [Int.zero_add]
            repeat walk_at "ev1"
            obtain ⟨ni, ui⟩ := upto_daily (h := hh) (last := (i : Int)) z (by omega)
            refine ⟨fun ρ => ∃ k : Nat, ρ = [some (.dat (zoneD a ss)), some (.dat (planD (.daily hh))), some (.dat (.int last)), some (.dat (.int (goalM a ss hh k))), some (.own ((List.range k).map fun c => PyData.int (dailyM a ss hh c))), some (.dat (.int (i : Int)))] ∧ k ≤ n ∧ k ≤ ni ∧ (∀ c, c < k → dailyM a ss hh c ≤ i) ∧ (i : Int) ≤ dailyM a ss hh k, fun ρ => match ρ with | [_, _, _, _, some (.own l), _] => ni - l.length | _ => 0, ⟨k, rfl, kn, ?_, fun c hc => Int.le_of_lt (k1 c hc), k2⟩, ?_⟩
            · refine Nat.le_of_not_lt fun hlt => ?_
              have := k1 ni hlt
              have := upto_out (p := .daily hh) (v := dailyM a ss hh ni) z ⟨ok.1, ok.2⟩ ui (Nat.le_refl _) rfl
              omega
            rintro ρ ⟨k, rfl, kn, kni, k1, k2⟩
            repeat walk_at "ev1"
            refine ⟨a, ss, _, rfl, ?_⟩
            repeat walk_at "ev1"
            by_cases e3 : goalM a ss hh k ≤ shownM a ss i
            · refine ifT (decide_eq_true e3) ?_
              have ek := (daily_first z.rise (by omega) k2).mp e3
              have kl := dailies_len ui z.rise kni k2 e3 (by omega)
              have kl2 : k < n := by
                refine Nat.lt_of_le_of_ne kn fun e2 => ?_
                subst e2
                have := upto_out (p := .daily hh) (v := dailyM a ss hh k) z ⟨ok.1, ok.2⟩ u (Nat.le_refl _) rfl
                omega
              repeat walk_at "ev1"
              refine ⟨by rw [List.length_map, List.length_range]; exact Nat.lt_of_le_of_lt (show k ≤ 20000 by omega) (by decide), ?_⟩
              repeat walk_at "ev1"
              refine ⟨⟨k + 1, ?_, by omega, by omega, fun c hc => ?_, ?_⟩, ?_⟩
              · rw [List.range_succ, List.map_append, List.map_cons, List.map_nil, ek]
                have e5 : goalM a ss hh (k + 1) = goalM a ss hh k + 24 := by unfold goalM; omega
                rw [e5]
                rfl
              · by_cases ec : c = k
                · subst ec; omega
                · exact k1 c (by omega)
              · have := daily_mono (a := a) (h := hh) (ss := ss) (c := k) (d := k + 1) z.rise (by omega)
                omega
              · show ni - ((List.range k).map _ ++ [_]).length < ni - ((List.range k).map _).length
                rw [List.length_append, List.length_map, List.length_range]
                show ni - (k + 1) < ni - k
                omega
            · refine ifF (by simpa using e3) ?_
              have hne : dailyM a ss hh k ≠ i := fun e4 => e3 ((daily_first z.rise (by omega) k2).mpr e4)
              exact ⟨k, _, rfl, kn, fun c hc => by have := k1 c hc; omega, by omega⟩
          · rintro ρ ⟨k, x, rfl, kn, k1, k2⟩
            rw [intsFrom_length] at k1 k2
            have k1 : ∀ c, c < k → dailyM a ss hh c < ((last + 1).toNat : Int) := k1
            have k2 : ((last + 1).toNat : Int) ≤ dailyM a ss hh k := k2
            have ek : k = n := by
              refine Nat.le_antisymm kn (Nat.le_of_not_lt fun hlt => ?_)
              obtain ⟨v, hv, hle⟩ := u.in_ k hlt
              cases hv
              omega
            subst ek
            repeat walk_at "ev1"
            exact q


theorem time_some {a : Int} {ss : Sh} {p : Plan} (h : ∀ m, p ≠ .once m) (c : Nat) : timeM a ss p c = some (timeV a ss p c) := by
  cases p with
  | once m => exact absurd rfl (h m)
  | every f s => rfl
  | daily hh => rfl
def gapsM (a : Int) (ss : Sh) (p : Plan) (many : Nat) : List Int := (List.range many).map fun c => timeV a ss p (c + 1) - timeV a ss p c
theorem gaps_len {a : Int} {ss : Sh} {p : Plan} {many : Nat} : (gapsM a ss p many).length = many := by unfold gapsM; rw [List.length_map, List.length_range]
def q_check_count : DN := fun ds Q => ∃ i : Int, ds = [.int i] ∧ (0 ≤ i ∧ i ≤ 9999) ∧ Q .none
theorem m_check_count : MnN q_check_count := fun _ _ _ k ⟨i, e, h, q⟩ => ⟨i, e, h, k _ q⟩
theorem ok_check_count {g : Addr} {fd : FuncData} (T : Tx K mg) (D : FD K mg "check_count" s_check_count ["thing"] g fd) : FnOk P w K mg base CX0 2 g fd ["thing"] (spP q_check_count) := by
  obtain ⟨g_is_whole, fd_is_whole, D_is_whole⟩ := T.d_is_whole
  have G_is_whole := ok_is_whole (P := P) (w := w) (base := base) T D_is_whole
  obtain ⟨t_LAST_COUNT, g_LAST_COUNT⟩ := T.c_LAST_COUNT
  refine fn_pure D.fn sc_check_count ?len m_check_count (fun cdv A outer s H E F hr =>
      (dss_one (ds_if (db_not (db_val (de_call G_is_whole m_is_whole (hr.mono (by decide)) rfl D_is_whole.mgf D_is_whole.fn.kp D_is_whole.b (da_cons (de_var 0 (pv 0)) (da_cons de_int (da_cons (de_gint rfl g_LAST_COUNT) da_nil)))))) dss_never dss_nil))) ?rd
  case len => rintro ds Q ⟨i, rfl, h, _⟩; rfl
  case rd =>
    rintro ds Q ⟨i, rfl, h, q⟩
    show (_ : DTS) _ [some (.dat (.int i))]
    repeat walk_at "ev1"
    refine ⟨i, _, _, rfl, ?_⟩
    repeat walk_at "ev1"
    refine ifF (by simp; omega) ?_
    repeat walk_at "ev1"
    exact q

def q_due : DN := fun ds Q => ∃ a ss p c, ds = [zoneD a ss, planD p, .int (c : Nat)] ∧ (ZOk a ss ∧ PlanOk p ∧ c ≤ 9999) ∧ Q (optD (timeM a ss p c))
theorem m_due : MnN q_due := fun _ _ _ k ⟨a, ss, p, c, e, h, q⟩ => ⟨a, ss, p, c, e, h, k _ q⟩
theorem ok_due {g : Addr} {fd : FuncData} (T : Tx K mg) (D : FD K mg "due" s_due ["zone", "plan", "count"] g fd) : FnOk P w K mg base CX0 6 g fd ["zone", "plan", "count"] (spP q_due) := by
  obtain ⟨g_check_zone, fd_check_zone, D_check_zone⟩ := T.d_check_zone
  have G_check_zone := ok_check_zone (P := P) (w := w) (base := base) T D_check_zone
  obtain ⟨g_check_plan, fd_check_plan, D_check_plan⟩ := T.d_check_plan
  have G_check_plan := ok_check_plan (P := P) (w := w) (base := base) T D_check_plan
  obtain ⟨g_check_count, fd_check_count, D_check_count⟩ := T.d_check_count
  have G_check_count := ok_check_count (P := P) (w := w) (base := base) T D_check_count
  obtain ⟨g_time_of, fd_time_of, D_time_of⟩ := T.d_time_of
  have G_time_of := ok_time_of (P := P) (w := w) (base := base) T D_time_of
  refine fn_pure D.fn sc_due ?len m_due (fun cdv A outer s H E F hr =>
      (dss_cons (ds_expr (de_call G_check_zone m_check_zone (hr.mono (by decide)) rfl D_check_zone.mgf D_check_zone.fn.kp D_check_zone.b (da_cons (de_var 0 (pv 0)) da_nil)))
        (dss_cons (ds_expr (de_call G_check_plan m_check_plan (hr.mono (by decide)) rfl D_check_plan.mgf D_check_plan.fn.kp D_check_plan.b (da_cons (de_var 1 (pv 1)) da_nil)))
        (dss_cons (ds_expr (de_call G_check_count m_check_count (hr.mono (by decide)) rfl D_check_count.mgf D_check_count.fn.kp D_check_count.b (da_cons (de_var 2 (pv 2)) da_nil)))
        (dss_one (ds_ret (de_call G_time_of m_time_of (hr.mono (by decide)) rfl D_time_of.mgf D_time_of.fn.kp D_time_of.b (da_cons (de_var 0 (pv 0)) (da_cons (de_var 1 (pv 1)) (da_cons (de_var 2 (pv 2)) da_nil)))))))))) ?rd
  case len => rintro ds Q ⟨a, ss, p, c, rfl, h, _⟩; rfl
  case rd =>
    rintro ds Q ⟨a, ss, p, c, rfl, h, q⟩
    obtain ⟨z, ok, hc⟩ := h
    show (_ : DTS) _ [some (.dat (zoneD a ss)), some (.dat (planD p)), some (.dat (.int (c : Nat)))]
    repeat walk_at "ev1"
    refine ⟨a, ss, rfl, z, ?_⟩
    repeat walk_at "ev1"
    refine ⟨p, rfl, ok, ?_⟩
    repeat walk_at "ev1"
    refine ⟨c, rfl, ⟨by omega, by omega⟩, ?_⟩
    repeat walk_at "ev1"
    exact ⟨a, ss, p, c, rfl, ⟨z.len, ok⟩, q⟩

def q_gaps : DN := fun ds Q => ∃ a ss p many, ds = [zoneD a ss, planD p, .int (many : Nat)] ∧ (ZOk a ss ∧ PlanOk p ∧ many ≤ 999) ∧ ((∃ m, p = .once m) → Q (.list [])) ∧ ((∀ m, p ≠ .once m) → Q (.list ((gapsM a ss p many).map .int)))
theorem m_gaps : MnN q_gaps := fun _ _ _ k ⟨a, ss, p, m, e, h, q1, q2⟩ => ⟨a, ss, p, m, e, h, fun z => k _ (q1 z), fun z => k _ (q2 z)⟩
theorem ok_gaps {g : Addr} {fd : FuncData} (T : Tx K mg) (D : FD K mg "gaps" s_gaps ["zone", "plan", "many"] g fd) : FnOk P w K mg base CX0 6 g fd ["zone", "plan", "many"] (spP q_gaps) := by
  obtain ⟨g_check_zone, fd_check_zone, D_check_zone⟩ := T.d_check_zone
  have G_check_zone := ok_check_zone (P := P) (w := w) (base := base) T D_check_zone
  obtain ⟨g_check_plan, fd_check_plan, D_check_plan⟩ := T.d_check_plan
  have G_check_plan := ok_check_plan (P := P) (w := w) (base := base) T D_check_plan
  obtain ⟨g_is_whole, fd_is_whole, D_is_whole⟩ := T.d_is_whole
  have G_is_whole := ok_is_whole (P := P) (w := w) (base := base) T D_is_whole
  obtain ⟨g_time_of, fd_time_of, D_time_of⟩ := T.d_time_of
  have G_time_of := ok_time_of (P := P) (w := w) (base := base) T D_time_of
  obtain ⟨t_MOST_GAPS, g_MOST_GAPS⟩ := T.c_MOST_GAPS
  refine fn_pure D.fn sc_gaps ?len m_gaps (fun cdv A outer s H E F hr =>
      (dss_cons (ds_expr (de_call G_check_zone m_check_zone (hr.mono (by decide)) rfl D_check_zone.mgf D_check_zone.fn.kp D_check_zone.b (da_cons (de_var 0 (pv 0)) da_nil)))
        (dss_cons (ds_expr (de_call G_check_plan m_check_plan (hr.mono (by decide)) rfl D_check_plan.mgf D_check_plan.fn.kp D_check_plan.b (da_cons (de_var 1 (pv 1)) da_nil)))
        (dss_cons (ds_if (db_not (db_val (de_call G_is_whole m_is_whole (hr.mono (by decide)) rfl D_is_whole.mgf D_is_whole.fn.kp D_is_whole.b (da_cons (de_var 2 (pv 2)) (da_cons de_int (da_cons (de_gint rfl g_MOST_GAPS) da_nil)))))) dss_never dss_nil)
        (dss_cons (ds_own (i := 3) sc_gaps.nd rfl (by first | exact Or.inl rfl | exact Or.inr rfl) da_nil)
        (dss_cons (ds_for PassesOwn.never rfl (di_range1 rfl T.b_range (da_cons (de_var 2 (pv 2)) da_nil)) (dg_name (pg_name (i := 4) sc_gaps.nd rfl (by first | exact Or.inl rfl | exact Or.inr rfl))) (dss_cons (ds_set (i := 5) sc_gaps.nd rfl (by first | exact Or.inl rfl | exact Or.inr rfl) (de_call G_time_of m_time_of (hr.mono (by decide)) rfl D_time_of.mgf D_time_of.fn.kp D_time_of.b (da_cons (de_var 0 (pv 0)) (da_cons (de_var 1 (pv 1)) (da_cons (de_add (de_var 4 (pv 4)) de_int) da_nil)))))
        (dss_cons (ds_if (db_isN (de_var 5 (pv 5)) de_non) (dss_one ds_break) dss_nil)
        (dss_one (ds_app (pv 3) (de_sub (de_var 5 (pv 5)) (de_call G_time_of m_time_of (hr.mono (by decide)) rfl D_time_of.mgf D_time_of.fn.kp D_time_of.b (da_cons (de_var 0 (pv 0)) (da_cons (de_var 1 (pv 1)) (da_cons (de_var 4 (pv 4)) da_nil))))))))))
        (dss_one (ds_ret (de_var 3 (pv 3)))))))))) ?rd
  case len => rintro ds Q ⟨a, ss, p, many, rfl, h, q1, _⟩; rfl
  case rd =>
    rintro ds Q ⟨a, ss, p, many, rfl, h, q1, q⟩
    obtain ⟨z, ok, hm⟩ := h
    show (_ : DTS) _ [some (.dat (zoneD a ss)), some (.dat (planD p)), some (.dat (.int (many : Nat))), none, none, none]
    repeat walk_at "ev1"
    refine ⟨a, ss, rfl, z, ?_⟩
    repeat walk_at "ev1"
    refine ⟨p, rfl, ok, ?_⟩
    repeat walk_at "ev1"
    refine ⟨many, _, _, rfl, ?_⟩
    repeat walk_at "ev1"
    refine ifF (by simp; omega) ?_
    repeat walk_at "ev1"
    refine ⟨Nat.zero_le _, ?_⟩
    repeat walk_at "ev1"
    refine ⟨⟨by omega, by omega⟩, ?_⟩
    by_cases ho : ∃ m, p = .once m
    · obtain ⟨m, rfl⟩ := ho
      refine ⟨fun i ρ => i = 0 ∧ ∃ x y, ρ = [some (.dat (zoneD a ss)), some (.dat (planD (.once m))), some (.dat (.int (many : Nat))), some (.own []), x, y], ⟨rfl, none, none, rfl⟩, ?_, ?_⟩
      · rintro i d ρ hd ⟨rfl, x, y, rfl⟩
        have hd' : d = .int (0 + ((0 : Nat) : Int)) := by
          unfold L3.intsFrom at hd
          rw [List.getElem?_map] at hd
          obtain ⟨c, h1, h2⟩ := Option.map_eq_some_iff.mp hd
          obtain ⟨hlt, h3⟩ := List.getElem?_eq_some_iff.mp h1
          rw [List.getElem_range] at h3
          subst h3
          exact h2.symm
        subst hd'
        repeat walk_at "ev1"
        refine ⟨a, ss, .once m, 1, rfl, ⟨z.len, ok⟩, ?_⟩
        rw [timeM, if_neg (by decide)]
        repeat walk_at "ev1"
        refine ifT (by rfl) ?_
        repeat walk_at "ev1"
        exact q1 ⟨m, rfl⟩
      · rintro ρ ⟨_, x, y, rfl⟩
        repeat walk_at "ev1"
        exact q1 ⟨m, rfl⟩
    · have hn : ∀ m, p ≠ .once m := fun m e => ho ⟨m, e⟩
      refine ⟨fun i ρ => i ≤ many ∧ ∃ x y, ρ = [some (.dat (zoneD a ss)), some (.dat (planD p)), some (.dat (.int (many : Nat))), some (.own ((gapsM a ss p i).map .int)), x, y], ⟨Nat.zero_le _, none, none, rfl⟩, ?_, ?_⟩
      · rintro i d ρ hd ⟨hi, x, y, rfl⟩
        have hd' : d = .int (0 + (i : Int)) ∧ i < many := by
          unfold L3.intsFrom at hd
          rw [List.getElem?_map] at hd
          obtain ⟨c, h1, h2⟩ := Option.map_eq_some_iff.mp hd
          obtain ⟨hlt, h3⟩ := List.getElem?_eq_some_iff.mp h1
          rw [List.getElem_range] at h3
          subst h3
          rw [List.length_range] at hlt
          exact ⟨h2.symm, by omega⟩
        obtain ⟨rfl, hlt⟩ := hd'
        rw [Int.zero_add]
        repeat walk_at "ev1"
        refine ⟨a, ss, p, i + 1, rfl, ⟨z.len, ok⟩, ?_⟩
        rw [time_some hn]
        repeat walk_at "ev1"
        refine ifF (by simp [isNone]) ?_
        repeat walk_at "ev1"
        refine ⟨a, ss, p, i, rfl, ⟨z.len, ok⟩, ?_⟩
        rw [time_some hn]
        repeat walk_at "ev1"
        refine ⟨by rw [List.length_map, gaps_len]; exact Nat.lt_of_le_of_lt (show i ≤ 999 by omega) (by decide), ?_⟩
        repeat walk_at "ev1"
        have eg : (gapsM a ss p (i + 1)).map PyData.int = (gapsM a ss p i).map PyData.int ++ [.int (timeV a ss p (i + 1) - timeV a ss p i)] := by
          unfold gapsM
          rw [List.range_succ, List.map_append, List.map_append]
          rfl
        refine ⟨by omega, some (.dat (.int (i : Int))), some (.dat (.int (timeV a ss p (i + 1)))), ?_⟩
        rw [eg]
        rfl
      · rintro ρ ⟨hi, x, y, rfl⟩
        rw [intsFrom_length]
        repeat walk_at "ev1"
        exact q hn


theorem rep_one {x : Int} : ∀ k : Nat, (List.replicate k [PyData.int x]).flatten = (List.replicate k x).map PyData.int
  | 0 => rfl
  | k + 1 => by rw [List.replicate_succ, List.flatten_cons, rep_one k, List.replicate_succ, List.map_cons]; rfl
theorem gaps_const {a x : Int} {ss : Sh} {p : Plan} (h : ∀ c, timeV a ss p (c + 1) - timeV a ss p c = x) (k : Nat) : gapsM a ss p k = List.replicate k x := by
  unfold gapsM
  rw [List.eq_replicate_iff]
  refine ⟨by simp, fun y hy => ?_⟩
  obtain ⟨c, _, rfl⟩ := List.mem_map.mp hy
  exact h c
theorem gaps_every {a f s : Int} {ss : Sh} (k : Nat) : gapsM a ss (.every f s) k = List.replicate k s := gaps_const (fun c => by
  unfold timeV
  rw [timeM, timeM]
  show f + ((c + 1 : Nat) : Int) * s - (f + (c : Int) * s) = s
  rw [Int.natCast_add, Int.add_mul]
  simp
  omega) k
theorem gaps_plain {a h : Int} (k : Nat) : gapsM a [] (.daily h) k = List.replicate k 24 := gaps_const (fun c => by
  unfold timeV
  rw [timeM, timeM]
  show dailyM a [] h (c + 1) - dailyM a [] h c = 24
  rw [plain_daily, plain_daily]
  omega) k
theorem gaps_sum {a : Int} {ss : Sh} {p : Plan} : ∀ k : Nat, (gapsM a ss p k).sum = timeV a ss p k - timeV a ss p 0
  | 0 => by show (0 : Int) = _; omega
  | k + 1 => by
    have ih := gaps_sum (a := a) (ss := ss) (p := p) k
    unfold gapsM at ih ⊢
    rw [List.range_succ, List.map_append, List.sum_append, ih]
    simp
    omega
theorem daily_le {a h : Int} {ss : Sh} {c : Nat} (z : ZOk a ss) : dailyM a ss h c ≤ 24 * (c : Int) + 60 := by
  obtain ⟨g1, g2, g3⟩ := firstM_spec (g := (firstDayM a ss h + c) * 24 + h) (a := a) z.rise
  have e : dailyM a ss h c = firstM ((firstDayM a ss h + c) * 24 + h) 0 a ss := rfl
  have fd := firstDay_spec (a := a) (h := h) (ss := ss)
  have b0 := ahead_ok (m := 0) z.ah
  have b1 := ahead_ok (m := 24 * (c : Int) + 60) z.ah
  rw [e]
  refine Int.not_lt.mp fun hlt => ?_
  have := g3 (24 * (c : Int) + 60) (by omega) hlt
  unfold shownM at *
  omega
theorem at_times {a : Int} {ss : Sh} {p : Plan} {n i : Nat} (h : i < n) : atI ((List.range n).map fun c => PyData.int (timeV a ss p c)) ((i : Nat) : Int) = some (.int (timeV a ss p i)) :=
  atI_nat (by rw [List.getElem?_map, List.getElem?_range h]; rfl)
def q_law : DN := fun ds Q => ds = [] ∧ Q (.bool true)
theorem m_law : MnN q_law := fun _ _ _ k ⟨e, q⟩ => ⟨e, k _ q⟩
theorem ok_law {g : Addr} {fd : FuncData} (T : Tx K mg) (D : FD K mg "law" s_law ["_law_script"] g fd) : FnOk P w K mg base CX0 7 g fd ["_law_script"] (spS K q_law) := by
  obtain ⟨g__law_zone, fd__law_zone, D__law_zone⟩ := T.d__law_zone
  have G__law_zone := ok__law_zone (P := P) (w := w) (base := base) T D__law_zone
  obtain ⟨g__law_plan, fd__law_plan, D__law_plan⟩ := T.d__law_plan
  have G__law_plan := ok__law_plan (P := P) (w := w) (base := base) T D__law_plan
  obtain ⟨g__law_draw, fd__law_draw, D__law_draw⟩ := T.d__law_draw
  have G__law_draw := ok__law_draw (P := P) (w := w) (base := base) T D__law_draw
  obtain ⟨g_gaps, fd_gaps, D_gaps⟩ := T.d_gaps
  have G_gaps := ok_gaps (P := P) (w := w) (base := base) T D_gaps
  obtain ⟨g__law_times, fd__law_times, D__law_times⟩ := T.d__law_times
  have G__law_times := ok__law_times (P := P) (w := w) (base := base) T D__law_times
  obtain ⟨g_due, fd_due, D_due⟩ := T.d_due
  have G_due := ok_due (P := P) (w := w) (base := base) T D_due
  refine fn_scr D.fn sc_law ?len m_law (fun cdv A outer s H E F hr =>
      (dss_cons (ds_cnt (i := 1) sc_law.nd rfl (by first | exact Or.inl rfl | exact Or.inr rfl) da_nil)
        (dss_cons (ds_set (i := 2) sc_law.nd rfl (by first | exact Or.inl rfl | exact Or.inr rfl) (de_draw G__law_zone m__law_zone (hr.mono (by decide)) rfl D__law_zone.mgf D__law_zone.fn.kp D__law_zone.b (pv 0) (pv 1) (da_cons de_int da_nil)))
        (dss_cons (ds_set (i := 3) sc_law.nd rfl (by first | exact Or.inl rfl | exact Or.inr rfl) (de_draw G__law_plan m__law_plan (hr.mono (by decide)) rfl D__law_plan.mgf D__law_plan.fn.kp D__law_plan.b (pv 0) (pv 1) (da_cons de_int da_nil)))
        (dss_cons (ds_set (i := 4) sc_law.nd rfl (by first | exact Or.inl rfl | exact Or.inr rfl) (de_draw G__law_draw m__law_draw (hr.mono (by decide)) rfl D__law_draw.mgf D__law_draw.fn.kp D__law_draw.b (pv 0) (pv 1) (da_cons de_int da_nil)))
        (dss_cons (ds_set (i := 5) sc_law.nd rfl (by first | exact Or.inl rfl | exact Or.inr rfl) (de_call G_gaps m_gaps (hr.mono (by decide)) rfl D_gaps.mgf D_gaps.fn.kp D_gaps.b (da_cons (de_var 2 (pv 2)) (da_cons (de_var 3 (pv 3)) (da_cons (de_var 4 (pv 4)) da_nil)))))
        (dss_cons (ds_if (db_eq hr.units (de_ixT (de_var 3 (pv 3)) de_int) de_str) (dss_one (ds_ret (de_eq hr.units (de_var 5 (pv 5)) (de_lst da_nil)))) dss_nil)
        (dss_cons (ds_if (db_eq hr.units (de_ixT (de_var 3 (pv 3)) de_int) de_str) (dss_one (ds_ret (de_eq hr.units (de_var 5 (pv 5)) (de_rep (de_lst (da_cons (de_ixT (de_var 3 (pv 3)) de_int) da_nil)) (de_var 4 (pv 4)))))) dss_nil)
        (dss_cons (ds_set (i := 6) sc_law.nd rfl (by first | exact Or.inl rfl | exact Or.inr rfl) (de_call G__law_times m__law_times (hr.mono (by decide)) rfl D__law_times.mgf D__law_times.fn.kp D__law_times.b (da_cons (de_var 2 (pv 2)) (da_cons (de_var 3 (pv 3)) (da_cons (de_add (de_mul de_int (de_var 4 (pv 4))) de_int) da_nil)))))
        (dss_cons (ds_setComp (i := 7) sc_law.nd rfl (by first | exact Or.inl rfl | exact Or.inr rfl) (CompScope.of (own := ["_law_k"]) (capN := ["_law_some"]) (caps := [6])) rfl (di_range1 rfl T.b_range (da_cons (de_var 4 (pv 4)) da_nil)) (fun _ _ _ _ _ _ => ⟨(dg_name (pg_name (i := 0) (show ((["_law_k"] : List Str) ++ (["_law_some"] : List Str)).Nodup from by decide +kernel) rfl (by first | exact Or.inl rfl | exact Or.inr rfl))), dbs_nil, (de_sub (de_ixL (de_var 1 (pv 1)) (de_add (de_var 0 (pv 0)) de_int)) (de_ixL (de_var 1 (pv 1)) (de_var 0 (pv 0))))⟩))
        (dss_cons (ds_if (DW.db (dw_or (db_ne hr.units (de_var 5 (pv 5)) (de_var 7 (pv 7))) (dw_or1 (db_ne hr.units (de_callB call_len_seq n_len rfl T.b_len PySem.boot_len (da_cons (de_var 5 (pv 5)) da_nil)) (de_var 4 (pv 4)))))) (dss_one (ds_ret de_bl)) dss_nil)
        (dss_cons (ds_if (db_ne hr.units (de_sub (de_call G_due m_due (hr.mono (by decide)) rfl D_due.mgf D_due.fn.kp D_due.b (da_cons (de_var 2 (pv 2)) (da_cons (de_var 3 (pv 3)) (da_cons (de_var 4 (pv 4)) da_nil)))) (de_call G_due m_due (hr.mono (by decide)) rfl D_due.mgf D_due.fn.kp D_due.b (da_cons (de_var 2 (pv 2)) (da_cons (de_var 3 (pv 3)) (da_cons de_int da_nil))))) (de_callB (call_sumB rfl) n_sum rfl T.b_sum bt_sum (da_cons (de_var 5 (pv 5)) da_nil))) (dss_one (ds_ret de_bl)) dss_nil)
        (dss_one (ds_ret (de_eq hr.units (de_call G_gaps m_gaps (hr.mono (by decide)) rfl D_gaps.mgf D_gaps.fn.kp D_gaps.b (da_cons (de_tup (da_cons (de_ixT (de_var 2 (pv 2)) de_int) (da_cons (de_tup da_nil) da_nil))) (da_cons (de_var 3 (pv 3)) (da_cons (de_var 4 (pv 4)) da_nil)))) (de_rep (de_lst (da_cons de_int da_nil)) (de_var 4 (pv 4)))))))))))))))))) ?rd
  case len => rintro ds Q ⟨rfl, _⟩; rfl
  case rd =>
    rintro ds Q ns ⟨rfl, q⟩ hns
    show (_ : DTS) _ [some (.scr ns), none, none, none, none, none, none, none]
    repeat walk_at "ev1"
    have s1 : SeqAt.shaped (PyData.str (Str.ofString "once")) = true := by decide +kernel
    have s2 : SeqAt.shaped (PyData.str (Str.ofString "every")) = true := by decide +kernel
    have s3 : SeqAt.shaped (PyData.str (Str.ofString "daily")) = true := by decide +kernel
    have c1 : (PyData.eqv (PyData.str (Str.ofString "once")) (.str (Str.ofString "once")) != false) = true := by rw [eqv_str]; decide +kernel
    have c2 : ¬ (PyData.eqv (PyData.str (Str.ofString "every")) (.str (Str.ofString "once")) != false) = true := by rw [eqv_str]; decide +kernel
    have c3 : (PyData.eqv (PyData.str (Str.ofString "every")) (.str (Str.ofString "every")) != false) = true := by rw [eqv_str]; decide +kernel
    have c4 : ¬ (PyData.eqv (PyData.str (Str.ofString "daily")) (.str (Str.ofString "once")) != false) = true := by rw [eqv_str]; decide +kernel
    have c5 : ¬ (PyData.eqv (PyData.str (Str.ofString "daily")) (.str (Str.ofString "every")) != false) = true := by rw [eqv_str]; decide +kernel
    refine ⟨Nat.zero_le _, fun adr => ?_⟩
    try dsimp only [List.set_cons_zero, List.set_cons_succ]
    repeat walk_at "ev1"
    refine ⟨60, rfl, ⟨by decide, by decide, by decide⟩, fun a ss m z z2 hm => ?_⟩
    have hm : m ≤ 30 := hm
    try dsimp only [List.set_cons_zero, List.set_cons_succ]
    repeat walk_at "ev1"
    refine ⟨120, rfl, ⟨by omega, by decide, by decide⟩, fun p m2 ok hm2 => ?_⟩
    try dsimp only [List.set_cons_zero, List.set_cons_succ]
    repeat walk_at "ev1"
    refine ⟨12, rfl, by omega, by decide, fun mny y1 y2 => ?_⟩
    obtain ⟨k, rfl⟩ : ∃ k : Nat, mny = k := ⟨mny.toNat, by omega⟩
    have hk : k < 12 := by omega
    try dsimp only [List.set_cons_zero, List.set_cons_succ]
    repeat walk_at "ev1"
    refine ⟨a, ss, p, k, rfl, ⟨z, ok, by omega⟩, fun ho => ?_, fun ho => ?_⟩
    · obtain ⟨mm, rfl⟩ := ho
      try dsimp only [List.set_cons_zero, List.set_cons_succ]
      repeat walk_at "ev1"
      refine ⟨s1, s1, ?_⟩
      try dsimp only [List.set_cons_zero, List.set_cons_succ]
      repeat walk_at "ev1"
      refine ifT c1 ?_
      try dsimp only [List.set_cons_zero, List.set_cons_succ]
      repeat walk_at "ev1"
      refine ⟨Nat.zero_le _, ?_⟩
      try dsimp only [List.set_cons_zero, List.set_cons_succ]
      repeat walk_at "ev1"
      refine ⟨rfl, rfl, ?_⟩
      rw [eqv_shaped (d := PyData.list []) rfl]
      exact q
    cases p with
    | once mm => exact absurd rfl (ho mm)
    | every f s =>
      try dsimp only [List.set_cons_zero, List.set_cons_succ]
      repeat walk_at "ev1"
      refine ⟨s2, s1, ?_⟩
      try dsimp only [List.set_cons_zero, List.set_cons_succ]
      repeat walk_at "ev1"
      refine ifF c2 ?_
      try dsimp only [List.set_cons_zero, List.set_cons_succ]
      repeat walk_at "ev1"
      refine ⟨s2, s2, ?_⟩
      try dsimp only [List.set_cons_zero, List.set_cons_succ]
      repeat walk_at "ev1"
      refine ifT c3 ?_
      try dsimp only [List.set_cons_zero, List.set_cons_succ]
      repeat walk_at "ev1"
      refine ⟨(by decide : 1 ≤ sizeLine), ?_⟩
      try dsimp only [List.set_cons_zero, List.set_cons_succ]
      repeat walk_at "ev1"
      refine ⟨⟨by omega, by omega, by show 1 * ((k : Int)).toNat ≤ sizeLine; exact line_ge (by omega)⟩, ?_⟩
      rw [Int.toNat_natCast, rep_one, ← gaps_every (a := a) (ss := ss) (f := f) (s := s) k]
      try dsimp only [List.set_cons_zero, List.set_cons_succ]
      repeat walk_at "ev1"
      refine ⟨shaped_ints _, shaped_ints _, ?_⟩
      rw [eqv_shaped (shaped_ints _)]
      exact q
    | daily hh =>
      try dsimp only [List.set_cons_zero, List.set_cons_succ]
      repeat walk_at "ev1"
      refine ⟨s3, s1, ?_⟩
      try dsimp only [List.set_cons_zero, List.set_cons_succ]
      repeat walk_at "ev1"
      refine ifF c4 ?_
      try dsimp only [List.set_cons_zero, List.set_cons_succ]
      repeat walk_at "ev1"
      refine ⟨s3, s2, ?_⟩
      try dsimp only [List.set_cons_zero, List.set_cons_succ]
      repeat walk_at "ev1"
      refine ifF c5 ?_
      try dsimp only [List.set_cons_zero, List.set_cons_succ]
      repeat walk_at "ev1"
      refine ⟨.inl (by decide), ?_⟩
      obtain ⟨n, u⟩ := upto_any (last := 24 * (k : Int) + 120) (p := .daily hh) z ok (by omega)
      have bn := u.le
      have kn : k < n := by
        refine Nat.lt_of_not_le fun hle => ?_
        have h1 := upto_out (v := dailyM a ss hh k) z ok u hle rfl
        have h2 := daily_le (h := hh) (c := k) z
        omega
      try dsimp only [List.set_cons_zero, List.set_cons_succ]
      repeat walk_at "ev1"
      refine ⟨a, ss, .daily hh, 24 * (k : Int) + 120, n, rfl, z, ok, ⟨by omega, by omega⟩, u, ?_⟩
      try dsimp only [List.set_cons_zero, List.set_cons_succ]
      repeat walk_at "ev1"
      refine ⟨⟨by omega, by omega⟩, ?_⟩
      show CmpGo _ _ _ _ _ ((List.range k).map fun (i : Nat) => PyData.int (0 + i)) _ _
      refine cmpGoM 1 rfl [some (.dat (.list ((List.range n).map fun c => PyData.int (timeV a ss (.daily hh) c))))] rfl (fun _ => true) (fun (i : Nat) => PyData.int (timeV a ss (.daily hh) (i + 1) - timeV a ss (.daily hh) i)) (by rw [List.length_range]; omega) (fun i hi o ho' Q' q' => ?_) ?_
      · obtain ⟨x, rfl⟩ := list1 ho'
        have hi' := List.mem_range.mp hi
        rw [Int.zero_add]
        try dsimp only [List.set_cons_zero, List.set_cons_succ]
        repeat walk_at "ev1"
        refine ⟨_, at_times (i := i + 1) (by omega), ?_⟩
        try dsimp only [List.set_cons_zero, List.set_cons_succ]
        repeat walk_at "ev1"
        refine ⟨_, at_times (i := i) (by omega), ?_⟩
        try dsimp only [List.set_cons_zero, List.set_cons_succ]
        repeat walk_at "ev1"
        exact q' [_] rfl
      rw [List.filter_eq_self.mpr (fun _ _ => rfl), show ((List.range k).map fun (i : Nat) => PyData.int (timeV a ss (.daily hh) (i + 1) - timeV a ss (.daily hh) i)) = (gapsM a ss (.daily hh) k).map PyData.int from by unfold gapsM; rw [List.map_map]; rfl]
      try dsimp only [List.set_cons_zero, List.set_cons_succ]
      repeat walk_at "ev1"
      refine ⟨shaped_ints _, shaped_ints _, ?_⟩
      rw [eqv_shaped (shaped_ints _)]
      try dsimp only [List.set_cons_zero, List.set_cons_succ]
      repeat walk_at "ev1"
      refine ifF (by decide) ?_
      try dsimp only [List.set_cons_zero, List.set_cons_succ]
      repeat walk_at "ev1"
      refine ⟨shaped_int _, shaped_int _, ?_⟩
      rw [eqv_int, List.length_map, gaps_len]
      try dsimp only [List.set_cons_zero, List.set_cons_succ]
      repeat walk_at "ev1"
      refine ifF (by simp) ?_
      try dsimp only [List.set_cons_zero, List.set_cons_succ]
      repeat walk_at "ev1"
      refine ⟨a, ss, .daily hh, k, rfl, ⟨z, ok, by omega⟩, ?_⟩
      rw [time_some ho]
      try dsimp only [List.set_cons_zero, List.set_cons_succ]
      repeat walk_at "ev1"
      refine ⟨a, ss, .daily hh, 0, rfl, ⟨z, ok, by omega⟩, ?_⟩
      rw [time_some ho]
      try dsimp only [List.set_cons_zero, List.set_cons_succ]
      repeat walk_at "ev1"
      refine ev_sum ?_
      try dsimp only [List.set_cons_zero, List.set_cons_succ]
      repeat walk_at "ev1"
      refine ⟨shaped_int _, shaped_int _, ?_⟩
      rw [eqv_int, gaps_sum]
      try dsimp only [List.set_cons_zero, List.set_cons_succ]
      repeat walk_at "ev1"
      refine ifF (by simp) ?_
      try dsimp only [List.set_cons_zero, List.set_cons_succ]
      repeat walk_at "ev1"
      refine ⟨Nat.zero_le _, ?_⟩
      try dsimp only [List.set_cons_zero, List.set_cons_succ]
      repeat walk_at "ev1"
      refine ⟨(by decide : 2 ≤ sizeLine), ?_⟩
      try dsimp only [List.set_cons_zero, List.set_cons_succ]
      repeat walk_at "ev1"
      refine ⟨a, [], .daily hh, k, rfl, ⟨zok_nil z, ok, by omega⟩, fun hz => (by obtain ⟨_, e⟩ := hz; cases e), fun _ => ?_⟩
      try dsimp only [List.set_cons_zero, List.set_cons_succ]
      repeat walk_at "ev1"
      refine ⟨(by decide : 1 ≤ sizeLine), ?_⟩
      try dsimp only [List.set_cons_zero, List.set_cons_succ]
      repeat walk_at "ev1"
      refine ⟨⟨by omega, by omega, by show 1 * ((k : Int)).toNat ≤ sizeLine; exact line_ge (by omega)⟩, ?_⟩
      rw [Int.toNat_natCast, rep_one, ← gaps_plain (a := a) (h := hh) k]
      try dsimp only [List.set_cons_zero, List.set_cons_succ]
      repeat walk_at "ev1"
      refine ⟨shaped_ints _, shaped_ints _, ?_⟩
      rw [eqv_shaped (shaped_ints _)]
      exact q

end
end K3

namespace K3
open PySem PySem.Spec L2 L2.L3 Due PyProof.Rows
theorem all_mk {l : PySem.W.OpenLaw} {w : World} {K : PySem.W.Frag} {h : Heap} {mg : Str → Option Value} {fa : Addr} (X : K.In h) (G : h.Ns mainGlobals mg) (hfa : mg "law" = some (.ref fa))
    {f_is_whole : Addr} {od_is_whole an_is_whole : Option Addr} {sl_is_whole : Array (Option Value)} {oc_is_whole kV_is_whole dc_is_whole pm_is_whole cd_is_whole ct_is_whole : Value}
    {f_is_tuple_of : Addr} {od_is_tuple_of an_is_tuple_of : Option Addr} {sl_is_tuple_of : Array (Option Value)} {oc_is_tuple_of kV_is_tuple_of dc_is_tuple_of pm_is_tuple_of cd_is_tuple_of ct_is_tuple_of : Value}
    {f_is_ahead : Addr} {od_is_ahead an_is_ahead : Option Addr} {sl_is_ahead : Array (Option Value)} {oc_is_ahead kV_is_ahead dc_is_ahead pm_is_ahead cd_is_ahead ct_is_ahead : Value}
    {f_is_moment : Addr} {od_is_moment an_is_moment : Option Addr} {sl_is_moment : Array (Option Value)} {oc_is_moment kV_is_moment dc_is_moment pm_is_moment cd_is_moment ct_is_moment : Value}
    {f_are_shifts : Addr} {od_are_shifts an_are_shifts : Option Addr} {sl_are_shifts : Array (Option Value)} {oc_are_shifts kV_are_shifts dc_are_shifts pm_are_shifts cd_are_shifts ct_are_shifts : Value}
    {f_is_zone : Addr} {od_is_zone an_is_zone : Option Addr} {sl_is_zone : Array (Option Value)} {oc_is_zone kV_is_zone dc_is_zone pm_is_zone cd_is_zone ct_is_zone : Value}
    {f_has_word : Addr} {od_has_word an_has_word : Option Addr} {sl_has_word : Array (Option Value)} {oc_has_word kV_has_word dc_has_word pm_has_word cd_has_word ct_has_word : Value}
    {f_is_plan : Addr} {od_is_plan an_is_plan : Option Addr} {sl_is_plan : Array (Option Value)} {oc_is_plan kV_is_plan dc_is_plan pm_is_plan cd_is_plan ct_is_plan : Value}
    {f_check_zone : Addr} {od_check_zone an_check_zone : Option Addr} {sl_check_zone : Array (Option Value)} {oc_check_zone kV_check_zone dc_check_zone pm_check_zone cd_check_zone ct_check_zone : Value}
    {f_check_plan : Addr} {od_check_plan an_check_plan : Option Addr} {sl_check_plan : Array (Option Value)} {oc_check_plan kV_check_plan dc_check_plan pm_check_plan cd_check_plan ct_check_plan : Value}
    {f_check_count : Addr} {od_check_count an_check_count : Option Addr} {sl_check_count : Array (Option Value)} {oc_check_count kV_check_count dc_check_count pm_check_count cd_check_count ct_check_count : Value}
    {f_shown : Addr} {od_shown an_shown : Option Addr} {sl_shown : Array (Option Value)} {oc_shown kV_shown dc_shown pm_shown cd_shown ct_shown : Value}
    {f_stretches : Addr} {od_stretches an_stretches : Option Addr} {sl_stretches : Array (Option Value)} {oc_stretches kV_stretches dc_stretches pm_stretches cd_stretches ct_stretches : Value}
    {f_is_ahead_of : Addr} {od_is_ahead_of an_is_ahead_of : Option Addr} {sl_is_ahead_of : Array (Option Value)} {oc_is_ahead_of kV_is_ahead_of dc_is_ahead_of pm_is_ahead_of cd_is_ahead_of ct_is_ahead_of : Value}
    {f_first_showing : Addr} {od_first_showing an_first_showing : Option Addr} {sl_first_showing : Array (Option Value)} {oc_first_showing kV_first_showing dc_first_showing pm_first_showing cd_first_showing ct_first_showing : Value}
    {f_first_day : Addr} {od_first_day an_first_day : Option Addr} {sl_first_day : Array (Option Value)} {oc_first_day kV_first_day dc_first_day pm_first_day cd_first_day ct_first_day : Value}
    {f_daily_time : Addr} {od_daily_time an_daily_time : Option Addr} {sl_daily_time : Array (Option Value)} {oc_daily_time kV_daily_time dc_daily_time pm_daily_time cd_daily_time ct_daily_time : Value}
    {f_time_of : Addr} {od_time_of an_time_of : Option Addr} {sl_time_of : Array (Option Value)} {oc_time_of kV_time_of dc_time_of pm_time_of cd_time_of ct_time_of : Value}
    {f_due : Addr} {od_due an_due : Option Addr} {sl_due : Array (Option Value)} {oc_due kV_due dc_due pm_due cd_due ct_due : Value}
    {f_gaps : Addr} {od_gaps an_gaps : Option Addr} {sl_gaps : Array (Option Value)} {oc_gaps kV_gaps dc_gaps pm_gaps cd_gaps ct_gaps : Value}
    {f__law_cell_at : Addr} {od__law_cell_at an__law_cell_at : Option Addr} {sl__law_cell_at : Array (Option Value)} {oc__law_cell_at kV__law_cell_at dc__law_cell_at pm__law_cell_at cd__law_cell_at ct__law_cell_at : Value}
    {f__law_mixed : Addr} {od__law_mixed an__law_mixed : Option Addr} {sl__law_mixed : Array (Option Value)} {oc__law_mixed kV__law_mixed dc__law_mixed pm__law_mixed cd__law_mixed ct__law_mixed : Value}
    {f__law_draw : Addr} {od__law_draw an__law_draw : Option Addr} {sl__law_draw : Array (Option Value)} {oc__law_draw kV__law_draw dc__law_draw pm__law_draw cd__law_draw ct__law_draw : Value}
    {f__law_pick : Addr} {od__law_pick an__law_pick : Option Addr} {sl__law_pick : Array (Option Value)} {oc__law_pick kV__law_pick dc__law_pick pm__law_pick cd__law_pick ct__law_pick : Value}
    {f__law_zone : Addr} {od__law_zone an__law_zone : Option Addr} {sl__law_zone : Array (Option Value)} {oc__law_zone kV__law_zone dc__law_zone pm__law_zone cd__law_zone ct__law_zone : Value}
    {f__law_shown : Addr} {od__law_shown an__law_shown : Option Addr} {sl__law_shown : Array (Option Value)} {oc__law_shown kV__law_shown dc__law_shown pm__law_shown cd__law_shown ct__law_shown : Value}
    {f__law_plan : Addr} {od__law_plan an__law_plan : Option Addr} {sl__law_plan : Array (Option Value)} {oc__law_plan kV__law_plan dc__law_plan pm__law_plan cd__law_plan ct__law_plan : Value}
    {f__law_times : Addr} {od__law_times an__law_times : Option Addr} {sl__law_times : Array (Option Value)} {oc__law_times kV__law_times dc__law_times pm__law_times cd__law_times ct__law_times : Value}
    {f_law : Addr} {od_law an_law : Option Addr} {sl_law : Array (Option Value)} {oc_law kV_law dc_law pm_law cd_law ct_law : Value}
    {t_LAST_MOMENT : Tok}
    {t_LAST_COUNT : Tok}
    {t_LAST_HOUR : Tok}
    {t_LEAST_AHEAD : Tok}
    {t_MOST_AHEAD : Tok}
    {t_MOST_SHIFTS : Tok}
    {t_MOST_STEP : Tok}
    {t_DAY_HOURS : Tok}
    {t_MOST_GAPS : Tok}
    (a_is_whole : PySem.W.nsIn K mainGlobals "is_whole" = some (some (.ref f_is_whole)))
    (l_is_whole : K.lookup f_is_whole = some ⟨oc_is_whole, od_is_whole, .func (PySem.W.fnOf "is_whole" "is_whole" (defArgs s_is_whole) (defBody s_is_whole) (defScope s_is_whole) .none kV_is_whole dc_is_whole pm_is_whole an_is_whole cd_is_whole ct_is_whole), sl_is_whole⟩)
    (c_is_whole : PySem.W.codeIn K cd_is_whole "is_whole" = true)
    (k_is_whole : PySem.W.keepIn K (.ref f_is_whole) = true)
    (a_is_tuple_of : PySem.W.nsIn K mainGlobals "is_tuple_of" = some (some (.ref f_is_tuple_of)))
    (l_is_tuple_of : K.lookup f_is_tuple_of = some ⟨oc_is_tuple_of, od_is_tuple_of, .func (PySem.W.fnOf "is_tuple_of" "is_tuple_of" (defArgs s_is_tuple_of) (defBody s_is_tuple_of) (defScope s_is_tuple_of) .none kV_is_tuple_of dc_is_tuple_of pm_is_tuple_of an_is_tuple_of cd_is_tuple_of ct_is_tuple_of), sl_is_tuple_of⟩)
    (c_is_tuple_of : PySem.W.codeIn K cd_is_tuple_of "is_tuple_of" = true)
    (k_is_tuple_of : PySem.W.keepIn K (.ref f_is_tuple_of) = true)
    (a_is_ahead : PySem.W.nsIn K mainGlobals "is_ahead" = some (some (.ref f_is_ahead)))
    (l_is_ahead : K.lookup f_is_ahead = some ⟨oc_is_ahead, od_is_ahead, .func (PySem.W.fnOf "is_ahead" "is_ahead" (defArgs s_is_ahead) (defBody s_is_ahead) (defScope s_is_ahead) .none kV_is_ahead dc_is_ahead pm_is_ahead an_is_ahead cd_is_ahead ct_is_ahead), sl_is_ahead⟩)
    (c_is_ahead : PySem.W.codeIn K cd_is_ahead "is_ahead" = true)
    (k_is_ahead : PySem.W.keepIn K (.ref f_is_ahead) = true)
    (a_is_moment : PySem.W.nsIn K mainGlobals "is_moment" = some (some (.ref f_is_moment)))
    (l_is_moment : K.lookup f_is_moment = some ⟨oc_is_moment, od_is_moment, .func (PySem.W.fnOf "is_moment" "is_moment" (defArgs s_is_moment) (defBody s_is_moment) (defScope s_is_moment) .none kV_is_moment dc_is_moment pm_is_moment an_is_moment cd_is_moment ct_is_moment), sl_is_moment⟩)
    (c_is_moment : PySem.W.codeIn K cd_is_moment "is_moment" = true)
    (k_is_moment : PySem.W.keepIn K (.ref f_is_moment) = true)
    (a_are_shifts : PySem.W.nsIn K mainGlobals "are_shifts" = some (some (.ref f_are_shifts)))
    (l_are_shifts : K.lookup f_are_shifts = some ⟨oc_are_shifts, od_are_shifts, .func (PySem.W.fnOf "are_shifts" "are_shifts" (defArgs s_are_shifts) (defBody s_are_shifts) (defScope s_are_shifts) .none kV_are_shifts dc_are_shifts pm_are_shifts an_are_shifts cd_are_shifts ct_are_shifts), sl_are_shifts⟩)
    (c_are_shifts : PySem.W.codeIn K cd_are_shifts "are_shifts" = true)
    (k_are_shifts : PySem.W.keepIn K (.ref f_are_shifts) = true)
    (a_is_zone : PySem.W.nsIn K mainGlobals "is_zone" = some (some (.ref f_is_zone)))
    (l_is_zone : K.lookup f_is_zone = some ⟨oc_is_zone, od_is_zone, .func (PySem.W.fnOf "is_zone" "is_zone" (defArgs s_is_zone) (defBody s_is_zone) (defScope s_is_zone) .none kV_is_zone dc_is_zone pm_is_zone an_is_zone cd_is_zone ct_is_zone), sl_is_zone⟩)
    (c_is_zone : PySem.W.codeIn K cd_is_zone "is_zone" = true)
    (k_is_zone : PySem.W.keepIn K (.ref f_is_zone) = true)
    (a_has_word : PySem.W.nsIn K mainGlobals "has_word" = some (some (.ref f_has_word)))
    (l_has_word : K.lookup f_has_word = some ⟨oc_has_word, od_has_word, .func (PySem.W.fnOf "has_word" "has_word" (defArgs s_has_word) (defBody s_has_word) (defScope s_has_word) .none kV_has_word dc_has_word pm_has_word an_has_word cd_has_word ct_has_word), sl_has_word⟩)
    (c_has_word : PySem.W.codeIn K cd_has_word "has_word" = true)
    (k_has_word : PySem.W.keepIn K (.ref f_has_word) = true)
    (a_is_plan : PySem.W.nsIn K mainGlobals "is_plan" = some (some (.ref f_is_plan)))
    (l_is_plan : K.lookup f_is_plan = some ⟨oc_is_plan, od_is_plan, .func (PySem.W.fnOf "is_plan" "is_plan" (defArgs s_is_plan) (defBody s_is_plan) (defScope s_is_plan) .none kV_is_plan dc_is_plan pm_is_plan an_is_plan cd_is_plan ct_is_plan), sl_is_plan⟩)
    (c_is_plan : PySem.W.codeIn K cd_is_plan "is_plan" = true)
    (k_is_plan : PySem.W.keepIn K (.ref f_is_plan) = true)
    (a_check_zone : PySem.W.nsIn K mainGlobals "check_zone" = some (some (.ref f_check_zone)))
    (l_check_zone : K.lookup f_check_zone = some ⟨oc_check_zone, od_check_zone, .func (PySem.W.fnOf "check_zone" "check_zone" (defArgs s_check_zone) (defBody s_check_zone) (defScope s_check_zone) .none kV_check_zone dc_check_zone pm_check_zone an_check_zone cd_check_zone ct_check_zone), sl_check_zone⟩)
    (c_check_zone : PySem.W.codeIn K cd_check_zone "check_zone" = true)
    (k_check_zone : PySem.W.keepIn K (.ref f_check_zone) = true)
    (a_check_plan : PySem.W.nsIn K mainGlobals "check_plan" = some (some (.ref f_check_plan)))
    (l_check_plan : K.lookup f_check_plan = some ⟨oc_check_plan, od_check_plan, .func (PySem.W.fnOf "check_plan" "check_plan" (defArgs s_check_plan) (defBody s_check_plan) (defScope s_check_plan) .none kV_check_plan dc_check_plan pm_check_plan an_check_plan cd_check_plan ct_check_plan), sl_check_plan⟩)
    (c_check_plan : PySem.W.codeIn K cd_check_plan "check_plan" = true)
    (k_check_plan : PySem.W.keepIn K (.ref f_check_plan) = true)
    (a_check_count : PySem.W.nsIn K mainGlobals "check_count" = some (some (.ref f_check_count)))
    (l_check_count : K.lookup f_check_count = some ⟨oc_check_count, od_check_count, .func (PySem.W.fnOf "check_count" "check_count" (defArgs s_check_count) (defBody s_check_count) (defScope s_check_count) .none kV_check_count dc_check_count pm_check_count an_check_count cd_check_count ct_check_count), sl_check_count⟩)
    (c_check_count : PySem.W.codeIn K cd_check_count "check_count" = true)
    (k_check_count : PySem.W.keepIn K (.ref f_check_count) = true)
    (a_shown : PySem.W.nsIn K mainGlobals "shown" = some (some (.ref f_shown)))
    (l_shown : K.lookup f_shown = some ⟨oc_shown, od_shown, .func (PySem.W.fnOf "shown" "shown" (defArgs s_shown) (defBody s_shown) (defScope s_shown) .none kV_shown dc_shown pm_shown an_shown cd_shown ct_shown), sl_shown⟩)
    (c_shown : PySem.W.codeIn K cd_shown "shown" = true)
    (k_shown : PySem.W.keepIn K (.ref f_shown) = true)
    (a_stretches : PySem.W.nsIn K mainGlobals "stretches" = some (some (.ref f_stretches)))
    (l_stretches : K.lookup f_stretches = some ⟨oc_stretches, od_stretches, .func (PySem.W.fnOf "stretches" "stretches" (defArgs s_stretches) (defBody s_stretches) (defScope s_stretches) .none kV_stretches dc_stretches pm_stretches an_stretches cd_stretches ct_stretches), sl_stretches⟩)
    (c_stretches : PySem.W.codeIn K cd_stretches "stretches" = true)
    (k_stretches : PySem.W.keepIn K (.ref f_stretches) = true)
    (a_is_ahead_of : PySem.W.nsIn K mainGlobals "is_ahead_of" = some (some (.ref f_is_ahead_of)))
    (l_is_ahead_of : K.lookup f_is_ahead_of = some ⟨oc_is_ahead_of, od_is_ahead_of, .func (PySem.W.fnOf "is_ahead_of" "is_ahead_of" (defArgs s_is_ahead_of) (defBody s_is_ahead_of) (defScope s_is_ahead_of) .none kV_is_ahead_of dc_is_ahead_of pm_is_ahead_of an_is_ahead_of cd_is_ahead_of ct_is_ahead_of), sl_is_ahead_of⟩)
    (c_is_ahead_of : PySem.W.codeIn K cd_is_ahead_of "is_ahead_of" = true)
    (k_is_ahead_of : PySem.W.keepIn K (.ref f_is_ahead_of) = true)
    (a_first_showing : PySem.W.nsIn K mainGlobals "first_showing" = some (some (.ref f_first_showing)))
    (l_first_showing : K.lookup f_first_showing = some ⟨oc_first_showing, od_first_showing, .func (PySem.W.fnOf "first_showing" "first_showing" (defArgs s_first_showing) (defBody s_first_showing) (defScope s_first_showing) .none kV_first_showing dc_first_showing pm_first_showing an_first_showing cd_first_showing ct_first_showing), sl_first_showing⟩)
    (c_first_showing : PySem.W.codeIn K cd_first_showing "first_showing" = true)
    (k_first_showing : PySem.W.keepIn K (.ref f_first_showing) = true)
    (a_first_day : PySem.W.nsIn K mainGlobals "first_day" = some (some (.ref f_first_day)))
    (l_first_day : K.lookup f_first_day = some ⟨oc_first_day, od_first_day, .func (PySem.W.fnOf "first_day" "first_day" (defArgs s_first_day) (defBody s_first_day) (defScope s_first_day) .none kV_first_day dc_first_day pm_first_day an_first_day cd_first_day ct_first_day), sl_first_day⟩)
    (c_first_day : PySem.W.codeIn K cd_first_day "first_day" = true)
    (k_first_day : PySem.W.keepIn K (.ref f_first_day) = true)
    (a_daily_time : PySem.W.nsIn K mainGlobals "daily_time" = some (some (.ref f_daily_time)))
    (l_daily_time : K.lookup f_daily_time = some ⟨oc_daily_time, od_daily_time, .func (PySem.W.fnOf "daily_time" "daily_time" (defArgs s_daily_time) (defBody s_daily_time) (defScope s_daily_time) .none kV_daily_time dc_daily_time pm_daily_time an_daily_time cd_daily_time ct_daily_time), sl_daily_time⟩)
    (c_daily_time : PySem.W.codeIn K cd_daily_time "daily_time" = true)
    (k_daily_time : PySem.W.keepIn K (.ref f_daily_time) = true)
    (a_time_of : PySem.W.nsIn K mainGlobals "time_of" = some (some (.ref f_time_of)))
    (l_time_of : K.lookup f_time_of = some ⟨oc_time_of, od_time_of, .func (PySem.W.fnOf "time_of" "time_of" (defArgs s_time_of) (defBody s_time_of) (defScope s_time_of) .none kV_time_of dc_time_of pm_time_of an_time_of cd_time_of ct_time_of), sl_time_of⟩)
    (c_time_of : PySem.W.codeIn K cd_time_of "time_of" = true)
    (k_time_of : PySem.W.keepIn K (.ref f_time_of) = true)
    (a_due : PySem.W.nsIn K mainGlobals "due" = some (some (.ref f_due)))
    (l_due : K.lookup f_due = some ⟨oc_due, od_due, .func (PySem.W.fnOf "due" "due" (defArgs s_due) (defBody s_due) (defScope s_due) .none kV_due dc_due pm_due an_due cd_due ct_due), sl_due⟩)
    (c_due : PySem.W.codeIn K cd_due "due" = true)
    (k_due : PySem.W.keepIn K (.ref f_due) = true)
    (a_gaps : PySem.W.nsIn K mainGlobals "gaps" = some (some (.ref f_gaps)))
    (l_gaps : K.lookup f_gaps = some ⟨oc_gaps, od_gaps, .func (PySem.W.fnOf "gaps" "gaps" (defArgs s_gaps) (defBody s_gaps) (defScope s_gaps) .none kV_gaps dc_gaps pm_gaps an_gaps cd_gaps ct_gaps), sl_gaps⟩)
    (c_gaps : PySem.W.codeIn K cd_gaps "gaps" = true)
    (k_gaps : PySem.W.keepIn K (.ref f_gaps) = true)
    (a__law_cell_at : PySem.W.nsIn K mainGlobals "_law_cell_at" = some (some (.ref f__law_cell_at)))
    (l__law_cell_at : K.lookup f__law_cell_at = some ⟨oc__law_cell_at, od__law_cell_at, .func (PySem.W.fnOf "_law_cell_at" "_law_cell_at" (defArgs s__law_cell_at) (defBody s__law_cell_at) (defScope s__law_cell_at) .none kV__law_cell_at dc__law_cell_at pm__law_cell_at an__law_cell_at cd__law_cell_at ct__law_cell_at), sl__law_cell_at⟩)
    (c__law_cell_at : PySem.W.codeIn K cd__law_cell_at "_law_cell_at" = true)
    (k__law_cell_at : PySem.W.keepIn K (.ref f__law_cell_at) = true)
    (a__law_mixed : PySem.W.nsIn K mainGlobals "_law_mixed" = some (some (.ref f__law_mixed)))
    (l__law_mixed : K.lookup f__law_mixed = some ⟨oc__law_mixed, od__law_mixed, .func (PySem.W.fnOf "_law_mixed" "_law_mixed" (defArgs s__law_mixed) (defBody s__law_mixed) (defScope s__law_mixed) .none kV__law_mixed dc__law_mixed pm__law_mixed an__law_mixed cd__law_mixed ct__law_mixed), sl__law_mixed⟩)
    (c__law_mixed : PySem.W.codeIn K cd__law_mixed "_law_mixed" = true)
    (k__law_mixed : PySem.W.keepIn K (.ref f__law_mixed) = true)
    (a__law_draw : PySem.W.nsIn K mainGlobals "_law_draw" = some (some (.ref f__law_draw)))
    (l__law_draw : K.lookup f__law_draw = some ⟨oc__law_draw, od__law_draw, .func (PySem.W.fnOf "_law_draw" "_law_draw" (defArgs s__law_draw) (defBody s__law_draw) (defScope s__law_draw) .none kV__law_draw dc__law_draw pm__law_draw an__law_draw cd__law_draw ct__law_draw), sl__law_draw⟩)
    (c__law_draw : PySem.W.codeIn K cd__law_draw "_law_draw" = true)
    (k__law_draw : PySem.W.keepIn K (.ref f__law_draw) = true)
    (a__law_pick : PySem.W.nsIn K mainGlobals "_law_pick" = some (some (.ref f__law_pick)))
    (l__law_pick : K.lookup f__law_pick = some ⟨oc__law_pick, od__law_pick, .func (PySem.W.fnOf "_law_pick" "_law_pick" (defArgs s__law_pick) (defBody s__law_pick) (defScope s__law_pick) .none kV__law_pick dc__law_pick pm__law_pick an__law_pick cd__law_pick ct__law_pick), sl__law_pick⟩)
    (c__law_pick : PySem.W.codeIn K cd__law_pick "_law_pick" = true)
    (k__law_pick : PySem.W.keepIn K (.ref f__law_pick) = true)
    (a__law_zone : PySem.W.nsIn K mainGlobals "_law_zone" = some (some (.ref f__law_zone)))
    (l__law_zone : K.lookup f__law_zone = some ⟨oc__law_zone, od__law_zone, .func (PySem.W.fnOf "_law_zone" "_law_zone" (defArgs s__law_zone) (defBody s__law_zone) (defScope s__law_zone) .none kV__law_zone dc__law_zone pm__law_zone an__law_zone cd__law_zone ct__law_zone), sl__law_zone⟩)
    (c__law_zone : PySem.W.codeIn K cd__law_zone "_law_zone" = true)
    (k__law_zone : PySem.W.keepIn K (.ref f__law_zone) = true)
    (a__law_shown : PySem.W.nsIn K mainGlobals "_law_shown" = some (some (.ref f__law_shown)))
    (l__law_shown : K.lookup f__law_shown = some ⟨oc__law_shown, od__law_shown, .func (PySem.W.fnOf "_law_shown" "_law_shown" (defArgs s__law_shown) (defBody s__law_shown) (defScope s__law_shown) .none kV__law_shown dc__law_shown pm__law_shown an__law_shown cd__law_shown ct__law_shown), sl__law_shown⟩)
    (c__law_shown : PySem.W.codeIn K cd__law_shown "_law_shown" = true)
    (k__law_shown : PySem.W.keepIn K (.ref f__law_shown) = true)
    (a__law_plan : PySem.W.nsIn K mainGlobals "_law_plan" = some (some (.ref f__law_plan)))
    (l__law_plan : K.lookup f__law_plan = some ⟨oc__law_plan, od__law_plan, .func (PySem.W.fnOf "_law_plan" "_law_plan" (defArgs s__law_plan) (defBody s__law_plan) (defScope s__law_plan) .none kV__law_plan dc__law_plan pm__law_plan an__law_plan cd__law_plan ct__law_plan), sl__law_plan⟩)
    (c__law_plan : PySem.W.codeIn K cd__law_plan "_law_plan" = true)
    (k__law_plan : PySem.W.keepIn K (.ref f__law_plan) = true)
    (a__law_times : PySem.W.nsIn K mainGlobals "_law_times" = some (some (.ref f__law_times)))
    (l__law_times : K.lookup f__law_times = some ⟨oc__law_times, od__law_times, .func (PySem.W.fnOf "_law_times" "_law_times" (defArgs s__law_times) (defBody s__law_times) (defScope s__law_times) .none kV__law_times dc__law_times pm__law_times an__law_times cd__law_times ct__law_times), sl__law_times⟩)
    (c__law_times : PySem.W.codeIn K cd__law_times "_law_times" = true)
    (k__law_times : PySem.W.keepIn K (.ref f__law_times) = true)
    (a_law : PySem.W.nsIn K mainGlobals "law" = some (some (.ref f_law)))
    (l_law : K.lookup f_law = some ⟨oc_law, od_law, .func (PySem.W.fnOf "law" "law" (defArgs s_law) (defBody s_law) (defScope s_law) .none kV_law dc_law pm_law an_law cd_law ct_law), sl_law⟩)
    (c_law : PySem.W.codeIn K cd_law "law" = true)
    (k_law : PySem.W.keepIn K (.ref f_law) = true)
    (v_LAST_MOMENT : PySem.W.nsIn K mainGlobals "LAST_MOMENT" = some (some (.int (9999) t_LAST_MOMENT)))
    (v_LAST_COUNT : PySem.W.nsIn K mainGlobals "LAST_COUNT" = some (some (.int (9999) t_LAST_COUNT)))
    (v_LAST_HOUR : PySem.W.nsIn K mainGlobals "LAST_HOUR" = some (some (.int (23) t_LAST_HOUR)))
    (v_LEAST_AHEAD : PySem.W.nsIn K mainGlobals "LEAST_AHEAD" = some (some (.int (-12) t_LEAST_AHEAD)))
    (v_MOST_AHEAD : PySem.W.nsIn K mainGlobals "MOST_AHEAD" = some (some (.int (14) t_MOST_AHEAD)))
    (v_MOST_SHIFTS : PySem.W.nsIn K mainGlobals "MOST_SHIFTS" = some (some (.int (6) t_MOST_SHIFTS)))
    (v_MOST_STEP : PySem.W.nsIn K mainGlobals "MOST_STEP" = some (some (.int (999) t_MOST_STEP)))
    (v_DAY_HOURS : PySem.W.nsIn K mainGlobals "DAY_HOURS" = some (some (.int (24) t_DAY_HOURS)))
    (v_MOST_GAPS : PySem.W.nsIn K mainGlobals "MOST_GAPS" = some (some (.int (999) t_MOST_GAPS)))
    (z_bool : PySem.W.nsIn K mainGlobals "bool" = some none)
    (z_int : PySem.W.nsIn K mainGlobals "int" = some none)
    (z_isinstance : PySem.W.nsIn K mainGlobals "isinstance" = some none)
    (z_len : PySem.W.nsIn K mainGlobals "len" = some none)
    (z_list : PySem.W.nsIn K mainGlobals "list" = some none)
    (z_max : PySem.W.nsIn K mainGlobals "max" = some none)
    (z_range : PySem.W.nsIn K mainGlobals "range" = some none)
    (z_str : PySem.W.nsIn K mainGlobals "str" = some none)
    (z_sum : PySem.W.nsIn K mainGlobals "sum" = some none)
    (z_tuple : PySem.W.nsIn K mainGlobals "tuple" = some none)
    (z_zip : PySem.W.nsIn K mainGlobals "zip" = some none) :
    ∃ fd : FuncData, (∀ (s : Shared) (v : Value), BindsTo s fd ⟨[v], []⟩ [("_law_script", v)]) ∧ ∀ base : Heap, K.In base → base.Ns mainGlobals mg → FnOk l.prog w K mg base CX0 7 fa fd ["_law_script"] (spS K q_law) := by
  have e := hfa.symm.trans (PySem.W.mg_of X G a_law)
  cases e
  have F_is_whole := fun_mk (st := s_is_whole) l_is_whole c_is_whole k_is_whole
  have D_is_whole : FD K mg "is_whole" s_is_whole ["thing", "least", "most"] _ _ := ⟨F_is_whole, PySem.W.mg_of X G a_is_whole, F_is_whole.binds fun _ _ _ _ _ _ us hl => match us, hl with | [_, _, _], _ => rfl⟩
  have F_is_tuple_of := fun_mk (st := s_is_tuple_of) l_is_tuple_of c_is_tuple_of k_is_tuple_of
  have D_is_tuple_of : FD K mg "is_tuple_of" s_is_tuple_of ["thing", "length"] _ _ := ⟨F_is_tuple_of, PySem.W.mg_of X G a_is_tuple_of, F_is_tuple_of.binds fun _ _ _ _ _ _ us hl => match us, hl with | [_, _], _ => rfl⟩
  have F_is_ahead := fun_mk (st := s_is_ahead) l_is_ahead c_is_ahead k_is_ahead
  have D_is_ahead : FD K mg "is_ahead" s_is_ahead ["thing"] _ _ := ⟨F_is_ahead, PySem.W.mg_of X G a_is_ahead, F_is_ahead.binds fun _ _ _ _ _ _ us hl => match us, hl with | [_], _ => rfl⟩
  have F_is_moment := fun_mk (st := s_is_moment) l_is_moment c_is_moment k_is_moment
  have D_is_moment : FD K mg "is_moment" s_is_moment ["thing"] _ _ := ⟨F_is_moment, PySem.W.mg_of X G a_is_moment, F_is_moment.binds fun _ _ _ _ _ _ us hl => match us, hl with | [_], _ => rfl⟩
  have F_are_shifts := fun_mk (st := s_are_shifts) l_are_shifts c_are_shifts k_are_shifts
  have D_are_shifts : FD K mg "are_shifts" s_are_shifts ["thing"] _ _ := ⟨F_are_shifts, PySem.W.mg_of X G a_are_shifts, F_are_shifts.binds fun _ _ _ _ _ _ us hl => match us, hl with | [_], _ => rfl⟩
  have F_is_zone := fun_mk (st := s_is_zone) l_is_zone c_is_zone k_is_zone
  have D_is_zone : FD K mg "is_zone" s_is_zone ["thing"] _ _ := ⟨F_is_zone, PySem.W.mg_of X G a_is_zone, F_is_zone.binds fun _ _ _ _ _ _ us hl => match us, hl with | [_], _ => rfl⟩
  have F_has_word := fun_mk (st := s_has_word) l_has_word c_has_word k_has_word
  have D_has_word : FD K mg "has_word" s_has_word ["thing", "word", "length"] _ _ := ⟨F_has_word, PySem.W.mg_of X G a_has_word, F_has_word.binds fun _ _ _ _ _ _ us hl => match us, hl with | [_, _, _], _ => rfl⟩
  have F_is_plan := fun_mk (st := s_is_plan) l_is_plan c_is_plan k_is_plan
  have D_is_plan : FD K mg "is_plan" s_is_plan ["thing"] _ _ := ⟨F_is_plan, PySem.W.mg_of X G a_is_plan, F_is_plan.binds fun _ _ _ _ _ _ us hl => match us, hl with | [_], _ => rfl⟩
  have F_check_zone := fun_mk (st := s_check_zone) l_check_zone c_check_zone k_check_zone
  have D_check_zone : FD K mg "check_zone" s_check_zone ["thing"] _ _ := ⟨F_check_zone, PySem.W.mg_of X G a_check_zone, F_check_zone.binds fun _ _ _ _ _ _ us hl => match us, hl with | [_], _ => rfl⟩
  have F_check_plan := fun_mk (st := s_check_plan) l_check_plan c_check_plan k_check_plan
  have D_check_plan : FD K mg "check_plan" s_check_plan ["thing"] _ _ := ⟨F_check_plan, PySem.W.mg_of X G a_check_plan, F_check_plan.binds fun _ _ _ _ _ _ us hl => match us, hl with | [_], _ => rfl⟩
  have F_check_count := fun_mk (st := s_check_count) l_check_count c_check_count k_check_count
  have D_check_count : FD K mg "check_count" s_check_count ["thing"] _ _ := ⟨F_check_count, PySem.W.mg_of X G a_check_count, F_check_count.binds fun _ _ _ _ _ _ us hl => match us, hl with | [_], _ => rfl⟩
  have F_shown := fun_mk (st := s_shown) l_shown c_shown k_shown
  have D_shown : FD K mg "shown" s_shown ["zone", "moment"] _ _ := ⟨F_shown, PySem.W.mg_of X G a_shown, F_shown.binds fun _ _ _ _ _ _ us hl => match us, hl with | [_, _], _ => rfl⟩
  have F_stretches := fun_mk (st := s_stretches) l_stretches c_stretches k_stretches
  have D_stretches : FD K mg "stretches" s_stretches ["zone"] _ _ := ⟨F_stretches, PySem.W.mg_of X G a_stretches, F_stretches.binds fun _ _ _ _ _ _ us hl => match us, hl with | [_], _ => rfl⟩
  have F_is_ahead_of := fun_mk (st := s_is_ahead_of) l_is_ahead_of c_is_ahead_of k_is_ahead_of
  have D_is_ahead_of : FD K mg "is_ahead_of" s_is_ahead_of ["moment", "end"] _ _ := ⟨F_is_ahead_of, PySem.W.mg_of X G a_is_ahead_of, F_is_ahead_of.binds fun _ _ _ _ _ _ us hl => match us, hl with | [_, _], _ => rfl⟩
  have F_first_showing := fun_mk (st := s_first_showing) l_first_showing c_first_showing k_first_showing
  have D_first_showing : FD K mg "first_showing" s_first_showing ["zone", "hours"] _ _ := ⟨F_first_showing, PySem.W.mg_of X G a_first_showing, F_first_showing.binds fun _ _ _ _ _ _ us hl => match us, hl with | [_, _], _ => rfl⟩
  have F_first_day := fun_mk (st := s_first_day) l_first_day c_first_day k_first_day
  have D_first_day : FD K mg "first_day" s_first_day ["zone", "hour"] _ _ := ⟨F_first_day, PySem.W.mg_of X G a_first_day, F_first_day.binds fun _ _ _ _ _ _ us hl => match us, hl with | [_, _], _ => rfl⟩
  have F_daily_time := fun_mk (st := s_daily_time) l_daily_time c_daily_time k_daily_time
  have D_daily_time : FD K mg "daily_time" s_daily_time ["zone", "hour", "count"] _ _ := ⟨F_daily_time, PySem.W.mg_of X G a_daily_time, F_daily_time.binds fun _ _ _ _ _ _ us hl => match us, hl with | [_, _, _], _ => rfl⟩
  have F_time_of := fun_mk (st := s_time_of) l_time_of c_time_of k_time_of
  have D_time_of : FD K mg "time_of" s_time_of ["zone", "plan", "count"] _ _ := ⟨F_time_of, PySem.W.mg_of X G a_time_of, F_time_of.binds fun _ _ _ _ _ _ us hl => match us, hl with | [_, _, _], _ => rfl⟩
  have F_due := fun_mk (st := s_due) l_due c_due k_due
  have D_due : FD K mg "due" s_due ["zone", "plan", "count"] _ _ := ⟨F_due, PySem.W.mg_of X G a_due, F_due.binds fun _ _ _ _ _ _ us hl => match us, hl with | [_, _, _], _ => rfl⟩
  have F_gaps := fun_mk (st := s_gaps) l_gaps c_gaps k_gaps
  have D_gaps : FD K mg "gaps" s_gaps ["zone", "plan", "many"] _ _ := ⟨F_gaps, PySem.W.mg_of X G a_gaps, F_gaps.binds fun _ _ _ _ _ _ us hl => match us, hl with | [_, _, _], _ => rfl⟩
  have F__law_cell_at := fun_mk (st := s__law_cell_at) l__law_cell_at c__law_cell_at k__law_cell_at
  have D__law_cell_at : FD K mg "_law_cell_at" s__law_cell_at ["_law_script", "_law_k"] _ _ := ⟨F__law_cell_at, PySem.W.mg_of X G a__law_cell_at, F__law_cell_at.binds fun _ _ _ _ _ _ us hl => match us, hl with | [_, _], _ => rfl⟩
  have F__law_mixed := fun_mk (st := s__law_mixed) l__law_mixed c__law_mixed k__law_mixed
  have D__law_mixed : FD K mg "_law_mixed" s__law_mixed ["_law_script", "_law_k", "_law_many"] _ _ := ⟨F__law_mixed, PySem.W.mg_of X G a__law_mixed, F__law_mixed.binds fun _ _ _ _ _ _ us hl => match us, hl with | [_, _, _], _ => rfl⟩
  have F__law_draw := fun_mk (st := s__law_draw) l__law_draw c__law_draw k__law_draw
  have D__law_draw : FD K mg "_law_draw" s__law_draw ["_law_script", "_law_town", "_law_many"] _ _ := ⟨F__law_draw, PySem.W.mg_of X G a__law_draw, F__law_draw.binds fun _ _ _ _ _ _ us hl => match us, hl with | [_, _, _], _ => rfl⟩
  have F__law_pick := fun_mk (st := s__law_pick) l__law_pick c__law_pick k__law_pick
  have D__law_pick : FD K mg "_law_pick" s__law_pick ["_law_script", "_law_town", "_law_some"] _ _ := ⟨F__law_pick, PySem.W.mg_of X G a__law_pick, F__law_pick.binds fun _ _ _ _ _ _ us hl => match us, hl with | [_, _, _], _ => rfl⟩
  have F__law_zone := fun_mk (st := s__law_zone) l__law_zone c__law_zone k__law_zone
  have D__law_zone : FD K mg "_law_zone" s__law_zone ["_law_script", "_law_town", "_law_wide"] _ _ := ⟨F__law_zone, PySem.W.mg_of X G a__law_zone, F__law_zone.binds fun _ _ _ _ _ _ us hl => match us, hl with | [_, _, _], _ => rfl⟩
  have F__law_shown := fun_mk (st := s__law_shown) l__law_shown c__law_shown k__law_shown
  have D__law_shown : FD K mg "_law_shown" s__law_shown ["_law_zone_here", "_law_moment"] _ _ := ⟨F__law_shown, PySem.W.mg_of X G a__law_shown, F__law_shown.binds fun _ _ _ _ _ _ us hl => match us, hl with | [_, _], _ => rfl⟩
  have F__law_plan := fun_mk (st := s__law_plan) l__law_plan c__law_plan k__law_plan
  have D__law_plan : FD K mg "_law_plan" s__law_plan ["_law_script", "_law_town", "_law_wide"] _ _ := ⟨F__law_plan, PySem.W.mg_of X G a__law_plan, F__law_plan.binds fun _ _ _ _ _ _ us hl => match us, hl with | [_, _, _], _ => rfl⟩
  have F__law_times := fun_mk (st := s__law_times) l__law_times c__law_times k__law_times
  have D__law_times : FD K mg "_law_times" s__law_times ["_law_zone_here", "_law_plan_here", "_law_last"] _ _ := ⟨F__law_times, PySem.W.mg_of X G a__law_times, F__law_times.binds fun _ _ _ _ _ _ us hl => match us, hl with | [_, _, _], _ => rfl⟩
  have F_law := fun_mk (st := s_law) l_law c_law k_law
  have D_law : FD K mg "law" s_law ["_law_script"] _ _ := ⟨F_law, PySem.W.mg_of X G a_law, F_law.binds fun _ _ _ _ _ _ us hl => match us, hl with | [_], _ => rfl⟩
  have T : Tx K mg := {
    d_is_whole := ⟨_, _, D_is_whole⟩
    d_is_tuple_of := ⟨_, _, D_is_tuple_of⟩
    d_is_ahead := ⟨_, _, D_is_ahead⟩
    d_is_moment := ⟨_, _, D_is_moment⟩
    d_are_shifts := ⟨_, _, D_are_shifts⟩
    d_is_zone := ⟨_, _, D_is_zone⟩
    d_has_word := ⟨_, _, D_has_word⟩
    d_is_plan := ⟨_, _, D_is_plan⟩
    d_check_zone := ⟨_, _, D_check_zone⟩
    d_check_plan := ⟨_, _, D_check_plan⟩
    d_check_count := ⟨_, _, D_check_count⟩
    d_shown := ⟨_, _, D_shown⟩
    d_stretches := ⟨_, _, D_stretches⟩
    d_is_ahead_of := ⟨_, _, D_is_ahead_of⟩
    d_first_showing := ⟨_, _, D_first_showing⟩
    d_first_day := ⟨_, _, D_first_day⟩
    d_daily_time := ⟨_, _, D_daily_time⟩
    d_time_of := ⟨_, _, D_time_of⟩
    d_due := ⟨_, _, D_due⟩
    d_gaps := ⟨_, _, D_gaps⟩
    d__law_cell_at := ⟨_, _, D__law_cell_at⟩
    d__law_mixed := ⟨_, _, D__law_mixed⟩
    d__law_draw := ⟨_, _, D__law_draw⟩
    d__law_pick := ⟨_, _, D__law_pick⟩
    d__law_zone := ⟨_, _, D__law_zone⟩
    d__law_shown := ⟨_, _, D__law_shown⟩
    d__law_plan := ⟨_, _, D__law_plan⟩
    d__law_times := ⟨_, _, D__law_times⟩
    c_LAST_MOMENT := ⟨_, PySem.W.mg_of X G v_LAST_MOMENT⟩
    c_LAST_COUNT := ⟨_, PySem.W.mg_of X G v_LAST_COUNT⟩
    c_LAST_HOUR := ⟨_, PySem.W.mg_of X G v_LAST_HOUR⟩
    c_LEAST_AHEAD := ⟨_, PySem.W.mg_of X G v_LEAST_AHEAD⟩
    c_MOST_AHEAD := ⟨_, PySem.W.mg_of X G v_MOST_AHEAD⟩
    c_MOST_SHIFTS := ⟨_, PySem.W.mg_of X G v_MOST_SHIFTS⟩
    c_MOST_STEP := ⟨_, PySem.W.mg_of X G v_MOST_STEP⟩
    c_DAY_HOURS := ⟨_, PySem.W.mg_of X G v_DAY_HOURS⟩
    c_MOST_GAPS := ⟨_, PySem.W.mg_of X G v_MOST_GAPS⟩
    b_bool := PySem.W.mg_none_of X G z_bool
    b_int := PySem.W.mg_none_of X G z_int
    b_isinstance := PySem.W.mg_none_of X G z_isinstance
    b_len := PySem.W.mg_none_of X G z_len
    b_list := PySem.W.mg_none_of X G z_list
    b_max := PySem.W.mg_none_of X G z_max
    b_range := PySem.W.mg_none_of X G z_range
    b_str := PySem.W.mg_none_of X G z_str
    b_sum := PySem.W.mg_none_of X G z_sum
    b_tuple := PySem.W.mg_none_of X G z_tuple
    b_zip := PySem.W.mg_none_of X G z_zip
  }
  exact ⟨PySem.W.fnOf "law" "law" (defArgs s_law) (defBody s_law) (defScope s_law) .none kV_law dc_law pm_law an_law cd_law ct_law, fun s v => .of_eq rfl, fun base _ _ => ok_law T D_law⟩
theorem law_walk {l : PySem.W.OpenLaw} {q : Program} {loose : List Str} {XP : (Str → Option Value) → Heap → Prop} {YP : World → Heap → Prop} {d : DefRec} {K : Params → PySem.W.Frag} (hn : l.most = some 63) (hdf : d.params.defaults = [])
    (hY : ∀ (w : World) (h : Heap), YP w h → (K w.params).In h)
    (F : ∀ (w : World) (mg : Str → Option Value) (fa : Addr) (h : Heap), (K w.params).In h → h.Ns mainGlobals mg → mg d.name = some (.ref fa) →
      ∃ fd : FuncData, (∀ (s : Shared) (u : Value), BindsTo s fd ⟨[u], []⟩ [("_law_script", u)]) ∧ ∀ base : Heap, (K w.params).In base → base.Ns mainGlobals mg → FnOk l.prog w (K w.params) mg base CX0 7 fa fd ["_law_script"] (spS (K w.params) q_law)) :
    PySem.W.WalkO q loose XP YP l.row.toRowW d [] (fun f vs => PySem.call f vs) := by
  refine L2.walk_of (n := 63) (k := 7) (x := "_law_script") (CX := fun _ => CX0) (sp := fun w => spS (K w.params) q_law) hn (by decide) hdf ⟨rfl, by decide, by decide⟩ hY F (fun w H a ns hl hO hS => ?hsp) fun _ _ _ _ _ z => z
  refine ⟨[], a, ns, [], [], rfl, fun b hb => (by cases hb), ⟨hl, ?_⟩, .nil, rfl, fun v H' _ hd => hd.bl_inv⟩
  rcases hS with (h1 | h1) | h1
  · rcases hO a with h2 | ⟨o, xs, h2⟩
    · rw [h2] at h1; cases h1
    · rw [h2] at h1; cases h1
  · exact .inl h1
  · exact .inr h1
end K3

open PySem PySem.W PyProof.Rows
set_option maxRecDepth 100000 in
set_option maxHeartbeats 0 in
theorem PySem.Challenge.cw_duehall_k29_whole_gaps_holds : PySem.Challenge.rw_duehall_k29_whole_gaps.Holds := by
  w_on; o_law; k_head; (case hw => w_witness2)
  k_fill
  refine K3.law_walk (l := PySem.Challenge.rw_duehall_k29_whole_gaps) rfl rfl (fun w h Y => PySem.W.kIn_of Y) ?F
  case F =>
    intro w mg fa h KX G hmg
    refine' K3.all_mk KX G hmg ?a_is_whole ?l_is_whole ?c_is_whole ?k_is_whole ?a_is_tuple_of ?l_is_tuple_of ?c_is_tuple_of ?k_is_tuple_of ?a_is_ahead ?l_is_ahead ?c_is_ahead ?k_is_ahead ?a_is_moment ?l_is_moment ?c_is_moment ?k_is_moment ?a_are_shifts ?l_are_shifts ?c_are_shifts ?k_are_shifts ?a_is_zone ?l_is_zone ?c_is_zone ?k_is_zone ?a_has_word ?l_has_word ?c_has_word ?k_has_word ?a_is_plan ?l_is_plan ?c_is_plan ?k_is_plan ?a_check_zone ?l_check_zone ?c_check_zone ?k_check_zone ?a_check_plan ?l_check_plan ?c_check_plan ?k_check_plan ?a_check_count ?l_check_count ?c_check_count ?k_check_count ?a_shown ?l_shown ?c_shown ?k_shown ?a_stretches ?l_stretches ?c_stretches ?k_stretches ?a_is_ahead_of ?l_is_ahead_of ?c_is_ahead_of ?k_is_ahead_of ?a_first_showing ?l_first_showing ?c_first_showing ?k_first_showing ?a_first_day ?l_first_day ?c_first_day ?k_first_day ?a_daily_time ?l_daily_time ?c_daily_time ?k_daily_time ?a_time_of ?l_time_of ?c_time_of ?k_time_of ?a_due ?l_due ?c_due ?k_due ?a_gaps ?l_gaps ?c_gaps ?k_gaps ?a__law_cell_at ?l__law_cell_at ?c__law_cell_at ?k__law_cell_at ?a__law_mixed ?l__law_mixed ?c__law_mixed ?k__law_mixed ?a__law_draw ?l__law_draw ?c__law_draw ?k__law_draw ?a__law_pick ?l__law_pick ?c__law_pick ?k__law_pick ?a__law_zone ?l__law_zone ?c__law_zone ?k__law_zone ?a__law_shown ?l__law_shown ?c__law_shown ?k__law_shown ?a__law_plan ?l__law_plan ?c__law_plan ?k__law_plan ?a__law_times ?l__law_times ?c__law_times ?k__law_times ?a_law ?l_law ?c_law ?k_law ?v_LAST_MOMENT ?v_LAST_COUNT ?v_LAST_HOUR ?v_LEAST_AHEAD ?v_MOST_AHEAD ?v_MOST_SHIFTS ?v_MOST_STEP ?v_DAY_HOURS ?v_MOST_GAPS ?z_bool ?z_int ?z_isinstance ?z_len ?z_list ?z_max ?z_range ?z_str ?z_sum ?z_tuple ?z_zip
    (case a_is_whole => k_is)
    (case l_is_whole => k_is)
    (case c_is_whole => k_is)
    (case k_is_whole => k_is)
    (case a_is_tuple_of => k_is)
    (case l_is_tuple_of => k_is)
    (case c_is_tuple_of => k_is)
    (case k_is_tuple_of => k_is)
    (case a_is_ahead => k_is)
    (case l_is_ahead => k_is)
    (case c_is_ahead => k_is)
    (case k_is_ahead => k_is)
    (case a_is_moment => k_is)
    (case l_is_moment => k_is)
    (case c_is_moment => k_is)
    (case k_is_moment => k_is)
    (case a_are_shifts => k_is)
    (case l_are_shifts => k_is)
    (case c_are_shifts => k_is)
    (case k_are_shifts => k_is)
    (case a_is_zone => k_is)
    (case l_is_zone => k_is)
    (case c_is_zone => k_is)
    (case k_is_zone => k_is)
    (case a_has_word => k_is)
    (case l_has_word => k_is)
    (case c_has_word => k_is)
    (case k_has_word => k_is)
    (case a_is_plan => k_is)
    (case l_is_plan => k_is)
    (case c_is_plan => k_is)
    (case k_is_plan => k_is)
    (case a_check_zone => k_is)
    (case l_check_zone => k_is)
    (case c_check_zone => k_is)
    (case k_check_zone => k_is)
    (case a_check_plan => k_is)
    (case l_check_plan => k_is)
    (case c_check_plan => k_is)
    (case k_check_plan => k_is)
    (case a_check_count => k_is)
    (case l_check_count => k_is)
    (case c_check_count => k_is)
    (case k_check_count => k_is)
    (case a_shown => k_is)
    (case l_shown => k_is)
    (case c_shown => k_is)
    (case k_shown => k_is)
    (case a_stretches => k_is)
    (case l_stretches => k_is)
    (case c_stretches => k_is)
    (case k_stretches => k_is)
    (case a_is_ahead_of => k_is)
    (case l_is_ahead_of => k_is)
    (case c_is_ahead_of => k_is)
    (case k_is_ahead_of => k_is)
    (case a_first_showing => k_is)
    (case l_first_showing => k_is)
    (case c_first_showing => k_is)
    (case k_first_showing => k_is)
    (case a_first_day => k_is)
    (case l_first_day => k_is)
    (case c_first_day => k_is)
    (case k_first_day => k_is)
    (case a_daily_time => k_is)
    (case l_daily_time => k_is)
    (case c_daily_time => k_is)
    (case k_daily_time => k_is)
    (case a_time_of => k_is)
    (case l_time_of => k_is)
    (case c_time_of => k_is)
    (case k_time_of => k_is)
    (case a_due => k_is)
    (case l_due => k_is)
    (case c_due => k_is)
    (case k_due => k_is)
    (case a_gaps => k_is)
    (case l_gaps => k_is)
    (case c_gaps => k_is)
    (case k_gaps => k_is)
    (case a__law_cell_at => k_is)
    (case l__law_cell_at => k_is)
    (case c__law_cell_at => k_is)
    (case k__law_cell_at => k_is)
    (case a__law_mixed => k_is)
    (case l__law_mixed => k_is)
    (case c__law_mixed => k_is)
    (case k__law_mixed => k_is)
    (case a__law_draw => k_is)
    (case l__law_draw => k_is)
    (case c__law_draw => k_is)
    (case k__law_draw => k_is)
    (case a__law_pick => k_is)
    (case l__law_pick => k_is)
    (case c__law_pick => k_is)
    (case k__law_pick => k_is)
    (case a__law_zone => k_is)
    (case l__law_zone => k_is)
    (case c__law_zone => k_is)
    (case k__law_zone => k_is)
    (case a__law_shown => k_is)
    (case l__law_shown => k_is)
    (case c__law_shown => k_is)
    (case k__law_shown => k_is)
    (case a__law_plan => k_is)
    (case l__law_plan => k_is)
    (case c__law_plan => k_is)
    (case k__law_plan => k_is)
    (case a__law_times => k_is)
    (case l__law_times => k_is)
    (case c__law_times => k_is)
    (case k__law_times => k_is)
    (case a_law => k_is)
    (case l_law => k_is)
    (case c_law => k_is)
    (case k_law => k_is)
    (case v_LAST_MOMENT => k_is)
    (case v_LAST_COUNT => k_is)
    (case v_LAST_HOUR => k_is)
    (case v_LEAST_AHEAD => k_is)
    (case v_MOST_AHEAD => k_is)
    (case v_MOST_SHIFTS => k_is)
    (case v_MOST_STEP => k_is)
    (case v_DAY_HOURS => k_is)
    (case v_MOST_GAPS => k_is)
    (case z_bool => k_is)
    (case z_int => k_is)
    (case z_isinstance => k_is)
    (case z_len => k_is)
    (case z_list => k_is)
    (case z_max => k_is)
    (case z_range => k_is)
    (case z_str => k_is)
    (case z_sum => k_is)
    (case z_tuple => k_is)
    (case z_zip => k_is)

