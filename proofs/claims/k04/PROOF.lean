import PyProof.Rows.All
import Wide.All
import OpenK.AllK
import Wide.FinOn
import Lean
import PyProof.EqAt
import PyProof.EqKinds
import PyProof.TupleCall
import PySem.Challenge.RW_markcounts_k04_whole_boards_counted
-- CHANGE: your row's module here, as the last of these rows
set_option Elab.async false
set_option linter.all false
set_option maxRecDepth 100000
/-! THE HAND LAYER, for ints, bools, texts, own classes, LISTS and tuples (index, slices, in, append, pop ..), calls, loops. Paste it whole ahead of your own text; what your proof does not reach may be deleted. -/
namespace L2
open PySem PySem.Spec PyProof.Rows

/-- a key: an int or a str -/
abbrev Key := Sum Int Str
def keyIs : Key → Value → Bool
  | .inl k, v => Value.isInt k v
  | .inr x, v => Value.isStrOf x v
def keyH (w : World) : Key → Int
  | .inl k => hashInt k
  | .inr x => hashStr w x
theorem keyIs_shape : ∀ {k : Key} {v : Value}, keyIs k v = true → (∃ i t, k = Sum.inl i ∧ v = Value.int i t) ∨ (∃ x t, k = Sum.inr x ∧ v = Value.str x t)
  | .inl i, v, h => by
    obtain ⟨t, e⟩ := Value.isInt_shape (k := i) (v := v) h
    exact .inl ⟨i, t, rfl, e⟩
  | .inr x, v, h => by
    obtain ⟨t, e⟩ := Value.isStrOf_shape (x := x) (v := v) h
    exact .inr ⟨x, t, rfl, e⟩
theorem key_ll (a b : Int) : decide ((Sum.inl a : Key) = Sum.inl b) = (a == b) := by
  by_cases e : a = b
  · subst e; simp
  · have h : ¬ (Sum.inl a : Key) = Sum.inl b := fun q => e (Sum.inl.inj q)
    rw [decide_eq_false h]
    exact (beq_eq_false_iff_ne.mpr e).symm
theorem key_rr (a b : Str) : decide ((Sum.inr a : Key) = Sum.inr b) = decide (a = b) := by
  by_cases e : a = b
  · subst e; simp
  · have h : ¬ (Sum.inr a : Key) = Sum.inr b := fun q => e (Sum.inr.inj q)
    rw [decide_eq_false h, decide_eq_false e]
theorem key_lr (a : Int) (b : Str) : decide ((Sum.inl a : Key) = Sum.inr b) = false := decide_eq_false (fun q => nomatch q)
theorem key_rl (a : Str) (b : Int) : decide ((Sum.inr a : Key) = Sum.inl b) = false := decide_eq_false (fun q => nomatch q)

def mixKind (prog : Program) (w : World) : PySem.KeyKind prog w Key where
  is := keyIs
  hash := keyH w
  inj := fun v a b ha hb => by
    rcases keyIs_shape ha with ⟨i, t, rfl, rfl⟩ | ⟨x, t, rfl, rfl⟩
    · rcases keyIs_shape hb with ⟨j, u, rfl, e⟩ | ⟨y, u, rfl, e⟩
      · injection e with e1 _; rw [e1]
      · exact nomatch e
    · rcases keyIs_shape hb with ⟨j, u, rfl, e⟩ | ⟨y, u, rfl, e⟩
      · exact nomatch e
      · injection e with e1 _; rw [e1]
  byValue := fun k v h => by
    rcases keyIs_shape h with ⟨i, t, rfl, rfl⟩ | ⟨x, t, rfl, rfl⟩ <;> rfl
  pyHash := fun hv h => by
    rcases keyIs_shape hv with ⟨i, t, rfl, rfl⟩ | ⟨x, t, rfl, rfl⟩
    · exact wpAny_pyHash_int h
    · exact wpAny_pyHash_str h
  eqBool := fun hu hv h => by
    rcases keyIs_shape hu with ⟨i, t, rfl, rfl⟩ | ⟨x, t, rfl, rfl⟩
    · rcases keyIs_shape hv with ⟨j, u, rfl, rfl⟩ | ⟨y, u, rfl, rfl⟩
      · rw [key_ll] at h; exact wpAny_eqBool_int h
      · rw [key_lr] at h; exact SeqAt.EqAt.int_str i t y u _ _ _ _ h
    · rcases keyIs_shape hv with ⟨j, u, rfl, rfl⟩ | ⟨y, u, rfl, rfl⟩
      · rw [key_rl] at h; exact SeqAt.EqAt.str_int x t j u _ _ _ _ h
      · rw [key_rr] at h; exact wpAny_eqBool_str h
  «strs» := fun k x t v h => by
    rcases keyIs_shape h with ⟨i, u, rfl, e⟩ | ⟨y, u, rfl, e⟩
    · exact nomatch e
    · injection e with e1 _
      subst e1
      cases v <;> rfl

end L2

namespace L2
open PySem PySem.Spec PyProof.Rows
/-! ### keys (int, tuple of ints) -/
abbrev NKey := Int × List Int
/-- a key as data -/
def keyD (k : NKey) : PyData := .tuple [.int k.1, .tuple (k.2.map .int)]
theorem keyD_inj {x y : NKey} (h : keyD x = keyD y) : x = y := by
  obtain ⟨i, xs⟩ := x
  obtain ⟨j, ys⟩ := y
  simp only [keyD, PyData.tuple.injEq, List.cons.injEq, PyData.int.injEq, and_true] at h
  have inj : ∀ {a b : List Int}, a.map PyData.int = b.map PyData.int → a = b := fun {a} => by
    induction a with
    | nil => intro b e; cases b with | nil => rfl | cons _ _ => cases e
    | cons x a ih => intro b e; cases b with | nil => cases e | cons y b => simp only [List.map_cons, List.cons.injEq, PyData.int.injEq] at e; rw [e.1, ih e.2]
  rw [h.1, inj h.2]
theorem lay_ints : ∀ l : List Int, PyData.canLayAll0 (l.map PyData.int) = true
  | [] => rfl
  | _ :: l => by simp [PyData.canLayAll0, PyData.canLay0, lay_ints l]
theorem deep_ints : ∀ l : List Int, PyData.depthAll (l.map PyData.int) = 0
  | [] => rfl
  | _ :: l => by simp [PyData.depthAll, PyData.depth, deep_ints l]
theorem keyD_lay (k : NKey) : (keyD k).canLay0 = true := by simp [keyD, PyData.canLay0, PyData.canLayAll0, lay_ints]
theorem keyD_deep (k : NKey) : (keyD k).depth = 2 := by simp [keyD, PyData.depth, PyData.depthAll, deep_ints]
theorem eqv_ints : ∀ a b : List Int, PyData.eqvAll (a.map .int) (b.map .int) = decide (a = b)
  | [], [] => rfl
  | [], _ :: _ => rfl
  | _ :: _, [] => rfl
  | x :: a, y :: b => by simp [PyData.eqvAll, PyData.eqv, eqv_ints a b, Bool.beq_eq_decide_eq]
theorem keyD_eqv (x y : NKey) : PyData.eqv (keyD x) (keyD y) = decide (x = y) := by
  obtain ⟨i, xs⟩ := x
  obtain ⟨j, ys⟩ := y
  simp [keyD, PyData.eqv, PyData.eqvAll, eqv_ints, Bool.beq_eq_decide_eq]
section
variable {P : Program} {w : World}
/-- a tuple of an int and of a tuple of ints stands at a -/
def IsPairKey (P : Program) (w : World) (h : Heap) (k : NKey) (a : Addr) : Prop := ∃ (o : Obj) (m : Nat) (t : Tok) (b : Addr), h.get? a = some o ∧ o.cls = .type "tuple" ∧ o.data = .seq #[.int k.1 t, .ref b] m ∧ IsTupleKey (intKind P w) h k.2 b
theorem IsPairKey.typeIs {s : Shared} {k : NKey} {a : Addr} (x : IsPairKey P w s.heap k a) : s.TypeIs (.ref a) "tuple" := by
  obtain ⟨o, _, _, _, at_, cls, _⟩ := x
  exact ⟨o, at_, cls⟩
theorem ints_read {h : Heap} : ∀ {ns : List Int} {us : List Value}, ItemsAre (intKind P w) ns us → ∃ as, ReadsAll h us (ns.map .int) as := by
  intro ns
  induction ns with
  | nil => intro us x; cases x; exact ⟨_, .nil⟩
  | cons n ns ih =>
    intro us x
    cases x with
    | @cons _ v _ _ x y =>
      obtain ⟨as, r⟩ := ih y
      cases v with
      | int i t =>
        have e : i = n := by simpa [intKind, Value.isInt] using x
        subst e
        exact ⟨_, .cons (.int _ _) r⟩
      | _ => simp [intKind, Value.isInt] at x
theorem IsPairKey.reads {h : Heap} {k : NKey} {a : Addr} (x : IsPairKey P w h k a) : ∃ as, Reads h (.ref a) (keyD k) as := by
  obtain ⟨o, m, t, b, at_, cls, data, o', items, m', at', cls', data', are⟩ := x
  obtain ⟨as, r⟩ := ints_read (h := h) are
  exact ⟨_, .tuple at_ cls data (.cons (.int _ _) (.cons (.tuple at' cls' data' r) .nil))⟩
theorem IsPairKey.inj {h : Heap} {a : Addr} {x y : NKey} (hx : IsPairKey P w h x a) (hy : IsPairKey P w h y a) : x = y := by
  obtain ⟨_, rx⟩ := hx.reads
  obtain ⟨_, ry⟩ := hy.reads
  exact keyD_inj (SeqAt.Reads.unique _ _ _ _ _ (keyD_lay x) rx ry)
theorem IsPairKey.keeps {h h' : Heap} {k : NKey} {a d : Addr} {o : Obj} {es ep} (x : IsPairKey P w h k a) (ho : h.get? d = some o) (hd : o.data = .dict es ep) (same : Heap.SameBut d h h') : IsPairKey P w h' k a := by
  obtain ⟨o', m, t, b, at_, cls, data, inner⟩ := x
  refine ⟨o', m, t, b, (same.2 a fun z => ?_).trans at_, cls, data, inner.keeps ho hd same⟩
  rw [z, ho] at at_
  cases at_
  rw [hd] at data
  cases data
variable {A : Around} {E : Value → Shared → Prop} {s : Shared}
theorem eqBool_pair {x y : NKey} {a b : Addr} {Q : Bool → Shared → Prop} (hu : A.units + 8 < cLine) (hx : IsPairKey P w s.heap x a) (hy : IsPairKey P w s.heap y b) (q : Q (decide (x = y)) s) : wpAny (model P w) A (eqBool (.ref a) (.ref b)) Q E s := by
  obtain ⟨_, rx⟩ := hx.reads
  obtain ⟨_, ry⟩ := hy.reads
  refine SeqAt.eqAt_reads _ _ A s _ _ _ _ rx ry (keyD_lay x) (keyD_lay y) ?_ P w E Q ?_
  · rw [keyD_deep, keyD_deep]; omega
  · rw [keyD_eqv]; exact q
/-- a loop whose turns leave all as it was -/
theorem turns_calm {M : Model} {α β : Type} {f : α → β → Sem (ForInStep β)} {c : β} : ∀ (vs : List α), (∀ v ∈ vs, ∀ Z : ForInStep β → Shared → Prop, Z (.yield c) s → wpAny M A (f v c) Z E s) → ∀ Z : β → Shared → Prop, Z c s → wpAny M A (forIn vs c f) Z E s
  | [], _, Z, z => by rw [List.forIn_nil]; exact wpAny_pure z
  | v :: vs, each, Z, z => by
    rw [List.forIn_cons]
    apply wpAny_bind
    apply each v (.head _)
    exact turns_calm vs (fun u hu => each u (.tail _ hu)) Z z
/-- a tuple is quiet where its items are -/
theorem quiet_of {a : Addr} {o : Obj} {items : List Value} {m n : Nat} {Q : Bool → Shared → Prop} (at_ : s.heap.get? a = some o) (cls : o.cls = .type "tuple") (data : o.data = .seq items.toArray m) (each : ∀ v ∈ items, ∀ Z : Bool → Shared → Prop, Z true s → wpAny (model P w) A (eqIsQuiet n v) Z E s) (q : Q true s) : wpAny (model P w) A (eqIsQuiet (n + 1) (.ref a)) Q E s := by
  have ty : s.TypeIs (.ref a) "tuple" := ⟨o, at_, cls⟩
  unfold eqIsQuiet
  apply wpAny_bind
  apply wpAny_specialOf ty F.slot_tuple_eq.lookup
  dsimp only
  apply wpAny_bind
  apply wpAny_isInstance ty isSubtype_tuple_tuple
  rw [if_neg (by decide)]
  apply wpAny_bind
  apply wpAny_seqItems at_ data
  dsimp only [Option.getD_some]
  apply wpAny_bind
  rw [List.forIn_toArray]
  apply turns_calm
  · intro v hv Z z
    apply wpAny_bind
    apply each v hv
    rw [if_neg (by decide)]
    exact wpAny_pure z
  · exact wpAny_pure q
theorem quiet_pair {k : NKey} {a : Addr} {Q : Bool → Shared → Prop} (hk : IsPairKey P w s.heap k a) (q : Q true s) : wpAny (model P w) A (eqIsQuiet 8 (.ref a)) Q E s := by
  obtain ⟨o, m, t, b, at_, cls, data, o', items, m', at', cls', data', are⟩ := hk
  refine quiet_of (n := 7) (items := [.int k.1 t, .ref b]) at_ cls data (fun v hv Z z => ?_) q
  have hv : v = .int k.1 t ∨ v = .ref b := by simpa using hv
  rcases hv with rfl | rfl
  · rw [eqIsQuiet_byValue _ rfl]; exact wpAny_pure z
  · refine quiet_of (n := 6) (items := items.toList) at' cls' (by simpa using data') (fun v hv Z z => ?_) z
    rw [eqIsQuiet_byValue _ (are.byValue v hv)]; exact wpAny_pure z
def pairHash (P : Program) (w : World) (k : NKey) : Int := reduceHash (Builtin.Tuple.tupleHashOf [hashInt k.1, tupleKeyHash (intKind P w) k.2])
theorem hash_pair {k : NKey} {a : Addr} {Q : Int → Shared → Prop} (hu : A.units + 8 < cLine) (hk : IsPairKey P w s.heap k a) (q : Q (pairHash P w k) { s with toks := s.toks + (k.2.length + 3) }) : wpAny (model P w) A (pyHash (.ref a)) Q E s := by
  have ty := hk.typeIs
  obtain ⟨o, m, t, b, at_, cls, data, inner⟩ := hk
  show wpAny _ _ (pyHashByItsType (.ref a)) Q E s
  delta pyHashByItsType
  apply wpAny_bind
  apply wpAny_cRoomFor_or (.inr (by omega))
  apply wpAny_bind
  apply wpAny_specialOf ty F.slot_tuple_hash.lookup
  dsimp only
  rw [if_neg (by decide)]
  apply wpAny_bind
  apply wpAny_specialOf ty F.slot_tuple_hash.lookup
  rw [if_neg (by decide)]
  apply wpAny_bind
  apply wpAny_callSpecialIfBoundUnlessNone?_slot ty F.slot_tuple_hash
  refine wpAny_call_entry F.slot_tuple_hash ty F.entry_tuple_hash ?_ (F.args_tuple_hash_1 _)
  delta Builtin.«tuple.__hash__»
  apply wpAny_bind
  apply wpAny_of_eq (a := (Value.ref a, ([] : List Value))) rfl
  apply wpAny_bind
  apply wpAny_tupleItemsOf at_ data
  apply wpAny_bind
  rw [show (#[Value.int k.1 t, Value.ref b] : Array Value) = [Value.int k.1 t, Value.ref b].toArray from rfl, List.forIn_toArray, List.forIn_cons]
  apply wpAny_bind
  apply wpAny_bind
  apply wpAny_pyHash_int
  apply wpAny_pure
  dsimp only
  rw [List.forIn_cons]
  apply wpAny_bind
  apply wpAny_bind
  apply wpAny_pyHash_tuple (knd := intKind P w) (s := { s with toks := s.toks + 1 }) (show A.units + 1 < cLine by omega) inner
  apply wpAny_pure
  dsimp only
  rw [List.forIn_nil]
  apply wpAny_pure
  apply wpAny_ret_mkInt
  show wpAny _ _ (pyHashByItsType.reduced (Builtin.Tuple.tupleHashOf [hashInt k.1, tupleKeyHash (intKind P w) k.2])) Q E _
  delta pyHashByItsType.reduced
  dsimp only
  unfold pairHash reduceHash at q
  have add : s.toks + 1 + (k.2.length + 1) + 1 = s.toks + (k.2.length + 3) := by omega
  split
  · rename_i c
    rw [if_pos c] at q
    exact wpAny_pure (add ▸ q)
  · rename_i c
    rw [if_neg c] at q
    apply wpAny_bind
    apply wpAny_rule
    exact wpAny_pure (add ▸ q)
end
def pairKind (P : Program) (w : World) : HeapKind P w NKey where
  is := IsPairKey P w
  hash := pairHash P w
  draws := fun k => k.2.length + 3
  room := fun A => A.units + 8 < cLine
  inj := fun x y => x.inj y
  keeps := fun x a b c => x.keeps a b c
  pyHash := hash_pair
  eqBool := eqBool_pair
  quiet := quiet_pair
end L2

namespace L2
open PySem PySem.Spec PyProof.Rows

/-- a value, without the heap -/
inductive V where
  | non | bl (b : Bool) | int (i : Int) | str (x : Str) | byt (b : Array UInt8) | flt (b : UInt64) | ref (a : Addr) | ty (n : String)
  deriving DecidableEq

def RelV : V → Value → Prop
  | .non, u => u = Value.none
  | .bl b, u => u = Value.bool b
  | .int i, u => ∃ t, u = Value.int i t
  | .str x, u => ∃ t, u = Value.str x t
  | .byt b, u => ∃ t, u = Value.bytes b t
  | .flt b, u => ∃ t, u = Value.float b t
  | .ref a, u => u = Value.ref a
  | .ty n, u => u = Value.type n

abbrev Vals : List V → List Value → Prop := Paired RelV
theorem Vals.length {xs : List V} {us : List Value} (r : Vals xs us) : xs.length = us.length := Paired.length r
theorem Vals.get : ∀ {xs : List V} {us : List Value} {i : Nat} {x : V}, Vals xs us → xs[i]? = some x → ∃ u, us[i]? = some u ∧ RelV x u
  | _, _, _, _, .nil, e => by simp at e
  | _, _, 0, _, .cons r _, e => by simp at e; subst e; exact ⟨_, rfl, r⟩
  | _, _, i + 1, x, .cons _ t, e => by
    obtain ⟨u, h1, h2⟩ := Vals.get (i := i) (x := x) t (by simpa using e)
    exact ⟨u, by simpa using h1, h2⟩
theorem Vals.set {x : V} {u : Value} (r : RelV x u) : ∀ {xs : List V} {us : List Value} (i : Nat), Vals xs us → Vals (xs.set i x) (us.set i u)
  | _, _, _, .nil => .nil
  | _, _, 0, .cons _ t => .cons r t
  | _, _, i + 1, .cons q t => .cons q (Vals.set r i t)
theorem Vals.append : ∀ {xs ys : List V} {us ws : List Value}, Vals xs us → Vals ys ws → Vals (xs ++ ys) (us ++ ws)
  | _, _, _, _, .nil, s => s
  | _, _, _, _, .cons r t, s => .cons r (Vals.append t s)
theorem Vals.take : ∀ {xs : List V} {us : List Value} (n : Nat), Vals xs us → Vals (xs.take n) (us.take n)
  | _, _, 0, _ => .nil
  | _, _, _ + 1, .nil => .nil
  | _, _, n + 1, .cons r t => .cons r (Vals.take n t)
theorem Vals.drop : ∀ {xs : List V} {us : List Value} (n : Nat), Vals xs us → Vals (xs.drop n) (us.drop n)
  | _, _, 0, r => r
  | _, _, _ + 1, .nil => .nil
  | _, _, n + 1, .cons _ t => Vals.drop n t
theorem Vals.none_of : ∀ {xs : List V} {us : List Value} {i : Nat}, Vals xs us → xs[i]? = none → us[i]? = none := fun {xs us i} r e => by
  have h1 := r.length
  have h2 : xs.length ≤ i := List.getElem?_eq_none_iff.mp e
  exact List.getElem?_eq_none_iff.mpr (by omega)

def RelO : Option V → Option Value → Prop
  | some v, some u => RelV v u
  | none, none => True
  | _, _ => False
def KV {κ : Type} : List (κ × V) → List (κ × Value) → Prop := Paired fun (p : κ × V) (q : κ × Value) => p.1 = q.1 ∧ RelV p.2 q.2

/-- a key of a dict (00_mix): an int or a text -/
def kV : Key → V
  | .inl i => .int i
  | .inr x => .str x

/-- what stands at a tracked address -/
inductive HO where
  /-- a list -/
  | lst (xs : List V)
  /-- a tuple (never changes) -/
  | tup (xs : List V)
  /-- a dict whose keys are ints and texts; one whose keys are tuples of ints and texts (the empty one is both) -/
  | dK (kvs : List (Key × V)) | dT (kvs : List (NKey × V))
  /-- a set of ints: its members, its size -/
  | set (S : Int → Bool) (n : Nat)
  /-- an instance of the class at C, its dict at dx, its attributes -/
  | ins (C dx : Addr) (fs : List (Str × V))
  /-- the dict of the instance at x -/
  | own (x : Addr)
  /-- the dict of an exception -/
  | xd (fs : List (Str × V))
  /-- a bound method, f of x -/
  | met (f x : Addr)
  /-- a range object lo, lo + 1, .. below hi -/
  | rng (lo hi : Int)
  /-- a thing that is known to the object (the script; a dict while a loop walks it): read, never written while it is so -/
  | frz (o : Obj) (u : HO)
  /-- a code object's table -/
  | tbl (ps : Array Value)
  /-- any other thing, by what is true of its one object (a def of one's own: SetO a S n := HO.ext fun h => ..) -/
  | ext (φ : Heap → Prop)

abbrev Hp := Addr → Option HO
def upd (H : Hp) (a : Addr) (o : HO) : Hp := fun b => if b = a then some o else H b
theorem upd_same {H : Hp} {a : Addr} {o : HO} : upd H a o a = some o := by unfold upd; rw [if_pos rfl]
theorem upd_ne {H : Hp} {a b : Addr} {o : HO} (h : b ≠ a) : upd H a o b = H b := by unfold upd; rw [if_neg h]
/-- two objects of different content stand apart -/
theorem ne_of {H : Hp} {a b : Addr} {o u : HO} (h : H a = some o) (h' : H b = some u) (d : o ≠ u) : a ≠ b := by
  intro e; subst e; rw [h] at h'; exact d (Option.some.inj h')
theorem ne_of_none {H : Hp} {a b : Addr} {o : HO} (h : H a = some o) (h' : H b = none) : a ≠ b := by
  intro e; subst e; rw [h] at h'; cases h'

section
variable (P : Program) (w : World)
def ObjOk (H : Hp) (h : Heap) (a : Addr) : HO → Prop
  | .lst xs => xs.length ≤ sizeLine ∧ ∃ (its : List Value) (n : Nat), Vals xs its ∧ h.get? a = some { cls := .type "list", data := .seq its.toArray n }
  | .tup xs => xs.length ≤ sizeLine ∧ ∃ its : List Value, Vals xs its ∧ IsTup h a its.toArray
  | .dK kvs => kvs.length ≤ sizeLine ∧ (a == sysModules) = false ∧ ∃ vs, KV kvs vs ∧ h.DictOf (mixKind P w) a vs
  | .dT kvs => kvs.length ≤ sizeLine ∧ (a == sysModules) = false ∧ ∃ xs : List (NKey × Addr × Value),
      Paired (fun (p : NKey × V) (q : NKey × Addr × Value) => p.1 = q.1 ∧ (∃ b, H q.2.1 = some (.tup [.int p.1.1, .ref b]) ∧ H b = some (.tup (p.1.2.map V.int))) ∧ RelV p.2 q.2.2) kvs xs ∧
      ∃ o es ep, h.get? a = some o ∧ o.ExactDict ∧ o.data = .dict es ep ∧ es.toList = xs.map (entryOfKey (pairKind P w)) ∧ (xs.map (·.1)).Nodup
  | .set S n => h.SetOf (intKind P w) a S n
  | .ins C dx fs => H dx = some (.own a) ∧ fs.length ≤ 1000 ∧ dx ≠ a ∧ h.get? a = some (PySem.W.instObj C dx) ∧
      ∃ mA, h.Ns1 dx mA ∧ (∀ f, RelO (fs.lookup f) (mA f)) ∧ PySem.Within mA (fs.map (·.1))
  | .own _ => ∃ o, h.get? a = some o
  | .xd fs => ∃ mA, h.Ns1 a mA ∧ ∀ f, RelO (fs.lookup f) (mA f)
  | .rng lo hi => ∃ t u v, h.get? a = some { cls := .type "range", data := .fields #[.int lo t, .int hi u, .int 1 v] }
  | .frz o u => h.get? a = some o ∧ ObjOk H h a u
  | .tbl ps => h.get? a = some { cls := .none, data := .fields ps }
  | .met f x => h.get? a = some (PySem.W.methodObj (.ref f) (.ref x))
  | .ext φ => φ h ∧ (∃ o, h.get? a = some o) ∧ ∀ h1 h2 : Heap, φ h1 → (∀ o, h1.get? a = some o → h2.get? a = some o) → φ h2
/-- the abstract heap is held -/
def HOk (H : Hp) (h : Heap) : Prop := ∀ a o, H a = some o → ObjOk P w H h a o
end

section
variable {P : Program} {w : World} {H H' : Hp} {h h' : Heap} {a : Addr} {o : HO}
theorem ObjOk.lt (x : ObjOk P w H h a o) : a < h.objs.size := by
  cases o with
  | lst xs => obtain ⟨_, _, _, _, e⟩ := x; exact Heap.lt_size e
  | tup xs => obtain ⟨_, _, _, p⟩ := x; exact p.lt
  | dK kvs => obtain ⟨_, _, _, _, o, _, _, e, _⟩ := x; exact Heap.lt_size e
  | dT kvs => obtain ⟨_, _, _, _, o, _, _, e, _⟩ := x; exact Heap.lt_size e
  | set S n => obtain ⟨o, _, _, _, e, _⟩ := x; exact Heap.lt_size e
  | ins C dx fs => obtain ⟨_, _, _, e, _⟩ := x; exact Heap.lt_size e
  | own y => obtain ⟨_, e⟩ := x; exact Heap.lt_size e
  | xd fs => obtain ⟨_, ⟨_, _, _, e, _⟩, _⟩ := x; exact Heap.lt_size e
  | rng lo hi => obtain ⟨_, _, _, e⟩ := x; exact Heap.lt_size e
  | frz ob u => obtain ⟨e, _⟩ := x; exact Heap.lt_size e
  | tbl ps => exact Heap.lt_size (show h.get? a = some _ from x)
  | met f y => exact Heap.lt_size (show h.get? a = some _ from x)
  | ext φ => obtain ⟨_, ⟨_, e⟩, _⟩ := x; exact Heap.lt_size e
theorem Paired.mapP {α β : Type} {F G : α → β → Prop} : ∀ {l₁ : List α} {l₂ : List β}, Paired F l₁ l₂ → (∀ a b, F a b → G a b) → Paired G l₁ l₂
  | _, _, .nil, _ => .nil
  | _, _, .cons r t, f => .cons (f _ _ r) (Paired.mapP t f)
/-- what an object's description leans on: its own object, its own dict, the tuples -/
theorem ObjOk.stay (x : ObjOk P w H h a o) (k : ∀ b u, (b = a ∨ H b = some (.own a)) → h.get? b = some u → h'.get? b = some u)
    (ho : ∀ b, H b = some (.own a) → H' b = some (.own a)) (ht : ∀ b xs, H b = some (.tup xs) → H' b = some (.tup xs)) : ObjOk P w H' h' a o := by
  induction o with
  | lst xs => obtain ⟨z, its, n, r, e⟩ := x; exact ⟨z, its, n, r, k _ _ (.inl rfl) e⟩
  | tup xs => obtain ⟨z, its, r, ob, e, c⟩ := x; exact ⟨z, its, r, ob, k _ _ (.inl rfl) e, c⟩
  | dK kvs => obtain ⟨z, y, vs, r, ob, es, ep, e, c⟩ := x; exact ⟨z, y, vs, r, ob, es, ep, k _ _ (.inl rfl) e, c⟩
  | dT kvs =>
    obtain ⟨z, y, xs, r, ob, es, ep, e, c⟩ := x
    exact ⟨z, y, xs, Paired.mapP r fun p q z => ⟨z.1, let ⟨b, z1, z2⟩ := z.2.1; ⟨b, ht _ _ z1, ht _ _ z2⟩, z.2.2⟩, ob, es, ep, k _ _ (.inl rfl) e, c⟩
  | set S n => obtain ⟨ob, es, ep, t, e, c⟩ := x; exact ⟨ob, es, ep, t, k _ _ (.inl rfl) e, c⟩
  | ins C dx fs =>
    obtain ⟨d, z, ne, e, mA, ⟨od, es, ep, e2, c⟩, r⟩ := x
    exact ⟨ho _ d, z, ne, k _ _ (.inl rfl) e, mA, ⟨od, es, ep, k _ _ (.inr d) e2, c⟩, r⟩
  | own y => obtain ⟨ob, e⟩ := x; exact ⟨ob, k _ _ (.inl rfl) e⟩
  | xd fs => obtain ⟨mA, ⟨od, es, ep, e, c⟩, r⟩ := x; exact ⟨mA, ⟨od, es, ep, k _ _ (.inl rfl) e, c⟩, r⟩
  | rng lo hi => obtain ⟨t, u, v, e⟩ := x; exact ⟨t, u, v, k _ _ (.inl rfl) e⟩
  | frz ob u ih => obtain ⟨e, q⟩ := x; exact ⟨k _ _ (.inl rfl) e, ih q⟩
  | tbl ps =>
    have e : h.get? a = some { cls := .none, data := .fields ps } := x
    show h'.get? a = some { cls := .none, data := .fields ps }
    exact k a _ (.inl rfl) e
  | met f y =>
    have e : h.get? a = some (PySem.W.methodObj (.ref f) (.ref y)) := x
    show h'.get? a = some (PySem.W.methodObj (.ref f) (.ref y))
    exact k a _ (.inl rfl) e
  | ext φ => obtain ⟨p, ⟨o, e⟩, st⟩ := x; exact ⟨st _ _ p fun o q => k _ _ (.inl rfl) q, ⟨o, k _ _ (.inl rfl) e⟩, st⟩
theorem HOk.lt (x : HOk P w H h) (e : H a = some o) : a < h.objs.size := (x a o e).lt
theorem HOk.fresh (x : HOk P w H h) (e : h.objs.size ≤ a) : H a = none := by
  cases q : H a with
  | none => rfl
  | some u => exact absurd (Nat.lt_of_lt_of_le (x.lt q) e) (Nat.lt_irrefl _)
/-- every object of the heap is kept -/
theorem HOk.kept (x : HOk P w H h) (k : ∀ b u, h.get? b = some u → h'.get? b = some u) : HOk P w H h' := fun a o e =>
  (x a o e).stay (fun b u _ q => k b u q) (fun _ q => q) fun _ _ q => q
/-- a new object is laid and tracked -/
theorem HOk.laid (x : HOk P w H h) (k : ∀ b u, h.get? b = some u → h'.get? b = some u) (hp : h.objs.size ≤ a) (new : ObjOk P w (upd H a o) h' a o) : HOk P w (upd H a o) h' := fun b u e => by
  have hn := x.fresh hp
  by_cases hb : b = a
  · subst hb; rw [upd_same] at e; cases e; exact new
  · rw [upd_ne hb] at e
    exact (x b u e).stay (fun c v _ q => k c v q) (fun c q => by rw [upd_ne (ne_of_none q hn)]; exact q) fun c xs q => by rw [upd_ne (ne_of_none q hn)]; exact q
end

/-- what may be read as u: it is u, or a known u -/
def Rd (H : Hp) (a : Addr) (u : HO) : Prop := H a = some u ∨ ∃ o, H a = some (.frz o u)
theorem Rd.ok {P : Program} {w : World} {H : Hp} {h : Heap} {a : Addr} {u : HO} (r : Rd H a u) (x : HOk P w H h) : ObjOk P w H h a u := by
  rcases r with r | ⟨o, r⟩
  · exact x a u r
  · obtain ⟨_, q⟩ := x a _ r
    exact q
/-- what may be written -/
def Mut : Option HO → Prop
  | some (.lst _) => True
  | some (.dK _) => True
  | some (.dT _) => True
  | some (.set _ _) => True
  | some (.ins _ _ _) => True
  | some (.ext _) => True
  | _ => False
section
variable {P : Program} {w : World} {H : Hp} {h h' : Heap} {x e : Addr} {o' : HO}
/-- the object at e is changed: x itself, or the dict of the instance x -/
theorem HOk.write (ok : HOk P w H h) (mu : Mut (H x)) (he : e = x ∨ H e = some (.own x)) (k : ∀ b u, b ≠ e → h.get? b = some u → h'.get? b = some u) (heo : ∃ u, h'.get? e = some u)
    (new : ObjOk P w (upd H x o') h' x o') : HOk P w (upd H x o') h' := fun b u q => by
  have nown : ∀ c y, H c = some (.own y) → c ≠ x := fun c y r z => by subst z; rw [r] at mu; exact mu
  have ntup : ∀ c xs, H c = some (.tup xs) → c ≠ x := fun c xs r z => by subst z; rw [r] at mu; exact mu
  by_cases hb : b = x
  · subst hb; rw [upd_same] at q; cases q; exact new
  · rw [upd_ne hb] at q
    by_cases hbe : b = e
    · have q' : H b = some (.own x) := by
        rcases he with z | z
        · exact absurd (hbe.trans z) hb
        · rw [hbe]; exact z
      rw [q] at q'; cases q'
      obtain ⟨v, hv⟩ := heo
      exact ⟨v, by rw [hbe]; exact hv⟩
    · refine (ok b u q).stay (fun c v hc r => k c v ?_ r) (fun c r => by rw [upd_ne (nown c b r)]; exact r) fun c xs r => by rw [upd_ne (ntup c xs r)]; exact r
      rcases hc with rfl | hc
      · exact hbe
      · rintro rfl
        rcases he with z | z
        · exact nown c b hc z
        · rw [hc] at z; cases z; exact hb rfl
end

/-! ### kept unless tracked; of the frames at fs (the callers') the slots may change (an exception that passes writes there); of the records at ex (iterators) nothing is said -/
structure Un (fs ex : List Addr) (H H' : Hp) (h h' : Heap) : Prop where
  keep : ∀ b o, h.get? b = some o → H b = none → b ∉ fs → b ∉ ex → h'.get? b = some o
  slot : ∀ b o, h.get? b = some o → H b = none → b ∈ fs → b ∉ ex → ∃ sl, h'.get? b = some { o with slots := sl }
  free : ∀ b o, h.get? b = some o → H b = none → b ∉ ex → H' b = none
  there : ∀ b o, h.get? b = some o → b ∉ ex → ∃ o', h'.get? b = some o'
  tups : ∀ b xs, H b = some (.tup xs) → H' b = some (.tup xs)
  frzs : ∀ b o u, H b = some (.frz o u) → H' b = some (.frz o u)
  tbls : ∀ b ps, H b = some (.tbl ps) → ∃ more, H' b = some (.tbl (ps ++ more))
section
variable {fs fs' ex ex' : List Addr} {H H1 H2 : Hp} {h h1 h2 h' : Heap} {a x e : Addr} {o : HO}
theorem Un.any (u : Un fs ex H H1 h h1) {b : Addr} {ob : Obj} (q : h.get? b = some ob) (n : H b = none) (hx : b ∉ ex) : ∃ sl, h1.get? b = some { ob with slots := sl } := by
  by_cases hb : b ∈ fs
  · exact u.slot b ob q n hb hx
  · exact ⟨ob.slots, u.keep b ob q n hb hx⟩
theorem Un.kept (k : ∀ b u, h.get? b = some u → h'.get? b = some u) : Un fs ex H H h h' :=
  ⟨fun b ob q _ _ _ => k b ob q, fun b ob q _ _ _ => ⟨ob.slots, k b ob q⟩, fun _ _ _ n _ => n, fun b ob q _ => ⟨ob, k b ob q⟩, fun _ _ q => q, fun _ _ _ q => q, fun _ ps q => ⟨#[], by rw [q]; simp⟩⟩
theorem Un.refl : Un fs ex H H h h := Un.kept fun _ _ q => q
theorem Un.laid (k : ∀ b u, h.get? b = some u → h'.get? b = some u) (hp : h.objs.size ≤ a) (hn : H a = none) : Un fs ex H (upd H a o) h h' where
  keep := fun b u q _ _ _ => k b u q
  slot := fun b u q _ _ _ => ⟨u.slots, k b u q⟩
  free := fun b u q n _ => by rw [upd_ne (Nat.ne_of_lt (Nat.lt_of_lt_of_le (Heap.lt_size q) hp))]; exact n
  there := fun b u q _ => ⟨u, k b u q⟩
  tups := fun b xs q => by rw [upd_ne (ne_of_none q hn)]; exact q
  frzs := fun b u xs q => by rw [upd_ne (ne_of_none q hn)]; exact q
  tbls := fun b ps q => ⟨#[], by rw [upd_ne (ne_of_none q hn), q]; simp⟩
theorem Un.write (mu : Mut (H x)) (he : e = x ∨ H e = some (.own x)) (k : ∀ b u, b ≠ e → h.get? b = some u → h'.get? b = some u) (heo : ∃ u, h'.get? e = some u) : Un fs ex H (upd H x o) h h' := by
  have hx : ∀ b, H b = none → b ≠ x := fun b n z => by subst z; rw [n] at mu; exact mu
  have hb : ∀ b, H b = none → b ≠ e := fun b n z => by
    subst z
    rcases he with r | r
    · exact hx b n r
    · rw [n] at r; cases r
  have hm : ∀ b u, H b = some u → ¬ Mut (some u) → b ≠ x := fun b u q nm z => by subst z; rw [q] at mu; exact nm mu
  refine ⟨fun b u q n _ _ => k b u (hb b n) q, fun b u q n _ _ => ⟨u.slots, k b u (hb b n) q⟩, fun b u q n _ => by rw [upd_ne (hx b n)]; exact n, fun b u q _ => ?_,
    fun b xs q => by rw [upd_ne (hm b _ q fun z => z)]; exact q, fun b u xs q => by rw [upd_ne (hm b _ q fun z => z)]; exact q, fun b ps q => ⟨#[], by rw [upd_ne (hm b _ q fun z => z), q]; simp⟩⟩
  by_cases hbe : b = e
  · subst hbe; exact heo
  · exact ⟨u, k b u hbe q⟩
end

/-! ### the heap without what is tracked -/
def trk (h : Heap) (H : Hp) : List Addr := (List.range h.objs.size).filter fun a => (H a).isSome
def hidT (h : Heap) (H : Hp) : Heap := PySem.W.hideAll h (trk h H)
theorem hidT_size (h : Heap) (H : Hp) : (hidT h H).objs.size = h.objs.size := PySem.W.hideAll_size _ _
theorem hidT_get {h : Heap} {H : Hp} {b : Addr} {o : Obj} (e : h.get? b = some o) (n : H b = none) : (hidT h H).get? b = some o :=
  PySem.W.hideAll_get _ e fun hm => by
    have q : (H b).isSome = true := (List.mem_filter.mp hm).2
    rw [n] at q; simp at q
theorem of_hidT {h : Heap} {H : Hp} {b : Addr} {o : Obj} (e : (hidT h H).get? b = some o) : h.get? b = some o ∧ H b = none := by
  have e' : h.get? b = some o := PySem.W.of_hideAll (trk h H) e
  refine ⟨e', ?_⟩
  cases q : H b with
  | none => rfl
  | some x =>
    have hm : b ∈ trk h H := List.mem_filter.mpr ⟨List.mem_range.mpr (Heap.lt_size e'), by simp [q]⟩
    have z : (hidT h H).get? b = none := PySem.W.hideAll_none (trk h H) hm
    rw [z] at e; cases e

/-! ### OpenK's ledger, filled with every new object but one -/
def allNews (g h : Heap) (L : Addr) : List (Addr × Obj) := (List.range h.objs.size).filterMap fun a => if a = L ∨ (g.get? a).isSome = true then none else (h.get? a).map fun o => (a, o)
def rest (g h : Heap) (L d : Addr) : List (Addr × Obj) := (allNews g h L).filter fun p => decide (p.1 ≠ d)
end L2

namespace L2
open PySem PySem.Spec PyProof.Rows

/-- the module's facts, over the base: the heap at the law's entry without what is tracked there -/
structure Mod (K : PySem.W.Frag) (mg : Str → Option Value) (base : Heap) : Prop where
  kin : K.In base
  glob : base.Ns mainGlobals mg
  blt : ∃ mb, base.Ns builtinsNs mb ∧ ∀ x : Str, x ≠ "__name__" → mb x = bootBuiltins x
  nolimit : base.NoLimit

/-- the context: a def's body (or a comprehension's block) running. base: fixed through the whole law; s₀, H₀: the entry; outer: the frames whose slots others may change (a def's callers); stack: all frames that run;
   ex: iterators that were made ahead of the entry and are walked here (a comprehension's); fn: the names whose cells were made at the entry (a def: all; a comprehension's block: its own); calm: not within an except suite; pn: pins that every state bears; xe: what is wanted of an exception that leaves the code -/
structure Cx where
  prog : Program
  w : World
  K : PySem.W.Frag
  mg : Str → Option Value
  base : Heap
  A : Around
  N : List Str
  s₀ : Shared
  H₀ : Hp
  env : Env
  outer : List Env
  stack : List Env
  ex : List Addr
  fn : Str → Bool
  calm : Bool
  know : Bool
  pn : List (Addr × Obj)
  xe : Value → Shared → Prop
/-- what is handled is known: nothing, or a record that is kept -/
def Knows (A : Around) (H : Hp) : Prop := A.handled = none ∨ ∃ (ea : Addr) (oe : Obj) (u : HO) (vs : Array Value), A.handled = some (.ref ea) ∧ H ea = some (.frz oe u) ∧ oe.data = .fields vs ∧ vs[2]? = some .none
/-- the callers' frames -/
def frs (l : List Env) : List Addr := l.filterMap (·.frame)
abbrev Cx.fs (X : Cx) : List Addr := frs X.outer

def Vis (sc : Scope) (x : Str) : Prop := sc.names.lookup x = some .local ∨ sc.names.lookup x = some .cell ∨ sc.names.lookup x = some .free
def Loc (sc : Scope) (x : Str) : Prop := sc.names.lookup x = some .local ∨ sc.names.lookup x = some .cell
def Look (env : Env) (h : Heap) (m : Str → Option Value) (x : Str) (u : Value) : Prop :=
  (env.kindOf x = some .local ∧ m x = some u) ∨ ((env.kindOf x = some .cell ∨ env.kindOf x = some .free) ∧ ∃ c, env.cells.lookup x = some c ∧ h.IsCell c (some u))

structure Cx.Ok (X : Cx) : Prop where
  mod : Mod X.K X.mg X.base
  kind : X.env.scope.kind = .function
  glob : X.env.globals = mainGlobals
  blt : X.env.builtins = builtinsNs
  above : X.s₀.heap.objs.size ≤ X.env.locals
  inj : ∀ x y c, X.env.cells.lookup x = some c → X.env.cells.lookup y = some c → x = y
  has : ∀ x, (X.env.kindOf x = some .cell ∨ X.env.kindOf x = some .free) → ∃ c, X.env.cells.lookup x = some c
  cab : ∀ x c, X.fn x = true → X.env.cells.lookup x = some c → X.s₀.heap.objs.size ≤ c
  hd : X.calm = true → X.A.handled = none
  hk : X.know = true → Knows X.A X.H₀
  frames : X.A.frames = some X.stack
  stk : X.stack = X.outer ∨ (X.stack = X.env :: X.outer ∧ X.env.frame = some X.env.locals)
  exf : ∀ b ∈ X.ex, b ≠ X.env.locals ∧ ∀ x c, X.env.cells.lookup x = some c → c ≠ b
  bs : ∀ b o, X.base.get? b = some o → X.s₀.heap.get? b = some o ∧ X.H₀ b = none
  bsz : X.base.objs.size ≤ X.s₀.heap.objs.size
  noex : ∀ b o, X.base.get? b = some o → b ∉ X.ex
  exfs : ∀ b ∈ X.ex, b ∉ X.fs
  funs : X.s₀.heap.FunFrames X.base X.outer
  frf : ∀ b ∈ X.fs, X.H₀ b = none

structure Inv (X : Cx) (pins : List (Addr × Obj)) (σ : List (Option V)) (H : Hp) (s : Shared) : Prop where
  ok : X.Ok
  os : s.os = X.s₀.os
  bare : AllBare s.gens
  base : Un X.fs X.ex X.H₀ H X.s₀.heap s.heap
  loc : ∃ m, s.heap.Ns X.env.locals m ∧ ∀ (i : Nat) (x : Str) (v : V), X.N[i]? = some x → σ[i]? = some (some v) → Vis X.env.scope x → ∃ u, RelV v u ∧ Look X.env s.heap m x u
  cell : ∀ x c, X.env.cells.lookup x = some c → ∃ v, s.heap.IsCell c v
  free : H X.env.locals = none
  freeC : ∀ x c, X.env.cells.lookup x = some c → H c = none
  pin : ∀ p ∈ X.pn ++ pins, s.heap.get? p.1 = some p.2 ∧ H p.1 = none ∧ p.1 ≠ X.env.locals ∧ p.1 ∉ X.fs ∧ ∀ v, p.2.data ≠ .cell v
  hok : HOk X.prog X.w H s.heap
  len : σ.length = X.N.length

section
variable {X : Cx} {pins : List (Addr × Obj)} {σ : List (Option V)} {H H' : Hp} {s : Shared} {h' : Heap}

theorem Cx.Ok.nofr (ok : X.Ok) {b : Addr} {o : Obj} (e : X.base.get? b = some o) : b ∉ X.fs := fun hb => by
  have := (ok.funs.mem hb).1
  rw [e] at this; cases this
theorem Inv.bs (I : Inv X pins σ H s) : ∀ b o, X.base.get? b = some o → s.heap.get? b = some o ∧ H b = none := fun b o e =>
  ⟨I.base.keep b o (I.ok.bs b o e).1 (I.ok.bs b o e).2 (I.ok.nofr e) (I.ok.noex b o e), I.base.free b o (I.ok.bs b o e).1 (I.ok.bs b o e).2 (I.ok.noex b o e)⟩
theorem Inv.bk (I : Inv X pins σ H s) : ∀ b o, X.base.get? b = some o → s.heap.get? b = some o := fun b o e => (I.bs b o e).1
theorem Inv.mod (I : Inv X pins σ H s) : Mod X.K X.mg X.base := I.ok.mod
theorem Inv.kIn (I : Inv X pins σ H s) : X.K.In s.heap := I.ok.mod.kin.keeps I.bk
/-- the frame over the base: for OpenK's rules (K.In X.base is I.mod.kin) -/
theorem Inv.fr (I : Inv X pins σ H s) : ∃ m, Fr X.base X.env.locals s.heap m :=
  let ⟨m, hn, _⟩ := I.loc
  ⟨m, hn, I.bk, Nat.le_trans I.ok.bsz I.ok.above⟩
theorem Inv.lt (I : Inv X pins σ H s) : X.env.locals < s.heap.objs.size := let ⟨_, hn, _⟩ := I.loc; hn.lt
theorem Inv.sz (I : Inv X pins σ H s) : X.s₀.heap.objs.size ≤ s.heap.objs.size := Nat.le_trans I.ok.above (Nat.le_of_lt I.lt)
theorem Inv.nofs (I : Inv X pins σ H s) {a : Addr} (h : s.heap.objs.size ≤ a) : a ∉ X.fs := fun hb => by
  obtain ⟨_, o, ho, _⟩ := I.ok.funs.mem hb
  exact absurd (Nat.lt_of_lt_of_le (Heap.lt_size ho) (Nat.le_trans I.sz h)) (Nat.lt_irrefl _)
theorem Inv.cne (I : Inv X pins σ H s) : ∀ x c, X.env.cells.lookup x = some c → c ≠ X.env.locals := fun x c e z => by
  obtain ⟨v, o, ho, hd⟩ := I.cell x c e
  obtain ⟨m, ⟨o', es, ep, ho', hd', _⟩, _⟩ := I.loc
  rw [z, ho'] at ho; cases ho; rw [hd'] at hd; cases hd
theorem Inv.funs (I : Inv X pins σ H s) : s.heap.FunFrames X.base X.outer := by
  have all : ∀ (l : List Env), (∀ b ∈ frs l, b ∈ X.fs) → X.s₀.heap.FunFrames X.base l → s.heap.FunFrames X.base l := by
    intro l
    induction l with
    | nil => intro _ _; trivial
    | cons env r ih =>
      intro hs hl
      obtain ⟨hk, ⟨L, o, hf, hn, ho, hd⟩, hr⟩ := hl
      have hL : L ∈ X.fs := hs L (by unfold frs; rw [List.filterMap_cons, hf]; exact List.mem_cons_self)
      obtain ⟨sl, e⟩ := I.base.slot L o ho (I.ok.frf L hL) hL fun z => I.ok.exfs L z hL
      exact ⟨hk, ⟨L, _, hf, hn, e, hd⟩, ih (fun b hb => hs b (by unfold frs; rw [List.filterMap_cons, hf]; exact List.mem_cons_of_mem _ hb)) hr⟩
  exact all X.outer (fun _ hb => hb) I.ok.funs

/-- the frames that run, for a call -/
theorem Inv.stack (I : Inv X pins σ H s) : s.heap.FunFrames X.base X.stack := by
  rcases I.ok.stk with e | ⟨e, hf⟩
  · rw [e]; exact I.funs
  · rw [e]
    obtain ⟨m, hn, _⟩ := I.loc
    refine .cons (by rw [I.ok.kind]; decide) hf hn ?_ I.funs
    exact Heap.get?_none_of_le (Nat.le_trans I.ok.bsz I.ok.above)
theorem Inv.stkSub (I : Inv X pins σ H s) : ∀ b ∈ frs X.stack, b ∈ X.env.locals :: X.fs := fun b hb => by
  rcases I.ok.stk with e | ⟨e, hf⟩
  · rw [e] at hb; exact List.mem_cons_of_mem _ hb
  · rw [e] at hb
    unfold frs at hb
    rw [List.filterMap_cons, hf] at hb
    exact hb
theorem Inv.stkFree (I : Inv X pins σ H s) : ∀ b ∈ frs X.stack, H b = none := fun b hb => by
  rcases List.mem_cons.mp (I.stkSub b hb) with e | hb
  · rw [e]; exact I.free
  · obtain ⟨_, o, ho, _⟩ := I.ok.funs.mem hb
    exact I.base.free b o ho (I.ok.frf b hb) fun z => I.ok.exfs b z hb

/-- THE STEP: the untracked objects but the frame and the records at ch are kept (the callers' frames up to slots), the frame's map is kept, the new abstract heap is held -/
theorem Inv.step {g' : Array GenState} {t' : Nat} {d' : Drawn} {ch : List Addr} (I : Inv X pins σ H s)
    (hch : ∀ b ∈ ch, (b ∈ X.ex ∨ X.s₀.heap.objs.size ≤ b) ∧ b ≠ X.env.locals ∧ (∀ x c, X.env.cells.lookup x = some c → c ≠ b) ∧ ∀ p ∈ X.pn ++ pins, p.1 ≠ b)
    (keep : ∀ b o, b ≠ X.env.locals → b ∉ X.fs → b ∉ ch → s.heap.get? b = some o → H b = none → h'.get? b = some o)
    (slot : ∀ b o, b ≠ X.env.locals → b ∈ X.fs → b ∉ ch → s.heap.get? b = some o → H b = none → ∃ sl, h'.get? b = some { o with slots := sl }) (free : ∀ b o, b ∉ ch → s.heap.get? b = some o → H b = none → H' b = none)
    (there : ∀ b o, b ∉ ch → s.heap.get? b = some o → ∃ o', h'.get? b = some o')
    (tups : ∀ b xs, H b = some (.tup xs) → H' b = some (.tup xs)) (frzs : ∀ b o u, H b = some (.frz o u) → H' b = some (.frz o u)) (tbls : ∀ b ps, H b = some (.tbl ps) → ∃ more, H' b = some (.tbl (ps ++ more)))
    (ns : ∀ m, s.heap.Ns X.env.locals m → h'.Ns X.env.locals m) (hok : HOk X.prog X.w H' h') (hg : AllBare g') :
    Inv X pins σ H' { s with heap := h', gens := g', drawn := d', toks := t' } := by
  have neL : ∀ b o, X.s₀.heap.get? b = some o → b ≠ X.env.locals := fun b o e => Nat.ne_of_lt (Nat.lt_of_lt_of_le (Heap.lt_size e) I.ok.above)
  have neC : ∀ b o, X.s₀.heap.get? b = some o → b ∉ X.ex → b ∉ ch := fun b o e hx hb => by
    rcases (hch b hb).1 with z | z
    · exact hx z
    · exact absurd (Nat.lt_of_lt_of_le (Heap.lt_size e) z) (Nat.lt_irrefl _)
  have cellK : ∀ x c, X.env.cells.lookup x = some c → ∀ v, s.heap.IsCell c v → h'.IsCell c v := fun x c e v ⟨o, ho, hd⟩ => by
    have nch : c ∉ ch := fun z => (hch c z).2.2.1 x c e rfl
    by_cases hc : c ∈ X.fs
    · obtain ⟨sl, q⟩ := slot c o (I.cne x c e) hc nch ho (I.freeC x c e)
      exact ⟨_, q, hd⟩
    · exact ⟨o, keep c o (I.cne x c e) hc nch ho (I.freeC x c e), hd⟩
  refine ⟨I.ok, I.os, hg, ⟨fun b o e n hb hx => ?_, fun b o e n hb hx => ?_, fun b o e n hx => ?_, fun b o e hx => ?_, fun b xs e => tups b xs (I.base.tups b xs e), fun b o xs e => frzs b o xs (I.base.frzs b o xs e), fun b ps e => ?_⟩, ?_, fun x c e => ?_, ?_, fun x c e => ?_, fun p hp => ?_, hok, I.len⟩
  · exact keep b o (neL b o e) hb (neC b o e hx) (I.base.keep b o e n hb hx) (I.base.free b o e n hx)
  · obtain ⟨sl, e1⟩ := I.base.slot b o e n hb hx
    obtain ⟨sl', e2⟩ := slot b _ (neL b o e) hb (neC b o e hx) e1 (I.base.free b o e n hx)
    exact ⟨sl', e2⟩
  · obtain ⟨o', e1⟩ := I.base.there b o e hx
    exact free b o' (neC b o e hx) e1 (I.base.free b o e n hx)
  · obtain ⟨o', e1⟩ := I.base.there b o e hx
    exact there b o' (neC b o e hx) e1
  · obtain ⟨m1, e1⟩ := I.base.tbls b ps e
    obtain ⟨m2, e2⟩ := tbls b _ e1
    exact ⟨m1 ++ m2, by rw [e2, Array.append_assoc]⟩
  · obtain ⟨m, hn, hl⟩ := I.loc
    refine ⟨m, ns m hn, fun i x v e1 e2 e3 => ?_⟩
    obtain ⟨u, r, l⟩ := hl i x v e1 e2 e3
    refine ⟨u, r, ?_⟩
    rcases l with l | ⟨k, c, e, z⟩
    · exact .inl l
    · exact .inr ⟨k, c, e, cellK x c e _ z⟩
  · obtain ⟨v, z⟩ := I.cell x c e
    exact ⟨v, cellK x c e v z⟩
  · obtain ⟨m, ⟨o, _, _, ho, _⟩, _⟩ := I.loc
    exact free _ o (fun z => (hch _ z).2.1 rfl) ho I.free
  · obtain ⟨v, o, ho, hd⟩ := I.cell x c e
    exact free c o (fun z => (hch c z).2.2.1 x c e rfl) ho (I.freeC x c e)
  · obtain ⟨e, n, ne, nf, d⟩ := I.pin p hp
    have nch : p.1 ∉ ch := fun z => (hch p.1 z).2.2.2 p hp rfl
    exact ⟨keep p.1 p.2 ne nf nch e n, free p.1 p.2 nch e n, ne, nf, d⟩
/-- .. where the frame's own object is kept too -/
theorem Inv.un {t' : Nat} (I : Inv X pins σ H s) (u : Un X.fs [] H H' s.heap h') (hok : HOk X.prog X.w H' h') : Inv X pins σ H' { s with heap := h', toks := t' } := by
  obtain ⟨m, ⟨o, es, ep, ho, r⟩, _⟩ := id I.loc
  obtain ⟨sl, hL⟩ := u.any ho I.free (by simp)
  exact I.step (g' := s.gens) (d' := s.drawn) (ch := []) (fun _ z => nomatch z) (fun b o _ hb _ e n => u.keep b o e n hb (by simp)) (fun b o _ hb _ e n => u.slot b o e n hb (by simp)) (fun b o _ e n => u.free b o e n (by simp)) (fun b o _ e => u.there b o e (by simp)) u.tups u.frzs u.tbls (fun m' hm => by
    obtain ⟨o', es', ep', ho', r'⟩ := hm
    rw [ho] at ho'; cases ho'
    exact ⟨_, es', ep', hL, r'⟩) hok I.bare
/-- behind a call (or a comprehension's block): the slots of this frame may have changed too, the records at ch may have turned -/
theorem Inv.call {g' : Array GenState} {t' : Nat} {d' : Drawn} {ch : List Addr} (I : Inv X pins σ H s) (u : Un (frs X.stack) ch H H' s.heap h') (hok : HOk X.prog X.w H' h') (hg : AllBare g')
    (hch : ∀ b ∈ ch, (b ∈ X.ex ∨ X.s₀.heap.objs.size ≤ b) ∧ b ≠ X.env.locals ∧ (∀ x c, X.env.cells.lookup x = some c → c ≠ b) ∧ ∀ p ∈ X.pn ++ pins, p.1 ≠ b) :
    Inv X pins σ H' { s with heap := h', gens := g', drawn := d', toks := t' } := by
  obtain ⟨m, ⟨o, es, ep, ho, r⟩, _⟩ := id I.loc
  obtain ⟨sl, hL⟩ := u.any ho I.free fun z => (hch _ z).2.1 rfl
  exact I.step (ch := ch) hch (fun b o hL hb hc e n => u.keep b o e n (fun z => (List.mem_cons.mp (I.stkSub b z)).elim hL hb) hc) (fun b o _ _ hc e n => u.any e n hc) (fun b o hc e n => u.free b o e n hc) (fun b o hc e => u.there b o e hc) u.tups u.frzs u.tbls (fun m' hm => by
    obtain ⟨o', es', ep', ho', r'⟩ := hm
    rw [ho] at ho'; cases ho'
    exact ⟨_, es', ep', hL, r'⟩) hok hg
/-- an untracked record of ours (an iterator) has turned -/
theorem Inv.turned {t' : Nat} {it : Addr} (I : Inv X pins σ H s) (k : ∀ b o, b ≠ it → s.heap.get? b = some o → h'.get? b = some o) (hn : H it = none) (hL : it ≠ X.env.locals)
    (h1 : it ∈ X.ex ∨ X.s₀.heap.objs.size ≤ it) (h2 : ∀ x c, X.env.cells.lookup x = some c → c ≠ it) (h3 : ∀ p ∈ X.pn ++ pins, p.1 ≠ it) : Inv X pins σ H { s with heap := h', toks := t' } := by
  have nit : ∀ b u, H b = some u → b ≠ it := fun b u e z => by rw [z, hn] at e; cases e
  refine I.step (g' := s.gens) (d' := s.drawn) (ch := [it]) (fun b hb => ?_) (fun b o _ _ hc e _ => k b o (fun z => hc (by simp [z])) e) (fun b o _ _ hc e _ => ⟨o.slots, k b o (fun z => hc (by simp [z])) e⟩) (fun _ _ _ _ n => n)
    (fun b o hc e => ⟨o, k b o (fun z => hc (by simp [z])) e⟩) (fun _ _ e => e) (fun _ _ _ e => e) (fun b ps e => ⟨#[], by rw [e]; simp⟩) (fun m hm => ?_) (fun b u e => ?_) I.bare
  · have e : b = it := by simpa using hb
    subst e
    exact ⟨h1, hL, h2, h3⟩
  · obtain ⟨o, es, ep, ho, r⟩ := hm
    exact ⟨o, es, ep, k _ o (Ne.symm hL) ho, r⟩
  · refine (I.hok b u e).stay (fun c v hc q => k c v ?_ q) (fun _ q => q) fun _ _ q => q
    rcases hc with z | z
    · rw [z]; exact nit b u e
    · exact nit c _ z
theorem Inv.tok (I : Inv X pins σ H s) (t : Nat) : Inv X pins σ H { s with toks := t } := I.un (h' := s.heap) (t' := t) Un.refl I.hok
/-- all objects kept -/
theorem Inv.kept {t' : Nat} (I : Inv X pins σ H s) (k : ∀ b u, s.heap.get? b = some u → h'.get? b = some u) : Inv X pins σ H { s with heap := h', toks := t' } := I.un (Un.kept k) (I.hok.kept k)
/-- a new object laid and tracked -/
theorem Inv.laid {a : Addr} {o : HO} {t' : Nat} (I : Inv X pins σ H s) (k : ∀ b u, s.heap.get? b = some u → h'.get? b = some u) (hp : s.heap.objs.size ≤ a) (new : ObjOk X.prog X.w (upd H a o) h' a o) :
    Inv X pins σ (upd H a o) { s with heap := h', toks := t' } := I.un (Un.laid k hp (I.hok.fresh hp)) (I.hok.laid k hp new)
/-- an object written -/
theorem Inv.write {x e : Addr} {o : HO} {t' : Nat} (I : Inv X pins σ H s) (mu : Mut (H x)) (he : e = x ∨ H e = some (.own x)) (k : ∀ b u, b ≠ e → s.heap.get? b = some u → h'.get? b = some u) (heo : ∃ u, h'.get? e = some u)
    (new : ObjOk X.prog X.w (upd H x o) h' x o) : Inv X pins σ (upd H x o) { s with heap := h', toks := t' } := I.un (Un.write mu he k heo) (I.hok.write mu he k heo new)
/-- forgetting slots, pins -/
theorem Inv.weak {σ' : List (Option V)} (I : Inv X pins σ H s) (hl : σ'.length = σ.length) (w : ∀ (i : Nat) v, σ'[i]? = some (some v) → σ[i]? = some (some v)) : Inv X pins σ' H s :=
  ⟨I.ok, I.os, I.bare, I.base, let ⟨m, hn, hl'⟩ := I.loc; ⟨m, hn, fun i x v e1 e2 e3 => hl' i x v e1 (w i v e2) e3⟩, I.cell, I.free, I.freeC, I.pin, I.hok, hl.trans I.len⟩
theorem Inv.pins_of {pins' : List (Addr × Obj)} (I : Inv X pins σ H s) (h : ∀ p ∈ pins', s.heap.get? p.1 = some p.2 ∧ H p.1 = none ∧ p.1 ≠ X.env.locals ∧ p.1 ∉ X.fs ∧ ∀ v, p.2.data ≠ .cell v) : Inv X pins' σ H s :=
  ⟨I.ok, I.os, I.bare, I.base, I.loc, I.cell, I.free, I.freeC, fun p hp => (List.mem_append.mp hp).elim (fun z => I.pin p (List.mem_append_left _ z)) (h p), I.hok, I.len⟩

theorem nodup_ix {N : List Str} (hN : N.Nodup) {i j : Nat} {x : Str} (a : N[i]? = some x) (b : N[j]? = some x) : i = j := by
  obtain ⟨h1, e1⟩ := List.getElem?_eq_some_iff.mp a
  obtain ⟨h2, e2⟩ := List.getElem?_eq_some_iff.mp b
  exact (List.getElem_inj hN).mp (e1.trans e2.symm)

/-- a name is stored; what changed -/
theorem store_ok2 {M : Model} {A : Around} {E : Value → Shared → Prop} {i : Nat} {x : Str} {v : V} {u : Value} {Q : Unit → Shared → Prop} (I : Inv X pins σ H s) (hN : X.N.Nodup) (hi : X.N[i]? = some x) (hx : Loc X.env.scope x) (r : RelV v u)
    (h : ∀ s', Inv X pins (σ.set i (some v)) H s' → (∃ a, Heap.SameBut a s.heap s'.heap ∧ (a = X.env.locals ∨ X.env.cells.lookup x = some a)) → Q () s') (hf : X.fn x = true ∨ X.env.scope.names.lookup x = some .local := by first | exact .inl rfl | exact .inr rfl | assumption) : wpAny M A (storeName X.env x u) Q E s := by
  obtain ⟨m, hn, hl⟩ := id I.loc
  have hcls : (X.env.scope.kind == .class || (X.env.scope.kind == .module && X.env.locals != X.env.globals)) = false := by rw [I.ok.kind]; rfl
  have hiσ : i < σ.length := by rw [I.len]; exact (List.getElem?_eq_some_iff.mp hi).1
  have cne := I.cne
  have tracked : ∀ {a : Addr} {h' : Heap}, (∃ o, s.heap.get? a = some o ∧ H a = none) → Heap.SameBut a s.heap h' → HOk X.prog X.w H h' := fun {a h'} ha hs b ob e => by
    obtain ⟨_, _, hfree⟩ := ha
    refine (I.hok b ob e).stay (fun c w' hc q => (hs.2 c ?_).trans q) (fun _ q => q) fun _ _ q => q
    rintro rfl
    rcases hc with rfl | hc
    · rw [hfree] at e; cases e
    · rw [hfree] at hc; cases hc
  rcases hx with hk | hk
  · refine wpAny_storeName_local hk hn (fun h' hn' hs => ?_) hcls
    obtain ⟨oL, _, _, hoL, _⟩ := id hn
    refine h _ ⟨I.ok, I.os, I.bare, ⟨fun b o e n hb hx => ?_, fun b o e n hb hx => ?_, I.base.free, fun b o e hx => ?_, I.base.tups, I.base.frzs, I.base.tbls⟩, ⟨_, hn', fun j y v' e1 e2 e3 => ?_⟩, fun y c e => ?_, I.free, I.freeC, fun p hp => ?_, tracked ⟨oL, hoL, I.free⟩ hs, by simpa using I.len⟩ ⟨_, hs, .inl rfl⟩
    · exact (hs.2 b (Nat.ne_of_lt (Nat.lt_of_lt_of_le (Heap.lt_size e) I.ok.above))).trans (I.base.keep b o e n hb hx)
    · obtain ⟨sl, e1⟩ := I.base.slot b o e n hb hx
      exact ⟨sl, (hs.2 b (Nat.ne_of_lt (Nat.lt_of_lt_of_le (Heap.lt_size e) I.ok.above))).trans e1⟩
    · obtain ⟨o', e1⟩ := I.base.there b o e hx
      exact ⟨o', (hs.2 b (Nat.ne_of_lt (Nat.lt_of_lt_of_le (Heap.lt_size e) I.ok.above))).trans e1⟩
    · by_cases hj : j = i
      · subst hj
        rw [hi] at e1; cases e1
        rw [List.getElem?_set_self hiσ] at e2
        cases e2
        exact ⟨u, r, .inl ⟨hk, by simp⟩⟩
      · rw [List.getElem?_set_ne (Ne.symm hj)] at e2
        obtain ⟨u', r', q⟩ := hl j y v' e1 e2 e3
        refine ⟨u', r', ?_⟩
        rcases q with ⟨k, e⟩ | ⟨k, c, e, z⟩
        · refine .inl ⟨k, ?_⟩
          have : y ≠ x := fun e => hj (nodup_ix hN e1 (e ▸ hi))
          simp [this, e]
        · exact .inr ⟨k, c, e, z.sameBut hs (cne y c e)⟩
    · obtain ⟨w', z⟩ := I.cell y c e
      exact ⟨w', z.sameBut hs (cne y c e)⟩
    · obtain ⟨e, n, ne, nf, d⟩ := I.pin p hp
      exact ⟨(hs.2 p.1 ne).trans e, n, ne, nf, d⟩
  · have hfn : X.fn x = true := by
      rcases hf with z | z
      · exact z
      · rw [z] at hk; cases hk
    obtain ⟨c, hc⟩ := I.ok.has x (.inl hk)
    obtain ⟨w', z⟩ := I.cell x c hc
    refine wpAny_storeName_cell I.ok.kind hk hc z (fun h' hc' hs => ?_)
    obtain ⟨oc, hoc, hocd⟩ := id z
    refine h { s with heap := h' } ⟨I.ok, I.os, I.bare, ⟨fun b o e n hb hx => ?_, fun b o e n hb hx => ?_, I.base.free, fun b o e hx => ?_, I.base.tups, I.base.frzs, I.base.tbls⟩, ⟨m, hn.sameBut hs (Ne.symm (cne x c hc)), fun j y v' e1 e2 e3 => ?_⟩, fun y c' e => ?_, I.free, I.freeC, fun p hp => ?_, tracked ⟨oc, hoc, I.freeC x c hc⟩ hs, by simpa using I.len⟩ ⟨c, hs, .inr hc⟩
    · exact (hs.2 b (Nat.ne_of_lt (Nat.lt_of_lt_of_le (Heap.lt_size e) (I.ok.cab x c hfn hc)))).trans (I.base.keep b o e n hb hx)
    · obtain ⟨sl, e1⟩ := I.base.slot b o e n hb hx
      exact ⟨sl, (hs.2 b (Nat.ne_of_lt (Nat.lt_of_lt_of_le (Heap.lt_size e) (I.ok.cab x c hfn hc)))).trans e1⟩
    · obtain ⟨o', e1⟩ := I.base.there b o e hx
      exact ⟨o', (hs.2 b (Nat.ne_of_lt (Nat.lt_of_lt_of_le (Heap.lt_size e) (I.ok.cab x c hfn hc)))).trans e1⟩
    · by_cases hj : j = i
      · subst hj
        rw [hi] at e1; cases e1
        rw [List.getElem?_set_self hiσ] at e2
        cases e2
        exact ⟨u, r, .inr ⟨.inl hk, c, hc, hc'⟩⟩
      · rw [List.getElem?_set_ne (Ne.symm hj)] at e2
        obtain ⟨u', r', q⟩ := hl j y v' e1 e2 e3
        refine ⟨u', r', ?_⟩
        rcases q with q | ⟨k, c', e, z'⟩
        · exact .inl q
        · refine .inr ⟨k, c', e, z'.sameBut hs ?_⟩
          rintro rfl
          exact hj (nodup_ix hN e1 (I.ok.inj _ _ _ e hc ▸ hi))
    · by_cases hcc : c' = c
      · subst hcc; exact ⟨_, hc'⟩
      · obtain ⟨w2, z2⟩ := I.cell y c' e
        exact ⟨w2, z2.sameBut hs hcc⟩
    · obtain ⟨e, n, ne, nf, d⟩ := I.pin p hp
      refine ⟨(hs.2 p.1 ?_).trans e, n, ne, nf, d⟩
      intro q
      rw [q, hoc] at e
      have q' : oc = p.2 := Option.some.inj e
      exact d w' (by rw [← q']; exact hocd)
theorem store_ok {M : Model} {A : Around} {E : Value → Shared → Prop} {i : Nat} {x : Str} {v : V} {u : Value} {Q : Unit → Shared → Prop} (I : Inv X pins σ H s) (hN : X.N.Nodup) (hi : X.N[i]? = some x) (hx : Loc X.env.scope x) (r : RelV v u)
    (h : ∀ s', Inv X pins (σ.set i (some v)) H s' → Q () s') (hf : X.fn x = true ∨ X.env.scope.names.lookup x = some .local := by first | exact .inl rfl | exact .inr rfl | assumption) : wpAny M A (storeName X.env x u) Q E s :=
  store_ok2 I hN hi hx r (fun s' I' _ => h s' I') hf
/-- behind a call or a block, the state as it is -/
theorem Inv.call' {s' : Shared} {ch : List Addr} (I : Inv X pins σ H s) (ho : s'.os = s.os) (u : Un (frs X.stack) ch H H' s.heap s'.heap) (hok : HOk X.prog X.w H' s'.heap) (hg : AllBare s'.gens)
    (hch : ∀ b ∈ ch, (b ∈ X.ex ∨ X.s₀.heap.objs.size ≤ b) ∧ b ≠ X.env.locals ∧ (∀ x c, X.env.cells.lookup x = some c → c ≠ b) ∧ ∀ p ∈ X.pn ++ pins, p.1 ≠ b) : Inv X pins σ H' s' := by
  obtain ⟨h', g', d', t', o'⟩ := s'
  have e : o' = s.os := ho
  subst e
  exact I.call (g' := g') (t' := t') (d' := d') u hok hg hch
end

/-! ### the judgements -/
/-- an exception: its class, its own dict's address (where it has one), the abstract heap behind it -/
abbrev XK := Value → Option Addr → Hp → Prop
abbrev St := List (Option V)
abbrev VK := V → Hp → Prop
/-- an expression's reading; a test's; an argument list's -/
abbrev TE := St → Hp → VK → Prop
abbrev TT := St → Hp → (Bool → Hp → Prop) → Prop
abbrev TA := St → Hp → (List V → Hp → Prop) → Prop
/-- what is wanted behind a statement -/
structure Ends where
  nx : St → Hp → Prop
  rt : VK
  bk : St → Hp → Prop := fun _ _ => False
  ct : St → Hp → Prop := fun _ _ => False
abbrev TS := Ends → St → Hp → Prop

def EP (X : Cx) (pins : List (Addr × Obj)) (σ : St) (Q : VK) (u : Value) (s' : Shared) : Prop := ∃ v H', Inv X pins σ H' s' ∧ RelV v u ∧ Q v H'
def TP (X : Cx) (pins : List (Addr × Obj)) (σ : St) (Q : Bool → Hp → Prop) (b : Bool) (s' : Shared) : Prop := ∃ H', Inv X pins σ H' s' ∧ Q b H'
def AP (X : Cx) (pins : List (Addr × Obj)) (σ : St) (Q : List V → Hp → Prop) (us : List Value) (s' : Shared) : Prop := ∃ vs H', Inv X pins σ H' s' ∧ Vals vs us ∧ Q vs H'
def SP (X : Cx) (pins : List (Addr × Obj)) (D : Ends) (f : Flow) (s' : Shared) : Prop :=
  match f with
  | .next => ∃ σ' H', Inv X pins σ' H' s' ∧ D.nx σ' H'
  | .brk => ∃ σ' H', Inv X pins σ' H' s' ∧ D.bk σ' H'
  | .cont => ∃ σ' H', Inv X pins σ' H' s' ∧ D.ct σ' H'
  | .ret u => ∃ v σ' H', Inv X pins σ' H' s' ∧ RelV v u ∧ D.rt v H'

def PE (X : Cx) (e : Expr) (t : TE) : Prop :=
  ∀ (pins : List (Addr × Obj)) (s : Shared) (σ : St) (H : Hp) (Q : VK), Inv X pins σ H s → t σ H Q → wpAny (model X.prog X.w) X.A (eval e X.env) (EP X pins σ Q) X.xe s
def PT (X : Cx) (e : Expr) (t : TT) : Prop :=
  ∀ (pins : List (Addr × Obj)) (s : Shared) (σ : St) (H : Hp) (Q : Bool → Hp → Prop), Inv X pins σ H s → t σ H Q → wpAny (model X.prog X.w) X.A (isTrue e X.env (eval e X.env)) (TP X pins σ Q) X.xe s
/-- a test whatever its 'whole' is (and, or) -/
def PW (X : Cx) (e : Expr) (t : TT) : Prop :=
  ∀ (whole : Sem Value) (pins : List (Addr × Obj)) (s : Shared) (σ : St) (H : Hp) (Q : Bool → Hp → Prop), Inv X pins σ H s → t σ H Q → wpAny (model X.prog X.w) X.A (isTrue e X.env whole) (TP X pins σ Q) X.xe s
theorem PW.pt {X : Cx} {e : Expr} {t : TT} (h : PW X e t) : PT X e t := h _
/-- an argument list (no star), from the left -/
def PA (X : Cx) (es : List Expr) (t : TA) : Prop :=
  ∀ (pos : Pos) (pins : List (Addr × Obj)) (s : Shared) (σ : St) (H : Hp) (Q : List V → Hp → Prop), Inv X pins σ H s → t σ H Q → wpAny (model X.prog X.w) X.A (spliced (backTo pos (starEach es X.env))) (AP X pins σ Q) X.xe s
def PS (X : Cx) (st : Stmt) (t : TS) : Prop :=
  ∀ (pins : List (Addr × Obj)) (s : Shared) (σ : St) (H : Hp) (D : Ends), Inv X pins σ H s → t D σ H → wpAny (model X.prog X.w) X.A (exec st X.env) (SP X pins D) X.xe s
def PSs (X : Cx) (st : List Stmt) (t : TS) : Prop :=
  ∀ (pins : List (Addr × Obj)) (s : Shared) (σ : St) (H : Hp) (D : Ends), Inv X pins σ H s → t D σ H → wpAny (model X.prog X.w) X.A (execs st X.env) (SP X pins D) X.xe s
/-- weaken the end -/
theorem thn {α : Type} {t : Sem α} {Q Q' : α → Shared → Prop} {M : Model} {A : Around} {E : Value → Shared → Prop} {s : Shared} (h : wpAny M A t Q E s) (hQ : ∀ a s, Q a s → Q' a s) : wpAny M A t Q' E s := wpAny_mono h hQ fun _ _ x => x
end L2

namespace L2
open PySem PySem.Spec PyProof.Rows
section
variable {X : Cx}

/-- two expressions in a row -/
theorem bin {a b : Expr} {ta tb : TE} (ha : PE X a ta) (hb : PE X b tb) {pins : List (Addr × Obj)} {s : Shared} {σ : St} {H : Hp} {R : V → V → Hp → Prop} (I : Inv X pins σ H s) (h : ta σ H fun x H1 => tb σ H1 fun y H2 => R x y H2)
    {α : Type} {Q : α → Shared → Prop} {f : Value → Value → Sem α}
    (hf : ∀ v u s2 x y H2, Inv X pins σ H2 s2 → RelV x v → RelV y u → R x y H2 → wpAny (model X.prog X.w) X.A (f v u) Q X.xe s2) :
    wpAny (model X.prog X.w) X.A (eval a X.env) (fun v s₁ => wpAny (model X.prog X.w) X.A (eval b X.env) (fun u s₂ => wpAny (model X.prog X.w) X.A (f v u) Q X.xe s₂) X.xe s₁) X.xe s := by
  refine thn (ha pins s σ H _ I h) fun v s1 ⟨x, H1, I1, r1, q1⟩ => ?_
  refine thn (hb pins s1 σ H1 _ I1 q1) fun u s2 ⟨y, H2, I2, r2, q2⟩ => ?_
  exact hf v u s2 x y H2 I2 r1 r2 q2

/-! ### names and constants -/
def tVar (i : Nat) : TE := fun σ H Q => ∃ v, σ[i]? = some (some v) ∧ Q v H
def tC (v : V) : TE := fun _ H Q => Q v H
theorem pe_var {i : Nat} {x : Str} {pos : Pos} (hN : X.N[i]? = some x) (hv : Vis X.env.scope x) (hd : (x == ("__debug__" : Str)) = false := by decide) (hcd : (x == ("__classdict__" : Str)) = false := by decide) : PE X (.Name x pos) (tVar i) := by
  intro pins s σ H Q I h
  obtain ⟨v, e, h⟩ := h
  obtain ⟨m, hn, hl⟩ := I.loc
  obtain ⟨u, r, l⟩ := hl i x v hN e hv
  have fin : EP X pins σ Q u s := ⟨v, H, I, r, h⟩
  rcases l with ⟨hk, hm⟩ | ⟨hk, c, hc, hcell⟩
  · exact wpAny_Name (wpAny_loadName_local I.ok.kind hk hn hm fin) hd
  · rcases hk with hk | hk
    · exact wpAny_Name (wpAny_loadName_cell I.ok.kind hk hc hcell fin) hd
    · exact wpAny_Name (wpAny_loadName_free I.ok.kind hk hc hcell fin hcd) hd
theorem pe_int {i j pos} : PE X (.Constant (.int i) j pos) (tC (.int i)) := fun _ _ _ H _ I h => wpAny_Constant_int ⟨.int i, H, I.tok _, ⟨_, rfl⟩, h⟩
theorem pe_bl {b j pos} : PE X (.Constant (.bool b) j pos) (tC (.bl b)) := fun _ _ _ H _ I h => Constant_bool ⟨.bl b, H, I, rfl, h⟩
theorem pe_str {x j pos} : PE X (.Constant (.str x) j pos) (tC (.str x)) := fun _ _ _ H _ I h => Calls.Constant_str ⟨.str x, H, I.tok _, ⟨_, rfl⟩, h⟩

/-- a global name of the def -/
def Gl (X : Cx) (x : Str) : Prop := X.env.kindOf x = some .globalImplicit
theorem ld_glob {E : Value → Shared → Prop} {pins : List (Addr × Obj)} {s : Shared} {σ : St} {H : Hp} {x : Str} {u : Value} {pos : Pos} {Q : Value → Shared → Prop} (I : Inv X pins σ H s) (hg : Gl X x) (hm : X.mg x = some u) (h : Q u s)
    (hd : (x == ("__debug__" : Str)) = false := by decide) : wpAny (model X.prog X.w) X.A (eval (.Name x pos) X.env) Q E s :=
  Calls.Name_function_global I.ok.kind hg (Calls.loadGlobal_global (by rw [I.ok.glob]; exact I.mod.glob.keeps I.bk) hm h) hd
theorem ld_blt {E : Value → Shared → Prop} {pins : List (Addr × Obj)} {s : Shared} {σ : St} {H : Hp} {x : Str} {u : Value} {pos : Pos} {Q : Value → Shared → Prop} (I : Inv X pins σ H s) (hg : Gl X x) (hm : X.mg x = none) (hv : bootBuiltins x = some u) (h : Q u s)
    (hn : x ≠ "__name__" := by decide) (hd : (x == ("__debug__" : Str)) = false := by decide) : wpAny (model X.prog X.w) X.A (eval (.Name x pos) X.env) Q E s := by
  obtain ⟨mb, h1, h2⟩ := I.mod.blt
  exact Calls.Name_function_global I.ok.kind hg (Calls.loadGlobal_builtin (by rw [I.ok.glob]; exact I.mod.glob.keeps I.bk) hm (by rw [I.ok.blt]; exact h1.keeps I.bk) ((h2 x hn).trans hv) h) hd
/-- a module's constant, a class, a function, as a value -/
theorem pe_glob {x : Str} {v : V} {u : Value} {pos : Pos} (hg : Gl X x) (hm : X.mg x = some u) (r : RelV v u) (hd : (x == ("__debug__" : Str)) = false := by decide) : PE X (.Name x pos) (tC v) :=
  fun _ _ _ H _ I h => ld_glob I hg hm ⟨v, H, I, r, h⟩ hd
theorem pe_bltn {x : Str} {v : V} {u : Value} {pos : Pos} (hg : Gl X x) (hm : X.mg x = none) (hv : bootBuiltins x = some u) (r : RelV v u) (hn : x ≠ "__name__" := by decide) (hd : (x == ("__debug__" : Str)) = false := by decide) : PE X (.Name x pos) (tC v) :=
  fun _ _ _ H _ I h => ld_blt I hg hm hv ⟨v, H, I, r, h⟩ hn hd

/-! ### arithmetic -/
/-- two ints -/
def t2I (ta tb : TE) (k : Int → Int → Hp → Prop) : St → Hp → Prop := fun σ H => ta σ H fun x H1 => tb σ H1 fun y H2 => ∃ i j, x = .int i ∧ y = .int j ∧ k i j H2
def tAdd (ta tb : TE) : TE := fun σ H Q => t2I ta tb (fun i j H2 => Q (.int (i + j)) H2) σ H
def tSub (ta tb : TE) : TE := fun σ H Q => t2I ta tb (fun i j H2 => Q (.int (i - j)) H2) σ H
/-- the left factor below 2^64 -/
def tMul (ta tb : TE) : TE := fun σ H Q => t2I ta tb (fun i j H2 => (-(2 ^ 64) < i ∧ i < 2 ^ 64) ∧ Q (.int (i * j)) H2) σ H
variable {a b : Expr} {ta tb : TE} {pos : Pos}
/-! ### comparisons -/
def PC (X : Cx) (op : CmpOp) (a b : Expr) (t : TE) : Prop :=
  ∀ (pins : List (Addr × Obj)) (s : Shared) (σ : St) (H : Hp) (Q : VK), Inv X pins σ H s → t σ H Q →
    wpAny (model X.prog X.w) X.A (eval a X.env) (fun v s₁ => wpAny (model X.prog X.w) X.A (eval b X.env) (fun u s₂ => wpAny (model X.prog X.w) X.A (compareOp op v u) (EP X pins σ Q) X.xe s₂) X.xe s₁) X.xe s
def tCmp (p : Int → Int → Bool) (ta tb : TE) : TE := fun σ H Q => t2I ta tb (fun i j H2 => Q (.bl (p i j)) H2) σ H
abbrev tLt : TE → TE → TE := tCmp fun i j => decide (i < j)
abbrev tLe : TE → TE → TE := tCmp fun i j => decide (i ≤ j)
abbrev tGt : TE → TE → TE := tCmp fun i j => decide (j < i)
abbrev tGe : TE → TE → TE := tCmp fun i j => decide (j ≤ i)
abbrev tEqI : TE → TE → TE := tCmp fun i j => decide (i = j)
abbrev tNeI : TE → TE → TE := tCmp fun i j => !decide (i = j)
/-- is None -/
def tIsN (ta : TE) : TE := fun σ H Q => ta σ H fun x H1 => Q (.bl (decide (x = .non))) H1
def tNotN (ta : TE) : TE := fun σ H Q => ta σ H fun x H1 => Q (.bl (!decide (x = .non))) H1
/-- a comparison as a value, as a test -/
def tB (t : TE) : TT := fun σ H Q => t σ H fun x H1 => ∃ c, x = .bl c ∧ Q c H1
theorem pt_cmp {op : CmpOp} {t : TE} (h : PC X op a b t) (h1 : behindInMarks op b = false := by first | exact nobehind _ (by decide) (by decide) | rfl) : PT X (.Compare a [op] [b] pos) (tB t) := by
  intro pins s σ H Q I hw
  refine wpAny_isTrue_Compare1 (thn (h pins s σ H _ I hw) fun v s1 h1 => thn h1 fun u s2 h2 => thn h2 fun c s3 ⟨x, H1, I1, r1, q1⟩ => ?_) h1
  obtain ⟨d, rfl, q⟩ := q1
  cases r1
  exact wpAny_truthy_bool ⟨H1, I1, q⟩
/-- an expression whose value is a bool, as a test -/
theorem pt_val {e : Expr} {t : TE} (h : PE X e t) (he : ∀ whole, isTrue e X.env whole = (do let v ← whole; standAt e.pos; holding [v] (truthy v)) := by intro _; rfl) : PT X e (tB t) := by
  intro pins s σ H Q I hw
  refine isTrue_plain (thn (h pins s σ H _ I hw) fun v s1 ⟨x, H1, I1, r1, q1⟩ => ?_) (he _)
  obtain ⟨d, rfl, q⟩ := q1
  cases r1
  exact wpAny_truthy_bool ⟨H1, I1, q⟩

/-! ### and, or, not -/
variable {tA tB' : TT} {rest : List Expr}
def tAnd (t u : TT) : TT := fun σ H Q => t σ H fun c H1 => if c = true then u σ H1 Q else Q false H1
def tOr (t u : TT) : TT := fun σ H Q => t σ H fun c H1 => if c = true then Q true H1 else u σ H1 Q
def tNot (t : TT) : TT := fun σ H Q => t σ H fun c H1 => Q (!c) H1
theorem pw_and1 (ha : PT X a tA) : PW X (.BoolOp .And [a] pos) tA := by
  intro wh pins s σ H Q I h
  refine isTrue_and (thn (ha pins s σ H Q I h) fun c s1 e => ?_)
  cases c with
  | true => exact isTrue_and_nil e
  | false => exact e
theorem pw_or1 (ha : PT X a tA) : PW X (.BoolOp .Or [a] pos) tA := by
  intro wh pins s σ H Q I h
  refine isTrue_or (thn (ha pins s σ H Q I h) fun c s1 e => ?_)
  cases c with
  | false => exact isTrue_or_nil e
  | true => exact e
theorem pw_and (ha : PT X a tA) (hb : PW X (.BoolOp .And (b :: rest) pos) tB') : PW X (.BoolOp .And (a :: b :: rest) pos) (tAnd tA tB') := by
  intro wh pins s σ H Q I h
  refine isTrue_and (thn (ha pins s σ H _ I h) fun c s1 ⟨H1, I1, q1⟩ => ?_)
  cases c with
  | true => exact hb wh pins s1 σ H1 Q I1 q1
  | false => exact ⟨H1, I1, q1⟩
theorem pw_or (ha : PT X a tA) (hb : PW X (.BoolOp .Or (b :: rest) pos) tB') : PW X (.BoolOp .Or (a :: b :: rest) pos) (tOr tA tB') := by
  intro wh pins s σ H Q I h
  refine isTrue_or (thn (ha pins s σ H _ I h) fun c s1 ⟨H1, I1, q1⟩ => ?_)
  cases c with
  | true => exact ⟨H1, I1, q1⟩
  | false => exact hb wh pins s1 σ H1 Q I1 q1
theorem pt_not (ha : PT X a tA) : PT X (.UnaryOp .Not a pos) (tNot tA) := by
  intro pins s σ H Q I h
  exact isTrue_not (ha pins s σ H (fun c H1 => Q (!c) H1) I h)
/-- .. as values (bools) -/
def tAndV (ta tb : TE) : TE := fun σ H Q => ta σ H fun x H1 => ∃ c, x = .bl c ∧ if c = true then tb σ H1 Q else Q (.bl false) H1
def tOrV (ta tb : TE) : TE := fun σ H Q => ta σ H fun x H1 => ∃ c, x = .bl c ∧ if c = true then Q (.bl true) H1 else tb σ H1 Q
def tNotV (ta : TE) : TE := fun σ H Q => ta σ H fun x H1 => ∃ c, x = .bl c ∧ Q (.bl (!c)) H1
theorem pe_one {op} {t : TE} (h : PE X a t) : PE X (.BoolOp op [a] pos) t := fun pins s σ H Q I hw => BoolOp_one (h pins s σ H Q I hw)
theorem pe_and (ha : PE X a ta) (hb : PE X (.BoolOp .And (b :: rest) pos) tb) : PE X (.BoolOp .And (a :: b :: rest) pos) (tAndV ta tb) := by
  intro pins s σ H Q I h
  refine BoolOp_and (thn (ha pins s σ H _ I h) fun v s1 ⟨x, H1, I1, r1, q1⟩ => ?_)
  obtain ⟨c, rfl, q1⟩ := q1
  cases r1
  refine wpAny_truthy_bool ?_
  cases c with
  | true => exact hb pins s1 σ H1 Q I1 q1
  | false => exact ⟨.bl false, H1, I1, rfl, q1⟩
theorem pe_not (ha : PE X a ta) : PE X (.UnaryOp .Not a pos) (tNotV ta) := by
  intro pins s σ H Q I h
  refine UnaryOp_ (thn (ha pins s σ H _ I h) fun v s1 ⟨x, H1, I1, r1, q1⟩ => ?_)
  obtain ⟨c, rfl, q1⟩ := q1
  cases r1
  exact not_of (wpAny_truthy_bool ⟨.bl (!c), H1, I1, rfl, q1⟩)
/-- a if t else b -/
def tIf (t : TT) (ta tb : TE) : TE := fun σ H Q => t σ H fun c H1 => if c = true then ta σ H1 Q else tb σ H1 Q
theorem pe_ifExp {c : Expr} (hc : PT X c tA) (ha : PE X a ta) (hb : PE X b tb) : PE X (.IfExp c a b pos) (tIf tA ta tb) := by
  intro pins s σ H Q I h
  refine wpAny_IfExp (thn (hc pins s σ H _ I h) fun d s1 ⟨H1, I1, q1⟩ => ?_)
  cases d with
  | true => exact ha pins s1 σ H1 Q I1 q1
  | false => exact hb pins s1 σ H1 Q I1 q1
end
end L2

namespace L2
open PySem PySem.Spec PyProof.Rows

/-! ### a list, a tuple that is read: tracked, frozen, or an object of the module -/
def SqL (K : PySem.W.Frag) (H : Hp) (a : Addr) (xs : List V) : Prop :=
  Rd H a (.lst xs) ∨
    ∃ (o : Obj) (its : Array Value) (n : Nat), K.lookup a = some o ∧ o.cls = .type "list" ∧ o.dict = none ∧ o.data = .seq its n ∧ its.size ≤ sizeLine ∧ Vals xs its.toList
def SqT (K : PySem.W.Frag) (H : Hp) (a : Addr) (xs : List V) : Prop :=
  Rd H a (.tup xs) ∨
    ∃ (o : Obj) (its : Array Value) (n : Nat), K.lookup a = some o ∧ o.cls = .type "tuple" ∧ o.data = .seq its n ∧ its.size ≤ sizeLine ∧ Vals xs its.toList
def absV : Value → Option V
  | .none => some .non
  | .bool b => some (.bl b)
  | .int i _ => some (.int i)
  | .str x _ => some (.str x)
  | .bytes b _ => some (.byt b)
  | .float b _ => some (.flt b)
  | .ref a => some (.ref a)
  | .type n => some (.ty n)
  | _ => none
theorem RelV.abs {x : V} {u : Value} (r : RelV x u) : absV u = some x := by
  cases x with
  | non => cases r; rfl
  | bl _ => cases r; rfl
  | int _ => obtain ⟨t, rfl⟩ := r; rfl
  | str _ => obtain ⟨t, rfl⟩ := r; rfl
  | byt _ => obtain ⟨t, rfl⟩ := r; rfl
  | flt _ => obtain ⟨t, rfl⟩ := r; rfl
  | ref _ => cases r; rfl
  | ty _ => cases r; rfl
theorem RelV.inj {x y : V} {u : Value} (r : RelV x u) (q : RelV y u) : x = y := Option.some.inj (r.abs.symm.trans q.abs)
theorem Vals.inj : ∀ {xs ys : List V} {us : List Value}, Vals xs us → Vals ys us → xs = ys
  | _, _, _, .nil, .nil => rfl
  | _, _, _, .cons r t, .cons r' t' => by rw [r.inj r', Vals.inj t t']
section
variable {X : Cx} {pins : List (Addr × Obj)} {σ : St} {H : Hp} {s : Shared} {a : Addr} {xs ys : List V}
theorem SqL.of {K : PySem.W.Frag} (h : H a = some (.lst xs)) : SqL K H a xs := .inl (.inl h)
theorem SqT.of {K : PySem.W.Frag} (h : H a = some (.tup xs)) : SqT K H a xs := .inl (.inl h)
theorem Inv.list (I : Inv X pins σ H s) (h : SqL X.K H a xs) : ∃ its : List Value, Vals xs its ∧ PlainL s.heap a its.toArray ∧ xs.length ≤ sizeLine := by
  rcases h with h | ⟨o, its, n, hk, hc, hd, hs, hz, r⟩
  · obtain ⟨z, its, n, r, e⟩ := h.ok I.hok
    exact ⟨its, r, ⟨_, n, e, rfl, rfl, rfl⟩, z⟩
  · refine ⟨its.toList, r, ⟨o, n, I.kIn a o hk, hc, hd, by simpa using hs⟩, ?_⟩
    have e := r.length
    simp only [Array.length_toList] at e
    omega
theorem Inv.tuple (I : Inv X pins σ H s) (h : SqT X.K H a xs) : ∃ its : List Value, Vals xs its ∧ IsTup s.heap a its.toArray ∧ xs.length ≤ sizeLine := by
  rcases h with h | ⟨o, its, n, hk, hc, hs, hz, r⟩
  · obtain ⟨z, its, r, p⟩ := h.ok I.hok
    exact ⟨its, r, p, z⟩
  · refine ⟨its.toList, r, ⟨o, I.kIn a o hk, hc, n, by simpa using hs⟩, ?_⟩
    have e := r.length
    simp only [Array.length_toList] at e
    omega
theorem Inv.list_inj (I : Inv X pins σ H s) (h : SqL X.K H a xs) (h' : SqL X.K H a ys) : xs = ys := by
  obtain ⟨its, r, ⟨o, n, e, _, _, d⟩, _⟩ := I.list h
  obtain ⟨its', r', ⟨o', n', e', _, _, d'⟩, _⟩ := I.list h'
  rw [e] at e'; cases e'
  rw [d] at d'
  injection d' with d1 _
  have : its = its' := by simpa using congrArg Array.toList d1
  subst this
  exact r.inj r'
end

/-! ### another wish about exceptions -/
abbrev Cx.wish (X : Cx) (E : Value → Shared → Prop) : Cx := { X with xe := E }
/-- no exception leaves -/
abbrev Cx.nox (X : Cx) : Cx := X.wish fun _ _ => False
theorem Cx.Ok.wish {X : Cx} (ok : X.Ok) (E : Value → Shared → Prop) : (X.wish E).Ok :=
  ⟨ok.mod, ok.kind, ok.glob, ok.blt, ok.above, ok.inj, ok.has, ok.cab, ok.hd, ok.hk, ok.frames, ok.stk, ok.exf, ok.bs, ok.bsz, ok.noex, ok.exfs, ok.funs, ok.frf⟩
theorem Cx.Ok.unwish {X : Cx} {E : Value → Shared → Prop} (ok : (X.wish E).Ok) : X.Ok :=
  ⟨ok.mod, ok.kind, ok.glob, ok.blt, ok.above, ok.inj, ok.has, ok.cab, ok.hd, ok.hk, ok.frames, ok.stk, ok.exf, ok.bs, ok.bsz, ok.noex, ok.exfs, ok.funs, ok.frf⟩
section
variable {X : Cx} {pins : List (Addr × Obj)} {σ : St} {H : Hp} {s : Shared} {E : Value → Shared → Prop}
theorem Inv.wish (I : Inv X pins σ H s) (E : Value → Shared → Prop) : Inv (X.wish E) pins σ H s := ⟨I.ok.wish E, I.os, I.bare, I.base, I.loc, I.cell, I.free, I.freeC, I.pin, I.hok, I.len⟩
theorem Inv.unwish (I : Inv (X.wish E) pins σ H s) : Inv X pins σ H s := ⟨I.ok.unwish, I.os, I.bare, I.base, I.loc, I.cell, I.free, I.freeC, I.pin, I.hok, I.len⟩
theorem SP.unwish {D : Ends} {f : Flow} {s' : Shared} (h : SP (X.wish E) pins D f s') : SP X pins D f s' := by
  cases f with
  | next => obtain ⟨σ', H', I, q⟩ := h; exact ⟨σ', H', I.unwish, q⟩
  | brk => obtain ⟨σ', H', I, q⟩ := h; exact ⟨σ', H', I.unwish, q⟩
  | cont => obtain ⟨σ', H', I, q⟩ := h; exact ⟨σ', H', I.unwish, q⟩
  | ret u => obtain ⟨v, σ', H', I, r, q⟩ := h; exact ⟨v, σ', H', I.unwish, r, q⟩
theorem PSs.nox {st : List Stmt} {t : TS} (h : PSs X.nox st t) : PSs X st t := fun pins s σ H D I hw =>
  wpAny_mono (h pins s σ H D (I.wish _) hw) (fun _ _ q => q.unwish) fun _ _ z => False.elim z
end

/-! ### blocks and small statements -/
section
variable {X : Cx} {st : Stmt} {rest : List Stmt} {t u : TS} {e : Expr} {te : TE} {pos : Pos}
def tNext : TS := fun D σ H => D.nx σ H
def tSeq (t u : TS) : TS := fun D σ H => t { D with nx := u D } σ H
theorem pss_nil : PSs X [] tNext := fun _ _ σ H _ I h => wpAny_execs_nil ⟨σ, H, I, h⟩
theorem pss_cons (h1 : PS X st t) (h2 : PSs X rest u) : PSs X (st :: rest) (tSeq t u) := by
  intro pins s σ H D I h
  refine wpAny_execs_cons (thn (h1 pins s σ H { D with nx := u D } I h) fun f s1 q => ?_)
  cases f with
  | next =>
    obtain ⟨σ', H', I', q⟩ := q
    exact h2 pins s1 σ' H' D I' q
  | ret v => exact q
  | brk => exact q
  | cont => exact q
theorem pss_one (h1 : PS X st t) : PSs X [st] t := by
  intro pins s σ H D I h
  refine wpAny_execs_cons (thn (h1 pins s σ H D I h) fun f s1 q => ?_)
  cases f with
  | next => exact wpAny_execs_nil q
  | ret v => exact q
  | brk => exact q
  | cont => exact q
def tBreak : TS := fun D σ H => D.bk σ H
def tCont : TS := fun D σ H => D.ct σ H
/-- in a def's body nothing is shown -/
theorem Inv.quiet {pins : List (Addr × Obj)} {σ : St} {H : Hp} {s : Shared} (I : Inv X pins σ H s) : interactive X.env = false := by simp [interactive, I.ok.kind]
/-- an expression whose value is dropped -/
def tDrop (te : TE) : TS := fun D σ H => te σ H fun _ H1 => D.nx σ H1
theorem ps_expr (he : PE X e te) (hs : swapsWith e none pos.line X.env = pure false := by rfl) : PS X (.Expr e pos) (tDrop te) := by
  intro pins s σ H D I h
  exact wpAny_Expr_any (thn (he pins s σ H _ I h) fun v s1 ⟨x, H1, I1, r1, q1⟩ => ⟨σ, H1, I1, q1⟩) I.quiet hs
def tRet (te : TE) : TS := fun D σ H => te σ H D.rt
theorem ps_ret (he : PE X e te) : PS X (.Return (some e) pos) (tRet te) := by
  intro pins s σ H D I h
  exact wpAny_Return_some (thn (he pins s σ H _ I h) fun v s1 ⟨x, H1, I1, r1, q1⟩ => ⟨x, σ, H1, I1, r1, q1⟩)
def tRetN : TS := fun D _ H => D.rt .non H
def tIfS (c : TT) (t u : TS) : TS := fun D σ H => c σ H fun b H1 => if b = true then t D σ H1 else u D σ H1
theorem ps_if {c : Expr} {a b : List Stmt} {tc : TT} (hc : PT X c tc) (ha : PSs X a t) (hb : PSs X b u) : PS X (.If c a b pos) (tIfS tc t u) := by
  intro pins s σ H D I h
  refine wpAny_If (thn (hc pins s σ H _ I h) fun d s1 ⟨H1, I1, q1⟩ => ?_)
  cases d with
  | true => exact ha pins s1 σ H1 D I1 q1
  | false => exact hb pins s1 σ H1 D I1 q1
/-- code that the proof never comes to -/
def tNever : TS := fun _ _ _ => False
end

/-! ### targets -/
abbrev TG := V → St → Hp → (St → Hp → Prop) → Prop
abbrev TGs := List V → St → Hp → (St → Hp → Prop) → Prop
def PG (X : Cx) (target : Expr) (t : TG) : Prop :=
  ∀ (pins : List (Addr × Obj)) (s : Shared) (σ : St) (H : Hp) (v : V) (u : Value) (Q : St → Hp → Prop), Inv X pins σ H s → RelV v u → t v σ H Q →
    wpAny (model X.prog X.w) X.A (assign target X.env u) (fun _ s' => ∃ σ' H', Inv X pins σ' H' s' ∧ Q σ' H') X.xe s
/-- several targets, one after another -/
def PGs (X : Cx) (ts : List Expr) (t : TGs) : Prop :=
  ∀ (pins : List (Addr × Obj)) (s : Shared) (σ : St) (H : Hp) (vs : List V) (us : List Value) (Q : St → Hp → Prop), Inv X pins σ H s → Vals vs us → t vs σ H Q →
    wpAny (model X.prog X.w) X.A (assignInOrder ((assignEach ts X.env).map (·.2)) us) (fun _ s' => ∃ σ' H', Inv X pins σ' H' s' ∧ Q σ' H') X.xe s
/-- o[i] = v, by values -/
abbrev TSet := V → V → V → Hp → (Hp → Prop) → Prop
def PSet (X : Cx) (t : TSet) : Prop :=
  ∀ (pins : List (Addr × Obj)) (s : Shared) (σ : St) (H : Hp) (o i v : V) (ov iv u : Value) (Q : Hp → Prop), Inv X pins σ H s → RelV o ov → RelV i iv → RelV v u → t o i v H Q →
    wpAny (model X.prog X.w) X.A (setItem ov iv u) (fun _ s' => ∃ H', Inv X pins σ H' s' ∧ Q H') X.xe s
/-- a op= b, by values -/
abbrev TIp := V → V → Hp → VK → Prop
def PIp (X : Cx) (op : Operator) (t : TIp) : Prop :=
  ∀ (pins : List (Addr × Obj)) (s : Shared) (σ : St) (H : Hp) (x y : V) (v u : Value) (Q : VK), Inv X pins σ H s → RelV x v → RelV y u → t x y H Q →
    wpAny (model X.prog X.w) X.A (inplaceOp op v u) (EP X pins σ Q) X.xe s
section
variable {X : Cx} {pos : Pos}
def gName (i : Nat) : TG := fun v σ H Q => Q (σ.set i (some v)) H
theorem pg_name {i : Nat} {x : Str} (hN : X.N.Nodup) (hi : X.N[i]? = some x) (hx : Loc X.env.scope x) (hf : X.fn x = true ∨ X.env.scope.names.lookup x = some .local := by first | exact .inl rfl | exact .inr rfl | assumption) : PG X (.Name x pos) (gName i) := by
  intro pins s σ H v u Q I r h
  exact wpAny_assign_Name (store_ok I hN hi hx r (fun s' I' => ⟨_, H, I', h⟩) hf)
def gNil : TGs := fun vs σ H Q => vs = [] ∧ Q σ H
def gCons (t : TG) (u : TGs) : TGs := fun vs σ H Q => ∃ v r, vs = v :: r ∧ t v σ H fun σ' H' => u r σ' H' Q
theorem pgs_nil : PGs X [] gNil := by
  intro pins s σ H vs us Q I r h
  obtain ⟨e, h⟩ := h
  subst e
  cases r
  exact assignInOrder_nil ⟨σ, H, I, h⟩
theorem pgs_cons {e : Expr} {es : List Expr} {t : TG} {u : TGs} (h1 : PG X e t) (h2 : PGs X es u)
    (hs : (assignEach (e :: es) X.env).map (·.2) = assign e X.env :: (assignEach es X.env).map (·.2) := by rfl) : PGs X (e :: es) (gCons t u) := by
  intro pins s σ H vs us Q I r h
  obtain ⟨v, vr, e1, h⟩ := h
  subst e1
  cases r with
  | cons r rr =>
    rw [hs]
    refine assignInOrder_cons (thn (h1 pins s σ H _ _ _ I r h) fun _ s1 ⟨σ1, H1, I1, q1⟩ => ?_)
    exact h2 pins s1 σ1 H1 _ _ Q I1 rr q1
/-- (a, b, ..) = a tuple of that length -/
def gTup (K : PySem.W.Frag) (n : Nat) (t : TGs) : TG := fun v σ H Q => ∃ a xs, v = .ref a ∧ SqT K H a xs ∧ xs.length = n ∧ t xs σ H Q
theorem pg_tup {es : List Expr} {k : Nat} {t : TGs} {n : Nat} (hc : X.calm = true) (h : PGs X es t)
    (hn : (assignEach es X.env).length = n := by rfl) (hst : (assignEach es X.env).findIdx? (·.1) = none := by rfl) : PG X (.Tuple es k pos) (gTup X.K n t) := by
  intro pins s σ H v u Q I r hw
  obtain ⟨a, xs, e1, hq, hl, hw⟩ := hw
  subst e1
  cases r
  obtain ⟨its, rv, ht, hz⟩ := I.tuple hq
  refine assign_Tuple_tuple (I.ok.hd hc) ht (by simp [hn, ← hl, rv.length]) hst fun h' hx => ?_
  have I1 : Inv X pins σ H { s with heap := h' } := I.kept (t' := s.toks) fun b o e => hx b o (Nat.ne_of_lt (Heap.lt_size e)) e
  exact h pins _ σ H xs _ Q I1 (by simpa using rv) hw
/-- o[i] = .. -/
def gSub (to ti : TE) (t : TSet) : TG := fun v σ H Q => to σ H fun o H1 => ti σ H1 fun i H2 => t o i v H2 fun H3 => Q σ H3
theorem pg_sub {o i : Expr} {to ti : TE} {t : TSet} (ho : PE X o to) (hi : PE X i ti) (hs : PSet X t)
    (ha : ∀ v, assign (.Subscript o i pos) X.env v = (do
      let ov ← holding [v] (eval o X.env)
      let iv ← holding [v, ov] (eval i X.env)
      standAt pos
      holding [v, ov, iv] (setItem ov iv v)
      release [v, ov, iv] []) := by intro _; rfl) : PG X (.Subscript o i pos) (gSub to ti t) := by
  intro pins s σ H v u Q I r h
  rw [ha]
  refine wpAny_bind (wpAny_holding (thn (ho pins s σ H _ I h) fun ov s1 ⟨x, H1, I1, r1, q1⟩ => ?_))
  refine wpAny_bind (wpAny_holding (thn (hi pins s1 σ H1 _ I1 q1) fun iv s2 ⟨y, H2, I2, r2, q2⟩ => ?_))
  refine wpAny_bind (wpAny_standAt (wpAny_bind (wpAny_holding (thn (hs pins s2 σ H2 x y v ov iv u _ I2 r1 r2 r q2) fun _ s3 ⟨H3, I3, q3⟩ => ?_))))
  exact wpAny_release ⟨σ, H3, I3, q3⟩
/-- target = value -/
def tAsg (te : TE) (g : TG) : TS := fun D σ H => te σ H fun x H1 => g x σ H1 D.nx
theorem ps_asg {tg e : Expr} {te : TE} {g : TG} (he : PE X e te) (hg : PG X tg g) (hs : swapsWithSole [tg] e pos.line X.env = pure false := by rfl) (hw : swappedStores [tg] e X.env = pure none := by rfl)
    (h1 : (assignEach [tg] X.env).map (·.2) = [assign tg X.env] := by rfl) : PS X (.Assign [tg] e pos) (tAsg te g) := by
  intro pins s σ H D I h
  refine wpAny_Assign_stores (thn (he pins s σ H _ I h) fun v s1 ⟨x, H1, I1, r1, q1⟩ => ?_) hs hw
  rw [h1]
  exact thn (hg pins s1 σ H1 x v _ I1 r1 q1) fun _ s2 q => q
/-- name = value -/
theorem ps_set {i : Nat} {x : Str} {e : Expr} {te : TE} {pos' : Pos} (hN : X.N.Nodup) (hi : X.N[i]? = some x) (hx : Loc X.env.scope x) (he : PE X e te) (hs : swapsWith e (some (.Name x pos')) pos.line X.env = pure false := by rfl) (hf : X.fn x = true ∨ X.env.scope.names.lookup x = some .local := by first | exact .inl rfl | exact .inr rfl | assumption) :
    PS X (.Assign [.Name x pos'] e pos) (tAsg te (gName i)) := by
  intro pins s σ H D I h
  refine wpAny_Assign_Name (thn (he pins s σ H _ I h) fun v s1 ⟨y, H1, I1, r1, q1⟩ => ?_) hs
  exact store_ok I1 hN hi hx r1 (fun s2 I2 => ⟨_, H1, I2, q1⟩) hf
/-- a, b = x, y with plain local names: stored from the right; the pair itself is not tracked (the opening rows as in PyProof/Rows/TupAssign.lean:23) -/
def tPar (i j : Nat) (ta : TA) : TS := fun D σ H => ta σ H fun vs H1 => ∃ v w, vs = [v, w] ∧ D.nx ((σ.set i (some v)).set j (some w)) H1
/-- name op= e -/
def tAug (i : Nat) (te : TE) (ti : TIp) : TS := fun D σ H => ∃ x, σ[i]? = some (some x) ∧ te σ H fun y H1 => ti x y H1 fun z H2 => D.nx (σ.set i (some z)) H2
/-- o[i] op= e -/
def tAugS (to ti te : TE) (tget : V → V → Hp → VK → Prop) (tip : TIp) (tset : TSet) : TS := fun D σ H => to σ H fun o H1 => ti σ H1 fun i H2 => tget o i H2 fun x H3 => te σ H3 fun y H4 => tip x y H4 fun z H5 => tset o i z H5 fun H6 => D.nx σ H6
/-- o[i], by values -/
def PGet (X : Cx) (t : V → V → Hp → VK → Prop) : Prop :=
  ∀ (pins : List (Addr × Obj)) (s : Shared) (σ : St) (H : Hp) (o i : V) (ov iv : Value) (Q : VK), Inv X pins σ H s → RelV o ov → RelV i iv → t o i H Q →
    wpAny (model X.prog X.w) X.A (getItem ov iv) (EP X pins σ Q) X.xe s
/-- ints -/
def ipI (f : Int → Int → Int) : TIp := fun x y H Q => ∃ i j, x = .int i ∧ y = .int j ∧ Q (.int (f i j)) H
end

/-! ### while -/
section
variable {X : Cx} {pos : Pos}
/-- the invariant W with its measure -/
def tWhile (c : TT) (tb : TS) : TS := fun D σ H => ∃ W : Nat → St → Hp → Prop, (∃ m, W m σ H) ∧ ∀ m σ H, W m σ H →
  c σ H fun b H1 => if b = true then ∃ N : St → Hp → Prop, (∀ σ' H', N σ' H' → ∃ m', m' < m ∧ W m' σ' H') ∧ tb { D with nx := N, ct := N, bk := D.nx } σ H1 else D.nx σ H1
end

/-! ### a range's end, whatever is handled -/
theorem Inv.knows {X : Cx} {pins : List (Addr × Obj)} {σ : St} {H : Hp} {s : Shared} (I : Inv X pins σ H s) (hk : X.know = true) : X.A.handled = none ∨ ∃ (ea : Addr) (oe : Obj) (vs : Array Value), X.A.handled = some (.ref ea) ∧ s.heap.get? ea = some oe ∧ oe.data = .fields vs ∧ vs[2]? = some .none := by
  rcases I.ok.hk hk with h | ⟨ea, oe, u, vs, h1, h2, h3, h4⟩
  · exact .inl h
  · have z := I.hok ea _ (I.base.frzs ea oe u h2)
    exact .inr ⟨ea, oe, vs, h1, z.1, h3, h4⟩
theorem entry_unchain : entryFor table "proto.unchain" = some Builtin.«proto.unchain» := entryFor_of_fast (by kernel_rfl)
/-- a new exception flies while another one is handled: that one becomes its context -/
theorem raise_over {α : Type} {prog : Program} {w : World} {A : Around} {E : Value → Shared → Prop} {s : Shared} {Q : α → Shared → Prop} {ea k : Addr} {oe ok : Obj} {vs ws : Array Value} (hh : A.handled = some (.ref ea)) (hea : s.heap.get? ea = some oe) (hed : oe.data = .fields vs) (h2 : vs[2]? = some .none)
    (hk : s.heap.get? k = some ok) (hkd : ok.data = .fields ws) (hl : 2 < ws.size) (ne : ea ≠ k) (q : ∀ h', (∀ b o, b ≠ k → s.heap.get? b = some o → h'.get? b = some o) → (∃ o, h'.get? k = some o ∧ o.cls = ok.cls) → E (.ref k) { s with heap := h' }) : wpAny (model prog w) A (raiseNew (α := α) (.ref k)) Q E s := by
  have apart : (Value.ref ea != Value.ref k) = true := by simpa using ne
  obtain ⟨kc, kd, kt, ks⟩ := ok
  have hkd : kt = .fields ws := hkd
  subst hkd
  cases s
  unfold raiseNew
  wp_walk using wpAny_handled
  rw [hh]
  dsimp only
  rw [if_pos apart]
  apply wpAny_bind
  apply wpAny_holding
  apply wpAny_runValue
  apply codeAny_builtin entry_unchain
  unfold Builtin.«proto.unchain»
  wp_walk using wpAny_field hea hed h2, wpAny_load hk
  exact q _ (fun b o n e => (Heap.get?_update_ne _ _ _ _ n).trans e) ⟨_, Heap.get?_update_self _ hk rfl, rfl⟩
theorem pyNext_range_end_any {prog : Program} {w : World} {A : Around} {E : Value → Shared → Prop} {s : Shared} {it : Addr} {x left step : Int} {Q : Option Value → Shared → Prop}
    (hh : A.handled = none ∨ ∃ (ea : Addr) (oe : Obj) (vs : Array Value), A.handled = some (.ref ea) ∧ s.heap.get? ea = some oe ∧ oe.data = .fields vs ∧ vs[2]? = some .none) (hit : IsRangeIter s.heap it x left step) (hleft : left ≤ 0) (hQ : ∀ h', Heap.ExtBut it s.heap h' → Q none { s with heap := h' }) : wpAny (model prog w) A (pyNext (.ref it)) Q E s := by
  rcases hh with hh | ⟨ea, oe, vs, hh, hea, hed, h2⟩
  · exact wpAny_pyNext_range_end hh hit hleft hQ
  · have hT : s.TypeIs (.ref it) "range_iterator" := ⟨_, hit, rfl⟩
    unfold pyNext
    refine wpAny_bind (wpAny_attempt (wpAny_callSpecial?_slot (name := Str.ofString "__next__") hT F.slot_range_iterator_next (wpAny_call_entry F.slot_range_iterator_next hT F.entry_range_iterator_next ?_ (F.args_range_iterator_next_1 _))))
    cases s
    wp_walk using wpAny_field (i := 0) (x := rawInt x) hit rfl rfl, wpAny_field (i := 1) (x := rawInt left) hit rfl rfl, wpAny_field (i := 2) (x := rawInt step) hit rfl rfl
    have there : ∀ {h : Heap} {b : Addr} {o o1 o2 : Obj}, h.get? b = some o → ((h.push o1).push o2).get? b = some o := fun e => Heap.get?_push_of_some _ (Heap.get?_push_of_some _ e)
    refine raise_over (ea := ea) (show A.in1.handled = _ from hh) (there hea) hed h2 (Heap.get?_push_size _ rfl) rfl (by simp only [Array.size_append, List.size_toArray, List.length_cons, List.length_nil]; omega) (fun z => ?_) fun h' kept ⟨o, ho, hc⟩ => wpAny_bind (wpAny_isInstance (T := "StopIteration") (b := true) ⟨o, ho, hc⟩ isSubtype_stop (wpAny_pure (hQ h' fun b u hb e => kept b u (fun z => ?_) (there e))))
    · have := Heap.lt_size (Heap.get?_push_of_some { cls := Value.type "tuple", data := Data.seq #[] } hea)
      exact absurd z (Nat.ne_of_lt this)
    · have := Heap.lt_size (Heap.get?_push_of_some { cls := Value.type "tuple", data := Data.seq #[] } e)
      exact absurd z (Nat.ne_of_lt this)

/-! ### what a loop or a comprehension walks -/
/-- at turn i: it yields x (the heap may grow), or it stops -/
structure It where
  go : Nat → Hp → Prop
  yld : Nat → Hp → V → Hp → Prop
  stop : Nat → Hp → Prop
/-- the iterator's own objects may turn: they are not the frame's, not pinned, younger than the entry (or a comprehension's own) -/
def FpOk (X : Cx) (pins : List (Addr × Obj)) (H : Hp) (b : Addr) : Prop :=
  H b = none ∧ b ≠ X.env.locals ∧ b ∉ X.fs ∧ (b ∈ X.ex ∨ X.s₀.heap.objs.size ≤ b) ∧ (∀ x c, X.env.cells.lookup x = some c → c ≠ b) ∧ ∀ p ∈ X.pn ++ pins, p.1 ≠ b
theorem Inv.fpOk {X : Cx} {pins : List (Addr × Obj)} {σ : St} {H H' : Hp} {s : Shared} {b : Addr} (I : Inv X pins σ H s) (hb : s.heap.objs.size ≤ b) (hn : H' b = none) : FpOk X pins H' b := by
  refine ⟨hn, Nat.ne_of_gt (Nat.lt_of_lt_of_le I.lt hb), I.nofs hb, .inr (Nat.le_trans I.sz hb), fun x c e z => ?_, fun p hp z => ?_⟩
  · obtain ⟨v, q⟩ := I.cell x c e
    exact absurd (Nat.lt_of_lt_of_le q.lt (by rw [z]; exact hb)) (Nat.lt_irrefl _)
  · exact absurd (Nat.lt_of_lt_of_le (Heap.lt_size (I.pin p hp).1) (by rw [z]; exact hb)) (Nat.lt_irrefl _)
structure Turn (P : Program) (w : World) (K : PySem.W.Frag) (cm kn : Bool) (tg : Expr) (J : It) (fp : List Addr) (it : Addr) (tn : Nat → Heap → Prop) : Prop where
  mem : it ∈ fp
  obj : ∀ i h, tn i h → ∀ b ∈ fp, ∃ o, h.get? b = some o ∧ ∀ v, o.data ≠ .cell v
  keep : ∀ i h h', tn i h → (∀ b ∈ fp, ∀ o, h.get? b = some o → h'.get? b = some o) → tn i h'
  item : ∀ (X : Cx), X.prog = P → X.w = w → X.K = K → X.calm = cm → X.know = kn → ∀ (i : Nat) (pins : List (Addr × Obj)) (s : Shared) (σ : St) (H : Hp) (E : Value → Shared → Prop), Inv X pins σ H s → (∀ b ∈ fp, FpOk X pins H b) → tn i s.heap → J.go i H →
    wpAny (model P w) X.A (pyNext (.ref it)) (fun r s1 => ∃ u, r = some u ∧
      wpAny (model P w) X.A (letOwnedTupleGo tg (.ref it) u) (fun _ s2 => ∃ x H', Inv X pins σ H' s2 ∧ RelV x u ∧ J.yld i H x H' ∧ tn (i + 1) s2.heap ∧ ∀ b ∈ fp, H' b = none) E s1) E s
  done : ∀ (X : Cx), X.prog = P → X.w = w → X.K = K → X.calm = cm → X.know = kn → ∀ (i : Nat) (pins : List (Addr × Obj)) (s : Shared) (σ : St) (H : Hp) (E : Value → Shared → Prop), Inv X pins σ H s → (∀ b ∈ fp, FpOk X pins H b) → tn i s.heap → J.stop i H →
    wpAny (model P w) X.A (pyNext (.ref it)) (fun r s1 => r = none ∧ Inv X pins σ H s1) E s
  self : ∀ (A : Around) (i : Nat) (s : Shared) (Q : Value → Shared → Prop) (E : Value → Shared → Prop), tn i s.heap → Q (.ref it) s → wpAny (model P w) A (pyIter (.ref it)) Q E s
abbrev TI := St → Hp → (It → Hp → Prop) → Prop
/-- an iterator has come -/
def PIE (X : Cx) (pins : List (Addr × Obj)) (σ : St) (tg : Expr) (R : It → Hp → Prop) (itv : Value) (s2 : Shared) : Prop :=
  ∃ (it : Addr) (fp : List Addr) (tn : Nat → Heap → Prop) (J : It) (H' : Hp), itv = .ref it ∧ Inv X pins σ H' s2 ∧ Turn X.prog X.w X.K X.calm X.know tg J fp it tn ∧ tn 0 s2.heap ∧ (∀ b ∈ fp, FpOk X pins H' b) ∧ R J H'
def PI (X : Cx) (tg iter : Expr) (wi : TI) : Prop :=
  ∀ (pins : List (Addr × Obj)) (s : Shared) (σ : St) (H : Hp) (R : It → Hp → Prop), Inv X pins σ H s → wi σ H R →
    wpAny (model X.prog X.w) X.A (eval iter X.env) (fun v s1 => wpAny (model X.prog X.w) X.A (pyIter v) (PIE X pins σ tg R) X.xe s1) X.xe s

/-- the step ahead of the store is nothing for an iterator that keeps no tuple -/
theorem go_of {M : Model} {A : Around} {E : Value → Shared → Prop} {s : Shared} {tg : Expr} {it : Addr} {u : Value} {o : Obj} {n : String} {vs : Array Value} {Q : Unit → Shared → Prop} (ho : s.heap.get? it = some o) (hc : o.cls = .type n) (hd : o.data = .fields vs)
    (hn : ["enumerate", "zip", "dict_itemiterator", "dict_reverseitemiterator", "odict_iterator", "itertools.zip_longest", "itertools.pairwise"].contains n = false) (hQ : Q () s) : wpAny M A (letOwnedTupleGo tg (.ref it) u) Q E s := by
  unfold letOwnedTupleGo
  cases tg <;> first
    | exact wpAny_pure hQ
    | (cases u <;> first
        | exact wpAny_pure hQ
        | (refine wpAny_bind (wpAny_load ho ?_)
           rw [hc, hd]
           show wpAny M A (if (["enumerate", "zip", "dict_itemiterator", "dict_reverseitemiterator", "odict_iterator", "itertools.zip_longest", "itertools.pairwise"].contains n && vs[0]? == some (rawInt _)) = true then _ else _) Q E s
           rw [if_neg (by intro h; rw [hn, Bool.false_and] at h; cases h)]
           exact wpAny_pure hQ))

/-- the list at a, as it stands at each turn (a loop may append to it) -/
def Itl (K : PySem.W.Frag) (a : Addr) : It :=
  ⟨fun i H => ∃ xs x, SqL K H a xs ∧ xs[i]? = some x, fun i H x H' => H' = H ∧ ∀ xs, SqL K H a xs → xs[i]? = some x, fun i H => ∃ xs, SqL K H a xs ∧ xs.length ≤ i⟩
def Itt (K : PySem.W.Frag) (a : Addr) : It :=
  ⟨fun i H => ∃ xs x, SqT K H a xs ∧ xs[i]? = some x, fun i H x H' => H' = H ∧ ∀ xs, SqT K H a xs → xs[i]? = some x, fun i H => ∃ xs, SqT K H a xs ∧ xs.length ≤ i⟩
/-- lo, lo + 1, .. (n of them) -/
def Itr (lo : Int) (n : Nat) : It := ⟨fun i _ => i < n, fun i H x H' => H' = H ∧ x = .int (lo + i), fun i _ => n ≤ i⟩
theorem turn_list {P : Program} {w : World} {K : PySem.W.Frag} {cm kn : Bool} {tg : Expr} (hcm : cm = true) (a it : Addr) : Turn P w K cm kn tg (Itl K a) [it] it (fun i h => h.IsListIter it a i) where
  mem := by simp
  obj := fun i h st b hb => by
    have e : b = it := by simpa using hb
    subst e
    obtain ⟨o, e, c, d⟩ := st
    exact ⟨o, e, fun v z => by rw [d] at z; cases z⟩
  keep := fun i h h' st k => st.at fun o e => k it (by simp) o e
  item := by
    intro X hP hw hK hc hkw i pins s σ H E I hf st hg
    subst hP hw hK
    obtain ⟨xs, x, hq, hx⟩ := hg
    obtain ⟨its, rv, p, hz⟩ := I.list hq
    obtain ⟨u, hu, ru⟩ := rv.get hx
    obtain ⟨f0, f1, f2, f3, f4, f5⟩ := hf it (by simp)
    refine wpAny_pyNext_list_item st p.isList (x := u) (by simpa using hu) fun h' st' sb => ?_
    have I1 : Inv X pins σ H { s with heap := h' } := I.turned (t' := s.toks) (fun b o hb e => (sb.2 b hb).trans e) f0 f1 f3 f4 f5
    obtain ⟨o, e, c, d⟩ := id st'
    exact ⟨u, rfl, go_of (s := { s with heap := h' }) e c d (by decide) ⟨x, H, I1, ru, ⟨rfl, fun ys hy => by rw [I.list_inj hy hq]; exact hx⟩, st', fun b hb => (hf b hb).1⟩⟩
  done := by
    intro X hP hw hK hc hkw i pins s σ H E I hf st hg
    subst hP hw hK
    obtain ⟨xs, hq, hx⟩ := hg
    obtain ⟨its, rv, p, hz⟩ := I.list hq
    obtain ⟨f0, f1, f2, f3, f4, f5⟩ := hf it (by simp)
    have hl := rv.length
    exact wpAny_pyNext_list_end (I.ok.hd (hc.trans hcm)) st p.isList (by simp; omega) fun h' eb => ⟨rfl, I.turned (t' := s.toks) (fun b o hb e => eb b o hb e) f0 f1 f3 f4 f5⟩
  self := fun _ _ _ _ _ st h => wpAny_pyIter_listiter st h
theorem turn_range {P : Program} {w : World} {K : PySem.W.Frag} {cm kn : Bool} {tg : Expr} (hkn : kn = true) (it : Addr) (lo : Int) (n : Nat) : Turn P w K cm kn tg (Itr lo n) [it] it (fun i h => IsRangeIter h it (lo + (i : Nat) * 1) ((n : Int) - (i : Nat)) 1) where
  mem := by simp
  obj := fun i h st b hb => by
    have e : b = it := by simpa using hb
    subst e
    exact ⟨_, st, fun v z => by
      have z' : Data.fields _ = Data.cell v := z
      cases z'⟩
  keep := fun i h h' st k => k it (by simp) _ st
  item := by
    intro X hP hw hK hc hkw i pins s σ H E I hf st hg
    subst hP hw hK
    obtain ⟨f0, f1, f2, f3, f4, f5⟩ := hf it (by simp)
    have hg' : i < n := hg
    refine wpAny_pyNext_range_item st (by omega) fun h' st' sb => ?_
    have I1 : Inv X pins σ H { s with heap := h', toks := s.toks + 1 } := I.turned (fun b o hb e => (sb.2 b hb).trans e) f0 f1 f3 f4 f5
    have e1 : lo + (i : Nat) * 1 + 1 = lo + ((i + 1 : Nat) : Int) * 1 := by omega
    have e2 : ((n : Int) - (i : Nat)) - 1 = (n : Int) - ((i + 1 : Nat) : Int) := by omega
    rw [e1, e2] at st'
    refine ⟨_, rfl, go_of (s := { s with heap := h', toks := s.toks + 1 }) (n := "range_iterator") st' rfl rfl (by decide) ⟨.int (lo + i), H, I1, ⟨s.toks, ?_⟩, ⟨rfl, rfl⟩, st', fun b hb => (hf b hb).1⟩⟩
    rw [Int.mul_one]
  done := by
    intro X hP hw hK hc hkw i pins s σ H E I hf st hg
    subst hP hw hK
    obtain ⟨f0, f1, f2, f3, f4, f5⟩ := hf it (by simp)
    exact pyNext_range_end_any (I.knows (hkw.trans hkn)) st (by have : n ≤ i := hg; omega) fun h' eb => ⟨rfl, I.turned (t' := s.toks) (fun b o hb e => eb b o hb e) f0 f1 f3 f4 f5⟩
  self := fun _ _ _ _ _ st h => wpAny_pyIter_rangeiter st h
end L2

namespace L2
open PySem PySem.Spec PyProof.Rows
section
variable {X : Cx} {tg : Expr}
def iList (K : PySem.W.Frag) (tl : TE) : TI := fun σ H R => tl σ H fun x H1 => ∃ a, x = .ref a ∧ (∃ xs, SqL K H1 a xs) ∧ R (Itl K a) H1
def iTup (K : PySem.W.Frag) (tl : TE) : TI := fun σ H R => tl σ H fun x H1 => ∃ a, x = .ref a ∧ (∃ xs, SqT K H1 a xs) ∧ R (Itt K a) H1
theorem pi_list {l : Expr} {tl : TE} (hc : X.calm = true) (hl : PE X l tl) : PI X tg l (iList X.K tl) := by
  intro pins s σ H R I h
  refine thn (hl pins s σ H _ I h) fun v s1 ⟨x, H1, I1, r1, q1⟩ => ?_
  obtain ⟨a, e, ⟨xs, hq⟩, q⟩ := q1
  subst e
  cases r1
  obtain ⟨its, rv, p, hz⟩ := I1.list hq
  refine wpAny_pyIter_list p.isList ?_
  refine ⟨s1.heap.objs.size, [s1.heap.objs.size], _, _, H1, rfl, I1.kept (t' := s1.toks) fun b o e => Heap.get?_push_of_some _ e, turn_list hc a _, ⟨_, Heap.get?_push_size _ rfl, rfl, rfl⟩, fun b hb => ?_, q⟩
  have e : b = s1.heap.objs.size := by simpa using hb
  subst e
  exact I1.fpOk (Nat.le_refl _) (I1.hok.fresh (Nat.le_refl _))
/-- a range object just made, walked -/
theorem range_it {pins : List (Addr × Obj)} {σ : St} {H : Hp} {s : Shared} {R : It → Hp → Prop} {E : Value → Shared → Prop} {lo hi : Int} {t u v : Tok} {tk : Nat} (hkn : X.know = true) (I : Inv X pins σ H s) (h1 : -(2 ^ 62) ≤ lo) (h2 : lo < 2 ^ 62) (h3 : -(2 ^ 62) ≤ hi) (h4 : hi < 2 ^ 62)
    (q : R (Itr lo (hi - lo).toNat) H) : wpAny (model X.prog X.w) X.A (pyIter (.ref s.heap.objs.size)) (PIE X pins σ tg R) E { s with heap := s.heap.push { cls := .type "range", data := .fields #[.int lo t, .int hi u, .int 1 v] }, toks := tk } := by
  refine wpAny_pyIter_range (IsRange.new ..) (small_one h1 h2 h3 h4) ?_
  have I1 : Inv X pins σ H { s with heap := s.heap.push { cls := .type "range", data := .fields #[.int lo t, .int hi u, .int 1 v] }, toks := tk } := I.kept fun b o e => Heap.get?_push_of_some _ e
  refine ⟨(s.heap.push { cls := .type "range", data := .fields #[.int lo t, .int hi u, .int 1 v] }).objs.size, [(s.heap.push { cls := .type "range", data := .fields #[.int lo t, .int hi u, .int 1 v] }).objs.size], _, _, H, rfl,
    I1.kept (t' := tk) fun b o e => Heap.get?_push_of_some _ e, turn_range hkn _ lo (hi - lo).toNat, ?_, fun b hb => ?_, q⟩
  · have e1 : lo + ((0 : Nat) : Int) * 1 = lo := by simp
    have e2 : (((hi - lo).toNat : Nat) : Int) - ((0 : Nat) : Int) = Builtin.Range.rangeSize lo hi 1 := by rw [rangeSize_one]; split <;> omega
    show IsRangeIter _ _ (lo + ((0 : Nat) : Int) * 1) ((((hi - lo).toNat : Nat) : Int) - ((0 : Nat) : Int)) 1
    rw [e1, e2]
    exact Heap.get?_push_size _ rfl
  · have e : b = (s.heap.push { cls := .type "range", data := .fields #[.int lo t, .int hi u, .int 1 v] }).objs.size := by simpa using hb
    subst e
    exact I1.fpOk (Nat.le_refl _) (I1.hok.fresh (Nat.le_refl _))
def iRng1 (ta : TA) : TI := fun σ H R => ta σ H fun vs H1 => ∃ j : Int, vs = [.int j] ∧ -(2 ^ 62) ≤ j ∧ j < 2 ^ 62 ∧ R (Itr 0 j.toNat) H1
def iRng2 (ta : TA) : TI := fun σ H R => ta σ H fun vs H1 => ∃ i j : Int, vs = [.int i, .int j] ∧ (-(2 ^ 62) ≤ i ∧ i < 2 ^ 62 ∧ -(2 ^ 62) ≤ j ∧ j < 2 ^ 62) ∧ R (Itr i (j - i).toNat) H1
theorem pi_range1 {a : Expr} {ta : TA} {p pos : Pos} (hkn : X.know = true) (hg : Gl X "range") (hm : X.mg "range" = none) (ha : PA X [a] ta) (hs : starEach [a] X.env = [(false, eval a X.env)] := by rfl) : PI X tg (.Call (.Name "range" p) [a] [] pos) (iRng1 ta) := by
  intro pins s σ H R I h
  refine Call_ (ld_blt I hg hm boot_range (PyProof.Rows.callWith_type1 (thn (ha pos pins s σ H _ I h) fun us s1 ⟨vs, H1, I1, r1, q1⟩ => ?_) hs rfl))
  obtain ⟨j, e, q1, q2, q⟩ := q1
  subst e
  cases r1 with
  | cons r rr =>
    cases rr
    obtain ⟨t, rfl⟩ := r
    exact call_range_1 (range_it hkn I1 (by omega) (by omega) q1 q2 (by simpa using q))
/-! ### for -/
/-- W: the invariant by the turn and a measure; N: what the body is to reach -/
def tFor (wi : TI) (g : TG) (tb : TS) : TS := fun D σ H => wi σ H fun J H1 => ∃ W : Nat → Nat → St → Hp → Prop, (∃ m, W 0 m σ H1) ∧ ∀ i m σ H, W i m σ H →
  (J.stop i H ∧ D.nx σ H) ∨ (J.go i H ∧ ∃ N : St → Hp → Prop, (∀ σ' H', N σ' H' → ∃ m', m' < m ∧ W (i + 1) m' σ' H') ∧ ∀ x H', J.yld i H x H' → g x σ H' fun σ2 H2 => tb { D with nx := N, ct := N, bk := D.nx } σ2 H2)
/-- the records at fp as they stand -/
def pinsAt (fp : List Addr) (h : Heap) : List (Addr × Obj) := fp.filterMap fun b => (h.get? b).map fun o => (b, o)
theorem mem_pinsAt {fp : List Addr} {h : Heap} {b : Addr} {o : Obj} (hb : b ∈ fp) (e : h.get? b = some o) : (b, o) ∈ pinsAt fp h := List.mem_filterMap.mpr ⟨b, hb, by rw [e]; rfl⟩
theorem of_pinsAt {fp : List Addr} {h : Heap} {p : Addr × Obj} (hp : p ∈ pinsAt fp h) : p.1 ∈ fp ∧ h.get? p.1 = some p.2 := by
  obtain ⟨b, hb, e⟩ := List.mem_filterMap.mp hp
  cases q : h.get? b with
  | none => rw [q] at e; cases e
  | some o =>
    rw [q] at e
    have e' : (b, o) = p := Option.some.inj e
    subst e'
    exact ⟨hb, q⟩
theorem Inv.pinned {pins : List (Addr × Obj)} {σ : St} {H : Hp} {s : Shared} {fp : List Addr} (I : Inv X pins σ H s) (hf : ∀ b ∈ fp, FpOk X pins H b) (ho : ∀ b ∈ fp, ∃ o, s.heap.get? b = some o ∧ ∀ v, o.data ≠ .cell v) : Inv X (pins ++ pinsAt fp s.heap) σ H s :=
  I.pins_of fun p hp => (List.mem_append.mp hp).elim (fun z => I.pin p (List.mem_append_right _ z)) fun z => by
    obtain ⟨hb, e⟩ := of_pinsAt z
    obtain ⟨f0, f1, f2, _⟩ := hf p.1 hb
    obtain ⟨o, e', d⟩ := ho p.1 hb
    rw [e] at e'; cases e'
    exact ⟨e, f0, f1, f2, d⟩
theorem Inv.unpinned {pins pl : List (Addr × Obj)} {σ : St} {H : Hp} {s : Shared} (I : Inv X (pins ++ pl) σ H s) : Inv X pins σ H s := I.pins_of fun p hp => I.pin p (List.mem_append_right _ (List.mem_append_left _ hp))
theorem ps_for {iter : Expr} {body : List Stmt} {wi : TI} {g : TG} {tb : TS} {pos : Pos} (hp : PassesOwn (model X.prog X.w) X.A X.env X.xe) (hi : PI X tg iter wi) (hg : PG X tg g) (hb : PSs X body tb)
    (hs : ∀ x, foldedSetIterable iter X.env x = pure x := by intro _; rfl) : PS X (.For tg iter body [] pos) (tFor wi g tb) := by
  intro pins s σ H D I h
  refine wpAny_For (thn (hi pins s σ H _ I h) fun v s1 h1 => thn h1 fun itv s2 h2 => ?_) hs
  obtain ⟨it, fp, tn, J, H2, e, I2, T, st2, f2, W, ⟨m0, w0⟩, turn⟩ := h2
  subst e
  -- what stays true of the iterator's objects through the loop
  have stat : ∀ {H' : Hp}, (∀ b ∈ fp, H' b = none) → ∀ b ∈ fp, FpOk X pins H' b := fun hn b hb => ⟨hn b hb, (f2 b hb).2⟩
  refine codeAny_forLoop_any (fun n s' => ∃ i σ' H', Inv X pins σ' H' s' ∧ tn i s'.heap ∧ (∀ b ∈ fp, H' b = none) ∧ W i n σ' H') ?_ m0 ⟨0, σ, H2, I2, st2, fun b hb => (f2 b hb).1, w0⟩
  rintro n s3 ⟨i, σ3, H3, I3, st3, fr3, w3⟩
  rcases turn i n σ3 H3 w3 with ⟨stop, qn⟩ | ⟨go, N, hN, step⟩
  · refine wpAny_passesOwn hp (thn (T.done X rfl rfl rfl rfl rfl i pins s3 σ3 H3 X.xe I3 (stat fr3) st3 stop) fun r s4 ⟨hr, I4⟩ => ?_)
    subst hr
    exact wpAny_execs_nil ⟨σ3, H3, I4, qn⟩
  · refine wpAny_passesOwn hp (thn (T.item X rfl rfl rfl rfl rfl i pins s3 σ3 H3 X.xe I3 (stat fr3) st3 go) fun r s4 ⟨u, hr, h4⟩ => ?_)
    subst hr
    refine wpAny_passesOwn hp (thn h4 fun _ s5 ⟨x, H5, I5, r5, y5, st5, fr5⟩ => ?_)
    have I5' := I5.pinned (stat fr5) (T.obj _ _ st5)
    refine wpAny_passesOwn hp (thn (hg _ s5 σ3 H5 x u _ I5' r5 (step x H5 y5)) fun _ s6 ⟨σ6, H6, I6, q6⟩ => ?_)
    refine wpAny_passesOwn hp (thn (hb _ s6 σ6 H6 _ I6 q6) fun f s7 q7 => ?_)
    have again : ∀ {σ7 : St} {H7 : Hp}, Inv X (pins ++ pinsAt fp s5.heap) σ7 H7 s7 → N σ7 H7 → ∃ m, m < n ∧ ∃ i σ' H', Inv X pins σ' H' s7 ∧ tn i s7.heap ∧ (∀ b ∈ fp, H' b = none) ∧ W i m σ' H' := fun {σ7 H7} I7 n7 => by
      obtain ⟨m', hm, w7⟩ := hN σ7 H7 n7
      refine ⟨m', hm, i + 1, σ7, H7, I7.unpinned, T.keep _ _ _ st5 fun b hb o e => (I7.pin (b, o) (List.mem_append_right _ (List.mem_append_right _ (mem_pinsAt hb e)))).1, fun b hb => ?_, w7⟩
      obtain ⟨o, e, d⟩ := T.obj _ _ st5 b hb
      exact (I7.pin (b, o) (List.mem_append_right _ (List.mem_append_right _ (mem_pinsAt hb e)))).2.1
    cases f with
    | next => obtain ⟨σ7, H7, I7, n7⟩ := q7; exact again I7 n7
    | cont => obtain ⟨σ7, H7, I7, n7⟩ := q7; exact again I7 n7
    | brk => obtain ⟨σ7, H7, I7, q7⟩ := q7; exact ⟨σ7, H7, I7.unpinned, q7⟩
    | ret v => obtain ⟨x7, σ7, H7, I7, r7, q7⟩ := q7; exact ⟨x7, σ7, H7, I7.unpinned, r7, q7⟩
end

/-! ### the forms one uses -/
/-- over a list that the body leaves as it is -/
theorem for_list {K : PySem.W.Frag} {a : Addr} {xs : List V} {g : TG} {tb : TS} {D : Ends} {σ : St} {H : Hp} (Pv : Nat → St → Hp → Prop) (h0 : Pv 0 σ H) (hl : ∀ i σ H, i ≤ xs.length → Pv i σ H → SqL K H a xs)
    (hs : ∀ i x σ H, xs[i]? = some x → Pv i σ H → g x σ H fun σ2 H2 => tb { D with nx := Pv (i + 1), ct := Pv (i + 1), bk := D.nx } σ2 H2) (hd : ∀ σ H, Pv xs.length σ H → D.nx σ H) :
    ∃ W : Nat → Nat → St → Hp → Prop, (∃ m, W 0 m σ H) ∧ ∀ i m σ H, W i m σ H →
      ((Itl K a).stop i H ∧ D.nx σ H) ∨ ((Itl K a).go i H ∧ ∃ N : St → Hp → Prop, (∀ σ' H', N σ' H' → ∃ m', m' < m ∧ W (i + 1) m' σ' H') ∧ ∀ x H', (Itl K a).yld i H x H' → g x σ H' fun σ2 H2 => tb { D with nx := N, ct := N, bk := D.nx } σ2 H2) := by
  refine ⟨fun i m σ H => m = xs.length - i ∧ i ≤ xs.length ∧ Pv i σ H, ⟨xs.length, by simp, Nat.zero_le _, h0⟩, ?_⟩
  rintro i m σ H ⟨rfl, hi, p⟩
  have q := hl i σ H hi p
  by_cases hlt : i < xs.length
  · refine .inr ⟨⟨xs, xs[i], q, by simp [hlt]⟩, Pv (i + 1), fun σ' H' p' => ⟨xs.length - (i + 1), by omega, rfl, hlt, p'⟩, fun x H' y => ?_⟩
    obtain ⟨e, y⟩ := y
    subst e
    exact hs i x σ _ (y xs q) p
  · have e : i = xs.length := by omega
    subst e
    exact .inl ⟨⟨xs, q, Nat.le_refl _⟩, hd σ H p⟩
theorem for_range {lo : Int} {n : Nat} {g : TG} {tb : TS} {D : Ends} {σ : St} {H : Hp} (Pv : Nat → St → Hp → Prop) (h0 : Pv 0 σ H)
    (hs : ∀ i σ H, i < n → Pv i σ H → g (.int (lo + i)) σ H fun σ2 H2 => tb { D with nx := Pv (i + 1), ct := Pv (i + 1), bk := D.nx } σ2 H2) (hd : ∀ σ H, Pv n σ H → D.nx σ H) :
    ∃ W : Nat → Nat → St → Hp → Prop, (∃ m, W 0 m σ H) ∧ ∀ i m σ H, W i m σ H →
      ((Itr lo n).stop i H ∧ D.nx σ H) ∨ ((Itr lo n).go i H ∧ ∃ N : St → Hp → Prop, (∀ σ' H', N σ' H' → ∃ m', m' < m ∧ W (i + 1) m' σ' H') ∧ ∀ x H', (Itr lo n).yld i H x H' → g x σ H' fun σ2 H2 => tb { D with nx := N, ct := N, bk := D.nx } σ2 H2) := by
  refine ⟨fun i m σ H => m = n - i ∧ i ≤ n ∧ Pv i σ H, ⟨n, by simp, Nat.zero_le _, h0⟩, ?_⟩
  rintro i m σ H ⟨rfl, hi, p⟩
  by_cases hlt : i < n
  · refine .inr ⟨hlt, Pv (i + 1), fun σ' H' p' => ⟨n - (i + 1), by omega, rfl, hlt, p'⟩, fun x H' y => ?_⟩
    obtain ⟨e, y⟩ := y
    subst e y
    exact hs i σ _ hlt p
  · have e : i = n := by omega
    subst e
    exact .inl ⟨Nat.le_refl _, hd σ H p⟩
end L2

namespace L2
open PySem PySem.Spec PyProof.Rows

abbrev R2 := V → V → Hp → VK → Prop
/-- a two-place operation on values: f is binaryOp op, inplaceOp op or compareOp op -/
def OpR (X : Cx) (f : Value → Value → Sem Value) (r : R2) : Prop :=
  ∀ (pins : List (Addr × Obj)) (s : Shared) (σ : St) (H : Hp) (x y : V) (v u : Value) (Q : VK), Inv X pins σ H s → RelV x v → RelV y u → r x y H Q →
    wpAny (model X.prog X.w) X.A (f v u) (EP X pins σ Q) X.xe s
/-- a one-place operation -/
def UnR (X : Cx) (f : Value → Sem Value) (r : V → Hp → VK → Prop) : Prop :=
  ∀ (pins : List (Addr × Obj)) (s : Shared) (σ : St) (H : Hp) (x : V) (v : Value) (Q : VK), Inv X pins σ H s → RelV x v → r x H Q →
    wpAny (model X.prog X.w) X.A (f v) (EP X pins σ Q) X.xe s
/-- a call of a value that is known (a builtin, a type) with values -/
def CallR (X : Cx) (f : Value) (r : List V → Hp → VK → Prop) : Prop :=
  ∀ (pins : List (Addr × Obj)) (s : Shared) (σ : St) (H : Hp) (xs : List V) (us : List Value) (Q : VK), Inv X pins σ H s → Vals xs us → r xs H Q →
    wpAny (model X.prog X.w) X.A (call f us) (EP X pins σ Q) X.xe s
/-- a value's truth -/
def TruR (X : Cx) (r : V → Hp → (Bool → Hp → Prop) → Prop) : Prop :=
  ∀ (pins : List (Addr × Obj)) (s : Shared) (σ : St) (H : Hp) (x : V) (v : Value) (Q : Bool → Hp → Prop), Inv X pins σ H s → RelV x v → r x H Q →
    wpAny (model X.prog X.w) X.A (truthy v) (TP X pins σ Q) X.xe s

def tOp (r : R2) (ta tb : TE) : TE := fun σ H Q => ta σ H fun x H1 => tb σ H1 fun y H2 => r x y H2 Q
def tUn (r : V → Hp → VK → Prop) (ta : TE) : TE := fun σ H Q => ta σ H fun x H1 => r x H1 Q
/-- ints in, under C, and a value out -/
def rI (C : Int → Int → Prop) (g : Int → Int → V) : R2 := fun x y H Q => ∃ i j, x = .int i ∧ y = .int j ∧ C i j ∧ Q (g i j) H
def rI0 (g : Int → Int → V) : R2 := fun x y H Q => ∃ i j, x = .int i ∧ y = .int j ∧ Q (g i j) H
def rU (g : Int → V) : V → Hp → VK → Prop := fun x H Q => ∃ i, x = .int i ∧ Q (g i) H

section
variable {X : Cx} {a b c : Expr} {ta tb tc : TE} {pos : Pos}

theorem binT (ha : PE X a ta) (hb : PE X b tb) {pins : List (Addr × Obj)} {s : Shared} {σ : St} {H : Hp} {R : V → V → Hp → Prop} (I : Inv X pins σ H s)
    (h : ta σ H fun x H1 => tb σ H1 fun y H2 => R x y H2) {Q : Value → Shared → Prop} {f : Value → Value → Sem Value}
    (hf : ∀ v u s2 x y H2, Inv X pins σ H2 s2 → RelV x v → RelV y u → R x y H2 → wpAny (model X.prog X.w) X.A (f v u) Q X.xe s2) :
    wpAny (model X.prog X.w) X.A (eval a X.env) (fun v s₁ => wpAny (model X.prog X.w) X.A (eval b X.env) (fun u s₂ => wpAny (model X.prog X.w) X.A (f v u) Q X.xe s₂) X.xe s₁) X.xe s := by
  refine thn (ha pins s σ H _ I h) fun v s1 ⟨x, H1, I1, r1, q1⟩ => ?_
  refine thn (hb pins s1 σ H1 _ I1 q1) fun u s2 ⟨y, H2, I2, r2, q2⟩ => ?_
  exact hf v u s2 x y H2 I2 r1 r2 q2

theorem pe_op {op : Operator} {r : R2} (ho : OpR X (binaryOp op) r) (ha : PE X a ta) (hb : PE X b tb) : PE X (.BinOp a op b pos) (tOp r ta tb) := by
  intro pins s σ H Q I h
  exact wpAny_BinOp (binT ha hb I h fun v u s2 x y H2 I2 rx ry q => ho pins s2 σ H2 x y v u Q I2 rx ry q)
/-! ### ints -/
theorem opI {f : Value → Value → Sem Value} {C : Int → Int → Prop} {g : Int → Int → Int}
    (rule : ∀ (i j : Int) (t u : Tok) (s : Shared) (Q : Value → Shared → Prop) (E : Value → Shared → Prop), C i j → Q (.int (g i j) s.toks) { s with toks := s.toks + 1 } → wpAny (model X.prog X.w) X.A (f (.int i t) (.int j u)) Q E s) :
    OpR X f (rI C fun i j => .int (g i j)) := by
  intro pins s σ H x y v u Q I rx ry h
  obtain ⟨i, j, rfl, rfl, hc, q⟩ := h
  obtain ⟨t, rfl⟩ := rx
  obtain ⟨t', rfl⟩ := ry
  exact rule i j t t' s _ _ hc ⟨.int (g i j), H, I.tok _, ⟨_, rfl⟩, q⟩
theorem opI0 {f : Value → Value → Sem Value} {g : Int → Int → Int}
    (rule : ∀ (i j : Int) (t u : Tok) (s : Shared) (Q : Value → Shared → Prop) (E : Value → Shared → Prop), Q (.int (g i j) s.toks) { s with toks := s.toks + 1 } → wpAny (model X.prog X.w) X.A (f (.int i t) (.int j u)) Q E s) :
    OpR X f (rI0 fun i j => .int (g i j)) := by
  intro pins s σ H x y v u Q I rx ry h
  obtain ⟨i, j, rfl, rfl, q⟩ := h
  obtain ⟨t, rfl⟩ := rx
  obtain ⟨t', rfl⟩ := ry
  exact rule i j t t' s _ _ ⟨.int (g i j), H, I.tok _, ⟨_, rfl⟩, q⟩
theorem opB0 {f : Value → Value → Sem Value} {g : Int → Int → Bool}
    (rule : ∀ (i j : Int) (t u : Tok) (s : Shared) (Q : Value → Shared → Prop) (E : Value → Shared → Prop), Q (.bool (g i j)) s → wpAny (model X.prog X.w) X.A (f (.int i t) (.int j u)) Q E s) :
    OpR X f (rI0 fun i j => .bl (g i j)) := by
  intro pins s σ H x y v u Q I rx ry h
  obtain ⟨i, j, rfl, rfl, q⟩ := h
  obtain ⟨t, rfl⟩ := rx
  obtain ⟨t', rfl⟩ := ry
  exact rule i j t t' s _ _ ⟨.bl (g i j), H, I, rfl, q⟩

def CDiv (i j : Int) : Prop := 0 < j ∧ j < 1073741824
def CDivN (i j : Int) : Prop := j ≠ 0 ∧ j.natAbs < 1073741824
def CPow (i j : Int) : Prop := 0 ≤ j ∧ j ≤ 1000000 ∧ i.natAbs < 2 ^ 64
def CMul (i j : Int) : Prop := (-(2 ^ 64) < i ∧ i < 2 ^ 64) ∨ (-(2 ^ 64) < j ∧ j < 2 ^ 64)
theorem CMul.ok {i j : Int} (h : CMul i j) : IntMulOk i j := by
  rcases h with ⟨h1, h2⟩ | ⟨h1, h2⟩
  · exact .of_left (intBits_le_64 h1 h2)
  · exact .of_right (intBits_le_64 h1 h2)
theorem op_add : OpR X (binaryOp .Add) (rI0 fun i j => .int (i + j)) := opI0 fun _ _ _ _ _ _ _ q => add_int q
theorem op_sub : OpR X (binaryOp .Sub) (rI0 fun i j => .int (i - j)) := opI0 fun _ _ _ _ _ _ _ q => sub_int q
theorem op_mul : OpR X (binaryOp .Mult) (rI CMul fun i j => .int (i * j)) := opI fun _ _ _ _ _ _ _ hc q => mul_int q hc.ok
/-- // by a positive divisor -/
theorem op_fdiv : OpR X (binaryOp .FloorDiv) (rI CDiv fun i j => .int (i / j)) := opI fun i j _ _ _ _ _ hc q => by
  have h1 : (0 : Int) < j := hc.1
  have h2 : j < 1073741824 := hc.2
  exact floordiv_int (by omega) (by rw [Int.fdiv_eq_ediv_of_nonneg i (by omega)]; exact q) (.inl (PyProof.noPylong_small (by omega)))
/-- % by a positive divisor of any size -/
theorem op_mod : OpR X (binaryOp .Mod) (rI (fun _ j => 0 < j) fun i j => .int (i % j)) := opI fun i j _ _ _ _ _ hc q => by
  have h1 : (0 : Int) < j := hc
  exact mod_int' (by omega) (by rw [Int.fmod_eq_emod_of_nonneg i (by omega)]; exact q)
/-! ### bools among ints: n += (a < b) -/
end

/-! ### comparisons -/
/-- the scalars that == tells apart as data does -/
def scal : V → V → Bool
  | .non, .non => true | .non, .int _ => true | .int _, .non => true | .non, .bl _ => true | .bl _, .non => true | .non, .str _ => true | .str _, .non => true
  | .int _, .int _ => true | .bl _, .bl _ => true | .str _, .str _ => true | .byt _, .byt _ => true
  | .int _, .str _ => true | .str _, .int _ => true | .bl _, .str _ => true | .str _, .bl _ => true
  | _, _ => false
def rEq : R2 := fun x y H Q => scal x y = true ∧ Q (.bl (decide (x = y))) H
def rNe : R2 := fun x y H Q => scal x y = true ∧ Q (.bl (!decide (x = y))) H

theorem dec_int {i j : Int} : decide (V.int i = V.int j) = (i == j) := by
  rw [Bool.eq_iff_iff]
  simp
theorem dec_bl {i j : Bool} : decide (V.bl i = V.bl j) = (i == j) := by
  rw [Bool.eq_iff_iff]
  simp
theorem dec_str {i j : Str} : decide (V.str i = V.str j) = (i == j) := by
  rw [Bool.eq_iff_iff]
  simp
theorem dec_byt {i j : Array UInt8} : decide (V.byt i = V.byt j) = (i.toList == j.toList) := by
  rw [Bool.eq_iff_iff]
  cases i
  cases j
  simp

section
variable {X : Cx} {a b c : Expr} {ta tb tc : TE} {pos : Pos}
theorem fin_bl {pins : List (Addr × Obj)} {σ : St} {H : Hp} {s : Shared} {Q : VK} {k k' : Bool} (I : Inv X pins σ H s) (q : Q (.bl k) H) (e : k = k') : EP X pins σ Q (.bool k') s := by
  subst e
  exact ⟨.bl k, H, I, rfl, q⟩
theorem op_eq : OpR X (compareOp .Eq) rEq := by
  intro pins s σ H x y v u Q I rx ry h
  obtain ⟨hs, q⟩ := h
  cases x with
  | non =>
    cases rx
    cases y with
    | non => cases ry; exact PySem.EqNone.eq_none_none (fin_bl I q (by simp))
    | bl j => cases ry; exact PySem.EqNone.eq_none_bool (fin_bl I q (by simp))
    | int j => obtain ⟨t', rfl⟩ := ry; exact PySem.EqNone.eq_none_int (fin_bl I q (by simp))
    | str j => obtain ⟨t', rfl⟩ := ry; exact PySem.EqNone.eq_none_str (fin_bl I q (by simp))
    | _ => exact absurd (show false = true from hs) Bool.false_ne_true
  | bl i =>
    cases rx
    cases y with
    | non => cases ry; exact PySem.EqNone.eq_bool_none (fin_bl I q (by simp))
    | bl j => cases ry; exact eq_bool (fin_bl I q dec_bl)
    | str j => obtain ⟨t', rfl⟩ := ry; exact PySem.EqMixed.eq_bool_str (fin_bl I q (by simp))
    | _ => exact absurd (show false = true from hs) Bool.false_ne_true
  | int i =>
    obtain ⟨t, rfl⟩ := rx
    cases y with
    | non => cases ry; exact PySem.EqNone.eq_int_none (fin_bl I q (by simp))
    | int j => obtain ⟨t', rfl⟩ := ry; exact eq_int (fin_bl I q dec_int)
    | str j => obtain ⟨t', rfl⟩ := ry; exact PySem.EqMixed.eq_int_str (fin_bl I q (by simp))
    | _ => exact absurd (show false = true from hs) Bool.false_ne_true
  | str i =>
    obtain ⟨t, rfl⟩ := rx
    cases y with
    | non => cases ry; exact PySem.EqNone.eq_str_none (fin_bl I q (by simp))
    | bl j => cases ry; exact PySem.EqMixed.eq_str_bool (fin_bl I q (by simp))
    | int j => obtain ⟨t', rfl⟩ := ry; exact PySem.EqMixed.eq_str_int (fin_bl I q (by simp))
    | str j => obtain ⟨t', rfl⟩ := ry; exact eq_str (fin_bl I q dec_str)
    | _ => exact absurd (show false = true from hs) Bool.false_ne_true
  | byt i =>
    obtain ⟨t, rfl⟩ := rx
    cases y with
    | byt j => obtain ⟨t', rfl⟩ := ry; exact PySem.W.eq_bytes (fin_bl I q dec_byt)
    | _ => exact absurd (show false = true from hs) Bool.false_ne_true
  | _ => cases y <;> exact absurd (show false = true from hs) Bool.false_ne_true
theorem op_ne : OpR X (compareOp .NotEq) rNe := by
  intro pins s σ H x y v u Q I rx ry h
  obtain ⟨hs, q⟩ := h
  cases x with
  | non =>
    cases rx
    cases y with
    | non => cases ry; exact PySem.EqNone.ne_none_none (fin_bl I q (by simp))
    | bl j => cases ry; exact PySem.EqNone.ne_none_bool (fin_bl I q (by simp))
    | int j => obtain ⟨t', rfl⟩ := ry; exact PySem.EqNone.ne_none_int (fin_bl I q (by simp))
    | str j => obtain ⟨t', rfl⟩ := ry; exact PySem.EqNone.ne_none_str (fin_bl I q (by simp))
    | _ => exact absurd (show false = true from hs) Bool.false_ne_true
  | bl i =>
    cases rx
    cases y with
    | non => cases ry; exact PySem.EqNone.ne_bool_none (fin_bl I q (by simp))
    | bl j => cases ry; exact ne_bool (fin_bl I q (congrArg not dec_bl))
    | str j => obtain ⟨t', rfl⟩ := ry; exact PySem.EqMixed.ne_bool_str (fin_bl I q (by simp))
    | _ => exact absurd (show false = true from hs) Bool.false_ne_true
  | int i =>
    obtain ⟨t, rfl⟩ := rx
    cases y with
    | non => cases ry; exact PySem.EqNone.ne_int_none (fin_bl I q (by simp))
    | int j => obtain ⟨t', rfl⟩ := ry; exact ne_int (fin_bl I q (congrArg not dec_int))
    | str j => obtain ⟨t', rfl⟩ := ry; exact PySem.EqMixed.ne_int_str (fin_bl I q (by simp))
    | _ => exact absurd (show false = true from hs) Bool.false_ne_true
  | str i =>
    obtain ⟨t, rfl⟩ := rx
    cases y with
    | non => cases ry; exact PySem.EqNone.ne_str_none (fin_bl I q (by simp))
    | bl j => cases ry; exact PySem.EqMixed.ne_str_bool (fin_bl I q (by simp))
    | int j => obtain ⟨t', rfl⟩ := ry; exact PySem.EqMixed.ne_str_int (fin_bl I q (by simp))
    | str j => obtain ⟨t', rfl⟩ := ry; exact ne_str (fin_bl I q (congrArg not dec_str))
    | _ => exact absurd (show false = true from hs) Bool.false_ne_true
  | byt i =>
    obtain ⟨t, rfl⟩ := rx
    cases y with
    | byt j => obtain ⟨t', rfl⟩ := ry; exact PySem.W.ne_bytes (fin_bl I q (congrArg not dec_byt))
    | _ => exact absurd (show false = true from hs) Bool.false_ne_true
  | _ => cases y <;> exact absurd (show false = true from hs) Bool.false_ne_true

theorem op_lt : OpR X (compareOp .Lt) (rI0 fun i j => .bl (decide (i < j))) := opB0 fun _ _ _ _ _ _ _ q => lt_int q
theorem op_le : OpR X (compareOp .LtE) (rI0 fun i j => .bl (decide (i ≤ j))) := opB0 fun _ _ _ _ _ _ _ q => le_int q
theorem op_gt : OpR X (compareOp .Gt) (rI0 fun i j => .bl (decide (j < i))) := opB0 fun _ _ _ _ _ _ _ q => gt_int q
/-- is, is not of two objects that are tracked lists or instances -/
def isObj : HO → Bool
  | .lst _ => true
  | .ins _ _ _ => true
  | _ => false
theorem nomark (b : Expr) {op : CmpOp} (h : op ≠ .In := by decide) (h2 : op ≠ .NotIn := by decide) : behindInMarks op b = false := by
  have e1 : (op == CmpOp.In) = false := by cases op <;> first | rfl | exact absurd rfl h
  have e2 : (op == CmpOp.NotIn) = false := by cases op <;> first | rfl | exact absurd rfl h2
  cases b <;> simp [behindInMarks, e1, e2]
/-- a comparison as a value; hm: nomark b, or (for in, not in) by with_unfolding_all rfl -/
theorem pe_cmpR {op : CmpOp} {r : R2} (ho : OpR X (compareOp op) r) (ha : PE X a ta) (hb : PE X b tb) (hm : behindInMarks op b = false) : PE X (.Compare a [op] [b] pos) (tOp r ta tb) := by
  intro pins s σ H Q I h
  exact wpAny_Compare1 (binT ha hb I h fun v u s2 x y H2 I2 rx ry q => ho pins s2 σ H2 x y v u Q I2 rx ry q) hm
/-- a reading of a value as a test -/
def tTest (t : TE) : TT := fun σ H Q => t σ H fun x H' => ∃ k, x = .bl k ∧ Q k H'
theorem pt_cmpR {op : CmpOp} {r : R2} (ho : OpR X (compareOp op) r) (ha : PE X a ta) (hb : PE X b tb) (hm : behindInMarks op b = false) : PT X (.Compare a [op] [b] pos) (tTest (tOp r ta tb)) := by
  intro pins s σ H Q I h
  refine wpAny_isTrue_Compare1 (thn (ha pins s σ H _ I h) fun v s1 ⟨x, H1, I1, r1, q1⟩ => thn (hb pins s1 σ H1 _ I1 q1) fun u s2 ⟨y, H2, I2, r2, q2⟩ =>
    thn (ho pins s2 σ H2 x y v u _ I2 r1 r2 q2) fun c s3 ⟨z, H3, I3, r3, k, e, q3⟩ => ?_) hm
  subst e
  cases r3
  exact wpAny_truthy_bool ⟨H3, I3, q3⟩
/-- a op1 b op2 c -/
def tChain (r r' : R2) (ta tb tc : TE) : TE := fun σ H Q => ta σ H fun x H1 => tb σ H1 fun y H2 => r x y H2 fun z H3 => ∃ k, z = .bl k ∧
  (if k = true then tc σ H3 fun w' H4 => r' y w' H4 Q else Q (.bl false) H3)
theorem pe_chain {op op' : CmpOp} {r r' : R2} (ho : OpR X (compareOp op) r) (ho' : OpR X (compareOp op') r') (ha : PE X a ta) (hb : PE X b tb) (hc : PE X c tc)
    (hm : lastMarks [op, op'] [b, c] = false := by with_unfolding_all rfl) : PE X (.Compare a [op, op'] [b, c] pos) (tChain r r' ta tb tc) := by
  intro pins s σ H Q I h
  refine Compare_chain (thn (ha pins s σ H _ I h) fun v s1 ⟨x, H1, I1, r1, q1⟩ => chain_link (thn (hb pins s1 σ H1 _ I1 q1) fun u s2 ⟨y, H2, I2, r2, q2⟩ =>
    thn (ho pins s2 σ H2 x y v u _ I2 r1 r2 q2) fun d s3 ⟨z, H3, I3, r3, k, e, q3⟩ => ?_)) hm
  subst e
  cases r3
  refine wpAny_truthy_bool ?_
  cases k with
  | false => exact ite_ff ⟨.bl false, H3, I3, rfl, q3⟩
  | true => exact ite_tt (chain_last (thn (hc pins s3 σ H3 _ I3 q3) fun w' s4 ⟨z', H4, I4, r4, q4⟩ => ho' pins s4 σ H4 y z' u w' Q I4 r2 r4 q4))
theorem pt_chain {op op' : CmpOp} {r r' : R2} (ho : OpR X (compareOp op) r) (ho' : OpR X (compareOp op') r') (ha : PE X a ta) (hb : PE X b tb) (hc : PE X c tc)
    (hm : lastMarks [op, op'] [b, c] = false := by with_unfolding_all rfl) : PT X (.Compare a [op, op'] [b, c] pos) (tTest (tChain r r' ta tb tc)) := by
  intro pins s σ H Q I h
  refine isTrue_chain (thn (ha pins s σ H _ I h) fun v s1 ⟨x, H1, I1, r1, q1⟩ => test_link (thn (hb pins s1 σ H1 _ I1 q1) fun u s2 ⟨y, H2, I2, r2, q2⟩ =>
    thn (ho pins s2 σ H2 x y v u _ I2 r1 r2 q2) fun d s3 ⟨z, H3, I3, r3, k, e, q3⟩ => ?_)) hm
  subst e
  cases r3
  refine wpAny_truthy_bool ?_
  cases k with
  | false =>
    obtain ⟨k', e', q'⟩ := q3
    cases e'
    exact ite_ff ⟨H3, I3, q'⟩
  | true =>
    refine ite_tt (test_last (thn (hc pins s3 σ H3 _ I3 q3) fun w' s4 ⟨z', H4, I4, r4, q4⟩ => thn (ho' pins s4 σ H4 y z' u w' _ I4 r2 r4 q4) fun d' s5 ⟨z2, H5, I5, r5, k2, e2, q5⟩ => ?_))
    subst e2
    cases r5
    exact wpAny_truthy_bool ⟨H5, I5, q5⟩

/-! ### truth -/
/-- a value's truth by the abstract heap -/
def TruV (K : PySem.W.Frag) (x : V) (H : Hp) (k : Bool) : Prop :=
  match x with
  | .non => k = false
  | .bl b => k = b
  | .int i => k = (i != 0)
  | .str y => y.length ≤ sizeLine ∧ k = ((y.length : Int) != 0)
  | .byt y => y.size ≤ sizeLine ∧ k = ((y.size : Int) != 0)
  | .ref p => (∃ xs, SqL K H p xs ∧ k = !xs.isEmpty) ∨ (∃ xs, SqT K H p xs ∧ k = !xs.isEmpty) ∨ ∃ kvs, H p = some (.dK kvs) ∧ k = !kvs.isEmpty
  | _ => False
theorem line63 : (sizeLine : Nat) < 2 ^ 63 := by rw [sizeLine_eq]; decide
/-! ### strs and bytes -/
def PlainIxT (b : Expr) : Prop := ∀ o i, subscripted b false o i = operate [o, i] (getItem o i)
/-! ### scalar builtins, by CallR -/
theorem vals1 {x : V} {us : List Value} (r : Vals [x] us) : ∃ u, us = [u] ∧ RelV x u := by
  cases r with
  | cons r1 r2 => cases r2; exact ⟨_, rfl, r1⟩
theorem vals2 {x y : V} {us : List Value} (r : Vals [x, y] us) : ∃ u w', us = [u, w'] ∧ RelV x u ∧ RelV y w' := by
  cases r with
  | cons r1 r2 =>
    cases r2 with
    | cons r3 r4 => cases r4; exact ⟨_, _, rfl, r1, r3⟩
theorem call_max2 (hc : X.calm = true) : CallR X (.builtin "max") (fun xs H Q => ∃ i j, xs = [.int i, .int j] ∧ Q (.int (if j > i then j else i)) H) := by
  intro pins s σ H xs us Q I r h
  obtain ⟨i, j, rfl, q⟩ := h
  obtain ⟨u, w', rfl, ⟨t, rfl⟩, ⟨t', rfl⟩⟩ := vals2 r
  refine max_two_ints (I.ok.hd hc) fun h' tk k => ⟨_, H, I.kept k, ?_, q⟩
  by_cases hj : j > i
  · rw [if_pos hj, if_pos hj]; exact ⟨_, rfl⟩
  · rw [if_neg hj, if_neg hj]; exact ⟨_, rfl⟩
/-- len of a str, a bytes, a list, a tuple -/
def LenV (K : PySem.W.Frag) (x : V) (H : Hp) (n : Nat) : Prop :=
  match x with
  | .str y => y.length ≤ sizeLine ∧ n = y.length
  | .byt y => y.size ≤ sizeLine ∧ n = y.size
  | .ref p => (∃ xs, SqL K H p xs ∧ n = xs.length) ∨ ∃ xs, SqT K H p xs ∧ n = xs.length
  | _ => False
end
end L2

namespace L2
open PySem PySem.Spec PyProof.Rows

/-! ### an instance, its attributes a map -/
structure ObjM (h : Heap) (x dx C : Addr) (mA : Str → Option Value) : Prop where
  obj : h.get? x = some (PySem.W.instObj C dx)
  ns : h.Ns1 dx mA
  ne : dx ≠ x

theorem lookIn_ns {h : Heap} {dx : Addr} {mA : Str → Option Value} (n : h.Ns1 dx mA) : ∃ od, h.get? dx = some od ∧ ∀ name, PySem.W.lookIn name od = some (mA name) := by
  obtain ⟨o, es, ep, ho, hd, hk, _, hm⟩ := n
  refine ⟨o, ho, fun name => ?_⟩
  have e := hm name
  unfold nsFind findBy at e
  rw [← Array.find?_toList] at e
  unfold PySem.W.lookIn
  rw [hd]
  dsimp only
  split
  · rename_i y q
    rw [q] at e
    exact congrArg some e
  · rename_i q
    rw [q] at e
    have a : es.toList.any (·.refKey) = false := by
      rw [List.any_eq_false]
      intro y hy
      obtain ⟨z, t, hkey⟩ := hk y (Array.mem_toList_iff.mp hy)
      simp [DictEntry.refKey, hkey]
    have a' : ¬ es.toList.any (·.refKey) = true := by rw [a]; exact Bool.false_ne_true
    rw [if_neg a']
    exact congrArg some e

theorem ObjM.look {h : Heap} {x dx C : Addr} {mA : Str → Option Value} (I : ObjM h x dx C mA) : ∃ od, PySem.W.InstAt h x (PySem.W.instObj C dx) C (some od) ∧ ∀ name, PySem.W.lookIn name od = some (mA name) :=
  let ⟨od, ho, hl⟩ := lookIn_ns I.ns
  ⟨od, ⟨I.obj, rfl, rfl, ho⟩, hl⟩

section
variable {prog : Program} {w : World} {A : Around} {E : Value → Shared → Prop} {s : Shared} {K : PySem.W.Frag} {x dx C f : Addr} {mA : Str → Option Value} {name : Str} {v : Value}

end

/-! ### the attributes as a list of pairs -/
def putF (f : Str) (v : V) : List (Str × V) → List (Str × V)
  | [] => [(f, v)]
  | (g, x) :: r => if g = f then (g, v) :: r else (g, x) :: putF f v r
theorem RelO.some_of {v : V} {o : Option Value} (r : RelO (some v) o) : ∃ u, o = some u ∧ RelV v u := by
  cases o with
  | none => exact (show False from r).elim
  | some u => exact ⟨u, rfl, r⟩
section
variable {P : Program} {w : World} {H H' : Hp} {h h' : Heap} {a C dx : Addr} {fs fs' : List (Str × V)}
theorem ins_get (hok : HOk P w H h) (e : H a = some (.ins C dx fs)) : ∃ mA, ObjM h a dx C mA ∧ (∀ f, RelO (fs.lookup f) (mA f)) ∧ PySem.Within mA (fs.map (·.1)) ∧ fs.length ≤ 1000 ∧ H dx = some (.own a) := by
  obtain ⟨d, z, ne, ob, mA, n, r, q⟩ := (show ObjOk P w H h a (.ins C dx fs) from hok a _ e)
  exact ⟨mA, ⟨ob, n, ne⟩, r, q, z, d⟩
end

/-! ### what of the text a class must have -/
structure Cls (K : PySem.W.Frag) (C : Addr) : Prop where
  pg : PySem.W.plainGet K C Str.empty = true
  hd : PySem.W.hasDictIn K C = true
  po : PySem.W.plainOver K C = true
  sa : PySem.W.findIn K (.ref C) "__setattr__" = some (some (.builtin "object.__setattr__"))
theorem Cls.get {K : PySem.W.Frag} {C : Addr} (c : Cls K C) (f : Str) : PySem.W.plainGet K C f = true := c.pg
/-- no class of it has the name -/
def NoAttr (K : PySem.W.Frag) (C : Addr) (f : Str) : Prop := PySem.W.findIn K (.ref C) f = some none
/-- a constant of the class -/
structure Con (K : PySem.W.Frag) (C : Addr) (f : Str) (v : V) (u : Value) : Prop where
  at_ : PySem.W.findIn K (.ref C) f = some (some u)
  rel : RelV v u
  get : PySem.W.specialIn K u "__get__" = some none
  cp : PySem.W.copiedNames.contains f = false
/-- a method: a plain def of the class or of one above it -/
structure Meth (K : PySem.W.Frag) (C : Addr) (m : Str) (f : Addr) : Prop where
  at_ : PySem.W.findIn K (.ref C) m = some (some (.ref f))
  fn : PySem.W.isFn K (.ref f) = true
  kp : PySem.W.keepIn K (.ref f) = true

section
variable {X : Cx} {pins : List (Addr × Obj)} {σ : St} {H : Hp} {s : Shared} {a C dx : Addr} {fs : List (Str × V)} {f : Str} {v : V} {A : Around} {E : Value → Shared → Prop}

end

/-! ### readings and rules -/
/-- e.f, an attribute of the instance -/
def tFld (K : PySem.W.Frag) (ta : TE) (f : Str) : TE := fun σ H Q => ta σ H fun x H1 => ∃ a C dx fs v, x = .ref a ∧ H1 a = some (.ins C dx fs) ∧ Cls K C ∧ NoAttr K C f ∧ fs.lookup f = some v ∧ Q v H1
/-- e.f, a constant of the class -/
def tCon (K : PySem.W.Frag) (ta : TE) (f : Str) : TE := fun σ H Q => ta σ H fun x H1 => ∃ a C dx fs v u, x = .ref a ∧ H1 a = some (.ins C dx fs) ∧ Cls K C ∧ Con K C f v u ∧ fs.lookup f = none ∧ Q v H1
/-- e.f = value -/
def sFld (K : PySem.W.Frag) (ta tv : TE) (f : Str) : TS := fun D σ H => tv σ H fun y H1 => ta σ H1 fun x H2 => ∃ a C dx fs, x = .ref a ∧ H2 a = some (.ins C dx fs) ∧ Cls K C ∧ NoAttr K C f ∧ fs.length < 1000 ∧
  D.nx σ (upd H2 a (.ins C dx (putF f y fs)))
/-- an augmented operator on two values -/
def InOp (X : Cx) (op : Operator) (rd : V → V → Hp → VK → Prop) : Prop :=
  ∀ (pins : List (Addr × Obj)) (s : Shared) (σ : St) (H : Hp) (x y : V) (u v : Value) (Q : VK), Inv X pins σ H s → RelV x u → RelV y v → rd x y H Q → wpAny (model X.prog X.w) X.A (inplaceOp op u v) (EP X pins σ Q) X.xe s
/-- e.f op= value -/
def sFldAug (K : PySem.W.Frag) (ta tv : TE) (rd : V → V → Hp → VK → Prop) (f : Str) : TS := fun D σ H => ta σ H fun x H1 => ∃ a C dx fs v, x = .ref a ∧ H1 a = some (.ins C dx fs) ∧ Cls K C ∧ NoAttr K C f ∧ fs.lookup f = some v ∧
  tv σ H1 fun y H2 => rd v y H2 fun z H3 => ∃ dx' fs', H3 a = some (.ins C dx' fs') ∧ fs'.length < 1000 ∧ D.nx σ (upd H3 a (.ins C dx' (putF f z fs')))

section
variable {X : Cx} {o e value : Expr} {f : Str} {pos pos' tpos : Pos} {ta tv : TE}
def rAdd : V → V → Hp → VK → Prop := fun x y H Q => ∃ i j, x = .int i ∧ y = .int j ∧ Q (.int (i + j)) H
def rSub : V → V → Hp → VK → Prop := fun x y H Q => ∃ i j, x = .int i ∧ y = .int j ∧ Q (.int (i - j)) H
end

/-! ### isinstance -/
section
variable {X : Cx} {pins : List (Addr × Obj)} {σ : St} {H : Hp} {s : Shared} {A : Around} {E : Value → Shared → Prop} {Q : Value → Shared → Prop} {c : Value} {b : Bool}
/-- the type of a value, as the fragment's deciders take it; for an instance its class -/
inductive TyOf (K : PySem.W.Frag) (H : Hp) : V → Value → Prop where
  | non : TyOf K H .non (.type "NoneType")
  | bl (x : Bool) : TyOf K H (.bl x) (.type "bool")
  | int (i : Int) : TyOf K H (.int i) (.type "int")
  | str (x : Str) : TyOf K H (.str x) (.type "str")
  | flt (x : UInt64) : TyOf K H (.flt x) (.type "float")
  | lst {a : Addr} {xs : List V} (e : H a = some (.lst xs)) : TyOf K H (.ref a) (.type "list")
  | frz {a : Addr} {o : Obj} {xs : List V} (e : H a = some (.frz o (.lst xs))) : TyOf K H (.ref a) (.type "list")
  | tup {a : Addr} {xs : List V} (e : H a = some (.tup xs)) : TyOf K H (.ref a) (.type "tuple")
  | dK {a : Addr} {kvs : List (Key × V)} (e : H a = some (.dK kvs)) : TyOf K H (.ref a) (.type "dict")
  | dT {a : Addr} {kvs : List (NKey × V)} (e : H a = some (.dT kvs)) : TyOf K H (.ref a) (.type "dict")
  | ins {a C dx : Addr} {fs : List (Str × V)} (e : H a = some (.ins C dx fs)) (cl : Cls K C) (ha : PySem.W.findIn K (.ref C) "__class__" = some (some (.builtin "object.__class__")))
      (hn : PySem.W.specialIn K (.builtin "object.__class__") "__get__" = some (some (.builtin "getset_descriptor.__get__"))) (htk : PySem.W.takesIn K (.builtin "object.__class__") = some true)
      (hm : PySem.W.mroIn K C (.type "object") = some true) : TyOf K H (.ref a) (.ref C)
/-- isinstance(x, c) for one class c, a built-in or an own one: kitOne's answer -/
theorem isinst_ok {x : V} {u t : Value} (I : Inv X pins σ H s) (rx : RelV x u) (ty : TyOf X.K H x t) (e : PySem.W.kitOne X.K t c = some b) (h : ∀ tk, Q (.bool b) { s with toks := tk }) :
    wpAny (model X.prog X.w) A (call (.builtin "isinstance") [u, c]) Q E s := by
  cases ty with
  | non => cases (show u = Value.none from rx); exact PySem.W.kia_one PySem.W.kitx_none I.kIn True.intro e (fun z => nomatch z) h
  | bl y => cases (show u = Value.bool y from rx); exact PySem.W.kia_one PySem.W.kitx_bool I.kIn True.intro e (fun z => nomatch z) h
  | int i => obtain ⟨t, q⟩ := (show ∃ t, u = Value.int i t from rx); cases q; exact PySem.W.kia_one PySem.W.kitx_int I.kIn True.intro e (fun z => nomatch z) h
  | str y => obtain ⟨t, q⟩ := (show ∃ t, u = Value.str y t from rx); cases q; exact PySem.W.kia_one PySem.W.kitx_str I.kIn True.intro e (fun z => nomatch z) h
  | flt y => obtain ⟨t, q⟩ := (show ∃ t, u = Value.float y t from rx); cases q; exact PySem.W.kia_one PySem.W.kitx_float I.kIn True.intro e (fun z => nomatch z) h
  | @lst a xs ea =>
    cases (show u = Value.ref a from rx)
    obtain ⟨_, _, n, _, h1⟩ := (show ObjOk X.prog X.w H s.heap a (.lst xs) from I.hok a _ ea)
    exact PySem.W.kia_one PySem.W.kitx_list I.kIn ⟨_, h1, rfl⟩ e (fun z => nomatch z) h
  | @frz a ob xs ea =>
    cases (show u = Value.ref a from rx)
    obtain ⟨_, _, _, n, _, h1⟩ := (show ObjOk X.prog X.w H s.heap a (.frz ob (.lst xs)) from I.hok a _ ea)
    exact PySem.W.kia_one PySem.W.kitx_list I.kIn ⟨_, h1, rfl⟩ e (fun z => nomatch z) h
  | @tup a xs ea =>
    cases (show u = Value.ref a from rx)
    obtain ⟨_, _, _, p⟩ := (show ObjOk X.prog X.w H s.heap a (.tup xs) from I.hok a _ ea)
    obtain ⟨o, h1, h2, _⟩ := p
    exact PySem.W.kia_one PySem.W.kitx_tuple I.kIn ⟨o, h1, h2⟩ e (fun z => nomatch z) h
  | @dK a kvs ea =>
    cases (show u = Value.ref a from rx)
    obtain ⟨_, _, vs, _, p⟩ := (show ObjOk X.prog X.w H s.heap a (.dK kvs) from I.hok a _ ea)
    obtain ⟨o, es, ep, h1, h2, _⟩ := p
    exact PySem.W.kia_one PySem.W.kitx_dict I.kIn ⟨o, h1, h2.1⟩ e (fun z => nomatch z) h
  | @dT a kvs ea =>
    cases (show u = Value.ref a from rx)
    obtain ⟨_, _, xs, _, o, es, ep, h1, h2, _⟩ := (show ObjOk X.prog X.w H s.heap a (.dT kvs) from I.hok a _ ea)
    exact PySem.W.kia_one PySem.W.kitx_dict I.kIn ⟨o, h1, h2.1⟩ e (fun z => nomatch z) h
  | @ins a C dx fs ea cl ha hn htk hm =>
    cases (show u = Value.ref a from rx)
    obtain ⟨mA, O, _⟩ := ins_get I.hok ea
    obtain ⟨od, J, _⟩ := O.look
    exact PySem.W.kia_one (PySem.W.kitx_own (cl.get _) cl.hd ha hn htk hm) I.kIn J e (fun z => nomatch z) h
end
end L2

namespace L2
open PySem PySem.Spec PyProof.Rows

/-! ### room -/
structure Room (k : Nat) (A : Around) : Prop where
  hd : A.handled = none
  dp : A.depth + 3 * k + 5 < recursionLimit
  un : A.units + 16 * k + 200 < cLine
theorem Room.mono {j k : Nat} {A : Around} (r : Room k A) (h : j ≤ k) : Room j A := ⟨r.hd, by have := r.dp; omega, by have := r.un; omega⟩
theorem Room.deeper {k : Nat} {A : Around} (r : Room (k + 1) A) (env : Env) : Room k (A.deeper env) :=
  ⟨r.hd, by have := r.dp; show A.depth + 1 + 3 * k + 5 < _; omega, by have := r.un; show A.units + 3 + 16 * k + 200 < _; omega⟩
theorem Room.depth {k : Nat} {A : Around} (r : Room k A) : A.depth < recursionLimit := by have := r.dp; omega
theorem Room.units {k : Nat} {A : Around} (r : Room k A) : A.units + 64 < cLine := by have := r.un; omega
/-! ### argument lists and displays -/
def tNil : TA := fun _ H Q => Q [] H
def tCons (ta : TE) (tr : TA) : TA := fun σ H Q => ta σ H fun x H1 => tr σ H1 fun xs H2 => Q (x :: xs) H2
section
variable {X : Cx} {e : Expr} {es : List Expr} {te : TE} {t : TA} {pos : Pos}
theorem pa_nil : PA X [] tNil := fun _ _ _ _ H Q I h => Calls.spliced_nil ⟨[], H, I, .nil, h⟩
theorem pa_cons (ha : PE X e te) (hr : PA X es t) (hs : starEach (e :: es) X.env = (false, eval e X.env) :: starEach es X.env := by rfl) : PA X (e :: es) (tCons te t) := by
  intro pos pins s σ H Q I h
  rw [hs]
  show wpAny _ _ (spliced ((false, eval e X.env) :: backTo pos (starEach es X.env))) _ _ s
  refine Calls.spliced_cons (thn (ha pins s σ H _ I h) fun u s1 ⟨x, H1, I1, r1, q1⟩ => ?_)
  exact thn (hr pos pins s1 σ H1 _ I1 q1) fun us s2 ⟨xs, H2, I2, r2, q2⟩ => ⟨x :: xs, H2, I2, .cons r1 r2, q2⟩

/-- a tuple, a list of written items -/
def tTup (t : TA) : TE := fun σ H Q => t σ H fun xs H1 => xs.length ≤ sizeLine ∧ ∀ p, H1 p = none → Q (.ref p) (upd H1 p (.tup xs))
def tLst (t : TA) : TE := fun σ H Q => t σ H fun xs H1 => xs.length ≤ sizeLine ∧ ∀ p, H1 p = none → Q (.ref p) (upd H1 p (.lst xs))
theorem pe_tup {x1} (h : PA X es t) : PE X (.Tuple es x1 pos) (tTup t) := by
  intro pins s σ H Q I hq
  refine wpAny_Tuple_spliced (thn (h pos pins s σ H _ I hq) fun us s1 ⟨xs, H1, I1, r, z, q⟩ => ⟨by rw [← r.length]; exact z, ?_⟩)
  have hf : H1 s1.heap.objs.size = none := I1.hok.fresh (Nat.le_refl _)
  refine ⟨.ref s1.heap.objs.size, upd H1 s1.heap.objs.size (.tup xs), I1.laid (t' := s1.toks) (fun b u e => Heap.get?_push_of_some _ e) (Nat.le_refl _) ?_, rfl, q _ hf⟩
  exact ⟨z, us, r, ⟨_, Heap.get?_push_size _ rfl, rfl, _, rfl⟩⟩
theorem pe_lst (h : PA X es t) : PE X (.List es pos) (tLst t) := by
  intro pins s σ H Q I hq
  refine wpAny_List_spliced (thn (h pos pins s σ H _ I hq) fun us s1 ⟨xs, H1, I1, r, z, q⟩ => ⟨by rw [← r.length]; exact z, ?_⟩)
  have hf : H1 s1.heap.objs.size = none := I1.hok.fresh (Nat.le_refl _)
  refine ⟨.ref s1.heap.objs.size, upd H1 s1.heap.objs.size (.lst xs), I1.laid (t' := s1.toks) (fun b u e => Heap.get?_push_of_some _ e) (Nat.le_refl _) ?_, rfl, q _ hf⟩
  exact ⟨z, us, 0, r, Heap.get?_push_size _ rfl⟩
end

/-! ### what a def promises -/
/-- a def's promise: the bound arguments in the parameters' order, the heap, the wanted end, the wanted exception -/
abbrev Sp := List V → Hp → VK → XK → Prop
/-- how an exception lies behind a call (file 08 gives it): the callers' frames, abstract heap and state ahead of the call, the wish, the exception, the state -/
abbrev CXT := List Env → Hp → Shared → XK → Value → Shared → Prop

/-- the state at a call -/
structure Env0 (P : Program) (w : World) (K : PySem.W.Frag) (mg : Str → Option Value) (base : Heap) (A : Around) (outer : List Env) (s : Shared) (H : Hp) : Prop where
  frames : A.frames = some outer
  mod : Mod K mg base
  bs : ∀ b o, base.get? b = some o → s.heap.get? b = some o ∧ H b = none
  bsz : base.objs.size ≤ s.heap.objs.size
  funs : s.heap.FunFrames base outer
  frf : ∀ b ∈ frs outer, H b = none
  hok : HOk P w H s.heap
  bare : AllBare s.gens
/-- a call's end -/
def CE (outer : List Env) (P : Program) (w : World) (H : Hp) (s : Shared) (Q : VK) (u : Value) (s' : Shared) : Prop :=
  ∃ v H', s'.os = s.os ∧ AllBare s'.gens ∧ Un (frs outer) [] H H' s.heap s'.heap ∧ HOk P w H' s'.heap ∧ RelV v u ∧ Q v H'
def CR (CX : CXT) (outer : List Env) (P : Program) (w : World) (H : Hp) (s : Shared) (Q : VK) (E : XK) (r : Result) (s' : Shared) : Prop :=
  match r with
  | .ok (.ret u) => CE outer P w H s Q u s'
  | .ok _ => False
  | .error e => CX outer H s E e s'
structure FnOk (P : Program) (w : World) (K : PySem.W.Frag) (mg : Str → Option Value) (base : Heap) (CX : CXT) (k : Nat) (f : Addr) (fd : FuncData) (ps : List Str) (sp : Sp) : Prop where
  len : ∀ vs H Q E, sp vs H Q E → vs.length = ps.length
  run : ∀ (A : Around) (outer : List Env) (s : Shared) (H : Hp) (args : Args) (us : List Value) (vs : List V) (Q : VK) (E : XK), Room k A → Env0 P w K mg base A outer s H → BindsTo s fd args (ps.zip us) → Vals vs us → sp vs H Q E →
    codeAny (model P w) A (.call (.ref f) args) (CR CX outer P w H s Q E) s
theorem FnOk.mono {P : Program} {w : World} {K : PySem.W.Frag} {mg : Str → Option Value} {base : Heap} {CX : CXT} {j k : Nat} {f : Addr} {fd : FuncData} {ps : List Str} {sp : Sp} (F : FnOk P w K mg base CX j f fd ps sp) (h : j ≤ k) :
    FnOk P w K mg base CX k f fd ps sp := ⟨F.len, fun A outer s H args us vs Q E hr => F.run A outer s H args us vs Q E (hr.mono h)⟩
/-- a weaker promise -/
theorem FnOk.imp {P : Program} {w : World} {K : PySem.W.Frag} {mg : Str → Option Value} {base : Heap} {CX : CXT} {k : Nat} {f : Addr} {fd : FuncData} {ps : List Str} {sp sp' : Sp} (F : FnOk P w K mg base CX k f fd ps sp)
    (h : ∀ vs H Q E, sp' vs H Q E → sp vs H Q E) : FnOk P w K mg base CX k f fd ps sp' :=
  ⟨fun vs H Q E q => F.len vs H Q E (h _ _ _ _ q), fun A outer s H args us vs Q E hr he hb hv hs => F.run A outer s H args us vs Q E hr he hb hv (h _ _ _ _ hs)⟩

section
variable {X : Cx} {pins : List (Addr × Obj)} {σ : St} {H : Hp} {s s' : Shared}
/-- from a body: what a callee wants -/
theorem Inv.env0 (I : Inv X pins σ H s) : Env0 X.prog X.w X.K X.mg X.base X.A X.stack s H :=
  ⟨I.ok.frames, I.ok.mod, I.bs, Nat.le_trans I.ok.bsz I.sz, I.stack, I.stkFree, I.hok, I.bare⟩
/-- behind a call -/
theorem Inv.after {Q : VK} {u : Value} (I : Inv X pins σ H s) (h : CE X.stack X.prog X.w H s Q u s') : EP X pins σ Q u s' := by
  obtain ⟨v, H', os, bare, un, hok, r, q⟩ := h
  obtain ⟨hh, g, d, t, os'⟩ := s'
  obtain rfl : os' = s.os := os
  exact ⟨v, H', I.call (h' := hh) (g' := g) (d' := d) (t' := t) (ch := []) un hok bare (fun b z => absurd z (by simp)), r, q⟩
end

/-! ### calls -/
/-- f(..): the written arguments, then the defaults dvs; E: what is wanted of an exception -/
def tCall (sp : Sp) (dvs : List V) (E : XK) (t : TA) : TE := fun σ H Q => t σ H fun vs H1 => sp (vs ++ dvs) H1 Q E
/-- o.m(..) of an instance of the class at C -/
def tMeth (C : Addr) (m : Str) (sp : Sp) (dvs : List V) (E : XK) (ta : TE) (t : TA) : TE := fun σ H Q => ta σ H fun x H1 => ∃ a dx fs, x = .ref a ∧ H1 a = some (.ins C dx fs) ∧ fs.lookup m = none ∧
  t σ H1 fun vs H2 => sp (x :: (vs ++ dvs)) H2 Q E
/-- C(..): a new instance and its dict, then __init__ -/
def tMake (C : Addr) (sp : Sp) (dvs : List V) (E : XK) (t : TA) : TE := fun σ H Q => t σ H fun vs H1 => ∀ x dx, H1 x = none → H1 dx = none → dx ≠ x →
  sp (.ref x :: (vs ++ dvs)) (upd (upd H1 dx (.own x)) x (.ins C dx [])) (fun v H2 => v = .non ∧ Q (.ref x) H2) E

/-- how the parameters are bound: us the positional arguments, kw the keywords' values by name, ds the defaults that fill up -/
def Binds (K : PySem.W.Frag) (fd : FuncData) (ps : List Str) (ds : List Value) : Prop :=
  ∀ (s : Shared) (us : List Value), K.In s.heap → (us ++ ds).length = ps.length → BindsTo s fd ⟨us, []⟩ (ps.zip (us ++ ds))
/-- every parameter is given -/
theorem Binds.all {K : PySem.W.Frag} {fd : FuncData} {ps : List Str} (h : ∀ us : List Value, us.length = ps.length → bindArgs fd ⟨us, []⟩ = pure (ps.zip us)) : Binds K fd ps [] := fun s us _ hl => by
  rw [List.append_nil] at hl ⊢
  exact .of_eq (h us hl)

/-- an exception of a callee reaches what this body wants of exceptions -/
def Passes (CX : CXT) (X : Cx) (E : XK) : Prop := ∀ (pins : List (Addr × Obj)) (σ : St) (H : Hp) (s : Shared) (e : Value) (s' : Shared), Inv X pins σ H s → CX X.stack H s E e s' → X.xe e s'

section
variable {X : Cx} {CX : CXT} {k : Nat} {f C : Addr} {fd : FuncData} {ps : List Str} {sp : Sp} {dvs : List V} {ds : List Value} {E : XK} {x m : Str} {p pos apos : Pos} {e o : Expr} {es : List Expr} {ta : TE} {t : TA}

/-- the callee runs -/
theorem run_fn {pins : List (Addr × Obj)} {σ : St} {H : Hp} {s : Shared} {Q : VK} {us : List Value} {vs : List V} (F : FnOk X.prog X.w X.K X.mg X.base CX k f fd ps sp) (hr : Room k X.A) (hb : Binds X.K fd ps ds) (hd : Vals dvs ds) (hx : Passes CX X E)
    (I : Inv X pins σ H s) (r : Vals vs us) (h : sp (vs ++ dvs) H Q E) : wpAny (model X.prog X.w) X.A (call (.ref f) us) (EP X pins σ Q) X.xe s := by
  have r2 : Vals (vs ++ dvs) (us ++ ds) := r.append hd
  have hl : (us ++ ds).length = ps.length := by rw [← r2.length]; exact F.len _ _ _ _ h
  refine wpAny_call (codeAny_mono (F.run X.A X.stack s H ⟨us, []⟩ (us ++ ds) (vs ++ dvs) Q E hr I.env0 (hb s us I.kIn hl) r2 h) fun r s' hq => ?_)
  cases r with
  | error e => exact hx pins σ H s e s' I hq
  | ok fl =>
    cases fl with
    | ret u => exact I.after hq
    | next => exact False.elim hq
    | brk => exact False.elim hq
    | cont => exact False.elim hq

theorem pe_call (F : FnOk X.prog X.w X.K X.mg X.base CX k f fd ps sp) (hr : Room k X.A) (hg : Gl X x) (hm : X.mg x = some (.ref f)) (hk : PySem.W.keepIn X.K (.ref f) = true) (hb : Binds X.K fd ps ds) (hd : Vals dvs ds) (hx : Passes CX X E)
    (ha : PA X (e :: es) t) (hdb : (x == ("__debug__" : Str)) = false := by decide) (he : starEach (e :: es) X.env = (false, eval e X.env) :: starEach es X.env := by rfl) (hpl : (backTo pos (starEach es X.env)).any (·.1) = false := by rfl) :
    PE X (.Call (.Name x p) (e :: es) [] pos) (tCall sp dvs E t) := by
  intro pins s σ H Q I h
  refine wpAny_Call_Name_kw (ld_glob I hg hm ?_ hdb)
  refine PySem.W.callWith_K (h₀ := X.base) I.ok.mod.kin hk (thn (ha pos pins s σ H _ I h) fun us s1 ⟨vs, H1, I1, r, q⟩ => ⟨I1.kIn, ?_⟩) he hpl
  exact run_fn F hr hb hd hx I1 r q
/-- what a class must have to be made -/
structure Mk (K : PySem.W.Frag) (C f : Addr) : Prop where
  makes : PySem.W.makesIn K C = true
  init : PySem.W.findIn K (.ref C) "__init__" = some (some (.ref f))
  fn : PySem.W.isFn K (.ref f) = true
  kp : PySem.W.keepIn K (.ref C) = true

end

/-! ### keywords -/
/-- the values of the keywords, from the left -/
def PK (X : Cx) (kws : List Keyword) (t : TA) : Prop :=
  ∀ (pos : Pos) (pins : List (Addr × Obj)) (s : Shared) (σ : St) (H : Hp) (Q : List V → Hp → Prop), Inv X pins σ H s → t σ H Q → wpAny (model X.prog X.w) X.A (evalAll ((backToKw pos (keywordEach kws X.env)).map (·.2))) (AP X pins σ Q) X.xe s
section
variable {X : Cx} {CX : CXT} {k : Nat} {f C : Addr} {fd : FuncData} {ps ks : List Str} {sp : Sp} {E : XK} {x m : Str} {p pos apos kpos : Pos} {e o : Expr} {es : List Expr} {kws : List Keyword} {te ta : TE} {t tk : TA} {nm : Option Str}
/-- how a call with keywords binds: g puts the positional values us and the keywords' values ws (names ks) in the parameters' order, defaults among them -/
structure KBinds (K : PySem.W.Frag) (fd : FuncData) (ps ks : List Str) (g : List Value → List Value → List Value) (gV : List V → List V → List V) : Prop where
  to : ∀ (s : Shared) (us ws : List Value), K.In s.heap → (g us ws).length = ps.length → BindsTo s fd ⟨us, ks.zip ws⟩ (ps.zip (g us ws))
  rel : ∀ {vs : List V} {us : List Value} {zs : List V} {ws : List Value}, Vals vs us → Vals zs ws → Vals (gV vs zs) (g us ws)
def tCallK (sp : Sp) (gV : List V → List V → List V) (E : XK) (t tk : TA) : TE := fun σ H Q => t σ H fun vs H1 => tk σ H1 fun zs H2 => sp (gV vs zs) H2 Q E
variable {g : List Value → List Value → List Value} {gV : List V → List V → List V}
end

/-! ### a def's body keeps its promise -/
/-- names: the parameters first -/
structure FnScope (N P : List Str) (sc : Scope) : Prop where
  kind : sc.kind = .function
  co : sc.isCoroutine = false
  gen : sc.isGenerator = false
  nd : N.Nodup
  pre : N.take P.length = P
  par : ∀ x ∈ P, sc.names.lookup x = some .local ∨ sc.names.lookup x = some .cell
  nofree : ∀ y ∈ sc.names, y.2 ≠ .free

theorem bindL_out {kindOf : Str → Option NameKind} {x : Str} : ∀ {binds : List (Str × Value)} {m : Str → Option Value}, (∀ v, (x, v) ∉ binds) → bindL kindOf binds m x = m x
  | [], _, _ => rfl
  | (n, v) :: r, m, h => by
    unfold bindL
    rw [bindL_out fun w hw => h w (List.mem_cons_of_mem _ hw)]
    split
    · have : x ≠ n := by rintro rfl; exact h v List.mem_cons_self
      simp [this]
    · rfl
theorem bindC_out {kindOf : Str → Option NameKind} {x : Str} : ∀ {binds : List (Str × Value)} {m : Str → Option Value}, (∀ v, (x, v) ∉ binds) → bindC kindOf binds m x = m x
  | [], _, _ => rfl
  | (n, v) :: r, m, h => by
    unfold bindC
    rw [bindC_out fun w hw => h w (List.mem_cons_of_mem _ hw)]
    split
    · rfl
    · have : x ≠ n := by rintro rfl; exact h v List.mem_cons_self
      simp [this]
theorem bindL_get {kindOf : Str → Option NameKind} {x : Str} {v : Value} : ∀ {P : List Str} {vs : List Value} {i : Nat} {m : Str → Option Value}, P.Nodup → P[i]? = some x → vs[i]? = some v → kindOf x = some .local →
    bindL kindOf (P.zip vs) m x = some v
  | [], _, _, _, _, h, _, _ => by simp at h
  | _ :: _, [], _, _, _, _, h, _ => by simp at h
  | p :: P, w :: vs, 0, m, nd, h1, h2, hk => by
    simp at h1 h2; subst h1; subst h2
    show bindL kindOf ((p, w) :: P.zip vs) m p = _
    unfold bindL
    rw [bindL_out fun v hv => (List.nodup_cons.mp nd).1 (List.of_mem_zip hv).1, if_pos hk]
    simp
  | p :: P, w :: vs, i + 1, m, nd, h1, h2, hk => by
    show bindL kindOf ((p, w) :: P.zip vs) m x = _
    unfold bindL
    exact bindL_get (i := i) (List.nodup_cons.mp nd).2 (by simpa using h1) (by simpa using h2) hk
theorem bindC_get {kindOf : Str → Option NameKind} {x : Str} {v : Value} : ∀ {P : List Str} {vs : List Value} {i : Nat} {m : Str → Option Value}, P.Nodup → P[i]? = some x → vs[i]? = some v → kindOf x ≠ some .local →
    bindC kindOf (P.zip vs) m x = some v
  | [], _, _, _, _, h, _, _ => by simp at h
  | _ :: _, [], _, _, _, _, h, _ => by simp at h
  | p :: P, w :: vs, 0, m, nd, h1, h2, hk => by
    simp at h1 h2; subst h1; subst h2
    show bindC kindOf ((p, w) :: P.zip vs) m p = _
    unfold bindC
    rw [bindC_out fun v hv => (List.nodup_cons.mp nd).1 (List.of_mem_zip hv).1, if_neg hk]
    simp
  | p :: P, w :: vs, i + 1, m, nd, h1, h2, hk => by
    show bindC kindOf ((p, w) :: P.zip vs) m x = _
    unfold bindC
    exact bindC_get (i := i) (List.nodup_cons.mp nd).2 (by simpa using h1) (by simpa using h2) hk

/-- the names' values at the entry -/
def start (N : List Str) (vs : List V) : St := vs.map some ++ List.replicate (N.length - vs.length) none

/-- the context of a def's body, at its entry; an exception leaves the frame, then lies as CX says -/
def cxOfM (cm : Bool) (CX : CXT) (P : Program) (w : World) (K : PySem.W.Frag) (mg : Str → Option Value) (base : Heap) (N : List Str) (qual : Str) (scope : Scope) (f : Addr) (cd : Value) (A : Around) (outer : List Env) (s : Shared) (H : Hp) (E : XK) : Cx where
  prog := P
  w := w
  K := K
  mg := mg
  base := base
  A := A.deeper (envOfC qual scope s.heap.objs.size f cd)
  N := N
  s₀ := s
  H₀ := H
  env := envOfC qual scope s.heap.objs.size f cd
  outer := outer
  stack := envOfC qual scope s.heap.objs.size f cd :: outer
  ex := []
  calm := cm
  know := true
  fn := fun _ => true
  pn := []
  xe := fun e s' => wpAny (model P w) (A.deeper (envOfC qual scope s.heap.objs.size f cd)) (leaving (envOfC qual scope s.heap.objs.size f cd) e) (fun _ s'' => CX outer H s E e s'') (fun e' s'' => CX outer H s E e' s'') s'

abbrev cxOf (CX : CXT) (P : Program) (w : World) (K : PySem.W.Frag) (mg : Str → Option Value) (base : Heap) (N : List Str) (qual : Str) (scope : Scope) (f : Addr) (cd : Value) (A : Around) (outer : List Env) (s : Shared) (H : Hp) (E : XK) : Cx :=
  cxOfM true CX P w K mg base N qual scope f cd A outer s H E
theorem cell_has {sc : Scope} {n : Nat} {x : Str} (h : sc.names.lookup x = some .cell) : ∃ c, (cellsFrom n sc.names []).lookup x = some c := by
  have q := PySem.W.cellsFrom_some sc.names n [] (.inl h)
  exact Option.isSome_iff_exists.mp q

theorem inv_start {cm : Bool} {CX : CXT} {P : Program} {w : World} {K : PySem.W.Frag} {mg : Str → Option Value} {base : Heap} {N ps : List Str} {qual : Str} {scope : Scope} {f : Addr} {cd : Value} {A : Around} {outer : List Env} {s s1 : Shared} {H : Hp} {E : XK} {us : List Value} {vs : List V}
    (S : FnScope N ps scope) (hd : cm = true → A.handled = none) (hk : Knows A H) (e0 : Env0 P w K mg base A outer s H) (hl : vs.length = ps.length) (r : Vals vs us)
    (x : InCallC s s.heap.objs.size (bindL (envOfC qual scope s.heap.objs.size f cd).kindOf (ps.zip us) fun _ => none) (cellsFrom (s.heap.objs.size + 1) scope.names []) (bindC (envOfC qual scope s.heap.objs.size f cd).kindOf (ps.zip us) fun _ => none) s1) :
    Inv (cxOfM cm CX P w K mg base N qual scope f cd A outer s H E) [] (start N vs) H s1 := by
  have hpl : ps.length ≤ N.length := by have := congrArg List.length S.pre; rw [List.length_take] at this; omega
  obtain ⟨h1, tk, rfl, hkp⟩ := x.done
  have noA : ∀ b : Addr, b ∉ (cxOfM cm CX P w K mg base N qual scope f cd A outer s H E).ex := fun b z => absurd (show b ∈ ([] : List Addr) from z) (by simp)
  refine ⟨⟨e0.mod, S.kind, rfl, rfl, Nat.le_refl _, fun y z c h1 h2 => ?_, fun y hy => ?_, fun y c _ h => ?_, hd, fun _ => hk, Around.frames_deeper e0.frames, .inr ⟨rfl, rfl⟩, fun b z => absurd z (noA b), e0.bs, e0.bsz, fun b _ _ => noA b, fun b z => absurd z (noA b), e0.funs, e0.frf⟩,
    rfl, e0.bare, Un.kept hkp, ⟨_, x.toInCall.ns, fun i y v h1 h2 h3 => ?_⟩, fun y c h => ⟨_, x.cell y c h⟩, e0.hok.fresh (Nat.le_refl _), fun y c h => ?_, fun p hp => absurd (show p ∈ ([] : List (Addr × Obj)) from hp) (by simp), e0.hok.kept hkp, ?_⟩
  · exact name_of_addr x.apart (PySem.mem_of_lookup h1) (PySem.mem_of_lookup h2)
  · have hy : scope.names.lookup y = some .cell ∨ scope.names.lookup y = some .free := hy
    rcases hy with hy | hy
    · exact cell_has hy
    · exact absurd rfl (S.nofree _ (PySem.mem_of_lookup hy))
  · exact Nat.le_of_lt (x.above y c (PySem.mem_of_lookup h))
  · have hi : i < vs.length := by
      unfold start at h2
      by_cases hi : i < vs.length
      · exact hi
      · rw [List.getElem?_append_right (by simpa using hi)] at h2
        rw [List.getElem?_replicate] at h2
        split at h2 <;> cases h2
    have ha : vs[i]? = some v := by
      unfold start at h2
      rw [List.getElem?_append_left (by simpa using hi), List.getElem?_map] at h2
      cases e : vs[i]? with
      | none => rw [e] at h2; cases h2
      | some a => rw [e] at h2; cases h2; rfl
    obtain ⟨u, hu, rv⟩ := r.get ha
    have hp : ps[i]? = some y := by
      rw [← S.pre, List.getElem?_take_of_lt (by omega)]; exact h1
    have ndP : ps.Nodup := by rw [← S.pre]; exact S.nd.sublist (List.take_sublist _ _)
    refine ⟨u, rv, ?_⟩
    rcases S.par y (List.mem_of_getElem? hp) with k | k
    · exact .inl ⟨k, bindL_get ndP hp hu k⟩
    · obtain ⟨c, e⟩ := cell_has (n := s.heap.objs.size + 1) k
      refine .inr ⟨.inl k, c, e, ?_⟩
      have q := x.cell y c e
      rw [bindC_get ndP hp hu (by show scope.names.lookup y ≠ _; rw [k]; decide)] at q
      exact q
  · exact e0.hok.fresh (Nat.le_of_lt (x.above y c (PySem.mem_of_lookup h)))
  · unfold start
    show _ = N.length
    rw [List.length_append, List.length_map, List.length_replicate]
    omega

/-- THE RULE: a def (or a method) of the text, by its body. The body's reading t is chosen for each entry; it is run at the parameters' values -/
theorem fn_of {CX : CXT} {P : Program} {w : World} {K : PySem.W.Frag} {mg : Str → Option Value} {base : Heap} {k : Nat} {f : Addr} {name qual : Str} {params : Arguments} {body : List Stmt} {scope : Scope} {dV kV doc pm cdv ct oc : Value} {an od : Option Addr}
    {osl : Array (Option Value)} {N ps : List Str} {sp : Sp} (lk : K.lookup f = some ⟨oc, od, .func (PySem.W.fnOf name qual params body scope dV kV doc pm an cdv ct), osl⟩) (hcd : PySem.W.codeIn K cdv qual = true) (S : FnScope N ps scope)
    (len : ∀ vs H Q E, sp vs H Q E → vs.length = ps.length)
    (hbody : ∀ (A : Around) (outer : List Env) (s : Shared) (H : Hp) (vs : List V) (Q : VK) (E : XK), Room k (A.deeper (envOfC qual scope s.heap.objs.size f cdv)) → sp vs H Q E →
      ∃ t, PSs (cxOf CX P w K mg base N qual scope f cdv A outer s H E) body t ∧ t { nx := fun _ H' => Q .non H', rt := Q } (start N vs) H) :
    FnOk P w K mg base CX (k + 1) f (PySem.W.fnOf name qual params body scope dV kV doc pm an cdv ct) ps sp := by
  refine ⟨len, fun A outer s H args us vs Q E hr e0 hb r hsp => ?_⟩
  have hl := len _ _ _ _ hsp
  have KX : K.In s.heap := e0.mod.kin.keeps fun b o e => (e0.bs b o e).1
  have lim : s.heap.NoLimit := e0.mod.nolimit.keeps fun b o e => (e0.bs b o e).1
  have hkind : ∀ y ∈ ps.zip us, scope.names.lookup y.1 = some .local ∨ (scope.names.lookup y.1 = some .cell ∧ ((cellsFrom (s.heap.objs.size + 1) scope.names []).lookup y.1).isSome = true) := fun ⟨n, v⟩ hy => by
    rcases S.par n (List.of_mem_zip hy).1 with q | q
    · exact .inl q
    · exact .inr ⟨q, PySem.W.cellsFrom_some _ _ _ (.inl q)⟩
  refine codeAny_call_function hr.depth (KX _ _ lk) rfl S.co S.gen rfl (PySem.W.codeRec_of KX hcd) (hb _ _ _ _ ?_)
  refine wpAny_newFunctionEnv_cells S.kind hkind fun env he s1 x => ?_
  subst he
  refine ⟨lim.keeps x.toInCall.keep, codeAny_func ?_⟩
  obtain ⟨t, ht, hq⟩ := hbody A outer s H vs Q E (hr.deeper _) hsp
  have I : Inv (cxOf CX P w K mg base N qual scope f cdv A outer s H E) [] (start N vs) H s1 := inv_start S (fun _ => hr.hd) (.inl hr.hd) e0 hl r x
  refine wpAny_mono (ht [] s1 (start N vs) H _ I hq) (fun fl s' hs => ?_) fun e s' hs => hs
  have fin : ∀ {σ' : St} {H' : Hp} {v : V} {u : Value}, Inv (cxOf CX P w K mg base N qual scope f cdv A outer s H E) [] σ' H' s' → RelV v u → Q v H' → CE outer P w H s Q u s' :=
    fun {σ' H' v u} J rv q => ⟨v, H', J.os, J.bare, J.base, J.hok, rv, q⟩
  cases fl with
  | ret u =>
    obtain ⟨v, σ', H', J, rv, q⟩ := hs
    exact fin J rv q
  | next =>
    obtain ⟨σ', H', J, q⟩ := hs
    exact fin (v := V.non) (u := Value.none) J rfl q
  | brk =>
    obtain ⟨_, _, _, q⟩ := hs
    exact False.elim q
  | cont =>
    obtain ⟨_, _, _, q⟩ := hs
    exact False.elim q
end L2

namespace L2
open PySem PySem.Spec PyProof.Rows
section
variable {X : Cx} {x : Str} {p pos : Pos} {e : Expr} {es : List Expr} {t : TA} {id T : String} {r : List V → Hp → VK → Prop}

def tCB (r : List V → Hp → VK → Prop) (t : TA) : TE := fun σ H Q => t σ H fun vs H1 => r vs H1 Q
/-- f(e, ..), f a built-in function -/
theorem pe_callB (hc : CallR X (.builtin id) r) (hg : Gl X x) (hm : X.mg x = none) (hv : bootBuiltins x = some (.builtin id)) (ha : PA X (e :: es) t) (hn : x ≠ "__name__" := by decide) (hdb : (x == ("__debug__" : Str)) = false := by decide)
    (he : starEach (e :: es) X.env = (false, eval e X.env) :: starEach es X.env := by rfl) (hpl : (backTo pos (starEach es X.env)).any (·.1) = false := by rfl) : PE X (.Call (.Name x p) (e :: es) [] pos) (tCB r t) := by
  intro pins s σ H Q I h
  refine wpAny_Call_Name_kw (ld_blt I hg hm hv ?_ hn hdb)
  exact PyProof.Rows.callWith_builtin1 (thn (ha pos pins s σ H _ I h) fun us s1 ⟨vs, H1, I1, r1, q1⟩ => hc pins s1 σ H1 vs us Q I1 r1 q1) he hpl
/-- T(e, ..), T a built-in type -/
theorem pe_callTy (hc : CallR X (.type T) r) (hg : Gl X x) (hm : X.mg x = none) (hv : bootBuiltins x = some (.type T)) (ha : PA X (e :: es) t) (hn : x ≠ "__name__" := by decide) (hdb : (x == ("__debug__" : Str)) = false := by decide)
    (he : starEach (e :: es) X.env = (false, eval e X.env) :: starEach es X.env := by rfl) (hpl : (backTo pos (starEach es X.env)).any (·.1) = false := by rfl) : PE X (.Call (.Name x p) (e :: es) [] pos) (tCB r t) := by
  intro pins s σ H Q I h
  refine wpAny_Call_Name_kw (ld_blt I hg hm hv ?_ hn hdb)
  exact PyProof.Rows.callWith_type1 (thn (ha pos pins s σ H _ I h) fun us s1 ⟨vs, H1, I1, r1, q1⟩ => hc pins s1 σ H1 vs us Q I1 r1 q1) he hpl
end
end L2

namespace HT
open PySem PyProof.Rows

/-- t < u of tuples of ints -/
def lexLt : List Int → List Int → Bool
  | [], [] => false
  | [], _ :: _ => true
  | _ :: _, [] => false
  | x :: xs, y :: ys => if x = y then lexLt xs ys else decide (x < y)
section
open PySem.SeqAt
open PySem.AutoSeq1 (wpAny_loadPart')
open PySem.MeetsSeq PySem.MeetsSeq2 PySem.MeetsSeq3

end

section
variable {prog : Program} {w : World} {A : Around} {E : Value → Shared → Prop} {s : Shared}

/-! ### t[a:b], not the whole -/
/-- a slice's bound as a place among n (d where it is left out) -/
def sIx (n d : Nat) : Option Int → Nat
  | none => d
  | some v => if v < 0 then (v + (n : Int)).toNat else min v.toNat n
theorem sIx_none (n d : Nat) : sIx n d none = d := rfl
theorem sIx_nat (n d k : Nat) : sIx n d (some (k : Int)) = min k n := by
  show (if (k : Int) < 0 then ((k : Int) + (n : Int)).toNat else min (k : Int).toNat n) = min k n
  rw [if_neg (by omega), Int.toNat_natCast]
end
end HT

namespace L2
open PySem PySem.Spec PyProof.Rows

/-! ### the parts of a slice -/
abbrev TO := St → Hp → (Option Int → Hp → Prop) → Prop
/-- a slice's part (left out, or an int) -/
def PO (X : Cx) (e : Option Expr) (t : TO) : Prop :=
  ∀ (pins : List (Addr × Obj)) (s : Shared) (σ : St) (H : Hp) (Q : Option Int → Hp → Prop), Inv X pins σ H s → t σ H Q →
    wpAny (model X.prog X.w) X.A (evalPart e X.env) (fun u s' => ∃ o H', Inv X pins σ H' s' ∧ IsPart u o ∧ Q o H') X.xe s
def tNoPart : TO := fun _ H Q => Q none H
def tPart (t : TE) : TO := fun σ H Q => t σ H fun x H1 => ∃ i, x = .int i ∧ Q (some i) H1

theorem intsAre_of {ns : List Int} : ∀ {us : List Value}, Vals (ns.map V.int) us → IntsAre us ns := by
  induction ns with
  | nil => intro us r; rw [List.map_nil] at r; cases r; exact .nil
  | cons n ns ih =>
    intro us r
    rw [List.map_cons] at r
    cases r with
    | cons r1 r2 =>
      obtain ⟨t, e⟩ := r1
      subst e
      exact .cons n t (ih r2)

section
variable {X : Cx} {e : Expr} {te : TE} {lo hi : Option Expr} {tl th : TO} {pos p2 : Pos}

theorem po_none : PO X none tNoPart := by
  intro pins s σ H Q I h
  rw [evalPart_none]
  exact wpAny_pure ⟨none, H, I, .none, h⟩
theorem po_some (h : PE X e te) : PO X (some e) (tPart te) := by
  intro pins s σ H Q I hw
  rw [evalPart_some]
  refine thn (h pins s σ H _ I hw) fun u s1 ⟨x, H1, I1, r1, q1⟩ => ?_
  obtain ⟨i, rfl, q⟩ := q1
  obtain ⟨t, rfl⟩ := r1
  exact ⟨some i, H1, I1, .int i t, q⟩

/-- what a slice of a value is, by values: the slice object stands at sl -/
def SlR (X : Cx) (r : V → Option Int → Option Int → Hp → VK → Prop) : Prop :=
  ∀ (pins : List (Addr × Obj)) (s : Shared) (σ : St) (H : Hp) (x : V) (v vl vu : Value) (lo hi : Option Int) (sl : Addr) (Q : VK), Inv X pins σ H s → RelV x v → s.heap.IsSliceOf sl vl vu .none → IsPart vl lo → IsPart vu hi → r x lo hi H Q →
    ∃ T id, typeLookup (.type T) "__getitem__" = pure (some (.builtin id)) ∧ s.TypeIs v T ∧ wpAny (model X.prog X.w) X.A (getItem v (.ref sl)) (EP X pins σ Q) X.xe s
def tSl (r : V → Option Int → Option Int → Hp → VK → Prop) (te : TE) (tl th : TO) : TE := fun σ H Q => te σ H fun x H1 => tl σ H1 fun l H2 => th σ H2 fun u H3 => r x l u H3 Q
/-- a[lo:hi], any a -/
theorem pe_slice {r : V → Option Int → Option Int → Hp → VK → Prop} (hr : SlR X r) (he : PE X e te) (hl : PO X lo tl) (hu : PO X hi th) : PE X (.Subscript e (.Slice lo hi none p2) pos) (tSl r te tl th) := by
  intro pins s σ H Q I h
  refine Subscript_ (thn (he pins s σ H _ I h) fun v s1 ⟨x, H1, I1, r1, q1⟩ => ?_)
  refine wpAny_Slice (thn (hl pins s1 σ H1 _ I1 q1) fun vl s2 ⟨l, H2, I2, pl, q2⟩ => thn (hu pins s2 σ H2 _ I2 q2) fun vu s3 ⟨u, H3, I3, pu, q3⟩ => ?_)
  rw [evalPart_none]
  refine wpAny_pure ?_
  have I4 : Inv X pins σ H3 { s3 with heap := s3.heap.push { cls := .type "slice", data := .fields #[vl, vu, .none] } } := I3.kept (t' := s3.toks) fun b ob q => Heap.get?_push_of_some _ q
  obtain ⟨T, id, hT, ht, hg⟩ := hr pins { s3 with heap := s3.heap.push { cls := .type "slice", data := .fields #[vl, vu, .none] } } σ H3 x v vl vu l u s3.heap.objs.size Q I4 r1 (Heap.IsSliceOf.new ..) pl pu q3
  show wpAny (model X.prog X.w) X.A (subscriptTail e (.Slice lo hi none p2) v (.ref s3.heap.objs.size)) (EP X pins σ Q) X.xe { s3 with heap := s3.heap.push { cls := .type "slice", data := .fields #[vl, vu, .none] } }
  exact tail_any (ops := [.ref s3.heap.objs.size, v]) ht hT hg (by with_unfolding_all rfl)

/-- the items of xs[lo:hi] -/
def cutV (xs : List V) (lo hi : Option Int) : List V := (xs.drop (HT.sIx xs.length 0 lo)).take (HT.sIx xs.length xs.length hi - HT.sIx xs.length 0 lo)
theorem cutV_length (xs : List V) (lo hi : Option Int) : (cutV xs lo hi).length ≤ xs.length := by
  unfold cutV
  rw [List.length_take, List.length_drop]
  omega
/-- t[lo:hi], not the whole of it (the whole would be t itself) -/
def rSlT (K : PySem.W.Frag) : V → Option Int → Option Int → Hp → VK → Prop := fun x lo hi H Q => ∃ a xs, x = .ref a ∧ SqT K H a xs ∧
  ¬ (HT.sIx xs.length 0 lo = 0 ∧ HT.sIx xs.length xs.length hi = xs.length) ∧ ∀ p, H p = none → Q (.ref p) (upd H p (.tup (cutV xs lo hi)))
/-! ### t < u, t + u -/
def rLtT (K : PySem.W.Frag) : R2 := fun x y H Q => ∃ a b ns ms, x = .ref a ∧ y = .ref b ∧ SqT K H a (ns.map V.int) ∧ SqT K H b (ms.map V.int) ∧ Q (.bl (HT.lexLt ns ms)) H
/-- t + u, t not empty: u empty gives t itself -/
def rCatT (K : PySem.W.Frag) : R2 := fun x y H Q => ∃ a b xs ys, x = .ref a ∧ y = .ref b ∧ SqT K H a xs ∧ SqT K H b ys ∧ xs ≠ [] ∧ xs.length + ys.length ≤ sizeLine ∧
  (ys = [] → Q (.ref a) H) ∧ (ys ≠ [] → ∀ p, H p = none → Q (.ref p) (upd H p (.tup (xs ++ ys))))
end
end L2

namespace L2
open PySem PySem.Spec PyProof.Rows

/-! ### places -/
/-- the place that an index of any sign means -/
def ixN (n : Nat) (i : Int) : Option Nat := if 0 ≤ i then (if i < n then some i.toNat else none) else if -(n : Int) ≤ i then some (i + n).toNat else none
def atI {α : Type} (xs : List α) (i : Int) : Option α := (ixN xs.length i).bind fun j => xs[j]?
theorem ixN_seq {n : Nat} {i : Int} {j : Nat} (h : ixN n i = some j) : seqIndex? i n = some j ∧ j < n ∧ -(n : Int) ≤ i ∧ i < n := by
  unfold ixN at h
  by_cases h0 : 0 ≤ i
  · rw [if_pos h0] at h
    by_cases h1 : i < n
    · rw [if_pos h1] at h
      have e : i.toNat = j := Option.some.inj h
      exact ⟨by rw [seqIndex_of h0 h1, e], by omega, by omega, h1⟩
    · rw [if_neg h1] at h; cases h
  · rw [if_neg h0] at h
    by_cases h1 : -(n : Int) ≤ i
    · rw [if_pos h1] at h
      have e : (i + n).toNat = j := Option.some.inj h
      exact ⟨by rw [seqIndex_neg (by omega) h1, e], by omega, h1, by omega⟩
    · rw [if_neg h1] at h; cases h
theorem atI_get {α : Type} {xs : List α} {i : Int} {v : α} (h : atI xs i = some v) : ∃ j, seqIndex? i xs.length = some j ∧ xs[j]? = some v ∧ j < xs.length ∧ -(xs.length : Int) ≤ i ∧ i < xs.length := by
  unfold atI at h
  cases e : ixN xs.length i with
  | none => rw [e] at h; cases h
  | some j =>
    rw [e] at h
    obtain ⟨h1, h2, h3, h4⟩ := ixN_seq e
    exact ⟨j, h1, h, h2, h3, h4⟩
theorem atI_nat {α : Type} {xs : List α} {j : Nat} {v : α} (h : xs[j]? = some v) : atI xs (j : Int) = some v := by
  have hj : j < xs.length := (List.getElem?_eq_some_iff.mp h).1
  have e : ixN xs.length (j : Int) = some j := by
    unfold ixN
    rw [if_pos (by omega), if_pos (by omega)]; simp
  unfold atI; rw [e]; exact h
/-! ### what may be subscripted -/
/-- what stands as an index of a plain subscript -/
def PlainIx (b : Expr) : Prop := ∀ o i, subscripted b false o i = operate [o, i] (getItem o i)
/-- a subscript by values -/
def IxR (X : Cx) (r : R2) : Prop :=
  ∀ (value slice : Expr) (pins : List (Addr × Obj)) (s : Shared) (σ : St) (H : Hp) (x y : V) (v u : Value) (Q : VK), Inv X pins σ H s → RelV x v → RelV y u → r x y H Q →
    subscripted slice false v u = operate [v, u] (getItem v u) → wpAny (model X.prog X.w) X.A (subscriptTail value slice v u) (EP X pins σ Q) X.xe s
/-- a call of a builtin's method by values: the receiver, the arguments -/
def MtR (X : Cx) (id : String) (r : V → List V → Hp → VK → Prop) : Prop :=
  ∀ (pins : List (Addr × Obj)) (s : Shared) (σ : St) (H : Hp) (x : V) (xs : List V) (v : Value) (us : List Value) (Q : VK), Inv X pins σ H s → RelV x v → Vals xs us → r x xs H Q →
    wpAny (model X.prog X.w) X.A (call (.builtin id) (v :: us)) (EP X pins σ Q) X.xe s
section
variable {X : Cx} {a b : Expr} {ta tb : TE} {pos : Pos}
/-- a[b] -/
theorem pe_ix {r : R2} (hr : IxR X r) (ha : PE X a ta) (hb : PE X b tb) (hs : PlainIx b) : PE X (.Subscript a b pos) (tOp r ta tb) := by
  intro pins s σ H Q I h
  exact Subscript_ (binT ha hb I h fun v u s2 x y H2 I2 rx ry q => hr a b pins s2 σ H2 x y v u Q I2 rx ry q (hs _ _))

def rIxL (K : PySem.W.Frag) : R2 := fun x y H Q => ∃ p xs i v, x = .ref p ∧ y = .int i ∧ SqL K H p xs ∧ atI xs i = some v ∧ Q v H
def rIxT (K : PySem.W.Frag) : R2 := fun x y H Q => ∃ p xs i v, x = .ref p ∧ y = .int i ∧ SqT K H p xs ∧ atI xs i = some v ∧ Q v H
def rIxS : R2 := fun x y H Q => ∃ z i c, x = .str z ∧ y = .int i ∧ z.length ≤ sizeLine ∧ atI z.cps.toList i = some c ∧ Q (.str ⟨#[c]⟩) H
theorem ix_list : IxR X (rIxL X.K) := by
  intro value slice pins s σ H x y v u Q I rx ry h hs
  obtain ⟨p, xs, i, z, rfl, rfl, hq, he, q⟩ := h
  cases rx
  obtain ⟨t, rfl⟩ := ry
  obtain ⟨its, r, pl, hz⟩ := I.list hq
  obtain ⟨j, h1, h2, h3, h4, h5⟩ := atI_get he
  obtain ⟨w, ew, rw'⟩ := r.get h2
  have hl := r.length
  have hn := line63
  have fin : EP X pins σ Q w s := ⟨z, H, I, rw', q⟩
  by_cases h0 : 0 ≤ i
  · have hj : i.toNat = j := by
      rw [seqIndex_of h0 h5] at h1
      exact Option.some.inj h1
    exact item_listR pl.isList h0 (by omega) (by rw [hj]; simpa using ew) fin hs
  · have hj : (i + (its.toArray.size : Int)).toNat = j := by
      rw [seqIndex_neg (by omega) h4] at h1
      rw [List.size_toArray, ← hl]
      exact Option.some.inj h1
    exact subscriptTail_builtinR (x := w) pl.isList.typeIs slot_list_getitem.lookup
      (wpAny_getItem_list_neg (Q := fun r s' => r = w ∧ EP X pins σ Q r s') pl.isList (by omega) (by rw [List.size_toArray] <;> omega) (by omega) (by rw [hj]; simpa using ew) ⟨rfl, fin⟩) hs
theorem ix_tup : IxR X (rIxT X.K) := by
  intro value slice pins s σ H x y v u Q I rx ry h hs
  obtain ⟨p, xs, i, z, rfl, rfl, hq, he, q⟩ := h
  cases rx
  obtain ⟨t, rfl⟩ := ry
  obtain ⟨its, r, pl, hz⟩ := I.tuple hq
  obtain ⟨j, h1, h2, h3, h4, h5⟩ := atI_get he
  obtain ⟨w, ew, rw'⟩ := r.get h2
  have hl := r.length
  have hn := line63
  have fin : EP X pins σ Q w s := ⟨z, H, I, rw', q⟩
  exact subscriptTail_builtinR (x := w) pl.typeIs slot_tuple_getitem.lookup
    (getItem_tuple (j := j) (Q := fun r s' => r = w ∧ EP X pins σ Q r s') pl (by omega) (by omega) (by rw [List.size_toArray, ← hl]; exact h1) (by simpa using ew) ⟨rfl, fin⟩) hs
/-- list, tuple or str -/
def rIx (K : PySem.W.Frag) : R2 := fun x y H Q => rIxL K x y H Q ∨ rIxT K x y H Q ∨ rIxS x y H Q
/-! ### xs[i] = v, any sign -/
/-- the list's object behind a store -/
theorem mapSeq_set (its : List Value) (n j : Nat) (u : Value) : Obj.mapSeq (·.setIfInBounds j u) { cls := .type "list", data := .seq its.toArray n } = { cls := .type "list", data := .seq (its.set j u).toArray n } := by
  simp [Obj.mapSeq]
theorem Inv.lst {pins : List (Addr × Obj)} {σ : St} {H : Hp} {s : Shared} {p : Addr} {xs : List V} (I : Inv X pins σ H s) (h : H p = some (.lst xs)) :
    ∃ (its : List Value) (n : Nat), Vals xs its ∧ s.heap.get? p = some { cls := .type "list", data := .seq its.toArray n } ∧ xs.length ≤ sizeLine := by
  obtain ⟨z, its, n, r, e⟩ := I.hok p _ h
  exact ⟨its, n, r, e, z⟩
/-- the list at p is written by an update of its object -/
theorem Inv.lstUpd {pins : List (Addr × Obj)} {σ : St} {H : Hp} {s : Shared} {p : Addr} {xs ys : List V} {its its' : List Value} {n n' : Nat} {f : Obj → Obj} (I : Inv X pins σ H s) (h : H p = some (.lst xs))
    (ho : s.heap.get? p = some { cls := .type "list", data := .seq its.toArray n }) (hf : f { cls := .type "list", data := .seq its.toArray n } = { cls := .type "list", data := .seq its'.toArray n' }) (r : Vals ys its') (hz : ys.length ≤ sizeLine) (t : Nat) :
    Inv X pins σ (upd H p (.lst ys)) { s with heap := s.heap.update p f, toks := t } := by
  have e : (s.heap.update p f).get? p = some { cls := .type "list", data := .seq its'.toArray n' } := by
    rw [Heap.get?_update_self f ho (by rw [hf] <;> rfl), hf]
  refine I.write (x := p) (e := p) (by rw [h]; trivial) (.inl rfl) (fun b u hb q => (Heap.get?_update_other _ _ (Ne.symm hb)).trans q) ⟨_, e⟩ ?_
  exact ⟨hz, its', n', r, e⟩
def rSetL : V → V → V → Hp → (Hp → Prop) → Prop := fun o i v H Q => ∃ p xs k j, o = .ref p ∧ i = .int k ∧ H p = some (.lst xs) ∧ ixN xs.length k = some j ∧ Q (upd H p (.lst (xs.set j v)))
theorem set_list : PSet X rSetL := by
  intro pins s σ H o i v ov iv u Q I ro ri rv h
  obtain ⟨p, xs, k, j, rfl, rfl, hp, hj, q⟩ := h
  cases ro
  obtain ⟨t, rfl⟩ := ri
  obtain ⟨its, n, r, ho, hz⟩ := I.lst hp
  obtain ⟨h1, h2, h3, h4⟩ := ixN_seq hj
  have hl := r.length
  have hn := line63
  have I' : Inv X pins σ (upd H p (.lst (xs.set j v))) { s with heap := s.heap.update p (Obj.mapSeq (·.setIfInBounds j u)) } :=
    I.lstUpd hp ho (mapSeq_set its n j u) (r.set rv j) (by rw [List.length_set]; exact hz) s.toks
  by_cases h0 : 0 ≤ k
  · have hk : k.toNat = j := by
      rw [seqIndex_of h0 h4] at h1
      exact Option.some.inj h1
    exact PySem.W.ki_setAt ho h0 (by omega) (by rw [List.size_toArray, ← hl]; exact h4) (by rw [hk]; exact ⟨_, I', q⟩)
  · have hk : (k + (its.toArray.size : Int)).toNat = j := by
      rw [seqIndex_neg (by omega) h3] at h1
      rw [List.size_toArray, ← hl]
      exact Option.some.inj h1
    exact PySem.W.ki_setBack ho (by omega) (by rw [List.size_toArray, ← hl]; exact h3) (by omega) (by rw [hk]; exact ⟨_, I', q⟩)

/-! ### slices -/
theorem slice_bounds (lo hi : Option Int) (n : Nat) : (sliceBounds lo hi none n).1 = ((HT.sIx n 0 lo : Nat) : Int) ∧ (sliceBounds lo hi none n).2.1 = ((HT.sIx n n hi : Nat) : Int) ∧ (sliceBounds lo hi none n).2.2 = 1 := by
  refine ⟨?_, ?_, rfl⟩
  · cases lo with
    | none => simp [sliceBounds, HT.sIx]
    | some i =>
      simp only [sliceBounds, HT.sIx, Option.getD_none, show (1 : Int) > 0 by decide, if_true]
      by_cases h : i < 0
      · simp only [h, if_true] <;> omega
      · simp only [h, if_false] <;> omega
  · cases hi with
    | none => simp [sliceBounds, HT.sIx]
    | some i =>
      simp only [sliceBounds, HT.sIx, Option.getD_none, show (1 : Int) > 0 by decide, if_true]
      by_cases h : i < 0
      · simp only [h, if_true] <;> omega
      · simp only [h, if_false] <;> omega
theorem slicePick_cut (its : List Value) (lo hi : Option Int) : slicePick its.toArray lo hi none = ((its.drop (HT.sIx its.length 0 lo)).take (HT.sIx its.length its.length hi - HT.sIx its.length 0 lo)).toArray := by
  obtain ⟨h1, h2, h3⟩ := slice_bounds lo hi its.toArray.size
  unfold slicePick
  rw [h1, h2, h3]
  simp only [sliceRange_one, pick_run, List.size_toArray] <;> rfl
/-- xs[lo:hi] of a list: a new list -/
def rSlL (K : PySem.W.Frag) : V → Option Int → Option Int → Hp → VK → Prop := fun x lo hi H Q => ∃ a xs, x = .ref a ∧ SqL K H a xs ∧ ∀ p, H p = none → Q (.ref p) (upd H p (.lst (cutV xs lo hi)))
theorem sl_list : SlR X (rSlL X.K) := by
  intro pins s σ H x v vl vu lo hi sl Q I rx hs pl pu h
  obtain ⟨a, xs, rfl, hx, q⟩ := h
  cases rx
  obtain ⟨its, r, ht, hz⟩ := I.list hx
  have hlen := r.length
  refine ⟨"list", _, slot_list_getitem.lookup, ht.isList.typeIs, ?_⟩
  refine wpAny_getItem_list_slice ht.isList hs pl pu .none (by simp) ?_ (by rw [List.size_toArray] <;> omega)
  rw [slicePick_cut, ← hlen]
  refine ⟨.ref s.heap.objs.size, _, I.laid (t' := s.toks) (o := .lst (cutV xs lo hi)) (fun b ob q => Heap.get?_push_of_some _ q) (Nat.le_refl _) ?_, rfl, q _ (I.hok.fresh (Nat.le_refl _))⟩
  exact ⟨Nat.le_trans (cutV_length xs lo hi) hz, _, 0, (r.drop (HT.sIx xs.length 0 lo)).take (HT.sIx xs.length xs.length hi - HT.sIx xs.length 0 lo), Heap.get?_push_size _ rfl⟩

/-! ### in, not in: flat items -/
def flatV : V → Bool
  | .non => true
  | .bl _ => true
  | .int _ => true
  | .str _ => true
  | _ => false
/-- == of flat values -/
def eqV : V → V → Bool
  | .non, .non => true
  | .bl a, .bl b => a == b
  | .bl a, .int b => (if a then 1 else 0) == b
  | .int a, .bl b => a == (if b then 1 else 0)
  | .int a, .int b => a == b
  | .str a, .str b => a == b
  | _, _ => false
theorem eqAt_V {A : Around} {s : Shared} {y x : V} {u v : Value} (ry : RelV y u) (rx : RelV x v) (fy : flatV y = true) (fx : flatV x = true) : SeqAt.EqAt A s u v (eqV y x) := by
  cases y with
  | non =>
    cases ry
    cases x with
    | non => cases rx; exact SeqAt.EqAt.same _
    | bl b => cases rx; exact SeqAt.EqAt.none_bool b
    | int b => obtain ⟨t, rfl⟩ := rx; exact SeqAt.EqAt.none_int b t
    | str b => obtain ⟨t, rfl⟩ := rx; exact SeqAt.EqAt.none_str b t
    | _ => exact absurd (show false = true from fx) Bool.false_ne_true
  | bl a =>
    cases ry
    cases x with
    | non => cases rx; exact SeqAt.EqAt.bool_none a
    | bl b => cases rx; exact SeqAt.EqAt.bool_bool a b
    | int b => obtain ⟨t, rfl⟩ := rx; exact SeqAt.EqAt.bool_int a b t
    | str b => obtain ⟨t, rfl⟩ := rx; exact SeqAt.EqAt.bool_str a b t
    | _ => exact absurd (show false = true from fx) Bool.false_ne_true
  | int a =>
    obtain ⟨t', rfl⟩ := ry
    cases x with
    | non => cases rx; exact SeqAt.EqAt.int_none a t'
    | bl b => cases rx; exact SeqAt.EqAt.int_bool a t' b
    | int b => obtain ⟨t, rfl⟩ := rx; exact SeqAt.EqAt.int_int a t' b t
    | str b => obtain ⟨t, rfl⟩ := rx; exact SeqAt.EqAt.int_str a t' b t
    | _ => exact absurd (show false = true from fx) Bool.false_ne_true
  | str a =>
    obtain ⟨t', rfl⟩ := ry
    cases x with
    | non => cases rx; exact SeqAt.EqAt.str_none a t'
    | bl b => cases rx; exact SeqAt.EqAt.str_bool a t' b
    | int b => obtain ⟨t, rfl⟩ := rx; exact SeqAt.EqAt.str_int a t' b t
    | str b => obtain ⟨t, rfl⟩ := rx; exact SeqAt.EqAt.str_str a t' b t
    | _ => exact absurd (show false = true from fx) Bool.false_ne_true
  | _ => exact absurd (show false = true from fy) Bool.false_ne_true
/-- the items' answers, read off the values (a value's own answer does not lean on its token) -/
def eqU (x : V) (u : Value) : Bool := match u with
  | .none => eqV .non x
  | .bool b => eqV (.bl b) x
  | .int i _ => eqV (.int i) x
  | .str z _ => eqV (.str z) x
  | _ => false
theorem eqU_of {x y : V} {u : Value} (r : RelV y u) (f : flatV y = true) : eqU x u = eqV y x := by
  cases y with
  | non => cases r; rfl
  | bl b => cases r; rfl
  | int i => obtain ⟨t, rfl⟩ := r; rfl
  | str z => obtain ⟨t, rfl⟩ := r; rfl
  | _ => exact absurd (show false = true from f) Bool.false_ne_true
theorem any_eqU {x : V} : ∀ {xs : List V} {us : List Value}, Vals xs us → xs.all flatV = true → us.any (eqU x) = xs.any fun y => eqV y x
  | _, _, .nil, _ => rfl
  | y :: xs, u :: us, .cons r t, f => by
    rw [List.all_cons, Bool.and_eq_true] at f
    rw [List.any_cons, List.any_cons, eqU_of r f.1, any_eqU t f.2]
theorem mem_eqAt {A : Around} {s : Shared} {x : V} {v : Value} (rx : RelV x v) (fx : flatV x = true) : ∀ {xs : List V} {us : List Value}, Vals xs us → xs.all flatV = true → ∀ u ∈ us, SeqAt.EqAt A s u v (eqU x u)
  | _, _, .nil, _ => fun u hu => by cases hu
  | y :: xs, u :: us, .cons r t, f => fun u' hu => by
    rw [List.all_cons, Bool.and_eq_true] at f
    rcases List.mem_cons.mp hu with rfl | hu
    · rw [eqU_of r f.1]; exact eqAt_V r rx f.1 fx
    · exact mem_eqAt rx fx t f.2 u' hu
def inV (x : V) (xs : List V) : Bool := xs.any fun y => eqV y x
/-- x in a list or tuple of flat items -/
def rIn (K : PySem.W.Frag) (neg : Bool) : R2 := fun x y H Q => ∃ p xs, y = .ref p ∧ (SqL K H p xs ∨ SqT K H p xs) ∧ flatV x = true ∧ xs.all flatV = true ∧ Q (.bl (if neg then !inV x xs else inV x xs)) H
theorem op_in_seq : OpR X (compareOp .In) (rIn X.K false) := by
  intro pins s σ H x y v u Q I rx ry h
  obtain ⟨p, xs, rfl, hq, fx, fs, q⟩ := h
  cases ry
  rcases hq with hq | hq
  · obtain ⟨its, r, pl, hz⟩ := I.list hq
    refine SeqAt.in_listAt (eqU x) pl.isList (fun w hw => mem_eqAt rx fx r fs w (by simpa using hw)) ⟨.bl _, H, I, rfl, ?_⟩
    rw [show its.toArray.any (eqU x) = its.any (eqU x) by simp, any_eqU r fs]
    exact q
  · obtain ⟨its, r, pl, hz⟩ := I.tuple hq
    refine SeqAt.in_tupleAt (eqU x) pl (fun w hw => mem_eqAt rx fx r fs w (by simpa using hw)) ⟨.bl _, H, I, rfl, ?_⟩
    rw [show its.toArray.any (eqU x) = its.any (eqU x) by simp, any_eqU r fs]
    exact q
/-! ### len, list(x), tuple(x) of any list or tuple that is read -/
theorem call_len_seq : CallR X (.builtin "len") (fun xs H Q => ∃ p ys, xs = [.ref p] ∧ (SqL X.K H p ys ∨ SqT X.K H p ys) ∧ Q (.int ys.length) H) := by
  intro pins s σ H xs us Q I r h
  obtain ⟨p, ys, rfl, hq, q⟩ := h
  obtain ⟨u, rfl, rx⟩ := vals1 r
  cases rx
  have hn := line63
  rcases hq with hq | hq
  · obtain ⟨its, r', pl, hz⟩ := I.list hq
    have hlen := r'.length
    exact Calls.call_len_list pl.isList (by simp only [List.size_toArray] <;> omega) ⟨.int ys.length, H, I.tok _, ⟨s.toks + 1, by rw [List.size_toArray, hlen]⟩, q⟩
  · obtain ⟨its, r', pl, hz⟩ := I.tuple hq
    have hlen := r'.length
    exact len_tuple pl (by simp only [List.size_toArray] <;> omega) ⟨.int ys.length, H, I.tok _, ⟨s.toks + 1, by rw [List.size_toArray, hlen]⟩, q⟩
theorem call_list_of : CallR X (.type "list") (fun xs H Q => ∃ p ys, xs = [.ref p] ∧ (SqL X.K H p ys ∨ SqT X.K H p ys) ∧ ∀ l, H l = none → Q (.ref l) (upd H l (.lst ys))) := by
  intro pins s σ H xs us Q I r h
  obtain ⟨p, ys, rfl, hq, q⟩ := h
  obtain ⟨u, rfl, rx⟩ := vals1 r
  cases rx
  have fin : ∀ (its : List Value), Vals ys its → ys.length ≤ sizeLine → ∀ (h' : Heap) (c' : Nat), (∀ b o', s.heap.get? b = some o' → h'.get? b = some o') →
      h'.get? s.heap.objs.size = some { cls := .type "list", dict := none, data := .seq its.toArray c', slots := #[] } → EP X pins σ Q (.ref s.heap.objs.size) { s with heap := h' } := fun its r' hz h' c' kp e =>
    ⟨.ref s.heap.objs.size, _, I.laid (t' := s.toks) kp (Nat.le_refl _) (show ObjOk X.prog X.w _ h' _ (.lst ys) from ⟨hz, its, c', r', e⟩), rfl, q _ (I.hok.fresh (Nat.le_refl _))⟩
  rcases hq with hq | hq
  · obtain ⟨its, r', pl, hz⟩ := I.list hq
    have hlen := r'.length
    obtain ⟨o, ho, hc, n, hd⟩ := pl.isList
    exact call_list_seq p (.inl rfl) ho hc hd (fun h' c' kp e => fin its r' hz h' c' kp e) (by simp only [List.size_toArray] <;> omega)
  · obtain ⟨its, r', pl, hz⟩ := I.tuple hq
    have hlen := r'.length
    obtain ⟨o, ho, hc, n, hd⟩ := pl
    exact call_list_seq p (.inr rfl) ho hc hd (fun h' c' kp e => fin its r' hz h' c' kp e) (by simp only [List.size_toArray] <;> omega)
theorem call_tuple_of : CallR X (.type "tuple") (fun xs H Q => ∃ p ys, xs = [.ref p] ∧ ((SqL X.K H p ys ∧ ∀ l, H l = none → Q (.ref l) (upd H l (.tup ys))) ∨ (SqT X.K H p ys ∧ Q (.ref p) H))) := by
  intro pins s σ H xs us Q I r h
  obtain ⟨p, ys, rfl, h⟩ := h
  obtain ⟨u, rfl, rx⟩ := vals1 r
  cases rx
  rcases h with ⟨hq, q⟩ | ⟨hq, q⟩
  · obtain ⟨its, r', pl, hz⟩ := I.list hq
    have hlen := r'.length
    refine call_tuple_list pl.isList (fun h' kp => ?_) (by simp only [List.size_toArray] <;> omega)
    have I1 : Inv X pins σ H { s with heap := h' } := I.kept (t' := s.toks) kp
    have I2 : Inv X pins σ (upd H h'.objs.size (.tup ys)) { s with heap := h'.push { cls := .type "tuple", data := .seq its.toArray } } :=
      I1.laid (t' := s.toks) (fun b o e => Heap.get?_push_of_some _ e) (Nat.le_refl _) (show ObjOk X.prog X.w _ _ _ (.tup ys) from ⟨hz, its, r', IsTup.new _ _⟩)
    exact ⟨.ref h'.objs.size, _, I2, rfl, q _ (I1.hok.fresh (Nat.le_refl _))⟩
  · obtain ⟨its, r', pl, hz⟩ := I.tuple hq
    exact call_tuple_same pl ⟨.ref p, H, I, rfl, q⟩

/-! ### the call of a builtin's method: o.m(..) -/
/-- the value is of that builtin type -/
def tyV (K : PySem.W.Frag) (T : String) (x : V) (H : Hp) : Prop := match x with
  | .str _ => T = "str"
  | .int _ => T = "int"
  | .ref p => (T = "list" ∧ ∃ xs, SqL K H p xs) ∨ (T = "tuple" ∧ ∃ o, K.lookup p = some o ∧ o.cls = .type "tuple" ∧ o.dict = none) ∨
      (T = "dict" ∧ ((∃ kvs, H p = some (.dK kvs)) ∨ ∃ kvs, H p = some (.dT kvs))) ∨ (T = "set" ∧ ∃ S n, H p = some (.set S n))
  | _ => False
theorem tyV_is {pins : List (Addr × Obj)} {σ : St} {H : Hp} {s : Shared} {T : String} {x : V} {v : Value} (I : Inv X pins σ H s) (r : RelV x v) (ty : tyV X.K T x H) :
    s.TypeIs v T ∧ ∀ a, v = .ref a → ∃ ob, s.heap.get? a = some ob ∧ ob.dict = none := by
  cases x with
  | str z =>
    obtain ⟨t, rfl⟩ := r
    cases (show T = "str" from ty)
    exact ⟨typeIs_str s z t, fun _ e => nomatch e⟩
  | int i =>
    obtain ⟨t, rfl⟩ := r
    cases (show T = "int" from ty)
    exact ⟨typeIs_int s i t, fun _ e => nomatch e⟩
  | ref p =>
    cases r
    rcases ty with ⟨rfl, xs, hq⟩ | ⟨rfl, o, hk, hc, hd⟩ | ⟨rfl, hk⟩ | ⟨rfl, S, n, hk⟩
    · obtain ⟨its, _, pl, _⟩ := I.list hq
      refine ⟨pl.isList.typeIs, fun a e => ?_⟩
      cases e
      obtain ⟨o, n, e, c, hd, _⟩ := pl
      exact ⟨o, e, hd⟩
    · refine ⟨⟨o, I.kIn p o hk, hc⟩, fun a e => ?_⟩
      cases e
      exact ⟨o, I.kIn _ o hk, hd⟩
    · have z : ∃ o, s.heap.get? p = some o ∧ o.ExactDict := by
        rcases hk with ⟨kvs, hk⟩ | ⟨kvs, hk⟩
        · obtain ⟨_, _, _, _, o, _, _, e, ex, _⟩ := I.hok p _ hk
          exact ⟨o, e, ex⟩
        · obtain ⟨_, _, _, _, o, _, _, e, ex, _⟩ := I.hok p _ hk
          exact ⟨o, e, ex⟩
      obtain ⟨o, e, ex⟩ := z
      refine ⟨⟨o, e, ex.1⟩, fun a e2 => ?_⟩
      cases e2
      exact ⟨o, e, ex.2.1⟩
    · obtain ⟨o, _, _, _, e, ex, _⟩ := I.hok p _ hk
      refine ⟨⟨o, e, ex.1⟩, fun a e2 => ?_⟩
      cases e2
      exact ⟨o, e, ex.2.1⟩
  | _ => exact False.elim ty
def tBM0 (K : PySem.W.Frag) (T : String) (r : V → List V → Hp → VK → Prop) (to : TE) : TE := fun σ H Q => to σ H fun x H1 => tyV K T x H1 ∧ r x [] H1 Q
def tBM (K : PySem.W.Frag) (T : String) (r : V → List V → Hp → VK → Prop) (to : TE) (t : TA) : TE := fun σ H Q => to σ H fun x H1 => tyV K T x H1 ∧ t σ H1 fun xs H2 => r x xs H2 Q
variable {o e : Expr} {es : List Expr} {to : TE} {t : TA} {name : Str} {apos cpos : Pos} {T id : String} {r : V → List V → Hp → VK → Prop}
theorem pe_bm (pa : PlainAttrs T) (slot : Slot T name id) (hty : typeOf (.builtin id) = pure (.type "method_descriptor")) (hm : MtR X id r) (ho : PE X o to) (ha : PA X (e :: es) t)
    (hbase : attributeBase o name X.env (eval o X.env) = eval o X.env := by rfl)
    (hfew : ((backTo cpos (starEach (e :: es) X.env)).all (fun x => !x.1) && (backToKw cpos (keywordEach [] X.env)).all (fun x => x.1.isSome)
      && decide ((e :: es).length + ([] : List Keyword).length + (if ([] : List Keyword).isEmpty then 0 else 1) < 30)) = true := by rfl)
    (hline : (apos.endLine == cpos.line) = true := by rfl) (hs : starEach (e :: es) X.env = (false, eval e X.env) :: starEach es X.env := by rfl) (hplain : (backTo cpos (starEach es X.env)).any (·.1) = false := by rfl) :
    PE X (.Call (.Attribute o name apos) (e :: es) [] cpos) (tBM X.K T r to t) := by
  intro pins s σ H Q I h
  refine wpAny_Call_method_late hbase hfew hline rfl (thn (ho pins s σ H _ I h) fun v s1 ⟨x, H1, I1, r1, ty, q1⟩ => ?_)
  obtain ⟨h1, h2⟩ := tyV_is I1 r1 ty
  refine ⟨T, id, pa, slot, hty, h1, h2, ?_⟩
  have hA := ha cpos pins s1 σ H1 _ I1 q1
  rw [hs] at hA ⊢
  refine Calls.callWith_builtin (by show (false || (backTo cpos (starEach es X.env)).any (·.1)) = false; rw [hplain] <;> rfl) (Calls.evalArgs_plain ?_)
  exact thn hA fun us s2 ⟨vs, H2, I2, r2, q2⟩ => hm pins s2 σ H2 x vs v us Q I2 r1 r2 q2
/- xs.append(e), list.index on a module's tuple .. are MtR facts of 06m -/
end
end L2

namespace L2
open PySem PySem.Spec PyProof.Rows

def MtM (X : Cx) (id : String) (r : V → List V → Hp → VK → Prop) : Prop :=
  ∀ (pins : List (Addr × Obj)) (s : Shared) (σ : St) (H : Hp) (x : V) (xs : List V) (v : Value) (us : List Value) (Q : VK), Inv X pins σ H s → RelV x v → Vals xs us → r x xs H Q →
    wpAny (model X.prog X.w) X.A (call (.builtin id) (v :: us)) (EP X pins σ Q) X.xe s

/-! ### lists of values -/
theorem Vals.one : ∀ {x : V} {us : List Value}, Vals [x] us → ∃ u, us = [u] ∧ RelV x u
  | _, _, .cons r .nil => ⟨_, rfl, r⟩
section
variable {X : Cx} {pins : List (Addr × Obj)} {σ : St} {H : Hp} {s : Shared} {l b : Addr} {xs ys zs : List V}

/-! ### the two steps: a tracked list is rewritten, a new list is laid -/
theorem Inv.lset {its its' : List Value} {n : Nat} {f : Array Value → Array Value} {t' : Nat} (I : Inv X pins σ H s) (hH : H l = some (.lst xs))
    (e : s.heap.get? l = some { cls := .type "list", data := .seq its.toArray n }) (hf : f its.toArray = its'.toArray) (hv : Vals ys its') (hz : ys.length ≤ sizeLine) :
    Inv X pins σ (upd H l (.lst ys)) { s with heap := s.heap.update l (Obj.mapSeq f), toks := t' } := by
  have q := PySem.IsL.update e f
  rw [hf] at q
  refine I.write (x := l) (e := l) (by rw [hH]; exact trivial) (.inl rfl) (fun b' u hb hu => (Heap.get?_update_other s.heap (Obj.mapSeq f) (Ne.symm hb)).trans hu) ⟨_, q⟩ ?_
  exact ⟨hz, its', _, hv, q⟩
theorem Inv.lnew {its : List Value} {t' : Nat} (I : Inv X pins σ H s) (hv : Vals ys its) (hz : ys.length ≤ sizeLine) :
    Inv X pins σ (upd H s.heap.objs.size (.lst ys)) { s with heap := s.heap.push { cls := .type "list", data := .seq its.toArray }, toks := t' } :=
  I.laid (fun _ _ q => Heap.get?_push_of_some _ q) (Nat.le_refl _) ⟨hz, its, 0, hv, Heap.get?_push_size _ rfl⟩
theorem Inv.fresh (I : Inv X pins σ H s) : H s.heap.objs.size = none := I.hok.fresh (Nat.le_refl _)
theorem Inv.lstM (I : Inv X pins σ H s) (hH : H l = some (.lst xs)) : xs.length ≤ sizeLine ∧ ∃ (its : List Value) (n : Nat), Vals xs its ∧ xs.length = its.length ∧ s.heap.get? l = some { cls := .type "list", data := .seq its.toArray n } := by
  obtain ⟨z, its, n, r, e⟩ := I.hok l _ hH
  exact ⟨z, its, n, r, r.length, e⟩

end

section
variable {X : Cx}

/-! ### methods -/
def rAppend : V → List V → Hp → VK → Prop := fun x vs H Q => ∃ l xs y, x = .ref l ∧ vs = [y] ∧ H l = some (.lst xs) ∧ xs.length < sizeLine ∧ Q .non (upd H l (.lst (xs ++ [y])))
theorem mt_append : MtM X "list.append" rAppend := by
  intro pins s σ H x vs v us Q I rx rv h
  obtain ⟨l, xs, y, rfl, rfl, hH, hz, q⟩ := h
  cases rx
  obtain ⟨u, rfl, ru⟩ := rv.one
  obtain ⟨z, its, n, r, hl, e⟩ := I.lstM hH
  refine call_meets F.slot_list_append ⟨_, e, rfl⟩ F.entry_list_append (F.args_list_append_2 _ _) (PySem.list_append l its.toArray n u (by rw [List.size_toArray]; omega)) ⟨e, ?_⟩
  refine ⟨.non, _, I.lset (its' := its ++ [u]) hH e (by simp) (r.append (.cons ru .nil)) ?_, rfl, q⟩
  rw [List.length_append, List.length_singleton]
  omega

def rExtend : V → List V → Hp → VK → Prop := fun x vs H Q => ∃ l b xs zs, x = .ref l ∧ vs = [.ref b] ∧ H l = some (.lst xs) ∧ H b = some (.lst zs) ∧ xs.length + zs.length ≤ sizeLine ∧ Q .non (upd H l (.lst (xs ++ zs)))
def rPop : V → List V → Hp → VK → Prop := fun x vs H Q => ∃ l xs y, x = .ref l ∧ vs = [] ∧ H l = some (.lst xs) ∧ xs[xs.length - 1]? = some y ∧ Q y (upd H l (.lst xs.dropLast))
def rPopAt : V → List V → Hp → VK → Prop := fun x vs H Q => ∃ l xs i k y, x = .ref l ∧ vs = [.int i] ∧ H l = some (.lst xs) ∧ -(2 ^ 63) ≤ i ∧ i < 2 ^ 63 ∧ seqIndex? i xs.length = some k ∧ xs[k]? = some y ∧ Q y (upd H l (.lst (xs.eraseIdx k)))
def rReverse : V → List V → Hp → VK → Prop := fun x vs H Q => ∃ l xs, x = .ref l ∧ vs = [] ∧ H l = some (.lst xs) ∧ Q .non (upd H l (.lst xs.reverse))
def rClear : V → List V → Hp → VK → Prop := fun x vs H Q => ∃ l xs, x = .ref l ∧ vs = [] ∧ H l = some (.lst xs) ∧ Q .non (upd H l (.lst []))
/-! ### list + list, list += list, list * int -/
def rCat : R2 := fun x y H Q => ∃ l b xs zs, x = .ref l ∧ y = .ref b ∧ H l = some (.lst xs) ∧ H b = some (.lst zs) ∧ xs.length + zs.length ≤ sizeLine ∧ ∀ p, H p = none → Q (.ref p) (upd H p (.lst (xs ++ zs)))
/-- a list times an int (a negative one is nothing) -/
def rRep : R2 := fun x y H Q => ∃ l k xs, x = .ref l ∧ y = .int k ∧ H l = some (.lst xs) ∧ -(2 ^ 63) ≤ k ∧ k < 2 ^ 63 ∧ xs.length * k.toNat ≤ sizeLine ∧
  ∀ p, H p = none → Q (.ref p) (upd H p (.lst (List.replicate k.toNat xs).flatten))
/-! ### del xs[i] -/
end

/-! ### xs[a:b] = ys -/
section
variable {prog : Program} {w : World} {A : Around} {E : Value → Shared → Prop} {s : Shared}
end

section
variable {X : Cx}
end
end L2

namespace Att
open PySem PySem.W PySem.Calls PyProof.Rows

/-! ### the script -/
theorem ints_of_wellAll {P : Params} {h : Heap} : ∀ (ns : List Int) (vs : List Value), WellAll P h vs (ns.map WData.int) → IntsAre vs ns := by
  intro ns
  induction ns with
  | nil =>
    intro vs w
    rw [List.map_nil] at w
    cases w
    exact .nil
  | cons n ns ih =>
    intro vs w
    rw [List.map_cons] at w
    cases w with
    | cons a b =>
      cases a
      exact .cons _ _ (ih _ b)

theorem script_of {l : OpenLaw} {n : Nat} (hn : l.most = some n) {P : Params} {h : Heap} {args : List WData} {vals : List Value}
    (hpre : l.row.toRowW.claim.pre args = true) (hwl : WellAll P h vals args) :
    ∃ a vs ns, vals = [Value.ref a] ∧ args = [WData.list (ns.map WData.int)] ∧ h.get? a = some { cls := .type "list", data := .seq vs.toArray } ∧ IntsAre vs ns ∧ ns.length ≤ n := by
  have hsh : WShape.hasAll [] args [.list .int] = true := (pre_splitW hpre).1
  have hc : l.pre.holds [] { args := args } = true := (pre_splitW hpre).2
  obtain ⟨d, r, rfl, h1, h2⟩ := hasAllW_cons hsh
  obtain rfl := hasAllW_nil h2
  obtain ⟨xs, rfl, h3⟩ := hasW_list h1
  obtain ⟨ns, rfl⟩ := items_int h3
  have hlen : ns.length ≤ n := by
    unfold OpenLaw.pre at hc
    have h4 : (WTm.not (.lt (.lit (.int (n : Int))) (.len (.arg 0)))).holds [] { args := [.list (ns.map .int)] } = true := by
      have h4 := (holds_andW hc).1
      rw [hn] at h4
      exact h4
    have h5 := condW_of h4 (w_not (w_lt w_lit (w_len_list (w_arg rfl))))
    rw [List.length_map] at h5
    refine Nat.le_of_not_lt fun q => ?_
    have q' : (n : Int) < ((ns.length : Nat) : Int) := by omega
    first
      | (rw [decide_eq_true q'] at h5; exact absurd h5 (by decide))
      | (simp at h5; omega)
  cases hwl with
  | cons w1 w2 =>
    cases w2
    cases w1 with
    | list ho hall => exact ⟨_, _, ns, rfl, rfl, ho, ints_of_wellAll ns _ hall, hlen⟩

theorem post_true (l : OpenLaw) (args : List WData) : l.row.toRowW.claim.post args (.bool true) args = true :=
  postW_of (r := l.row.toRowW) (X := (true == true))
    (show WShape.has [] (.bool true) .bool = true by first | rfl | decide | simp [WShape.has, WShape.arms, WShape.armsAll])
    (show (WTm.eq .res (.lit (.bool true))).value [] { args := args, res := some (.bool true), after := args } = some (.bool (true == true)) from w_eq_bool (w_res rfl) w_lit) rfl

/-! ### the attachment: holds_open's last premise (the goal 'hc' behind k_head) from a wpAny of the law's body -/
/-- the same from a codeAny of the CALL (for a layer whose function contracts speak of calls) -/
theorem attach_call {l : OpenLaw} {n : Nat} {q : Program} {loose : List Str} {XP : (Str → Option Value) → Heap → Prop} {YP : World → Heap → Prop} {d : DefRec}
    (hn : l.most = some n) (hdf : d.params.defaults = [])
    (call : ∀ (w : World) (s₀ s₁ : Shared) (mg mb : Str → Option Value) (fa : Addr) (o : Obj) (pm cd doc : Value) (a : Addr) (vs : List Value) (ns : List Int),
      Ground q loose [] XP w s₀ mg mb s₁.heap → YP w s₁.heap →
      s₁.heap.get? fa = some o → o.data = .func (docDef d.name d.params d.body d.scope pm cd doc) → s₁.heap.CodeRec cd d.name → mg d.name = some (.ref fa) →
      s₁.heap.get? a = some { cls := .type "list", data := .seq vs.toArray } → IntsAre vs ns → ns.length ≤ n → s₁.gens = #[] →
      codeAny (model l.prog w) callerA (.call (.ref fa) ⟨[.ref a], []⟩) (fun r s' => r = .ok (.ret (.bool true)) ∧ OldK s₁.heap s'.heap ∧ s'.os = s₁.os ∧ AllBare s'.gens) s₁) :
    WalkO q loose XP YP l.row.toRowW d [] (fun f vs => PySem.call f vs) := by
  intro w s₀ s₁ mg mb G Y fa o pm cd doc dV kV ho hd hcd hD hmg hg args vals as hpre hlay hrd hwl hlo
  obtain rfl : dV = .none := Dflts.none hD hdf
  obtain rfl : kV = .none := Dflts.noKw hD
  obtain ⟨a, vs, ns, rfl, rfl, hobj, hints, hlen⟩ := script_of hn hpre hwl
  refine enter_call (codeAny_mono (call w s₀ s₁ mg mb fa o pm cd doc a vs ns G Y ho (fd_plain hd) hcd hmg hobj hints hlen hg) fun r s' hq => ?_)
  obtain ⟨rfl, h2, h3, h4⟩ := hq
  exact ⟨.inl ⟨.bool true, .bool true, [], rfl, fun _ => rfl, .bool true, post_true l _, fun _ => ⟨List.Pairwise.nil, fun _ hm => (nomatch hm)⟩⟩, h2, h3, h4⟩

/-! ### rules over ANY heap (no ledger) from facts about the written part K: the library's own take a ledger (News) for what they write -/
section
variable {prog : Program} {w : World} {A : Around} {E : Value → Shared → Prop} {s : Shared} {K : Frag}

/-! the whole heap as the ledger: makes every rule that writes through a ledger a rule over any heap -/
def noObjs (h : Heap) : Heap := { h with objs := #[] }
def ledger (h : Heap) (L d : Addr) : List (Addr × Obj) := (List.range h.objs.size).filterMap fun a => if a = L ∨ a = d then none else (h.get? a).map fun o => (a, o)
end
end Att

namespace L2
open PySem PySem.Spec PyProof.Rows

theorem vals_ints : ∀ {vs : List Value} {ns : List Int}, IntsAre vs ns → Vals (ns.map V.int) vs
  | _, _, .nil => .nil
  | _, _, .cons n t h => .cons ⟨t, rfl⟩ (vals_ints h)

/-- nothing is tracked but the script, known to the object (or it is an object of the module) -/
def Only (H : Hp) : Prop := ∀ b, H b = none ∨ ∃ o xs, H b = some (.frz o (.lst xs))

/-- THE HEAD: the law's promise, at the heap behind the top. F, the promise of the law's def, may use that base is part of the heap (so K.In base, base.Ns mainGlobals mg stand in Mod) -/
theorem law_call {P : Program} {w : World} {K : PySem.W.Frag} {mg mb : Str → Option Value} {CX : CXT} {k : Nat} {fa a : Addr} {fd : FuncData} {x : Str} {sp : Sp} {s₁ : Shared} {vs : List Value} {ns : List Int}
    (KX : K.In s₁.heap) (hns : s₁.heap.Ns mainGlobals mg) (hb : s₁.heap.Ns builtinsNs mb) (hbb : ∀ x : Str, x ≠ "__name__" → mb x = bootBuiltins x) (hlim : s₁.heap.NoLimit) (hg : s₁.gens = #[])
    (ha : s₁.heap.get? a = some { cls := .type "list", data := .seq vs.toArray }) (hi : IntsAre vs ns) (hl : ns.length ≤ sizeLine) (hr : Room k callerA)
    (F : ∀ base : Heap, K.In base → base.Ns mainGlobals mg → FnOk P w K mg base CX k fa fd [x] sp) (hbind : ∀ (s : Shared) (u : Value), BindsTo s fd ⟨[u], []⟩ [(x, u)])
    (hsp : ∀ H : Hp, Only H → SqL K H a (ns.map V.int) → sp [.ref a] H (fun v _ => v = .bl true) fun _ _ _ => False)
    (hCX : ∀ H e s', CX [] H s₁ (fun _ _ _ => False) e s' → False) :
    codeAny (model P w) callerA (.call (.ref fa) ⟨[.ref a], []⟩) (fun r s' => r = .ok (.ret (.bool true)) ∧ OldK s₁.heap s'.heap ∧ s'.os = s₁.os ∧ AllBare s'.gens) s₁ := by
  have rv := vals_ints hi
  have lenV := hi.length
  -- from an abstract heap in which nothing but the script may be tracked
  have core : ∀ H : Hp, Only H → SqL K H a (ns.map V.int) → HOk P w H s₁.heap → (∀ b, H b ≠ none → b = a) → (H a ≠ none → K.lookup a = none) →
      codeAny (model P w) callerA (.call (.ref fa) ⟨[.ref a], []⟩) (fun r s' => r = .ok (.ret (.bool true)) ∧ OldK s₁.heap s'.heap ∧ s'.os = s₁.os ∧ AllBare s'.gens) s₁ := by
    intro H hO hS hok hA hK
    have base_of : ∀ {b : Addr} {o : Obj}, s₁.heap.get? b = some o → H b = none → (hidT s₁.heap H).get? b = some o := fun e n => hidT_get e n
    have noA : ∀ {b : Addr} {o : Obj} {es : Array DictEntry} {ep : Nat}, s₁.heap.get? b = some o → o.data = .dict es ep → H b = none := fun {b o es ep} e d => by
      cases q : H b with
      | none => rfl
      | some u =>
        have e' : b = a := hA b (by rw [q]; simp)
        subst e'
        rw [ha] at e; cases e
        have d' : Data.seq vs.toArray _ = Data.dict es ep := d
        cases d'
    have nsK : ∀ {b : Addr} {m : Str → Option Value}, s₁.heap.Ns b m → (hidT s₁.heap H).Ns b m := fun {b m} ⟨o, es, ep, e, d, r⟩ => ⟨o, es, ep, base_of e (noA e d), d, r⟩
    have hKb : K.In (hidT s₁.heap H) := fun b o e => base_of (KX b o e) (by
      cases q : H b with
      | none => rfl
      | some u =>
        have e' : b = a := hA b (by rw [q]; simp)
        subst e'
        rw [hK (by rw [q]; simp)] at e; cases e)
    have hM : Mod K mg (hidT s₁.heap H) := ⟨hKb, nsK hns, ⟨mb, nsK hb, hbb⟩, let ⟨mc, h1, h2⟩ := hlim; ⟨mc, nsK h1, h2⟩⟩
    have e0 : Env0 P w K mg (hidT s₁.heap H) callerA [] s₁ H := ⟨rfl, hM, fun b o e => of_hidT e, Nat.le_of_eq (hidT_size _ _), trivial, fun b hb => absurd (show b ∈ ([] : List Addr) from hb) (by simp), hok, .of_eq hg⟩
    refine codeAny_mono ((F _ hKb (nsK hns)).run callerA [] s₁ H ⟨[.ref a], []⟩ [.ref a] [.ref a] _ _ hr e0 (hbind s₁ (.ref a)) (.cons rfl .nil) (hsp H hO hS)) fun r s' h => ?_
    cases r with
    | error e => exact (hCX H e s' h).elim
    | ok fl =>
      cases fl with
      | next => exact False.elim h
      | brk => exact False.elim h
      | cont => exact False.elim h
      | ret u =>
        obtain ⟨v, H', os, bare, un, hok', r', q⟩ := h
        have q' : v = .bl true := q
        subst q'
        obtain rfl : u = Value.bool true := r'
        refine ⟨rfl, OldK.of_keep fun b o e => ?_, os, bare⟩
        cases q : H b with
        | none => exact un.keep b o e q (by intro z; exact absurd (show b ∈ ([] : List Addr) from z) (by simp)) (by simp)
        | some u =>
          rcases hO b with z | ⟨ob, xs, z⟩
          · rw [q] at z; cases z
          · have z2 := un.frzs b ob _ z
            obtain ⟨e1, _⟩ := hok b _ z
            obtain ⟨e2, _⟩ := hok' b _ z2
            rw [e] at e1; cases e1
            exact e2
  cases hk : K.lookup a with
  | some o =>
    -- the script is one of the module's own objects
    have e := KX a o hk
    rw [ha] at e
    cases e
    refine core (fun _ => none) (fun _ => .inl rfl) (.inr ⟨_, vs.toArray, _, hk, rfl, rfl, rfl, by rw [List.size_toArray, lenV]; exact hl, by simpa using rv⟩) (fun b u z => by have z' : (none : Option HO) = some u := z; cases z') (fun b z => absurd rfl z) fun z => absurd rfl z
  | none =>
    refine core (fun b => if b = a then some (.frz { cls := .type "list", data := .seq vs.toArray } (.lst (ns.map V.int))) else none) (fun b => ?_) (.inl (.inr ⟨{ cls := .type "list", data := .seq vs.toArray }, if_pos rfl⟩)) (fun b u z => ?_) (fun b z => ?_) fun _ => hk
    · by_cases hb : b = a
      · exact .inr ⟨_, _, if_pos hb⟩
      · exact .inl (if_neg hb)
    · by_cases hb : b = a
      · have z' := (if_pos hb).symm.trans z
        cases z'
        subst hb
        exact ⟨ha, by rw [List.length_map]; exact hl, vs, _, rv, ha⟩
      · have z' := (if_neg hb).symm.trans z
        cases z'
    · by_cases hb : b = a
      · exact hb
      · exact absurd (if_neg hb) z
end L2

namespace L2
open PySem PySem.Spec PyProof.Rows

abbrev KOf {K : PySem.W.Frag} {h : Heap} (_ : K.In h) : PySem.W.Frag := K

/-- the goal that k_head leaves (case hc), from the law's promise. F gives the function object fd (K's own) once, then the promise over every base -/
theorem walk_of {l : PySem.W.OpenLaw} {n k : Nat} {q : Program} {loose : List Str} {XP : (Str → Option Value) → Heap → Prop} {YP : World → Heap → Prop} {d : DefRec} {K : Params → PySem.W.Frag} {CX : World → CXT} {sp : World → Sp} {x : Str}
    (hn : l.most = some n) (hn2 : n ≤ sizeLine) (hdf : d.params.defaults = []) (hr : Room k callerA)
    (hY : ∀ (w : World) (h : Heap), YP w h → (K w.params).In h)
    (F : ∀ (w : World) (mg : Str → Option Value) (fa : Addr) (h : Heap), (K w.params).In h → h.Ns mainGlobals mg → mg d.name = some (.ref fa) →
      ∃ fd : FuncData, (∀ (s : Shared) (u : Value), BindsTo s fd ⟨[u], []⟩ [(x, u)]) ∧
        ∀ base : Heap, (K w.params).In base → base.Ns mainGlobals mg → FnOk l.prog w (K w.params) mg base (CX w) k fa fd [x] (sp w))
    (hsp : ∀ (w : World) (H : Hp) (a : Addr) (ns : List Int), ns.length ≤ n → Only H → SqL (K w.params) H a (ns.map V.int) → sp w [.ref a] H (fun v _ => v = .bl true) fun _ _ _ => False)
    (hCX : ∀ (w : World) (H : Hp) (s : Shared) (e : Value) (s' : Shared), CX w [] H s (fun _ _ _ => False) e s' → False) :
    PySem.W.WalkO q loose XP YP l.row.toRowW d [] (fun f vs => PySem.call f vs) := by
  refine Att.attach_call hn hdf fun w s₀ s₁ mg mb fa o pm cd doc a vs ns G Y ho hd hcd hmg hobj hints hlen hg => ?_
  have KX := hY w _ Y
  obtain ⟨fd, hb, hF⟩ := F w mg fa _ KX G.T.g hmg
  exact law_call KX G.T.g G.T.b G.T.builtins G.T.nolimit hg hobj hints (Nat.le_trans hlen hn2) hr hF hb (fun H hO hS => hsp w H a ns hlen hO hS) fun H e s' => hCX w H s₁ e s'
end L2

/- THE LAST THEOREM (shape; LID, My.* are yours):
   My.Adr: a structure of the addresses that your layer names (classes, functions); My.Txt K t: a structure (Prop) of the equations over K;
   My.txt_mk : {K} {implicit addresses ..} (e1 : nsIn K mainGlobals "law" = some (some (.ref f))) (e2 : K.lookup f = some ⟨oc, od, .func (fnOf "law" "law" params body scope dV kV doc pm an cdv ct), sl⟩) (e3 : codeIn K cdv "law" = true) .. : ∃ t, My.Txt K t

(the tactic k_is has no namespace: write k_is) -/

/-! SHORT WORDS over the layer: a def of the text, its body, what a loop and a test want. -/
namespace L2
open PySem PySem.Spec PyProof.Rows

/-! ### the text by places -/
/-- the j-th statement of a class's body -/
def inClass (s : Stmt) (j : Nat) : Stmt := match s with
  | .ClassDef _ _ _ body _ _ _ _ _ _ _ => body.getD j (.Pass ⟨0, 0, 0, 0⟩)
  | _ => .Pass ⟨0, 0, 0, 0⟩
def defArgs (s : Stmt) : Arguments := match s with
  | .FunctionDef _ a _ _ _ _ _ _ _ _ => a
  | _ => { posonlyargs := [], args := [], vararg := none, kwonlyargs := [], kw_defaults := [], kwarg := none, defaults := [] }
def defBody (s : Stmt) : List Stmt := match s with
  | .FunctionDef _ _ b _ _ _ _ _ _ _ => b
  | _ => []
def defScope (s : Stmt) : Scope := match s with
  | .FunctionDef _ _ _ _ _ _ sc _ _ _ => sc
  | _ => { kind := .function, names := [], isGenerator := false, isCoroutine := false }

/-! ### no exception leaves a def -/
abbrev CX0 : CXT := fun _ _ _ _ _ _ => False
abbrev E0 : XK := fun _ _ _ => False
theorem pass0 {X : Cx} : Passes CX0 X E0 := fun _ _ _ _ _ _ _ h => h.elim

/-! ### a def (or method) of the text as it stands behind the top -/
structure Fun (K : PySem.W.Frag) (x qual : Str) (st : Stmt) (f : Addr) (fd : FuncData) : Prop where
  ex : ∃ (oc : Value) (od : Option Addr) (kV doc pm : Value) (an : Option Addr) (cdv ct : Value) (osl : Array (Option Value)),
    fd = PySem.W.fnOf x qual (defArgs st) (defBody st) (defScope st) .none kV doc pm an cdv ct ∧ K.lookup f = some ⟨oc, od, .func fd, osl⟩ ∧ PySem.W.codeIn K cdv qual = true
  kp : PySem.W.keepIn K (.ref f) = true
section
variable {P : Program} {w : World} {K : PySem.W.Frag} {mg : Str → Option Value} {base : Heap}
/-- THE RULE for a def: its body as a term of rules, and the reading of that term -/
theorem Fun.ok {x qual : Str} {st : Stmt} {f : Addr} {fd : FuncData} {N ps : List Str} {k : Nat} {sp : Sp} (F : Fun K x qual st f fd) (S : FnScope N ps (defScope st)) (len : ∀ vs H Q E, sp vs H Q E → vs.length = ps.length)
    (hbody : ∀ (cdv : Value) (A : Around) (outer : List Env) (s : Shared) (H : Hp) (vs : List V) (Q : VK) (E : XK), Room k (A.deeper (envOfC qual (defScope st) s.heap.objs.size f cdv)) → sp vs H Q E →
      ∃ t, PSs (cxOf CX0 P w K mg base N qual (defScope st) f cdv A outer s H E).nox (defBody st) t ∧ t { nx := fun _ H' => Q .non H', rt := Q } (start N vs) H) : FnOk P w K mg base CX0 (k + 1) f fd ps sp := by
  obtain ⟨oc, od, kV, doc, pm, an, cdv, ct, osl, rfl, lk, hcd⟩ := F.ex
  refine fn_of lk hcd S len fun A outer s H vs Q E hr hsp => ?_
  obtain ⟨t, h, q⟩ := hbody cdv A outer s H vs Q E hr hsp
  exact ⟨t, h.nox, q⟩
/-- how its arguments bind (no defaults): h is «fun _ _ _ _ _ _ us hl => match us, hl with | [_, _], _ => rfl», one _ a parameter -/
theorem Fun.binds {x qual : Str} {st : Stmt} {f : Addr} {fd : FuncData} {ps : List Str} (F : Fun K x qual st f fd)
    (h : ∀ (kV doc pm : Value) (an : Option Addr) (cdv ct : Value) (us : List Value), us.length = ps.length → bindArgs (PySem.W.fnOf x qual (defArgs st) (defBody st) (defScope st) .none kV doc pm an cdv ct) ⟨us, []⟩ = pure (ps.zip us)) : Binds K fd ps [] := by
  obtain ⟨oc, od, kV, doc, pm, an, cdv, ct, osl, rfl, lk, hcd⟩ := F.ex
  exact .all (h kV doc pm an cdv ct)
theorem fun_mk {x qual : Str} {st : Stmt} {f : Addr} {oc : Value} {od an : Option Addr} {osl : Array (Option Value)} {kV doc pm cdv ct : Value} (l : K.lookup f = some ⟨oc, od, .func (PySem.W.fnOf x qual (defArgs st) (defBody st) (defScope st) .none kV doc pm an cdv ct), osl⟩)
    (c : PySem.W.codeIn K cdv qual = true) (k : PySem.W.keepIn K (.ref f) = true) : Fun K x qual st f (PySem.W.fnOf x qual (defArgs st) (defBody st) (defScope st) .none kV doc pm an cdv ct) := ⟨⟨oc, od, kV, doc, pm, an, cdv, ct, osl, rfl, l, c⟩, k⟩
end
theorem small1000 {n : Nat} (h : n ≤ 1000) : n < sizeLine := Nat.lt_of_le_of_lt h (by decide)

/-! ### expressions in short: the name that stands in the i-th slot -/
section
variable {X : Cx}
theorem pv (i : Nat) {x : Str} {pos : Pos} (hN : X.N[i]? = some x := by rfl) (hv : Vis X.env.scope x := by first | exact Or.inl rfl | exact Or.inr (Or.inl rfl) | exact Or.inr (Or.inr rfl)) (hd : (x == ("__debug__" : Str)) = false := by decide)
    (hcd : (x == ("__classdict__" : Str)) = false := by decide) : PE X (.Name x pos) (tVar i) := pe_var hN hv hd hcd
end

/-! ### tests -/
theorem iteF {A B : Prop} (h : B) : if false = true then A else B := by
  rw [if_neg Bool.false_ne_true]
  exact h
theorem iteT {A B : Prop} (h : A) : if true = true then A else B := by
  rw [if_pos rfl]
  exact h
theorem ite2 {c A B : Prop} [Decidable c] (h1 : c → A) (h2 : ¬ c → B) : if c then A else B := by
  by_cases h : c
  · rw [if_pos h]
    exact h1 h
  · rw [if_neg h]
    exact h2 h
/-! ### heaps -/
/-- all that was tracked is as it was -/
def Same (H H' : Hp) : Prop := ∀ b o, H b = some o → H' b = some o
theorem Same.refl (H : Hp) : Same H H := fun _ _ h => h
theorem Same.trans {H H1 H2 : Hp} (a : Same H H1) (b : Same H1 H2) : Same H H2 := fun c o h => b c o (a c o h)
theorem Same.free {H H' : Hp} (e : Same H H') {l : Addr} (h : H' l = Option.none) : H l = Option.none := by
  cases q : H l with
  | none => rfl
  | some o =>
    rw [e l o q] at h
    cases h
theorem Same.seq {K : PySem.W.Frag} {H H' : Hp} {a : Addr} {xs : List V} (e : Same H H') (h : SqL K H a xs) : SqL K H' a xs := by
  rcases h with (h | ⟨o, h⟩) | h
  · exact .inl (.inl (e _ _ h))
  · exact .inl (.inr ⟨o, e _ _ h⟩)
  · exact .inr h

end L2

set_option Elab.async false
set_option linter.all false
set_option maxRecDepth 100000
set_option maxHeartbeats 4000000
namespace L2
open PySem PySem.Spec PyProof.Rows

/-! ### a comprehension's cells -/
def clStep (env : Env) (cs : List (Str × Addr)) (p : Str × NameKind) : List (Str × Addr) :=
  if p.2 == .free then match env.cells.lookup p.1 with | some c => (p.1, c) :: cs | none => cs else cs
def clOf (scope : Scope) (env : Env) : List (Str × Addr) := scope.names.foldl (clStep env) []

theorem closureFor_cl {scope : Scope} {env : Env} (h : ∀ p ∈ scope.names, p.2 = .free → ∃ c, env.cells.lookup p.1 = some c) : closureFor scope env = pure (clOf scope env) := by
  have gen : ∀ (l : List (Str × NameKind)) (cs : List (Str × Addr)), (∀ p ∈ l, p.2 = .free → ∃ c, env.cells.lookup p.1 = some c) →
      (forIn l cs (fun (x : Str × NameKind) (r : List (Str × Addr)) => match x with
        | (name, kind) => if (kind == NameKind.free) = true then do let a ← cellOf env name; pure (ForInStep.yield ((name, a) :: r)) else pure (ForInStep.yield r)) : Sem (List (Str × Addr))) = pure (l.foldl (clStep env) cs) := by
    intro l
    induction l with
    | nil => intro cs _; rfl
    | cons p r ih =>
      intro cs hp
      obtain ⟨n, k⟩ := p
      rw [List.forIn_cons, List.foldl_cons]
      by_cases hk : k = .free
      · subst hk
        obtain ⟨c, hc⟩ := hp (n, .free) List.mem_cons_self rfl
        have hc' : env.cells.lookup n = some c := hc
        have e1 : cellOf env n = pure c := by unfold cellOf; rw [hc']
        have e2 : clStep env cs (n, .free) = (n, c) :: cs := by unfold clStep; simp only [beq_self_eq_true, if_true]; rw [hc']
        simp only [beq_self_eq_true, if_true, e1, pure_bind]
        rw [e2]
        exact ih _ fun q hq => hp q (List.mem_cons_of_mem _ hq)
      · have hb : (k == NameKind.free) = false := by simpa using hk
        have e2 : clStep env cs (n, k) = cs := by unfold clStep; simp only [hb, Bool.false_eq_true, if_false]
        simp only [hb, Bool.false_eq_true, if_false, pure_bind]
        rw [e2]
        exact ih _ fun q hq => hp q (List.mem_cons_of_mem _ hq)
  unfold closureFor clOf
  have g := gen scope.names [] h
  simp only [bind_pure_comp] at g ⊢
  first | exact g | (simpa using g)
theorem clOf_sub {scope : Scope} {env : Env} {y : Str} {c : Addr} (h : (clOf scope env).lookup y = some c) : env.cells.lookup y = some c := by
  have gen : ∀ (l : List (Str × NameKind)) (cs : List (Str × Addr)), (∀ p ∈ cs, env.cells.lookup p.1 = some p.2) → ∀ p ∈ l.foldl (clStep env) cs, env.cells.lookup p.1 = some p.2 := by
    intro l
    induction l with
    | nil => intro cs h; exact h
    | cons q r ih =>
      intro cs h
      rw [List.foldl_cons]
      refine ih _ fun p hp => ?_
      unfold clStep at hp
      split at hp
      · cases e : env.cells.lookup q.1 with
        | none => rw [e] at hp; exact h p hp
        | some c' =>
          rw [e] at hp
          rcases List.mem_cons.mp hp with rfl | hp
          · exact e
          · exact h p hp
      · exact h p hp
  exact gen scope.names [] (fun p hp => nomatch hp) (y, c) (PySem.mem_of_lookup h)
theorem clOf_has {scope : Scope} {env : Env} {y : Str} {c : Addr} (hc : env.cells.lookup y = some c) (h : (y, NameKind.free) ∈ scope.names) : (clOf scope env).lookup y = some c := by
  have gen : ∀ (l : List (Str × NameKind)) (cs : List (Str × Addr)), (y, NameKind.free) ∈ l ∨ (y, c) ∈ cs → (y, c) ∈ l.foldl (clStep env) cs := by
    intro l
    induction l with
    | nil => intro cs h; rcases h with h | h; exact nomatch h; exact h
    | cons q r ih =>
      intro cs h
      rw [List.foldl_cons]
      rcases h with h | h
      · rcases List.mem_cons.mp h with rfl | h
        · refine ih _ (.inr ?_)
          unfold clStep
          simp only [beq_self_eq_true, if_true, hc]
          exact List.mem_cons_self
        · exact ih _ (.inl h)
      · refine ih _ (.inr ?_)
        unfold clStep
        split
        · split
          · exact List.mem_cons_of_mem _ h
          · exact h
        · exact h
  have hm := gen scope.names [] (.inl h)
  obtain ⟨c', e⟩ : ∃ c', (clOf scope env).lookup y = some c' := by
    have : ∀ l : List (Str × Addr), (y, c) ∈ l → ∃ c', l.lookup y = some c' := by
      intro l
      induction l with
      | nil => intro h; exact nomatch h
      | cons q r ih =>
        intro h
        rw [List.lookup_cons]
        cases hq : y == q.1 with
        | true => exact ⟨_, rfl⟩
        | false =>
          rcases List.mem_cons.mp h with rfl | h
          · simp at hq
          · exact ih h
    exact this _ hm
  have := clOf_sub e
  rw [hc] at this
  rw [e, this]

/-- a table whose kinds are changed name by name -/
theorem lookup_kinds (c : Str → NameKind → Bool) (names : List (Str × NameKind)) (x : Str) :
    (names.map fun p => if c p.1 p.2 then (p.1, NameKind.cell) else (p.1, p.2)).lookup x = (names.lookup x).map fun k => if c x k then .cell else k := by
  induction names with
  | nil => rfl
  | cons p r ih =>
    obtain ⟨n, k⟩ := p
    have e : (if c n k then (n, NameKind.cell) else (n, k)) = (n, if c n k then NameKind.cell else k) := by split <;> rfl
    rw [List.map_cons, e, List.lookup_cons, List.lookup_cons, ih]
    by_cases hx : x = n
    · subst hx; simp
    · have : (x == n) = false := by simpa using hx
      simp [this]
theorem lookup_relabel_free {env : Env} {names : List (Str × NameKind)} {x : Str} (h : names.lookup x = some .free) :
    (names.map fun (n, k) => if (k == NameKind.free && env.scope.kind == .function && env.kindOf n == some .cell) then (n, NameKind.cell) else (n, k)).lookup x = some .cell ∨
    (names.map fun (n, k) => if (k == NameKind.free && env.scope.kind == .function && env.kindOf n == some .cell) then (n, NameKind.cell) else (n, k)).lookup x = some .free := by
  have e := lookup_kinds (fun n k => k == NameKind.free && env.scope.kind == .function && env.kindOf n == some .cell) names x
  rw [h, Option.map_some] at e
  by_cases q : (NameKind.free == NameKind.free && env.scope.kind == .function && env.kindOf x == some .cell) = true
  · exact .inl (e.trans (by rw [if_pos q]))
  · exact .inr (e.trans (by rw [if_neg q]))
/-- a cell or a free name of a comprehension's table comes from a free one (it has no cells of its own) -/
theorem lookup_relabel_inv {env : Env} {names : List (Str × NameKind)} {x : Str} (hc : ∀ y ∈ names, y.2 ≠ .cell)
    (h : (names.map fun (n, k) => if (k == NameKind.free && env.scope.kind == .function && env.kindOf n == some .cell) then (n, NameKind.cell) else (n, k)).lookup x = some .cell ∨
    (names.map fun (n, k) => if (k == NameKind.free && env.scope.kind == .function && env.kindOf n == some .cell) then (n, NameKind.cell) else (n, k)).lookup x = some .free) : (x, NameKind.free) ∈ names := by
  have e := lookup_kinds (fun n k => k == NameKind.free && env.scope.kind == .function && env.kindOf n == some .cell) names x
  replace h := h.imp e.symm.trans e.symm.trans
  cases hk : names.lookup x with
  | none => rw [hk] at h; simp at h
  | some k =>
    have m := PySem.mem_of_lookup hk
    have nc := hc _ m
    suffices k = .free by rwa [this] at m
    rw [hk, Option.map_some] at h
    by_cases q : (k == NameKind.free && env.scope.kind == .function && env.kindOf x == some .cell) = true
    · simp only [Bool.and_eq_true, beq_iff_eq] at q
      exact q.1.1
    · rw [if_neg q] at h
      exact h.elim (fun w => absurd (Option.some.inj w) nc) Option.some.inj

/-! ### the block's context -/
/-- a comprehension's block in X: names N', its namespace at C -/
def compCx (X : Cx) (scope : Scope) (N' : List Str) (C : Addr) (s₀ : Shared) (H₀ : Hp) (ex : List Addr) : Cx where
  prog := X.prog
  w := X.w
  K := X.K
  mg := X.mg
  base := X.base
  A := X.A
  N := N'
  s₀ := s₀
  H₀ := H₀
  env := compEnvC scope (clOf scope X.env) C X.env
  outer := X.stack
  stack := X.stack
  ex := ex
  fn := fun _ => false
  calm := X.calm
  know := X.know
  pn := []
  xe := fun _ _ => False
/-- the values of the block's names ahead of a turn: k own ones, then the captured -/
def capσ (k : Nat) (cap : List Nat) (σ : St) : St := List.replicate k none ++ cap.map fun i => (σ[i]?).join
/-- a target stores into the first k slots alone -/
def GK (k : Nat) (g : TG) : Prop := ∀ (x : V) (σ₀ σ : St) (H : Hp) (Q : St → Hp → Prop), σ.length = σ₀.length → (∀ j : Nat, k ≤ j → σ[j]? = σ₀[j]?) → g x σ H Q → g x σ H (fun σ' H' => Q σ' H' ∧ σ'.length = σ₀.length ∧ ∀ j : Nat, k ≤ j → σ'[j]? = σ₀[j]?)
def GKs (k : Nat) (g : TGs) : Prop := ∀ (x : List V) (σ₀ σ : St) (H : Hp) (Q : St → Hp → Prop), σ.length = σ₀.length → (∀ j : Nat, k ≤ j → σ[j]? = σ₀[j]?) → g x σ H Q → g x σ H (fun σ' H' => Q σ' H' ∧ σ'.length = σ₀.length ∧ ∀ j : Nat, k ≤ j → σ'[j]? = σ₀[j]?)
theorem gk_name {k i : Nat} (h : i < k) : GK k (gName i) := fun x σ₀ σ H Q l e q => ⟨q, by rw [List.length_set]; exact l, fun j hj => by rw [List.getElem?_set_ne (by omega)]; exact e j hj⟩
theorem gks_nil {k : Nat} : GKs k gNil := fun vs σ₀ σ H Q l e ⟨z, q⟩ => ⟨z, q, l, e⟩
/-- (the targets of a tuple are names here) -/
theorem gks_name {k i : Nat} {u : TGs} (h : i < k) (hu : GKs k u) : GKs k (gCons (gName i) u) := fun vs σ₀ σ H Q l e ⟨v, r, z, q⟩ =>
  ⟨v, r, z, hu r σ₀ (σ.set i (some v)) H Q (by rw [List.length_set]; exact l) (fun j hj => by rw [List.getElem?_set_ne (by omega)]; exact e j hj) q⟩
theorem gk_tup {K : PySem.W.Frag} {k n : Nat} {t : TGs} (ht : GKs k t) : GK k (gTup K n t) := fun x σ₀ σ H Q l e ⟨a, xs, z, hq, hl, q⟩ => ⟨a, xs, z, hq, hl, ht xs σ₀ σ H Q l e q⟩

/-- the tests of a comprehension: none, or one -/
def PF (Y : Cx) (ifs : List Expr) (t : TT) : Prop :=
  ∀ (pins : List (Addr × Obj)) (s : Shared) (σ : St) (H : Hp) (Q : Bool → Hp → Prop), Inv Y pins σ H s → t σ H Q →
    wpAny (model Y.prog Y.w) Y.A (forIn ifs true fun c r => if r = true then do let ok ← isTrue c Y.env (eval c Y.env); pure (ForInStep.yield ok) else pure (ForInStep.yield r)) (TP Y pins σ Q) Y.xe s
def tYes : TT := fun _ H Q => Q true H
theorem pf_nil {Y : Cx} : PF Y [] tYes := fun pins s σ H Q I h => wpAny_tests_nil ⟨H, I, h⟩
theorem pf_one {Y : Cx} {c : Expr} {t : TT} (h : PT Y c t) : PF Y [c] t := fun pins s σ H Q I q => wpAny_tests_one (h pins s σ H Q I q)

/-- [e for g in i if c], what is walked is J: W is the word by the turn, a measure, what was gathered -/
def CompW (J : It) (k : Nat) (cap : List Nat) (g : TG) (tc : TT) (te : TE) (σ : St) (H1 : Hp) (Q : VK) : Prop :=
  ∃ W : Nat → Nat → List V → Hp → Prop, (∃ m, W 0 m [] H1) ∧ ∀ i m ys H, W i m ys H →
    (J.stop i H ∧ ys.length ≤ sizeLine ∧ ∀ p, H p = none → Q (.ref p) (upd H p (.lst ys))) ∨
    (J.go i H ∧ ys.length < sizeLine ∧ ∃ N : List V → Hp → Prop, (∀ ys' H', N ys' H' → ∃ m', m' < m ∧ W (i + 1) m' ys' H') ∧ ∀ x H', J.yld i H x H' → g x (capσ k cap σ) H' fun σ2 H2 => tc σ2 H2 fun b H3 =>
      if b = true then te σ2 H3 fun v H4 => N (ys ++ [v]) H4 else N ys H3)
def tComp (k : Nat) (cap : List Nat) (wi : TI) (g : TG) (tc : TT) (te : TE) : TE := fun σ H Q => wi σ H fun J H1 => CompW J k cap g tc te σ H1 Q

theorem HOk.adopt {P : Program} {w : World} {H : Hp} {h : Heap} {a : Addr} {o : HO} (x : HOk P w H h) (hn : H a = none) (new : ObjOk P w (upd H a o) h a o) : HOk P w (upd H a o) h := fun b u e => by
  by_cases hb : b = a
  · subst hb; rw [upd_same] at e; cases e; exact new
  · rw [upd_ne hb] at e
    exact (x b u e).stay (fun c v _ q => q) (fun c q => by rw [upd_ne (ne_of_none q hn)]; exact q) fun c xs q => by rw [upd_ne (ne_of_none q hn)]; exact q
theorem Un.adopt {fs ex : List Addr} {H H' : Hp} {h h' : Heap} {a : Addr} {o : HO} (u : Un fs ex H H' h h') (hp : h.get? a = none) (hn : H' a = none) : Un fs ex H (upd H' a o) h h' where
  keep := u.keep
  slot := u.slot
  free := fun b ob q n hx => by rw [upd_ne (fun z => by rw [z, hp] at q; cases q)]; exact u.free b ob q n hx
  there := u.there
  tups := fun b xs q => by have z := u.tups b xs q; rw [upd_ne (ne_of_none z hn)]; exact z
  frzs := fun b ob xs q => by have z := u.frzs b ob xs q; rw [upd_ne (ne_of_none z hn)]; exact z
  tbls := fun b ps q => by obtain ⟨m, z⟩ := u.tbls b ps q; exact ⟨m, by rw [upd_ne (ne_of_none z hn)]; exact z⟩

/-- what stands behind a comprehension's loop, ahead of the names' letting go -/
def CompDone (X : Cx) (pins : List (Addr × Obj)) (σ : St) (s₂ : Shared) (Q : VK) (D C : Addr) (s' : Shared) : Prop :=
  ∃ (ys : List V) (H' : Hp) (m : Str → Option Value), Inv X pins σ (upd H' D (.lst ys)) s' ∧ s'.heap.Ns C m ∧ H' C = none ∧ C ≠ D ∧ s₂.heap.objs.size ≤ C ∧ Q (.ref D) (upd H' D (.lst ys))

abbrev never : Value → Shared → Prop := fun _ _ => False
/-- an item taken up: bound, tested, its element put behind the others; Z stands behind it -/
def TakenUp (M : Model) (A : Around) (target elt : Expr) (ifs : List Expr) (it acc : Value) (env : Env) (Z : Shared → Prop) (v : Value) (s : Shared) : Prop :=
  wpAny M A (letOwnedTupleGo target it v) (fun _ => wpAny M A (assign target env v) (fun _ => wpAny M A (forIn ifs true fun c r => if r = true then do let ok ← isTrue c env (eval c env); pure (ForInStep.yield ok) else pure (ForInStep.yield r))
    (fun ok t => if ok = true then wpAny M A (eval elt env) (fun x => wpAny M A (call (.builtin "list.append") [acc, x]) (fun _ => Z) never) never t else Z t) never) never) never s
/-- a comprehension's loop that nothing leaves by an error -/
theorem comp_turns {P : Program} {W : World} {A : Around} {R : Result → Shared → Prop} {elt target iter : Expr} {ifs : List Expr} {scope : Scope} {pos : Pos} {it acc : Value} {env : Env} (I : Nat → Shared → Prop)
    (turn : ∀ n t, I n t → wpAny (model P W) A (pyNext it) (fun r => r.elim (R (.ok .next)) fun v => TakenUp (model P W) A target elt ifs it acc env (fun t => ∃ m, m < n ∧ I m t) v) never t) {n : Nat} {s : Shared} (start : I n s) :
    codeAny (model P W) A (.compLoop (.ListComp elt [⟨target, iter, ifs, 0⟩] scope pos) 0 it acc env) R s := by
  have lift : ∀ {α : Type} {t : Sem α} {Y Y' : α → Shared → Prop} {Ex : Value → Shared → Prop} {u : Shared}, wpAny (model P W) A t Y never u → (∀ x u', Y x u' → Y' x u') → wpAny (model P W) A t Y' Ex u := fun h f => wpAny_mono h f fun _ _ z => z.elim
  apply codeAny_loop rfl I ?_ n start
  intro k t hk
  apply wpAny_noted
  rw [compTurn_list]
  apply wpAny_bind
  apply wpAny_standAt
  apply wpAny_bind
  apply lift (turn k t hk)
  intro r t1 h1
  match r, h1 with
  | none, h1 => exact wpAny_pure h1
  | some v, h1 =>
    apply wpAny_bind
    apply lift h1
    intro _ t2 h2
    apply wpAny_bind
    apply lift h2
    intro _ t3 h3
    apply wpAny_bind
    apply lift h3
    intro ok t4 h4
    match ok, h4 with
    | false, h4 => exact wpAny_pure ⟨rfl, h4⟩
    | true, h4 =>
      apply wpAny_bind
      apply wpAny_bind
      apply lift h4
      intro x t5 h5
      apply wpAny_bind
      apply lift h5
      intro _ t6 h6
      exact wpAny_pure (wpAny_pure ⟨rfl, h6⟩)
/-- two places just taken: a list at the first, names at the second -/
structure TwoNew (h h1 : Heap) (l : Obj) (C : Addr) : Prop where
  next : C = h.objs.size + 1
  olds : ∀ b o, h.get? b = some o → h1.get? b = some o
  list : h1.get? h.objs.size = some l
theorem TwoNew.of {h h1 : Heap} {l d : Obj} (free : l.isFreed = false) (sb : Heap.SameBut (h.push l).objs.size ((h.push l).push d) h1) : TwoNew h h1 l (h.push l).objs.size := by
  have nx : (h.push l).objs.size = h.objs.size + 1 := Heap.size_push ..
  have stays : ∀ b o, b < h.objs.size + 1 → (h.push l).get? b = some o → h1.get? b = some o := fun b o lt e => (sb.2 b (by rw [nx]; exact Nat.ne_of_lt lt)).trans (Heap.get?_push_of_some _ e)
  exact ⟨nx, fun b o e => stays b o (Nat.lt_succ_of_lt (Heap.lt_size e)) (Heap.get?_push_of_some _ e), stays _ _ (Nat.lt_succ_self _) (Heap.get?_push_size _ free)⟩

structure CompOk (X : Cx) (scope : Scope) (N' : List Str) (k : Nat) (cap : List Nat) : Prop where
  nocell : ∀ y ∈ scope.names, y.2 ≠ .cell
  kind : scope.kind = .function
  names : ∀ y ∈ scope.names, y.2 = .local → scope.names.lookup y.1 = some .local
  free : ∀ y ∈ scope.names, y.2 = .free → X.env.kindOf y.1 = some .cell ∨ X.env.kindOf y.1 = some .free
  len : N'.length = k + cap.length
  cap : ∀ (j i : Nat) (y : Str), cap[j]? = some i → N'[k + j]? = some y → X.N[i]? = some y ∧ scope.names.lookup y = some .free

/-- .. looked at -/
def compB (sc : Scope) (N : List Str) (scope : Scope) (N' : List Str) (k : Nat) (cap : List Nat) : Bool :=
  scope.names.all (fun y => y.2 != .cell) && scope.kind == .function && scope.names.all (fun y => y.2 != .local || scope.names.lookup y.1 == some .local) &&
  scope.names.all (fun y => y.2 != .free || (sc.names.lookup y.1 == some .cell || sc.names.lookup y.1 == some .free)) && N'.length == k + cap.length &&
  (cap.zip (N'.drop k)).all fun p => N[p.1]? == some p.2 && scope.names.lookup p.2 == some .free
theorem CompOk.of {X : Cx} {sc : Scope} {N : List Str} {scope : Scope} {N' : List Str} {k : Nat} {cap : List Nat} (hsc : X.env.scope = sc) (hN : X.N = N) (h : compB sc N scope N' k cap = true) : CompOk X scope N' k cap := by
  unfold compB at h
  simp only [Bool.and_eq_true] at h
  obtain ⟨⟨⟨⟨⟨h1, h2⟩, h3⟩, h4⟩, h5⟩, h6⟩ := h
  rw [List.all_eq_true] at h1 h3 h4 h6
  refine ⟨fun y hy => by simpa using h1 y hy, eq_of_beq h2, fun y hy e => ?_, fun y hy e => ?_, eq_of_beq h5, fun j i y e1 e2 => ?_⟩
  · have z := h3 y hy
    rw [e] at z
    simpa using z
  · have z := h4 y hy
    rw [e] at z
    have z' : (sc.names.lookup y.1 == some .cell || sc.names.lookup y.1 == some .free) = true := by simpa using z
    rw [Bool.or_eq_true] at z'
    unfold Env.kindOf
    rw [hsc]
    exact z'.imp eq_of_beq eq_of_beq
  · have hm : (i, y) ∈ cap.zip (N'.drop k) := by
      refine List.mem_of_getElem? (i := j) ?_
      rw [List.getElem?_zip_eq_some]
      exact ⟨e1, by rw [List.getElem?_drop]; exact e2⟩
    have z := h6 _ hm
    rw [Bool.and_eq_true] at z
    rw [hN]
    exact ⟨eq_of_beq z.1, eq_of_beq z.2⟩

section
variable {X : Cx} {pins : List (Addr × Obj)} {σ : St} {H : Hp} {s₂ : Shared} {scope : Scope} {N' : List Str} {k : Nat} {cap : List Nat}
theorem Inv.compOk {ex : List Addr} {C : Addr} (I : Inv X pins σ H s₂) (O : CompOk X scope N' k cap) (hC : s₂.heap.objs.size ≤ C) (hex : ∀ b ∈ ex, FpOk X pins H b) (hlt : ∀ b ∈ ex, b < s₂.heap.objs.size) : (compCx X scope N' C s₂ H ex).Ok := by
  have sub : ∀ x c, (clOf scope X.env).lookup x = some c → X.env.cells.lookup x = some c := fun x c h => clOf_sub h
  refine ⟨I.ok.mod, O.kind, I.ok.glob, I.ok.blt, hC, fun x y c h1 h2 => I.ok.inj x y c (sub x c h1) (sub y c h2), fun x hx => ?_, fun x c hf => absurd hf Bool.false_ne_true, I.ok.hd, fun h => ?_, I.ok.frames, .inl rfl, fun b hb => ⟨?_, fun x c e => (hex b hb).2.2.2.2.1 x c (sub x c e)⟩, I.bs, Nat.le_trans I.ok.bsz I.sz, fun b o e hb => ?_, fun b hb z => ?_, I.stack, I.stkFree⟩
  · have hm := lookup_relabel_inv (env := X.env) O.nocell hx
    obtain ⟨c, hc⟩ := I.ok.has x (O.free _ hm rfl)
    exact ⟨c, clOf_has hc hm⟩
  · rcases I.ok.hk h with z | ⟨ea, oe, u, vs, a1, a2, a3, a4⟩
    · exact .inl z
    · exact .inr ⟨ea, oe, u, vs, a1, I.base.frzs ea oe u a2, a3, a4⟩
  · exact Nat.ne_of_lt (Nat.lt_of_lt_of_le (hlt b hb) hC)
  · obtain ⟨_, _, _, h4, _⟩ := hex b hb
    rcases h4 with h4 | h4
    · exact I.ok.noex b o e h4
    · exact absurd (Nat.lt_of_lt_of_le (Nat.lt_of_lt_of_le (Heap.lt_size e) I.ok.bsz) h4) (Nat.lt_irrefl _)
  · rcases List.mem_cons.mp (I.stkSub b z) with e | e
    · exact (hex b hb).2.1 e
    · exact (hex b hb).2.2.1 e

variable {tg elt iter : Expr} {ifs : List Expr} {pos : Pos} {g : TG} {tc : TT} {te : TE} {it : Addr} {fp : List Addr} {tn : Nat → Heap → Prop} {J : It} {Q : VK} {RR : Value → Addr → Result → Shared → Prop} {E : Value → Shared → Prop}
theorem comp_block (I2 : Inv X pins σ H s₂) (O : CompOk X scope N' k cap) (T : Turn X.prog X.w X.K X.calm X.know tg J fp it tn) (st : tn 0 s₂.heap) (hf : ∀ b ∈ fp, FpOk X pins H b)
    (hg : ∀ C s₀ H₀ ex, PG (compCx X scope N' C s₀ H₀ ex) tg g) (gk : GK k g) (hi : ∀ C s₀ H₀ ex, PF (compCx X scope N' C s₀ H₀ ex) ifs tc) (he : ∀ C s₀ H₀ ex, PE (compCx X scope N' C s₀ H₀ ex) elt te)
    (hw : CompW J k cap g tc te σ H Q)
    (hRR : ∀ D C s', CompDone X pins σ s₂ Q D C s' → RR (.ref D) C (.ok .next) s') :
    wpAny (model X.prog X.w) X.A (newList []) (fun acc s₃ => wpAny (model X.prog X.w) X.A (newFunctionEnv scope X.env.globals (clOf scope X.env) [] X.env.qual none .none (some X.env)) (fun cenv s₄ =>
      codeAny (model X.prog X.w) X.A (.compStart (.ListComp elt [⟨tg, iter, ifs, 0⟩] scope pos) 0 (.ref it) acc { cenv with scope := relabel scope X.env }) (RR acc cenv.locals) s₄) E s₃) E s₂ := by
  obtain ⟨W, ⟨m0, w0⟩, turn⟩ := hw
  refine wpAny_newObj_type (wpAny_newFunctionEnv O.nocell (by intro y hy; simp at hy) (fun h₁ hns₁ hsb₁ => ?_) O.kind)
  dsimp only at hns₁ hsb₁ ⊢
  have new2 := TwoNew.of rfl hsb₁
  generalize s₂.heap.push { cls := .type "list", dict := none, data := .seq ([] : List Value).toArray } = H2 at hns₁ hsb₁ new2 ⊢
  have hDC : s₂.heap.objs.size ≠ H2.objs.size := Nat.ne_of_lt (new2.next ▸ Nat.lt_succ_self _)
  have hCle : s₂.heap.objs.size ≤ H2.objs.size := new2.next ▸ Nat.le_succ _
  have below : ∀ b, b < s₂.heap.objs.size → b ≠ H2.objs.size ∧ b ≠ s₂.heap.objs.size := fun b lt => ⟨Nat.ne_of_lt (Nat.lt_of_lt_of_le lt hCle), Nat.ne_of_lt lt⟩
  have old := new2.olds
  have hacc := new2.list
  have hlt : ∀ b ∈ fp, b < s₂.heap.objs.size := fun b hb => by
    obtain ⟨o, e, _⟩ := T.obj 0 _ st b hb
    exact Heap.lt_size e
  have cellLt : ∀ x c, X.env.cells.lookup x = some c → c < s₂.heap.objs.size := fun x c e => by
    obtain ⟨v, o, ho, _⟩ := I2.cell x c e
    exact Heap.lt_size ho
  have okY : (compCx X scope N' H2.objs.size s₂ H fp).Ok := I2.compOk O hCle hf hlt
  have I4 : Inv (compCx X scope N' H2.objs.size s₂ H fp) [] (capσ k cap σ) H { s₂ with heap := h₁, toks := s₂.toks + ([] : List (Str × Value)).length } := by
    refine ⟨okY, rfl, I2.bare, Un.kept old, ⟨_, hns₁, fun j x v e1 e2 e3 => ?_⟩, fun x c e => ?_, I2.hok.fresh hCle, fun x c e => I2.freeC x c (clOf_sub e), fun p hp => absurd (show p ∈ ([] : List (Addr × Obj)) from hp) (by simp), I2.hok.kept old, ?_⟩
    · have e1 : N'[j]? = some x := e1
      by_cases hj : j < k
      · unfold capσ at e2
        rw [List.getElem?_append_left (by simpa using hj), List.getElem?_replicate] at e2
        simp [hj] at e2
      · obtain ⟨d, rfl⟩ : ∃ d, j = k + d := ⟨j - k, by omega⟩
        unfold capσ at e2
        rw [List.getElem?_append_right (by simp), List.getElem?_map] at e2
        simp only [List.length_replicate, Nat.add_sub_cancel_left] at e2
        cases hd : cap[d]? with
        | none => rw [hd] at e2; simp at e2
        | some i =>
          rw [hd] at e2
          simp only [Option.map_some, Option.some.injEq] at e2
          obtain ⟨hi1, hi2⟩ := O.cap d i x hd e1
          have hσ : σ[i]? = some (some v) := by
            cases q : σ[i]? with
            | none => rw [q] at e2; simp at e2
            | some o => rw [q] at e2; simp at e2; rw [e2]
          have hm := PySem.mem_of_lookup hi2
          have hk := O.free _ hm rfl
          obtain ⟨m, hn, hl⟩ := I2.loc
          obtain ⟨u, r, l⟩ := hl i x v hi1 hσ (hk.elim (fun z => .inr (.inl z)) fun z => .inr (.inr z))
          rcases l with ⟨z, _⟩ | ⟨_, c, e, oc, hoc, hcd⟩
          · rcases hk with z' | z' <;> (have z2 := z.symm.trans z'; cases z2)
          · exact ⟨u, r, .inr ⟨lookup_relabel_free hi2, c, clOf_has e hm, oc, old _ _ hoc, hcd⟩⟩
    · obtain ⟨v, oc, hoc, hcd⟩ := I2.cell x c (clOf_sub e)
      exact ⟨v, oc, old _ _ hoc, hcd⟩
    · unfold capσ
      rw [List.length_append, List.length_replicate, List.length_map]
      exact O.len.symm
  have freeC : ∀ {H' : Hp} {s' : Shared} {pins' σ'}, Inv (compCx X scope N' H2.objs.size s₂ H fp) pins' σ' H' s' → H' H2.objs.size = none := fun I => I.free
  have stNot : ∀ b, s₂.heap.objs.size ≤ b → b ∉ (compCx X scope N' H2.objs.size s₂ H fp).fs := fun b hb hm => by
    obtain ⟨_, o, ho, _⟩ := (okY.funs).mem hm
    exact absurd (Nat.lt_of_lt_of_le (Heap.lt_size ho) hb) (Nat.lt_irrefl _)
  have fpNot : ∀ b ∈ fp, b ∉ (compCx X scope N' H2.objs.size s₂ H fp).fs := fun b hb => okY.exfs b hb
  have cellsNe : ∀ b, s₂.heap.objs.size ≤ b → ∀ x c, (compCx X scope N' H2.objs.size s₂ H fp).env.cells.lookup x = some c → c ≠ b := fun b hb x c e => Nat.ne_of_lt (Nat.lt_of_lt_of_le (cellLt x c (clOf_sub e)) hb)
  -- the word's setting between two turns
  have weakσ : ∀ {pins' : List (Addr × Obj)} {σ' : St} {H' : Hp} {s' : Shared}, Inv (compCx X scope N' H2.objs.size s₂ H fp) pins' σ' H' s' → σ'.length = (capσ k cap σ).length → (∀ j : Nat, k ≤ j → σ'[j]? = (capσ k cap σ)[j]?) → Inv (compCx X scope N' H2.objs.size s₂ H fp) pins' (capσ k cap σ) H' s' := fun {pins' σ' H' s'} I hl hj =>
    I.weak hl.symm fun j v e => by
      by_cases hk : k ≤ j
      · rw [hj j hk]; exact e
      · unfold capσ at e
        rw [List.getElem?_append_left (by rw [List.length_replicate]; omega), List.getElem?_replicate] at e
        simp [Nat.not_le.mp hk] at e
  have loop : ∀ t : Shared, t = { s₂ with heap := h₁, toks := s₂.toks + ([] : List (Str × Value)).length } →
      codeAny (model X.prog X.w) X.A (.compLoop (.ListComp elt [⟨tg, iter, ifs, 0⟩] scope pos) 0 (.ref it) (.ref s₂.heap.objs.size) (compEnvC scope (clOf scope X.env) H2.objs.size X.env)) (RR (.ref s₂.heap.objs.size) H2.objs.size) t := by
    rintro t rfl
    refine comp_turns (fun n s' => ∃ (i : Nat) (ys : List V) (H' : Hp) (its : List Value) (c : Nat), Inv (compCx X scope N' H2.objs.size s₂ H fp) [] (capσ k cap σ) H' s' ∧ tn i s'.heap ∧ (∀ b ∈ fp, H' b = none) ∧ H' s₂.heap.objs.size = none ∧
        s'.heap.get? s₂.heap.objs.size = some { cls := .type "list", data := .seq its.toArray c } ∧ Vals ys its ∧ W i n ys H') ?_ (n := m0)
      ⟨0, [], H, [], 0, I4, T.keep _ _ _ st fun b hb o e => old b o e, fun b hb => (hf b hb).1, I2.hok.fresh (Nat.le_refl _), hacc, .nil, w0⟩
    rintro n s3 ⟨i, ys, H3, its, c, I3, st3, fr3, hD3, hL3, rv, w3⟩
    have I3' : Inv (compCx X scope N' H2.objs.size s₂ H fp) [(s₂.heap.objs.size, { cls := .type "list", data := .seq its.toArray c })] (capσ k cap σ) H3 s3 := I3.pins_of fun p hp => by
      have e := List.mem_singleton.mp hp
      subst e
      exact ⟨hL3, hD3, hDC, stNot _ (Nat.le_refl _), fun v z => by have z' : Data.seq its.toArray c = Data.cell v := z; cases z'⟩
    have fpY : ∀ {H' : Hp}, (∀ b ∈ fp, H' b = none) → ∀ b ∈ fp, FpOk (compCx X scope N' H2.objs.size s₂ H fp) [(s₂.heap.objs.size, { cls := .type "list", data := .seq its.toArray c })] H' b := fun {H'} hn b hb =>
      ⟨hn b hb, (below b (hlt b hb)).1, fpNot b hb, .inl hb, (okY.exf b hb).2, fun p hp => by
        have e : p = (s₂.heap.objs.size, { cls := .type "list", data := .seq its.toArray c }) := List.mem_singleton.mp hp
        subst e
        exact Ne.symm (below b (hlt b hb)).2⟩
    rcases turn i n ys H3 w3 with ⟨stop, hz, q⟩ | ⟨go, hz, N, hNN, step⟩
    · refine thn (T.done (compCx X scope N' H2.objs.size s₂ H fp) rfl rfl rfl rfl rfl i _ s3 _ H3 (fun _ _ => False) I3' (fpY fr3) st3 stop) fun r s4 ⟨hr, I4'⟩ => ?_
      subst hr
      have pD := I4'.pin _ (List.mem_append_right _ (List.mem_singleton.mpr rfl))
      obtain ⟨mC, hnC, _⟩ := I4'.loc
      refine hRR _ _ s4 ⟨ys, H3, mC, ?_, hnC, I4'.free, Ne.symm hDC, hCle, q _ hD3⟩
      exact I2.call' (ch := fp) I4'.os (I4'.base.adopt (Heap.get?_none_of_le (Nat.le_refl _)) hD3) (I4'.hok.adopt hD3 ⟨hz, its, c, rv, pD.1⟩) I4'.bare fun b hb => ⟨(hf b hb).2.2.2.1, (hf b hb).2.1, (hf b hb).2.2.2.2.1, (hf b hb).2.2.2.2.2⟩
    · refine thn (T.item (compCx X scope N' H2.objs.size s₂ H fp) rfl rfl rfl rfl rfl i _ s3 _ H3 (fun _ _ => False) I3' (fpY fr3) st3 go) fun r s4 ⟨u, hr, h4⟩ => ?_
      subst hr
      refine thn h4 fun _ s5 ⟨x, H5, I5, r5, y5, st5, fr5⟩ => ?_
      have I5' := I5.pinned (fpY fr5) (T.obj _ _ st5)
      refine thn (hg H2.objs.size s₂ H fp _ s5 _ H5 x u _ I5' r5 (gk _ _ _ _ _ rfl (fun _ _ => rfl) (step x H5 y5))) fun _ s6 ⟨σ6, H6, I6, q6, l6, k6⟩ => ?_
      refine thn (hi H2.objs.size s₂ H fp _ s6 σ6 H6 _ I6 q6) fun ok s7 ⟨H7, I7, q7⟩ => ?_
      have iters : ∀ {H' : Hp} {s' : Shared} {σ' : St}, Inv (compCx X scope N' H2.objs.size s₂ H fp) ([(s₂.heap.objs.size, ({ cls := .type "list", data := .seq its.toArray c } : Obj))] ++ pinsAt fp s5.heap) σ' H' s' → tn (i + 1) s'.heap ∧ (∀ b ∈ fp, H' b = none) := fun {H' s' σ'} I =>
        ⟨T.keep _ _ _ st5 fun b hb o e => (I.pin (b, o) (List.mem_append_right _ (List.mem_append_right _ (mem_pinsAt hb e)))).1, fun b hb => by
          obtain ⟨o, e, d⟩ := T.obj _ _ st5 b hb
          exact (I.pin (b, o) (List.mem_append_right _ (List.mem_append_right _ (mem_pinsAt hb e)))).2.1⟩
      cases ok with
      | false =>
        rw [if_neg Bool.false_ne_true] at q7
        obtain ⟨m', hm, w7⟩ := hNN _ _ q7
        have pD := I7.pin _ (List.mem_append_right _ (List.mem_append_left _ (List.mem_singleton.mpr rfl)))
        exact ⟨m', hm, i + 1, ys, H7, its, c, weakσ (I7.pins_of fun p hp => nomatch hp) l6 k6, (iters I7).1, (iters I7).2, pD.2.1, pD.1, rv, w7⟩
      | true =>
        rw [if_pos rfl] at q7
        refine thn (he H2.objs.size s₂ H fp _ s7 σ6 H7 _ I7 q7) fun v s8 ⟨y, H8, I8, r8, q8⟩ => ?_
        obtain ⟨m', hm, w8⟩ := hNN _ _ q8
        have pD := I8.pin _ (List.mem_append_right _ (List.mem_append_left _ (List.mem_singleton.mpr rfl)))
        have hsz : its.toArray.size ≤ sizeLine := by rw [List.size_toArray, ← rv.length]; exact Nat.le_of_lt hz
        refine append_at (hsz := hsz) pD.1 fun h9 sb9 hD9 => ?_
        have I9 : Inv (compCx X scope N' H2.objs.size s₂ H fp) [] σ6 H8 { s8 with heap := h9 } := (I8.pins_of (pins' := []) fun p hp => nomatch hp).turned (t' := s8.toks) (fun b o hb e => (sb9.2 b hb).trans e) pD.2.1 hDC (.inr (Nat.le_refl _)) (cellsNe _ (Nat.le_refl _))
          fun p hp => absurd (show p ∈ ([] : List (Addr × Obj)) from hp) (by simp)
        refine ⟨m', hm, i + 1, ys ++ [y], H8, its ++ [v], c + 1, weakσ I9 l6 k6, T.keep _ _ _ (iters I8).1 fun b hb o e => (sb9.2 b (below b (hlt b hb)).2).trans e, (iters I8).2, pD.2.1, ?_, rv.append (.cons r8 .nil), w8⟩
        rw [hD9]
        simp
  exact codeAny_compStart_list (loop _ rfl) (T.self _ 0 _ _ _ (T.keep _ _ _ st fun b hb o e => old b o e) (loop _ rfl))
end

section
variable {X : Cx} {scope : Scope} {N' : List Str} {k : Nat} {cap : List Nat} {tg elt iter : Expr} {ifs : List Expr} {pos : Pos} {wi : TI} {g : TG} {tc : TT} {te : TE}
theorem CompDone.gone {pins : List (Addr × Obj)} {σ : St} {H : Hp} {s₂ s' : Shared} {Q : VK} {D C : Addr} {h' : Heap} {H' : Hp} {σ' : St} {s'' : Shared} (I2 : Inv X pins σ H s₂) (I' : Inv X pins σ' H' s'') (hC0 : H' C = none) (hle : s₂.heap.objs.size ≤ C)
    (sb : Heap.SameBut C s''.heap h') : Inv X pins σ' H' { s'' with heap := h' } :=
  I'.turned (t' := s''.toks) (fun b o hb e => (sb.2 b hb).trans e) hC0 (Nat.ne_of_gt (Nat.lt_of_lt_of_le I2.lt hle)) (.inr (Nat.le_trans I2.sz hle)) (fun x c e => by
    obtain ⟨v, o, ho, _⟩ := I2.cell x c e
    exact Nat.ne_of_lt (Nat.lt_of_lt_of_le (Heap.lt_size ho) hle)) fun p hp => Nat.ne_of_lt (Nat.lt_of_lt_of_le (Heap.lt_size (I2.pin p hp).1) hle)
/-- [e for target in iter if ..] -/
theorem pe_comp (O : CompOk X scope N' k cap) (hi : PI X tg iter wi) (hg : ∀ C s₀ H₀ ex, PG (compCx X scope N' C s₀ H₀ ex) tg g) (gk : GK k g) (hf : ∀ C s₀ H₀ ex, PF (compCx X scope N' C s₀ H₀ ex) ifs tc)
    (he : ∀ C s₀ H₀ ex, PE (compCx X scope N' C s₀ H₀ ex) elt te) (hs : ∀ x, foldedSetIterable iter X.env x = pure x := by intro _; rfl) : PE X (.ListComp elt [⟨tg, iter, ifs, 0⟩] scope pos) (tComp k cap wi g tc te) := by
  intro pins s σ H Q I h
  rw [eval_ListComp]
  refine wpAny_comprehension_free (use := none) rfl hs (closureFor_cl fun p hp hf => I.ok.has _ (O.free p hp hf)) O.kind O.names (thn (hi pins s σ H _ I h) fun v s1 h1 => thn h1 fun itv s2 h2 => ?_)
  obtain ⟨it, fp, tn, J, H2, e, I2, T, st2, f2, hw⟩ := h2
  subst e
  refine comp_block (RR := fun acc C => compPost (model X.prog X.w) X.A X.xe none (EP X pins σ Q) acc C) I2 O T st2 f2 hg gk hf he hw fun D C s' ⟨ys, H', m, I', hn, hC0, hCD, hle, q⟩ => ⟨m, hn, fun h' sb => ?_⟩
  exact ⟨.ref D, _, CompDone.gone (Q := Q) (D := D) (s' := s') I2 I' (by rw [upd_ne hCD]; exact hC0) hle sb, rfl, q⟩
/-- x = [e for ..], x a local of the same line: the name is stored ahead of the block's end -/
theorem ps_setComp {i : Nat} {y : Str} {py spos : Pos} (hN : X.N.Nodup) (hy : X.N[i]? = some y) (hl : X.env.scope.names.lookup y = some .local) (O : CompOk X scope N' k cap) (hi : PI X tg iter wi)
    (hg : ∀ C s₀ H₀ ex, PG (compCx X scope N' C s₀ H₀ ex) tg g) (gk : GK k g) (hf : ∀ C s₀ H₀ ex, PF (compCx X scope N' C s₀ H₀ ex) ifs tc) (he : ∀ C s₀ H₀ ex, PE (compCx X scope N' C s₀ H₀ ex) elt te)
    (hsw : swapsWith (.ListComp elt [⟨tg, iter, ifs, 0⟩] scope pos) (some (.Name y py)) spos.line X.env = pure true := by rfl) (hs : ∀ x, foldedSetIterable iter X.env x = pure x := by intro _; rfl) :
    PS X (.Assign [.Name y py] (.ListComp elt [⟨tg, iter, ifs, 0⟩] scope pos) spos) (tAsg (tComp k cap wi g tc te) (gName i)) := by
  intro pins s σ H Dn I h
  rw [exec_Assign_Name_used _ _ _ _ hsw]
  refine wpAny_bind (wpAny_standAt (wpAny_bind ?_))
  show wpAny _ X.A (do let _ ← comprehension (.ListComp elt [⟨tg, iter, ifs, 0⟩] scope pos) scope X.env _ (newList []) false (eval iter X.env) (some (assign (.Name y py) X.env))) _ _ s
  refine wpAny_bind (thn (Q := fun _ s' => SP X pins Dn .next s') (wpAny_comprehension_free (use := some (assign (.Name y py) X.env)) rfl hs (closureFor_cl fun p hp hf => I.ok.has _ (O.free p hp hf)) O.kind O.names (thn (hi pins s σ H _ I h) fun v s1 h1 => thn h1 fun itv s2 h2 => ?_)) fun _ s' hq => wpAny_pure (wpAny_pure hq))
  obtain ⟨it, fp, tn, J, H2, e, I2, T, st2, f2, hw⟩ := h2
  subst e
  refine comp_block (Q := fun v H1 => gName i v σ H1 Dn.nx) (RR := fun acc C => compPost (model X.prog X.w) X.A X.xe (some (assign (.Name y py) X.env)) (fun _ s' => SP X pins Dn .next s') acc C) I2 O T st2 f2 hg gk hf he hw fun D C s' ⟨ys, H', m, I', hn, hC0, hCD, hle, q⟩ => ?_
  show wpAny _ X.A (assign (.Name y py) X.env (.ref D)) _ _ _
  refine wpAny_assign_Name (store_ok2 (v := .ref D) I' hN hy (.inl hl) rfl (fun s2' I2' ⟨a, sb, ha⟩ => ?_) (.inr hl))
  have hCL : C ≠ a := by
    rcases ha with rfl | ha
    · exact Nat.ne_of_gt (Nat.lt_of_lt_of_le I2.lt hle)
    · obtain ⟨v, o, ho, _⟩ := I2.cell _ _ ha
      exact Nat.ne_of_gt (Nat.lt_of_lt_of_le (Heap.lt_size ho) hle)
  exact ⟨m, hn.sameBut sb hCL, fun h' sb' => ⟨_, _, CompDone.gone (Q := fun _ _ => True) (D := D) (s' := s') I2 I2' (by rw [upd_ne hCD]; exact hC0) hle sb', q⟩⟩
end
end L2

set_option Elab.async false
set_option linter.all false
set_option maxRecDepth 100000
set_option maxHeartbeats 4000000
namespace L2
open PySem PySem.Spec PyProof.Rows

/-- behind a frame's note: the record at e has a new traceback (its flight told off), the old one (hd) may have turned, the frames at fs up to slots, all else as it was -/
def Noted (fs : List Addr) (e : Addr) (hd : Value) (c : Value) (dd : Option Addr) (vs : Array Value) (h h' : Heap) : Prop :=
  (∀ b o, b ≠ e → Value.ref b ≠ hd → b ∉ fs → h.get? b = some o → h'.get? b = some o) ∧
  (∀ b o, b ∈ fs → h.get? b = some o → ∃ sl, h'.get? b = some { o with slots := sl }) ∧
  ∃ (T : Addr) (vs' : Array Value) (sl : Array (Option Value)) (oT : Obj) (ts : Array Value), h.objs.size ≤ T ∧ h'.get? e = some ⟨c, dd, .fields vs', sl⟩ ∧ vs'[1]? = some (.ref T) ∧ vs'[2]? = vs[2]? ∧ T ≠ e ∧ h'.get? T = some oT ∧ oT.data = .fields ts ∧ ts[3]? = some .none

section
variable {M : Model} {A : Around} {E : Value → Shared → Prop} {s : Shared} {env : Env} {outer : List Env} {L e : Addr} {base : Heap} {c : Value} {dd : Option Addr} {vs : Array Value} {sl0 : Array (Option Value)}
/-- a field of a record is put anew -/
theorem fld_set {a : Addr} {ws : Array Value} {k : Nat} {x : Value} {Q : Unit → Shared → Prop} (ha : s.heap.get? a = some ⟨c, dd, .fields ws, sl0⟩) (hk : k < ws.size)
    (hQ : ∀ h', h'.get? a = some ⟨c, dd, .fields (ws.setIfInBounds k x), sl0⟩ → Heap.SameBut a s.heap h' → Q () { s with heap := h' }) : wpAny M A (setField (.ref a) k x) Q E s :=
  wpAny_setField ha rfl hk (hQ _ (Heap.get?_update_self _ ha rfl) (Heap.SameBut.update ..))
/-- a traceback's record is put down -/
theorem tb_new {head fr : Value} {pl : List Value} {Q : Value → Shared → Prop} (hpl : IsPlace pl)
    (hQ : ∀ h' ws, 3 < ws.size → h'.get? s.heap.objs.size = some { cls := .type "traceback", data := .fields ws } → (∀ b o, s.heap.get? b = some o → h'.get? b = some o) → Q (.ref s.heap.objs.size) { s with heap := h' }) :
    wpAny M A (EntryCells.newEntry head fr .none (rawInt L) .none pl) Q E s := by
  refine wpAny_newObj_type (hQ _ _ ?_ (Heap.get?_push_size _ rfl) fun b o e => Heap.get?_push_of_some _ e) (hpl.sizeOk5 ..)
  rw [List.size_toArray, List.length_append]
  exact Nat.lt_of_lt_of_le (by decide) (Nat.le_add_right 5 _)
/-- the flight of an exception's traceback is told off -/
theorem tb_land {T : Addr} {ws : Array Value} {Q : Unit → Shared → Prop} (he : s.heap.get? e = some ⟨c, dd, .fields vs, sl0⟩) (h1 : vs[1]? = some (.ref T)) (hT : s.heap.get? T = some { cls := .type "traceback", data := .fields ws }) (hw : 3 < ws.size)
    (hQ : ∀ h' oT ts, h'.get? T = some oT → oT.data = .fields ts → ts[3]? = some .none → Heap.SameBut T s.heap h' → Q () { s with heap := h' }) : wpAny M A (setFlight (.ref e) none) Q E s := by
  refine wpAny_bind (wpAny_field he rfl h1 ?_)
  show wpAny M A (setField (.ref T) 3 .none) Q E s
  exact fld_set hT hw fun h' q sb => hQ h' _ _ q rfl (by simp [hw]) sb
theorem entry_flight {head : Value} {had : Bool} {Q : Unit → Shared → Prop} (hfr : A.frames = some (env :: outer)) (hl : s.heap.FunFrames base (env :: outer)) (hf : env.frame = some L)
    (he : s.heap.get? e = some ⟨c, dd, .fields vs, sl0⟩) (hsz : 1 < vs.size)
    (hQ : ∀ h', Noted (frs (env :: outer)) e .none c dd vs s.heap h' → Q () { s with heap := h' }) :
    wpAny M A (do let a ← frameOf env; let pl ← entryPlaceOf L had; let b ← EntryCells.newEntry head a .none (rawInt L) .none pl; setField (.ref e) 1 b) (fun _ s' => wpAny M A (setFlight (.ref e) none) Q E s') E s := by
  have off : e ∉ frs (env :: outer) := fun m => by
    obtain ⟨_, ob, eb, nf⟩ := hl.mem m
    cases Option.some.inj (he.symm.trans eb)
    exact nf vs rfl
  refine wpAny_bind (wpAny_frameOf_fun hfr hl hf fun hA ⟨zA, kA, lA⟩ => wpAny_bind (wpAny_entryPlaceOf fun pl hpl => wpAny_bind (tb_new hpl fun hB ws hw tB kB => ?_)))
  dsimp only at tB kB
  have eA : hA.get? e = some ⟨c, dd, .fields vs, sl0⟩ := (kA e off).trans he
  have far : ∀ {b o}, hA.get? b = some o → b ≠ hA.objs.size := fun q => Nat.ne_of_lt (Heap.lt_size q)
  refine fld_set (s := { s with heap := hB }) (kB _ _ eA) hsz fun hC eC sC => tb_land (s := { s with heap := hC }) eC (T := hA.objs.size) (by simp [hsz]) ((sC.2 _ (far eA).symm).trans tB) hw fun hD oT ts tD dT t3 sD => hQ hD ?_
  have on : ∀ b o, b ≠ e → hA.get? b = some o → hD.get? b = some o := fun b o n q => (sD.2 b (far q)).trans ((sC.2 b n).trans (kB b o q))
  refine ⟨fun b o n _ nf q => on b o n ((kA b nf).trans q), fun b o m q => ?_, hA.objs.size, _, sl0, oT, ts, Nat.le_of_eq zA.symm, (sD.2 e (far eA)).trans eC, by simp [hsz], Array.getElem?_setIfInBounds_ne (by decide), (far eA).symm, tD, dT, t3⟩
  obtain ⟨sl, q'⟩ := lA b o q
  exact ⟨sl, on b _ (fun z => off (z ▸ m)) q'⟩
/-- an exception passes (or is looked at in) the frame of env -/
theorem note_flight {hd : Value} {Q : Unit → Shared → Prop} (hfr : A.frames = some (env :: outer)) (hl : s.heap.FunFrames base (env :: outer)) (hf : env.frame = some L)
    (he : s.heap.get? e = some ⟨c, dd, .fields vs, sl0⟩) (h1 : vs[1]? = some hd)
    (hhd : hd = .none ∨ ∃ T oT ts, hd = .ref T ∧ T ≠ e ∧ s.heap.get? T = some oT ∧ oT.data = .fields ts ∧ ts[3]? = some .none)
    (hQ : ∀ h', Noted (frs (env :: outer)) e hd c dd vs s.heap h' → Q () { s with heap := h' }) :
    wpAny M A (noteFrame (.ref e) env) (fun _ s' => wpAny M A (setFlight (.ref e) none) Q E s') E s := by
  have hsz := (Array.getElem?_eq_some_iff.mp h1).1
  simp only [noteFrame, hf]
  refine wpAny_bind (wpAny_field he rfl h1 ?_)
  obtain rfl | ⟨T, ⟨cT, dT, daT, sT⟩, ts, rfl, hTe, hT, hTd, h3⟩ := hhd
  · show wpAny M A (do let a ← frameOf env; _) _ E s
    exact entry_flight hfr hl hf he hsz hQ
  dsimp only at hTd
  subst hTd
  have un : ∀ {b o}, s.heap.get? b = some o → (∀ ws, o.data ≠ .fields ws) → b ≠ T := fun q nf z => by
    subst z
    cases Option.some.inj (hT.symm.trans q)
    exact nf ts rfl
  show wpAny M A (do let x ← field (.ref T) 3; _) _ E s
  refine wpAny_bind (wpAny_field hT rfl h3 ?_)
  have nq : (Value.none == rawInt (L : Nat)) = false := rfl
  rw [nq, if_neg Bool.false_ne_true]
  refine wpAny_bind (fld_set hT (Array.getElem?_eq_some_iff.mp h3).1 fun hA _ sb => ?_)
  refine entry_flight (s := { s with heap := hA }) (base := base) hfr (hl.of_keeps fun b o q nf => ⟨o, (sb.2 b (un q nf)).trans q, rfl⟩) hf ((sb.2 e hTe.symm).trans he) hsz fun h' ⟨n1, n2, T', vs', sl, oT', ts', b1, b2⟩ => hQ h' ⟨fun b o a1 a2 a3 a4 => n1 b o a1 nofun a3 ((sb.2 b fun q => a2 (q ▸ rfl)).trans a4), fun b o a1 a2 => n2 b o a1 ?_, T', vs', sl, oT', ts', sb.1 ▸ b1, b2⟩
  obtain ⟨_, ob, eb, nf⟩ := hl.mem a1
  exact (sb.2 b (un eb nf)).trans a2
end

theorem funFrames_sub {h h' base : Heap} : ∀ {l : List Env}, (∀ b ∈ frs l, ∀ o, h.get? b = some o → ∃ sl, h'.get? b = some { o with slots := sl }) → h.FunFrames base l → h'.FunFrames base l
  | [], _, _ => trivial
  | env :: r, k, ⟨hk, ⟨L, o, hf, hn, ho, hd⟩, hr⟩ => by
    have mL : L ∈ frs (env :: r) := by unfold frs; rw [List.filterMap_cons, hf]; exact List.mem_cons_self
    obtain ⟨sl, e⟩ := k L mL o ho
    exact ⟨hk, ⟨L, _, hf, hn, e, hd⟩, funFrames_sub (fun b hb => k b (by unfold frs; rw [List.filterMap_cons, hf]; exact List.mem_cons_of_mem _ hb)) hr⟩
theorem ObjOk.there {P : Program} {w : World} {H : Hp} {h : Heap} {a : Addr} {o : HO} (x : ObjOk P w H h a o) : ∃ ob, h.get? a = some ob := by
  cases o with
  | lst xs => obtain ⟨_, _, _, _, e⟩ := x; exact ⟨_, e⟩
  | tup xs => obtain ⟨_, _, _, ob, e, _⟩ := x; exact ⟨_, e⟩
  | dK kvs => obtain ⟨_, _, _, _, o, _, _, e, _⟩ := x; exact ⟨_, e⟩
  | dT kvs => obtain ⟨_, _, _, _, o, _, _, e, _⟩ := x; exact ⟨_, e⟩
  | set S n => obtain ⟨o, _, _, _, e, _⟩ := x; exact ⟨_, e⟩
  | ins C dx fs => obtain ⟨_, _, _, e, _⟩ := x; exact ⟨_, e⟩
  | own y => obtain ⟨_, e⟩ := x; exact ⟨_, e⟩
  | xd fs => obtain ⟨_, ⟨_, _, _, e, _⟩, _⟩ := x; exact ⟨_, e⟩
  | rng lo hi => obtain ⟨_, _, _, e⟩ := x; exact ⟨_, e⟩
  | frz ob u => obtain ⟨e, _⟩ := x; exact ⟨_, e⟩
  | tbl ps => exact ⟨_, (show h.get? a = some _ from x)⟩
  | met f y => exact ⟨_, (show h.get? a = some _ from x)⟩
  | ext φ => obtain ⟨_, ⟨_, e⟩, _⟩ := x; exact ⟨_, e⟩
theorem HOk.gone {P : Program} {w : World} {H : Hp} {h : Heap} {a : Addr} (x : HOk P w H h) (e : h.get? a = none) : H a = none := by
  cases q : H a with
  | none => rfl
  | some o => obtain ⟨ob, z⟩ := (x a o q).there; rw [z] at e; cases e

/-- an exception of the class c at ea, made since h0, nothing tracked; its traceback's flight is told off -/
def Flies (h0 : Heap) (H' : Hp) (ea : Addr) (c : Value) (h' : Heap) : Prop :=
  ∃ (vs : Array Value) (sl : Array (Option Value)) (T : Addr) (oT : Obj) (ts : Array Value), h'.get? ea = some ⟨c, none, .fields vs, sl⟩ ∧ vs[1]? = some (.ref T) ∧ vs[2]? = some .none ∧ T ≠ ea ∧ h'.get? T = some oT ∧ oT.data = .fields ts ∧ ts[3]? = some .none ∧
    h0.get? ea = none ∧ h0.get? T = none ∧ H' ea = none ∧ H' T = none
/-- how an exception of an own class lies behind a call -/
def CXE (P : Program) (w : World) : CXT := fun outer H s E e s' => ∃ (ea : Addr) (c : Value) (H' : Hp), e = .ref ea ∧ s'.os = s.os ∧ AllBare s'.gens ∧ Un (frs outer) [] H H' s.heap s'.heap ∧ HOk P w H' s'.heap ∧ Flies s.heap H' ea c s'.heap ∧ E c none H'

/-- an exception leaves the frame of a def -/
theorem leave_cx {P : Program} {w : World} {K : PySem.W.Frag} {mg : Str → Option Value} {base : Heap} {N : List Str} {qual : Str} {scope : Scope} {f : Addr} {cd : Value} {A : Around} {outer : List Env} {s : Shared} {H : Hp} {E : XK}
    {pins : List (Addr × Obj)} {σ : St} {H1 H' : Hp} {s1 s' : Shared} {ea : Addr} {c : Value} {vs : Array Value} {sl : Array (Option Value)} {hd : Value}
    (I : Inv (cxOf (CXE P w) P w K mg base N qual scope f cd A outer s H E) pins σ H1 s1) (hos : s'.os = s1.os) (hb : AllBare s'.gens) (u : Un (frs (cxOf (CXE P w) P w K mg base N qual scope f cd A outer s H E).stack) [] H1 H' s1.heap s'.heap) (hok : HOk P w H' s'.heap)
    (he : s'.heap.get? ea = some ⟨c, none, .fields vs, sl⟩) (h1 : vs[1]? = some hd) (h2 : vs[2]? = some .none) (hhd : hd = .none ∨ ∃ T oT ts, hd = .ref T ∧ T ≠ ea ∧ s'.heap.get? T = some oT ∧ oT.data = .fields ts ∧ ts[3]? = some .none)
    (n1 : s1.heap.get? ea = none) (n2 : ∀ T, hd = .ref T → s1.heap.get? T = none ∧ H' T = none) (n3 : H' ea = none) (q : E c none H') :
    (cxOf (CXE P w) P w K mg base N qual scope f cd A outer s H E).xe (.ref ea) s' := by
  show wpAny (model P w) (A.deeper (envOfC qual scope s.heap.objs.size f cd)) (leaving (envOfC qual scope s.heap.objs.size f cd) (.ref ea)) (fun _ s'' => CXE P w outer H s E (.ref ea) s'') (fun e' s'' => CXE P w outer H s E e' s'') s'
  generalize hX : cxOf (CXE P w) P w K mg base N qual scope f cd A outer s H E = X at I u
  have eA : X.A = A.deeper (envOfC qual scope s.heap.objs.size f cd) := by rw [← hX]; rfl
  have eEnv : X.env = envOfC qual scope s.heap.objs.size f cd := by rw [← hX]; rfl
  have eStk : X.stack = envOfC qual scope s.heap.objs.size f cd :: outer := by rw [← hX]; rfl
  have eOut : X.outer = outer := by rw [← hX]; rfl
  have eH : X.H₀ = H := by rw [← hX]; rfl
  have eS : X.s₀ = s := by rw [← hX]; rfl
  have eEx : X.ex = [] := by rw [← hX]; rfl
  have ePr : X.prog = P := by rw [← hX]; rfl
  have frNo : ∀ b ∈ frs X.stack, H' b = none := fun b hm => by
    obtain ⟨_, o, ho, _⟩ := I.stack.mem hm
    exact u.free b o ho (I.stkFree b hm) (by simp)
  have frm : s'.heap.FunFrames X.base X.stack := funFrames_sub (fun b hm o ho => u.any ho (I.stkFree b hm) (by simp)) I.stack
  have fr := I.ok.frames
  rw [eStk, eA] at fr
  rw [eStk] at frm
  have sub := I.stkSub
  have above := I.ok.above
  have bas := I.base
  unfold Cx.fs at sub bas
  rw [eOut, eEx, eH, eS] at bas
  rw [eOut, eStk] at sub
  rw [eS] at above
  rw [eStk] at u frNo
  have old : ∀ b o, s.heap.get? b = some o → (∃ o', s1.heap.get? b = some o') := fun b o e => bas.there b o e (by simp)
  have nOld : ∀ b o, s.heap.get? b = some o → b ≠ ea ∧ Value.ref b ≠ hd := fun b o e => by
    obtain ⟨o', z⟩ := old b o e
    exact ⟨(fun y => by rw [y, n1] at z; cases z), (fun y => by rw [(n2 b y.symm).1] at z; cases z)⟩
  have nLoc : ∀ b o, s.heap.get? b = some o → b ∉ frs outer → b ∉ frs (envOfC qual scope s.heap.objs.size f cd :: outer) := fun b o e nb hm => by
    rcases List.mem_cons.mp (sub b hm) with z | z
    · exact absurd (Nat.lt_of_lt_of_le (Heap.lt_size e) above) (by rw [z]; exact Nat.lt_irrefl _)
    · exact nb z
  unfold leaving
  refine wpAny_bind (note_flight (base := X.base) fr frm rfl he h1 hhd fun h'' ⟨k1, k2, T, vs', sl', oT, ts, b1, b2, b3, b4, b5, b6, b7, b8⟩ => ?_)
  have inStk : ∀ b, b ∈ frs outer → b ∈ frs (envOfC qual scope s.heap.objs.size f cd :: outer) := fun b hm => by unfold frs; rw [List.filterMap_cons]; exact List.mem_cons_of_mem _ hm
  refine ⟨ea, c, H', rfl, hos.trans (by rw [I.os, eS]), hb, ⟨fun b o e n nb hx => ?_, fun b o e n nb hx => ?_, fun b o e n hx => ?_, fun b o e hx => ?_, fun b xs e => u.tups b xs (bas.tups b xs e), fun b o v e => u.frzs b o v (bas.frzs b o v e), fun b ps e => ?_⟩, fun b o e => ?_, ⟨vs', sl', T, oT, ts, b2, b3, b4.trans h2, b5, b6, b7, b8, ?_, ?_, n3, hok.fresh b1⟩, q⟩
  · have e1 := bas.keep b o e n nb hx
    exact k1 b o (nOld b o e).1 (nOld b o e).2 (nLoc b o e nb) (u.keep b o e1 (bas.free b o e n hx) (nLoc b o e nb) (by simp))
  · obtain ⟨sl1, e1⟩ := bas.slot b o e n nb hx
    obtain ⟨sl2, e2⟩ := u.any e1 (bas.free b o e n hx) (by simp)
    obtain ⟨sl3, e3⟩ := k2 b _ (inStk b nb) e2
    exact ⟨sl3, e3⟩
  · obtain ⟨o', e1⟩ := bas.there b o e hx
    exact u.free b o' e1 (bas.free b o e n hx) (by simp)
  · obtain ⟨o', e1⟩ := bas.there b o e hx
    obtain ⟨o2, e2⟩ := u.there b o' e1 (by simp)
    by_cases hm : b ∈ frs (envOfC qual scope s.heap.objs.size f cd :: outer)
    · obtain ⟨sl3, e3⟩ := k2 b _ hm e2
      exact ⟨_, e3⟩
    · exact ⟨o2, k1 b o2 (nOld b o e).1 (nOld b o e).2 hm e2⟩
  · obtain ⟨m1, e1⟩ := bas.tbls b ps e
    obtain ⟨m2, e2⟩ := u.tbls b _ e1
    exact ⟨m1 ++ m2, by rw [e2, Array.append_assoc]⟩
  · have far : ∀ b o, H' b = some o → ∀ ob, s'.heap.get? b = some ob → h''.get? b = some ob := fun b o z ob y => k1 b ob (fun w => by rw [w, n3] at z; cases z) (fun w => by rw [(n2 b w.symm).2] at z; cases z) (fun w => by rw [frNo b w] at z; cases z) y
    refine (hok b o e).stay (fun cc ob hc y => ?_) (fun _ z => z) fun _ _ z => z
    rcases hc with rfl | hc
    · exact far _ _ e ob y
    · exact far _ _ hc ob y
  · cases z : s.heap.get? ea with
    | none => rfl
    | some o => exact absurd rfl (nOld ea o z).1
  · cases z : s.heap.get? T with
    | none => rfl
    | some o =>
      obtain ⟨o1, e1⟩ := old T o z
      obtain ⟨o2, e2⟩ := u.there T o1 e1 (by simp)
      exact absurd (Nat.lt_of_lt_of_le (Heap.lt_size e2) b1) (Nat.lt_irrefl _)
/-- what a body's context does with an exception of the class c: made here, or passed on by a callee -/
theorem passesE {P : Program} {w : World} {K : PySem.W.Frag} {mg : Str → Option Value} {base : Heap} {N : List Str} {qual : Str} {scope : Scope} {f : Addr} {cd : Value} {A : Around} {outer : List Env} {s : Shared} {H : Hp} {E : XK} :
    Passes (CXE P w) (cxOf (CXE P w) P w K mg base N qual scope f cd A outer s H E) E := fun pins σ H1 s1 e s' I h => by
  obtain ⟨ea, c, H', rfl, os, bare, un, hok, ⟨vs, sl, T, oT, ts, a1, a2, a3, a4, a5, a6, a7, a8, a9, a10, a11⟩, q⟩ := h
  exact leave_cx I os bare un hok a1 a2 a3 (.inr ⟨T, oT, ts, rfl, a4, a5, a6, a7⟩) a8 (fun T' z => by injection z with z; subst z; exact ⟨a9, a11⟩) a10 q
def Raises (X : Cx) (E : XK) : Prop := ∀ (pins : List (Addr × Obj)) (σ : St) (H : Hp) (s : Shared) (ea : Addr) (c : Value) (args : List Value) (h' : Heap), Inv X pins σ H s → Heap.MadeExcOf s.heap h' ea c args → E c none H → X.xe (.ref ea) { s with heap := h' }
theorem raisesE {P : Program} {w : World} {K : PySem.W.Frag} {mg : Str → Option Value} {base : Heap} {N : List Str} {qual : Str} {scope : Scope} {f : Addr} {cd : Value} {A : Around} {outer : List Env} {s : Shared} {H : Hp} {E : XK} :
    Raises (cxOf (CXE P w) P w K mg base N qual scope f cd A outer s H E) E := fun pins σ H1 s1 ea c args h' I mk q => by
  obtain ⟨t, m1, m2, m3⟩ := mk.there
  exact leave_cx (s' := { s1 with heap := h' }) I rfl I.bare (Un.kept mk.keeps) (I.hok.kept mk.keeps) m1 rfl rfl (.inl rfl) mk.new (fun T z => nomatch z) (I.hok.gone mk.new) q

/-! ### a raise -/
abbrev bmV : List Value := [.type "ValueError", .type "Exception", .type "BaseException", .type "object"]
/-- an error class of the text, under ValueError: its record in the written part -/
structure ExcCls (K : PySem.W.Frag) (C : Addr) (tl : List Value) (newId : String) : Prop where
  obj : ∃ (N : Addr) (nm q : Str) (bs : List Value) (hdct : Bool) (sn : List Str) (sub : List Value) (ab : Bool) (col : Option Bool) (dd : Option Addr) (k0 k1 k2 k3 k5 : Option Value) (mN : Str → Option Value), mN "__init__" = none ∧
    ∀ h : Heap, K.In h → h.get? C = some (excClassObj nm q C N bs tl hdct sn sub ab col dd k0 k1 k2 k3 k5 newId) ∧ h.Ns N mN ∧ OwnTail h bmV tl
section
variable {X : Cx}
def tRaise (E : XK) (C : Addr) (ta : TA) : TS := fun _ σ H => ta σ H fun vs H1 => vs.length ≤ sizeLine ∧ E (.ref C) none H1
theorem ps_raise {C : Addr} {tl : List Value} {newId Bn inN : String} {bmN : List Value} {x : Str} {np cpos pos : Pos} {e0 : Expr} {rest : List Expr} {ta : TA} {E : XK} (O : ExcCls X.K C tl newId) (Fn : ExcBaseFacts Bn newId inN bmN) (hBn : bmV.contains (.type Bn) = true) (hc : X.calm = true) (hg : Gl X x) (hm : X.mg x = some (.ref C))
    (ha : PA X (e0 :: rest) ta) (hr : Raises X E) (hdb : (x == ("__debug__" : Str)) = false := by decide) (he : starEach (e0 :: rest) X.env = (false, eval e0 X.env) :: starEach rest X.env := by rfl) (hpl : (backTo cpos (starEach rest X.env)).any (·.1) = false := by rfl) :
    PS X (.Raise (some (.Call (.Name x np) (e0 :: rest) [] cpos)) none pos) (tRaise E C ta) := by
  intro pins s σ H D I h
  obtain ⟨N, nm, q, bs, hdct, sn, sub, ab, col, dd, k0, k1, k2, k3, k5, mN, hni, hob⟩ := O.obj
  refine wpAny_Raise_call_subU (C := C) (nm := nm) (q := q) (N := N) (bs := bs) (bm := tl) (hdct := hdct) (sn := sn) (sub := sub) (ab := ab) (col := col) (dd := dd) (k0 := k0) (k1 := k1) (k2 := k2) (k3 := k3) (k5 := k5)
    Fn hBn PySem.F.excBase_ValueError (mN := mN) ((hob s.heap I.kIn).2.2.hasType rfl) (I.ok.hd hc) (by rw [he]; show (false || (backTo cpos (starEach rest X.env)).any (·.1)) = false; rw [hpl]; rfl) hni (ld_glob I hg hm ⟨rfl, ?_⟩ hdb)
  have hp := ha cpos pins s σ H _ I h
  rw [he] at hp ⊢
  refine Calls.evalArgs_plain (thn hp fun us s2 ⟨vs, H2, I2, r, z, q⟩ => ⟨rfl, by rw [← r.length]; exact z, (hob s2.heap I2.kIn).1, (hob s2.heap I2.kIn).2.1, (hob s2.heap I2.kIn).2.2, fun h' e mk => hr pins σ H2 s2 e _ _ h' I2 mk q⟩)
end

/-! ### an exception is caught -/
end L2

set_option Elab.async false
set_option linter.all false
set_option maxRecDepth 100000
set_option maxHeartbeats 4000000
namespace L2
open PySem PySem.Spec PyProof.Rows

/-- a try's body: its exceptions are wanted by the clauses -/
def Cx.tried (X : Cx) (E' : Value → Shared → Prop) (pn : List (Addr × Obj)) : Cx := { X with xe := E', pn := pn }
/-- an except clause's suite -/
def Cx.marked (X : Cx) (v : Value) (pn : List (Addr × Obj)) : Cx := { X with A := X.A.mark (some v), calm := false, know := false, xe := fun _ _ => False, pn := pn }
section
variable {X : Cx} {pins : List (Addr × Obj)} {σ : St} {H : Hp} {s : Shared} {E' : Value → Shared → Prop} {v : Value}
end

def ExcObj (oe : Obj) (c : Value) : Prop := oe.cls = c ∧ oe.dict = none ∧ ∃ vs : Array Value, oe.data = .fields vs ∧ vs[2]? = some .none
/-- what a try's body wants of an exception: a class under C', and the suite -/
def ExTry (K : PySem.W.Frag) (C' : Addr) (th : Addr → TS) (D : Ends) (i n : Nat) : XK := fun c _ H' =>
  (∃ C tl newId, c = .ref C ∧ ExcCls K C tl newId ∧ tl.contains (.ref C') = true) ∧
  ∀ (ea : Addr) (oe : Obj), H' ea = none → ExcObj oe c → th ea { nx := fun _ _ => False, rt := D.rt } ((List.replicate n none).set i (some (.ref ea))) (upd H' ea (.frz oe (.ext fun _ => True)))
def tTry (K : PySem.W.Frag) (C' : Addr) (tb : XK → TS) (th : Addr → TS) (i n : Nat) (te : TS) : TS := fun D σ H => tb (ExTry K C' th D i n) { D with nx := te D } σ H

section
variable {X : Cx}
end

/-! ### a def that is called within an except suite -/
structure RoomA (k : Nat) (A : Around) : Prop where
  dp : A.depth + 3 * k + 5 < recursionLimit
  un : A.units + 16 * k + 200 < cLine
structure FnOkA (P : Program) (w : World) (K : PySem.W.Frag) (mg : Str → Option Value) (base : Heap) (k : Nat) (f : Addr) (fd : FuncData) (ps : List Str) (sp : Sp) : Prop where
  len : ∀ vs H Q E, sp vs H Q E → vs.length = ps.length
  run : ∀ (A : Around) (outer : List Env) (s : Shared) (H : Hp) (args : Args) (us : List Value) (vs : List V) (Q : VK), RoomA k A → Knows A H → Env0 P w K mg base A outer s H → BindsTo s fd args (ps.zip us) → Vals vs us → sp vs H Q E0 →
    codeAny (model P w) A (.call (.ref f) args) (CR CX0 outer P w H s Q E0) s
def tCallA (A : Around) (sp : Sp) (t : TA) : TE := fun σ H Q => t σ H fun vs H1 => Knows A H1 ∧ sp vs H1 Q E0
/-- a def whose exceptions are wanted -/
theorem Fun.okE {P : Program} {w : World} {K : PySem.W.Frag} {mg : Str → Option Value} {base : Heap} {x qual : Str} {st : Stmt} {f : Addr} {fd : FuncData} {N ps : List Str} {k : Nat} {sp : Sp} (F : Fun K x qual st f fd) (S : FnScope N ps (defScope st)) (len : ∀ vs H Q E, sp vs H Q E → vs.length = ps.length)
    (hbody : ∀ (cdv : Value) (A : Around) (outer : List Env) (s : Shared) (H : Hp) (vs : List V) (Q : VK) (E : XK), Room k (A.deeper (envOfC qual (defScope st) s.heap.objs.size f cdv)) → sp vs H Q E →
      ∃ t, PSs (cxOf (CXE P w) P w K mg base N qual (defScope st) f cdv A outer s H E) (defBody st) t ∧ t { nx := fun _ H' => Q .non H', rt := Q } (start N vs) H) : FnOk P w K mg base (CXE P w) (k + 1) f fd ps sp := by
  obtain ⟨oc, od, kV, doc, pm, an, cdv, ct, osl, rfl, lk, hcd⟩ := F.ex
  exact fn_of lk hcd S len fun A outer s H vs Q E hr hsp => hbody cdv A outer s H vs Q E hr hsp
theorem PS.nox {X : Cx} {st : Stmt} {t : TS} (h : PS X.nox st t) : PS X st t := fun pins s σ H D I hw =>
  wpAny_mono (h pins s σ H D (I.wish _) hw) (fun _ _ q => q.unwish) fun _ _ z => False.elim z
end L2

set_option Elab.async false
set_option linter.all false
set_option maxRecDepth 100000
set_option maxHeartbeats 4000000
namespace L2
open PySem PySem.Spec PyProof.Rows

/-! ### values as data -/
mutual
inductive DatV (K : PySem.W.Frag) (H : Hp) : V → PyData → Prop where
  | non : DatV K H .non .none
  | bl (b : Bool) : DatV K H (.bl b) (.bool b)
  | int (i : Int) : DatV K H (.int i) (.int i)
  | str (x : Str) : DatV K H (.str x) (.str x)
  | lst {a : Addr} {xs : List V} {ds : List PyData} : SqL K H a xs → DatAll K H xs ds → DatV K H (.ref a) (.list ds)
  | tup {a : Addr} {xs : List V} {ds : List PyData} : SqT K H a xs → DatAll K H xs ds → DatV K H (.ref a) (.tuple ds)
inductive DatAll (K : PySem.W.Frag) (H : Hp) : List V → List PyData → Prop where
  | nil : DatAll K H [] []
  | cons {x : V} {xs : List V} {d : PyData} {ds : List PyData} : DatV K H x d → DatAll K H xs ds → DatAll K H (x :: xs) (d :: ds)
end
section
variable {X : Cx} {pins : List (Addr × Obj)} {σ : St} {H : Hp} {s : Shared}
mutual
theorem DatV.reads (I : Inv X pins σ H s) : ∀ {v : V} {d : PyData} {u : Value}, DatV X.K H v d → RelV v u → ∃ as, Reads s.heap u d as
  | _, _, _, .non, r => by cases r; exact ⟨_, .none⟩
  | _, _, _, .bl b, r => by cases r; exact ⟨_, .bool b⟩
  | _, _, _, .int i, r => by obtain ⟨t, rfl⟩ := r; exact ⟨_, .int i t⟩
  | _, _, _, .str x, r => by obtain ⟨t, rfl⟩ := r; exact ⟨_, .str x t⟩
  | _, _, _, .lst hs ha, r => by
    cases r
    obtain ⟨its, rv, ⟨o, n, e, c, _, d⟩, _⟩ := I.list hs
    obtain ⟨as, ra⟩ := DatAll.reads I ha rv
    exact ⟨_, .list e c d (by simpa using ra)⟩
  | _, _, _, .tup hs ha, r => by
    cases r
    obtain ⟨its, rv, ⟨o, e, c, n, d⟩, _⟩ := I.tuple hs
    obtain ⟨as, ra⟩ := DatAll.reads I ha rv
    exact ⟨_, .tuple e c d (by simpa using ra)⟩
theorem DatAll.reads (I : Inv X pins σ H s) : ∀ {vs : List V} {ds : List PyData} {us : List Value}, DatAll X.K H vs ds → Vals vs us → ∃ as, ReadsAll s.heap us ds as
  | _, _, _, .nil, .nil => ⟨_, .nil⟩
  | _, _, _, .cons h t, .cons r rr => by
    obtain ⟨a1, r1⟩ := DatV.reads I h r
    obtain ⟨a2, r2⟩ := DatAll.reads I t rr
    exact ⟨_, .cons r1 r2⟩
end
end
theorem Same.seqT {K : PySem.W.Frag} {H H' : Hp} {a : Addr} {xs : List V} (e : Same H H') (h : SqT K H a xs) : SqT K H' a xs := by
  rcases h with (h | ⟨o, h⟩) | h
  · exact .inl (.inl (e _ _ h))
  · exact .inl (.inr ⟨o, e _ _ h⟩)
  · exact .inr h
mutual
theorem DatV.same {K : PySem.W.Frag} {H H' : Hp} (e : Same H H') : ∀ {v : V} {d : PyData}, DatV K H v d → DatV K H' v d
  | _, _, .non => .non
  | _, _, .bl b => .bl b
  | _, _, .int i => .int i
  | _, _, .str x => .str x
  | _, _, .lst hs ha => .lst (e.seq hs) (DatAll.same e ha)
  | _, _, .tup hs ha => .tup (e.seqT hs) (DatAll.same e ha)
theorem DatAll.same {K : PySem.W.Frag} {H H' : Hp} (e : Same H H') : ∀ {vs : List V} {ds : List PyData}, DatAll K H vs ds → DatAll K H' vs ds
  | _, _, .nil => .nil
  | _, _, .cons h t => .cons (DatV.same e h) (DatAll.same e t)
end
theorem DatAll.length {K : PySem.W.Frag} {H : Hp} : ∀ {vs : List V} {ds : List PyData}, DatAll K H vs ds → vs.length = ds.length
  | _, _, .nil => rfl
  | _, _, .cons _ t => by rw [List.length_cons, List.length_cons, DatAll.length t]
theorem DatAll.get {K : PySem.W.Frag} {H : Hp} : ∀ {vs : List V} {ds : List PyData} {i : Nat} {x : V}, DatAll K H vs ds → vs[i]? = some x → ∃ d, ds[i]? = some d ∧ DatV K H x d
  | _, _, _, _, .nil, e => by simp at e
  | _, _, 0, _, .cons h _, e => by simp at e; subst e; exact ⟨_, rfl, h⟩
  | _, _, i + 1, _, .cons _ t, e => by
    obtain ⟨d, h1, h2⟩ := DatAll.get (i := i) t (by simpa using e)
    exact ⟨d, by simpa using h1, h2⟩
theorem DatAll.append {K : PySem.W.Frag} {H : Hp} : ∀ {vs ws : List V} {ds es : List PyData}, DatAll K H vs ds → DatAll K H ws es → DatAll K H (vs ++ ws) (ds ++ es)
  | _, _, _, _, .nil, s => s
  | _, _, _, _, .cons h t, s => .cons h (DatAll.append t s)
theorem DatAll.ints {K : PySem.W.Frag} {H : Hp} : ∀ ns : List Int, DatAll K H (ns.map V.int) (ns.map PyData.int)
  | [] => .nil
  | n :: r => .cons (.int n) (DatAll.ints r)
theorem DatAll.of_ints {K : PySem.W.Frag} {H : Hp} : ∀ {ns : List Int} {vs : List V}, DatAll K H vs (ns.map PyData.int) → vs = ns.map V.int
  | [], _, h => by rw [List.map_nil] at h; cases h; rfl
  | n :: r, _, h => by
    rw [List.map_cons] at h
    cases h with
    | cons a b =>
      cases a
      rw [DatAll.of_ints b]; rfl
section
variable {X : Cx}
def rEqD (K : PySem.W.Frag) (neg : Bool) : R2 := fun x y H Q => ∃ d e, DatV K H x d ∧ DatV K H y e ∧ SeqAt.shaped d = true ∧ SeqAt.shaped e = true ∧ Q (.bl (neg != PyData.eqv d e)) H
theorem op_eqD (hu : X.A.units + 64 < cLine) : OpR X (compareOp .Eq) (rEqD X.K false) := by
  intro pins s σ H x y v u Q I rx ry h
  obtain ⟨d, e, hd, he, sd, se, q⟩ := h
  obtain ⟨a1, r1⟩ := hd.reads I rx
  obtain ⟨a2, r2⟩ := he.reads I ry
  exact eq_dataH r1 r2 sd se hu ⟨.bl _, H, I, rfl, by simpa using q⟩
theorem op_neD (hu : X.A.units + 64 < cLine) : OpR X (compareOp .NotEq) (rEqD X.K true) := by
  intro pins s σ H x y v u Q I rx ry h
  obtain ⟨d, e, hd, he, sd, se, q⟩ := h
  obtain ⟨a1, r1⟩ := hd.reads I rx
  obtain ⟨a2, r2⟩ := he.reads I ry
  exact ne_dataH r1 r2 sd se hu ⟨.bl _, H, I, rfl, by simpa using q⟩
end
end L2

set_option Elab.async false
set_option linter.all false
set_option maxRecDepth 100000
set_option maxHeartbeats 4000000
namespace L2
open PySem PySem.Spec PyProof.Rows
section
variable {X : Cx}
theorem call_sum (hc : X.calm = true) : CallR X (.builtin "sum") (fun xs H Q => ∃ (p : Addr) (ns : List Int), xs = [.ref p] ∧ SqL X.K H p (ns.map V.int) ∧ Q (.int ns.sum) H) := by
  intro pins s σ H xs us Q I r h
  obtain ⟨p, ns, rfl, hp, q⟩ := h
  obtain ⟨u, rfl, ru⟩ := vals1 r
  cases ru
  obtain ⟨its, rv, pl, _⟩ := I.list hp
  have hi : IntsAre its ns := intsAre_of rv
  obtain ⟨zs, e⟩ := hi.allInts.items
  have hns : ns = zs.toList.map (·.1) := by rw [← hi.numsOf, ← nums_intItems, ← e]
  have hl := pl.isList
  rw [e] at hl
  refine sum_intListG (I.ok.hd hc) hl fun h' tk t' hk => ⟨.int ns.sum, H, I.kept (t' := tk) hk, ⟨t', ?_⟩, q⟩
  rw [preSum_eq, List.take_of_length_le (by simp), ← hns]
/-- a list of ints as the library's walks of min and max take it -/
theorem as_items {ns : List Int} {its : List Value} (r : Vals (ns.map V.int) its) : ∃ zs, its.toArray = intItems zs ∧ ns.length = zs.size ∧ ∀ i (h : i < ns.length), numAt zs i = ns[i] := by
  have are := intsAre_of r
  obtain ⟨zs, e⟩ := are.allInts.items
  have same : ns = zs.toList.map (·.1) := by rw [← are.numsOf, ← nums_intItems, ← e]
  refine ⟨zs, e, by rw [same]; simp, fun i h => ?_⟩
  rw [numAt_eq]
  subst same
  rw [List.getD_eq_getElem?_getD, List.getElem?_eq_getElem h]; rfl
theorem call_min (hc : X.calm = true) : CallR X (.builtin "min") (fun xs H Q => ∃ (p : Addr) (ns : List Int), xs = [.ref p] ∧ SqL X.K H p (ns.map V.int) ∧ 0 < ns.length ∧ ∀ m, m ∈ ns → (∀ a ∈ ns, m ≤ a) → Q (.int m) H) := by
  rintro pins s σ H xs us Q I r ⟨p, ns, rfl, hp, some_, q⟩
  obtain ⟨u, rfl, ru⟩ := vals1 r
  cases ru
  obtain ⟨its, rv, pl, _⟩ := I.list hp
  obtain ⟨zs, e, size, num⟩ := as_items rv
  refine min_intList (I.ok.hd hc) (e ▸ pl.isList) (by omega) fun v h' tk hv hk => ?_
  obtain ⟨le, best⟩ := argBest_lt (numAt zs) (zs.size - 1)
  obtain ⟨t, rfl⟩ := intItems_at hv
  have low := num _ (show argBest (fun i j => decide (numAt zs i < numAt zs j)) (zs.size - 1) < ns.length by omega)
  refine ⟨.int _, H, I.kept (t' := tk) hk, ⟨t, rfl⟩, q _ (low ▸ List.getElem_mem _) fun a ha => ?_⟩
  obtain ⟨j, hj, rfl⟩ := List.getElem_of_mem ha
  exact num j hj ▸ best j (by omega)
theorem call_max (hc : X.calm = true) : CallR X (.builtin "max") (fun xs H Q => ∃ (p : Addr) (ns : List Int), xs = [.ref p] ∧ SqL X.K H p (ns.map V.int) ∧ 0 < ns.length ∧ ∀ m, m ∈ ns → (∀ a ∈ ns, a ≤ m) → Q (.int m) H) := by
  rintro pins s σ H xs us Q I r ⟨p, ns, rfl, hp, some_, q⟩
  obtain ⟨u, rfl, ru⟩ := vals1 r
  cases ru
  obtain ⟨its, rv, pl, _⟩ := I.list hp
  obtain ⟨zs, e, size, num⟩ := as_items rv
  refine max_intList (I.ok.hd hc) (e ▸ pl.isList) (by omega) fun v h' tk hv hk => ?_
  obtain ⟨le, best⟩ := argBest_gt (numAt zs) (zs.size - 1)
  obtain ⟨t, rfl⟩ := intItems_at hv
  have high := num _ (show argBest (fun i j => decide (numAt zs i > numAt zs j)) (zs.size - 1) < ns.length by omega)
  refine ⟨.int _, H, I.kept (t' := tk) hk, ⟨t, rfl⟩, q _ (high ▸ List.getElem_mem _) fun a ha => ?_⟩
  obtain ⟨j, hj, rfl⟩ := List.getElem_of_mem ha
  exact num j hj ▸ best j (by omega)
theorem bools_get : ∀ {bs : List Bool} {us : List Value} {i : Nat} {v : Value}, Vals (bs.map V.bl) us → us[i]? = some v → v = .bool (bs.getD i false)
  | [], _, _, _, r, e => by rw [List.map_nil] at r; cases r; simp at e
  | b :: bs, _, 0, v, r, e => by
    rw [List.map_cons] at r
    cases r with
    | cons r1 _ => cases r1; simp at e; simp [e]
  | b :: bs, _, i + 1, v, r, e => by
    rw [List.map_cons] at r
    cases r with
    | cons _ r2 =>
      have := bools_get (i := i) r2 (by simpa using e)
      simpa using this
theorem all_range (bs : List Bool) : (List.range bs.length).all (fun i => bs.getD i false) = bs.all id := by
  have e : (List.range bs.length).map (fun i => bs.getD i false) = bs := List.ext_getElem (by simp) fun i h1 h2 => by simp [List.getD_eq_getElem?_getD, h2]
  have := congrArg (fun l => l.all id) e
  rwa [List.all_map] at this
theorem call_all (hc : X.calm = true) : CallR X (.builtin "all") (fun xs H Q => ∃ (p : Addr) (bs : List Bool), xs = [.ref p] ∧ SqL X.K H p (bs.map V.bl) ∧ Q (.bl (bs.all id)) H) := by
  intro pins s σ H xs us Q I r h
  obtain ⟨p, bs, rfl, hp, q⟩ := h
  obtain ⟨u, rfl, ru⟩ := vals1 r
  cases ru
  obtain ⟨its, rv, pl, _⟩ := I.list hp
  have hlen := rv.length
  rw [List.length_map] at hlen
  refine call_all_walk (wpAny_pyIter_list pl.isList ?_)
  have plt : p < s.heap.objs.size := by obtain ⟨o, _, e, _⟩ := pl; exact Heap.lt_size e
  refine ⟨_, _, _, _, _, _, fun i => bs.getD i false, rfl, Walks.list (A := X.A.in1) (I.ok.hd hc) s.heap.objs.size p (Nat.ne_of_lt plt) its.toArray, ⟨⟨_, Heap.get?_push_size _ rfl, rfl, rfl⟩, pl.isList.push _⟩, fun i v s' Q' E' hP hQ => ?_, fun h' tk hk => ?_⟩
  · have := bools_get rv (i := i) (v := v) (by simpa using hP)
    subst this
    exact wpAny_truthy_bool hQ
  · have e : its.toArray.size = bs.length := by rw [List.size_toArray]; exact hlen.symm
    rw [e, all_range]
    refine ⟨.bl _, H, I.kept (t' := tk) fun b o z => hk b o ?_ (Heap.get?_push_of_some _ z), rfl, q⟩
    have := Heap.lt_size z
    simp only [List.mem_singleton]
    exact Nat.ne_of_lt this
end
end L2

set_option Elab.async false
set_option linter.all false
set_option maxRecDepth 100000
set_option maxHeartbeats 4000000
namespace L2
open PySem PySem.Spec PyProof.Rows
section
variable {X : Cx} {pins : List (Addr × Obj)} {σ : St} {H : Hp} {s : Shared} {h' : Heap}
/-- several untracked records of ours have turned -/
theorem Inv.turnedL {t' : Nat} {ch : List Addr} (I : Inv X pins σ H s) (k : ∀ b o, b ∉ ch → s.heap.get? b = some o → h'.get? b = some o) (hf : ∀ b ∈ ch, FpOk X pins H b) : Inv X pins σ H { s with heap := h', toks := t' } := by
  have nit : ∀ b u, H b = some u → b ∉ ch := fun b u e z => by rw [(hf b z).1] at e; cases e
  refine I.step (g' := s.gens) (d' := s.drawn) (ch := ch) (fun b hb => ⟨(hf b hb).2.2.2.1, (hf b hb).2.1, (hf b hb).2.2.2.2.1, (hf b hb).2.2.2.2.2⟩) (fun b o _ _ hc e _ => k b o hc e) (fun b o _ _ hc e _ => ⟨o.slots, k b o hc e⟩) (fun _ _ _ _ n => n)
    (fun b o hc e => ⟨o, k b o hc e⟩) (fun _ _ e => e) (fun _ _ _ e => e) (fun b ps e => ⟨#[], by rw [e]; simp⟩) (fun m hm => ?_) (fun b u e => ?_) I.bare
  · obtain ⟨o, es, ep, ho, r⟩ := hm
    exact ⟨o, es, ep, k _ o (fun z => (hf _ z).2.1 rfl) ho, r⟩
  · refine (I.hok b u e).stay (fun c v hc q => k c v ?_ q) (fun _ q => q) fun _ _ q => q
    rcases hc with z | z
    · rw [z]; exact nit b u e
    · exact nit c _ z
/-- a record that stands untracked is tracked from here on -/
theorem Inv.adopt {a : Addr} {o : HO} (I : Inv X pins σ H s) (hn : H a = none) (h0 : X.s₀.heap.get? a = none) (hL : a ≠ X.env.locals) (hC : ∀ x c, X.env.cells.lookup x = some c → c ≠ a) (hP : ∀ p ∈ X.pn ++ pins, p.1 ≠ a) (new : ObjOk X.prog X.w (upd H a o) s.heap a o) : Inv X pins σ (upd H a o) s :=
  ⟨I.ok, I.os, I.bare, I.base.adopt h0 hn, I.loc, I.cell, by rw [upd_ne (Ne.symm hL)]; exact I.free, fun x c e => by rw [upd_ne (hC x c e)]; exact I.freeC x c e, fun p hp => by
    obtain ⟨e, n, r⟩ := I.pin p hp
    exact ⟨e, by rw [upd_ne (hP p hp)]; exact n, r⟩, I.hok.adopt hn new, I.len⟩
theorem Inv.adoptNew {a : Addr} {o : HO} {s0 : Shared} {H0 : Hp} (I0 : Inv X pins σ H0 s0) (ha : s0.heap.objs.size ≤ a) (I : Inv X pins σ H s) (hn : H a = none) (new : ObjOk X.prog X.w (upd H a o) s.heap a o) : Inv X pins σ (upd H a o) s :=
  I.adopt hn (Heap.get?_none_of_le (Nat.le_trans I0.sz ha)) (Nat.ne_of_gt (Nat.lt_of_lt_of_le I0.lt ha)) (fun x c e => by
    obtain ⟨v, oc, hoc, _⟩ := I0.cell x c e
    exact Nat.ne_of_lt (Nat.lt_of_lt_of_le (Heap.lt_size hoc) ha)) (fun p hp => Nat.ne_of_lt (Nat.lt_of_lt_of_le (Heap.lt_size (I0.pin p hp).1) ha)) new
end
theorem zapart (I l1 l2 : Nat) (h1 : l1 < I) (h2 : l2 < I) : ZipApart (I + 4) (I + 2) (I + 3) I (I + 1) l1 l2 := by
  have ne : ∀ a b : Nat, a < b → a ≠ b := fun a b h => Nat.ne_of_lt h
  have ne' : ∀ a b : Nat, b < a → a ≠ b := fun a b h => Nat.ne_of_gt h
  constructor <;> first | exact ne _ _ (by omega) | exact ne' _ _ (by omega)
/-- two lists side by side -/
def Itz (K : PySem.W.Frag) (a b : Addr) : It :=
  ⟨fun i H => ∃ xs ys x y, SqL K H a xs ∧ SqL K H b ys ∧ xs[i]? = some x ∧ ys[i]? = some y,
   fun i H v H' => ∃ p x y, v = .ref p ∧ H p = none ∧ H' = upd H p (.tup [x, y]) ∧ (∀ xs, SqL K H a xs → xs[i]? = some x) ∧ ∀ ys, SqL K H b ys → ys[i]? = some y,
   fun i H => ∃ xs ys, SqL K H a xs ∧ SqL K H b ys ∧ (xs[i]? = none ∨ ys[i]? = none)⟩
theorem turn_zip {P : Program} {w : World} {K : PySem.W.Frag} {cm kn : Bool} {elts : List Expr} {x1} {tpos : Pos} (hcm : cm = true) (a b z TI TO i1 i2 : Addr) (D : ZipApart z TI TO i1 i2 a b) :
    Turn P w K cm kn (.Tuple elts x1 tpos) (Itz K a b) [z, TI, TO, i1, i2] z (fun i h => IsZip h z TI TO .none ∧ IsPair h TI (.ref i1) (.ref i2) ∧ (∃ u v, IsPair h TO u v) ∧ h.IsListIter i1 a i ∧ h.IsListIter i2 b i) where
  mem := by simp
  obj := fun i h st c hc => by
    obtain ⟨h1, h2, ⟨u, v, h3⟩, ⟨o4, h4, _, d4⟩, ⟨o5, h5, _, d5⟩⟩ := st
    simp only [List.mem_cons, List.not_mem_nil, or_false] at hc
    rcases hc with rfl | rfl | rfl | rfl | rfl
    · exact ⟨_, h1, fun v q => by cases (show Data.fields _ = Data.cell v from q)⟩
    · exact ⟨_, h2, fun v q => by cases (show Data.seq _ _ = Data.cell v from q)⟩
    · exact ⟨_, h3, fun v q => by cases (show Data.seq _ _ = Data.cell v from q)⟩
    · exact ⟨_, h4, fun v q => by rw [d4] at q; cases q⟩
    · exact ⟨_, h5, fun v q => by rw [d5] at q; cases q⟩
  keep := fun i h h' st k => by
    obtain ⟨h1, h2, ⟨u, v, h3⟩, h4, h5⟩ := st
    exact ⟨k z (by simp) _ h1, k TI (by simp) _ h2, ⟨u, v, k TO (by simp) _ h3⟩, h4.at fun o e => k i1 (by simp) o e, h5.at fun o e => k i2 (by simp) o e⟩
  item := by
    intro X hP hw hK hc hkw i pins s σ H E I hf st hg
    subst hP hw hK
    obtain ⟨xs, ys, x, y, hx, hy, ex, ey⟩ := hg
    obtain ⟨h1, h2, ⟨u, v, h3⟩, h4, h5⟩ := st
    obtain ⟨its, rv, pa, _⟩ := I.list hx
    obtain ⟨jts, rw', pb, _⟩ := I.list hy
    obtain ⟨ux, hux, rx⟩ := rv.get ex
    obtain ⟨uy, huy, ry⟩ := rw'.get ey
    refine wpAny_pyNext_zip_item D h1 h2 h3 h4 h5 pa.isList pb.isList (x := ux) (y := uy) (by simpa using hux) (by simpa using huy) fun h' a1 a2 a3 a4 a5 a6 hk => ?_
    have lt : ∀ c ∈ [z, TI, TO, i1, i2], c ≠ s.heap.objs.size := fun c hc' => by
      have st' : ∃ o, s.heap.get? c = some o := by
        obtain ⟨o4, e4, _⟩ := h4
        obtain ⟨o5, e5, _⟩ := h5
        simp only [List.mem_cons, List.not_mem_nil, or_false] at hc'
        rcases hc' with rfl | rfl | rfl | rfl | rfl
        · exact ⟨_, h1⟩
        · exact ⟨_, h2⟩
        · exact ⟨_, h3⟩
        · exact ⟨_, e4⟩
        · exact ⟨_, e5⟩
      obtain ⟨o, e⟩ := st'
      exact Nat.ne_of_lt (Heap.lt_size e)
    have sub : ∀ c ∈ [z, TO, i1, i2], c ∈ [z, TI, TO, i1, i2] := fun c hc' => by
      simp only [List.mem_cons, List.not_mem_nil, or_false] at hc' ⊢
      rcases hc' with rfl | rfl | rfl | rfl <;> simp
    have I1 : Inv X pins σ H { s with heap := h' } := I.turnedL (t' := s.toks) (ch := [z, TO, i1, i2]) (fun c o hc' e => by
      simp only [List.mem_cons, List.not_mem_nil, or_false, not_or] at hc'
      exact hk c o hc'.1 hc'.2.1 hc'.2.2.1 hc'.2.2.2 e) (fun c hc' => hf c (sub c hc'))
    have I2 : Inv X pins σ (upd H s.heap.objs.size (.tup [x, y])) { s with heap := h' } := Inv.adoptNew I (Nat.le_refl _) I1 (I.hok.fresh (Nat.le_refl _)) ⟨by show 2 ≤ sizeLine; decide, [ux, uy], .cons rx (.cons ry .nil), ⟨_, a5, rfl, _, rfl⟩⟩
    refine ⟨.ref s.heap.objs.size, rfl, wpAny_letOwnedTupleGo_zip (s := { s with heap := h' }) a1 fun h2' hz' sb => ?_⟩
    have fr : ∀ c ∈ [z, TI, TO, i1, i2], upd H s.heap.objs.size (.tup [x, y]) c = none := fun c hc' => by rw [upd_ne (lt c hc')]; exact (hf c hc').1
    have I3 : Inv X pins σ (upd H s.heap.objs.size (.tup [x, y])) { s with heap := h2' } := Inv.turnedL (s := { s with heap := h' }) (t' := s.toks) (ch := [z]) I2 (fun c o hc' e => (sb.2 c (fun q => hc' (by simp [q]))).trans e)
      (fun c hc' => by
        have e : c = z := by simpa using hc'
        subst e
        exact ⟨fr c (by simp), (hf c (by simp)).2⟩)
    refine ⟨.ref s.heap.objs.size, _, I3, rfl, ⟨s.heap.objs.size, x, y, rfl, I.hok.fresh (Nat.le_refl _), rfl, fun xs' hx' => by rw [I.list_inj hx' hx]; exact ex, fun ys' hy' => by rw [I.list_inj hy' hy]; exact ey⟩, ⟨hz', ?_, ⟨ux, uy, ?_⟩, ?_, ?_⟩, fr⟩
    · exact (sb.2 TI D.TIz).trans (hk TI _ D.TIz D.TITO D.TIi1 D.TIi2 h2)
    · exact (sb.2 TO D.TOz).trans a2
    · exact a3.at fun o e => (sb.2 i1 D.i1z).trans e
    · exact a4.at fun o e => (sb.2 i2 D.i2z).trans e
  done := by
    intro X hP hw hK hc hkw i pins s σ H E I hf st hg
    subst hP hw hK
    obtain ⟨xs, ys, hx, hy, hend⟩ := hg
    obtain ⟨h1, h2, ⟨u, v, h3⟩, h4, h5⟩ := st
    obtain ⟨its, rv, pa, _⟩ := I.list hx
    obtain ⟨jts, rw', pb, _⟩ := I.list hy
    have hend' : its.toArray[i]? = none ∨ jts.toArray[i]? = none := hend.imp (fun q => by simpa using rv.none_of q) (fun q => by simpa using rw'.none_of q)
    have sub : ∀ c ∈ [z, TO, i1, i2], c ∈ [z, TI, TO, i1, i2] := fun c hc' => by
      simp only [List.mem_cons, List.not_mem_nil, or_false] at hc' ⊢
      rcases hc' with rfl | rfl | rfl | rfl <;> simp
    exact wpAny_pyNext_zip_end (I.ok.hd (hc.trans hcm)) D h1 h2 h3 h4 h5 pa.isList pb.isList hend' fun h' hk => ⟨rfl, I.turnedL (t' := s.toks) (ch := [z, TO, i1, i2]) (fun c o hc' e => by
      simp only [List.mem_cons, List.not_mem_nil, or_false, not_or] at hc'
      exact hk c o hc'.1 hc'.2.1 hc'.2.2.1 hc'.2.2.2 e) (fun c hc' => hf c (sub c hc'))⟩
  self := fun A i s Q E st h => wpAny_pyIter_zip st.1 h
section
variable {X : Cx}
def iZip (K : PySem.W.Frag) (ta : TA) : TI := fun σ H R => ta σ H fun vs H1 => ∃ a b xs ys, vs = [.ref a, .ref b] ∧ SqL K H1 a xs ∧ SqL K H1 b ys ∧ R (Itz K a b) H1
theorem pi_zip {a b : Expr} {ta : TA} {p pos tpos : Pos} {elts : List Expr} {x1} (hc : X.calm = true) (hg : Gl X "zip") (hm : X.mg "zip" = none) (ha : PA X [a, b] ta) (hs : starEach [a, b] X.env = [(false, eval a X.env), (false, eval b X.env)] := by rfl) (hs2 : starEach [b] X.env = [(false, eval b X.env)] := by rfl) :
    PI X (.Tuple elts x1 tpos) (.Call (.Name "zip" p) [a, b] [] pos) (iZip X.K ta) := by
  intro pins s σ H R I h
  refine Call_ (ld_blt I hg hm boot_zip (PyProof.Rows.callWith_type1 (thn (ha pos pins s σ H _ I h) fun us s1 ⟨vs, H1, I1, r1, q1⟩ => ?_) (by rw [hs, hs2]) (by rw [hs2]; rfl)))
  obtain ⟨aa, bb, xs, ys, e, hx, hy, q⟩ := q1
  subst e
  cases r1 with
  | cons r rr =>
    cases rr with
    | cons r' rr =>
      cases rr
      cases r
      cases r'
      obtain ⟨its, rv, pa, _⟩ := I1.list hx
      obtain ⟨jts, rw', pb, _⟩ := I1.list hy
      have la : aa < s1.heap.objs.size := by obtain ⟨o, _, e, _⟩ := pa; exact Heap.lt_size e
      have lb : bb < s1.heap.objs.size := by obtain ⟨o, _, e, _⟩ := pb; exact Heap.lt_size e
      refine call_zip_2 pa.isList pb.isList fun h' z1 z2 z3 z4 z5 z6 zk => ?_
      refine wpAny_pyIter_zip z1 ?_
      have I2 : Inv X pins σ H1 { s1 with heap := h' } := I1.kept (t' := s1.toks) zk
      refine ⟨s1.heap.objs.size + 4, [s1.heap.objs.size + 4, s1.heap.objs.size + 2, s1.heap.objs.size + 3, s1.heap.objs.size, s1.heap.objs.size + 1], _, _, H1, rfl, I2, turn_zip hc aa bb _ _ _ _ _ ?_, ⟨z1, z2, ⟨_, _, z3⟩, z4, z5⟩, fun c hc' => ?_, q⟩
      · exact zapart _ _ _ la lb
      · have hle : s1.heap.objs.size ≤ c := by
          simp only [List.mem_cons, List.not_mem_nil, or_false] at hc'
          rcases hc' with e | e | e | e | e <;> (rw [e]; first | exact Nat.le_refl _ | exact Nat.le_add_right _ _)
        exact I1.fpOk hle (I1.hok.fresh hle)
end
end L2

set_option Elab.async false
set_option linter.all false
set_option maxRecDepth 100000
set_option maxHeartbeats 4000000
namespace L2
open PySem PySem.Spec PyProof.Rows
theorem same_upd {H : Hp} {p : Addr} (h : H p = none) (o : HO) : Same H (upd H p o) := fun b u q => by rw [upd_ne (ne_of_none q h)]; exact q
section
variable {K : PySem.W.Frag} {k : Nat} {cap : List Nat} {g : TG} {tc : TT} {te : TE} {σ : St} {H : Hp} {Q : VK}
/-- over a list that the turns leave as it is -/
theorem comp_list {a : Addr} {xs : List V} (Pv : Nat → List V → Hp → Prop) (hn : xs.length ≤ 1000) (h0 : Pv 0 [] H) (hl : ∀ i ys H, i ≤ xs.length → Pv i ys H → SqL K H a xs) (hy : ∀ i ys H, Pv i ys H → ys.length ≤ i)
    (hs : ∀ i x ys H, xs[i]? = some x → Pv i ys H → g x (capσ k cap σ) H fun σ2 H2 => tc σ2 H2 fun b H3 => if b = true then te σ2 H3 fun v H4 => Pv (i + 1) (ys ++ [v]) H4 else Pv (i + 1) ys H3)
    (hd : ∀ ys H, Pv xs.length ys H → ∀ p, H p = none → Q (.ref p) (upd H p (.lst ys))) : CompW (Itl K a) k cap g tc te σ H Q := by
  refine ⟨fun i m ys H => m = xs.length - i ∧ i ≤ xs.length ∧ Pv i ys H, ⟨xs.length, by simp, Nat.zero_le _, h0⟩, ?_⟩
  rintro i m ys H ⟨rfl, hi, p⟩
  have q := hl i ys H hi p
  have hz : ys.length < sizeLine := small1000 (Nat.le_trans (hy i ys H p) (Nat.le_trans hi hn))
  by_cases hlt : i < xs.length
  · refine .inr ⟨⟨xs, xs[i], q, by simp [hlt]⟩, hz, Pv (i + 1), fun ys' H' p' => ⟨xs.length - (i + 1), by omega, rfl, hlt, p'⟩, fun x H' y => ?_⟩
    obtain ⟨e, y⟩ := y
    subst e
    exact hs i x ys _ (y xs q) p
  · have e : i = xs.length := by omega
    subst e
    exact .inl ⟨⟨xs, q, Nat.le_refl _⟩, Nat.le_of_lt hz, hd ys H p⟩
theorem comp_range {lo : Int} {n : Nat} (Pv : Nat → List V → Hp → Prop) (hn : n ≤ 1000) (h0 : Pv 0 [] H) (hy : ∀ i ys H, Pv i ys H → ys.length ≤ i)
    (hs : ∀ i ys H, i < n → Pv i ys H → g (.int (lo + i)) (capσ k cap σ) H fun σ2 H2 => tc σ2 H2 fun b H3 => if b = true then te σ2 H3 fun v H4 => Pv (i + 1) (ys ++ [v]) H4 else Pv (i + 1) ys H3)
    (hd : ∀ ys H, Pv n ys H → ∀ p, H p = none → Q (.ref p) (upd H p (.lst ys))) : CompW (Itr lo n) k cap g tc te σ H Q := by
  refine ⟨fun i m ys H => m = n - i ∧ i ≤ n ∧ Pv i ys H, ⟨n, by simp, Nat.zero_le _, h0⟩, ?_⟩
  rintro i m ys H ⟨rfl, hi, p⟩
  have hz : ys.length < sizeLine := small1000 (Nat.le_trans (hy i ys H p) (Nat.le_trans hi hn))
  by_cases hlt : i < n
  · refine .inr ⟨hlt, hz, Pv (i + 1), fun ys' H' p' => ⟨n - (i + 1), by omega, rfl, hlt, p'⟩, fun x H' y => ?_⟩
    obtain ⟨e, y⟩ := y
    subst e y
    exact hs i ys _ hlt p
  · have e : i = n := by omega
    subst e
    exact .inl ⟨Nat.le_refl _, Nat.le_of_lt hz, hd ys H p⟩
theorem comp_zip {a b : Addr} {xs ys : List V} (Pv : Nat → List V → Hp → Prop) (hn : xs.length ≤ 1000) (hxy : xs.length = ys.length) (h0 : Pv 0 [] H) (hl : ∀ i zs H, i ≤ xs.length → Pv i zs H → SqL K H a xs ∧ SqL K H b ys) (hy : ∀ i zs H, Pv i zs H → zs.length ≤ i)
    (hs : ∀ i x y zs H p, xs[i]? = some x → ys[i]? = some y → Pv i zs H → H p = none → g (.ref p) (capσ k cap σ) (upd H p (.tup [x, y])) fun σ2 H2 => tc σ2 H2 fun b H3 => if b = true then te σ2 H3 fun v H4 => Pv (i + 1) (zs ++ [v]) H4 else Pv (i + 1) zs H3)
    (hd : ∀ zs H, Pv xs.length zs H → ∀ p, H p = none → Q (.ref p) (upd H p (.lst zs))) : CompW (Itz K a b) k cap g tc te σ H Q := by
  refine ⟨fun i m zs H => m = xs.length - i ∧ i ≤ xs.length ∧ Pv i zs H, ⟨xs.length, by simp, Nat.zero_le _, h0⟩, ?_⟩
  rintro i m zs H ⟨rfl, hi, p⟩
  have q := hl i zs H hi p
  have hz : zs.length < sizeLine := small1000 (Nat.le_trans (hy i zs H p) (Nat.le_trans hi hn))
  by_cases hlt : i < xs.length
  · have hlt2 : i < ys.length := by omega
    refine .inr ⟨⟨xs, ys, xs[i], ys[i], q.1, q.2, by simp [hlt], by simp [hlt2]⟩, hz, Pv (i + 1), fun ys' H' p' => ⟨xs.length - (i + 1), by omega, rfl, hlt, p'⟩, fun v H' y => ?_⟩
    obtain ⟨pp, x, y', e1, e2, e3, y1, y2⟩ := y
    subst e1 e3
    exact hs i x y' zs H pp (y1 xs q.1) (y2 ys q.2) p e2
  · have e : i = xs.length := by omega
    subst e
    exact .inl ⟨⟨xs, ys, q.1, q.2, .inl (by simp)⟩, Nat.le_of_lt hz, hd zs H p⟩
/-! each element by itself: what it is as data -/
end

/-! ### isinstance -/
def clsV : V → Option Value
  | .ref C => some (.ref C)
  | .ty T => some (.type T)
  | _ => none
/-- what is asked of an own error class for isinstance of its instances -/
structure ExcKit (K : PySem.W.Frag) (C : Addr) : Prop where
  ga : PySem.W.findIn K (.ref C) "__getattribute__" = some (some (.builtin "BaseException.__getattribute__"))
  hb : PySem.W.mroIn K C (.type "BaseException") = some true
  gx : PySem.W.findIn K (.ref C) "__getattr__" = some none
  hd : PySem.W.hasDictIn K C = true
  ha : PySem.W.findIn K (.ref C) "__class__" = some (some (.builtin "object.__class__"))
  hn : PySem.W.specialIn K (.builtin "object.__class__") "__get__" = some (some (.builtin "getset_descriptor.__get__"))
  htk : PySem.W.takesIn K (.builtin "object.__class__") = some true
  hm : PySem.W.mroIn K C (.type "object") = some true
section
variable {prog : Program} {w : World} {A : Around} {E : Value → Shared → Prop} {s : Shared} {K : PySem.W.Frag} {x C : Addr} {ox : Obj}
end
inductive TyX (K : PySem.W.Frag) (H : Hp) : V → Value → Prop where
  | of {x : V} {t : Value} : TyOf K H x t → TyX K H x t
  | exc {a C : Addr} {oe : Obj} {u : HO} : H a = some (.frz oe u) → ExcObj oe (.ref C) → ExcKit K C → TyX K H (.ref a) (.ref C)
section
variable {X : Cx}
def rIsI (K : PySem.W.Frag) : List V → Hp → VK → Prop := fun xs H Q => ∃ x c cv t b, xs = [x, c] ∧ clsV c = some cv ∧ TyX K H x t ∧ PySem.W.kitOne K t cv = some b ∧ Q (.bl b) H
end
end L2

set_option Elab.async false
set_option linter.all false
set_option maxRecDepth 100000
set_option maxHeartbeats 4000000
namespace L2
open PySem PySem.Spec PyProof.Rows
/-! the rules with the written part by name (a block's is its def's) -/
section
variable {X : Cx} {K : PySem.W.Frag}
theorem op_in_seq' (h : X.K = K) : OpR X (compareOp .In) (rIn K false) := by subst h; exact op_in_seq
theorem ix_list' (h : X.K = K) : IxR X (rIxL K) := by subst h; exact ix_list
theorem ix_tup' (h : X.K = K) : IxR X (rIxT K) := by subst h; exact ix_tup
theorem sl_list' (h : X.K = K) : SlR X (rSlL K) := by subst h; exact sl_list
theorem call_len_seq' (h : X.K = K) : CallR X (.builtin "len") (fun xs H Q => ∃ p ys, xs = [.ref p] ∧ (SqL K H p ys ∨ SqT K H p ys) ∧ Q (.int ys.length) H) := by subst h; exact call_len_seq
theorem call_list_of' (h : X.K = K) : CallR X (.type "list") (fun xs H Q => ∃ p ys, xs = [.ref p] ∧ (SqL K H p ys ∨ SqT K H p ys) ∧ ∀ l, H l = none → Q (.ref l) (upd H l (.lst ys))) := by subst h; exact call_list_of
theorem call_sum' (h : X.K = K) (hc : X.calm = true) : CallR X (.builtin "sum") (fun xs H Q => ∃ (p : Addr) (ns : List Int), xs = [.ref p] ∧ SqL K H p (ns.map V.int) ∧ Q (.int ns.sum) H) := by subst h; exact call_sum hc
theorem call_min' (h : X.K = K) (hc : X.calm = true) : CallR X (.builtin "min") (fun xs H Q => ∃ (p : Addr) (ns : List Int), xs = [.ref p] ∧ SqL K H p (ns.map V.int) ∧ 0 < ns.length ∧ ∀ m, m ∈ ns → (∀ a ∈ ns, m ≤ a) → Q (.int m) H) := by subst h; exact call_min hc
theorem call_max' (h : X.K = K) (hc : X.calm = true) : CallR X (.builtin "max") (fun xs H Q => ∃ (p : Addr) (ns : List Int), xs = [.ref p] ∧ SqL K H p (ns.map V.int) ∧ 0 < ns.length ∧ ∀ m, m ∈ ns → (∀ a ∈ ns, a ≤ m) → Q (.int m) H) := by subst h; exact call_max hc
theorem call_all' (h : X.K = K) (hc : X.calm = true) : CallR X (.builtin "all") (fun xs H Q => ∃ (p : Addr) (bs : List Bool), xs = [.ref p] ∧ SqL K H p (bs.map V.bl) ∧ Q (.bl (bs.all id)) H) := by subst h; exact call_all hc
theorem op_eqD' (h : X.K = K) (hu : X.A.units + 64 < cLine) : OpR X (compareOp .Eq) (rEqD K false) := by subst h; exact op_eqD hu
theorem op_neD' (h : X.K = K) (hu : X.A.units + 64 < cLine) : OpR X (compareOp .NotEq) (rEqD K true) := by subst h; exact op_neD hu
theorem pi_list' {tg l : Expr} {tl : TE} (h : X.K = K) (hc : X.calm = true) (hl : PE X l tl) : PI X tg l (iList K tl) := by subst h; exact pi_list hc hl
theorem pi_zip' {a b : Expr} {ta : TA} {p pos tpos : Pos} {elts : List Expr} {x1} (h : X.K = K) (hc : X.calm = true) (hg : Gl X "zip") (hm : X.mg "zip" = none) (ha : PA X [a, b] ta) (hs : starEach [a, b] X.env = [(false, eval a X.env), (false, eval b X.env)] := by rfl) (hs2 : starEach [b] X.env = [(false, eval b X.env)] := by rfl) :
    PI X (.Tuple elts x1 tpos) (.Call (.Name "zip" p) [a, b] [] pos) (iZip K ta) := by subst h; exact pi_zip hc hg hm ha hs hs2
theorem pg_tup' {es : List Expr} {k : Nat} {t : TGs} {n : Nat} {pos : Pos} (hK : X.K = K) (hc : X.calm = true) (h : PGs X es t) (hn : (assignEach es X.env).length = n := by rfl) (hst : (assignEach es X.env).findIdx? (·.1) = none := by rfl) : PG X (.Tuple es k pos) (gTup K n t) := by subst hK; exact pg_tup hc h hn hst
end
end L2

set_option Elab.async false
set_option linter.all false
set_option maxRecDepth 100000
set_option maxHeartbeats 4000000
namespace L2
open PySem PySem.Spec PyProof.Rows
/-! ### lists of ints, lists of such -/
def dI (ns : List Int) : PyData := .list (ns.map .int)
def dII (b : List (List Int)) : PyData := .list (b.map dI)
section
variable {K : PySem.W.Frag} {H H' : Hp}
theorem datI_of {p : Addr} {ns : List Int} (h : SqL K H p (ns.map V.int)) : DatV K H (.ref p) (dI ns) := .lst h (DatAll.ints ns)
theorem datI {v : V} {ns : List Int} (h : DatV K H v (dI ns)) : ∃ p, v = .ref p ∧ SqL K H p (ns.map V.int) := by
  unfold dI at h
  cases h with
  | lst hs ha => rw [DatAll.of_ints ha] at hs; exact ⟨_, rfl, hs⟩
theorem datII_of {p : Addr} {vs : List V} {b : List (List Int)} (h : SqL K H p vs) (ha : DatAll K H vs (b.map dI)) : DatV K H (.ref p) (dII b) := .lst h ha
theorem datII {v : V} {b : List (List Int)} (h : DatV K H v (dII b)) : ∃ p vs, v = .ref p ∧ SqL K H p vs ∧ DatAll K H vs (b.map dI) := by
  unfold dII at h
  cases h with
  | lst hs ha => exact ⟨_, _, rfl, hs, ha⟩
theorem datInt {v : V} {i : Int} (h : DatV K H v (.int i)) : v = .int i := by cases h; rfl
theorem datBool {v : V} {i : Bool} (h : DatV K H v (.bool i)) : v = .bl i := by cases h; rfl
theorem DatAll.of_bools : ∀ {bs : List Bool} {vs : List V}, DatAll K H vs (bs.map PyData.bool) → vs = bs.map V.bl
  | [], _, h => by rw [List.map_nil] at h; cases h; rfl
  | n :: r, _, h => by
    rw [List.map_cons] at h
    cases h with
    | cons a b => cases a; rw [DatAll.of_bools b]; rfl
theorem DatAll.getD {α : Type} {enc : α → PyData} {as : List α} {vs : List V} {i : Nat} {v : V} (h : DatAll K H vs (as.map enc)) (e : vs[i]? = some v) : ∃ x, as[i]? = some x ∧ DatV K H v (enc x) := by
  obtain ⟨d, h1, h2⟩ := h.get e
  rw [List.getElem?_map] at h1
  cases q : as[i]? with
  | none => rw [q] at h1; cases h1
  | some x => rw [q] at h1; cases h1; exact ⟨x, rfl, h2⟩
theorem DatAll.len {α : Type} {enc : α → PyData} {as : List α} {vs : List V} (h : DatAll K H vs (as.map enc)) : vs.length = as.length := by rw [h.length, List.length_map]
variable {k : Nat} {cap : List Nat} {g : TG} {te : TE} {σ : St} {Q : VK}
end
/-! ### equality -/
theorem canI (ns : List Int) : PyData.canLayAll0 (ns.map PyData.int) = true := by
  induction ns with
  | nil => rfl
  | cons a r ih => simp [PyData.canLayAll0, PyData.canLay0, ih]
theorem depI (ns : List Int) : PyData.depthAll (ns.map PyData.int) = 0 := by
  induction ns with
  | nil => rfl
  | cons a r ih => simp [PyData.depthAll, PyData.depth, ih]
theorem canII (b : List (List Int)) : PyData.canLayAll0 (b.map dI) = true := by
  induction b with
  | nil => rfl
  | cons a r ih => simp [PyData.canLayAll0, dI, PyData.canLay0, canI]; exact ih
theorem depII (b : List (List Int)) : PyData.depthAll (b.map dI) ≤ 1 := by
  induction b with
  | nil => exact Nat.zero_le _
  | cons a r ih =>
    simp only [List.map_cons, PyData.depthAll]
    refine Nat.max_le.mpr ⟨?_, ih⟩
    simp [dI, PyData.depth, depI]
theorem shI (ns : List Int) : SeqAt.shaped (dI ns) = true := by simp [SeqAt.shaped, dI, PyData.canLay0, PyData.depth, canI, depI]
theorem shII (b : List (List Int)) : SeqAt.shaped (dII b) = true := by
  have := depII b
  simp [SeqAt.shaped, dII, PyData.canLay0, PyData.depth, canII]; omega
theorem eqI (a b : List Int) : PyData.eqv (dI a) (dI b) = decide (a = b) := by
  show PyData.eqvAll (a.map PyData.int) (b.map PyData.int) = _
  exact PySem.W.ked_eqvAll a b
/-- lists of data that are told apart as what they show are told apart so too -/
theorem eqAllOf {α : Type} [DecidableEq α] (f : α → PyData) (hf : ∀ x y, PyData.eqv (f x) (f y) = decide (x = y)) (a b : List α) : PyData.eqvAll (a.map f) (b.map f) = decide (a = b) := by
  induction a generalizing b with
  | nil => cases b <;> rfl
  | cons x a ih =>
    cases b with
    | nil => rfl
    | cons y b =>
      rw [List.map_cons, List.map_cons, PyData.eqvAll, hf, ih, ← Bool.decide_and]
      exact decide_eq_decide.mpr List.cons_eq_cons.symm
theorem eqAllII (a b : List (List Int)) : PyData.eqvAll (a.map dI) (b.map dI) = decide (a = b) := eqAllOf dI eqI a b
theorem eqII (a b : List (List Int)) : PyData.eqv (dII a) (dII b) = decide (a = b) := eqAllII a b
end L2

set_option Elab.async false
set_option linter.all false
set_option maxRecDepth 100000
set_option maxHeartbeats 4000000
namespace L2
open PySem PySem.Spec PyProof.Rows
section
variable {prog : Program} {w : World} {A : Around} {E : Value → Shared → Prop} {s : Shared}
/-- a zip of two tuples at work: its own pair holds u and v, its first field f; all else stands as in h0 -/
structure ZS (z TI TO i1 i2 t1 t2 : Addr) (xs ys : Array Value) (h0 : Heap) (f u v : Value) (k1 k2 : Nat) (h : Heap) : Prop where
  zip : IsZip h z TI TO f
  out : IsPair h TO u v
  a : h.IsTupleIter i1 t1 k1
  b : h.IsTupleIter i2 t2 k2
  ta : h.IsTuple t1 xs
  tb : h.IsTuple t2 ys
  far : ∀ c o, c ≠ z → c ≠ TO → c ≠ i1 → c ≠ i2 → h0.get? c = some o → h.get? c = some o
section
variable {z TI TO i1 i2 t1 t2 : Addr} {xs ys : Array Value} {h0 h h' : Heap} {f u v f' u' v' : Value} {k1 k2 : Nat}
end
end
/-- objects put behind a heap, one after the other -/
def behind (h : Heap) : List Obj → Heap
  | [] => h
  | o :: r => behind (h.push o) r
/-- what zip(a, b) of two tuples puts down: an iterator of each, the pair of them, its own pair, itself -/
def zipParts (n a b : Addr) : List Obj :=
  [{ cls := .type "tuple_iterator", data := .fields #[.ref a, .int 0 0] }, { cls := .type "tuple_iterator", data := .fields #[.ref b, .int 0 0] }, { cls := .type "tuple", data := .seq #[.ref n, .ref (n + 1)] }, { cls := .type "tuple", data := .seq #[.none, .none] },
   { cls := .type "zip", data := .fields #[.none, .bool false, .bool false, .ref (n + 2), .ref (n + 3)] }]
/-- two tuples side by side -/
def Itzt (K : PySem.W.Frag) (a b : Addr) : It :=
  ⟨fun i H => ∃ xs ys x y, SqT K H a xs ∧ SqT K H b ys ∧ xs[i]? = some x ∧ ys[i]? = some y,
   fun i H v H' => ∃ p x y, v = .ref p ∧ H p = none ∧ H' = upd H p (.tup [x, y]) ∧ (∀ xs, SqT K H a xs → xs[i]? = some x) ∧ ∀ ys, SqT K H b ys → ys[i]? = some y,
   fun i H => ∃ xs ys, SqT K H a xs ∧ SqT K H b ys ∧ (xs[i]? = none ∨ ys[i]? = none)⟩
section
variable {X : Cx} {K : PySem.W.Frag}
def iZipT (K : PySem.W.Frag) (ta : TA) : TI := fun σ H R => ta σ H fun vs H1 => ∃ a b xs ys, vs = [.ref a, .ref b] ∧ SqT K H1 a xs ∧ SqT K H1 b ys ∧ R (Itzt K a b) H1
end
end L2

set_option Elab.async false
set_option linter.all false
set_option maxRecDepth 100000
set_option maxHeartbeats 4000000
namespace L2
open PySem PySem.Spec PyProof.Rows
/-! ### data in the place of values: what the names hold, as data -/
abbrev Rho := List (Option PyData)
structure EnvD (K : PySem.W.Frag) (H : Hp) (σ : St) (ρ : Rho) : Prop where
  len : σ.length = ρ.length
  at_ : ∀ (i : Nat) (d : PyData), ρ[i]? = some (some d) → ∃ v, σ[i]? = some (some v) ∧ DatV K H v d
def capρ (k : Nat) (cap : List Nat) (ρ : Rho) : Rho := List.replicate k none ++ cap.map fun i => (ρ[i]?).join
def rstart (N : List Str) (ds : List PyData) : Rho := ds.map some ++ List.replicate (N.length - ds.length) none
section
variable {K : PySem.W.Frag} {H H' : Hp} {σ : St} {ρ : Rho}
theorem EnvD.same (e : EnvD K H σ ρ) (s : Same H H') : EnvD K H' σ ρ := ⟨e.len, fun i d h => by obtain ⟨v, h1, h2⟩ := e.at_ i d h; exact ⟨v, h1, h2.same s⟩⟩
theorem EnvD.set {v : V} {d : PyData} (e : EnvD K H σ ρ) (h : DatV K H v d) (i : Nat) : EnvD K H (σ.set i (some v)) (ρ.set i (some d)) := by
  refine ⟨by rw [List.length_set, List.length_set]; exact e.len, fun j d' hj => ?_⟩
  by_cases hij : i = j
  · subst hij
    by_cases hlt : i < ρ.length
    · rw [List.getElem?_set_self hlt] at hj
      cases hj
      exact ⟨v, List.getElem?_set_self (by rw [e.len]; exact hlt), h⟩
    · rw [List.getElem?_eq_none (by rw [List.length_set]; omega)] at hj
      cases hj
  · rw [List.getElem?_set_ne hij] at hj ⊢
    exact e.at_ j d' hj
theorem EnvD.cap {k : Nat} {cap : List Nat} (e : EnvD K H σ ρ) : EnvD K H (capσ k cap σ) (capρ k cap ρ) := by
  refine ⟨by simp [capσ, capρ], fun j d hj => ?_⟩
  unfold capρ at hj
  unfold capσ
  by_cases hk : j < k
  · rw [List.getElem?_append_left (by simpa using hk), List.getElem?_replicate] at hj
    simp [hk] at hj
  · rw [List.getElem?_append_right (by simpa using Nat.le_of_not_lt hk), List.getElem?_map] at hj ⊢
    simp only [List.length_replicate] at hj ⊢
    cases hc : cap[j - k]? with
    | none => rw [hc] at hj; cases hj
    | some i =>
      rw [hc] at hj
      simp only [Option.map_some, Option.some.injEq] at hj ⊢
      cases hr : ρ[i]? with
      | none => rw [hr] at hj; cases hj
      | some o =>
        rw [hr] at hj
        have ho : o = some d := hj
        subst ho
        obtain ⟨v, h1, h2⟩ := e.at_ i d hr
        exact ⟨v, by rw [h1]; rfl, h2⟩
theorem DatAll.at' : ∀ {vs : List V} {ds : List PyData} {i : Nat} {d : PyData}, DatAll K H vs ds → ds[i]? = some d → ∃ v, vs[i]? = some v ∧ DatV K H v d
  | _, _, i, d, .nil, h => by simp at h
  | _, _, 0, d, .cons a b, h => by simp at h; subst h; exact ⟨_, rfl, a⟩
  | _, _, i + 1, d, .cons a b, h => by
    rw [List.getElem?_cons_succ] at h ⊢
    exact DatAll.at' b h
theorem EnvD.start {N : List Str} {vs : List V} {ds : List PyData} (h : DatAll K H vs ds) : EnvD K H (start N vs) (rstart N ds) := by
  have hl := h.length
  refine ⟨by simp [L2.start, rstart, hl], fun i d hi => ?_⟩
  unfold rstart at hi
  unfold L2.start
  by_cases hlt : i < ds.length
  · rw [List.getElem?_append_left (by simpa using hlt), List.getElem?_map] at hi
    rw [List.getElem?_append_left (by rw [List.length_map, hl]; exact hlt), List.getElem?_map]
    cases hd : ds[i]? with
    | none => rw [hd] at hi; cases hi
    | some d' =>
      rw [hd] at hi
      cases hi
      obtain ⟨v, h1, h2⟩ := h.at' hd
      exact ⟨v, by rw [h1]; rfl, h2⟩
  · rw [List.getElem?_append_right (by simpa using Nat.le_of_not_lt hlt), List.getElem?_replicate] at hi
    split at hi <;> cases hi
end
/-! ### the judgements over data: an expression, a test, an argument list, a statement -/
def Y (K : PySem.W.Frag) (ρ : Rho) (t : TE) (d : PyData) : Prop := ∀ (σ : St) (H : Hp) (Q : VK), EnvD K H σ ρ → (∀ v H', Same H H' → DatV K H' v d → Q v H') → t σ H Q
def YB (K : PySem.W.Frag) (ρ : Rho) (t : TT) (b : Bool) : Prop := ∀ (σ : St) (H : Hp) (Q : Bool → Hp → Prop), EnvD K H σ ρ → (∀ H', Same H H' → Q b H') → t σ H Q
def YA (K : PySem.W.Frag) (ρ : Rho) (t : TA) (ds : List PyData) : Prop := ∀ (σ : St) (H : Hp) (Q : List V → Hp → Prop), EnvD K H σ ρ → (∀ vs H', Same H H' → DatAll K H' vs ds → Q vs H') → t σ H Q
/-- .. whose value is a list just made -/
def YN (K : PySem.W.Frag) (ρ : Rho) (t : TE) (ds : List PyData) : Prop := ∀ (σ : St) (H : Hp) (Q : VK), EnvD K H σ ρ → (∀ p vs H', Same H H' → H' p = none → DatAll K H' vs ds → Q (.ref p) (upd H' p (.lst vs))) → t σ H Q
/-- a slice's part -/
def YO (K : PySem.W.Frag) (ρ : Rho) (t : TO) (o : Option Int) : Prop := ∀ (σ : St) (H : Hp) (Q : Option Int → Hp → Prop), EnvD K H σ ρ → (∀ H', Same H H' → Q o H') → t σ H Q
/-- an expression that raises -/
def YX (K : PySem.W.Frag) (E : XK) (ρ : Rho) (t : TE) (C : Addr) : Prop := ∀ (σ : St) (H : Hp) (Q : VK), EnvD K H σ ρ → (∀ H', Same H H' → E (.ref C) none H') → t σ H Q
inductive Out where
  | nx (ρ : Rho) | rt (d : PyData) | bk (ρ : Rho) | ct (ρ : Rho) | ex (C : Addr)
structure OutOk (K : PySem.W.Frag) (H : Hp) (E : XK) (D : Ends) (R : Out → Prop) : Prop where
  nx : ∀ σ' H' ρ', Same H H' → EnvD K H' σ' ρ' → R (.nx ρ') → D.nx σ' H'
  rt : ∀ v H' d, Same H H' → DatV K H' v d → R (.rt d) → D.rt v H'
  bk : ∀ σ' H' ρ', Same H H' → EnvD K H' σ' ρ' → R (.bk ρ') → D.bk σ' H'
  ct : ∀ σ' H' ρ', Same H H' → EnvD K H' σ' ρ' → R (.ct ρ') → D.ct σ' H'
  ex : ∀ C H', Same H H' → R (.ex C) → E (.ref C) none H'
theorem OutOk.same {K : PySem.W.Frag} {H H1 : Hp} {E : XK} {D : Ends} {R : Out → Prop} (o : OutOk K H E D R) (s : Same H H1) : OutOk K H1 E D R :=
  ⟨fun a b c d => o.nx a b c (s.trans d), fun a b c d => o.rt a b c (s.trans d), fun a b c d => o.bk a b c (s.trans d), fun a b c d => o.ct a b c (s.trans d), fun a b d => o.ex a b (s.trans d)⟩
def YS (K : PySem.W.Frag) (E : XK) (ρ : Rho) (t : TS) (R : Out → Prop) : Prop := ∀ (σ : St) (H : Hp) (D : Ends), EnvD K H σ ρ → OutOk K H E D R → t D σ H
section
variable {K : PySem.W.Frag} {E : XK} {ρ : Rho} {ta tb tc : TE} {d e f : PyData} {i j : Int} {R R' : Out → Prop} {t u : TS} {b c : Bool} {tt tu : TT} {ds es : List PyData} {as bs : TA}
theorem Y.to (h : Y K ρ ta d) (e : d = f) : Y K ρ ta f := e ▸ h
theorem YN.y (h : YN K ρ ta ds) : Y K ρ ta (.list ds) := fun σ H Q ev q => h σ H Q ev fun p vs H1 s1 hp dv => q _ _ (s1.trans (same_upd hp _)) (.lst (SqL.of upd_same) (dv.same (same_upd hp _)))
theorem YN.to (h : YN K ρ ta ds) (e : ds = es) : YN K ρ ta es := e ▸ h
theorem YB.to (h : YB K ρ tt b) (e : b = c) : YB K ρ tt c := e ▸ h
/-! ### names, constants -/
theorem y_var {n : Nat} (h : ρ[n]? = some (some d)) : Y K ρ (tVar n) d := fun σ H Q e q => by
  obtain ⟨v, h1, h2⟩ := e.at_ n d h
  exact ⟨v, h1, q v H (Same.refl H) h2⟩
theorem y_c {v : V} (h : ∀ H, DatV K H v d) : Y K ρ (tC v) d := fun σ H Q _ q => q v H (Same.refl H) (h H)
theorem y_int : Y K ρ (tC (.int i)) (.int i) := y_c fun _ => .int _
theorem y_bl : Y K ρ (tC (.bl b)) (.bool b) := y_c fun _ => .bl _
theorem y_str {x : Str} : Y K ρ (tC (.str x)) (.str x) := y_c fun _ => .str _
/-! ### operations -/
theorem y_op {r : R2} (ha : Y K ρ ta d) (hb : Y K ρ tb e) (hr : ∀ x y H Q, DatV K H x d → DatV K H y e → (∀ v H', Same H H' → DatV K H' v f → Q v H') → r x y H Q) : Y K ρ (tOp r ta tb) f :=
  fun σ H Q ev q => ha σ H _ ev fun x H1 s1 dx => hb σ H1 _ (ev.same s1) fun y H2 s2 dy => hr x y H2 Q (dx.same s2) dy fun v H3 s3 dv => q v H3 ((s1.trans s2).trans s3) dv
theorem y_I0 {g : Int → Int → V} (hg : ∀ H, DatV K H (g i j) f) (ha : Y K ρ ta (.int i)) (hb : Y K ρ tb (.int j)) : Y K ρ (tOp (rI0 g) ta tb) f :=
  y_op ha hb fun x y H Q dx dy q => ⟨i, j, datInt dx, datInt dy, q _ H (Same.refl H) (hg H)⟩
theorem y_I {C : Int → Int → Prop} {g : Int → Int → V} (hg : ∀ H, DatV K H (g i j) f) (ha : Y K ρ ta (.int i)) (hb : Y K ρ tb (.int j)) (hc : C i j) : Y K ρ (tOp (rI C g) ta tb) f :=
  y_op ha hb fun x y H Q dx dy q => ⟨i, j, datInt dx, datInt dy, hc, q _ H (Same.refl H) (hg H)⟩
theorem y_add (ha : Y K ρ ta (.int i)) (hb : Y K ρ tb (.int j)) : Y K ρ (tOp (rI0 fun i j => .int (i + j)) ta tb) (.int (i + j)) := y_I0 (fun _ => .int _) ha hb
theorem y_sub (ha : Y K ρ ta (.int i)) (hb : Y K ρ tb (.int j)) : Y K ρ (tOp (rI0 fun i j => .int (i - j)) ta tb) (.int (i - j)) := y_I0 (fun _ => .int _) ha hb
theorem y_lt (ha : Y K ρ ta (.int i)) (hb : Y K ρ tb (.int j)) : Y K ρ (tOp (rI0 fun i j => .bl (decide (i < j))) ta tb) (.bool (decide (i < j))) := y_I0 (fun _ => .bl _) ha hb
theorem y_gt (ha : Y K ρ ta (.int i)) (hb : Y K ρ tb (.int j)) : Y K ρ (tOp (rI0 fun i j => .bl (decide (j < i))) ta tb) (.bool (decide (j < i))) := y_I0 (fun _ => .bl _) ha hb
theorem y_mul (ha : Y K ρ ta (.int i)) (hb : Y K ρ tb (.int j)) (hc : CMul i j) : Y K ρ (tOp (rI CMul fun i j => .int (i * j)) ta tb) (.int (i * j)) := y_I (fun _ => .int _) ha hb hc
theorem y_mod (ha : Y K ρ ta (.int i)) (hb : Y K ρ tb (.int j)) (hc : 0 < j) : Y K ρ (tOp (rI (fun _ j => 0 < j) fun i j => .int (i % j)) ta tb) (.int (i % j)) := y_I (fun _ => .int _) ha hb hc
theorem y_eqI (ha : Y K ρ ta (.int i)) (hb : Y K ρ tb (.int j)) : Y K ρ (tOp rEq ta tb) (.bool (decide (i = j))) :=
  y_op ha hb fun x y H Q dx dy q => by
    rw [datInt dx, datInt dy]
    refine ⟨rfl, ?_⟩
    rw [show decide (V.int i = V.int j) = decide (i = j) by rw [decide_eq_decide, V.int.injEq]]
    exact q _ H (Same.refl H) (.bl _)
theorem y_neI (ha : Y K ρ ta (.int i)) (hb : Y K ρ tb (.int j)) : Y K ρ (tOp rNe ta tb) (.bool (!decide (i = j))) :=
  y_op ha hb fun x y H Q dx dy q => by
    rw [datInt dx, datInt dy]
    refine ⟨rfl, ?_⟩
    rw [show decide (V.int i = V.int j) = decide (i = j) by rw [decide_eq_decide, V.int.injEq]]
    exact q _ H (Same.refl H) (.bl _)
/-- any data -/
theorem y_eqD {neg : Bool} (ha : Y K ρ ta d) (hb : Y K ρ tb e) (h1 : SeqAt.shaped d = true) (h2 : SeqAt.shaped e = true) : Y K ρ (tOp (rEqD K neg) ta tb) (.bool (neg != PyData.eqv d e)) :=
  y_op ha hb fun x y H Q dx dy q => ⟨d, e, dx, dy, h1, h2, q _ H (Same.refl H) (.bl _)⟩
/-! ### and, or, not -/
theorem y_and (ha : Y K ρ ta (.bool b)) (hb : b = true → Y K ρ tb (.bool c)) : Y K ρ (tAndV ta tb) (.bool (b && c)) := fun σ H Q ev q => ha σ H _ ev fun x H1 s1 dx => by
  refine ⟨b, datBool dx, ?_⟩
  cases b with
  | true => exact iteT (hb rfl σ H1 Q (ev.same s1) fun v H2 s2 dv => q v H2 (s1.trans s2) (by simpa using dv))
  | false => exact iteF (q _ H1 s1 (.bl _))
theorem y_not (ha : Y K ρ ta (.bool b)) : Y K ρ (tNotV ta) (.bool (!b)) := fun σ H Q ev q => ha σ H _ ev fun x H1 s1 dx => ⟨b, datBool dx, q _ H1 s1 (.bl _)⟩
theorem y_if (hc : YB K ρ tt b) (ha : b = true → Y K ρ ta d) (hb : b = false → Y K ρ tb d) : Y K ρ (tIf tt ta tb) d := fun σ H Q ev q => hc σ H _ ev fun H1 s1 => by
  cases b with
  | true => exact iteT (ha rfl σ H1 Q (ev.same s1) fun v H2 s2 dv => q v H2 (s1.trans s2) dv)
  | false => exact iteF (hb rfl σ H1 Q (ev.same s1) fun v H2 s2 dv => q v H2 (s1.trans s2) dv)
/-- a chain of ints -/
theorem y_chainI {g g' : Int → Int → Bool} {k : Int} (ha : Y K ρ ta (.int i)) (hb : Y K ρ tb (.int j)) (hc : Y K ρ tc (.int k)) : Y K ρ (tChain (rI0 fun i j => .bl (g i j)) (rI0 fun i j => .bl (g' i j)) ta tb tc) (.bool (g i j && g' j k)) :=
  fun σ H Q ev q => ha σ H _ ev fun x H1 s1 dx => hb σ H1 _ (ev.same s1) fun y H2 s2 dy => by
    refine ⟨i, j, datInt dx, datInt dy, _, rfl, ?_⟩
    cases h : g i j with
    | true => exact iteT (hc σ H2 _ (ev.same (s1.trans s2)) fun z H3 s3 dz => ⟨j, k, datInt dy, datInt dz, q _ H3 ((s1.trans s2).trans s3) (by rw [h, Bool.true_and]; exact .bl _)⟩)
    | false => exact iteF (q _ H2 (s1.trans s2) (by rw [h, Bool.false_and]; exact .bl _))
/-! ### tests -/
theorem yb_test (ha : Y K ρ ta (.bool b)) : YB K ρ (tTest ta) b := fun σ H Q ev q => ha σ H _ ev fun x H1 s1 dx => ⟨b, datBool dx, q H1 s1⟩
theorem yb_b (ha : Y K ρ ta (.bool b)) : YB K ρ (tB ta) b := fun σ H Q ev q => ha σ H _ ev fun x H1 s1 dx => ⟨b, datBool dx, q H1 s1⟩
theorem yb_not (ha : YB K ρ tt b) : YB K ρ (tNot tt) (!b) := fun σ H Q ev q => ha σ H _ ev fun H1 s1 => q H1 s1
theorem yb_and (ha : YB K ρ tt b) (hb : b = true → YB K ρ tu c) : YB K ρ (tAnd tt tu) (b && c) := fun σ H Q ev q => ha σ H _ ev fun H1 s1 => by
  cases b with
  | true => exact iteT (hb rfl σ H1 Q (ev.same s1) fun H2 s2 => by simpa using q H2 (s1.trans s2))
  | false => exact iteF (by simpa using q H1 s1)
theorem yb_or (ha : YB K ρ tt b) (hb : b = false → YB K ρ tu c) : YB K ρ (tOr tt tu) (b || c) := fun σ H Q ev q => ha σ H _ ev fun H1 s1 => by
  cases b with
  | false => exact iteF (hb rfl σ H1 Q (ev.same s1) fun H2 s2 => by simpa using q H2 (s1.trans s2))
  | true => exact iteT (by simpa using q H1 s1)
theorem yb_yes : YB K ρ tYes true := fun σ H Q ev q => q H (Same.refl H)
/-! ### argument lists, displays, calls -/
theorem ya_nil : YA K ρ tNil [] := fun σ H Q ev q => q [] H (Same.refl H) .nil
theorem ya_cons (ha : Y K ρ ta d) (hb : YA K ρ as ds) : YA K ρ (tCons ta as) (d :: ds) := fun σ H Q ev q => ha σ H _ ev fun x H1 s1 dx => hb σ H1 _ (ev.same s1) fun xs H2 s2 dxs => q _ H2 (s1.trans s2) (.cons (dx.same s2) dxs)
theorem yn_lst (h : YA K ρ as ds) (hn : ds.length ≤ 1000 := by simp) : YN K ρ (tLst as) ds := fun σ H Q ev q => h σ H _ ev fun vs H1 s1 dv =>
  ⟨by rw [dv.length]; exact Nat.le_of_lt (small1000 hn), fun p hp => q p vs H1 s1 hp dv⟩
theorem y_lst (h : YA K ρ as ds) (hn : ds.length ≤ 1000 := by simp) : Y K ρ (tLst as) (.list ds) := (yn_lst h hn).y
theorem y_tup (h : YA K ρ as ds) (hn : ds.length ≤ 1000 := by simp) : Y K ρ (tTup as) (.tuple ds) := fun σ H Q ev q => h σ H _ ev fun vs H1 s1 dv =>
  ⟨by rw [dv.length]; exact Nat.le_of_lt (small1000 hn), fun p hp => q _ _ (s1.trans (same_upd hp _)) (.tup (SqT.of upd_same) (dv.same (same_upd hp _)))⟩
theorem y_cb {r : List V → Hp → VK → Prop} (h : YA K ρ as ds) (hr : ∀ vs H Q, DatAll K H vs ds → (∀ v H', Same H H' → DatV K H' v d → Q v H') → r vs H Q) : Y K ρ (tCB r as) d :=
  fun σ H Q ev q => h σ H _ ev fun vs H1 s1 dv => hr vs H1 Q dv fun v H2 s2 d2 => q v H2 (s1.trans s2) d2
/-- a def's promise over data: enc the arguments, pre what a caller shows, res what comes back -/
def spF {α : Type} (K : PySem.W.Frag) (enc : α → List PyData) (pre : α → Prop) (res : α → PyData) : Sp := fun vs H Q _ => ∃ a, DatAll K H vs (enc a) ∧ pre a ∧ ∀ v H', Same H H' → DatV K H' v (res a) → Q v H'
/-- .. that may raise an error of the class at C -/
def spX {α : Type} (K : PySem.W.Frag) (enc : α → List PyData) (pre : α → Prop) (res : α → Except Addr PyData) : Sp := fun vs H Q E => ∃ a, DatAll K H vs (enc a) ∧ pre a ∧
  (∀ d, res a = .ok d → ∀ v H', Same H H' → DatV K H' v d → Q v H') ∧ ∀ C, res a = .error C → ∀ H', Same H H' → E (.ref C) none H'
theorem y_call {α : Type} {enc : α → List PyData} {pre : α → Prop} {res : α → PyData} (a : α) (h : YA K ρ as (enc a)) (hp : pre a) : Y K ρ (tCall (spF K enc pre res) [] E as) (res a) := fun σ H Q ev q => h σ H _ ev fun vs H1 s1 dv =>
  ⟨a, by rw [List.append_nil]; exact dv, hp, fun v H2 s2 d2 => q v H2 (s1.trans s2) d2⟩
theorem y_cl {α : Type} {enc : α → List PyData} {pre : α → Prop} {res : α → PyData} (a : α) (h : YA K ρ as (enc a)) (hp : pre a) (e : res a = d) : Y K ρ (tCall (spF K enc pre res) [] E as) d := e ▸ y_call a h hp
theorem y_callX {α : Type} {enc : α → List PyData} {pre : α → Prop} {res : α → Except Addr PyData} (a : α) (h : YA K ρ as (enc a)) (hp : pre a) (hr : res a = .ok d) : Y K ρ (tCall (spX K enc pre res) [] E as) d := fun σ H Q ev q => h σ H _ ev fun vs H1 s1 dv =>
  ⟨a, by rw [List.append_nil]; exact dv, hp, fun d' e v H2 s2 d2 => by rw [hr] at e; cases e; exact q v H2 (s1.trans s2) d2, fun C e => by rw [hr] at e; cases e⟩
theorem yx_callX {α : Type} {enc : α → List PyData} {pre : α → Prop} {res : α → Except Addr PyData} {C : Addr} (a : α) (h : YA K ρ as (enc a)) (hp : pre a) (hr : res a = .error C) : YX K E ρ (tCall (spX K enc pre res) [] E as) C := fun σ H Q ev q => h σ H _ ev fun vs H1 s1 dv =>
  ⟨a, by rw [List.append_nil]; exact dv, hp, fun d' e => by rw [hr] at e; (cases e), fun C' e H2 s2 => by rw [hr] at e; cases e; exact q H2 (s1.trans s2)⟩
/-! ### subscripts, slices, list + list -/
theorem datL {H : Hp} {v : V} (h : DatV K H v (.list ds)) : ∃ p xs, v = .ref p ∧ SqL K H p xs ∧ DatAll K H xs ds := by
  cases h with
  | lst hs ha => exact ⟨_, _, rfl, hs, ha⟩
theorem datT {H : Hp} {v : V} (h : DatV K H v (.tuple ds)) : ∃ p xs, v = .ref p ∧ SqT K H p xs ∧ DatAll K H xs ds := by
  cases h with
  | tup hs ha => exact ⟨_, _, rfl, hs, ha⟩
theorem atI_dat {H : Hp} {xs : List V} (h : DatAll K H xs ds) (e : atI ds i = some d) : ∃ v, atI xs i = some v ∧ DatV K H v d := by
  unfold atI at e ⊢
  rw [h.length]
  cases hx : ixN ds.length i with
  | none => rw [hx] at e; cases e
  | some j =>
    rw [hx] at e
    exact h.at' e
theorem y_ixL (ha : Y K ρ ta (.list ds)) (hb : Y K ρ tb (.int i)) (h : atI ds i = some d) : Y K ρ (tOp (rIxL K) ta tb) d := y_op ha hb fun x y H Q dx dy q => by
  obtain ⟨p, xs, rfl, hs, da⟩ := datL dx
  obtain ⟨v, h1, h2⟩ := atI_dat da h
  exact ⟨p, xs, i, v, rfl, datInt dy, hs, h1, q v H (Same.refl H) h2⟩
theorem y_ixT (ha : Y K ρ ta (.tuple ds)) (hb : Y K ρ tb (.int i)) (h : atI ds i = some d) : Y K ρ (tOp (rIxT K) ta tb) d := y_op ha hb fun x y H Q dx dy q => by
  obtain ⟨p, xs, rfl, hs, da⟩ := datT dx
  obtain ⟨v, h1, h2⟩ := atI_dat da h
  exact ⟨p, xs, i, v, rfl, datInt dy, hs, h1, q v H (Same.refl H) h2⟩
theorem yo_none : YO K ρ tNoPart none := fun σ H Q ev q => q H (Same.refl H)
theorem yo_some (h : Y K ρ ta (.int i)) : YO K ρ (tPart ta) (some i) := fun σ H Q ev q => h σ H _ ev fun x H1 s1 dx => ⟨i, datInt dx, q H1 s1⟩
/-- the items of xs[lo:hi] -/
def cutL {α : Type} (xs : List α) (lo hi : Option Int) : List α := (xs.drop (HT.sIx xs.length 0 lo)).take (HT.sIx xs.length xs.length hi - HT.sIx xs.length 0 lo)
theorem DatAll.drop {H : Hp} : ∀ {vs : List V} {ds : List PyData} (n : Nat), DatAll K H vs ds → DatAll K H (vs.drop n) (ds.drop n)
  | _, _, 0, h => by simpa using h
  | _, _, n + 1, .nil => by simpa using (DatAll.nil (K := K) (H := H))
  | _, _, n + 1, .cons a b => by simpa using DatAll.drop n b
theorem DatAll.take {H : Hp} : ∀ {vs : List V} {ds : List PyData} (n : Nat), DatAll K H vs ds → DatAll K H (vs.take n) (ds.take n)
  | _, _, 0, h => by simpa using (DatAll.nil (K := K) (H := H))
  | _, _, n + 1, .nil => by simpa using (DatAll.nil (K := K) (H := H))
  | _, _, n + 1, .cons a b => by simpa using DatAll.cons a (DatAll.take n b)
theorem cut_dat {H : Hp} {xs : List V} (h : DatAll K H xs ds) (lo hi : Option Int) : DatAll K H (cutV xs lo hi) (cutL ds lo hi) := by
  unfold cutV cutL
  rw [h.length]
  exact (h.drop _).take _
theorem cutL_map {α β : Type} (g : α → β) (xs : List α) (lo hi : Option Int) : cutL (xs.map g) lo hi = (cutL xs lo hi).map g := by
  unfold cutL
  rw [List.length_map, List.map_take, List.map_drop]
theorem yn_slL {tl th : TO} {lo hi : Option Int} (ha : Y K ρ ta (.list ds)) (hl : YO K ρ tl lo) (hh : YO K ρ th hi) : YN K ρ (tSl (rSlL K) ta tl th) (cutL ds lo hi) :=
  fun σ H Q ev q => ha σ H _ ev fun x H1 s1 dx => hl σ H1 _ (ev.same s1) fun H2 s2 => hh σ H2 _ (ev.same (s1.trans s2)) fun H3 s3 => by
    obtain ⟨p, xs, rfl, hs, da⟩ := datL ((dx.same s2).same s3)
    exact ⟨p, xs, rfl, hs, fun l hl => q l _ H3 ((s1.trans s2).trans s3) hl (cut_dat da lo hi)⟩
theorem y_slL {tl th : TO} {lo hi : Option Int} (ha : Y K ρ ta (.list ds)) (hl : YO K ρ tl lo) (hh : YO K ρ th hi) : Y K ρ (tSl (rSlL K) ta tl th) (.list (cutL ds lo hi)) := (yn_slL ha hl hh).y
def rCatS (K : PySem.W.Frag) : R2 := fun x y H Q => ∃ l b xs zs, x = .ref l ∧ y = .ref b ∧ SqL K H l xs ∧ SqL K H b zs ∧ xs.length + zs.length ≤ sizeLine ∧ ∀ p, H p = none → Q (.ref p) (upd H p (.lst (xs ++ zs)))
theorem op_catS {X : Cx} (hK : X.K = K) : OpR X (binaryOp .Add) (rCatS K) := by
  subst hK
  intro pins s σ H x y v u Q I rx ry h
  obtain ⟨l, b, xs, zs, rfl, rfl, hl, hb, hz, q⟩ := h
  cases rx
  cases ry
  obtain ⟨its, r, p1, z1⟩ := I.list hl
  obtain ⟨its2, r2, p2, z2⟩ := I.list hb
  obtain ⟨⟨cls, dd, data, sl⟩, n, ho, hc, _, hd⟩ := p1
  obtain ⟨⟨cls2, dd2, data2, sl2⟩, n2, ho2, hc2, _, hd2⟩ := p2
  simp only at hc hd hc2 hd2
  subst hc hd hc2 hd2
  have e : its.toArray ++ its2.toArray = (its ++ its2).toArray := by simp
  have hsz : its.length + its2.length ≤ sizeLine := by rw [← r.length, ← r2.length]; exact hz
  refine concat_meets ⟨_, ho, rfl⟩ ⟨_, ho2, rfl⟩ noFill_list_add seq_list_add PySem.F.slot_list_add PySem.F.entry_list_add (PySem.F.args_list_add_2 _ _) (list_addW l b its.toArray its2.toArray n n2 dd dd2 sl sl2 (by simpa using hsz)) ⟨ho, ho2, ?_⟩
  rw [e]
  exact ⟨.ref _, _, I.lnew (t' := s.toks) (r.append r2) (by rw [List.length_append]; exact hz), rfl, q _ I.fresh⟩
theorem yn_cat (ha : Y K ρ ta (.list ds)) (hb : Y K ρ tb (.list es)) (hn : ds.length + es.length ≤ 1000) : YN K ρ (tOp (rCatS K) ta tb) (ds ++ es) :=
  fun σ H Q ev q => ha σ H _ ev fun x H1 s1 dx => hb σ H1 _ (ev.same s1) fun y H2 s2 dy => by
    obtain ⟨p, xs, rfl, hs, da⟩ := datL (dx.same s2)
    obtain ⟨p', xs', rfl, hs', da'⟩ := datL dy
    exact ⟨p, p', xs, xs', rfl, rfl, hs, hs', by rw [da.length, da'.length]; exact Nat.le_of_lt (small1000 hn), fun l hl => q l _ H2 (s1.trans s2) hl (da.append da')⟩
theorem y_cat (ha : Y K ρ ta (.list ds)) (hb : Y K ρ tb (.list es)) (hn : ds.length + es.length ≤ 1000) : Y K ρ (tOp (rCatS K) ta tb) (.list (ds ++ es)) := (yn_cat ha hb hn).y
/-- list * int -/
def rRepS (K : PySem.W.Frag) : R2 := fun x y H Q => ∃ l k xs, x = .ref l ∧ y = .int k ∧ SqL K H l xs ∧ -(2 ^ 63) ≤ k ∧ k < 2 ^ 63 ∧ xs.length * k.toNat ≤ sizeLine ∧ ∀ p, H p = none → Q (.ref p) (upd H p (.lst (List.replicate k.toNat xs).flatten))
/-! ### built-in functions -/
theorem dat1 {H : Hp} {vs : List V} (h : DatAll K H vs [d]) : ∃ v, vs = [v] ∧ DatV K H v d := by
  cases h with
  | cons a b => cases b; exact ⟨_, rfl, a⟩
theorem dat2 {H : Hp} {vs : List V} (h : DatAll K H vs [d, e]) : ∃ v w, vs = [v, w] ∧ DatV K H v d ∧ DatV K H w e := by
  cases h with
  | cons a b => obtain ⟨w, rfl, hw⟩ := dat1 b; exact ⟨_, _, rfl, a, hw⟩
theorem y_len (h : Y K ρ ta (.list ds)) : Y K ρ (tCB (fun xs H Q => ∃ p ys, xs = [.ref p] ∧ (SqL K H p ys ∨ SqT K H p ys) ∧ Q (.int ys.length) H) (tCons ta tNil)) (.int ds.length) := y_cb (ya_cons h ya_nil) fun vs H Q dv q => by
  obtain ⟨v, rfl, hv⟩ := dat1 dv
  obtain ⟨p, xs, rfl, hs, da⟩ := datL hv
  exact ⟨p, xs, rfl, .inl hs, q _ H (Same.refl H) (by rw [da.length]; exact .int _)⟩
theorem yn_list (h : Y K ρ ta (.list ds)) : YN K ρ (tCB (fun xs H Q => ∃ p ys, xs = [.ref p] ∧ (SqL K H p ys ∨ SqT K H p ys) ∧ ∀ l, H l = none → Q (.ref l) (upd H l (.lst ys))) (tCons ta tNil)) ds := fun σ H Q ev q => h σ H _ ev fun v H1 s1 hv => by
  obtain ⟨p, xs, rfl, hs, da⟩ := datL hv
  exact ⟨p, xs, rfl, .inl hs, fun l hl => q l xs H1 s1 hl da⟩
theorem y_list (h : Y K ρ ta (.list ds)) : Y K ρ (tCB (fun xs H Q => ∃ p ys, xs = [.ref p] ∧ (SqL K H p ys ∨ SqT K H p ys) ∧ ∀ l, H l = none → Q (.ref l) (upd H l (.lst ys))) (tCons ta tNil)) (.list ds) := (yn_list h).y
theorem y_sum {ns : List Int} (h : Y K ρ ta (dI ns)) : Y K ρ (tCB (fun xs H Q => ∃ (p : Addr) (ns : List Int), xs = [.ref p] ∧ SqL K H p (ns.map V.int) ∧ Q (.int ns.sum) H) (tCons ta tNil)) (.int ns.sum) := y_cb (ya_cons h ya_nil) fun vs H Q dv q => by
  obtain ⟨v, rfl, hv⟩ := dat1 dv
  obtain ⟨p, rfl, hs⟩ := datI hv
  exact ⟨p, ns, rfl, hs, q _ H (Same.refl H) (.int _)⟩
theorem y_all {bs : List Bool} (h : Y K ρ ta (.list (bs.map .bool))) : Y K ρ (tCB (fun xs H Q => ∃ (p : Addr) (bs : List Bool), xs = [.ref p] ∧ SqL K H p (bs.map V.bl) ∧ Q (.bl (bs.all id)) H) (tCons ta tNil)) (.bool (bs.all id)) := y_cb (ya_cons h ya_nil) fun vs H Q dv q => by
  obtain ⟨v, rfl, hv⟩ := dat1 dv
  obtain ⟨p, xs, rfl, hs, da⟩ := datL hv
  rw [DatAll.of_bools da] at hs
  exact ⟨p, bs, rfl, hs, q _ H (Same.refl H) (.bl _)⟩
/-- the type's name of a datum -/
def tyD : PyData → Value
  | .none => .type "NoneType"
  | .bool _ => .type "bool"
  | .int _ => .type "int"
  | .str _ => .type "str"
  | .list _ => .type "list"
  | .tuple _ => .type "tuple"
  | .dict _ => .type "dict"
def rIsD (K : PySem.W.Frag) : List V → Hp → VK → Prop := fun xs H Q => ∃ x c cv d b, xs = [x, c] ∧ clsV c = some cv ∧ DatV K H x d ∧ PySem.W.kitOne K (tyD d) cv = some b ∧ Q (.bl b) H
theorem call_isD {X : Cx} (hK : X.K = K) : CallR X (.builtin "isinstance") (rIsD K) := by
  subst hK
  intro pins s σ H xs us Q I r h
  obtain ⟨x, c, cv, d, b, rfl, hc, dx, hk, q⟩ := h
  obtain ⟨u1, u2, rfl, r1, r2⟩ := vals2 r
  have e2 : u2 = cv := by
    cases c with
    | ref C => cases r2; exact Option.some.inj hc
    | ty T => cases r2; exact Option.some.inj hc
    | non => cases hc
    | bl _ => cases hc
    | int _ => cases hc
    | str _ => cases hc
    | byt _ => cases hc
    | flt _ => cases hc
  subst e2
  have fin : ∀ tk, EP X pins σ Q (.bool b) { s with toks := tk } := fun tk => ⟨.bl b, H, I.tok tk, rfl, q⟩
  cases dx with
  | non => exact isinst_ok I r1 .non hk fin
  | bl y => exact isinst_ok I r1 (.bl y) hk fin
  | int y => exact isinst_ok I r1 (.int y) hk fin
  | str y => exact isinst_ok I r1 (.str y) hk fin
  | lst hs ha =>
    cases r1
    obtain ⟨its, _, ⟨o, n, h1, h2, _⟩, _⟩ := I.list hs
    exact PySem.W.kia_one PySem.W.kitx_list I.kIn ⟨o, h1, h2⟩ hk (fun z => nomatch z) fin
  | tup hs ha =>
    cases r1
    obtain ⟨its, _, ⟨o, h1, h2, _⟩, _⟩ := I.tuple hs
    exact PySem.W.kia_one PySem.W.kitx_tuple I.kIn ⟨o, h1, h2⟩ hk (fun z => nomatch z) fin
theorem y_isD {c : V} {cv : Value} (h : Y K ρ ta d) (hc : clsV c = some cv) (hk : PySem.W.kitOne K (tyD d) cv = some b) : Y K ρ (tCB (rIsD K) (tCons ta (tCons (tC c) tNil))) (.bool b) :=
  fun σ H Q ev q => h σ H _ ev fun x H1 s1 dx => ⟨x, c, cv, d, b, rfl, hc, dx, hk, q _ H1 s1 (.bl _)⟩
/-! ### statements -/
def seqR (K : PySem.W.Frag) (E : XK) (u : TS) (R : Out → Prop) : Out → Prop
  | .nx ρ => YS K E ρ u R
  | o => R o
theorem ys_seq (h : YS K E ρ t (seqR K E u R)) : YS K E ρ (tSeq t u) R := fun σ H D ev o =>
  h σ H _ ev ⟨fun σ' H' ρ' s e r => r σ' H' D e (o.same s), fun v H' d s e r => o.rt v H' d s e r, fun σ' H' ρ' s e r => o.bk σ' H' ρ' s e r, fun σ' H' ρ' s e r => o.ct σ' H' ρ' s e r, fun C H' s r => o.ex C H' s r⟩
theorem ys_if (hc : YB K ρ tt b) (ha : b = true → YS K E ρ t R) (hb : b = false → YS K E ρ u R) : YS K E ρ (tIfS tt t u) R := fun σ H D ev o => hc σ H _ ev fun H1 s1 => by
  cases b with
  | true => exact iteT (ha rfl σ H1 D (ev.same s1) (o.same s1))
  | false => exact iteF (hb rfl σ H1 D (ev.same s1) (o.same s1))
theorem ys_ret (h : Y K ρ ta d) (r : R (.rt d)) : YS K E ρ (tRet ta) R := fun σ H D ev o => h σ H _ ev fun v H1 s1 dv => o.rt v H1 d s1 dv r
theorem ys_next (r : R (.nx ρ)) : YS K E ρ tNext R := fun σ H D ev o => o.nx σ H ρ (Same.refl H) ev r
theorem ys_set {n : Nat} (h : Y K ρ ta d) (r : R (.nx (ρ.set n (some d)))) : YS K E ρ (tAsg ta (gName n)) R := fun σ H D ev o => h σ H _ ev fun v H1 s1 dv => o.nx _ H1 _ s1 ((ev.same s1).set dv n) r
theorem ys_raise {C : Addr} (h : YA K ρ as ds) (hn : ds.length ≤ 1000) (r : R (.ex C)) : YS K E ρ (tRaise E C as) R := fun σ H D ev o => h σ H _ ev fun vs H1 s1 dv => ⟨by rw [dv.length]; exact Nat.le_of_lt (small1000 hn), o.ex C H1 s1 r⟩
/-! ### for -/
/-- behind one turn -/
def turnR (Pv : Rho → Prop) (R : Out → Prop) : Out → Prop
  | .nx ρ => Pv ρ
  | .ct ρ => Pv ρ
  | .bk ρ => R (.nx ρ)
  | .rt d => R (.rt d)
  | .ex C => R (.ex C)
theorem OutOk.turn {H : Hp} {D : Ends} {Pv : Rho → Prop} {N : St → Hp → Prop} (o : OutOk K H E D R) (hN : ∀ σ' H' ρ', Same H H' → EnvD K H' σ' ρ' → Pv ρ' → N σ' H') : OutOk K H E { D with nx := N, ct := N, bk := D.nx } (turnR Pv R) :=
  ⟨fun σ' H' ρ' s e r => hN σ' H' ρ' s e r, fun v H' d s e r => o.rt v H' d s e r, fun σ' H' ρ' s e r => o.nx σ' H' ρ' s e r, fun σ' H' ρ' s e r => hN σ' H' ρ' s e r, fun C H' s r => o.ex C H' s r⟩
theorem ys_forL {n : Nat} (hsrc : Y K ρ ta (.list ds)) (Pv : Nat → Rho → Prop) (h0 : Pv 0 ρ) (hs : ∀ (i : Nat) x ρ', ds[i]? = some x → Pv i ρ' → YS K E (ρ'.set n (some x)) t (turnR (Pv (i + 1)) R)) (hd : ∀ ρ', Pv ds.length ρ' → R (.nx ρ')) :
    YS K E ρ (tFor (iList K ta) (gName n) t) R := fun σ H D ev o => hsrc σ H _ ev fun v H1 s1 dv => by
  obtain ⟨p, xs, rfl, hq, da⟩ := datL dv
  have hl := da.length
  refine ⟨p, rfl, ⟨xs, hq⟩, for_list (xs := xs) (fun i σ' H' => Same H1 H' ∧ ∃ ρ', EnvD K H' σ' ρ' ∧ Pv i ρ') ⟨Same.refl _, ρ, ev.same s1, h0⟩ (fun i σ' H' _ q => q.1.seq hq) (fun i x σ' H' hx q => ?_) fun σ' H' q => ?_⟩
  · obtain ⟨s2, ρ', e2, p2⟩ := q
    obtain ⟨d', h1, h2⟩ := da.get hx
    exact hs i d' ρ' h1 p2 _ H' _ (e2.set (h2.same s2) n) ((o.same (s1.trans s2)).turn fun σ'' H'' ρ'' s3 e3 p3 => ⟨s2.trans s3, ρ'', e3, p3⟩)
  · obtain ⟨s2, ρ', e2, p2⟩ := q
    rw [hl] at p2
    exact o.nx σ' H' ρ' (s1.trans s2) e2 (hd ρ' p2)
theorem ys_forR {n : Nat} {m : Int} (hsrc : YA K ρ as [.int m]) (hm : 0 ≤ m) (hm2 : m < 1000000) (Pv : Nat → Rho → Prop) (h0 : Pv 0 ρ) (hs : ∀ (i : Nat) ρ', (i : Int) < m → Pv i ρ' → YS K E (ρ'.set n (some (.int i))) t (turnR (Pv (i + 1)) R)) (hd : ∀ ρ', Pv m.toNat ρ' → R (.nx ρ')) :
    YS K E ρ (tFor (iRng1 as) (gName n) t) R := fun σ H D ev o => hsrc σ H _ ev fun vs H1 s1 dv => by
  obtain ⟨v, rfl, hv⟩ := dat1 dv
  refine ⟨m, by rw [datInt hv], by omega, by omega, for_range (lo := 0) (n := m.toNat) (fun i σ' H' => Same H1 H' ∧ ∃ ρ', EnvD K H' σ' ρ' ∧ Pv i ρ') ⟨Same.refl _, ρ, ev.same s1, h0⟩ (fun i σ' H' hi q => ?_) fun σ' H' q => ?_⟩
  · obtain ⟨s2, ρ', e2, p2⟩ := q
    rw [Int.zero_add]
    exact hs i ρ' (by omega) p2 _ H' _ (e2.set (.int _) n) ((o.same (s1.trans s2)).turn fun σ'' H'' ρ'' s3 e3 p3 => ⟨s2.trans s3, ρ'', e3, p3⟩)
  · obtain ⟨s2, ρ', e2, p2⟩ := q
    exact o.nx σ' H' ρ' (s1.trans s2) e2 (hd ρ' p2)
end
end L2

set_option Elab.async false
set_option linter.all false
set_option maxRecDepth 100000
set_option maxHeartbeats 4000000
namespace L2
open PySem PySem.Spec PyProof.Rows
section
variable {K : PySem.W.Frag}
/-- over two lists side by side that the body leaves as they are -/
theorem for_zip {a b : Addr} {xs ys : List V} {g : TG} {tb : TS} {D : Ends} {σ : St} {H : Hp} (Pv : Nat → St → Hp → Prop) (hxy : xs.length = ys.length) (h0 : Pv 0 σ H) (hl : ∀ i σ H, i ≤ xs.length → Pv i σ H → SqL K H a xs ∧ SqL K H b ys)
    (hs : ∀ i x y σ H p, xs[i]? = some x → ys[i]? = some y → Pv i σ H → H p = none → g (.ref p) σ (upd H p (.tup [x, y])) fun σ2 H2 => tb { D with nx := Pv (i + 1), ct := Pv (i + 1), bk := D.nx } σ2 H2) (hd : ∀ σ H, Pv xs.length σ H → D.nx σ H) :
    ∃ W : Nat → Nat → St → Hp → Prop, (∃ m, W 0 m σ H) ∧ ∀ i m σ H, W i m σ H →
      ((Itz K a b).stop i H ∧ D.nx σ H) ∨ ((Itz K a b).go i H ∧ ∃ N : St → Hp → Prop, (∀ σ' H', N σ' H' → ∃ m', m' < m ∧ W (i + 1) m' σ' H') ∧ ∀ x H', (Itz K a b).yld i H x H' → g x σ H' fun σ2 H2 => tb { D with nx := N, ct := N, bk := D.nx } σ2 H2) := by
  refine ⟨fun i m σ H => m = xs.length - i ∧ i ≤ xs.length ∧ Pv i σ H, ⟨xs.length, by simp, Nat.zero_le _, h0⟩, ?_⟩
  rintro i m σ H ⟨rfl, hi, p⟩
  have q := hl i σ H hi p
  by_cases hlt : i < xs.length
  · have hlt2 : i < ys.length := by omega
    refine .inr ⟨⟨xs, ys, xs[i], ys[i], q.1, q.2, by simp [hlt], by simp [hlt2]⟩, Pv (i + 1), fun σ' H' p' => ⟨xs.length - (i + 1), by omega, rfl, hlt, p'⟩, fun v H' y => ?_⟩
    obtain ⟨pp, x, y', e1, e2, e3, y1, y2⟩ := y
    subst e1 e3
    exact hs i x y' σ H pp (y1 xs q.1) (y2 ys q.2) p e2
  · have e : i = xs.length := by omega
    subst e
    exact .inl ⟨⟨xs, ys, q.1, q.2, .inl (by simp)⟩, hd σ H p⟩
variable {E : XK} {ρ : Rho} {ta te : TE} {tc : TT} {d e f : PyData} {R : Out → Prop} {t : TS} {ds es : List PyData} {as : TA} {cap : List Nat}
theorem ys_forZ {n m : Nat} (hsrc : YA K ρ as [.list ds, .list es]) (hde : ds.length = es.length) (Pv : Nat → Rho → Prop) (h0 : Pv 0 ρ) (hs : ∀ (i : Nat) x y ρ', ds[i]? = some x → es[i]? = some y → Pv i ρ' → YS K E ((ρ'.set n (some x)).set m (some y)) t (turnR (Pv (i + 1)) R)) (hd : ∀ ρ', Pv ds.length ρ' → R (.nx ρ')) :
    YS K E ρ (tFor (iZip K as) (gTup K 2 (gCons (gName n) (gCons (gName m) gNil))) t) R := fun σ H D ev o => hsrc σ H _ ev fun vs H1 s1 dv => by
  obtain ⟨v, w, rfl, d1, d2⟩ := dat2 dv
  obtain ⟨p, xs, rfl, hq, da⟩ := datL d1
  obtain ⟨p', ys, rfl, hq', da'⟩ := datL d2
  have hl := da.length
  have hl' := da'.length
  refine ⟨p, p', xs, ys, rfl, hq, hq', for_zip (xs := xs) (ys := ys) (fun i σ' H' => Same H1 H' ∧ ∃ ρ', EnvD K H' σ' ρ' ∧ Pv i ρ') (by omega) ⟨Same.refl _, ρ, ev.same s1, h0⟩ (fun i σ' H' _ q => ⟨q.1.seq hq, q.1.seq hq'⟩) (fun i x y σ' H' pp hx hy q hp => ?_) fun σ' H' q => ?_⟩
  · obtain ⟨s2, ρ', e2, p2⟩ := q
    obtain ⟨d', h1, h2⟩ := da.get hx
    obtain ⟨d'', h1', h2'⟩ := da'.get hy
    have s3 : Same H' (upd H' pp (.tup [x, y])) := same_upd hp _
    exact ⟨pp, _, rfl, SqT.of upd_same, rfl, x, _, rfl, y, _, rfl, rfl, hs i d' d'' ρ' h1 h1' p2 _ _ _ (((e2.same s3).set ((h2.same s2).same s3) n).set ((h2'.same s2).same s3) m) ((o.same ((s1.trans s2).trans s3)).turn fun σ'' H'' ρ'' s4 e4 p4 => ⟨(s2.trans s3).trans s4, ρ'', e4, p4⟩)⟩
  · obtain ⟨s2, ρ', e2, p2⟩ := q
    rw [hl] at p2
    exact o.nx σ' H' ρ' (s1.trans s2) e2 (hd ρ' p2)
/-! ### comprehensions -/
theorem take_filter_succ {α : Type} (as : List α) (p : α → Bool) (i : Nat) (x : α) (h : as[i]? = some x) : (as.take (i + 1)).filter p = (as.take i).filter p ++ if p x then [x] else [] := by
  obtain ⟨hlt, e⟩ := List.getElem?_eq_some_iff.mp h
  rw [List.take_succ_eq_append_getElem hlt, List.filter_append, e]
  congr 1
  cases hp : p x <;> simp [hp]
/-- over a list, with a test -/
theorem yn_compF {α : Type} {enc : α → PyData} {as : List α} (hsrc : Y K ρ ta (.list (as.map enc))) (p : α → Bool) (F : α → PyData) (hn : as.length ≤ 1000)
    (hp : ∀ x ∈ as, YB K ((capρ 1 cap ρ).set 0 (some (enc x))) tc (p x)) (he : ∀ x ∈ as, p x = true → Y K ((capρ 1 cap ρ).set 0 (some (enc x))) te (F x)) :
    YN K ρ (tComp 1 cap (iList K ta) (gName 0) tc te) ((as.filter p).map F) := fun σ H Q ev q => hsrc σ H _ ev fun v H1 s1 dv => by
  obtain ⟨a, xs, rfl, hq, da⟩ := datL dv
  have hl := da.len
  refine ⟨a, rfl, ⟨xs, hq⟩, comp_list (xs := xs) (fun i ys H' => Same H1 H' ∧ DatAll K H' ys (((as.take i).filter p).map F)) (by rw [hl]; exact hn) ⟨Same.refl _, by simpa using DatAll.nil⟩ (fun i ys H' _ w => w.1.seq hq)
    (fun i ys H' w => by rw [w.2.length, List.length_map]; exact Nat.le_trans (List.length_filter_le _ _) (by rw [List.length_take]; exact Nat.min_le_left _ _)) (fun i x ys H' hx w => ?_) fun ys H' w pp hpp => ?_⟩
  · obtain ⟨x', h1, h2⟩ := da.getD hx
    have hm := List.mem_of_getElem? h1
    have e1 : EnvD K H' ((capσ 1 cap σ).set 0 (some x)) ((capρ 1 cap ρ).set 0 (some (enc x'))) := ((ev.cap).same (s1.trans w.1)).set (h2.same w.1) 0
    refine hp x' hm _ H' _ e1 fun H2 s2 => ?_
    have hts := take_filter_succ as p i x' h1
    cases hb : p x' with
    | true =>
      rw [hb, if_pos rfl] at hts
      refine iteT (he x' hm hb _ H2 _ (e1.same s2) fun v H3 s3 dv => ⟨(w.1.trans s2).trans s3, ?_⟩)
      rw [hts, List.map_append]
      exact ((w.2.same s2).same s3).append (.cons dv .nil)
    | false =>
      rw [hb, if_neg Bool.false_ne_true, List.append_nil] at hts
      refine iteF ⟨w.1.trans s2, ?_⟩
      rw [hts]
      exact w.2.same s2
  · have w2 := w.2
    rw [hl, List.take_length] at w2
    exact q pp _ H' (s1.trans w.1) hpp w2
/-- .. without one -/
theorem yn_comp {α : Type} {enc : α → PyData} {as : List α} (hsrc : Y K ρ ta (.list (as.map enc))) (F : α → PyData) (hn : as.length ≤ 1000)
    (he : ∀ x ∈ as, Y K ((capρ 1 cap ρ).set 0 (some (enc x))) te (F x)) : YN K ρ (tComp 1 cap (iList K ta) (gName 0) tYes te) (as.map F) :=
  (yn_compF hsrc (fun _ => true) F hn (fun _ _ => yb_yes) fun x hx _ => he x hx).to (by rw [List.filter_eq_self.mpr (fun _ _ => rfl)])
/-- over a range -/
theorem yn_compRF {n : Int} {as : TA} (hsrc : YA K ρ as [.int n]) (h0 : 0 ≤ n) (hn : n ≤ 1000) (p : Nat → Bool) (F : Nat → PyData)
    (hp : ∀ i : Nat, (i : Int) < n → YB K ((capρ 1 cap ρ).set 0 (some (.int i))) tc (p i)) (he : ∀ i : Nat, (i : Int) < n → p i = true → Y K ((capρ 1 cap ρ).set 0 (some (.int i))) te (F i)) :
    YN K ρ (tComp 1 cap (iRng1 as) (gName 0) tc te) (((List.range n.toNat).filter p).map F) := fun σ H Q ev q => hsrc σ H _ ev fun vs H1 s1 dv => by
  obtain ⟨v, rfl, hv⟩ := dat1 dv
  refine ⟨n, by rw [datInt hv], by omega, by omega, comp_range (lo := 0) (n := n.toNat) (fun i ys H' => Same H1 H' ∧ DatAll K H' ys (((List.range i).filter p).map F)) (by omega) ⟨Same.refl _, by simpa using DatAll.nil⟩
    (fun i ys H' w => by rw [w.2.length, List.length_map]; exact Nat.le_trans (List.length_filter_le _ _) (by rw [List.length_range]; exact Nat.le_refl _)) (fun i ys H' hi w => ?_) fun ys H' w pp hpp => ?_⟩
  · rw [Int.zero_add]
    have e1 : EnvD K H' ((capσ 1 cap σ).set 0 (some (.int i))) ((capρ 1 cap ρ).set 0 (some (.int i))) := ((ev.cap).same (s1.trans w.1)).set (.int _) 0
    refine hp i (by omega) _ H' _ e1 fun H2 s2 => ?_
    have hts : (List.range (i + 1)).filter p = (List.range i).filter p ++ if p i then [i] else [] := by
      rw [List.range_succ, List.filter_append]
      congr 1
      cases hp : p i <;> simp [hp]
    cases hb : p i with
    | true =>
      rw [hb, if_pos rfl] at hts
      refine iteT (he i (by omega) hb _ H2 _ (e1.same s2) fun v H3 s3 dv => ⟨(w.1.trans s2).trans s3, ?_⟩)
      rw [hts, List.map_append]
      exact ((w.2.same s2).same s3).append (.cons dv .nil)
    | false =>
      rw [hb, if_neg Bool.false_ne_true, List.append_nil] at hts
      refine iteF ⟨w.1.trans s2, ?_⟩
      rw [hts]
      exact w.2.same s2
  · exact q pp _ H' (s1.trans w.1) hpp w.2
theorem yn_compR {n : Int} {as : TA} (hsrc : YA K ρ as [.int n]) (h0 : 0 ≤ n) (hn : n ≤ 1000) (F : Nat → PyData)
    (he : ∀ i : Nat, (i : Int) < n → Y K ((capρ 1 cap ρ).set 0 (some (.int i))) te (F i)) : YN K ρ (tComp 1 cap (iRng1 as) (gName 0) tYes te) ((List.range n.toNat).map F) :=
  (yn_compRF hsrc h0 hn (fun _ => true) F (fun _ _ => yb_yes) fun x hx _ => he x hx).to (by rw [List.filter_eq_self.mpr (fun _ _ => rfl)])
/-- over two lists of as many items -/
theorem yn_compZ {as : TA} (hsrc : YA K ρ as [.list ds, .list es]) (hde : ds.length = es.length) (hn : ds.length ≤ 1000) (F : PyData → PyData → PyData)
    (he : ∀ (i : Nat) x y, ds[i]? = some x → es[i]? = some y → Y K (((capρ 2 cap ρ).set 0 (some x)).set 1 (some y)) te (F x y)) :
    YN K ρ (tComp 2 cap (iZip K as) (gTup K 2 (gCons (gName 0) (gCons (gName 1) gNil))) tYes te) (List.zipWith F ds es) := fun σ H Q ev q => hsrc σ H _ ev fun vs H1 s1 dv => by
  obtain ⟨v, w, rfl, d1, d2⟩ := dat2 dv
  obtain ⟨p, xs, rfl, hq, da⟩ := datL d1
  obtain ⟨p', ys, rfl, hq', da'⟩ := datL d2
  have hl := da.length
  have hl' := da'.length
  refine ⟨p, p', xs, ys, rfl, hq, hq', comp_zip (xs := xs) (ys := ys) (fun i zs H' => Same H1 H' ∧ DatAll K H' zs ((List.zipWith F ds es).take i)) (by omega) (by omega) ⟨Same.refl _, by simpa using DatAll.nil⟩ (fun i zs H' _ w => ⟨w.1.seq hq, w.1.seq hq'⟩)
    (fun i zs H' w => by rw [w.2.length, List.length_take]; exact Nat.min_le_left _ _) (fun i x y zs H' pp hx hy w hp => ?_) fun zs H' w pp hpp => ?_⟩
  · obtain ⟨d', h1, h2⟩ := da.get hx
    obtain ⟨d'', h1', h2'⟩ := da'.get hy
    have s3 : Same H' (upd H' pp (.tup [x, y])) := same_upd hp _
    refine ⟨pp, _, rfl, SqT.of upd_same, rfl, x, _, rfl, y, _, rfl, rfl, ?_⟩
    simp only [tYes, if_true]
    refine he i d' d'' h1 h1' _ _ _ (((((ev.cap).same (s1.trans w.1)).same s3).set ((h2.same w.1).same s3) 0).set ((h2'.same w.1).same s3) 1) fun v H3 s4 dv => ⟨(w.1.trans s3).trans s4, ?_⟩
    have hz : (List.zipWith F ds es)[i]? = some (F d' d'') := by rw [List.getElem?_zipWith, h1, h1']
    obtain ⟨hlt, ez⟩ := List.getElem?_eq_some_iff.mp hz
    rw [List.take_succ_eq_append_getElem hlt, ez]
    exact ((w.2.same s3).same s4).append (.cons dv .nil)
  · have w2 := w.2
    rw [List.take_of_length_le (by rw [List.length_zipWith]; omega)] at w2
    exact q pp _ H' (s1.trans w.1) hpp w2
theorem yn_compT {α β : Type} {enc : α → PyData} {enc' : β → PyData} {as : List α} (hsrc : Y K ρ ta (.list (as.map enc))) (F : α → β) (hn : as.length ≤ 1000)
    (he : ∀ x ∈ as, Y K ((capρ 1 cap ρ).set 0 (some (enc x))) te (enc' (F x))) : YN K ρ (tComp 1 cap (iList K ta) (gName 0) tYes te) ((as.map F).map enc') :=
  (yn_comp hsrc (fun x => enc' (F x)) hn he).to (by rw [List.map_map]; rfl)
theorem yn_compRT {β : Type} {enc' : β → PyData} {n : Int} {as : TA} (hsrc : YA K ρ as [.int n]) (h0 : 0 ≤ n) (hn : n ≤ 1000) (F : Nat → β)
    (he : ∀ i : Nat, (i : Int) < n → Y K ((capρ 1 cap ρ).set 0 (some (.int i))) te (enc' (F i))) : YN K ρ (tComp 1 cap (iRng1 as) (gName 0) tYes te) (((List.range n.toNat).map F).map enc') :=
  (yn_compR hsrc h0 hn (fun x => enc' (F x)) he).to (by rw [List.map_map]; rfl)
theorem yn_compZI {xs ys : List Int} {as : TA} (hsrc : YA K ρ as [dI xs, dI ys]) (hde : xs.length = ys.length) (hn : xs.length ≤ 1000) (F : Int → Int → Int)
    (he : ∀ (i : Nat) x y, xs[i]? = some x → ys[i]? = some y → Y K (((capρ 2 cap ρ).set 0 (some (.int x))).set 1 (some (.int y))) te (.int (F x y))) :
    YN K ρ (tComp 2 cap (iZip K as) (gTup K 2 (gCons (gName 0) (gCons (gName 1) gNil))) tYes te) ((List.zipWith F xs ys).map .int) := by
  refine (yn_compZ (ds := xs.map .int) (es := ys.map .int) hsrc (by simpa using hde) (by simpa using hn) (fun x y => match x, y with | .int x, .int y => .int (F x y) | _, _ => .none) fun i x y hx hy => ?_).to ?_
  · rw [List.getElem?_map] at hx hy
    cases h1 : xs[i]? with
    | none => rw [h1] at hx; cases hx
    | some a =>
      cases h2 : ys[i]? with
      | none => rw [h2] at hy; cases hy
      | some b =>
        rw [h1] at hx
        rw [h2] at hy
        cases hx
        cases hy
        exact he i a b h1 h2
  · rw [List.zipWith_map, List.map_zipWith]
/-- an int among written ones -/
def ctn (ms : List Int) (i : Int) : Bool := ms.any fun a => a == i
theorem inV_ints (i : Int) (ms : List Int) : inV (.int i) (ms.map V.int) = ctn ms i := by
  unfold inV ctn
  rw [List.any_map]
  rfl
theorem flat_ints (ms : List Int) : (ms.map V.int).all flatV = true := by
  rw [List.all_map, List.all_eq_true]
  intro x hx
  rfl
theorem y_inT {i : Int} {ms : List Int} {tb : TE} (ha : Y K ρ ta (.int i)) (hb : Y K ρ tb (.tuple (ms.map .int))) : Y K ρ (tOp (rIn K false) ta tb) (.bool (ctn ms i)) := y_op ha hb fun x y H Q dx dy q => by
  obtain ⟨p, xs, rfl, hs, da⟩ := datT dy
  rw [DatAll.of_ints da] at hs
  rw [datInt dx]
  refine ⟨p, _, rfl, .inr hs, rfl, flat_ints ms, ?_⟩
  rw [if_neg Bool.false_ne_true, inV_ints]
  exact q _ H (Same.refl H) (.bl _)
end
/-! ### a def by its body's reading over data -/
def EndsR (d : PyData) : Out → Prop
  | .rt e => e = d
  | .nx _ => d = .none
  | _ => False
def EndsX (r : Except Addr PyData) : Out → Prop
  | .rt e => r = .ok e
  | .nx _ => r = .ok .none
  | .ex C => r = .error C
  | _ => False
section
variable {P : Program} {w : World} {K : PySem.W.Frag} {mg : Str → Option Value} {base : Heap}
theorem OutOk.ofR {H : Hp} {E : XK} {Q : VK} {d : PyData} (q : ∀ v H', Same H H' → DatV K H' v d → Q v H') : OutOk K H E { nx := fun _ H' => Q .non H', rt := Q } (EndsR d) :=
  ⟨fun _ H' _ s _ r => q _ H' s (by rw [show d = .none from r]; exact .non), fun v H' e s dv r => q v H' s (by rw [← show e = d from r]; exact dv), fun _ _ _ _ _ r => (show False from r).elim, fun _ _ _ _ _ r => (show False from r).elim, fun _ _ _ r => (show False from r).elim⟩
theorem OutOk.ofX {H : Hp} {E : XK} {Q : VK} {x : Except Addr PyData} (q : ∀ d, x = .ok d → ∀ v H', Same H H' → DatV K H' v d → Q v H') (qe : ∀ C, x = .error C → ∀ H', Same H H' → E (.ref C) none H') : OutOk K H E { nx := fun _ H' => Q .non H', rt := Q } (EndsX x) :=
  ⟨fun _ H' _ s _ r => q _ r _ H' s .non, fun v H' e s dv r => q _ r v H' s dv, fun _ _ _ _ _ r => (show False from r).elim, fun _ _ _ _ _ r => (show False from r).elim, fun C H' s r => qe C r H' s⟩
theorem Fun.okD {α : Type} {enc : α → List PyData} {pre : α → Prop} {res : α → PyData} {x qual : Str} {st : Stmt} {f : Addr} {fd : FuncData} {N ps : List Str} {k : Nat} (F : Fun K x qual st f fd) (S : FnScope N ps (defScope st)) (len : ∀ a, (enc a).length = ps.length)
    (hbody : ∀ (cdv : Value) (A : Around) (outer : List Env) (s : Shared) (H : Hp) (E : XK), Room k (A.deeper (envOfC qual (defScope st) s.heap.objs.size f cdv)) →
      ∃ t, PSs (cxOf CX0 P w K mg base N qual (defScope st) f cdv A outer s H E).nox (defBody st) t ∧ ∀ a, pre a → YS K E0 (rstart N (enc a)) t (EndsR (res a))) : FnOk P w K mg base CX0 (k + 1) f fd ps (spF K enc pre res) :=
  F.ok S (fun vs H Q E ⟨a, da, _⟩ => by rw [da.length, len]) fun cdv A outer s H vs Q E hr ⟨a, da, pa, q⟩ => by
    obtain ⟨t, ht, hy⟩ := hbody cdv A outer s H E hr
    exact ⟨t, ht, hy a pa _ H _ (EnvD.start da) (.ofR q)⟩
theorem Fun.okXD {α : Type} {enc : α → List PyData} {pre : α → Prop} {res : α → Except Addr PyData} {x qual : Str} {st : Stmt} {f : Addr} {fd : FuncData} {N ps : List Str} {k : Nat} (F : Fun K x qual st f fd) (S : FnScope N ps (defScope st)) (len : ∀ a, (enc a).length = ps.length)
    (hbody : ∀ (cdv : Value) (A : Around) (outer : List Env) (s : Shared) (H : Hp) (E : XK), Room k (A.deeper (envOfC qual (defScope st) s.heap.objs.size f cdv)) →
      ∃ t, PSs (cxOf (CXE P w) P w K mg base N qual (defScope st) f cdv A outer s H E) (defBody st) t ∧ ∀ a, pre a → YS K E (rstart N (enc a)) t (EndsX (res a))) : FnOk P w K mg base (CXE P w) (k + 1) f fd ps (spX K enc pre res) :=
  F.okE S (fun vs H Q E ⟨a, da, _⟩ => by rw [da.length, len]) fun cdv A outer s H vs Q E hr ⟨a, da, pa, q, qe⟩ => by
    obtain ⟨t, ht, hy⟩ := hbody cdv A outer s H E hr
    exact ⟨t, ht, hy a pa _ H _ (EnvD.start da) (.ofX q qe)⟩
end
end L2

set_option Elab.async false
set_option linter.all false
set_option maxRecDepth 100000
set_option maxHeartbeats 4000000
namespace L2
open PySem PySem.Spec PyProof.Rows
/-- a call within the suite of the exception at ea -/
def tCallE (ea : Addr) (sp : Sp) (t : TA) : TE := fun σ H Q => t σ H fun vs H1 => (∃ (oe : Obj) (u : HO) (ws : Array Value), H1 ea = some (.frz oe u) ∧ oe.data = .fields ws ∧ ws[2]? = some .none) ∧ sp vs H1 Q E0
/-! ### lists of bools -/
def dB (bs : List Bool) : PyData := .list (bs.map .bool)
/-- two lists of ints in a tuple -/
def dT2 (a b : List Int) : PyData := .tuple [dI a, dI b]
/-! ### a statement's head by data, the rest by hand -/
section
variable {K : PySem.W.Frag} {H : Hp} {σ : St} {ρ : Rho} {te : TE} {tt : TT} {d : PyData} {ds : List PyData} {D : Ends} {t u e : TS} {n : Nat} {b : Bool}
theorem goSet (h : Y K ρ te d) (ev : EnvD K H σ ρ) (q : ∀ v H', Same H H' → DatV K H' v d → u D (σ.set n (some v)) H') : tSeq (tAsg te (gName n)) u D σ H := h σ H _ ev q
theorem goSetN (h : YN K ρ te ds) (ev : EnvD K H σ ρ) (q : ∀ p vs H', Same H H' → H' p = none → DatAll K H' vs ds → u D (σ.set n (some (.ref p))) (upd H' p (.lst vs))) : tSeq (tAsg te (gName n)) u D σ H := h σ H _ ev q
theorem goDrop (h : Y K ρ te d) (ev : EnvD K H σ ρ) (q : ∀ v H', Same H H' → DatV K H' v d → u D σ H') : tSeq (tDrop te) u D σ H := h σ H _ ev q
theorem goDropX {E : XK} {C : Addr} (h : YX K E ρ te C) (ev : EnvD K H σ ρ) (q : ∀ H', Same H H' → E (.ref C) none H') : tSeq (tDrop te) u D σ H := h σ H _ ev q
theorem goIf (h : YB K ρ tt b) (ev : EnvD K H σ ρ) (q : ∀ H', Same H H' → if b = true then t { D with nx := u D } σ H' else e { D with nx := u D } σ H') : tSeq (tIfS tt t e) u D σ H := h σ H _ ev q
theorem goIfN (h : YB K ρ tt b) (hb : b = false) (ev : EnvD K H σ ρ) (q : ∀ H', Same H H' → u D σ H') : tSeq (tIfS tt t tNext) u D σ H := h σ H _ ev fun H' s => by rw [hb]; exact iteF (q H' s)
theorem goIfT (h : YB K ρ tt b) (hb : b = true) (ev : EnvD K H σ ρ) (q : ∀ H', Same H H' → t { D with nx := u D } σ H') : tSeq (tIfS tt t e) u D σ H := h σ H _ ev fun H' s => by rw [hb]; exact iteT (q H' s)
theorem goRet (h : Y K ρ te d) (ev : EnvD K H σ ρ) (q : ∀ v H', Same H H' → DatV K H' v d → D.rt v H') : tRet te D σ H := h σ H _ ev q
end
theorem passX0 {P : Program} {w : World} {X : Cx} : Passes (CXE P w) X E0 := fun _ _ _ _ _ _ _ h => by
  obtain ⟨_, _, _, _, _, _, _, _, _, z⟩ := h
  exact z.elim
/-! ### lists that a callee doesn't see stay as they are -/
def hideL (H : Hp) (ls : List Addr) : Hp := fun b => if b ∈ ls then none else H b
def backL (H H' : Hp) (ls : List Addr) : Hp := fun b => if b ∈ ls then H b else H' b
theorem Same.updN {H H' : Hp} {l : Addr} {o : HO} (s : Same H H') (h : H l = none) : Same H (upd H' l o) := fun b u q => by rw [upd_ne (ne_of_none q h)]; exact s b u q
def spFr (sp : Sp) : Sp := fun vs H Q _ => ∃ ls : List Addr, (∀ p ∈ ls, ∃ xs, H p = some (.lst xs)) ∧ sp vs (hideL H ls) (fun v H' => (∀ p ∈ ls, H' p = none) → Q v (backL H H' ls)) E0
end L2
namespace L2
open PySem PySem.Spec PyProof.Rows
/-! ### the error classes as they stand behind the top -/
def mroAt (K : PySem.W.Frag) (C : Addr) : Option (List Value) := (PySem.W.clsIn K C).map (·.mro)
/-- a namespace of the frame reads alike on every heap that has the frame -/
theorem nsMap_same {K : PySem.W.Frag} {h g : Heap} {N : Addr} (X : K.In h) (Y : K.In g) (ok : PySem.W.nsOkIn K N = true) : h.nsMap N = g.nsMap N := by
  revert ok
  delta PySem.W.nsOkIn
  split
  · rename_i at_
    intro _
    funext x
    rw [Heap.nsMap, Heap.nsMap, X _ _ at_, Y _ _ at_]
  · intro z; cases z
theorem excCls_of {K : PySem.W.Frag} {h : Heap} {C : Addr} {tl : List Value} {newId : String} (X : K.In h) (q : PySem.W.excIn K C bmV newId = true) (m : mroAt K C = some (.ref C :: tl)) : ExcCls K C tl newId := by
  unfold PySem.W.excIn at q
  unfold mroAt PySem.W.clsIn at m
  split at q
  case h_2 => cases q
  case h_1 owned cls six at_ =>
    rw [at_] at m
    split at q
    case h_2 => cases q
    case h_1 first bases s0 s1 s2 s3 made s5 order slots =>
      have six_ : six = #[s0, s1, s2, s3, some (.builtin made), s5] := by rw [← Array.toArray_toList (xs := six), slots]
      rcases cls with ⟨title, parents, line, names, full, hasD, sns, subs, abst, colr, dels⟩
      have line_ : line = .ref C :: tl := by simpa using m
      simp only [Bool.and_eq_true, beq_iff_eq, Bool.not_eq_true'] at q
      have same : bases = tl ∧ first = C := by
        have := order.symm.trans line_
        injection this with u v
        injection u with u
        exact ⟨v, u⟩
      obtain ⟨⟨⟨⟨⟨_, rfl⟩, nodel⟩, tail⟩, nsok⟩, noinit⟩ := q
      subst six_
      obtain ⟨rfl, rfl⟩ := same
      dsimp only at order nodel nsok noinit
      subst order nodel
      exact ⟨names, title, full, parents, hasD, sns, subs, abst, colr, owned, s0, s1, s2, s3, s5, h.nsMap names, PySem.W.nsMap_none_of_in X nsok noinit, fun g Y => ⟨Y _ _ at_, nsMap_same X Y nsok ▸ .of_isNs (PySem.W.isNs_of_in Y nsok), PySem.W.tail_of_in Y tail⟩⟩
def kitB (K : PySem.W.Frag) (C : Addr) : Bool :=
  PySem.W.findIn K (.ref C) "__getattribute__" == some (some (.builtin "BaseException.__getattribute__")) && PySem.W.mroIn K C (.type "BaseException") == some true && PySem.W.findIn K (.ref C) "__getattr__" == some none && PySem.W.hasDictIn K C &&
  PySem.W.findIn K (.ref C) "__class__" == some (some (.builtin "object.__class__")) && PySem.W.specialIn K (.builtin "object.__class__") "__get__" == some (some (.builtin "getset_descriptor.__get__")) && PySem.W.takesIn K (.builtin "object.__class__") == some true && PySem.W.mroIn K C (.type "object") == some true
theorem kit_of {K : PySem.W.Frag} {C : Addr} (h : kitB K C = true) : ExcKit K C := by
  unfold kitB at h
  simp only [Bool.and_eq_true, beq_iff_eq] at h
  obtain ⟨⟨⟨⟨⟨⟨⟨h1, h2⟩, h3⟩, h4⟩, h5⟩, h6⟩, h7⟩, h8⟩ := h
  exact ⟨h1, h2, h3, h4, h5, h6, h7, h8⟩
end L2

set_option Elab.async false
set_option linter.all false
set_option maxRecDepth 100000
set_option maxHeartbeats 4000000
namespace L2
open PySem PySem.Spec PyProof.Rows
/-! ### lists of pairs as tables -/
section
variable {κ : Type} [DecidableEq κ]
def valV (kvs : List (κ × V)) (k : κ) : Option V := (kvs.find? fun kv => decide (kv.1 = k)).map (·.2)
/-- in its place, or at the end -/
def putK (kvs : List (κ × V)) (k : κ) (v : V) : List (κ × V) :=
  if (kvs.any fun kv => decide (kv.1 = k)) = true then kvs.map (fun kv => if kv.1 = k then (kv.1, v) else kv) else kvs ++ [(k, v)]
def dropK (kvs : List (κ × V)) (k : κ) : List (κ × V) := kvs.filter fun kv => decide (kv.1 ≠ k)

theorem valV_pos {p : κ × V} {r : List (κ × V)} {k : κ} (e : p.1 = k) : valV (p :: r) k = some p.2 := by simp [valV, List.find?_cons, e]
theorem valV_neg {p : κ × V} {r : List (κ × V)} {k : κ} (e : ¬ p.1 = k) : valV (p :: r) k = valV r k := by simp [valV, List.find?_cons, e]
theorem valV_any (k : κ) : ∀ kvs : List (κ × V), (kvs.any fun kv => decide (kv.1 = k)) = (valV kvs k).isSome
  | [] => rfl
  | p :: r => by
    rw [List.any_cons]
    by_cases e : p.1 = k
    · simp only [valV_pos e, decide_eq_true e, Bool.true_or, Option.isSome_some]
    · rw [valV_neg e, decide_eq_false e, Bool.false_or]; exact valV_any k r
theorem valV_map (k j : κ) (y : V) : ∀ kvs : List (κ × V), valV (kvs.map fun kv => if kv.1 = k then (kv.1, y) else kv) j = (valV kvs j).map fun x => if j = k then y else x
  | [] => rfl
  | p :: r => by
    have ih := valV_map k j y r
    rw [List.map_cons]
    by_cases h : p.1 = k
    · rw [if_pos h]
      by_cases e : p.1 = j
      · rw [valV_pos (p := (p.1, y)) e, valV_pos e, Option.map_some, if_pos (e.symm.trans h)]
      · rw [valV_neg (p := (p.1, y)) e, valV_neg e, ih]
    · rw [if_neg h]
      by_cases e : p.1 = j
      · rw [valV_pos (p := p) e, valV_pos e, Option.map_some, if_neg (fun z => h (e.trans z))]
      · rw [valV_neg (p := p) e, valV_neg e, ih]
theorem valV_snoc (k j : κ) (y : V) : ∀ kvs : List (κ × V), valV kvs k = none → valV (kvs ++ [(k, y)]) j = if j = k then some y else valV kvs j
  | [], _ => by
    by_cases e : k = j
    · rw [if_pos e.symm]; exact valV_pos (p := (k, y)) e
    · rw [if_neg (fun z => e z.symm)]; exact valV_neg (p := (k, y)) e
  | p :: r, hn => by
    rw [List.cons_append]
    have hk : ¬ p.1 = k := fun z => by rw [valV_pos z] at hn; cases hn
    rw [valV_neg hk] at hn
    have ih := valV_snoc k j y r hn
    by_cases e : p.1 = j
    · rw [valV_pos e, valV_pos e, if_neg (fun z => hk (e.trans z))]
    · rw [valV_neg e, valV_neg e, ih]
theorem valV_put (kvs : List (κ × V)) (k j : κ) (y : V) : valV (putK kvs k y) j = if j = k then some y else valV kvs j := by
  unfold putK
  by_cases a : (kvs.any fun kv => decide (kv.1 = k)) = true
  · rw [if_pos a, valV_map]
    rw [valV_any] at a
    by_cases e : j = k
    · obtain ⟨x, hx⟩ := Option.isSome_iff_exists.mp a
      rw [if_pos e, e, hx, Option.map_some, if_pos rfl]
    · rw [if_neg e]
      cases valV kvs j with
      | none => rfl
      | some x => rw [Option.map_some, if_neg e]
  · rw [if_neg a]
    refine valV_snoc k j y kvs ?_
    rw [valV_any] at a
    cases q : valV kvs k with
    | none => rfl
    | some x => rw [q] at a; exact (a rfl).elim
theorem length_putK (kvs : List (κ × V)) (k : κ) (v : V) : (putK kvs k v).length ≤ kvs.length + 1 := by
  unfold putK
  split
  · rw [List.length_map]; omega
  · rw [List.length_append, List.length_cons, List.length_nil]; omega
theorem RelO.isSome_eq {o : Option V} {u : Option Value} (r : RelO o u) : o.isSome = u.isSome := by
  cases o with
  | none => cases u with
    | none => rfl
    | some _ => exact (show False from r).elim
  | some _ => cases u with
    | none => exact (show False from r).elim
    | some _ => rfl
end
/-! ### a tracked dict, its keys (int, tuple of ints) -/
/-- the key at a -/
def KeyAt (H : Hp) (a : Addr) (k : NKey) : Prop := ∃ b, H a = some (.tup [.int k.1, .ref b]) ∧ H b = some (.tup (k.2.map V.int))
theorem KeyAt.same {H H' : Hp} {a : Addr} {k : NKey} (x : KeyAt H a k) (s : Same H H') : KeyAt H' a k := let ⟨b, h1, h2⟩ := x; ⟨b, s _ _ h1, s _ _ h2⟩
abbrev KT (H : Hp) : List (NKey × V) → List (NKey × Addr × Value) → Prop := Paired fun p q => p.1 = q.1 ∧ KeyAt H q.2.1 p.1 ∧ RelV p.2 q.2.2
theorem KT.val {H : Hp} {kvs : List (NKey × V)} {xs : List (NKey × Addr × Value)} (r : KT H kvs xs) (k : NKey) : RelO (valV kvs k) ((atKey xs k).map (·.2)) := by
  induction r with
  | nil => exact True.intro
  | @cons p q ps qs h t ih =>
    obtain ⟨h1, _, h2⟩ := h
    by_cases e : p.1 = k
    · have e' : q.1 = k := h1.symm.trans e
      have b : atKey (q :: qs) k = some q.2 := by simp [atKey, List.find?_cons, e']
      rw [valV_pos e, b]; exact h2
    · have e' : ¬ q.1 = k := fun z => e (h1.trans z)
      have b : atKey (q :: qs) k = atKey qs k := by simp [atKey, List.find?_cons, e']
      rw [valV_neg e, b]; exact ih
theorem KT.repl {H : Hp} {kvs : List (NKey × V)} {xs : List (NKey × Addr × Value)} (r : KT H kvs xs) (k : NKey) {y : V} {u : Value} (ry : RelV y u) : KT H (kvs.map fun kv => if kv.1 = k then (kv.1, y) else kv) (xs.map (putAt k u)) := by
  induction r with
  | nil => exact .nil
  | @cons p q ps qs h t ih =>
    rw [List.map_cons, List.map_cons]
    refine .cons ?_ ih
    obtain ⟨h1, h2, h3⟩ := h
    unfold putAt
    by_cases e : p.1 = k
    · rw [if_pos e, if_pos (h1.symm.trans e)]; exact ⟨h1, h2, ry⟩
    · rw [if_neg e, if_neg (fun z => e (h1.trans z))]; exact ⟨h1, h2, h3⟩
theorem KT.put {H : Hp} {kvs : List (NKey × V)} {xs : List (NKey × Addr × Value)} (r : KT H kvs xs) (k : NKey) {b : Addr} {y : V} {u : Value} (hb : KeyAt H b k) (ry : RelV y u) : KT H (putK kvs k y) (storedH xs k b u) := by
  have e : (kvs.any fun kv => decide (kv.1 = k)) = (atKey xs k).isSome := by
    rw [valV_any, (r.val k).isSome_eq, Option.isSome_map]
  unfold putK storedH
  rw [e]
  by_cases q : (atKey xs k).isSome = true
  · rw [if_pos q, if_pos q]; exact r.repl k ry
  · rw [if_neg q, if_neg q]; exact Paired.snoc r ⟨rfl, hb, ry⟩
section
variable {P : Program} {w : World} {H : Hp} {h : Heap} {a : Addr}
theorem ints_are : ∀ {ks : List Int} {us : List Value}, Vals (ks.map V.int) us → ItemsAre (intKind P w) ks us
  | [], _, r => by rw [List.map_nil] at r; cases r; exact .nil
  | k :: ks, _, r => by
    rw [List.map_cons] at r
    cases r with
    | cons h t =>
      obtain ⟨tk, rfl⟩ := (show ∃ t, _ = Value.int k t from h)
      exact .cons (by simp [intKind, Value.isInt]) (ints_are t)
theorem key_of {k : NKey} (ok : HOk P w H h) (e : KeyAt H a k) : (pairKind P w).is h k a := by
  obtain ⟨b, e1, e2⟩ := e
  obtain ⟨_, its, r, o, h1, h2, n, h3⟩ := (show ObjOk P w H h a (.tup [.int k.1, .ref b]) from ok a _ e1)
  obtain ⟨_, its', r', o', h1', h2', n', h3'⟩ := (show ObjOk P w H h b (.tup (k.2.map V.int)) from ok b _ e2)
  obtain ⟨u, u2, rfl, ⟨t, rfl⟩, rfl⟩ := vals2 r
  exact ⟨o, n, t, b, h1, h2, h3, o', _, n', h1', h2', h3', by simpa using ints_are r'⟩
theorem dt_of {kvs : List (NKey × V)} (ok : HOk P w H h) (e : H a = some (.dT kvs)) : kvs.length ≤ sizeLine ∧ (a == sysModules) = false ∧ ∃ xs, KT H kvs xs ∧ h.DictOfH (pairKind P w) a xs := by
  obtain ⟨z, y, xs, r, o, es, ep, h1, h2, h3, h4, h5⟩ := (show ObjOk P w H h a (.dT kvs) from ok a _ e)
  refine ⟨z, y, xs, r, o, es, ep, h1, h2, h3, h4, fun x hx => ?_, h5⟩
  have all : ∀ {l : List (NKey × V)} {m : List (NKey × Addr × Value)}, KT H l m → ∀ x ∈ m, (pairKind P w).is h x.1 x.2.1 := by
    intro l m q
    induction q with
    | nil => intro x hx; exact nomatch hx
    | @cons p q ps qs hq t ih =>
      intro x hx
      rcases List.mem_cons.mp hx with e | hx
      · subst e
        exact key_of ok (by rw [← hq.1]; exact hq.2.1)
      · exact ih x hx
  exact all r x hx
end
section
variable {X : Cx} {pins : List (Addr × Obj)} {σ : St} {H : Hp} {s : Shared} {a : Addr} {y v : V} {u r : Value} {k : NKey} {b : Addr} {kvs : List (NKey × V)} {A : Around} {E : Value → Shared → Prop}
theorem Inv.big (I : Inv X pins σ H s) : sysModules < s.heap.objs.size := by
  have h : mainGlobals < s.heap.objs.size := (I.mod.glob.keeps I.bk).lt
  exact Nat.lt_trans (by decide) h
theorem room1 (hu : A.units + 64 < cLine) : (pairKind X.prog X.w).room A.in1 := by
  show A.units + 1 + 8 < cLine; omega
theorem d_getItem {Q : Value → Shared → Prop} (hu : A.units + 64 < cLine) (I : Inv X pins σ H s) (e : H a = some (.dT kvs)) (eb : KeyAt H b k) (l : valV kvs k = some v) (h : ∀ w' s', Inv X pins σ H s' → RelV v w' → Q w' s') :
    wpAny (model X.prog X.w) A (getItem (.ref a) (.ref b)) Q E s := by
  obtain ⟨z, hd, xs, rel, dd⟩ := dt_of I.hok e
  obtain ⟨w', hw, rw'⟩ := RelO.some_of (v := v) (o := (atKey xs k).map (·.2)) (by rw [← l]; exact rel.val k)
  obtain ⟨p, hp, hp2⟩ := Option.map_eq_some_iff.mp hw
  refine wpAny_getItem_heap (room1 (X := X) hu) (key_of I.hok eb) dd hp ?_
  rw [hp2]
  exact h w' _ (I.tok _) rw'
theorem d_notIn {Q : Value → Shared → Prop} (hu : A.units + 64 < cLine) (I : Inv X pins σ H s) (e : H a = some (.dT kvs)) (eb : KeyAt H b k) (h : ∀ s', Inv X pins σ H s' → Q (.bool (!(valV kvs k).isSome)) s') :
    wpAny (model X.prog X.w) A (compareOp .NotIn (.ref b) (.ref a)) Q E s := by
  obtain ⟨z, hd, xs, rel, dd⟩ := dt_of I.hok e
  refine wpAny_notIn_heap (room1 (X := X) hu) (key_of I.hok eb) hd dd ?_
  have q := (rel.val k).isSome_eq
  rw [Option.isSome_map] at q
  rw [← q]
  exact h _ (I.tok _)
theorem d_setItem {Q : Unit → Shared → Prop} (hu : A.units + 64 < cLine) (I : Inv X pins σ H s) (e : H a = some (.dT kvs)) (eb : KeyAt H b k) (hl : kvs.length < sizeLine) (rv : RelV v r) (h : ∀ s', Inv X pins σ (upd H a (.dT (putK kvs k v))) s' → Q () s') :
    wpAny (model X.prog X.w) A (setItem (.ref a) (.ref b) r) Q E s := by
  obtain ⟨z, hd, xs, rel, dd⟩ := dt_of I.hok e
  have hz : xs.length ≤ sizeLine := by rw [← Paired.length rel]; exact z
  have hl' : (putK kvs k v).length ≤ sizeLine := by have := length_putK kvs k v; omega
  refine wpAny_setItem_heap (hsz := hz) (room1 (X := X) hu) (key_of I.hok eb) dd fun h' dd' hs => h _ ?_
  obtain ⟨q, es, ep, hq, h2, h3, h4, _, h5⟩ := dd'
  have nt : ∀ c ys, H c = some (.tup ys) → (upd H a (.dT (putK kvs k v))) c = some (.tup ys) := fun c ys ec => by rw [upd_ne (ne_of ec e (fun z => nomatch z))]; exact ec
  exact I.write (x := a) (e := a) (by rw [e]; exact True.intro) (.inl rfl) (fun b q hb z => (hs.2 b hb).trans z) ⟨q, hq⟩ ⟨hl', hd, _, Paired.mapP (rel.put k eb rv) fun p q z => ⟨z.1, let ⟨b, z1, z2⟩ := z.2.1; ⟨b, nt _ _ z1, nt _ _ z2⟩, z.2.2⟩, q, es, ep, hq, h2, h3, h4, h5⟩
end
def NoSl (i : Expr) : Prop := ∀ ov iv, subscripted i false ov iv = operate [ov, iv] (getItem ov iv)
theorem subD_of {prog : Program} {w : World} {A : Around} {E : Value → Shared → Prop} {s : Shared} {env : Env} {value slice : Expr} {pos : Pos} {T id : String} {Q : Value → Shared → Prop}
    (hl : typeLookup (.type T) "__getitem__" = pure (some (.builtin id))) (hs : NoSl slice)
    (h : wpAny (model prog w) A (eval value env) (fun o s₁ => wpAny (model prog w) A (eval slice env) (fun i s₂ => s₂.TypeIs o T ∧ wpAny (model prog w) A (getItem o i) Q E s₂) E s₁) E s) :
    wpAny (model prog w) A (eval (.Subscript value slice pos) env) Q E s := by
  refine Subscript_ (wpAny_mono h (fun o s₁ h₁ => wpAny_mono h₁ (fun i s₂ h₂ => ?_) fun _ _ x => x) fun _ _ x => x)
  obtain ⟨hT, h₂⟩ := h₂
  unfold subscriptTail
  refine wpAny_bind ?_
  rw [getitemInPython_of_ne hT.not_modules]
  refine wpAny_bind (wpAny_specialOf hT hl ?_)
  have fin : wpAny (model prog w) A (subscripted slice false o i) (fun r s₃ => wpAny (model prog w) A (letTemporaryGo value o r >>= fun _ => pure r) Q E s₃) E s₂ := by
    rw [hs o i]
    exact wpAny_operating (wpAny_mono h₂ (fun r s₃ h₃ => wpAny_bind (wpAny_letTemporaryGo (wpAny_pure h₃))) fun _ _ x => x)
  first
    | exact wpAny_pure (wpAny_bind fin)
    | exact wpAny_bind (wpAny_pure (wpAny_bind fin))
    | exact wpAny_bind fin
/-- d[y], y not in d, d[y] = v -/
def tDGet (td ty : TE) : TE := fun σ H Q => td σ H fun x H1 => ty σ H1 fun y H2 => ∃ a b kvs k v, x = .ref a ∧ y = .ref b ∧ H2 a = some (.dT kvs) ∧ KeyAt H2 b k ∧ valV kvs k = some v ∧ Q v H2
def rDNotIn : R2 := fun y x H Q => ∃ a b kvs k, x = .ref a ∧ y = .ref b ∧ H a = some (.dT kvs) ∧ KeyAt H b k ∧ Q (.bl (!(valV kvs k).isSome)) H
def sDPut (td ty tv : TE) : TS := fun D σ H => tv σ H fun v H1 => td σ H1 fun x H2 => ty σ H2 fun y H3 => ∃ a b kvs k, x = .ref a ∧ y = .ref b ∧ H3 a = some (.dT kvs) ∧ KeyAt H3 b k ∧ kvs.length < sizeLine ∧ D.nx σ (upd H3 a (.dT (putK kvs k v)))
section
variable {X : Cx} {o i e value : Expr} {pos pos' tpos : Pos} {td ty tv : TE}
theorem pe_dget (hu : X.A.units + 64 < cLine) (ho : PE X o td) (hi : PE X i ty) (hs : NoSl i) : PE X (.Subscript o i pos) (tDGet td ty) := by
  intro pins s σ H Q I h
  refine subD_of PySem.F.slot_dict_getitem.lookup hs (thn (ho pins s σ H _ I h) fun u s1 ⟨x, H1, I1, rx, q1⟩ => thn (hi pins s1 σ H1 _ I1 q1) fun iv s2 ⟨y, H2, I2, ry, a, b, kvs, k, v, ex, ey, g, kb, l, q2⟩ => ?_)
  subst ex ey
  obtain rfl : u = Value.ref a := rx
  obtain rfl : iv = Value.ref b := ry
  obtain ⟨_, _, xs, _, dd⟩ := dt_of I2.hok g
  exact ⟨dd.typeIs, d_getItem hu I2 g kb l fun w' s3 I3 rw' => ⟨v, H2, I3, rw', q2⟩⟩
theorem op_dnotin (hu : X.A.units + 64 < cLine) : OpR X (compareOp .NotIn) rDNotIn := by
  intro pins s σ H x y v u Q I rx ry h
  obtain ⟨a, b, kvs, k, rfl, rfl, g, kb, q⟩ := h
  cases rx
  cases ry
  exact d_notIn hu I g kb fun s3 I3 => ⟨.bl _, H, I3, rfl, q⟩
theorem ps_dput (hu : X.A.units + 64 < cLine) (ho : PE X o td) (hi : PE X i ty) (hv : PE X value tv) (hs : swapsWith value (some (.Subscript o i pos')) pos.line X.env = pure false := by rfl) :
    PS X (.Assign [.Subscript o i pos'] value pos) (sDPut td ty tv) := by
  intro pins s σ H D I h
  refine wpAny_Assign_Subscript (thn (hv pins s σ H _ I h) fun r s1 ⟨v, H1, I1, rv, q1⟩ => thn (ho pins s1 σ H1 _ I1 q1) fun u s2 ⟨x, H2, I2, rx, q2⟩ => thn (hi pins s2 σ H2 _ I2 q2) fun iv s3 ⟨y, H3, I3, ry, a, b, kvs, k, ex, ey, g, kb, hl, q3⟩ => ?_) hs
  subst ex ey
  obtain rfl : u = Value.ref a := rx
  obtain rfl : iv = Value.ref b := ry
  exact d_setItem hu I3 g kb hl rv fun s4 I4 => ⟨σ, _, I4, q3⟩
/-- {} -/
def tDNew : TE := fun _ H Q => ∀ p, H p = none → Q (.ref p) (upd H p (.dT []))
theorem pe_dnew : PE X (.Dict [] [] pos) tDNew := fun pins s σ H Q I h =>
  wpAny_Dict_empty ⟨.ref s.heap.objs.size, _, I.laid (a := s.heap.objs.size) (o := .dT []) (t' := s.toks) (fun _ _ q => Heap.get?_push_of_some _ q) (Nat.le_refl _)
    ⟨Nat.zero_le _, beq_eq_false_iff_ne.mpr (Ne.symm (Nat.ne_of_lt I.big)), [], .nil, _, #[], 0, Heap.get?_push_size _ rfl, ⟨rfl, rfl, rfl⟩, rfl, rfl, List.nodup_nil⟩, rfl, h _ (I.hok.fresh (Nat.le_refl _))⟩
end
end L2

set_option Elab.async false
set_option linter.all false
set_option maxRecDepth 100000
set_option maxHeartbeats 4000000
namespace L2
open PySem PySem.Spec PyProof.Rows
/-! ### sorted of ints -/
theorem call_sortedI {X : Cx} {K : PySem.W.Frag} (hK : X.K = K) : CallR X (.builtin "sorted") (fun xs H Q => ∃ (p : Addr) (ns : List Int), xs = [.ref p] ∧ SqL K H p (ns.map V.int) ∧ ns.length < 64 ∧ ∀ (l : Addr) (ms : List Int), H l = none → ms.Perm ns → ms.Pairwise (· ≤ ·) → Q (.ref l) (upd H l (.lst (ms.map V.int)))) := by
  subst hK
  intro pins s σ H xs us Q I r h
  obtain ⟨p, ns, rfl, hs, h64, q⟩ := h
  obtain ⟨u, rfl, rx⟩ := vals1 r
  cases rx
  obtain ⟨its, ri, pl, hz⟩ := I.list hs
  have hl := ri.length
  rw [List.length_map] at hl
  refine PyProof.Rows.sorted_ints pl.isList (intsAre_of ri) (by omega) fun out ms a1 a2 a3 => ?_
  obtain ⟨e, he⟩ := PyProof.Rows.sortedAll_at s.heap its out
  have hml : ms.length = ns.length := a2.length_eq
  have hn : H (s.heap.objs.size + 1) = none := I.hok.fresh (Nat.le_succ _)
  refine ⟨.ref (s.heap.objs.size + 1), upd H (s.heap.objs.size + 1) (.lst (ms.map V.int)), I.laid (t' := s.toks) (fun b o z => PyProof.Rows.sortedAll_old z) (Nat.le_succ _) ⟨by rw [List.length_map, hml]; exact Nat.le_of_lt (small1000 (by omega)), out.toList, e, vals_ints a1, by simpa using he⟩, rfl, q _ ms hn a2 a3⟩
/-! ### least and greatest -/
def mnI : List Int → Int
  | [] => 0
  | [x] => x
  | x :: y :: r => if x ≤ mnI (y :: r) then x else mnI (y :: r)
def mxI : List Int → Int
  | [] => 0
  | [x] => x
  | x :: y :: r => if mxI (y :: r) ≤ x then x else mxI (y :: r)
theorem mnI_ok : ∀ {ns : List Int}, ns ≠ [] → mnI ns ∈ ns ∧ ∀ a ∈ ns, mnI ns ≤ a
  | [], h => absurd rfl h
  | [x], _ => ⟨List.mem_singleton.mpr rfl, fun a ha => by rw [List.mem_singleton.mp ha]; exact Int.le_refl _⟩
  | x :: y :: r, _ => by
    obtain ⟨h1, h2⟩ := mnI_ok (ns := y :: r) (by simp)
    show (if x ≤ mnI (y :: r) then x else mnI (y :: r)) ∈ _ ∧ ∀ a ∈ _, (if x ≤ mnI (y :: r) then x else mnI (y :: r)) ≤ a
    split
    · rename_i h
      refine ⟨List.mem_cons_self, fun a ha => ?_⟩
      rcases List.mem_cons.mp ha with rfl | ha
      · exact Int.le_refl _
      · exact Int.le_trans h (h2 a ha)
    · rename_i h
      refine ⟨List.mem_cons_of_mem _ h1, fun a ha => ?_⟩
      rcases List.mem_cons.mp ha with rfl | ha
      · omega
      · exact h2 a ha
theorem mxI_ok : ∀ {ns : List Int}, ns ≠ [] → mxI ns ∈ ns ∧ ∀ a ∈ ns, a ≤ mxI ns
  | [], h => absurd rfl h
  | [x], _ => ⟨List.mem_singleton.mpr rfl, fun a ha => by rw [List.mem_singleton.mp ha]; exact Int.le_refl _⟩
  | x :: y :: r, _ => by
    obtain ⟨h1, h2⟩ := mxI_ok (ns := y :: r) (by simp)
    show (if mxI (y :: r) ≤ x then x else mxI (y :: r)) ∈ _ ∧ ∀ a ∈ _, a ≤ (if mxI (y :: r) ≤ x then x else mxI (y :: r))
    split
    · rename_i h
      refine ⟨List.mem_cons_self, fun a ha => ?_⟩
      rcases List.mem_cons.mp ha with rfl | ha
      · exact Int.le_refl _
      · exact Int.le_trans (h2 a ha) h
    · rename_i h
      refine ⟨List.mem_cons_of_mem _ h1, fun a ha => ?_⟩
      rcases List.mem_cons.mp ha with rfl | ha
      · omega
      · exact h2 a ha
section
variable {K : PySem.W.Frag} {ρ : Rho} {ta : TE} {ns : List Int}
theorem y_min (h : Y K ρ ta (dI ns)) (hn : ns ≠ []) : Y K ρ (tCB (fun xs H Q => ∃ (p : Addr) (ns : List Int), xs = [.ref p] ∧ SqL K H p (ns.map V.int) ∧ 0 < ns.length ∧ ∀ m, m ∈ ns → (∀ a ∈ ns, m ≤ a) → Q (.int m) H) (tCons ta tNil)) (.int (mnI ns)) := y_cb (ya_cons h ya_nil) fun vs H Q dv q => by
  obtain ⟨v, rfl, hv⟩ := dat1 dv
  obtain ⟨p, rfl, hs⟩ := datI hv
  obtain ⟨h1, h2⟩ := mnI_ok hn
  refine ⟨p, ns, rfl, hs, List.length_pos_iff.mpr hn, fun m m1 m2 => ?_⟩
  have e : m = mnI ns := Int.le_antisymm (m2 _ h1) (h2 _ m1)
  rw [e]
  exact q _ H (Same.refl H) (.int _)
theorem y_max (h : Y K ρ ta (dI ns)) (hn : ns ≠ []) : Y K ρ (tCB (fun xs H Q => ∃ (p : Addr) (ns : List Int), xs = [.ref p] ∧ SqL K H p (ns.map V.int) ∧ 0 < ns.length ∧ ∀ m, m ∈ ns → (∀ a ∈ ns, a ≤ m) → Q (.int m) H) (tCons ta tNil)) (.int (mxI ns)) := y_cb (ya_cons h ya_nil) fun vs H Q dv q => by
  obtain ⟨v, rfl, hv⟩ := dat1 dv
  obtain ⟨p, rfl, hs⟩ := datI hv
  obtain ⟨h1, h2⟩ := mxI_ok hn
  refine ⟨p, ns, rfl, hs, List.length_pos_iff.mpr hn, fun m m1 m2 => ?_⟩
  have e : m = mxI ns := Int.le_antisymm (h2 _ m1) (m2 _ h1)
  rw [e]
  exact q _ H (Same.refl H) (.int _)
end
/-! ### all but one address stays -/
def SameX (x : Addr) (H H' : Hp) : Prop := ∀ b o, b ≠ x → H b = some o → H' b = some o
theorem SameX.refl (x : Addr) (H : Hp) : SameX x H H := fun _ _ _ h => h
theorem SameX.trans {x : Addr} {H H1 H2 : Hp} (a : SameX x H H1) (b : SameX x H1 H2) : SameX x H H2 := fun c o n h => b c o n (a c o n h)
theorem Same.x {x : Addr} {H H' : Hp} (s : Same H H') : SameX x H H' := fun b o _ h => s b o h
theorem sameX_upd {x : Addr} {H : Hp} {o : HO} : SameX x H (upd H x o) := fun b u n h => by rw [upd_ne n]; exact h
section
variable {K : PySem.W.Frag} {H H' : Hp} {x : Addr} {kvs : List (NKey × V)}
theorem SameX.seq (s : SameX x H H') (hx : H x = some (.dT kvs)) {a : Addr} {xs : List V} (h : SqL K H a xs) : SqL K H' a xs := by
  rcases h with (h | ⟨o, h⟩) | h
  · exact .inl (.inl (s _ _ (fun z => by rw [z, hx] at h; cases h) h))
  · exact .inl (.inr ⟨o, s _ _ (fun z => by rw [z, hx] at h; cases h) h⟩)
  · exact .inr h
theorem SameX.seqT (s : SameX x H H') (hx : H x = some (.dT kvs)) {a : Addr} {xs : List V} (h : SqT K H a xs) : SqT K H' a xs := by
  rcases h with (h | ⟨o, h⟩) | h
  · exact .inl (.inl (s _ _ (fun z => by rw [z, hx] at h; cases h) h))
  · exact .inl (.inr ⟨o, s _ _ (fun z => by rw [z, hx] at h; cases h) h⟩)
  · exact .inr h
mutual
theorem DatV.sameX (s : SameX x H H') (hx : H x = some (.dT kvs)) : ∀ {v : V} {d : PyData}, DatV K H v d → DatV K H' v d
  | _, _, .non => .non
  | _, _, .bl b => .bl b
  | _, _, .int i => .int i
  | _, _, .str y => .str y
  | _, _, .lst hs ha => .lst (s.seq hx hs) (DatAll.sameX s hx ha)
  | _, _, .tup hs ha => .tup (s.seqT hx hs) (DatAll.sameX s hx ha)
theorem DatAll.sameX (s : SameX x H H') (hx : H x = some (.dT kvs)) : ∀ {vs : List V} {ds : List PyData}, DatAll K H vs ds → DatAll K H' vs ds
  | _, _, .nil => .nil
  | _, _, .cons h t => .cons (DatV.sameX s hx h) (DatAll.sameX s hx t)
end
theorem EnvD.sameX {σ : St} {ρ : Rho} (e : EnvD K H σ ρ) (s : SameX x H H') (hx : H x = some (.dT kvs)) : EnvD K H' σ ρ := ⟨e.len, fun i d h => by obtain ⟨v, h1, h2⟩ := e.at_ i d h; exact ⟨v, h1, DatV.sameX s hx h2⟩⟩
end
theorem call_tuple_of' {X : Cx} {K : PySem.W.Frag} (h : X.K = K) : CallR X (.type "tuple") (fun xs H Q => ∃ p ys, xs = [.ref p] ∧ ((SqL K H p ys ∧ ∀ l, H l = none → Q (.ref l) (upd H l (.tup ys))) ∨ (SqT K H p ys ∧ Q (.ref p) H))) := by subst h; exact call_tuple_of
section
variable {K : PySem.W.Frag} {H : Hp} {σ : St} {ρ : Rho} {ta : TE} {tr t : TA} {d : PyData} {Q : List V → Hp → Prop} {Qv : VK} {sp : Sp} {dvs : List V} {E : XK} {r : List V → Hp → VK → Prop}
theorem goCons (h : Y K ρ ta d) (ev : EnvD K H σ ρ) (q : ∀ v H', Same H H' → DatV K H' v d → tr σ H' (fun xs H2 => Q (v :: xs) H2)) : tCons ta tr σ H Q := h σ H _ ev q
theorem goVar {n : Nat} {v : V} (h : σ[n]? = some (some v)) (q : tr σ H (fun xs H2 => Q (v :: xs) H2)) : tCons (tVar n) tr σ H Q := ⟨v, h, q⟩
theorem goNil (q : Q [] H) : tNil σ H Q := q
theorem goCall (h : t σ H fun vs H1 => sp (vs ++ dvs) H1 Qv E) : tCall sp dvs E t σ H Qv := h
end
theorem SameX.fresh {x : Addr} {H H' : Hp} {o : HO} (s : SameX x (upd H x o) H') (h : H x = none) : Same H H' := fun b u q => s b u (ne_of_none q h) (by rw [upd_ne (ne_of_none q h)]; exact q)
/-- a for over a list that an expression tells, by what holds between two turns -/
theorem goForL {K : PySem.W.Frag} {H : Hp} {σ : St} {ρ : Rho} {te : TE} {ds : List PyData} {g : TG} {tb u : TS} {D : Ends} (h : Y K ρ te (.list ds)) (ev : EnvD K H σ ρ)
    (q : ∀ a xs H', Same H H' → SqL K H' a xs → DatAll K H' xs ds → ∃ Pv : Nat → St → Hp → Prop, Pv 0 σ H' ∧ (∀ i σ H, i ≤ xs.length → Pv i σ H → SqL K H a xs) ∧
      (∀ i x σ H, xs[i]? = some x → Pv i σ H → g x σ H fun σ2 H2 => tb { D with nx := Pv (i + 1), ct := Pv (i + 1), bk := u D } σ2 H2) ∧ ∀ σ H, Pv xs.length σ H → u D σ H) :
    tSeq (tFor (iList K te) g tb) u D σ H := h σ H _ ev fun v H1 s1 dv => by
  obtain ⟨p, xs, rfl, hs, da⟩ := datL dv
  obtain ⟨Pv, h0, hl, hstep, hd⟩ := q p xs H1 s1 hs da
  exact ⟨p, rfl, ⟨xs, hs⟩, for_list (D := { D with nx := u D }) (xs := xs) Pv h0 hl hstep hd⟩
section
variable {K : PySem.W.Frag} {H : Hp} {σ : St} {ρ : Rho} {te : TE} {d : PyData} {ds : List PyData} {D : Ends} {t : TA} {tb u : TS} {n : Nat}
theorem goAsgN (h : YN K ρ te ds) (ev : EnvD K H σ ρ) (q : ∀ p vs H', Same H H' → H' p = none → DatAll K H' vs ds → D.nx (σ.set n (some (.ref p))) (upd H' p (.lst vs))) : tAsg te (gName n) D σ H := h σ H _ ev q
theorem goConsN {tr : TA} {Q : List V → Hp → Prop} (h : YN K ρ te ds) (ev : EnvD K H σ ρ) (q : ∀ p vs H', Same H H' → H' p = none → DatAll K H' vs ds → tr σ (upd H' p (.lst vs)) (fun xs H2 => Q (.ref p :: xs) H2)) : tCons te tr σ H Q := h σ H _ ev q
theorem goRetTup (h : t σ H fun xs H1 => xs.length ≤ sizeLine ∧ ∀ p, H1 p = none → D.rt (.ref p) (upd H1 p (.tup xs))) : tRet (tTup t) D σ H := h
/-- a for over range(n) -/
theorem goForR {g : TG} {m : Int} (h : YA K ρ t [.int m]) (hm : 0 ≤ m) (hm2 : m < 1000000) (ev : EnvD K H σ ρ)
    (q : ∀ H', Same H H' → ∃ Pv : Nat → St → Hp → Prop, Pv 0 σ H' ∧ (∀ (i : Nat) σ H, (i : Int) < m → Pv i σ H → g (.int i) σ H fun σ2 H2 => tb { D with nx := Pv (i + 1), ct := Pv (i + 1), bk := u D } σ2 H2) ∧ ∀ σ H, Pv m.toNat σ H → u D σ H) :
    tSeq (tFor (iRng1 t) g tb) u D σ H := h σ H _ ev fun vs H1 s1 dv => by
  obtain ⟨v, rfl, hv⟩ := dat1 dv
  obtain ⟨Pv, h0, hstep, hd⟩ := q H1 s1
  refine ⟨m, by rw [datInt hv], by omega, by omega, for_range (D := { D with nx := u D }) (lo := 0) (n := m.toNat) Pv h0 (fun i σ' H' hi p => ?_) hd⟩
  rw [Int.zero_add]
  exact hstep i σ' H' (by omega) p
/-- xs[i] = e -/
theorem goSetItem {a b : Nat} {p : Addr} {k : Int} (h : Y K ρ te d) (ev : EnvD K H σ ρ) (ha : σ[a]? = some (some (.ref p))) (hb : σ[b]? = some (some (.int k)))
    (q : ∀ v H', Same H H' → DatV K H' v d → ∃ xs j, H' p = some (.lst xs) ∧ ixN xs.length k = some j ∧ D.nx σ (upd H' p (.lst (xs.set j v)))) : tAsg te (gSub (tVar a) (tVar b) rSetL) D σ H := h σ H _ ev fun v H' s dv => by
  obtain ⟨xs, j, h1, h2, h3⟩ := q v H' s dv
  exact ⟨_, ha, _, hb, p, xs, k, j, rfl, rfl, h1, h2, h3⟩
theorem goSeq {t : TS} (h : t { D with nx := u D } σ H) : tSeq t u D σ H := h
end
theorem ixN_of {n : Nat} {k : Int} (h0 : 0 ≤ k) (h1 : k < n) : ixN n k = some k.toNat := by
  unfold ixN; rw [if_pos h0, if_pos h1]
/-! ### xs[::-1] -/
def tRev (K : PySem.W.Frag) (te : TE) (ts : TO) : TE := fun σ H Q => te σ H fun x H1 => ts σ H1 fun o H2 => ∃ a xs, x = .ref a ∧ o = some (-1) ∧ SqL K H2 a xs ∧ ∀ p, H2 p = none → Q (.ref p) (upd H2 p (.lst xs.reverse))
/-- a turn of a comprehension without a test -/
theorem goElt {te : TE} {σ : St} {H : Hp} {x : V} {N : VK} {M : Hp → Prop} (h : te (σ.set 0 (some x)) H N) : gName 0 x σ H fun σ2 H2 => tYes σ2 H2 fun b H3 => if b = true then te σ2 H3 N else M H3 := by
  show if true = true then te (σ.set 0 (some x)) H N else M H
  exact iteT h
/-- a promise that nobody asks for -/
theorem FnOk.never {P : Program} {w : World} {K : PySem.W.Frag} {mg : Str → Option Value} {base : Heap} {CX : CXT} {k : Nat} {f : Addr} {fd : FuncData} {ps : List Str} {sp : Sp} (h : ∀ vs H Q E, sp vs H Q E → False) : FnOk P w K mg base CX k f fd ps sp :=
  ⟨fun vs H Q E z => (h _ _ _ _ z).elim, fun _ _ _ _ _ _ _ _ _ _ _ _ _ z => (h _ _ _ _ z).elim⟩
end L2

set_option Elab.async false
set_option linter.all false
set_option maxRecDepth 100000
set_option maxHeartbeats 4000000
namespace PySem.SeqAt
open AutoSeq1 (wpAny_loadPart')
open MeetsSeq MeetsSeq2 MeetsSeq3
/-! ### list < list -/
def RcLtAt (A : Around) (s : Shared) (y x : Value) (b : Bool) : Prop :=
  ∀ (prog : Program) (w : World) (E : Value → Shared → Prop) (Q : Value → Shared → Prop), Q (.bool b) s → wpAny (model prog w) A (richCompare .Lt y x) Q E s
def lexR (e f : Nat → Bool) (m n : Nat) : Nat → Nat → Bool
  | 0, _ => decide (m < n)
  | k + 1, i => if e i = true then lexR e f m n k (i + 1) else f i
/-- two lists as they stand on a heap -/
structure TwoL (h : Heap) (l b : Addr) (xs ys : Array Value) : Prop where
  one : ∃ d n sl, h.get? l = some { cls := .type "list", dict := d, data := .seq xs n, slots := sl }
  two : ∃ d n sl, h.get? b = some { cls := .type "list", dict := d, data := .seq ys n, slots := sl }
/-- what is known of their items, pair by pair -/
structure Pairwise2 (A : Around) (s : Shared) (xs ys : Array Value) (e f : Nat → Bool) : Prop where
  eq : ∀ j (p : j < xs.size) (q : j < ys.size), EqAt A.in1 s xs[j] ys[j] (e j)
  lt : ∀ j (p : j < xs.size) (q : j < ys.size), e j = false → RcLtAt A.in1 s xs[j] ys[j] (f j)
section
variable {P : Program} {W : World} {A : Around} {s : Shared} {l b : Addr} {xs ys : Array Value} {e f : Nat → Bool} {Z : Result → Shared → Prop}
/-- from the place i on -/
theorem lt_from (t : TwoL s.heap l b xs ys) (k : Pairwise2 A s xs ys e f) : ∀ (left i : Nat), min xs.size ys.size - i = left → Z (.ok (.ret (.bool (lexR e f xs.size ys.size left i)))) s → codeAny (model P W) A (.builtin "list.__eq__.loop" ⟨[.ref l, .ref b, rawInt i, rawInt 0], []⟩) Z s := by
  obtain ⟨⟨d1, n1, sl1, one⟩, d2, n2, sl2, two⟩ := t
  intro left
  induction left with
  | zero =>
    intro i gone z
    apply codeAny_builtin entry_eq_loop
    rw [Around.under_plainId plain_eq_loop _]
    cases s
    wp_walk using wpAny_loadPart' one, wpAny_loadPart' two
    cases inX : xs[((i : Nat) : Int).toNat]? with
    | none => wp_walk using wpAny_loadPart' one, wpAny_loadPart' two; exact z
    | some u =>
      have inY : ys[((i : Nat) : Int).toNat]? = none := by
        have := (Array.getElem?_eq_some_iff.mp inX).1
        refine Array.getElem?_eq_none_iff.mpr ?_
        omega
      rw [inY]
      wp_walk using wpAny_loadPart' one, wpAny_loadPart' two
      exact z
  | succ left more =>
    intro i some_ z
    have inX : i < xs.size := by omega
    have inY : i < ys.size := by omega
    have readX : xs[((i : Nat) : Int).toNat]? = some xs[i] := by rw [Int.toNat_natCast]; exact Array.getElem?_eq_getElem inX
    have readY : ys[((i : Nat) : Int).toNat]? = some ys[i] := by rw [Int.toNat_natCast]; exact Array.getElem?_eq_getElem inY
    apply codeAny_builtin entry_eq_loop
    rw [Around.under_plainId plain_eq_loop _]
    rw [lexR] at z
    have sure := k.eq i inX inY
    have then_ := k.lt i inX inY
    have cont := more (i + 1) (by omega)
    cases s
    wp_walk using wpAny_loadPart' one, wpAny_loadPart' two
    rw [readX, readY]
    apply wpAny_bind
    apply sure
    match alike : e i with
    | true =>
      rw [if_pos alike] at z
      wp_walk
      exact ⟨plainId_quiet plain_eq_loop _, by simpa using cont z⟩
    | false =>
      rw [if_neg (by rw [alike]; exact Bool.false_ne_true)] at z
      wp_walk using wpAny_loadPart' one, wpAny_loadPart' two
      rw [readX, readY]
      apply wpAny_bind
      apply then_ alike
      wp_walk
      exact z
/-- one list < another -/
theorem lt_lists (t : TwoL s.heap l b xs ys) (k : Pairwise2 A s xs ys e f) (z : Z (.ok (.ret (.bool (lexR e f xs.size ys.size (min xs.size ys.size) 0)))) s) :
    wpAny (model P W) A.in1 (Builtin.«list.__lt__» ⟨[.ref l, .ref b], []⟩) (fun x u => match x with | .done y => Z (.ok y) u | .again y => y.quiet = true ∧ codeAny (model P W) A y Z u) (fun x u => Z (.error x) u) s := by
  have loop := lt_from (P := P) (W := W) t k _ 0 rfl z
  obtain ⟨⟨d1, n1, sl1, one⟩, d2, n2, sl2, two⟩ := t
  have both := AutoSeq1.sub_list_list
  cases s
  wp_walk using wpAny_loadPart' one, wpAny_loadPart' two
  exact ⟨plainId_quiet plain_eq_loop _, loop⟩
end
section
variable {A : Around} {s : Shared} {l b : Addr} {xs ys : Array Value} {e f : Nat → Bool}
theorem RcLtAt.lists (hl : s.heap.IsList l xs) (hb : s.heap.IsList b ys) (hu : A.units < cLine) (eq : ∀ j (p : j < xs.size) (q : j < ys.size), EqAt A.in1 s xs[j] ys[j] (e j)) (lt : ∀ j (p : j < xs.size) (q : j < ys.size), e j = false → RcLtAt A.in1 s xs[j] ys[j] (f j)) :
    RcLtAt A s (.ref l) (.ref b) (lexR e f xs.size ys.size (min xs.size ys.size) 0) := by
  intro P W E Q q
  have two : TwoL s.heap l b xs ys := by
    obtain ⟨⟨_, d1, _, sl1⟩, at1, c1, n1, e1⟩ := hl
    obtain ⟨⟨_, d2, _, sl2⟩, at2, c2, n2, e2⟩ := hb
    cases c1; cases e1; cases c2; cases e2
    exact ⟨⟨d1, n1, sl1, at1⟩, d2, n2, sl2, at2⟩
  have asks : Meets (Builtin.«list.__lt__» ⟨[.ref l, .ref b], []⟩) (fun B Z u => TwoL u.heap l b xs ys ∧ Pairwise2 B u xs ys e f ∧ Z (.ok (.ret (.bool (lexR e f xs.size ys.size (min xs.size ys.size) 0)))) u) := fun _ _ _ _ _ ⟨t, k, z⟩ => lt_lists t k z
  exact richCompare_meets_room (op := .Lt) hl.typeIs hb.typeIs F.slot_list_lt F.entry_list_lt (F.args_list_lt_2 _ _) asks ⟨two, ⟨eq, lt⟩, (fun z => by cases z), q⟩ hu
end
theorem lexR_iff {α : Type} [LT α] (irr : ∀ a : α, ¬ a < a) {e f : Nat → Bool} {xs ys : List α} (he : ∀ j x y, xs[j]? = some x → ys[j]? = some y → (e j = true ↔ x = y)) (hf : ∀ j x y, xs[j]? = some x → ys[j]? = some y → (f j = true ↔ x < y)) :
    ∀ (k i : Nat), min xs.length ys.length - i = k → i ≤ xs.length → i ≤ ys.length → (lexR e f xs.length ys.length k i = true ↔ xs.drop i < ys.drop i)
  | 0, i, hk, h1, h2 => by
    show decide (xs.length < ys.length) = true ↔ _
    rw [decide_eq_true_iff]
    by_cases hx : i = xs.length
    · rw [hx, List.drop_length]
      by_cases hy : xs.length < ys.length
      · rw [List.drop_eq_getElem_cons hy]
        exact ⟨fun _ => List.nil_lt_cons _ _, fun _ => hy⟩
      · have : ys.drop xs.length = [] := by simp; omega
        rw [this]
        exact ⟨fun h => absurd h hy, fun h => absurd h (List.not_lt_nil _)⟩
    · have hy : i = ys.length := by omega
      rw [hy, List.drop_length]
      exact ⟨fun h => by omega, fun h => absurd h (List.not_lt_nil _)⟩
  | k + 1, i, hk, h1, h2 => by
    have hx : i < xs.length := by omega
    have hy : i < ys.length := by omega
    have e1 := List.getElem?_eq_getElem hx
    have e2 := List.getElem?_eq_getElem hy
    simp only [lexR]
    rw [List.drop_eq_getElem_cons hx, List.drop_eq_getElem_cons hy, List.cons_lt_cons_iff]
    by_cases hb : e i = true
    · rw [if_pos hb, lexR_iff irr he hf k (i + 1) (by omega) hx hy]
      have q := (he i _ _ e1 e2).mp hb
      exact ⟨fun h => .inr ⟨q, h⟩, fun h => h.elim (fun h => absurd h (by rw [q]; exact irr _)) fun h => h.2⟩
    · rw [if_neg hb, hf i _ _ e1 e2]
      exact ⟨.inl, fun h => h.elim id fun h => absurd ((he i _ _ e1 e2).mpr h.1) hb⟩
end PySem.SeqAt
namespace L2
open PySem PySem.Spec PyProof.Rows
section
variable {s : Shared} {A : Around}
theorem val_int {ns : List Int} {us : List Value} {j : Nat} {u : Value} (r : Vals (ns.map V.int) us) (h : us[j]? = some u) : ∃ a t, ns[j]? = some a ∧ u = .int a t := by
  have hj : j < ns.length := by have := r.length; rw [List.length_map] at this; have := (List.getElem?_eq_some_iff.mp h).1; omega
  obtain ⟨u', hu, rr⟩ := r.get (i := j) (x := .int ns[j]) (by rw [List.getElem?_map, List.getElem?_eq_getElem hj]; rfl)
  rw [h] at hu
  cases hu
  obtain ⟨t, e⟩ := rr
  exact ⟨_, t, List.getElem?_eq_getElem hj, e⟩
theorem rcLt_ints {l b : Addr} {us ws : List Value} {ns ms : List Int} (hl : s.heap.IsList l us.toArray) (hb : s.heap.IsList b ws.toArray) (r1 : Vals (ns.map V.int) us) (r2 : Vals (ms.map V.int) ws) (hu : A.units < cLine) : SeqAt.RcLtAt A s (.ref l) (.ref b) (decide (ns < ms)) := by
  have l1 := r1.length
  have l2 := r2.length
  rw [List.length_map] at l1 l2
  have key := SeqAt.RcLtAt.lists (e := fun j => decide (ns[j]? = ms[j]?)) (f := fun j => decide (ns.getD j 0 < ms.getD j 0)) hl hb hu (fun j h1 h2 => by
    obtain ⟨a, t, ea, e1⟩ := val_int r1 (j := j) (u := us.toArray[j]) (by simp)
    obtain ⟨c, v, ec, e2⟩ := val_int r2 (j := j) (u := ws.toArray[j]) (by simp)
    rw [e1, e2]
    have := SeqAt.EqAt.int_int (A := A.in1) (s := s) a t c v
    rwa [show (a == c) = decide (ns[j]? = ms[j]?) by rw [ea, ec]; by_cases h : a = c <;> simp [h]] at this) (fun j h1 h2 _ => by
    obtain ⟨a, t, ea, e1⟩ := val_int r1 (j := j) (u := us.toArray[j]) (by simp)
    obtain ⟨c, v, ec, e2⟩ := val_int r2 (j := j) (u := ws.toArray[j]) (by simp)
    rw [e1, e2]
    intro prog w E Q q
    refine lt_int ?_
    rw [List.getD_eq_getElem?_getD, List.getD_eq_getElem?_getD, ea, ec] at q
    exact q)
  simp only [List.size_toArray] at key
  rw [← l1, ← l2] at key
  rwa [show SeqAt.lexR (fun j => decide (ns[j]? = ms[j]?)) (fun j => decide (ns.getD j 0 < ms.getD j 0)) ns.length ms.length (min ns.length ms.length) 0 = decide (ns < ms) from ?_] at key
  rw [Bool.eq_iff_iff, decide_eq_true_iff]
  exact SeqAt.lexR_iff (xs := ns) (ys := ms) (fun a => Int.lt_irrefl a) (fun j x y hx hy => by rw [hx, hy]; simp) (fun j x y hx hy => by rw [List.getD_eq_getElem?_getD, List.getD_eq_getElem?_getD, hx, hy]; simp) _ 0 rfl (Nat.zero_le _) (Nat.zero_le _)
end
section
variable {X : Cx} {K : PySem.W.Frag}
def rLtI (K : PySem.W.Frag) : R2 := fun x y H Q => ∃ ns ms : List Int, DatV K H x (dI ns) ∧ DatV K H y (dI ms) ∧ Q (.bl (decide (ns < ms))) H
theorem op_ltI (hK : X.K = K) (hu : X.A.units + 64 < cLine) : OpR X (compareOp .Lt) (rLtI K) := by
  subst hK
  intro pins s σ H x y v u Q I rx ry h
  obtain ⟨ns, ms, hx, hy, q⟩ := h
  obtain ⟨a, rfl, ha⟩ := datI hx
  obtain ⟨b, rfl, hb⟩ := datI hy
  cases rx
  cases ry
  obtain ⟨us, r1, p1, _⟩ := I.list ha
  obtain ⟨ws, r2, p2, _⟩ := I.list hb
  exact rcLt_ints p1.isList p2.isList r1 r2 (by omega) _ _ _ _ ⟨.bl (decide (ns < ms)), H, I, rfl, q⟩
def rLtII (K : PySem.W.Frag) : R2 := fun x y H Q => ∃ ns ms : List (List Int), DatV K H x (dII ns) ∧ DatV K H y (dII ms) ∧ Q (.bl (decide (ns < ms))) H
theorem y_ltI {ρ : Rho} {ta tb : TE} {a b : List Int} (ha : Y K ρ ta (dI a)) (hb : Y K ρ tb (dI b)) : Y K ρ (tOp (rLtI K) ta tb) (.bool (decide (a < b))) := fun σ H Q ev q => ha σ H _ ev fun v H1 s1 dv => hb σ H1 _ (ev.same s1) fun u H2 s2 du => ⟨a, b, dv.same s2, du, q _ _ (s1.trans s2) (.bl _)⟩
end
end L2

set_option Elab.async false
set_option linter.all false
set_option maxRecDepth 100000
set_option maxHeartbeats 4000000
namespace L2
open PySem PySem.Spec PyProof.Rows
/-- a list with its places -/
def Ite (K : PySem.W.Frag) (a : Addr) : It :=
  ⟨fun i H => ∃ xs x, SqL K H a xs ∧ xs[i]? = some x,
   fun i H v H' => ∃ p x, v = .ref p ∧ H p = none ∧ H' = upd H p (.tup [.int i, x]) ∧ ∀ xs, SqL K H a xs → xs[i]? = some x,
   fun i H => ∃ xs, SqL K H a xs ∧ xs[i]? = none⟩
theorem turn_enum {P : Program} {w : World} {K : PySem.W.Frag} {cm kn : Bool} {elts : List Expr} {x1} {tpos : Pos} (hcm : cm = true) (a e it : Addr) (hne : e ≠ it) :
    Turn P w K cm kn (.Tuple elts x1 tpos) (Ite K a) [e, it] e (fun i h => (∃ old, IsEnum h e it (i : Nat) old) ∧ h.IsListIter it a i) where
  mem := by simp
  obj := fun i h st c hc => by
    obtain ⟨⟨old, h1⟩, ⟨o4, h4, _, d4⟩⟩ := st
    simp only [List.mem_cons, List.not_mem_nil, or_false] at hc
    rcases hc with rfl | rfl
    · exact ⟨_, h1, fun v q => by cases (show Data.fields _ = Data.cell v from q)⟩
    · exact ⟨_, h4, fun v q => by rw [d4] at q; cases q⟩
  keep := fun i h h' st k => by
    obtain ⟨⟨old, h1⟩, h4⟩ := st
    exact ⟨⟨old, k e (by simp) _ h1⟩, h4.at fun o q => k it (by simp) o q⟩
  item := by
    intro X hP hw hK hc hkw i pins s σ H E I hf st hg
    subst hP hw hK
    obtain ⟨xs, x, hx, ex⟩ := hg
    obtain ⟨⟨old, h1⟩, h4⟩ := st
    obtain ⟨its, rv, pa, _⟩ := I.list hx
    obtain ⟨ux, hux, rx⟩ := rv.get ex
    refine wpAny_pyNext_enum_item h1 h4 pa.isList (x := ux) (by simpa using hux) hne fun h' a1 a2 a3 a4 hk => ?_
    have lt : ∀ c ∈ [e, it], c ≠ s.heap.objs.size := fun c hc' => by
      have st' : ∃ o, s.heap.get? c = some o := by
        obtain ⟨o4, e4, _⟩ := h4
        simp only [List.mem_cons, List.not_mem_nil, or_false] at hc'
        rcases hc' with rfl | rfl
        · exact ⟨_, h1⟩
        · exact ⟨_, e4⟩
      obtain ⟨o, q⟩ := st'
      exact Nat.ne_of_lt (Heap.lt_size q)
    have I1 : Inv X pins σ H { s with heap := h', toks := s.toks + 1 } := I.turnedL (t' := s.toks + 1) (ch := [e, it]) (fun c o hc' q => by
      simp only [List.mem_cons, List.not_mem_nil, or_false, not_or] at hc'
      exact hk c o hc'.1 hc'.2 q) hf
    have I2 : Inv X pins σ (upd H s.heap.objs.size (.tup [.int i, x])) { s with heap := h', toks := s.toks + 1 } := Inv.adoptNew I (Nat.le_refl _) I1 (I.hok.fresh (Nat.le_refl _)) ⟨by show 2 ≤ sizeLine; decide, [.int i s.toks, ux], .cons ⟨_, rfl⟩ (.cons rx .nil), ⟨_, a3, rfl, _, rfl⟩⟩
    refine ⟨.ref s.heap.objs.size, rfl, wpAny_letOwnedTupleGo_enum (s := { s with heap := h', toks := s.toks + 1 }) a1 fun h2' hz' sb => ?_⟩
    have fr : ∀ c ∈ [e, it], upd H s.heap.objs.size (.tup [.int i, x]) c = none := fun c hc' => by rw [upd_ne (lt c hc')]; exact (hf c hc').1
    have I3 : Inv X pins σ (upd H s.heap.objs.size (.tup [.int i, x])) { s with heap := h2', toks := s.toks + 1 } := Inv.turnedL (s := { s with heap := h', toks := s.toks + 1 }) (t' := s.toks + 1) (ch := [e]) I2 (fun c o hc' q => (sb.2 c (fun z => hc' (by simp [z]))).trans q)
      (fun c hc' => by
        have q : c = e := by simpa using hc'
        subst q
        exact ⟨fr c (by simp), (hf c (by simp)).2⟩)
    refine ⟨.ref s.heap.objs.size, _, I3, rfl, ⟨s.heap.objs.size, x, rfl, I.hok.fresh (Nat.le_refl _), rfl, fun xs' hx' => by rw [I.list_inj hx' hx]; exact ex⟩, ⟨⟨ux, by push_cast; exact hz'⟩, ?_⟩, fr⟩
    exact a2.at fun o q => (sb.2 it (Ne.symm hne)).trans q
  done := by
    intro X hP hw hK hc hkw i pins s σ H E I hf st hg
    subst hP hw hK
    obtain ⟨xs, hx, hend⟩ := hg
    obtain ⟨⟨old, h1⟩, h4⟩ := st
    obtain ⟨its, rv, pa, _⟩ := I.list hx
    exact wpAny_pyNext_enum_end (I.ok.hd (hc.trans hcm)) h1 h4 pa.isList (by simpa using rv.none_of hend) fun h' hk => ⟨rfl, I.turnedL (t' := s.toks) (ch := [it]) (fun c o hc' q => hk c o (by simpa using hc') q) (fun c hc' => hf c (List.mem_cons_of_mem _ hc'))⟩
  self := fun A i s Q E st h => by
    obtain ⟨⟨old, h1⟩, _⟩ := st
    exact wpAny_pyIter_enum h1 h
section
variable {X : Cx} {K : PySem.W.Frag}
def iEnum (K : PySem.W.Frag) (ta : TA) : TI := fun σ H R => ta σ H fun vs H1 => ∃ a xs, vs = [.ref a] ∧ SqL K H1 a xs ∧ R (Ite K a) H1
theorem pi_enum {a : Expr} {ta : TA} {p pos tpos : Pos} {elts : List Expr} {x1} (hK : X.K = K) (hc : X.calm = true) (hg : Gl X "enumerate") (hm : X.mg "enumerate" = none) (ha : PA X [a] ta) (hs : starEach [a] X.env = [(false, eval a X.env)] := by rfl) :
    PI X (.Tuple elts x1 tpos) (.Call (.Name "enumerate" p) [a] [] pos) (iEnum K ta) := by
  subst hK
  intro pins s σ H R I h
  refine Call_ (ld_blt I hg hm boot_enumerate (PyProof.Rows.callWith_type1 (thn (ha pos pins s σ H _ I h) fun us s1 ⟨vs, H1, I1, r1, q1⟩ => ?_) (by rw [hs]; rfl) rfl))
  obtain ⟨aa, xs, e, hx, q⟩ := q1
  subst e
  cases r1 with
  | cons r rr =>
    cases rr
    cases r
    obtain ⟨its, rv, pa, _⟩ := I1.list hx
    refine call_enumerate_list pa.isList fun h' z1 z2 z3 zk => ?_
    refine wpAny_pyIter_enum z1 ?_
    have I2 : Inv X pins σ H1 { s1 with heap := h' } := I1.kept (t' := s1.toks) zk
    refine ⟨s1.heap.objs.size + 1, [s1.heap.objs.size + 1, s1.heap.objs.size], _, _, H1, rfl, I2, turn_enum hc aa _ _ (Nat.succ_ne_self _), ⟨⟨_, z1⟩, z2⟩, fun c hc' => ?_, q⟩
    have hle : s1.heap.objs.size ≤ c := by
      simp only [List.mem_cons, List.not_mem_nil, or_false] at hc'
      rcases hc' with e | e <;> (rw [e]; first | exact Nat.le_refl _ | exact Nat.le_add_right _ _)
    exact I1.fpOk hle (I1.hok.fresh hle)
end
/-- for i, x in enumerate(xs), by what holds between two turns -/
theorem goForE {K : PySem.W.Frag} {H : Hp} {σ : St} {ρ : Rho} {ta : TA} {ds : List PyData} {g : TG} {tb u : TS} {D : Ends} (h : YA K ρ ta [.list ds]) (ev : EnvD K H σ ρ)
    (q : ∀ a xs H', Same H H' → SqL K H' a xs → DatAll K H' xs ds → ∃ Pv : Nat → St → Hp → Prop, Pv 0 σ H' ∧ (∀ i σ H, i ≤ xs.length → Pv i σ H → SqL K H a xs) ∧
      (∀ i x σ H p, xs[i]? = some x → H p = none → Pv i σ H → g (.ref p) σ (upd H p (.tup [.int i, x])) fun σ2 H2 => tb { D with nx := Pv (i + 1), ct := Pv (i + 1), bk := u D } σ2 H2) ∧ ∀ σ H, Pv xs.length σ H → u D σ H) :
    tSeq (tFor (iEnum K ta) g tb) u D σ H := h σ H _ ev fun vs H1 s1 dv => by
  obtain ⟨v, rfl, hv⟩ := dat1 dv
  obtain ⟨p, xs, rfl, hs, da⟩ := datL hv
  obtain ⟨Pv, h0, hl, hstep, hd⟩ := q p xs H1 s1 hs da
  refine ⟨p, xs, rfl, hs, fun i m σ H => m = xs.length - i ∧ i ≤ xs.length ∧ Pv i σ H, ⟨xs.length, by simp, Nat.zero_le _, h0⟩, ?_⟩
  rintro i m σ' H' ⟨rfl, hi, pv⟩
  have sq := hl i σ' H' hi pv
  by_cases hlt : i < xs.length
  · refine .inr ⟨⟨xs, xs[i], sq, by simp [hlt]⟩, Pv (i + 1), fun σ' H' p' => ⟨xs.length - (i + 1), by omega, rfl, hlt, p'⟩, fun x H2 y => ?_⟩
    obtain ⟨p, x', rfl, hp, rfl, e⟩ := y
    exact hstep i x' σ' H' p (e xs sq) hp pv
  · have e : i = xs.length := by omega
    subst e
    exact .inl ⟨⟨xs, sq, by simp⟩, hd σ' H' pv⟩
end L2

set_option Elab.async false
set_option linter.all false
set_option maxRecDepth 100000
set_option maxHeartbeats 4000000
namespace L2
open PySem PySem.Spec PyProof.Rows
abbrev SM := StateT SortSt Sem
def gallopS : Bool → Keyed → Array Keyed → Nat → Nat → Nat → SM (Option Nat) := sortPriv% PySem.Builtin.gallop
def mergeLoS : Array Keyed → Array Keyed → SM (Array Keyed) := sortPriv% PySem.Builtin.mergeLo
def mergeHiS : Array Keyed → Array Keyed → SM (Array Keyed) := sortPriv% PySem.Builtin.mergeHi
def beyS (left : Bool) (key : Keyed) (arr : Array Keyed) (base i : Nat) : SM (Option Bool) := elem' arr (base + i) >>= fun x => if left = true then lt' x key else lt' key x >>= fun r => pure (r.map fun b => !b)
section
variable {M : Model} {A : Around} {E : Value → Shared → Prop} {s : Shared}
theorem wpS_elemS {arr : Array Keyed} {i : Nat} {x : Keyed} {Q : Keyed → SortSt → Prop} {st : SortSt} (h : arr[i]? = some x) (q : Q x st) : wpS M A E s (elem' arr i) Q st := by
  rw [elem'_eq, h]; exact wpS_pure q
theorem gallop_ok {left : Bool} {key : Keyed} {arr : Array Keyed} {base n hint : Nat} {p : Nat → Bool} {st : SortSt} {Q : Option Nat → SortSt → Prop} (hb : ∀ i, i < n → ∀ Q : Option Bool → SortSt → Prop, Q (some (p i)) st → wpS M A E s (beyS left key arr base i) Q st)
    (mono : ∀ i j, i ≤ j → j < n → p j = true → p i = true) (hh : hint < n) (q : ∀ k, k ≤ n → (∀ i, i < k → p i = true) → (∀ i, k ≤ i → i < n → p i = false) → Q (some k) st) : wpS M A E s (gallopS left key arr base n hint) Q st := by
  have nono : ∀ i j, i ≤ j → j < n → p i = false → p j = false := fun i j h1 h2 h3 => by
    cases hp : p j with
    | false => rfl
    | true => rw [mono i j h1 h2 hp] at h3; cases h3
  have tail : ∀ {lo hi : Nat} {c : Option (Option Nat) × Nat × Nat} {f : Nat → Option (Option Nat) × Nat × Nat → SM (ForInStep (Option (Option Nat) × Nat × Nat))} {g : Option (Option Nat) × Nat × Nat → SM (Option Nat)}, c = (none, lo, hi) → lo ≤ hi → hi ≤ n → (∀ i, i < lo → p i = true) → (∀ i, hi ≤ i → i < n → p i = false) →
      (∀ i lo hi (R : ForInStep (Option (Option Nat) × Nat × Nat) → SortSt → Prop), (hi ≤ lo → R (.done (none, lo, hi)) st) → (lo < hi → hi ≤ n → (p (lo + (hi - lo) / 2) = true → R (.yield (none, lo + (hi - lo) / 2 + 1, hi)) st) ∧ (p (lo + (hi - lo) / 2) = false → R (.yield (none, lo, lo + (hi - lo) / 2)) st)) → hi ≤ n → wpS M A E s (f i (none, lo, hi)) R st) →
      (∀ lo hi, wpS M A E s (g (none, lo, hi)) (fun r st' => r = some hi ∧ st' = st) st) →
      wpS M A E s (forIn [:n] c f >>= g) Q st := fun {lo hi c f g} hc h1 h2 h3 h4 hf hg => by
    subst hc
    refine wpS_bind (wpS_mono (wpS_forRange (I := fun i c st' => st' = st ∧ ∃ lo hi, c = (none, lo, hi) ∧ lo ≤ hi ∧ hi ≤ n ∧ hi - lo ≤ n - i ∧ (∀ i, i < lo → p i = true) ∧ ∀ i, hi ≤ i → i < n → p i = false)
      (Q := fun c st' => st' = st ∧ ∃ lo hi, c = (none, lo, hi) ∧ lo = hi ∧ hi ≤ n ∧ (∀ i, i < lo → p i = true) ∧ ∀ i, hi ≤ i → i < n → p i = false) ?step ?fin ⟨rfl, lo, hi, rfl, h1, h2, by omega, h3, h4⟩) ?post)
    case fin =>
      rintro c st' ⟨rfl, lo, hi, rfl, a1, a2, a3, a4, a5⟩
      exact ⟨rfl, lo, hi, rfl, by omega, a2, a4, a5⟩
    case step =>
      rintro i c st' _ hi' ⟨rfl, lo, hi, rfl, a1, a2, a3, a4, a5⟩
      refine hf i lo hi _ (fun hle => ⟨rfl, lo, hi, rfl, by omega, a2, a4, a5⟩) (fun hlt _ => ⟨fun hp => ⟨rfl, _, hi, rfl, by omega, a2, by omega, fun j hj => ?_, a5⟩, fun hp => ⟨rfl, lo, _, rfl, by omega, by omega, by omega, a4, fun j hj hj' => ?_⟩⟩) a2
      · exact mono j (lo + (hi - lo) / 2) (by omega) (by omega) hp
      · exact nono (lo + (hi - lo) / 2) j hj hj' hp
    case post =>
      rintro c st' ⟨rfl, lo, hi, rfl, rfl, a2, a4, a5⟩
      refine wpS_mono (hg lo lo) fun r st' ⟨e1, e2⟩ => ?_
      subst e1 e2
      exact q lo a2 a4 a5
  have body : ∀ (f : Nat → Option (Option Nat) × Nat × Nat → SM (ForInStep (Option (Option Nat) × Nat × Nat))), True := fun _ => trivial
  unfold gallopS
  refine wpS_bind (hb hint hh _ ?_)
  dsimp only
  cases hr : p hint with
  | true =>
    rw [if_pos rfl]
    refine wpS_bind (wpS_mono (wpS_forRange (I := fun i c st' => st' = st ∧ ∃ la of, c = (none, la, of) ∧ i + 1 ≤ of ∧ la < of ∧ hint + la < n ∧ p (hint + la) = true)
      (Q := fun c st' => st' = st ∧ ∃ la of, c = (none, la, of) ∧ la < of ∧ hint + la < n ∧ p (hint + la) = true ∧ (n - hint ≤ of ∨ (hint + of < n ∧ p (hint + of) = false))) ?step ?fin ⟨rfl, 0, 1, rfl, by omega, by omega, by omega, hr⟩) ?post)
    case fin =>
      rintro c st' ⟨rfl, la, of, rfl, a1, a2, a3, a4⟩
      exact ⟨rfl, la, of, rfl, a2, a3, a4, .inl (by omega)⟩
    case step =>
      rintro i c st' _ hi' ⟨rfl, la, of, rfl, a1, a2, a3, a4⟩
      dsimp only
      by_cases h : of ≥ n - hint
      · rw [if_pos h]
        exact wpS_pure ⟨rfl, la, of, rfl, a2, a3, a4, .inl h⟩
      · rw [if_neg h]
        refine wpS_bind (hb (hint + of) (by omega) _ ?_)
        dsimp only
        cases hp : p (hint + of) with
        | false => exact wpS_pure ⟨rfl, la, of, rfl, a2, a3, a4, .inr ⟨by omega, hp⟩⟩
        | true => exact wpS_pure ⟨rfl, of, 2 * of + 1, rfl, by omega, by omega, by omega, hp⟩
    case post =>
      rintro c st' ⟨rfl, la, of, rfl, a2, a3, a4, a5⟩
      dsimp only
      refine tail rfl (by omega) (by omega) (fun j hj => mono j (hint + la) (by omega) (by omega) a4) (fun j hj hj' => ?_) (fun i lo hi R r1 r2 hn => ?_) fun lo hi => ?_
      · rcases a5 with h | ⟨h, hp⟩
        · omega
        · exact nono (hint + of) j (by omega) hj' hp
      · dsimp only
        by_cases h : lo ≥ hi
        · rw [if_pos h]; exact wpS_pure (r1 h)
        · rw [if_neg h]
          refine wpS_bind (hb (lo + (hi - lo) / 2) (by omega) _ ?_)
          dsimp only
          cases hp : p (lo + (hi - lo) / 2) with
          | false => exact wpS_pure ((r2 (by omega) hn).2 hp)
          | true => exact wpS_pure ((r2 (by omega) hn).1 hp)
      · exact wpS_pure ⟨rfl, rfl⟩
  | false =>
    rw [if_neg Bool.false_ne_true]
    refine wpS_bind (wpS_mono (wpS_forRange (I := fun i c st' => st' = st ∧ ∃ la of, c = (none, la, of) ∧ i + 1 ≤ of ∧ la < of ∧ la ≤ hint ∧ p (hint - la) = false)
      (Q := fun c st' => st' = st ∧ ∃ la of, c = (none, la, of) ∧ la < of ∧ la ≤ hint ∧ p (hint - la) = false ∧ (hint + 1 ≤ of ∨ (of ≤ hint ∧ p (hint - of) = true))) ?step ?fin ⟨rfl, 0, 1, rfl, by omega, by omega, by omega, hr⟩) ?post)
    case fin =>
      rintro c st' ⟨rfl, la, of, rfl, a1, a2, a3, a4⟩
      exact ⟨rfl, la, of, rfl, a2, a3, a4, .inl (by omega)⟩
    case step =>
      rintro i c st' _ hi' ⟨rfl, la, of, rfl, a1, a2, a3, a4⟩
      dsimp only
      by_cases h : of ≥ hint + 1
      · rw [if_pos h]
        exact wpS_pure ⟨rfl, la, of, rfl, a2, a3, a4, .inl h⟩
      · rw [if_neg h]
        refine wpS_bind (hb (hint - of) (by omega) _ ?_)
        dsimp only
        cases hp : p (hint - of) with
        | true => exact wpS_pure ⟨rfl, la, of, rfl, a2, a3, a4, .inr ⟨by omega, hp⟩⟩
        | false => exact wpS_pure ⟨rfl, of, 2 * of + 1, rfl, by omega, by omega, by omega, hp⟩
    case post =>
      rintro c st' ⟨rfl, la, of, rfl, a2, a3, a4, a5⟩
      dsimp only
      refine tail rfl (by omega) (by omega) (fun j hj => ?_) (fun j hj hj' => nono (hint - la) j (by omega) hj' a4) (fun i lo hi R r1 r2 hn => ?_) fun lo hi => ?_
      · rcases a5 with h | ⟨h, hp⟩
        · omega
        · exact mono j (hint - of) (by omega) (by omega) hp
      · dsimp only
        by_cases h : lo ≥ hi
        · rw [if_pos h]; exact wpS_pure (r1 h)
        · rw [if_neg h]
          refine wpS_bind (hb (lo + (hi - lo) / 2) (by omega) _ ?_)
          dsimp only
          cases hp : p (lo + (hi - lo) / 2) with
          | false => exact wpS_pure ((r2 (by omega) hn).2 hp)
          | true => exact wpS_pure ((r2 (by omega) hn).1 hp)
      · exact wpS_pure ⟨rfl, rfl⟩
end
end L2

set_option Elab.async false
set_option linter.all false
set_option maxRecDepth 100000
set_option maxHeartbeats 4000000
namespace L2
open PySem PySem.Spec PyProof.Rows
def Up (L : Keyed → Keyed → Bool) (l : List Keyed) : Prop := l.Pairwise fun x y => L x y = true
structure MI (L : Keyed → Keyed → Bool) (T O A' B' : List Keyed) : Prop where
  perm : (O ++ (A' ++ B')).Perm T
  so : Up L O
  oa : ∀ o ∈ O, ∀ x ∈ A', L o x = true
  ob : ∀ o ∈ O, ∀ x ∈ B', L o x = true
  sa : Up L A'
  sb : Up L B'
def FinM (L : Keyed → Keyed → Bool) (T out : List Keyed) : Prop := Up L out ∧ out.Perm T
section
variable {L : Keyed → Keyed → Bool} {T O A' B' : List Keyed}
theorem MI.fin1 (h : MI L T O A' B') (ab : ∀ x ∈ A', ∀ y ∈ B', L x y = true) : FinM L T (O ++ A' ++ B') := by
  refine ⟨?_, by rw [List.append_assoc]; exact h.perm⟩
  rw [Up, List.append_assoc, List.pairwise_append]
  refine ⟨h.so, List.pairwise_append.mpr ⟨h.sa, h.sb, ab⟩, fun o ho x hx => ?_⟩
  rcases List.mem_append.mp hx with hx | hx
  · exact h.oa o ho x hx
  · exact h.ob o ho x hx
theorem MI.swap (h : MI L T O A' B') : MI L T O B' A' := ⟨(List.Perm.append_left O List.perm_append_comm).trans h.perm, h.so, h.ob, h.oa, h.sb, h.sa⟩
theorem MI.takeA (h : MI L T O A' B') (k : Nat) (hk : ∀ x ∈ A'.take k, ∀ y ∈ B', L x y = true) : MI L T (O ++ A'.take k) (A'.drop k) B' := by
  have hs : Up L (A'.take k ++ A'.drop k) := by rw [List.take_append_drop]; exact h.sa
  obtain ⟨s1, s2, s3⟩ := List.pairwise_append.mp hs
  refine ⟨?_, List.pairwise_append.mpr ⟨h.so, s1, fun o ho x hx => h.oa o ho x (List.mem_of_mem_take hx)⟩, fun o ho x hx => ?_, fun o ho x hx => ?_, s2, h.sb⟩
  · have e : O ++ A'.take k ++ (A'.drop k ++ B') = O ++ (A' ++ B') := by
      rw [List.append_assoc, ← List.append_assoc (A'.take k), List.take_append_drop]
    rw [e]; exact h.perm
  · rcases List.mem_append.mp ho with ho | ho
    · exact h.oa o ho x (List.mem_of_mem_drop hx)
    · exact s3 o ho x hx
  · rcases List.mem_append.mp ho with ho | ho
    · exact h.ob o ho x hx
    · exact hk o ho x hx
end
/-- all that comes behind a head is greater -/
theorem up_head {L : Keyed → Keyed → Bool} (tr : ∀ x y z, L x y = true → L y z = true → L x z = true) {l : List Keyed} {i : Nat} {y : Keyed} (h : Up L (l.drop i)) (hh : ∀ x, l[i]? = some x → L y x = true) : ∀ x ∈ l.drop i, L y x = true := fun x hx => by
  by_cases hi : i < l.length
  · rw [List.drop_eq_getElem_cons hi] at h hx
    have h0 := hh _ (List.getElem?_eq_getElem hi)
    rcases List.mem_cons.mp hx with rfl | hx
    · exact h0
    · exact tr _ _ _ h0 ((List.pairwise_cons.mp h).1 x hx)
  · rw [List.drop_of_length_le (by omega)] at hx; cases hx
structure SameS (st st' : SortSt) : Prop where
  kind : kindOf st' = kindOf st
  arr : arrOf st' = arrOf st
  pend : pendingOf st' = pendingOf st
  fail : failedOf st' = failedOf st
theorem SameS.rfl' (st : SortSt) : SameS st st := ⟨rfl, rfl, rfl, rfl⟩
section
variable {L : Keyed → Keyed → Bool} {a b : Array Keyed}
abbrev MIa (L : Keyed → Keyed → Bool) (a b : Array Keyed) (out : Array Keyed) (ia ib : Nat) : Prop := MI L (a.toList ++ b.toList) out.toList (a.toList.drop ia) (b.toList.drop ib)
abbrev FinA (L : Keyed → Keyed → Bool) (a b : Array Keyed) (out : Array Keyed) : Prop := FinM L (a.toList ++ b.toList) out.toList
theorem ext_drop (a : Array Keyed) (i : Nat) : (a.extract i a.size).toList = a.toList.drop i := by
  rw [Array.toList_extract, List.extract_eq_take_drop, List.take_of_length_le (by simp)]
theorem ext_take (a : Array Keyed) (i k : Nat) : (a.extract i (i + k)).toList = (a.toList.drop i).take k := by
  rw [Array.toList_extract, List.extract_eq_take_drop, Nat.add_sub_cancel_left]
variable {out : Array Keyed} {ia ib : Nat}
theorem MIa.doneB (h : MIa L a b out ia ib) (e : ib = b.size) : FinA L a b (out ++ a.extract ia a.size ++ b.extract ib b.size) := by
  show FinM _ _ _
  rw [Array.toList_append, Array.toList_append, ext_drop, ext_drop]
  exact h.fin1 fun x _ y hy => by rw [List.drop_of_length_le (by simp [e])] at hy; cases hy
theorem MIa.doneA (h : MIa L a b out ia ib) (e : ia = a.size) : FinA L a b (out ++ a.extract ia a.size ++ b.extract ib b.size) := by
  show FinM _ _ _
  rw [Array.toList_append, Array.toList_append, ext_drop, ext_drop]
  exact h.fin1 fun x hx y _ => by rw [List.drop_of_length_le (by simp [e])] at hx; cases hx
theorem MIa.last (h : MIa L a b out ia ib) (e : ia + 1 = a.size) (hl : ∀ x, a[a.size - 1]? = some x → ∀ y ∈ b.toList, L y x = true) : FinA L a b (out ++ b.extract ib b.size ++ a.extract ia a.size) := by
  show FinM _ _ _
  rw [Array.toList_append, Array.toList_append, ext_drop, ext_drop]
  refine h.swap.fin1 fun y hy x hx => ?_
  have hi : ia < a.toList.length := by simp; omega
  rw [List.drop_eq_getElem_cons hi, List.drop_of_length_le (by simp; omega)] at hx
  have hx := List.mem_singleton.mp hx
  subst hx
  exact hl _ (by rw [show a.size - 1 = ia by omega, Array.getElem?_eq_getElem (by omega)]; simp) y (List.mem_of_mem_drop hy)
theorem MIa.pushB (tr : ∀ x y z, L x y = true → L y z = true → L x z = true) {y : Keyed} (h : MIa L a b out ia ib) (hy : b[ib]? = some y) (hh : ∀ x, a[ia]? = some x → L y x = true) : MIa L a b (out.push y) ia (ib + 1) := by
  obtain ⟨hi, e⟩ := Array.getElem?_eq_some_iff.mp hy
  have e1 : (b.toList.drop ib).take 1 = [y] := by rw [List.drop_eq_getElem_cons (by simpa using hi)]; simpa using e
  have := h.swap.takeA 1 (fun z hz x hx => by rw [e1] at hz; rw [List.mem_singleton.mp hz]; exact up_head tr h.sa (by simpa using hh) x hx)
  rw [e1, List.drop_drop] at this
  show MI _ _ _ _ _
  rw [Array.toList_push]
  exact this.swap
theorem MIa.pushA (tr : ∀ x y z, L x y = true → L y z = true → L x z = true) {x : Keyed} (h : MIa L a b out ia ib) (hx : a[ia]? = some x) (hh : ∀ y, b[ib]? = some y → L x y = true) : MIa L a b (out.push x) (ia + 1) ib := by
  obtain ⟨hi, e⟩ := Array.getElem?_eq_some_iff.mp hx
  have e1 : (a.toList.drop ia).take 1 = [x] := by rw [List.drop_eq_getElem_cons (by simpa using hi)]; simpa using e
  have := h.takeA 1 (fun z hz y hy => by rw [e1] at hz; rw [List.mem_singleton.mp hz]; exact up_head tr h.sb (by simpa using hh) y hy)
  rw [e1, List.drop_drop] at this
  show MI _ _ _ _ _
  rw [Array.toList_push]
  exact this
theorem MIa.runA (tr : ∀ x y z, L x y = true → L y z = true → L x z = true) {k : Nat} (h : MIa L a b out ia ib) (hh : ∀ i, i < k → ∀ x, a[ia + i]? = some x → ∀ y, b[ib]? = some y → L x y = true) : MIa L a b (out ++ a.extract ia (ia + k)) (ia + k) ib := by
  have := h.takeA k (fun z hz y hy => by
    obtain ⟨i, hi, e⟩ := List.mem_iff_getElem.mp hz
    rw [List.length_take] at hi
    have hz' : a[ia + i]? = some z := by
      rw [← e, List.getElem_take, List.getElem_drop]
      simp
    exact up_head tr h.sb (fun y hy => hh i (by omega) z hz' y (by simpa using hy)) y hy)
  rw [List.drop_drop] at this
  show MI _ _ _ _ _
  rw [Array.toList_append, ext_take]
  exact this
theorem MIa.runB (tr : ∀ x y z, L x y = true → L y z = true → L x z = true) {k : Nat} (h : MIa L a b out ia ib) (hh : ∀ i, i < k → ∀ y, b[ib + i]? = some y → ∀ x, a[ia]? = some x → L y x = true) : MIa L a b (out ++ b.extract ib (ib + k)) ia (ib + k) := by
  have := h.swap.takeA k (fun z hz y hy => by
    obtain ⟨i, hi, e⟩ := List.mem_iff_getElem.mp hz
    rw [List.length_take] at hi
    have hz' : b[ib + i]? = some z := by
      rw [← e, List.getElem_take, List.getElem_drop]
      simp
    exact up_head tr h.sa (fun y hy => hh i (by omega) z hz' y (by simpa using hy)) y hy)
  rw [List.drop_drop] at this
  show MI _ _ _ _ _
  rw [Array.toList_append, ext_take]
  exact this.swap
end
end L2

set_option Elab.async false
set_option linter.all false
set_option maxRecDepth 100000
set_option maxHeartbeats 4000000
namespace L2
open PySem PySem.Spec PyProof.Rows
section
variable {M : Model} {A : Around} {E : Value → Shared → Prop} {s : Shared} {L : Keyed → Keyed → Bool} {S : Keyed → Prop}
theorem wpS_ite {α : Type} {c : Prop} [Decidable c] {t e : SM α} {Q : α → SortSt → Prop} {st : SortSt} (h1 : c → wpS M A E s t Q st) (h2 : ¬c → wpS M A E s e Q st) : wpS M A E s (if c then t else e) Q st := by
  split
  · exact h1 ‹_›
  · exact h2 ‹_›
/-- the comparisons of a sort: what stands in S is told apart by L -/
def LtOk (M : Model) (A : Around) (E : Value → Shared → Prop) (s : Shared) (L : Keyed → Keyed → Bool) (S : Keyed → Prop) : Prop :=
  ∀ (x y : Keyed) (st : SortSt) (Q : Option Bool → SortSt → Prop), S x → S y → kindOf st = oneType' → Q (some (L x y)) st → wpS M A E s (lt' x y) Q st
/-- gallop in a rising run: how many are ahead of the key -/
theorem gallopR_ok {key : Keyed} {arr : Array Keyed} {base n hint : Nat} {st : SortSt} {Q : Option Nat → SortSt → Prop} (hlt : LtOk M A E s L S) (tr : ∀ x y z, L x y = true → L y z = true → L x z = true) (hS : ∀ x ∈ arr.toList, S x) (hK : S key) (hk : kindOf st = oneType') (hn : base + n ≤ arr.size)
    (up : ∀ i j (x y : Keyed), i < j → j < n → arr[base + i]? = some x → arr[base + j]? = some y → L x y = true) (hh : hint < n)
    (q : ∀ k, k ≤ n → (∀ i x, i < k → arr[base + i]? = some x → L key x = false) → (∀ i x, k ≤ i → i < n → arr[base + i]? = some x → L key x = true) → Q (some k) st) : wpS M A E s (gallopS false key arr base n hint) Q st := by
  have get : ∀ i, i < n → ∃ x, arr[base + i]? = some x ∧ S x := fun i hi => ⟨arr[base + i], Array.getElem?_eq_getElem (by omega), hS _ (by simp)⟩
  refine gallop_ok (p := fun i => match arr[base + i]? with | some x => !L key x | none => false) (fun i hi Q' h => ?_) (fun i j hij hj hp => ?_) hh fun k hk1 h1 h2 => q k hk1 (fun i x hi hx => ?_) fun i x hi hi' hx => ?_
  · obtain ⟨x, hx, sx⟩ := get i hi
    rw [hx] at h
    unfold beyS
    refine wpS_bind (wpS_elemS hx ?_)
    rw [if_neg Bool.false_ne_true]
    exact wpS_bind (hlt key x st _ hK sx hk (wpS_pure h))
  · obtain ⟨x, hx, sx⟩ := get i (by omega)
    obtain ⟨y, hy, sy⟩ := get j hj
    simp only [hx, hy] at hp ⊢
    by_cases e : i = j
    · subst e; rw [hx] at hy; cases hy; exact hp
    · have := up i j x y (by omega) hj hx hy
      cases hq : L key x with
      | false => rfl
      | true => rw [tr _ _ _ hq this] at hp; cases hp
  · have := h1 i hi
    simp only [hx] at this
    simpa using this
  · have := h2 i hi hi'
    simp only [hx] at this
    simpa using this
theorem gallopL_ok {key : Keyed} {arr : Array Keyed} {base n hint : Nat} {st : SortSt} {Q : Option Nat → SortSt → Prop} (hlt : LtOk M A E s L S) (tr : ∀ x y z, L x y = true → L y z = true → L x z = true) (hS : ∀ x ∈ arr.toList, S x) (hK : S key) (hk : kindOf st = oneType') (hn : base + n ≤ arr.size)
    (up : ∀ i j (x y : Keyed), i < j → j < n → arr[base + i]? = some x → arr[base + j]? = some y → L x y = true) (hh : hint < n)
    (q : ∀ k, k ≤ n → (∀ i x, i < k → arr[base + i]? = some x → L x key = true) → (∀ i x, k ≤ i → i < n → arr[base + i]? = some x → L x key = false) → Q (some k) st) : wpS M A E s (gallopS true key arr base n hint) Q st := by
  have get : ∀ i, i < n → ∃ x, arr[base + i]? = some x ∧ S x := fun i hi => ⟨arr[base + i], Array.getElem?_eq_getElem (by omega), hS _ (by simp)⟩
  refine gallop_ok (p := fun i => match arr[base + i]? with | some x => L x key | none => false) (fun i hi Q' h => ?_) (fun i j hij hj hp => ?_) hh fun k hk1 h1 h2 => q k hk1 (fun i x hi hx => ?_) fun i x hi hi' hx => ?_
  · obtain ⟨x, hx, sx⟩ := get i hi
    rw [hx] at h
    unfold beyS
    refine wpS_bind (wpS_elemS hx ?_)
    rw [if_pos rfl]
    exact hlt x key st _ sx hK hk h
  · obtain ⟨x, hx, sx⟩ := get i (by omega)
    obtain ⟨y, hy, sy⟩ := get j hj
    simp only [hx, hy] at hp ⊢
    by_cases e : i = j
    · subst e; rw [hx] at hy; cases hy; exact hp
    · exact tr _ _ _ (up i j x y (by omega) hj hx hy) hp
  · have := h1 i hi
    simp only [hx] at this
    exact this
  · have := h2 i hi hi'
    simp only [hx] at this
    exact this
theorem up_get {arr : Array Keyed} (h : Up L arr.toList) {i j : Nat} {x y : Keyed} (hij : i < j) (hx : arr[i]? = some x) (hy : arr[j]? = some y) : L x y = true := by
  obtain ⟨h1, e1⟩ := Array.getElem?_eq_some_iff.mp hx
  obtain ⟨h2, e2⟩ := Array.getElem?_eq_some_iff.mp hy
  have := List.pairwise_iff_getElem.mp h i j (by simpa using h1) (by simpa using h2) hij
  simp only [Array.getElem_toList] at this
  rwa [e1, e2] at this
theorem mergeLo_ok (hlt : LtOk M A E s L S) (tr : ∀ x y z, L x y = true → L y z = true → L x z = true) {a b : Array Keyed} (ha : ∀ x ∈ a.toList, S x) (hb : ∀ x ∈ b.toList, S x) (tot : ∀ x ∈ a.toList, ∀ y ∈ b.toList, L x y = !L y x) (ua : Up L a.toList) (ub : Up L b.toList) (a1 : 1 ≤ a.size) (b1 : 1 ≤ b.size)
    (h0 : ∀ y x, b[0]? = some y → a[0]? = some x → L y x = true) (hl : ∀ x, a[a.size - 1]? = some x → ∀ y ∈ b.toList, L y x = true) {st : SortSt} {Q : Array Keyed → SortSt → Prop} (hk : kindOf st = oneType') (q : ∀ out st', SameS st st' → FinA L a b out → Q out st') : wpS M A E s (mergeLoS a b) Q st := by
  have getA : ∀ i, i < a.size → ∃ x, a[i]? = some x ∧ x ∈ a.toList := fun i hi => ⟨a[i], Array.getElem?_eq_getElem hi, by simp⟩
  have getB : ∀ i, i < b.size → ∃ x, b[i]? = some x ∧ x ∈ b.toList := fun i hi => ⟨b[i], Array.getElem?_eq_getElem hi, by simp⟩
  obtain ⟨y0, hy0, my0⟩ := getB 0 b1
  obtain ⟨x0, hx0, mx0⟩ := getA 0 a1
  have mi0 : MIa L a b #[] 0 0 := ⟨by simp, List.Pairwise.nil, fun o ho => by simp at ho, fun o ho => by simp at ho, ua, ub⟩
  have mi1 : MIa L a b #[y0] 0 1 := mi0.pushB tr hy0 fun x hx => h0 y0 x hy0 hx
  unfold mergeLoS
  refine wpS_bind (wpS_lift (wpAny_rule ⟨rfl, ?_⟩))
  refine wpS_bind (wpS_elemS hy0 ?_)
  refine wpS_ite (fun h => wpS_pure (q _ st (SameS.rfl' _) (mi1.doneB (by simpa using h)))) fun hb1 => wpS_ite (fun h => wpS_pure (q _ st (SameS.rfl' _) (mi1.last (by simpa using h) hl))) fun ha1 => wpS_bind (wpS_get ?_)
  have hb1 : 1 ≠ b.size := by simpa using hb1
  have ha1 : 1 ≠ a.size := by simpa using ha1
  refine wpS_bind (wpS_mono (wpS_forRange (I := fun j c st' => SameS st st' ∧ ∃ out ia ib g, c = (none, out, ia, ib, g) ∧ MIa L a b out ia ib ∧ ia + 1 < a.size ∧ ib < b.size ∧ j + 1 ≤ ia + ib)
    (Q := fun c st' => SameS st st' ∧ ∃ r out ia ib g, c = (some r, out, ia, ib, g) ∧ FinA L a b r) ?step ?fin ⟨SameS.rfl' _, _, 0, 1, _, rfl, mi1, by ((try dsimp only) <;> omega), by ((try dsimp only) <;> omega), by ((try dsimp only) <;> omega)⟩) ?post)
  case fin =>
    rintro c st' ⟨sm, out, ia, ib, g, rfl, mi, h1, h2, h3⟩
    omega
  case post =>
    rintro c st' ⟨sm, r, out, ia, ib, g, rfl, fr⟩
    exact wpS_pure (q r st' sm fr)
  case step =>
    rintro j c st' _ hj ⟨sm, out, ia, ib, g, rfl, mi, h1, h2, h3⟩
    refine wpS_bind (wpS_mono (wpS_forRange (I := fun i c st2 => SameS st st2 ∧ ∃ out ia ib x y, c = (none, out, ia, ib, x, y) ∧ MIa L a b out ia ib ∧ ia + 1 < a.size ∧ ib < b.size ∧ j + 1 + i ≤ ia + ib)
      (Q := fun c st2 => SameS st st2 ∧ ∃ o out ia ib x y, c = (o, out, ia, ib, x, y) ∧ ((∃ r, o = some r ∧ FinA L a b r) ∨ (o = none ∧ MIa L a b out ia ib ∧ ia + 1 < a.size ∧ ib < b.size ∧ j + 2 ≤ ia + ib))) ?s1 ?f1 ⟨sm, out, ia, ib, 0, 0, rfl, mi, h1, h2, by ((try dsimp only) <;> omega)⟩) ?p1)
    case f1 =>
      rintro c st2 ⟨sm2, out, ia, ib, x, y, rfl, mi, h1, h2, h3⟩
      exact ⟨sm2, none, _, _, _, _, _, rfl, .inr ⟨rfl, mi, h1, h2, by ((try dsimp only) <;> omega)⟩⟩
    case s1 =>
      rintro i c st2 _ hi ⟨sm2, out, ia, ib, x, y, rfl, mi, h1, h2, h3⟩
      obtain ⟨yb, hyb, myb⟩ := getB ib h2
      obtain ⟨xa, hxa, mxa⟩ := getA ia (by ((try dsimp only) <;> omega))
      refine wpS_bind (wpS_elemS hyb (wpS_bind (wpS_elemS hxa (wpS_bind (hlt yb xa st2 _ (hb _ myb) (ha _ mxa) (by rw [sm2.kind, hk]) ?_)))))
      cases hw : L yb xa with
      | true =>
        refine wpS_ite (fun _ => wpS_bind (wpS_elemS hyb ?_)) (fun h => absurd rfl h)
        have mi' := mi.pushB tr hyb (fun x hx => by rw [hxa] at hx; cases hx; exact hw)
        refine wpS_ite (fun h => wpS_pure ⟨sm2, some _, _, _, _, _, _, rfl, .inl ⟨_, rfl, mi'.doneB (by simpa using h)⟩⟩) fun h => ?_
        have hne : ib + 1 ≠ b.size := by simpa using h
        exact wpS_ite (fun _ => wpS_pure ⟨sm2, none, _, _, _, _, _, rfl, .inr ⟨rfl, mi', h1, by ((try dsimp only) <;> omega), by ((try dsimp only) <;> omega)⟩⟩) fun _ => wpS_pure ⟨sm2, _, _, _, _, _, rfl, mi', h1, by ((try dsimp only) <;> omega), by ((try dsimp only) <;> omega)⟩
      | false =>
        refine wpS_ite (fun h => by cases h) (fun _ => wpS_bind (wpS_elemS hxa ?_))
        have hw' : L xa yb = true := by rw [tot xa mxa yb myb, hw]; rfl
        have mi' := mi.pushA tr hxa (fun y hy => by rw [hyb] at hy; cases hy; exact hw')
        refine wpS_ite (fun h => wpS_pure ⟨sm2, some _, _, _, _, _, _, rfl, .inl ⟨_, rfl, mi'.last (by simpa using h) hl⟩⟩) fun h => ?_
        have hne : ia + 1 + 1 ≠ a.size := by simpa using h
        exact wpS_ite (fun _ => wpS_pure ⟨sm2, none, _, _, _, _, _, rfl, .inr ⟨rfl, mi', by ((try dsimp only) <;> omega), h2, by ((try dsimp only) <;> omega)⟩⟩) fun _ => wpS_pure ⟨sm2, _, _, _, _, _, rfl, mi', by ((try dsimp only) <;> omega), h2, by ((try dsimp only) <;> omega)⟩
    case p1 =>
      rintro c st2 ⟨sm2, o, out, ia, ib, x, y, rfl, hc⟩
      rcases hc with ⟨r, rfl, fr⟩ | ⟨rfl, mi, h1, h2, h3⟩
      · exact wpS_pure ⟨sm2, r, _, _, _, _, rfl, fr⟩
      refine wpS_bind (wpS_lift (wpAny_rule ⟨rfl, ?_⟩))
      refine wpS_bind (wpS_mono (wpS_forRange (I := fun _ c st3 => SameS st st3 ∧ ∃ out ia ib g x y, c = (none, out, ia, ib, g, x, y) ∧ MIa L a b out ia ib ∧ ia + 1 < a.size ∧ ib < b.size ∧ j + 2 ≤ ia + ib)
        (Q := fun c st3 => SameS st st3 ∧ ∃ o out ia ib g x y, c = (o, out, ia, ib, g, x, y) ∧ ((∃ r, o = some r ∧ FinA L a b r) ∨ (o = none ∧ MIa L a b out ia ib ∧ ia + 1 < a.size ∧ ib < b.size ∧ j + 2 ≤ ia + ib))) ?s2 ?f2 ⟨sm2, out, ia, ib, _, _, _, rfl, mi, h1, h2, h3⟩) ?p2)
      case f2 =>
        rintro c st3 ⟨sm3, out, ia, ib, g, x, y, rfl, mi, h1, h2, h3⟩
        exact ⟨sm3, none, _, _, _, _, _, _, rfl, .inr ⟨rfl, mi, h1, h2, h3⟩⟩
      case p2 =>
        rintro c st3 ⟨sm3, o, out, ia, ib, g, x, y, rfl, hc⟩
        rcases hc with ⟨r, rfl, fr⟩ | ⟨rfl, mi, h1, h2, h3⟩
        · exact wpS_pure ⟨sm3, r, _, _, _, _, rfl, fr⟩
        · refine wpS_bind (wpS_modify ?_)
          exact wpS_pure ⟨⟨sm3.kind, sm3.arr, sm3.pend, sm3.fail⟩, out, ia, ib, _, rfl, mi, h1, h2, by ((try dsimp only) <;> omega)⟩
      case s2 =>
        rintro i c st3 _ hi ⟨sm3, out, ia, ib, g, x, y, rfl, mi, h1, h2, h3⟩
        dsimp -zeta only
        extract_lets -merge s1 o1 s2 i1 s3 i2 s4 g4 s5 ac bc ib2 jp g5
        suffices hjp : ∀ g, wpS M A E s (jp () g) _ st3 from wpS_ite (fun _ => hjp _) fun _ => hjp _
        intro g
        refine wpS_bind (wpS_modify ?_)
        have sm4 : SameS st (SortSt.mk' (kindOf st3) (arrOf st3) (pendingOf st3) g (failedOf st3)) := ⟨sm3.kind, sm3.arr, sm3.pend, sm3.fail⟩
        obtain ⟨yb, hyb, myb⟩ := getB ib h2
        refine wpS_bind (wpS_elemS hyb (wpS_bind (gallopR_ok hlt tr ha (hb _ myb) (by show kindOf st3 = _; rw [sm3.kind, hk]) (show ia + (a.size - ia) ≤ a.size by omega) (fun i j x y hij hj hx hy => up_get ua (by ((try dsimp only) <;> omega)) hx hy) (show 0 < a.size - ia by omega) fun k hk1 hlo hhi => ?_)))
        have hk1 : k ≤ a.size - ia := hk1
        have hlo : ∀ i x, i < k → a[ia + i]? = some x → L x yb = true := fun i x hi hx => by
          rw [tot x (Array.mem_toList_iff.mpr (Array.mem_of_getElem? hx)) yb myb, hlo i x hi hx]; rfl
        have hhi : ∀ i x, k ≤ i → a[ia + i]? = some x → L yb x = true := fun i x hi hx => hhi i x hi (show i < a.size - ia by have := (Array.getElem?_eq_some_iff.mp hx).1; omega) hx
        dsimp -zeta only
        extract_lets -merge u1 u2 u3 u4
        suffices half2 : ∀ out1 ia1, MIa L a b out1 ia1 ib → ia1 + 1 < a.size → (∀ x, a[ia1]? = some x → L yb x = true) → j + 2 ≤ ia1 + ib → wpS M A E s (u2 () out1 ia1) _ _ from by
          refine wpS_ite (fun hk0 => ?_) fun hk0 => half2 out ia mi h1 (fun x hx => hhi 0 x (by omega) (by simpa using hx)) h3
          have mi' := mi.runA tr (k := k) (fun i hi x hx y hy => by rw [hyb] at hy; cases hy; exact hlo i x hi hx)
          refine wpS_ite (fun h => wpS_pure ⟨sm4, some _, _, _, _, _, _, _, rfl, .inl ⟨_, rfl, mi'.last (by have h' : (ia + k + 1 == a.size) = true := h; simpa using h') hl⟩⟩) fun h => ?_
          refine wpS_ite (fun h => wpS_pure ⟨sm4, some _, _, _, _, _, _, _, rfl, .inl ⟨_, rfl, mi'.doneA (by have h' : (ia + k == a.size) = true := h; simpa using h')⟩⟩) fun h' => ?_
          have e1 : ia + k + 1 ≠ a.size := fun e => h (by show (ia + k + 1 == a.size) = true; simp [e])
          have e2 : ia + k ≠ a.size := fun e => h' (by show (ia + k == a.size) = true; simp [e])
          exact half2 _ _ mi' (show ia + k + 1 < a.size by omega) (fun x hx => hhi k x (Nat.le_refl _) hx) (show j + 2 ≤ ia + k + ib by omega)
        intro out1 ia1 mi1' h1' hx' h3'
        refine wpS_bind (wpS_elemS hyb ?_)
        have mi2 := mi1'.pushB tr hyb hx'
        refine wpS_ite (fun h => wpS_pure ⟨sm4, some _, _, _, _, _, _, _, rfl, .inl ⟨_, rfl, mi2.doneB (by have h' : (ib + 1 == b.size) = true := h; simpa using h')⟩⟩) fun h => ?_
        have hne : ib + 1 ≠ b.size := fun e => h (by show (ib + 1 == b.size) = true; simp [e])
        obtain ⟨xa, hxa, mxa⟩ := getA ia1 (by omega)
        refine wpS_bind (wpS_elemS hxa (wpS_bind (gallopL_ok hlt tr hb (ha _ mxa) (by show kindOf st3 = _; rw [sm3.kind, hk]) (show ib + 1 + (b.size - (ib + 1)) ≤ b.size by omega) (fun i j x y hij hj hx hy => up_get ub (by ((try dsimp only) <;> omega)) hx hy) (show 0 < b.size - (ib + 1) by omega) fun k2 hk2 hlo2 hhi2 => ?_)))
        have hk2 : k2 ≤ b.size - (ib + 1) := hk2
        have hhi2 : ∀ i y, k2 ≤ i → b[ib + 1 + i]? = some y → L xa y = true := fun i y hi hy => by
          rw [tot xa mxa y (Array.mem_toList_iff.mpr (Array.mem_of_getElem? hy)), hhi2 i y hi (show i < b.size - (ib + 1) by have := (Array.getElem?_eq_some_iff.mp hy).1; omega) hy]; rfl
        dsimp -zeta only
        extract_lets -merge w1 w0 w2 w3 w4
        suffices half3 : ∀ out2 ib3, MIa L a b out2 ia1 ib3 → ib3 < b.size → (∀ y, b[ib3]? = some y → L xa y = true) → j + 2 ≤ ia1 + ib3 → wpS M A E s (w2 () out2 ib3) _ _ from by
          refine wpS_ite (fun hk0 => ?_) fun hk0 => half3 _ (ib + 1) mi2 (by omega) (fun y hy => hhi2 0 y (by omega) (by simpa using hy)) (by omega)
          have mi' := mi2.runB tr (k := k2) (fun i hi y hy x hx => by rw [hxa] at hx; cases hx; exact hlo2 i y hi hy)
          refine wpS_ite (fun h => wpS_pure ⟨sm4, some _, _, _, _, _, _, _, rfl, .inl ⟨_, rfl, mi'.doneB (by have h' : (ib + 1 + k2 == b.size) = true := h; simpa using h')⟩⟩) fun h => ?_
          have e1 : ib + 1 + k2 ≠ b.size := fun e => h (by show (ib + 1 + k2 == b.size) = true; simp [e])
          exact half3 _ _ mi' (show ib + 1 + k2 < b.size by omega) (fun y hy => hhi2 k2 y (Nat.le_refl _) hy) (show j + 2 ≤ ia1 + (ib + 1 + k2) by omega)
        intro out2 ib3 mi3 h2' hy' h4'
        refine wpS_bind (wpS_elemS hxa ?_)
        have mi4 := mi3.pushA tr hxa hy'
        refine wpS_ite (fun h => wpS_pure ⟨sm4, some _, _, _, _, _, _, _, rfl, .inl ⟨_, rfl, mi4.last (by have h' : (ia1 + 1 + 1 == a.size) = true := h; simpa using h') hl⟩⟩) fun h => ?_
        have hne2 : ia1 + 1 + 1 ≠ a.size := fun e => h (by show (ia1 + 1 + 1 == a.size) = true; simp [e])
        exact wpS_ite (fun _ => wpS_pure ⟨sm4, none, _, _, _, _, _, _, rfl, .inr ⟨rfl, mi4, by ((try dsimp only) <;> omega), h2', by ((try dsimp only) <;> omega)⟩⟩) fun _ => wpS_pure ⟨sm4, _, _, _, _, _, _, rfl, mi4, by ((try dsimp only) <;> omega), h2', by ((try dsimp only) <;> omega)⟩
end
end L2

set_option Elab.async false
set_option linter.all false
set_option maxRecDepth 100000
set_option maxHeartbeats 4000000
namespace L2
open PySem PySem.Spec PyProof.Rows
theorem finM_rev {L : Keyed → Keyed → Bool} {T l : List Keyed} (h : FinM (fun x y => L y x) T l) : FinM L T l.reverse := ⟨List.pairwise_reverse.mpr h.1, (List.reverse_perm l).trans h.2⟩
section
variable {L : Keyed → Keyed → Bool} {a b : Array Keyed}
abbrev MJa (L : Keyed → Keyed → Bool) (a b : Array Keyed) (out : Array Keyed) (na nb : Nat) : Prop := MI (fun x y => L y x) (a.toList ++ b.toList) out.toList (a.toList.take na).reverse (b.toList.take nb).reverse
theorem ext_to (a : Array Keyed) (n : Nat) : (a.extract 0 n).toList = a.toList.take n := by
  rw [Array.toList_extract, List.extract_eq_take_drop, List.drop_zero, Nat.sub_zero]
theorem ext_mid (a : Array Keyed) (i n : Nat) : (a.extract i n).toList = (a.toList.drop i).take (n - i) := by
  rw [Array.toList_extract, List.extract_eq_take_drop]
variable {out : Array Keyed} {na nb : Nat}
theorem MJa.doneA (h : MJa L a b out na nb) (e : na = 0) : FinA L a b (a.extract 0 na ++ b.extract 0 nb ++ out.reverse) := by
  have := finM_rev (MI.fin1 h fun x hx => by subst e; simp at hx)
  subst e
  show FinM _ _ _
  rw [Array.toList_append, Array.toList_append, ext_to, ext_to, Array.toList_reverse]
  simpa using this
theorem MJa.doneB (h : MJa L a b out na nb) (e : nb = 0) : FinA L a b (a.extract 0 na ++ b.extract 0 nb ++ out.reverse) := by
  have := finM_rev (MI.fin1 h fun x _ y hy => by subst e; simp at hy)
  subst e
  show FinM _ _ _
  rw [Array.toList_append, Array.toList_append, ext_to, ext_to, Array.toList_reverse]
  simpa using this
theorem MJa.first (h : MJa L a b out na nb) (e : nb = 1) (hf : ∀ y, b[0]? = some y → ∀ x ∈ a.toList, L y x = true) : FinA L a b (b.extract 0 nb ++ a.extract 0 na ++ out.reverse) := by
  have := finM_rev (MI.fin1 h fun x hx y hy => by
    subst e
    rw [List.mem_reverse] at hx hy
    have hx := List.mem_of_mem_take hx
    refine hf y ?_ x hx
    obtain ⟨i, hi, ei⟩ := List.mem_iff_getElem.mp hy
    rw [List.length_take] at hi
    have : i = 0 := by omega
    subst this
    rw [← ei, List.getElem_take]
    simp)
  show FinM _ _ _
  rw [Array.toList_append, Array.toList_append, ext_to, ext_to, Array.toList_reverse]
  simpa using this
/-- all that stands ahead of the last is less -/
theorem up_last (tr : ∀ x y z, L x y = true → L y z = true → L x z = true) {l : Array Keyed} {n : Nat} {x : Keyed} (h : Up L l.toList) (hn : n ≤ l.size) (hh : ∀ y, l[n - 1]? = some y → L y x = true) : ∀ y ∈ (l.toList.take n).reverse, L y x = true := fun y hy => by
  rw [List.mem_reverse] at hy
  obtain ⟨i, hi, e⟩ := List.mem_iff_getElem.mp hy
  rw [List.length_take, Array.length_toList] at hi
  rw [List.getElem_take] at e
  have hi1 : i < l.size := by omega
  have hy' : l[i]? = some y := by rw [Array.getElem?_eq_getElem hi1, ← e]; simp
  by_cases hl : n - 1 < l.size
  · have h1 := hh _ (Array.getElem?_eq_getElem hl)
    by_cases q : i = n - 1
    · subst q; rw [Array.getElem?_eq_getElem hl] at hy'; cases hy'; exact h1
    · exact tr _ _ _ (up_get h (by omega) hy' (Array.getElem?_eq_getElem hl)) h1
  · omega
theorem take_rev1 {l : Array Keyed} {n : Nat} {x : Keyed} (h1 : 1 ≤ n) (hx : l[n - 1]? = some x) : (l.toList.take n).reverse = x :: (l.toList.take (n - 1)).reverse := by
  obtain ⟨hi, e⟩ := Array.getElem?_eq_some_iff.mp hx
  have : l.toList.take n = l.toList.take (n - 1) ++ [x] := by
    obtain ⟨m, rfl⟩ : ∃ m, n = m + 1 := ⟨n - 1, by omega⟩
    rw [List.take_succ_eq_append_getElem (by simpa using hi)]
    simp only [Nat.add_sub_cancel] at e ⊢
    rw [← e]; simp
  rw [this, List.reverse_append]; rfl
theorem take_revN {l : Array Keyed} {n k : Nat} (h : k ≤ n) (hn : n ≤ l.size) : (l.toList.take n).reverse.take (n - k) = (l.extract k n).toList.reverse ∧ (l.toList.take n).reverse.drop (n - k) = (l.toList.take k).reverse := by
  have e : l.toList.take n = l.toList.take k ++ (l.extract k n).toList := by
    rw [ext_mid, ← List.take_add]; congr 1; omega
  have e2 : (l.extract k n).toList.reverse.length = n - k := by simp; omega
  rw [e, List.reverse_append, ← e2]
  simp
theorem MJa.pushA (tr : ∀ x y z, L x y = true → L y z = true → L x z = true) (ub : Up L b.toList) (hnb : nb ≤ b.size) {x : Keyed} (h : MJa L a b out na nb) (h1 : 1 ≤ na) (hx : a[na - 1]? = some x) (hh : ∀ y, b[nb - 1]? = some y → L y x = true) : MJa L a b (out.push x) (na - 1) nb := by
  have e := take_rev1 h1 hx
  have := MI.takeA h 1 (fun z hz y hy => by rw [e] at hz; rw [show z = x by simpa using hz]; exact up_last tr ub hnb hh y hy)
  rw [e] at this
  show MI _ _ _ _ _
  rw [Array.toList_push]
  exact this
theorem MJa.pushB (tr : ∀ x y z, L x y = true → L y z = true → L x z = true) (ua : Up L a.toList) (hna : na ≤ a.size) {y : Keyed} (h : MJa L a b out na nb) (h1 : 1 ≤ nb) (hy : b[nb - 1]? = some y) (hh : ∀ x, a[na - 1]? = some x → L x y = true) : MJa L a b (out.push y) na (nb - 1) := by
  have e := take_rev1 h1 hy
  have := MI.takeA (MI.swap h) 1 (fun z hz x hx => by rw [e] at hz; rw [show z = y by simpa using hz]; exact up_last tr ua hna hh x hx)
  rw [e] at this
  show MI _ _ _ _ _
  rw [Array.toList_push]
  exact this.swap
theorem MJa.runA (tr : ∀ x y z, L x y = true → L y z = true → L x z = true) (ub : Up L b.toList) (hnb : nb ≤ b.size) {k : Nat} (h : MJa L a b out na nb) (hk : k ≤ na) (hn : na ≤ a.size) (hh : ∀ i x, k ≤ i → i < na → a[i]? = some x → ∀ y, b[nb - 1]? = some y → L y x = true) : MJa L a b (out ++ (a.extract k na).reverse) k nb := by
  obtain ⟨e1, e2⟩ := take_revN hk hn
  have := MI.takeA h (na - k) (fun z hz y hy => by
    rw [e1, List.mem_reverse] at hz
    obtain ⟨i, hi, e⟩ := List.mem_iff_getElem.mp hz
    have hi' : i < na - k := by simp at hi; omega
    have hz' : a[k + i]? = some z := by rw [Array.getElem?_eq_getElem (by omega), ← e]; simp
    exact up_last tr ub hnb (fun y hy => hh (k + i) z (by omega) (by omega) hz' y hy) y hy)
  rw [e1, e2] at this
  show MI _ _ _ _ _
  rw [Array.toList_append, Array.toList_reverse]
  exact this
theorem MJa.runB (tr : ∀ x y z, L x y = true → L y z = true → L x z = true) (ua : Up L a.toList) (hna : na ≤ a.size) {k : Nat} (h : MJa L a b out na nb) (hk : k ≤ nb) (hn : nb ≤ b.size) (hh : ∀ i y, k ≤ i → i < nb → b[i]? = some y → ∀ x, a[na - 1]? = some x → L x y = true) : MJa L a b (out ++ (b.extract k nb).reverse) na k := by
  obtain ⟨e1, e2⟩ := take_revN hk hn
  have := MI.takeA (MI.swap h) (nb - k) (fun z hz y hy => by
    rw [e1, List.mem_reverse] at hz
    obtain ⟨i, hi, e⟩ := List.mem_iff_getElem.mp hz
    have hi' : i < nb - k := by simp at hi; omega
    have hz' : b[k + i]? = some z := by rw [Array.getElem?_eq_getElem (by omega), ← e]; simp
    exact up_last tr ua hna (fun y hy => hh (k + i) z (by omega) (by omega) hz' y hy) y hy)
  rw [e1, e2] at this
  show MI _ _ _ _ _
  rw [Array.toList_append, Array.toList_reverse]
  exact this.swap
end
section
variable {M : Model} {A : Around} {E : Value → Shared → Prop} {s : Shared} {L : Keyed → Keyed → Bool} {S : Keyed → Prop}
theorem mergeHi_ok (hlt : LtOk M A E s L S) (tr : ∀ x y z, L x y = true → L y z = true → L x z = true) {a b : Array Keyed} (ha : ∀ x ∈ a.toList, S x) (hb : ∀ x ∈ b.toList, S x) (tot : ∀ x ∈ a.toList, ∀ y ∈ b.toList, L x y = !L y x) (ua : Up L a.toList) (ub : Up L b.toList) (a1 : 1 ≤ a.size) (b1 : 1 ≤ b.size)
    (hf : ∀ y, b[0]? = some y → ∀ x ∈ a.toList, L y x = true) (hl : ∀ x, a[a.size - 1]? = some x → ∀ y ∈ b.toList, L y x = true) {st : SortSt} {Q : Array Keyed → SortSt → Prop} (hk : kindOf st = oneType') (q : ∀ out st', SameS st st' → FinA L a b out → Q out st') : wpS M A E s (mergeHiS a b) Q st := by
  have getA : ∀ i, i < a.size → ∃ x, a[i]? = some x ∧ x ∈ a.toList := fun i hi => ⟨a[i], Array.getElem?_eq_getElem hi, by simp⟩
  have getB : ∀ i, i < b.size → ∃ x, b[i]? = some x ∧ x ∈ b.toList := fun i hi => ⟨b[i], Array.getElem?_eq_getElem hi, by simp⟩
  obtain ⟨x0, hx0, mx0⟩ := getA (a.size - 1) (by omega)
  have mj0 : MJa L a b #[] a.size b.size := ⟨by
    rw [List.take_of_length_le (by simp), List.take_of_length_le (by simp)]
    simpa using (List.reverse_perm a.toList).append (List.reverse_perm b.toList), List.Pairwise.nil, fun o ho => by simp at ho, fun o ho => by simp at ho, by rw [List.take_of_length_le (by simp)]; exact List.pairwise_reverse.mpr ua, by rw [List.take_of_length_le (by simp)]; exact List.pairwise_reverse.mpr ub⟩
  have mj1 : MJa L a b #[x0] (a.size - 1) b.size := mj0.pushA tr ub (Nat.le_refl _) a1 hx0 fun y hy => hl x0 hx0 y (Array.mem_toList_iff.mpr (Array.mem_of_getElem? hy))
  unfold mergeHiS
  refine wpS_bind (wpS_lift (wpAny_rule ⟨rfl, ?_⟩))
  refine wpS_bind (wpS_elemS hx0 ?_)
  refine wpS_ite (fun h => wpS_pure (q _ st (SameS.rfl' _) (mj1.doneA (by simpa using h)))) fun ha1 => wpS_ite (fun h => wpS_pure (q _ st (SameS.rfl' _) (mj1.first (by simpa using h) hf))) fun hb1 => wpS_bind (wpS_get ?_)
  have hb1 : b.size ≠ 1 := by simpa using hb1
  have ha1 : a.size - 1 ≠ 0 := by simpa using ha1
  refine wpS_bind (wpS_mono (wpS_forRange (I := fun j c st' => SameS st st' ∧ ∃ na nb out g, c = (none, na, nb, out, g) ∧ MJa L a b out na nb ∧ 1 ≤ na ∧ na ≤ a.size ∧ 2 ≤ nb ∧ nb ≤ b.size ∧ na + nb + j + 1 ≤ a.size + b.size)
    (Q := fun c st' => SameS st st' ∧ ∃ r na nb out g, c = (some r, na, nb, out, g) ∧ FinA L a b r) ?step ?fin ⟨SameS.rfl' _, _, _, _, _, rfl, mj1, by ((try dsimp only) <;> omega), by ((try dsimp only) <;> omega), by ((try dsimp only) <;> omega), by ((try dsimp only) <;> omega), by ((try dsimp only) <;> omega)⟩) ?post)
  case fin =>
    rintro c st' ⟨sm, na, nb, out, g, rfl, mi, h1, h2, h3, h4, h5⟩
    omega
  case post =>
    rintro c st' ⟨sm, r, na, nb, out, g, rfl, fr⟩
    exact wpS_pure (q r st' sm fr)
  case step =>
    rintro j c st' _ hj ⟨sm, na, nb, out, g, rfl, mi, h1, h2, h3, h4, h5⟩
    refine wpS_bind (wpS_mono (wpS_forRange (I := fun i c st2 => SameS st st2 ∧ ∃ na nb out x y, c = (none, na, nb, out, x, y) ∧ MJa L a b out na nb ∧ 1 ≤ na ∧ na ≤ a.size ∧ 2 ≤ nb ∧ nb ≤ b.size ∧ na + nb + j + 1 + i ≤ a.size + b.size)
      (Q := fun c st2 => SameS st st2 ∧ ∃ o na nb out x y, c = (o, na, nb, out, x, y) ∧ ((∃ r, o = some r ∧ FinA L a b r) ∨ (o = none ∧ MJa L a b out na nb ∧ 1 ≤ na ∧ na ≤ a.size ∧ 2 ≤ nb ∧ nb ≤ b.size ∧ na + nb + j + 2 ≤ a.size + b.size))) ?s1 ?f1 ⟨sm, na, nb, out, 0, 0, rfl, mi, h1, h2, h3, h4, by ((try dsimp only) <;> omega)⟩) ?p1)
    case f1 =>
      rintro c st2 ⟨sm2, na, nb, out, x, y, rfl, mi, h1, h2, h3, h4, h5⟩
      exact ⟨sm2, none, _, _, _, _, _, rfl, .inr ⟨rfl, mi, h1, h2, h3, h4, by ((try dsimp only) <;> omega)⟩⟩
    case s1 =>
      rintro i c st2 _ hi ⟨sm2, na, nb, out, x, y, rfl, mi, h1, h2, h3, h4, h5⟩
      obtain ⟨yb, hyb, myb⟩ := getB (nb - 1) (by omega)
      obtain ⟨xa, hxa, mxa⟩ := getA (na - 1) (by omega)
      refine wpS_bind (wpS_elemS hyb (wpS_bind (wpS_elemS hxa (wpS_bind (hlt yb xa st2 _ (hb _ myb) (ha _ mxa) (by rw [sm2.kind, hk]) ?_)))))
      cases hw : L yb xa with
      | true =>
        refine wpS_ite (fun _ => wpS_bind (wpS_elemS hxa ?_)) (fun h => absurd rfl h)
        have mi' := mi.pushA tr ub h4 h1 hxa (fun y hy => by rw [hyb] at hy; cases hy; exact hw)
        refine wpS_ite (fun h => wpS_pure ⟨sm2, some _, _, _, _, _, _, rfl, .inl ⟨_, rfl, mi'.doneA (by have h' : (na - 1 == 0) = true := h; simpa using h')⟩⟩) fun h => ?_
        have hne : na - 1 ≠ 0 := fun e => h (by show (na - 1 == 0) = true; simp [e])
        exact wpS_ite (fun _ => wpS_pure ⟨sm2, none, _, _, _, _, _, rfl, .inr ⟨rfl, mi', by ((try dsimp only) <;> omega), by ((try dsimp only) <;> omega), h3, h4, by ((try dsimp only) <;> omega)⟩⟩) fun _ => wpS_pure ⟨sm2, _, _, _, _, _, rfl, mi', by ((try dsimp only) <;> omega), by ((try dsimp only) <;> omega), h3, h4, by ((try dsimp only) <;> omega)⟩
      | false =>
        refine wpS_ite (fun h => by cases h) (fun _ => wpS_bind (wpS_elemS hyb ?_))
        have hw' : L xa yb = true := by rw [tot xa mxa yb myb, hw]; rfl
        have mi' := mi.pushB tr ua h2 (by omega) hyb (fun x hx => by rw [hxa] at hx; cases hx; exact hw')
        refine wpS_ite (fun h => wpS_pure ⟨sm2, some _, _, _, _, _, _, rfl, .inl ⟨_, rfl, mi'.first (by have h' : (nb - 1 == 1) = true := h; simpa using h') hf⟩⟩) fun h => ?_
        have hne : nb - 1 ≠ 1 := fun e => h (by show (nb - 1 == 1) = true; simp [e])
        exact wpS_ite (fun _ => wpS_pure ⟨sm2, none, _, _, _, _, _, rfl, .inr ⟨rfl, mi', h1, h2, by ((try dsimp only) <;> omega), by ((try dsimp only) <;> omega), by ((try dsimp only) <;> omega)⟩⟩) fun _ => wpS_pure ⟨sm2, _, _, _, _, _, rfl, mi', h1, h2, by ((try dsimp only) <;> omega), by ((try dsimp only) <;> omega), by ((try dsimp only) <;> omega)⟩
    case p1 =>
      rintro c st2 ⟨sm2, o, na, nb, out, x, y, rfl, hc⟩
      rcases hc with ⟨r, rfl, fr⟩ | ⟨rfl, mi, h1, h2, h3, h4, h5⟩
      · exact wpS_pure ⟨sm2, r, _, _, _, _, rfl, fr⟩
      refine wpS_bind (wpS_lift (wpAny_rule ⟨rfl, ?_⟩))
      refine wpS_bind (wpS_mono (wpS_forRange (I := fun _ c st3 => SameS st st3 ∧ ∃ na nb out g x y, c = (none, na, nb, out, g, x, y) ∧ MJa L a b out na nb ∧ 1 ≤ na ∧ na ≤ a.size ∧ 2 ≤ nb ∧ nb ≤ b.size ∧ na + nb + j + 2 ≤ a.size + b.size)
        (Q := fun c st3 => SameS st st3 ∧ ∃ o na nb out g x y, c = (o, na, nb, out, g, x, y) ∧ ((∃ r, o = some r ∧ FinA L a b r) ∨ (o = none ∧ MJa L a b out na nb ∧ 1 ≤ na ∧ na ≤ a.size ∧ 2 ≤ nb ∧ nb ≤ b.size ∧ na + nb + j + 2 ≤ a.size + b.size))) ?s2 ?f2 ⟨sm2, na, nb, out, _, _, _, rfl, mi, h1, h2, h3, h4, h5⟩) ?p2)
      case f2 =>
        rintro c st3 ⟨sm3, na, nb, out, g, x, y, rfl, hc⟩
        exact ⟨sm3, none, _, _, _, _, _, _, rfl, .inr ⟨rfl, hc⟩⟩
      case p2 =>
        rintro c st3 ⟨sm3, o, na, nb, out, g, x, y, rfl, hc⟩
        rcases hc with ⟨r, rfl, fr⟩ | ⟨rfl, mi, h1, h2, h3, h4, h5⟩
        · exact wpS_pure ⟨sm3, r, _, _, _, _, rfl, fr⟩
        · refine wpS_bind (wpS_modify ?_)
          exact wpS_pure ⟨⟨sm3.kind, sm3.arr, sm3.pend, sm3.fail⟩, na, nb, out, _, rfl, mi, h1, h2, h3, h4, by ((try dsimp only) <;> omega)⟩
      case s2 =>
        rintro i c st3 _ hi ⟨sm3, na, nb, out, g, x, y, rfl, mi, h1, h2, h3, h4, h5⟩
        dsimp -zeta only
        extract_lets -merge s1 i1 s2 i2 s3 o1 s4 g4 s5 ac bc nb2 jp g5
        suffices hjp : ∀ g, wpS M A E s (jp () g) _ st3 from wpS_ite (fun _ => hjp _) fun _ => hjp _
        intro g
        refine wpS_bind (wpS_modify ?_)
        have sm4 : SameS st (SortSt.mk' (kindOf st3) (arrOf st3) (pendingOf st3) g (failedOf st3)) := ⟨sm3.kind, sm3.arr, sm3.pend, sm3.fail⟩
        obtain ⟨yb, hyb, myb⟩ := getB (nb - 1) (by omega)
        refine wpS_bind (wpS_elemS hyb (wpS_bind (gallopR_ok hlt tr ha (hb _ myb) (by show kindOf st3 = _; rw [sm3.kind, hk]) (show 0 + na ≤ a.size by omega) (fun i j x y hij hj hx hy => up_get ua (by ((try dsimp only) <;> omega)) hx hy) (show na - 1 < na by omega) fun k hk1 hlo hhi => ?_)))
        have hk1 : k ≤ na := hk1
        have hlo : ∀ i x, i < k → a[i]? = some x → L x yb = true := fun i x hi hx => by
          rw [tot x (Array.mem_toList_iff.mpr (Array.mem_of_getElem? hx)) yb myb, hlo i x hi (by rw [Nat.zero_add]; exact hx)]; rfl
        have hhi : ∀ i x, k ≤ i → i < na → a[i]? = some x → L yb x = true := fun i x hi hi' hx => hhi i x hi hi' (by rw [Nat.zero_add]; exact hx)
        dsimp -zeta only
        extract_lets -merge u0 u1 u2 u3 u4
        suffices half2 : ∀ na1 out1, MJa L a b out1 na1 nb → 1 ≤ na1 → na1 ≤ a.size → (∀ x, a[na1 - 1]? = some x → L x yb = true) → na1 + nb + j + 2 ≤ a.size + b.size → wpS M A E s (u2 () na1 out1) _ _ from by
          refine wpS_ite (fun hk0 => ?_) fun hk0 => half2 na out mi h1 h2 (fun x hx => hlo (na - 1) x (by have h' : ¬ na - k > 0 := hk0; omega) hx) h5
          have hk0' : na - k > 0 := hk0
          have mi' := mi.runA tr ub h4 hk1 h2 (fun i x hi hi' hx y hy => by rw [hyb] at hy; cases hy; exact hhi i x hi hi' hx)
          refine wpS_ite (fun h => wpS_pure ⟨sm4, some _, _, _, _, _, _, _, rfl, .inl ⟨_, rfl, mi'.doneA (by have h' : (k == 0) = true := h; simpa using h')⟩⟩) fun h => ?_
          have e1 : k ≠ 0 := fun e => h (by show (k == 0) = true; simp [e])
          exact half2 k _ mi' (by omega) (by omega) (fun x hx => hlo (k - 1) x (by omega) hx) (by omega)
        intro na1 out1 mi1' h1' h2' hx' h5'
        refine wpS_bind (wpS_elemS hyb ?_)
        have mi2 := mi1'.pushB tr ua h2' (by omega) hyb hx'
        refine wpS_ite (fun h => wpS_pure ⟨sm4, some _, _, _, _, _, _, _, rfl, .inl ⟨_, rfl, mi2.first (by have h' : (nb - 1 == 1) = true := h; simpa using h') hf⟩⟩) fun h => ?_
        have hne : nb - 1 ≠ 1 := fun e => h (by show (nb - 1 == 1) = true; simp [e])
        obtain ⟨xa, hxa, mxa⟩ := getA (na1 - 1) (by omega)
        refine wpS_bind (wpS_elemS hxa (wpS_bind (gallopL_ok hlt tr hb (ha _ mxa) (by show kindOf st3 = _; rw [sm3.kind, hk]) (show 0 + (nb - 1) ≤ b.size by omega) (fun i j x y hij hj hx hy => up_get ub (by ((try dsimp only) <;> omega)) hx hy) (show nb - 1 - 1 < nb - 1 by omega) fun k2 hk2 hlo2 hhi2 => ?_)))
        have hk2 : k2 ≤ nb - 1 := hk2
        have hlo2 : ∀ i y, i < k2 → b[i]? = some y → L y xa = true := fun i y hi hy => hlo2 i y hi (by rw [Nat.zero_add]; exact hy)
        have hhi2 : ∀ i y, k2 ≤ i → i < nb - 1 → b[i]? = some y → L xa y = true := fun i y hi hi' hy => by
          rw [tot xa mxa y (Array.mem_toList_iff.mpr (Array.mem_of_getElem? hy)), hhi2 i y hi hi' (by rw [Nat.zero_add]; exact hy)]; rfl
        dsimp -zeta only
        extract_lets -merge w0 w1 wl w2 w3 w4
        suffices half3 : ∀ nb3 out2, MJa L a b out2 na1 nb3 → 2 ≤ nb3 → nb3 ≤ b.size → (∀ y, b[nb3 - 1]? = some y → L y xa = true) → na1 + nb3 + j + 2 ≤ a.size + b.size → wpS M A E s (w2 () nb3 out2) _ _ from by
          refine wpS_ite (fun hk0 => ?_) fun hk0 => half3 (nb - 1) _ mi2 (by omega) (by omega) (fun y hy => hlo2 (nb - 1 - 1) y (by have h' : ¬ nb - 1 - k2 > 0 := hk0; omega) hy) (by omega)
          have hk0' : nb - 1 - k2 > 0 := hk0
          have mi' := mi2.runB tr ua h2' hk2 (by omega) (fun i y hi hi' hy x hx => by rw [hxa] at hx; cases hx; exact hhi2 i y hi hi' hy)
          refine wpS_ite (fun h => wpS_pure ⟨sm4, some _, _, _, _, _, _, _, rfl, .inl ⟨_, rfl, mi'.first (by have h' : (k2 == 1) = true := h; simpa using h') hf⟩⟩) fun h => ?_
          refine wpS_ite (fun h => wpS_pure ⟨sm4, some _, _, _, _, _, _, _, rfl, .inl ⟨_, rfl, mi'.doneB (by have h' : (k2 == 0) = true := h; simpa using h')⟩⟩) fun h' => ?_
          have e1 : k2 ≠ 1 := fun e => h (by show (k2 == 1) = true; simp [e])
          have e2 : k2 ≠ 0 := fun e => h' (by show (k2 == 0) = true; simp [e])
          exact half3 k2 _ mi' (by omega) (by omega) (fun y hy => hlo2 (k2 - 1) y (by omega) hy) (by omega)
        intro nb3 out2 mi3 h3' h4' hy' h6'
        refine wpS_bind (wpS_elemS hxa ?_)
        have mi4 := mi3.pushA tr ub h4' h1' hxa hy'
        refine wpS_ite (fun h => wpS_pure ⟨sm4, some _, _, _, _, _, _, _, rfl, .inl ⟨_, rfl, mi4.doneA (by have h' : (na1 - 1 == 0) = true := h; simpa using h')⟩⟩) fun h => ?_
        have hne2 : na1 - 1 ≠ 0 := fun e => h (by show (na1 - 1 == 0) = true; simp [e])
        exact wpS_ite (fun _ => wpS_pure ⟨sm4, none, _, _, _, _, _, _, rfl, .inr ⟨rfl, mi4, show 1 ≤ na1 - 1 by omega, show na1 - 1 ≤ a.size by omega, h3', h4', show na1 - 1 + nb3 + j + 2 ≤ a.size + b.size by omega⟩⟩) fun _ => wpS_pure ⟨sm4, _, _, _, _, _, _, rfl, mi4, show 1 ≤ na1 - 1 by omega, show na1 - 1 ≤ a.size by omega, h3', h4', show na1 - 1 + nb3 + j + 2 ≤ a.size + b.size by omega⟩
end
end L2

set_option Elab.async false
set_option linter.all false
set_option maxRecDepth 100000
set_option maxHeartbeats 4000000
namespace L2
open PySem PySem.Spec PyProof.Rows
theorem nodup_get {l : List Keyed} (nd : l.Nodup) {i j : Nat} {x : Keyed} (hi : l[i]? = some x) (hj : l[j]? = some x) : i = j := by
  obtain ⟨h1, e1⟩ := List.getElem?_eq_some_iff.mp hi
  obtain ⟨h2, e2⟩ := List.getElem?_eq_some_iff.mp hj
  rcases Nat.lt_trichotomy i j with h | h | h
  · exact absurd (e1.trans e2.symm) (List.pairwise_iff_getElem.mp nd i j h1 h2 h)
  · exact h
  · exact absurd (e2.trans e1.symm) (List.pairwise_iff_getElem.mp nd j i h2 h1 h)
/-- rising between two places -/
def UpOn (L : Keyed → Keyed → Bool) (arr : Array Keyed) (i j : Nat) : Prop := ∀ p q x y, i ≤ p → p < q → q < j → arr[p]? = some x → arr[q]? = some y → L x y = true
/-- what a sort keeps -/
structure SB (a₀ : Array Keyed) (st : SortSt) : Prop where
  perm : (arrOf st).toList.Perm a₀.toList
  kind : kindOf st = oneType'
  failed : failedOf st = none
structure Lin (L : Keyed → Keyed → Bool) (a₀ : Array Keyed) : Prop where
  tr : ∀ x y z, L x y = true → L y z = true → L x z = true
  tot : ∀ x ∈ a₀.toList, ∀ y ∈ a₀.toList, x ≠ y → L x y = !L y x
  nd : a₀.toList.Nodup
section
variable {L : Keyed → Keyed → Bool} {a₀ : Array Keyed} {st : SortSt}
theorem SB.size (h : SB a₀ st) : (arrOf st).size = a₀.size := by have := h.perm.length_eq; simpa using this
theorem SB.mem (h : SB a₀ st) {i : Nat} {x : Keyed} (e : (arrOf st)[i]? = some x) : x ∈ a₀.toList := h.perm.mem_iff.mp (Array.mem_toList_iff.mpr (Array.mem_of_getElem? e))
theorem SB.get (h : SB a₀ st) {i : Nat} (hi : i < a₀.size) : ∃ x, (arrOf st)[i]? = some x ∧ x ∈ a₀.toList := by
  have e : (arrOf st)[i]? = some ((arrOf st)[i]'(by rw [h.size]; exact hi)) := Array.getElem?_eq_getElem _
  exact ⟨_, e, h.mem e⟩
theorem SB.ne (h : SB a₀ st) (l : Lin L a₀) {i j : Nat} {x y : Keyed} (hij : i ≠ j) (hx : (arrOf st)[i]? = some x) (hy : (arrOf st)[j]? = some y) : L x y = !L y x := by
  refine l.tot x (h.mem hx) y (h.mem hy) fun e => hij ?_
  subst e
  have nd : (arrOf st).toList.Nodup := h.perm.nodup_iff.mpr l.nd
  have hx' : (arrOf st).toList[i]? = some x := by simpa using hx
  have hy' : (arrOf st).toList[j]? = some x := by simpa using hy
  exact nodup_get nd hx' hy'
theorem SB.setArr (h : SB a₀ st) {xs : Array Keyed} (hp : xs.Perm (arrOf st)) : SB a₀ (setArr st xs) := ⟨(Array.perm_iff_toList_perm.mp hp).trans h.perm, h.kind, h.failed⟩
/-- one more at the end -/
theorem UpOn.more (l : Lin L a₀) {arr : Array Keyed} {i j : Nat} (h : UpOn L arr i j) (hij : i < j) (hj : ∀ x y, arr[j - 1]? = some x → arr[j]? = some y → L x y = true) (hs : j ≤ arr.size) : UpOn L arr i (j + 1) := fun p q x y h1 h2 h3 hx hy => by
  by_cases hq : q = j
  · subst hq
    have e : arr[q - 1]? = some arr[q - 1] := Array.getElem?_eq_getElem (by omega)
    have h0 := hj _ y e hy
    by_cases hp : p = q - 1
    · subst hp; rw [e] at hx; cases hx; exact h0
    · exact l.tr _ _ _ (h p (q - 1) x _ h1 (by omega) (by omega) hx e) h0
  · exact h p q x y h1 h2 (by omega) hx hy
end
section
variable {M : Model} {A : Around} {E : Value → Shared → Prop} {s : Shared} {L : Keyed → Keyed → Bool} {S : Keyed → Prop} {a₀ : Array Keyed}
theorem wpS_ltAtS (hlt : LtOk M A E s L S) (hS : ∀ x ∈ a₀.toList, S x) {st : SortSt} (B : SB a₀ st) {i j : Nat} {x y : Keyed} {Q : Option Bool → SortSt → Prop} (hi : (arrOf st)[i]? = some x) (hj : (arrOf st)[j]? = some y) (h : Q (some (L x y)) st) : wpS M A E s (ltAt' i j) Q st := by
  rw [ltAt'_eq]
  exact wpS_bind (wpS_get (wpS_bind (wpS_elemS hi (wpS_bind (wpS_elemS hj (hlt x y st Q (hS _ (B.mem hi)) (hS _ (B.mem hj)) B.kind h))))))
/-- a step that only rewrites the state -/
theorem wpS_step {m : SM Unit} {f : SortSt → SortSt} {st : SortSt} {Q : Unit → SortSt → Prop} (e : m = modify f) (h : Q () (f st)) : wpS M A E s m Q st := e ▸ wpS_modify h
/-- outside of a part all stays -/
def OutS (i j : Nat) (st st' : SortSt) : Prop := (∀ k, k < i ∨ j ≤ k → (arrOf st')[k]? = (arrOf st)[k]?) ∧ pendingOf st' = pendingOf st
theorem binarySort_ok (hlt : LtOk M A E s L S) (l : Lin L a₀) (hS : ∀ x ∈ a₀.toList, S x) {lo n ok : Nat} {st : SortSt} {Q : Bool → SortSt → Prop} (B : SB a₀ st) (hn : lo + n ≤ a₀.size) (hok : ok ≤ n) (up : UpOn L (arrOf st) lo (lo + ok))
    (q : ∀ st', SB a₀ st' → UpOn L (arrOf st') lo (lo + n) → OutS lo (lo + n) st st' → Q true st') : wpS M A E s (binarySort' lo n ok) Q st := by
  unfold binarySort'
  refine wpS_bind (wpS_mono (wpS_forRange (I := fun k c st' => c = (none, ()) ∧ SB a₀ st' ∧ UpOn L (arrOf st') lo (lo + min k n) ∧ OutS lo (lo + n) st st')
    (Q := fun c st' => c = (none, ()) ∧ SB a₀ st' ∧ UpOn L (arrOf st') lo (lo + n) ∧ OutS lo (lo + n) st st') ?step ?fin ⟨rfl, B, fun p q x y h1 h2 h3 hx hy => ?init, fun _ _ => rfl, rfl⟩) ?post)
  case init => exact up p q x y h1 h2 (by omega) hx hy
  case post =>
    rintro c st' ⟨rfl, B', u', o'⟩
    exact wpS_pure (q st' B' u' o')
  case fin =>
    rintro c st' ⟨rfl, B', u', o'⟩
    exact ⟨rfl, B', fun p q x y h1 h2 h3 hx hy => u' p q x y h1 h2 (by omega) hx hy, o'⟩
  case step =>
    rintro k c st' hk1 hk2 ⟨rfl, B', u', o'⟩
    have hk0 : 1 ≤ k := by omega
    rw [show min k n = k by omega] at u'
    obtain ⟨pv, hpv, mpv⟩ := B'.get (i := lo + k) (by omega)
    refine wpS_bind (wpS_mono (wpS_forRange (I := fun i c st2 => st2 = st' ∧ ∃ l r, c = (none, l, r) ∧ l ≤ r ∧ r ≤ k ∧ r - l ≤ k - i ∧ (∀ p x, p < l → (arrOf st')[lo + p]? = some x → L x pv = true) ∧ ∀ p x, r ≤ p → p < k → (arrOf st')[lo + p]? = some x → L pv x = true)
      (Q := fun c st2 => st2 = st' ∧ ∃ l, c = (none, l, l) ∧ l ≤ k ∧ (∀ p x, p < l → (arrOf st')[lo + p]? = some x → L x pv = true) ∧ ∀ p x, l ≤ p → p < k → (arrOf st')[lo + p]? = some x → L pv x = true) ?s1 ?f1 ⟨rfl, 0, k, rfl, by omega, by omega, by omega, fun p x h => absurd h (Nat.not_lt_zero _), fun p x h1 h2 => absurd h2 (by omega)⟩) ?p1)
    case f1 =>
      rintro c st2 ⟨rfl, l', r, rfl, h1, h2, h3, h4, h5⟩
      have : l' = r := by omega
      subst this
      exact ⟨rfl, l', rfl, h2, h4, h5⟩
    case s1 =>
      rintro i c st2 _ hi ⟨rfl, l', r, rfl, h1, h2, h3, h4, h5⟩
      refine wpS_ite (fun h => ?_) fun h => ?_
      · have h : l' ≥ r := h
        have : l' = r := by omega
        subst this
        exact wpS_pure ⟨rfl, l', rfl, h2, h4, h5⟩
      · have h : ¬ l' ≥ r := h
        obtain ⟨mv, hmv, mmv⟩ := B'.get (i := lo + (l' + r) / 2) (by omega)
        refine wpS_bind (wpS_ltAtS hlt hS B' hpv hmv ?_)
        cases hw : L pv mv with
        | true =>
          refine wpS_ite (fun _ => wpS_pure ⟨rfl, l', (l' + r) / 2, rfl, by ((try dsimp only) <;> omega), by ((try dsimp only) <;> omega), by ((try dsimp only) <;> omega), h4, fun p x hp1 hp2 hx => ?_⟩) fun h => absurd rfl h
          by_cases e : p = (l' + r) / 2
          · subst e; rw [hmv] at hx; cases hx; exact hw
          · exact l.tr _ _ _ hw (u' (lo + (l' + r) / 2) (lo + p) mv x (by omega) (by omega) (by omega) hmv hx)
        | false =>
          have hw' : L mv pv = true := by rw [B'.ne l (show lo + (l' + r) / 2 ≠ lo + k by omega) hmv hpv, hw]; rfl
          refine wpS_ite (fun h => by cases h) fun _ => wpS_pure ⟨rfl, (l' + r) / 2 + 1, r, rfl, by ((try dsimp only) <;> omega), by ((try dsimp only) <;> omega), by ((try dsimp only) <;> omega), fun p x hp1 hx => ?_, h5⟩
          by_cases e : p = (l' + r) / 2
          · subst e; rw [hmv] at hx; cases hx; exact hw'
          · exact l.tr _ _ _ (u' (lo + p) (lo + (l' + r) / 2) x mv (by omega) (by omega) (by omega) hx hmv) hw'
    case p1 =>
      rintro c st2 ⟨rfl, l', rfl, h2, h4, h5⟩
      refine wpS_bind (wpS_step (moveDown'_eq ..) ?_)
      have hsz := B'.size
      have gb : ∀ p, (bubble (arrOf st2) (lo + k) (lo + k - (lo + l')))[p]? = if p = lo + l' then (arrOf st2)[lo + k]? else if lo + l' < p ∧ p ≤ lo + k then (arrOf st2)[p - 1]? else (arrOf st2)[p]? := fun p => by
        rw [getElem?_bubble (by omega) _ (by omega), show lo + k - (lo + k - (lo + l')) = lo + l' by omega]
      refine wpS_pure ⟨rfl, B'.setArr (bubble_perm _ _ _), fun p q x y q1 q2 q3 hx hy => ?_, fun p hp => ?_, o'.2⟩
      · have hx : (bubble (arrOf st2) (lo + k) (lo + k - (lo + l')))[p]? = some x := hx
        have hy : (bubble (arrOf st2) (lo + k) (lo + k - (lo + l')))[q]? = some y := hy
        have q3 : q < lo + (k + 1) := by omega
        rw [gb] at hx hy
        by_cases c1 : p = lo + l'
        · rw [if_pos c1, hpv] at hx
          cases hx
          rw [if_neg (by omega), if_pos (by omega)] at hy
          exact h5 (q - 1 - lo) y (by omega) (by omega) (by rw [show lo + (q - 1 - lo) = q - 1 by omega]; exact hy)
        · rw [if_neg c1] at hx
          by_cases c2 : q = lo + l'
          · rw [if_pos c2, hpv] at hy
            cases hy
            rw [if_neg (by omega)] at hx
            exact h4 (p - lo) x (by omega) (by rw [show lo + (p - lo) = p by omega]; exact hx)
          · rw [if_neg c2] at hy
            by_cases c3 : lo + l' < p ∧ p ≤ lo + k
            · rw [if_pos c3] at hx
              rw [if_pos (by omega)] at hy
              exact u' (p - 1) (q - 1) x y (by omega) (by omega) (by omega) hx hy
            · rw [if_neg c3] at hx
              by_cases c4 : lo + l' < q ∧ q ≤ lo + k
              · rw [if_pos c4] at hy
                exact u' p (q - 1) x y (by omega) (by omega) (by omega) hx hy
              · rw [if_neg c4] at hy
                exact u' p q x y (by omega) (by omega) (by omega) hx hy
      · show (bubble (arrOf st2) (lo + k) (lo + k - (lo + l')))[p]? = _
        rw [gb, if_neg (by omega), if_neg (by omega)]
        exact o'.1 p hp
end
end L2

set_option Elab.async false
set_option linter.all false
set_option maxRecDepth 100000
set_option maxHeartbeats 4000000
namespace L2
open PySem PySem.Spec PyProof.Rows
section
variable {M : Model} {A : Around} {E : Value → Shared → Prop} {s : Shared} {L : Keyed → Keyed → Bool} {S : Keyed → Prop} {a₀ : Array Keyed}
/-- falling between two places -/
def DownOn (L : Keyed → Keyed → Bool) (arr : Array Keyed) (i j : Nat) : Prop := ∀ p q x y, i ≤ p → p < q → q < j → arr[p]? = some x → arr[q]? = some y → L y x = true
theorem DownOn.more (l : Lin L a₀) {arr : Array Keyed} {i j : Nat} (h : DownOn L arr i j) (hij : i < j) (hj : ∀ x y, arr[j - 1]? = some x → arr[j]? = some y → L y x = true) (hs : j ≤ arr.size) : DownOn L arr i (j + 1) := fun p q x y h1 h2 h3 hx hy => by
  by_cases hq : q = j
  · subst hq
    have e : arr[q - 1]? = some arr[q - 1] := Array.getElem?_eq_getElem (by omega)
    have h0 := hj _ y e hy
    by_cases hp : p = q - 1
    · subst hp; rw [e] at hx; cases hx; exact h0
    · exact l.tr _ _ _ h0 (h p (q - 1) x _ h1 (by omega) (by omega) hx e)
  · exact h p q x y h1 h2 (by omega) hx hy
theorem countRun_ok (hlt : LtOk M A E s L S) (l : Lin L a₀) (hS : ∀ x ∈ a₀.toList, S x) {lo nrem : Nat} {st : SortSt} {Q : Option Nat → SortSt → Prop} (B : SB a₀ st) (hn : lo + nrem ≤ a₀.size) (h1 : 1 ≤ nrem)
    (q : ∀ n st', 1 ≤ n → n ≤ nrem → SB a₀ st' → UpOn L (arrOf st') lo (lo + n) → OutS lo (lo + nrem) st st' → Q (some n) st') : wpS M A E s (countRun' lo nrem) Q st := by
  have asc : ∀ {n0 : Nat} {st' : SortSt} {Q : Option (Option Nat) × Nat → SortSt → Prop} {f : Nat → Option (Option Nat) × Nat → SM (ForInStep (Option (Option Nat) × Nat))}, 1 ≤ n0 → n0 ≤ nrem → SB a₀ st' → UpOn L (arrOf st') lo (lo + n0) →
      (∀ i n (R : ForInStep (Option (Option Nat) × Nat) → SortSt → Prop) x y, (arrOf st')[lo + n]? = some x → (arrOf st')[lo + n - 1]? = some y → (L x y = true → R (.done (none, n)) st') → (L x y = false → R (.yield (none, n + 1)) st') → wpS M A E s (f i (none, n)) R st') →
      (∀ n, 1 ≤ n → n0 ≤ n → n ≤ nrem → UpOn L (arrOf st') lo (lo + n) → (n = nrem ∨ ∀ x y, (arrOf st')[lo + n - 1]? = some x → (arrOf st')[lo + n]? = some y → L y x = true) → Q (none, n) st') → wpS M A E s (forIn [n0:nrem] (none, n0) f) Q st' := fun {n0 st' Q f} g1 g2 B' u' hf hq => by
    refine wpS_forRange (I := fun i c st2 => st2 = st' ∧ c = (none, i) ∧ UpOn L (arrOf st') lo (lo + i)) ?step ?fin ⟨rfl, rfl, u'⟩
    case fin =>
      rintro c st2 ⟨rfl, rfl, u2⟩
      rw [show max n0 nrem = nrem by omega] at u2 ⊢
      exact hq nrem h1 g2 (Nat.le_refl _) u2 (.inl rfl)
    case step =>
      rintro i c st2 hi1 hi2 ⟨rfl, rfl, u2⟩
      obtain ⟨x, hx, _⟩ := B'.get (i := lo + i) (by omega)
      obtain ⟨y, hy, _⟩ := B'.get (i := lo + i - 1) (by omega)
      refine hf i i _ x y hx hy (fun hw => hq i (by omega) (by omega) (by omega) u2 (.inr fun x' y' hx' hy' => ?_)) fun hw => ⟨rfl, rfl, UpOn.more (j := lo + i) l u2 (by omega) (fun x' y' hx' hy' => ?_) (by rw [B'.size]; omega)⟩
      · rw [hy] at hx'; rw [hx] at hy'; cases hx'; cases hy'; exact hw
      · rw [hy] at hx'; rw [hx] at hy'; cases hx'; cases hy'
        rw [B'.ne l (show lo + i - 1 ≠ lo + i by omega) hy hx, hw]; rfl
  unfold countRun'
  refine wpS_bind (asc (Nat.le_refl 1) h1 B (fun p q x y a1 a2 a3 => by omega) (fun i n R x y hx hy r1 r2 => ?_) fun n n1 n2 n3 u hn' => ?_)
  · refine wpS_bind (wpS_ltAtS hlt hS B hx hy ?_)
    cases hw : L x y with
    | true => exact wpS_ite (fun _ => wpS_pure (r1 hw)) fun h => absurd rfl h
    | false => exact wpS_ite (fun h => by cases h) fun _ => wpS_pure (r2 hw)
  · refine wpS_ite (fun h => wpS_pure (q n st n1 n3 B u ⟨fun _ _ => rfl, rfl⟩)) fun h => ?_
    have hne : n ≠ nrem := by simpa using h
    have hd := hn'.resolve_left hne
    refine wpS_ite (fun h2 => ?_) fun h2 => ?_
    · have h2 : n > 1 := h2
      obtain ⟨x, hx, _⟩ := B.get (i := lo) (by omega)
      obtain ⟨y, hy, _⟩ := B.get (i := lo + n - 1) (by omega)
      refine wpS_bind (wpS_ltAtS hlt hS B hx hy ?_)
      rw [u lo (lo + n - 1) x y (Nat.le_refl _) (by omega) (by omega) hx hy]
      exact wpS_ite (fun _ => wpS_pure (q n st n1 n3 B u ⟨fun _ _ => rfl, rfl⟩)) fun h => absurd rfl h
    · have h2 : ¬ n > 1 := h2
      have e1 : n = 1 := by omega
      subst e1
      refine wpS_bind (wpS_lift (wpAny_rule ⟨rfl, ?_⟩))
      have hsz := B.size
      refine wpS_bind (wpS_mono (wpS_forRange (I := fun i c st2 => st2 = st ∧ c = (none, i, 0) ∧ DownOn L (arrOf st) lo (lo + i)) (Q := fun c st2 => st2 = st ∧ ∃ m, c = (none, m, 0) ∧ 2 ≤ m ∧ m ≤ nrem ∧ DownOn L (arrOf st) lo (lo + m)) ?stp2 ?fin2 ⟨rfl, rfl, ?ini2⟩) ?pst2)
      case ini2 =>
        intro p q x y a1 a2 a3 hx hy
        have : p = lo := by omega
        have : q = lo + 1 := by omega
        subst p q
        exact hd x y hx hy
      case fin2 =>
        rintro c st2 ⟨rfl, rfl, d⟩
        exact ⟨rfl, max (1 + 1) nrem, rfl, by omega, by omega, d⟩
      case stp2 =>
        rintro i c st2 hi1 hi2 ⟨rfl, rfl, d⟩
        obtain ⟨x, hx, _⟩ := B.get (i := lo + i) (by omega)
        obtain ⟨y, hy, _⟩ := B.get (i := lo + i - 1) (by omega)
        refine wpS_bind (wpS_ltAtS hlt hS B hx hy ?_)
        cases hw : L x y with
        | true =>
          refine wpS_ite (fun _ => wpS_ite (fun h => absurd (show (0 : Nat) > 0 from h) (by decide)) fun _ => wpS_pure ⟨rfl, rfl, ?_⟩) fun h => absurd rfl h
          refine DownOn.more (j := lo + i) l d (by omega) (fun x' y' hx' hy' => ?_) (by omega)
          rw [hy] at hx'; rw [hx] at hy'; cases hx'; cases hy'; exact hw
        | false =>
          refine wpS_ite (fun h => by cases h) fun _ => wpS_bind (wpS_ltAtS hlt hS B hy hx ?_)
          rw [B.ne l (show lo + i - 1 ≠ lo + i by omega) hy hx, hw]
          exact wpS_ite (fun _ => wpS_pure ⟨rfl, i, rfl, by omega, by omega, d⟩) fun h => absurd rfl h
      case pst2 =>
        rintro c st2 ⟨rfl, m, rfl, m1, m2, d⟩
        refine wpS_ite (fun h => absurd (show (0 : Nat) > 0 from h) (by decide)) fun _ => wpS_bind (wpS_step (reverseSlice'_eq ..) ?_)
        have gm : ∀ k, (mirror (arrOf st2) lo (lo + m) ((lo + m - lo) / 2))[k]? = if lo ≤ k ∧ k < lo + m then (arrOf st2)[lo + (lo + m) - 1 - k]? else (arrOf st2)[k]? := fun k => getElem?_mirror_all (by omega) k
        have B3 := B.setArr (mirror_perm (arrOf st2) lo (lo + m) ((lo + m - lo) / 2))
        have o3 : OutS lo (lo + nrem) st2 (setArr st2 (mirror (arrOf st2) lo (lo + m) ((lo + m - lo) / 2))) := ⟨fun k hk => by
          show (mirror (arrOf st2) lo (lo + m) ((lo + m - lo) / 2))[k]? = _
          rw [gm, if_neg (by omega)], rfl⟩
        refine wpS_bind (asc (n0 := m) (by omega) m2 B3 (fun p q x y a1 a2 a3 hx hy => ?_) (fun i n R x y hx hy r1 r2 => ?_) fun n' n1' n2' n3' u' _ => wpS_pure (q n' _ n1' n3' B3 u' o3))
        · have hx : (mirror (arrOf st2) lo (lo + m) ((lo + m - lo) / 2))[p]? = some x := hx
          have hy : (mirror (arrOf st2) lo (lo + m) ((lo + m - lo) / 2))[q]? = some y := hy
          rw [gm, if_pos (by omega)] at hx hy
          exact d (lo + (lo + m) - 1 - q) (lo + (lo + m) - 1 - p) y x (by omega) (by omega) (by omega) hy hx
        · refine wpS_bind (wpS_ltAtS hlt hS B3 hx hy ?_)
          cases hw : L x y with
          | true => exact wpS_ite (fun _ => wpS_pure (r1 hw)) fun h => absurd rfl h
          | false => exact wpS_ite (fun h => by cases h) fun _ => wpS_pure (r2 hw)
end
end L2

set_option Elab.async false
set_option linter.all false
set_option maxRecDepth 100000
set_option maxHeartbeats 4000000
namespace L2
open PySem PySem.Spec PyProof.Rows
section
variable {L : Keyed → Keyed → Bool}
theorem glue (tr : ∀ x y z, L x y = true → L y z = true → L x z = true) {P X Y R O : List Keyed} {key key2 : Keyed} (u1 : Up L (P ++ X)) (u2 : Up L (Y ++ R)) (hY : ∃ Y', Y = key :: Y') (hX : ∃ X', X = X' ++ [key2]) (c1 : ∀ p ∈ P, L p key = true) (c4 : ∀ r ∈ R, L key2 r = true) (uo : Up L O) (po : O.Perm (X ++ Y)) : Up L (P ++ (O ++ R)) := by
  obtain ⟨p1, p2, p3⟩ := List.pairwise_append.mp u1
  obtain ⟨r1, r2, r3⟩ := List.pairwise_append.mp u2
  obtain ⟨Y', rfl⟩ := hY
  obtain ⟨X', rfl⟩ := hX
  have hy : ∀ y ∈ Y', L key y = true := (List.pairwise_cons.mp r1).1
  have hx : ∀ x ∈ X', L x key2 = true := fun x hx => (List.pairwise_append.mp p2).2.2 x hx key2 (List.mem_singleton.mpr rfl)
  have kr : ∀ r ∈ R, L key r = true := fun r hr => r3 key List.mem_cons_self r hr
  refine List.pairwise_append.mpr ⟨p1, List.pairwise_append.mpr ⟨uo, r2, fun o ho r hr => ?_⟩, fun p hp z hz => ?_⟩
  · rcases List.mem_append.mp (po.mem_iff.mp ho) with h | h
    · rcases List.mem_append.mp h with h | h
      · exact tr _ _ _ (hx o h) (c4 r hr)
      · rw [List.mem_singleton.mp h]; exact c4 r hr
    · exact r3 o h r hr
  · rcases List.mem_append.mp hz with hz | hz
    · rcases List.mem_append.mp (po.mem_iff.mp hz) with h | h
      · exact p3 p hp z h
      · rcases List.mem_cons.mp h with rfl | h
        · exact c1 p hp
        · exact tr _ _ _ (c1 p hp) (hy z h)
    · exact tr _ _ _ (c1 p hp) (kr z hz)
theorem upOn_list {arr : Array Keyed} {i j : Nat} (h : UpOn L arr i j) : Up L ((arr.toList.drop i).take (j - i)) := by
  refine List.pairwise_iff_getElem.mpr fun p q hp hq hpq => ?_
  rw [List.length_take, List.length_drop] at hp hq
  have hq' : q < j - i := by omega
  rw [List.getElem_take, List.getElem_take, List.getElem_drop, List.getElem_drop]
  exact h (i + p) (i + q) _ _ (by omega) (by omega) (by omega) (by simp) (by simp)
theorem list_upOn {arr : Array Keyed} (h : Up L arr.toList) (j : Nat) : UpOn L arr 0 j := fun p q x y _ h2 _ hx hy => up_get h h2 hx hy
theorem fold_set : ∀ (out : List Keyed) (sa n : Nat) (arr : Array Keyed) (i : Nat), ((out.zipIdx n).foldl (fun a (p : Keyed × Nat) => a.setIfInBounds (sa + p.2) p.1) arr)[i]? = if sa + n ≤ i ∧ i < sa + n + out.length ∧ i < arr.size then out[i - (sa + n)]? else arr[i]?
  | [], sa, n, arr, i => by
    simp only [List.zipIdx_nil, List.foldl_nil, List.length_nil]
    rw [if_neg (by omega)]
  | x :: r, sa, n, arr, i => by
    rw [List.zipIdx_cons, List.foldl_cons, fold_set r sa (n + 1)]
    simp only [Array.size_setIfInBounds, List.length_cons]
    by_cases h : sa + (n + 1) ≤ i ∧ i < sa + (n + 1) + r.length ∧ i < arr.size
    · rw [if_pos h, if_pos (by omega), show i - (sa + n) = (i - (sa + (n + 1))) + 1 by omega, List.getElem?_cons_succ]
    · rw [if_neg h]
      by_cases e : i = sa + n
      · subst e
        by_cases hs : sa + n < arr.size
        · rw [if_pos (by omega), Nat.sub_self, Array.getElem?_setIfInBounds_self, if_pos hs]; rfl
        · rw [if_neg (by omega), Array.getElem?_setIfInBounds_self, if_neg hs, Array.getElem?_eq_none (by omega)]
      · rw [Array.getElem?_setIfInBounds_ne (by omega), if_neg (by omega)]
end
section
variable {M : Model} {A : Around} {E : Value → Shared → Prop} {s : Shared} {L : Keyed → Keyed → Bool} {S : Keyed → Prop} {a₀ : Array Keyed}
theorem wpS_setS {st st' : SortSt} {Q : PUnit → SortSt → Prop} (h : Q ⟨⟩ st') : wpS M A E s (set st' : SM PUnit) Q st := by
  unfold wpS; rw [StateT.run_set]; exact wpAny_pure ⟨rfl, h⟩
theorem mergeAt_ok (hlt : LtOk M A E s L S) (l : Lin L a₀) (hS : ∀ x ∈ a₀.toList, S x) {n1 n2 pw : Nat} {st : SortSt} {Q : Bool → SortSt → Prop} (B : SB a₀ st) (hp : pendingOf st = #[(0, n1, pw), (n1, n2, 0)]) (hn : n1 + n2 = a₀.size) (h1 : 1 ≤ n1) (h2 : 1 ≤ n2) (u1 : UpOn L (arrOf st) 0 n1) (u2 : UpOn L (arrOf st) n1 (n1 + n2))
    (q : ∀ st', SB a₀ st' → UpOn L (arrOf st') 0 a₀.size → (pendingOf st').size ≤ 1 → Q true st') : wpS M A E s (mergeAt' 0) Q st := by
  have hsz := B.size
  have hSa : ∀ x ∈ (arrOf st).toList, S x := fun x hx => hS x (B.perm.mem_iff.mp hx)
  obtain ⟨key, hkey, mkey⟩ := B.get (i := n1) (by omega)
  obtain ⟨key2, hkey2, mkey2⟩ := B.get (i := n1 - 1) (by omega)
  unfold mergeAt'
  refine wpS_bind (wpS_get ?_)
  have e0 : (pendingOf st)[0]? = some (0, n1, pw) := by rw [hp]; rfl
  have e1 : (pendingOf st)[0 + 1]? = some (n1, n2, 0) := by rw [hp]; rfl
  rw [e0, e1]
  dsimp -zeta only
  refine wpS_bind (wpS_setS ?_)
  have smp : ∀ {st2 : SortSt} {p : Array (Nat × Nat × Nat)}, SameS (SortSt.mk' (kindOf st) (arrOf st) p (gallopOf st) (failedOf st)) st2 → SB a₀ st2 := fun {st2 p} h => ⟨by rw [h.arr]; exact B.perm, by rw [h.kind]; exact B.kind, by rw [h.fail]; exact B.failed⟩
  have hpn : (((pendingOf st).setIfInBounds 0 (0, n1 + n2, pw)).eraseIdxIfInBounds (0 + 1)).size ≤ 1 := by rw [hp]; simp [Array.eraseIdxIfInBounds]
  refine wpS_bind (wpS_elemS hkey (wpS_bind (gallopR_ok hlt l.tr hSa (hS _ mkey) B.kind (show 0 + n1 ≤ (arrOf st).size by omega) (fun i j x y hij hj hx hy => u1 (0 + i) (0 + j) x y (by omega) (by omega) (by omega) hx hy) (show 0 < n1 by omega) fun k hk1 hlo hhi => ?_)))
  have hlo : ∀ i x, i < k → (arrOf st)[i]? = some x → L x key = true := fun i x hi hx => by
    rw [B.ne l (show i ≠ n1 by omega) hx hkey, hlo i x hi (by rw [Nat.zero_add]; exact hx)]; rfl
  have hhi : ∀ i x, k ≤ i → i < n1 → (arrOf st)[i]? = some x → L key x = true := fun i x hi hi' hx => hhi i x hi hi' (by rw [Nat.zero_add]; exact hx)
  refine wpS_ite (fun h => wpS_pure (q _ (smp (SameS.rfl' _)) ?_ hpn)) fun h => ?_
  · have hk : k = n1 := by have h' : (n1 - k == 0) = true := h; have : n1 - k = 0 := (by simpa using h'); omega
    subst hk
    show UpOn L (arrOf st) 0 a₀.size
    intro p r x y _ h3 h4 hx hy
    by_cases hr : r < k
    · exact u1 p r x y (by omega) h3 hr hx hy
    · by_cases hpk : p < k
      · have h5 := hlo p x hpk hx
        by_cases hrk : r = k
        · subst hrk; rw [hkey] at hy; cases hy; exact h5
        · exact l.tr _ _ _ h5 (u2 k r key y (Nat.le_refl _) (by omega) (by omega) hkey hy)
      · exact u2 p r x y (by omega) h3 (by omega) hx hy
  have hkn : k < n1 := by have : n1 - k ≠ 0 := fun e => h (by show (n1 - k == 0) = true; simp [e]); omega
  refine wpS_bind (wpS_elemS (x := key2) (by rw [show 0 + k + (n1 - k) - 1 = n1 - 1 by omega]; exact hkey2) (wpS_bind (gallopL_ok hlt l.tr hSa (hS _ mkey2) B.kind (show n1 + n2 ≤ (arrOf st).size by omega) (fun i j x y hij hj hx hy => u2 (n1 + i) (n1 + j) x y (by omega) (by omega) (by omega) hx hy) (show n2 - 1 < n2 by omega) fun m hm1 hlo2 hhi2 => ?_)))
  have hhi2 : ∀ i x, m ≤ i → i < n2 → (arrOf st)[n1 + i]? = some x → L key2 x = true := fun i x hi hi' hx => by
    rw [B.ne l (show n1 - 1 ≠ n1 + i by omega) hkey2 hx, hhi2 i x hi hi' hx]; rfl
  have hm0 : m ≠ 0 := fun e => by
    subst e
    have a1 := hhi2 0 key (Nat.le_refl _) (by omega) hkey
    have a2 := hhi (n1 - 1) key2 (by omega) (by omega) hkey2
    have a3 := B.ne l (show n1 - 1 ≠ n1 by omega) hkey2 hkey
    rw [a1, a2] at a3
    cases a3
  refine wpS_ite (fun h => absurd (show m = 0 by have h' : (m == 0) = true := h; simpa using h') hm0) fun _ => ?_
  extract_lets -merge x y jp
  have eX : x.toList = ((arrOf st).toList.drop k).take (n1 - k) := by show ((arrOf st).extract (0 + k) n1).toList = _; rw [ext_mid, Nat.zero_add]
  have eY : y.toList = ((arrOf st).toList.drop n1).take m := by show ((arrOf st).extract n1 (n1 + m)).toList = _; rw [ext_mid, Nat.add_sub_cancel_left]
  have xs : x.size = n1 - k := by show ((arrOf st).extract (0 + k) n1).size = _; simp; omega
  have ys : y.size = m := by show ((arrOf st).extract n1 (n1 + m)).size = _; simp; omega
  have gx : ∀ {i z}, x[i]? = some z → i < n1 - k ∧ (arrOf st)[k + i]? = some z := fun {i z} e => by
    have hi := (Array.getElem?_eq_some_iff.mp e).1
    rw [xs] at hi
    refine ⟨hi, ?_⟩
    have : x.toList[i]? = some z := by simpa using e
    rw [eX, List.getElem?_take_of_lt hi, List.getElem?_drop] at this
    simpa using this
  have gy : ∀ {i z}, y[i]? = some z → i < m ∧ (arrOf st)[n1 + i]? = some z := fun {i z} e => by
    have hi := (Array.getElem?_eq_some_iff.mp e).1
    rw [ys] at hi
    refine ⟨hi, ?_⟩
    have : y.toList[i]? = some z := by simpa using e
    rw [eY, List.getElem?_take_of_lt hi, List.getElem?_drop] at this
    simpa using this
  have memX : ∀ {z}, z ∈ x.toList → ∃ i, x[i]? = some z := fun {z} h => by obtain ⟨i, e⟩ := List.mem_iff_getElem?.mp h; exact ⟨i, by rwa [Array.getElem?_toList] at e⟩
  have memY : ∀ {z}, z ∈ y.toList → ∃ i, y[i]? = some z := fun {z} h => by obtain ⟨i, e⟩ := List.mem_iff_getElem?.mp h; exact ⟨i, by rwa [Array.getElem?_toList] at e⟩
  have ux : Up L x.toList := by
    rw [eX]; exact upOn_list fun p q a b h1 h2 h3 ha hb => u1 p q a b (by omega) h2 h3 ha hb
  have uy : Up L y.toList := by
    rw [eY, show m = n1 + m - n1 by omega]; exact upOn_list fun p q a b h1 h2 h3 ha hb => u2 p q a b h1 h2 (by omega) ha hb
  have sx : ∀ z ∈ x.toList, S z := fun z hz => by obtain ⟨i, e⟩ := memX hz; exact hS _ (B.mem (gx e).2)
  have sy : ∀ z ∈ y.toList, S z := fun z hz => by obtain ⟨i, e⟩ := memY hz; exact hS _ (B.mem (gy e).2)
  have txy : ∀ z ∈ x.toList, ∀ w ∈ y.toList, L z w = !L w z := fun z hz w hw => by
    obtain ⟨i, ei⟩ := memX hz
    obtain ⟨j, ej⟩ := memY hw
    have := (gx ei).1
    exact B.ne l (show k + i ≠ n1 + j by omega) (gx ei).2 (gy ej).2
  have hf : ∀ w, y[0]? = some w → ∀ z ∈ x.toList, L w z = true := fun w hw z hz => by
    obtain ⟨i, ei⟩ := memX hz
    obtain ⟨hi, ez⟩ := gx ei
    have ew : (arrOf st)[n1]? = some w := by simpa using (gy hw).2
    rw [hkey] at ew; cases ew
    exact hhi (k + i) z (by omega) (by omega) ez
  have hl : ∀ z, x[x.size - 1]? = some z → ∀ w ∈ y.toList, L w z = true := fun z hz w hw => by
    obtain ⟨j, ej⟩ := memY hw
    obtain ⟨hj, ew⟩ := gy ej
    have ez := (gx hz).2
    rw [xs, show k + (n1 - k - 1) = n1 - 1 by omega, hkey2] at ez
    cases ez
    exact hlo2 j w hj ew
  suffices hjp : ∀ out st2, SameS _ st2 → FinA L x y out → wpS M A E s (jp out) Q st2 from by
    refine wpS_ite (fun _ => wpS_bind (mergeLo_ok hlt l.tr sx sy txy ux uy (by omega) (by omega) (fun w z hw hz => hf w hw z (Array.mem_toList_iff.mpr (Array.mem_of_getElem? hz))) hl B.kind fun out st2 sm fin => hjp out st2 sm fin)) fun _ => wpS_bind (mergeHi_ok hlt l.tr sx sy txy ux uy (by omega) (by omega) hf hl B.kind fun out st2 sm fin => hjp out st2 sm fin)
  intro out st2 sm fin
  obtain ⟨uo, po⟩ := fin
  have B2 := smp sm
  have ol : out.toList.length = n1 - k + m := by rw [po.length_eq, List.length_append]; simp [xs, ys]
  have arr2 : arrOf st2 = arrOf st := sm.arr
  have eN : (out.toList.zipIdx.foldl (fun a (p : Keyed × Nat) => a.setIfInBounds (0 + k + p.2) p.1) (arrOf st2)).toList = (arrOf st).toList.take k ++ (out.toList ++ (arrOf st).toList.drop (n1 + m)) := by
    refine List.ext_getElem? fun i => ?_
    have := fold_set out.toList (0 + k) 0 (arrOf st2) i
    rw [Array.getElem?_toList, this, arr2, ol, Nat.add_zero, Nat.zero_add]
    have tl : ((arrOf st).toList.take k).length = k := by simp; omega
    by_cases c1 : i < k
    · rw [if_neg (by omega), List.getElem?_append_left (by omega), List.getElem?_take_of_lt c1]; simp
    · rw [List.getElem?_append_right (by omega), tl]
      by_cases c2 : i < k + (n1 - k + m)
      · rw [if_pos (by omega), List.getElem?_append_left (by omega)]
      · rw [if_neg (by omega), List.getElem?_append_right (by omega), ol, List.getElem?_drop, show n1 + m + (i - k - (n1 - k + m)) = i by omega]; simp
  have eO : (arrOf st).toList = (arrOf st).toList.take k ++ ((x.toList ++ y.toList) ++ (arrOf st).toList.drop (n1 + m)) := by
    have f1 : (arrOf st).toList.take n1 = (arrOf st).toList.take k ++ x.toList := by rw [eX, ← List.take_add]; congr 1; omega
    have f2 : (arrOf st).toList.take (n1 + m) = (arrOf st).toList.take n1 ++ y.toList := by rw [eY, ← List.take_add]
    rw [List.append_assoc, ← List.append_assoc ((arrOf st).toList.take k), ← f1, ← List.append_assoc, ← f2, List.take_append_drop]
  refine wpS_bind (wpS_modify (wpS_bind (wpS_get ?_)))
  have hfail : (failedOf st2).isNone = true := by rw [B2.failed]; rfl
  show wpS M A E s (pure (failedOf st2).isNone) Q _
  rw [hfail]
  refine wpS_pure (q _ ⟨?_, B2.kind, B2.failed⟩ (list_upOn ?_ _) (by show (pendingOf st2).size ≤ 1; rw [sm.pend]; exact hpn))
  · show (out.toList.zipIdx.foldl (fun a (p : Keyed × Nat) => a.setIfInBounds (0 + k + p.2) p.1) (arrOf st2)).toList.Perm _
    rw [eN]
    refine List.Perm.trans ?_ B.perm
    conv => rhs; rw [eO]
    exact (po.append_right _).append_left _
  · show Up L (out.toList.zipIdx.foldl (fun a (p : Keyed × Nat) => a.setIfInBounds (0 + k + p.2) p.1) (arrOf st2)).toList
    rw [eN]
    refine glue l.tr (X := x.toList) (Y := y.toList) (key := key) (key2 := key2) ?_ ?_ ?_ ?_ (fun p hp => ?_) (fun r hr => ?_) uo po
    · rw [eX, ← List.take_add, show k + (n1 - k) = n1 by omega]
      have := upOn_list u1
      simpa using this
    · have := upOn_list u2
      rw [show n1 + n2 - n1 = n2 by omega, List.take_of_length_le (by simp; omega)] at this
      rw [eY, ← List.drop_drop, List.take_append_drop]
      exact this
    · have : y.toList[0]? = some key := by rw [eY, List.getElem?_take_of_lt (by omega), List.getElem?_drop]; simpa using hkey
      cases hyl : y.toList with
      | nil => rw [hyl] at this; cases this
      | cons z zs => rw [hyl] at this; cases this; exact ⟨zs, rfl⟩
    · have : x.toList[n1 - k - 1]? = some key2 := by rw [eX, List.getElem?_take_of_lt (by omega), List.getElem?_drop, show k + (n1 - k - 1) = n1 - 1 by omega]; simpa using hkey2
      have hxl : x.toList.length = n1 - k := by simp [xs]
      refine ⟨x.toList.take (n1 - k - 1), ?_⟩
      obtain ⟨hi, e⟩ := List.getElem?_eq_some_iff.mp this
      conv => lhs; rw [← List.take_length (l := x.toList), hxl, show n1 - k = (n1 - k - 1) + 1 by omega]
      rw [List.take_succ_eq_append_getElem hi, e]
    · obtain ⟨i, hi, e⟩ := List.mem_iff_getElem.mp hp
      rw [List.length_take] at hi
      exact hlo i p (by omega) (by rw [← e, List.getElem_take]; simp)
    · obtain ⟨i, hi, e⟩ := List.mem_iff_getElem.mp hr
      rw [List.length_drop] at hi
      have hi2 : n1 + m + i < (arrOf st).size := by have := Array.length_toList (xs := arrOf st); omega
      exact hhi2 (m + i) r (by omega) (by omega) (by rw [← e, List.getElem_drop]; simp [Nat.add_assoc])
theorem minRun_ok {n : Nat} (h2 : 2 ≤ n) (hn : n ≤ 127) : n ≤ 2 * minRun' n n 0 ∧ minRun' n n 0 ≤ n := by
  obtain ⟨f, rfl⟩ : ∃ f, n = f + 2 := ⟨n - 2, by omega⟩
  rw [show f + 2 = (f + 1) + 1 from rfl, minRun'_succ]
  by_cases h : f + 1 + 1 < 64
  · rw [if_pos h]; omega
  · rw [if_neg h, minRun'_succ, if_pos (by omega)]; omega
theorem sortRuns_ok (hlt : LtOk M A E s L S) (l : Lin L a₀) (hS : ∀ x ∈ a₀.toList, S x) {st : SortSt} {Q : Unit → SortSt → Prop} (B : SB a₀ st) (hp : pendingOf st = #[]) (h2 : 2 ≤ a₀.size) (hn : a₀.size ≤ 127)
    (q : ∀ st', SB a₀ st' → UpOn L (arrOf st') 0 a₀.size → Q () st') : wpS M A E s sortRuns' Q st := by
  obtain ⟨m1, m2⟩ := minRun_ok h2 hn
  rw [sortRuns'_eq]
  refine wpS_bind (wpS_get ?_)
  dsimp only
  rw [B.size]
  generalize hN : a₀.size = N at *
  generalize minRun' N N 0 = mr at *
  have run : ∀ {lo : Nat} {st' : SortSt} {β : Type} {g : Option Nat → SM β} {Qb : β → SortSt → Prop}, SB a₀ st' → lo < N → (∀ (n : Nat) (st2 : SortSt), 1 ≤ n → n ≤ N - lo → SB a₀ st2 → UpOn L (arrOf st2) lo (lo + n) → OutS lo N st' st2 → wpS M A E s (g (some n)) Qb st2) → wpS M A E s (countRun' lo (N - lo) >>= g) Qb st' := fun {lo st' β g Qb} B' hlo h => wpS_bind (countRun_ok hlt l hS B' (by omega) (by omega) fun n st2 a1 a2 a3 a4 a5 => h n st2 a1 a2 a3 a4 (by rw [show lo + (N - lo) = N by omega] at a5; exact a5))
  refine wpS_bind (wpS_mono (wpS_forRange
    (I := fun x c st' => SB a₀ st' ∧ ((x = 0 ∧ c = (none, 0) ∧ pendingOf st' = #[]) ∨ (x = 1 ∧ ∃ n1, c = (none, n1) ∧ 1 ≤ n1 ∧ n1 ≤ N ∧ N - n1 ≤ mr ∧ pendingOf st' = #[(0, n1, 0)] ∧ UpOn L (arrOf st') 0 n1) ∨ (x = 2 ∧ c = (none, N) ∧ ∃ n1 pw, 1 ≤ n1 ∧ n1 < N ∧ pendingOf st' = #[(0, n1, pw), (n1, N - n1, 0)] ∧ UpOn L (arrOf st') 0 n1 ∧ UpOn L (arrOf st') n1 N)))
    (Q := fun c st' => c = (none, N) ∧ SB a₀ st' ∧ (((pendingOf st').size ≤ 1 ∧ UpOn L (arrOf st') 0 N) ∨ ∃ n1 pw, 1 ≤ n1 ∧ n1 < N ∧ pendingOf st' = #[(0, n1, pw), (n1, N - n1, 0)] ∧ UpOn L (arrOf st') 0 n1 ∧ UpOn L (arrOf st') n1 N)) ?stepR ?finR ⟨B, .inl ⟨rfl, rfl, hp⟩⟩) ?postR)
  case finR =>
    rintro c st' ⟨B', h | h | h⟩
    · omega
    · omega
    · exact ⟨h.2.1, B', .inr h.2.2⟩
  case stepR =>
    rintro x c st' _ hx ⟨B', ⟨rfl, rfl, hp'⟩ | ⟨rfl, n1, rfl, a1, a2, a3, a4, a5⟩ | ⟨rfl, rfl, n1, pw, a1, a2, a3, a4, a5⟩⟩
    · refine wpS_ite (fun h => absurd (show 0 ≥ N from h) (by omega)) fun _ => ?_
      refine run (lo := 0) B' (by omega) fun n st2 b1 b2 b3 b4 b5 => ?_
      have pn : pendingOf st2 = #[] := by rw [b5.2]; exact hp'
      refine wpS_ite (fun h => ?_) fun h => ?_
      · have h : n < mr := h
        refine wpS_bind (wpS_lift (wpAny_rule ⟨rfl, ?_⟩))
        refine wpS_bind (binarySort_ok hlt l hS (lo := 0) (n := min (N - 0) mr) b3 (by omega) (by omega) b4 fun st3 c1 c2 c3 => ?_)
        have pn3 : pendingOf st3 = #[] := by rw [c3.2]; exact pn
        refine wpS_ite (fun h => by cases h) fun _ => wpS_bind (wpS_get ?_)
        rw [show (pendingOf st3).back? = none by rw [pn3]; rfl]
        refine wpS_bind (wpS_modify (wpS_pure ⟨⟨c1.perm, c1.kind, c1.failed⟩, .inr (.inl ⟨rfl, min (N - 0) mr, by rw [Nat.zero_add], by omega, by omega, by omega, ?_, ?_⟩)⟩))
        · show (pendingOf st3).push (0, min (N - 0) mr, 0) = _; rw [pn3]; rfl
        · show UpOn L (arrOf st3) 0 _; rw [Nat.zero_add] at c2; exact c2
      · have h : ¬ n < mr := h
        refine wpS_bind (wpS_get ?_)
        rw [show (pendingOf st2).back? = none by rw [pn]; rfl]
        refine wpS_bind (wpS_modify (wpS_pure ⟨⟨b3.perm, b3.kind, b3.failed⟩, .inr (.inl ⟨rfl, n, by rw [Nat.zero_add], b1, by omega, by omega, ?_, ?_⟩)⟩))
        · show (pendingOf st2).push (0, n, 0) = _; rw [pn]; rfl
        · show UpOn L (arrOf st2) 0 _; rw [Nat.zero_add] at b4; exact b4
    · refine wpS_ite (fun h => ?_) fun h => ?_
      · have h : n1 ≥ N := h
        have e : n1 = N := by omega
        subst e
        exact wpS_pure ⟨rfl, B', .inl ⟨by rw [a4]; exact Nat.le_refl _, a5⟩⟩
      have h : ¬ n1 ≥ N := h
      refine run (lo := n1) B' (by omega) fun n st2 b1 b2 b3 b4 b5 => ?_
      refine wpS_ite (fun h => ?_) fun h => ?_
      · have h : n < mr := h
        refine wpS_bind (wpS_lift (wpAny_rule ⟨rfl, ?_⟩))
        refine wpS_bind (binarySort_ok hlt l hS (lo := n1) (n := min (N - n1) mr) b3 (by omega) (by omega) b4 fun st3 c1 c2 c3 => ?_)
        refine wpS_ite (fun h => by cases h) fun _ => ?_
        have oA : ∀ p, p < n1 → (arrOf st3)[p]? = (arrOf st')[p]? := fun p hp => (c3.1 p (.inl hp)).trans (b5.1 p (.inl hp))
        have pn3 : pendingOf st3 = #[(0, n1, 0)] := by rw [c3.2, b5.2]; exact a4
        refine wpS_bind (wpS_get ?_)
        rw [show (pendingOf st3).back? = some (0, n1, 0) by rw [pn3]; rfl]
        dsimp only
        refine wpS_bind (wpS_mono (wpS_forRange (I := fun _ c s2 => s2 = st3 ∧ c = (none, ())) (Q := fun c s2 => s2 = st3 ∧ c = (none, ())) (fun i c s2 _ _ hh => ?stA) (fun _ _ hh => hh) ⟨rfl, rfl⟩) fun c s2 hh => ?stB)
        case stA =>
          obtain ⟨rfl, rfl⟩ := hh
          refine wpS_bind (wpS_get ?_)
          rw [pn3]
          exact wpS_pure ⟨rfl, rfl⟩
        case stB =>
          obtain ⟨rfl, rfl⟩ := hh
          refine wpS_bind (wpS_modify (wpS_bind (wpS_modify (wpS_pure ⟨⟨c1.perm, c1.kind, c1.failed⟩, .inr (.inr ⟨rfl, ?eN, n1, power' N (2 * 0 + n1) (2 * 0 + n1 + n1 + min (N - n1) mr) N, a1, by omega, ?eP, ?uA, ?uB⟩)⟩))))
          case eN => rw [show n1 + min (N - n1) mr = N by omega]
          case eP =>
            show ((pendingOf s2).modify ((pendingOf s2).size - 1) _).push (n1, min (N - n1) mr, 0) = _
            rw [pn3, show min (N - n1) mr = N - n1 by omega]; rfl
          case uA => exact fun p q x y h1 h2 h3 hx hy => a5 p q x y h1 h2 h3 (by rw [← oA p (by omega)]; exact hx) (by rw [← oA q (by omega)]; exact hy)
          case uB =>
            show UpOn L (arrOf s2) n1 N
            have := c2
            rw [show n1 + min (N - n1) mr = N by omega] at this
            exact this
      · have h : ¬ n < mr := h
        have oA : ∀ p, p < n1 → (arrOf st2)[p]? = (arrOf st')[p]? := fun p hp => b5.1 p (.inl hp)
        have pn3 : pendingOf st2 = #[(0, n1, 0)] := by rw [b5.2]; exact a4
        refine wpS_bind (wpS_get ?_)
        rw [show (pendingOf st2).back? = some (0, n1, 0) by rw [pn3]; rfl]
        dsimp only
        refine wpS_bind (wpS_mono (wpS_forRange (I := fun _ c s2 => s2 = st2 ∧ c = (none, ())) (Q := fun c s2 => s2 = st2 ∧ c = (none, ())) (fun i c s2 _ _ hh => ?stA) (fun _ _ hh => hh) ⟨rfl, rfl⟩) fun c s2 hh => ?stB)
        case stA =>
          obtain ⟨rfl, rfl⟩ := hh
          refine wpS_bind (wpS_get ?_)
          rw [pn3]
          exact wpS_pure ⟨rfl, rfl⟩
        case stB =>
          obtain ⟨rfl, rfl⟩ := hh
          refine wpS_bind (wpS_modify (wpS_bind (wpS_modify (wpS_pure ⟨⟨b3.perm, b3.kind, b3.failed⟩, .inr (.inr ⟨rfl, ?eN, n1, power' N (2 * 0 + n1) (2 * 0 + n1 + n1 + n) N, a1, by omega, ?eP, ?uA, ?uB⟩)⟩))))
          case eN => rw [show n1 + n = N by omega]
          case eP =>
            show ((pendingOf s2).modify ((pendingOf s2).size - 1) _).push (n1, n, 0) = _
            rw [pn3, show n = N - n1 by omega]; rfl
          case uA => exact fun p q x y h1 h2 h3 hx hy => a5 p q x y h1 h2 h3 (by rw [← oA p (by omega)]; exact hx) (by rw [← oA q (by omega)]; exact hy)
          case uB =>
            show UpOn L (arrOf s2) n1 N
            have := b4
            rw [show n1 + n = N by omega] at this
            exact this
    · refine wpS_ite (fun _ => wpS_pure ⟨rfl, B', .inr ⟨n1, pw, a1, a2, a3, a4, a5⟩⟩) fun h => absurd (Nat.le_refl N) h
  case postR =>
    rintro c st' ⟨rfl, B', hc⟩
    dsimp only
    refine wpS_bind (wpS_mono (wpS_forRange (I := fun x c s2 => c = (none, ()) ∧ SB a₀ s2 ∧ (((pendingOf s2).size ≤ 1 ∧ UpOn L (arrOf s2) 0 N) ∨ (x = 0 ∧ ∃ n1 pw, 1 ≤ n1 ∧ n1 < N ∧ pendingOf s2 = #[(0, n1, pw), (n1, N - n1, 0)] ∧ UpOn L (arrOf s2) 0 n1 ∧ UpOn L (arrOf s2) n1 N)))
      (Q := fun c s2 => c = (none, ()) ∧ SB a₀ s2 ∧ UpOn L (arrOf s2) 0 N) ?stepM ?finM ⟨rfl, B', hc.imp id fun h => ⟨rfl, h⟩⟩) ?postM)
    case finM =>
      rintro c s2 ⟨rfl, B2, h | h⟩
      · exact ⟨rfl, B2, h.2⟩
      · omega
    case postM =>
      rintro c s2 ⟨rfl, B2, u⟩
      exact wpS_pure (q s2 B2 u)
    case stepM =>
      rintro x c s2 _ _ ⟨rfl, B2, h | ⟨rfl, n1, pw, a1, a2, a3, a4, a5⟩⟩
      · refine wpS_bind (wpS_get (wpS_ite (fun _ => wpS_pure ⟨rfl, B2, h.2⟩) fun hh => absurd h.1 hh))
      · refine wpS_bind (wpS_get ?_)
        refine wpS_ite (fun hh => absurd (show (pendingOf s2).size ≤ 1 from hh) (by rw [a3]; exact (by decide : ¬ (2 : Nat) ≤ 1))) fun _ => ?_
        rw [a3]
        refine wpS_bind (m := mergeAt' 0) (mergeAt_ok hlt l hS B2 a3 (by omega) a1 (by omega) a4 (by rw [show n1 + (N - n1) = N by omega]; exact a5) fun s3 B3 u3 p3 => ?_)
        exact wpS_ite (fun h => by cases h) fun _ => wpS_pure ⟨rfl, B3, .inl ⟨p3, by rw [hN] at u3; exact u3⟩⟩
end
end L2

set_option Elab.async false
set_option linter.all false
set_option maxRecDepth 100000
set_option maxHeartbeats 4000000
namespace L2
open PySem PySem.Spec PyProof.Rows
/-! ### boards on a heap -/
def RowAt (h : Heap) (u : Value) (ns : List Int) : Prop := ∃ (l : Addr) (us : List Value), u = .ref l ∧ h.IsList l us.toArray ∧ Vals (ns.map V.int) us
def BrdAt (h : Heap) (u : Value) (b : List (List Int)) : Prop := ∃ (l : Addr) (us : List Value), u = .ref l ∧ h.IsList l us.toArray ∧ us.length = b.length ∧ ∀ (j : Nat) (u' : Value) (r : List Int), us[j]? = some u' → b[j]? = some r → RowAt h u' r
section
variable {h h' : Heap} {u : Value} {ns ms : List Int} {b c : List (List Int)}
theorem RowAt.at (k : ∀ b o, h.get? b = some o → h'.get? b = some o) (r : RowAt h u ns) : RowAt h' u ns := by
  obtain ⟨l, us, e, hl, v⟩ := r
  exact ⟨l, us, e, Heap.IsList.at hl (fun o q => k l o q), v⟩
theorem BrdAt.at (k : ∀ b o, h.get? b = some o → h'.get? b = some o) (r : BrdAt h u b) : BrdAt h' u b := by
  obtain ⟨l, us, e, hl, v, w⟩ := r
  exact ⟨l, us, e, Heap.IsList.at hl (fun o q => k l o q), v, fun j u' r h1 h2 => (w j u' r h1 h2).at k⟩
theorem isList_inj {l : Addr} {a b : Array Value} (h1 : h.IsList l a) (h2 : h.IsList l b) : a = b := by
  obtain ⟨o, ho, _, n, hd⟩ := h1
  obtain ⟨o', ho', _, n', hd'⟩ := h2
  rw [ho] at ho'
  cases ho'
  rw [hd] at hd'
  injection hd'
theorem vals_inj {us : List Value} (h1 : Vals (ns.map V.int) us) (h2 : Vals (ms.map V.int) us) : ns = ms := by
  have l1 := h1.length
  have l2 := h2.length
  rw [List.length_map] at l1 l2
  refine List.ext_getElem? fun i => ?_
  by_cases hi : i < us.length
  · obtain ⟨a, t, e1, e2⟩ := val_int h1 (List.getElem?_eq_getElem hi)
    obtain ⟨a', t', e1', e2'⟩ := val_int h2 (List.getElem?_eq_getElem hi)
    rw [e2] at e2'
    cases e2'
    rw [e1, e1']
  · rw [List.getElem?_eq_none (by omega), List.getElem?_eq_none (by omega)]
theorem RowAt.inj (h1 : RowAt h u ns) (h2 : RowAt h u ms) : ns = ms := by
  obtain ⟨l, us, rfl, a1, v1⟩ := h1
  obtain ⟨l', us', e, a2, v2⟩ := h2
  cases e
  have := isList_inj a1 a2
  have e : us = us' := by simpa using this
  subst e
  exact vals_inj v1 v2
theorem BrdAt.inj (h1 : BrdAt h u b) (h2 : BrdAt h u c) : b = c := by
  obtain ⟨l, us, rfl, a1, n1, v1⟩ := h1
  obtain ⟨l', us', e, a2, n2, v2⟩ := h2
  cases e
  have := isList_inj a1 a2
  have e : us = us' := by simpa using this
  subst e
  refine List.ext_getElem? fun i => ?_
  by_cases hi : i < us.length
  · have e0 := List.getElem?_eq_getElem hi
    have e1 := List.getElem?_eq_getElem (l := b) (i := i) (by omega)
    have e2 := List.getElem?_eq_getElem (l := c) (i := i) (by omega)
    rw [e1, e2, (v1 i _ _ e0 e1).inj (v2 i _ _ e0 e2)]
  · rw [List.getElem?_eq_none (by omega), List.getElem?_eq_none (by omega)]
theorem readsAll_ints : ∀ {ns : List Int} {us : List Value}, Vals (ns.map V.int) us → ∃ as, ReadsAll h us (ns.map PyData.int) as
  | [], _, r => by cases r; exact ⟨_, .nil⟩
  | n :: t, _, r => by
    cases r with
    | cons r rr =>
      obtain ⟨tk, rfl⟩ := r
      obtain ⟨as, q⟩ := readsAll_ints rr
      exact ⟨_, .cons (.int n tk) q⟩
theorem RowAt.reads (r : RowAt h u ns) : ∃ as, Reads h u (dI ns) as := by
  obtain ⟨l, us, rfl, ⟨o, ho, hc, n, hd⟩, v⟩ := r
  obtain ⟨as, q⟩ := readsAll_ints (h := h) v
  exact ⟨_, .list ho hc hd (by simpa using q)⟩
end
section
variable {prog : Program} {w : World} {A : Around} {E : Value → Shared → Prop} {s : Shared}
theorem oneLt_brd {x y : Value} {b c : List (List Int)} {Q : Bool → Shared → Prop} (hx : BrdAt s.heap x b) (hy : BrdAt s.heap y c) (hu : A.units + 8 < cLine) (h : Q (decide (b < c)) s) : wpAny (model prog w) A (oneLt' true x y) Q E s := by
  obtain ⟨l, us, rfl, hl, l1, r1⟩ := hx
  obtain ⟨l', ws, rfl, hl', l2, r2⟩ := hy
  have he : ∀ j (h1 : j < us.toArray.size) (h2 : j < ws.toArray.size), SeqAt.EqAt A.in1 s us.toArray[j] ws.toArray[j] (decide (b[j]? = c[j]?)) := fun j h1 h2 => by
    have hj1 : j < us.length := by simpa using h1
    have hj2 : j < ws.length := by simpa using h2
    have e1 := List.getElem?_eq_getElem (l := b) (i := j) (by omega)
    have e2 := List.getElem?_eq_getElem (l := c) (i := j) (by omega)
    obtain ⟨_, q1⟩ := (r1 j _ _ (List.getElem?_eq_getElem hj1) e1).reads
    obtain ⟨_, q2⟩ := (r2 j _ _ (List.getElem?_eq_getElem hj2) e2).reads
    have := SeqAt.eqAt_reads _ _ A.in1 s _ _ _ _ q1 q2 (SeqAt.canLay_of_shaped (shI _)) (SeqAt.canLay_of_shaped (shI _)) (by
      have hd : (dI b[j]).depth ≤ 1 := by simp [dI, PyData.depth, depI]
      have := Nat.min_le_left (dI b[j]).depth (dI c[j]).depth
      show A.units + 1 + _ < cLine
      omega)
    rw [eqI] at this
    rw [e1, e2]
    simpa using this
  have hf : ∀ j (h1 : j < us.toArray.size) (h2 : j < ws.toArray.size), decide (b[j]? = c[j]?) = false → SeqAt.RcLtAt A.in1 s us.toArray[j] ws.toArray[j] (decide (b.getD j [] < c.getD j [])) := fun j h1 h2 _ => by
    have hj1 : j < us.length := by simpa using h1
    have hj2 : j < ws.length := by simpa using h2
    have e1 := List.getElem?_eq_getElem (l := b) (i := j) (by omega)
    have e2 := List.getElem?_eq_getElem (l := c) (i := j) (by omega)
    obtain ⟨p, ps, ep, hp, vp⟩ := r1 j _ _ (List.getElem?_eq_getElem hj1) e1
    obtain ⟨p', ps', ep', hp', vp'⟩ := r2 j _ _ (List.getElem?_eq_getElem hj2) e2
    have := rcLt_ints (A := A.in1) (s := s) hp hp' vp vp' (by show A.units + 1 < cLine; omega)
    rw [List.getD_eq_getElem?_getD, List.getD_eq_getElem?_getD, e1, e2]
    simp only [List.getElem_toArray]
    rw [ep, ep']
    exact this
  have hv : SeqAt.lexR (fun j => decide (b[j]? = c[j]?)) (fun j => decide (b.getD j [] < c.getD j [])) us.toArray.size ws.toArray.size (min us.toArray.size ws.toArray.size) 0 = decide (b < c) := by
    simp only [List.size_toArray]
    rw [l1, l2, Bool.eq_iff_iff, decide_eq_true_iff]
    exact SeqAt.lexR_iff (xs := b) (ys := c) (fun a => List.lt_irrefl a) (fun j x y hx hy => by rw [hx, hy]; simp) (fun j x y hx hy => by rw [List.getD_eq_getElem?_getD, List.getD_eq_getElem?_getD, hx, hy]; simp) _ 0 rfl (Nat.zero_le _) (Nat.zero_le _)
  obtain ⟨⟨cls, dd, data, sl⟩, ho, hc, n, hd⟩ := id hl
  obtain ⟨⟨cls2, dd2, data2, sl2⟩, ho2, hc2, n2, hd2⟩ := id hl'
  simp only at hc hd hc2 hd2
  subst hc hd hc2 hd2
  have two : SeqAt.TwoL s.heap l l' us.toArray ws.toArray := ⟨⟨dd, n, sl, ho⟩, dd2, n2, sl2, ho2⟩
  have asks : Meets (Builtin.«list.__lt__» ⟨[.ref l, .ref l'], []⟩) (fun B Z u => SeqAt.TwoL u.heap l l' us.toArray ws.toArray ∧ SeqAt.Pairwise2 B u us.toArray ws.toArray (fun j => decide (b[j]? = c[j]?)) (fun j => decide (b.getD j [] < c.getD j [])) ∧ Z (.ok (.ret (.bool (SeqAt.lexR (fun j => decide (b[j]? = c[j]?)) (fun j => decide (b.getD j [] < c.getD j [])) us.toArray.size ws.toArray.size (min us.toArray.size ws.toArray.size) 0)))) u) := fun _ _ _ _ _ ⟨t, k, z⟩ => SeqAt.lt_lists t k z
  rw [oneLt'_eq, if_pos rfl]
  refine wpAny_bind (wpAny_cRoomFor (by omega) (wpAny_bind (wpAny_callSpecialIfBound?_slot (T := "list") ⟨_, ho, rfl⟩ PySem.F.slot_list_lt (call_meets (T := "list") PySem.F.slot_list_lt ⟨_, ho, rfl⟩ PySem.F.entry_list_lt (PySem.F.args_list_lt_2 _ _) asks ⟨two, ⟨he, hf⟩, ?_⟩))))
  rw [hv]
  exact wpAny_truthy_bool h
end
end L2

set_option Elab.async false
set_option linter.all false
set_option maxRecDepth 100000
set_option maxHeartbeats 400000
namespace L2
open PySem PySem.Spec PyProof.Rows
section
variable {M : Model} {A : Around} {E : Value → Shared → Prop} {s : Shared}
theorem mapM_same {β : Type} {f : Value → Sem β} {c : β} : ∀ {vs : List Value} {Q : List β → Shared → Prop}, (∀ v ∈ vs, ∀ Q : β → Shared → Prop, Q c s → wpAny M A (f v) Q E s) → Q (vs.map fun _ => c) s → wpAny M A (vs.mapM f) Q E s
  | [], _, _, h => List.mapM_nil (m := Sem) (f := f) ▸ wpAny_pure h
  | v :: r, _, each, h => by
    have tl := mapM_same (vs := r) (Q := fun l s' => wpAny M A (pure (c :: l)) _ E s') (fun u hu => each u (by simp [hu])) (wpAny_pure h)
    simp only [List.mapM_cons]
    exact wpAny_bind (each v (by simp) _ (wpAny_bind tl))
theorem first_list {v : Value} {Q : Option Value → Shared → Prop} (ht : s.TypeIs v "list") (h : Q none s) : wpAny M A (firstOfTuple' v) Q E s := by
  unfold firstOfTuple'
  exact wpAny_bind (wpAny_typeOf ht (wpAny_pure h))
theorem keyKind_lists {v₁ v₂ : Value} {rest : List Value} {Q : SortKind → Shared → Prop} (ht : ∀ v ∈ v₁ :: v₂ :: rest, s.TypeIs v "list") (h : Q oneType' s) : wpAny M A (keyKind' (v₁ :: v₂ :: rest).toArray) Q E s := by
  rw [keyKind'_eq]
  rw [List.mapM_toArray]
  rw [map_eq_pure_bind]
  refine wpAny_bind (wpAny_bind (mapM_same (c := none) (fun v hv Q q => first_list (ht v hv) q) (wpAny_pure ?_)))
  rw [if_neg (by simp)]
  show wpAny M A (if ((List.map (fun _ => (none : Option Value)) (v₁ :: v₂ :: rest)).toArray[0]?.bind id).isSome = true then _ else _) Q E s
  rw [if_neg (by simp), oneTypeOnly'_eq, List.mapM_toArray, map_eq_pure_bind]
  refine wpAny_bind (wpAny_bind (wpAny_bind (mapM_same (c := Value.type "list") (fun v hv Q q => wpAny_typeOf (ht v hv) q) (wpAny_pure ?_))))
  rw [show (List.map (fun _ => Value.type "list") (v₁ :: v₂ :: rest)).toArray[0]? = some (Value.type "list") by simp]
  dsimp only
  rw [if_pos (by simp [List.all_map])]
  refine wpAny_pure ?_
  exact wpAny_pure h
end
theorem zip_self : ∀ vs : List Value, vs.zip vs = vs.map fun v => (v, v)
  | [] => rfl
  | v :: r => by rw [List.zip_cons_cons, zip_self r]; rfl
theorem lt_tri {α : Type} [LT α] (tri : ∀ a b : α, a < b ∨ a = b ∨ b < a) : ∀ xs ys : List α, xs < ys ∨ xs = ys ∨ ys < xs
  | [], [] => .inr (.inl rfl)
  | [], _ :: _ => .inl (List.nil_lt_cons _ _)
  | _ :: _, [] => .inr (.inr (List.nil_lt_cons _ _))
  | x :: xs, y :: ys => by
    rcases tri x y with h | rfl | h
    · exact .inl (List.cons_lt_cons_iff.mpr (.inl h))
    · rcases lt_tri tri xs ys with h | rfl | h
      · exact .inl (List.cons_lt_cons_iff.mpr (.inr ⟨rfl, h⟩))
      · exact .inr (.inl rfl)
      · exact .inr (.inr (List.cons_lt_cons_iff.mpr (.inr ⟨rfl, h⟩)))
    · exact .inr (.inr (List.cons_lt_cons_iff.mpr (.inl h)))
theorem brd_tri (a b : List (List Int)) : a < b ∨ a = b ∨ b < a := lt_tri (lt_tri fun a b => by omega) a b
theorem brd_asym {a b : List (List Int)} (h : a < b) : ¬ b < a := fun h' => List.lt_irrefl _ (List.lt_trans h h')
open Classical in
noncomputable def keyB (h0 : Heap) (p : Keyed) : List (List Int) := if h : ∃ b, BrdAt h0 p.1 b then h.choose else []
theorem keyB_at {h0 : Heap} {p : Keyed} {b : List (List Int)} (h : BrdAt h0 p.1 b) : keyB h0 p = b := by
  have hex : ∃ b, BrdAt h0 p.1 b := ⟨b, h⟩
  unfold keyB
  rw [dif_pos hex]
  exact hex.choose_spec.inj h
section
variable {prog : Program} {w : World} {A : Around} {E : Value → Shared → Prop} {s : Shared}
theorem ltOk_brd {h0 : Heap} {S : Keyed → Prop} (k : ∀ b o, h0.get? b = some o → s.heap.get? b = some o) (hS : ∀ x, S x → ∃ b, BrdAt h0 x.1 b) (hu : A.units + 8 < cLine) : LtOk (model prog w) A E s (fun x y => decide (keyB h0 x < keyB h0 y)) S := fun x y st Q sx sy hk h => by
  obtain ⟨b, hb⟩ := hS x sx
  obtain ⟨c, hc⟩ := hS y sy
  have h : Q (some (decide (keyB h0 x < keyB h0 y))) st := h
  rw [keyB_at hb, keyB_at hc] at h
  rw [lt'_eq]
  refine wpS_bind (wpS_get ?_)
  rw [hk, keyLt'_oneType]
  exact wpS_bind (wpS_lift (wpAny_attempt (oneLt_brd (hb.at k) (hc.at k) hu ⟨rfl, wpS_pure h⟩)))
theorem list_sort_brd {a : Addr} {vs : List Value} {n : Nat} {P : Fin → Shared → Prop} (ho : s.heap.get? a = some (seqObj "list" vs.toArray n)) {h0 : Heap} (k0 : ∀ b o, h0.get? b = some o → b ≠ a ∧ s.heap.get? b = some o) {bs : List (List (List Int))} (hlen : vs.length = bs.length)
    (hb : ∀ (j : Nat) v b, vs[j]? = some v → bs[j]? = some b → BrdAt h0 v b) (nd : bs.Nodup) (h127 : vs.length ≤ 127) (hu : A.units + 8 < cLine)
    (h : ∀ (out : List Value) (cs : List (List (List Int))), out.Perm vs → out.length = cs.length → cs.Perm bs → cs.Pairwise (· < ·) → (∀ (j : Nat) v b, out[j]? = some v → cs[j]? = some b → BrdAt h0 v b) → P (.done (.ret .none)) { s with heap := sortedHeap s.heap a vs out.toArray }) :
    wpAny (model prog w) A (Builtin.«list.sort» ⟨[.ref a], []⟩) P E s := by
  have pl : (pairsOf vs).toList = vs.map fun v => (v, v) := (pairsOf_toList vs).trans (zip_self vs)
  have hex : ∀ p ∈ (pairsOf vs).toList, ∃ b, BrdAt h0 p.1 b := fun p hp => by
    rw [pl] at hp
    obtain ⟨v, hv, rfl⟩ := List.mem_map.mp hp
    obtain ⟨i, e⟩ := List.mem_iff_getElem?.mp hv
    have hi := (List.getElem?_eq_some_iff.mp e).1
    exact ⟨_, hb i v _ e (List.getElem?_eq_getElem (by omega))⟩
  have keys : (pairsOf vs).toList.map (keyB h0) = bs := by
    rw [pl, List.map_map]
    refine List.ext_getElem? fun i => ?_
    rw [List.getElem?_map]
    by_cases hi : i < vs.length
    · rw [List.getElem?_eq_getElem hi, List.getElem?_eq_getElem (show i < bs.length by omega)]
      exact congrArg some (keyB_at (hb i _ _ (List.getElem?_eq_getElem hi) (List.getElem?_eq_getElem (by omega))))
    · rw [List.getElem?_eq_none (by omega), List.getElem?_eq_none (by omega)]; rfl
  have vnd : (pairsOf vs).toList.Nodup := by
    rw [← keys] at nd
    exact List.Pairwise.of_map _ (fun a b h e => h (by rw [e])) nd
  have lin : Lin (fun x y => decide (keyB h0 x < keyB h0 y)) (pairsOf vs) := ⟨fun x y z h1 h2 => decide_eq_true (List.lt_trans (of_decide_eq_true h1) (of_decide_eq_true h2)), fun x hx y hy hne => by
    have kne : keyB h0 x ≠ keyB h0 y := fun e => by
      obtain ⟨i, ei⟩ := List.mem_iff_getElem?.mp hx
      obtain ⟨j, ej⟩ := List.mem_iff_getElem?.mp hy
      have e1 : ((pairsOf vs).toList.map (keyB h0))[i]? = some (keyB h0 x) := by rw [List.getElem?_map, ei]; rfl
      have e2 : ((pairsOf vs).toList.map (keyB h0))[j]? = some (keyB h0 x) := by rw [List.getElem?_map, ej, e]; rfl
      rw [keys] at e1 e2
      obtain ⟨q1, w1⟩ := List.getElem?_eq_some_iff.mp e1
      obtain ⟨q2, w2⟩ := List.getElem?_eq_some_iff.mp e2
      have hij : i = j := by
        rcases Nat.lt_trichotomy i j with h | h | h
        · exact absurd (w1.trans w2.symm) (List.pairwise_iff_getElem.mp nd i j q1 q2 h)
        · exact h
        · exact absurd (w2.trans w1.symm) (List.pairwise_iff_getElem.mp nd j i q2 q1 h)
      subst hij
      rw [ei] at ej
      cases ej
      exact hne rfl
    rcases brd_tri (keyB h0 x) (keyB h0 y) with h | h | h
    · rw [decide_eq_true h, decide_eq_false (brd_asym h)]; rfl
    · exact absurd h kne
    · rw [decide_eq_true h, decide_eq_false (brd_asym h)]; rfl, vnd⟩
  have fin : ∀ arr : Array Keyed, arr.toList.Perm (pairsOf vs).toList → Up (fun x y => decide (keyB h0 x < keyB h0 y)) arr.toList → P (.done (.ret .none)) { s with heap := sortedHeap s.heap a vs (arr.map (·.2)) } := fun arr hp hup => by
    have hpair : ∀ p ∈ arr.toList, p.1 = p.2 := fun p hp' => by
      have := hp.mem_iff.mp hp'
      rw [pl] at this
      obtain ⟨v, _, rfl⟩ := List.mem_map.mp this
      rfl
    have := h (arr.toList.map (·.2)) (arr.toList.map (keyB h0)) (by
      have := hp.map (fun p : Keyed => p.2)
      rw [pl, List.map_map, show ((fun p : Keyed => p.2) ∘ fun v : Value => ((v, v) : Keyed)) = id from rfl, List.map_id] at this
      exact this) (by simp) (by have := hp.map (keyB h0); rwa [keys] at this) (List.pairwise_map.mpr (hup.imp fun h => of_decide_eq_true h)) (fun j v b ev eb => by
      rw [List.getElem?_map] at ev eb
      obtain ⟨p, ep, rfl⟩ := Option.map_eq_some_iff.mp ev
      rw [ep] at eb
      cases eb
      have hm := List.mem_of_getElem? ep
      obtain ⟨b', hb'⟩ := hex p (hp.mem_iff.mp hm)
      rw [keyB_at hb', ← hpair p hm]
      exact hb')
    rwa [show (arr.toList.map (·.2)).toArray = arr.map (·.2) by apply Array.toList_inj.mp; simp] at this
  rw [list_sort_plain]
  have sz0 := Heap.lt_size ho
  have emptied := get?_update_seq ho (fun _ => #[])
  obtain ⟨e1, ho1⟩ : ∃ e : Nat, Heap.get? (s.heap.update a (Obj.mapSeq fun _ => #[])) a = some (seqObj "list" #[] e) := ⟨_, emptied⟩
  have hz : vs.toArray.size ≤ sizeLine := by rw [sizeLine_eq, List.size_toArray]; omega
  have hz1 : ((fun _ => #[]) vs.toArray : Array Value).size ≤ sizeLine + 1 := Nat.zero_le _
  refine wpAny_bind (listItems_at ho rfl (wpAny_bind (listUpdate_at ho rfl (wpAny_bind (seqEpoch_at ho1 rfl (wpAny_bind (wpAny_newTuple (wpAny_bind (wpAny_newList (wpAny_holding ?_) (by first | size_fits | (rw [sizeLine_eq]; simp)))) (by first | size_fits | (rw [sizeLine_eq]; simp; omega)))))) hz hz1)))
  generalize hs6 : ((s.heap.update a (Obj.mapSeq fun _ => #[])).push (seqObj "tuple" vs.toArray 0)).push (seqObj "list" #[] 0) = h6
  have ho6 : h6.get? a = some (seqObj "list" #[] e1) := by
    rw [← hs6, Heap.get?_push_ne _ _ _ (by rw [size_push', Heap.size_update]; exact Nat.ne_of_lt (Nat.lt_succ_of_lt sz0)), Heap.get?_push_ne _ _ _ (by rw [Heap.size_update]; exact Nat.ne_of_lt sz0)]
    exact ho1
  have k6 : ∀ b o, h0.get? b = some o → h6.get? b = some o := fun b o e => by
    obtain ⟨hne, e'⟩ := k0 b o e
    rw [← hs6]
    exact Heap.get?_push_of_some _ (Heap.get?_push_of_some _ (by rw [Heap.get?_update_ne _ _ _ _ hne]; exact e'))
  show wpAny (model prog w) A _ P E { s with heap := h6 }
  dsimp only
  have hz0 : (#[] : Array Value).size ≤ sizeLine := Nat.zero_le _
  have hzo : ∀ arr : Array Keyed, arr.toList.Perm (pairsOf vs).toList → (arr.map (·.2)).size ≤ sizeLine + 1 := fun arr hp => by
    have := hp.length_eq
    rw [pl, List.length_map] at this
    rw [Array.size_map, sizeLine_eq]
    have e : arr.toList.length = arr.size := Array.length_toList
    omega
  have bne : (e1 != e1) = false := by simp
  rcases Nat.lt_or_ge vs.toArray.size 2 with h2 | h2'
  · rw [if_pos h2, if_pos h2]
    refine wpAny_bind (wpAny_pure ?_)
    rw [StateT.run_pure]
    refine wpAny_bind (wpAny_pure ?_)
    dsimp only
    refine wpAny_bind (seqEpoch_at ho6 rfl (wpAny_bind (listUpdate_at ho6 rfl ?_ hz0 (hzo (pairsOf vs) (List.Perm.refl _)))))
    rw [bne, if_neg Bool.false_ne_true]
    subst hs6
    refine wpAny_pure (fin (pairsOf vs) (List.Perm.refl _) ?_)
    rw [pl, Up, List.pairwise_map]
    have h2' : vs.length < 2 := by simpa using h2
    generalize vs = q at h2'
    match q, h2' with
    | [], _ => exact List.Pairwise.nil
    | [_], _ => exact List.pairwise_singleton _ _
    | _ :: _ :: _, h => exact absurd h (by simp)
  · have h2 : ¬ vs.toArray.size < 2 := Nat.not_lt.mpr h2'
    rw [if_neg h2, if_neg h2]
    obtain ⟨v1, v2, rest, ev⟩ : ∃ v1 v2 rest, vs = v1 :: v2 :: rest := by
      have h2' : ¬ vs.length < 2 := by simpa using h2
      generalize vs = q at h2'
      match q, h2' with
      | [], h => exact absurd (by decide) h
      | [_], h => exact absurd (by show 1 < 2; decide) h
      | v1 :: v2 :: rest, _ => exact ⟨v1, v2, rest, rfl⟩
    have hty : ∀ v ∈ v1 :: v2 :: rest, Shared.TypeIs { s with heap := h6 } v "list" := fun v hv => by
      rw [← ev] at hv
      obtain ⟨i, e⟩ := List.mem_iff_getElem?.mp hv
      have hi := (List.getElem?_eq_some_iff.mp e).1
      obtain ⟨l, us, rfl, hl, _⟩ := (hb i v _ e (List.getElem?_eq_getElem (by omega))).at k6
      exact Heap.IsList.typeIs (s := { s with heap := h6 }) hl
    rw [show vs.toArray = (v1 :: v2 :: rest).toArray by rw [ev]]
    refine wpAny_bind (keyKind_lists hty ?_)
    rw [← ev]
    have N1 : 2 ≤ (pairsOf vs).size := by
      rw [pairsOf_size]
      have h2' : ¬ vs.length < 2 := by simpa using h2
      omega
    refine wpAny_bind (wpAny_mono (sortRuns_ok (a₀ := pairsOf vs) (st := SortSt.mk' oneType' (vs.toArray.zip vs.toArray) #[] 7 none) (Q := fun _ st' => SB (pairsOf vs) st' ∧ UpOn (fun x y => decide (keyB h0 x < keyB h0 y)) (arrOf st') 0 (pairsOf vs).size) (ltOk_brd (s := { s with heap := h6 }) k6 hex hu) lin (fun x hx => hx) ⟨List.Perm.refl _, rfl, rfl⟩ rfl N1 (by rw [pairsOf_size]; exact h127) fun st' a1 a2 => ⟨a1, a2⟩) ?_ fun _ _ e => e)
    rintro ⟨⟨⟩, st'⟩ s' ⟨rfl, B, u⟩
    dsimp only
    refine wpAny_bind (seqEpoch_at ho6 rfl (wpAny_bind (listUpdate_at ho6 rfl ?_ hz0 (hzo (arrOf st') B.perm))))
    rw [B.failed]
    dsimp only
    rw [bne, if_neg Bool.false_ne_true]
    subst hs6
    refine wpAny_pure (fin (arrOf st') B.perm ?_)
    have := upOn_list u
    rw [List.drop_zero, Nat.sub_zero, List.take_of_length_le (by rw [Array.length_toList, B.size]; exact Nat.le_refl _)] at this
    exact this
theorem sorted_brd {l : Addr} {vs : List Value} {Q : Value → Shared → Prop} (hl : s.heap.IsList l vs.toArray) {bs : List (List (List Int))} (hlen : vs.length = bs.length) (hb : ∀ (j : Nat) v b, vs[j]? = some v → bs[j]? = some b → BrdAt s.heap v b) (nd : bs.Nodup) (h127 : vs.length ≤ 127) (hu : A.units + 16 < cLine)
    (h : ∀ (out : List Value) (cs : List (List (List Int))), out.Perm vs → out.length = cs.length → cs.Perm bs → cs.Pairwise (· < ·) → (∀ (j : Nat) v b, out[j]? = some v → cs[j]? = some b → BrdAt s.heap v b) → Q (.ref (s.heap.objs.size + 1)) { s with heap := sortedAll s.heap vs out.toArray }) :
    wpAny (model prog w) A (call (.builtin "sorted") [.ref l]) Q E s := by
  have fits : vs.length ≤ sizeLine := by rw [sizeLine_eq]; omega
  obtain ⟨g, eg⟩ : ∃ g, g = (s.heap.push (seqObj "list" #[] 0)).update s.heap.objs.size (Obj.mapSeq (· ++ vs.toArray)) := ⟨_, rfl⟩
  have place : g.objs.size = s.heap.objs.size + 1 := by
    rw [eg]
    exact (Heap.size_update ..).trans (size_push' ..)
  have before : ∀ b o, s.heap.get? b = some o → b ≠ g.objs.size ∧ (g.push (seqObj "list" vs.toArray 0)).get? b = some o := fun b o e => by
    have lt := Heap.lt_size e
    refine ⟨by rw [place]; exact Nat.ne_of_lt (Nat.lt_succ_of_lt lt), Heap.get?_push_of_some _ ?_⟩
    rw [eg]
    exact (Heap.get?_update_ne _ _ _ _ (Nat.ne_of_lt lt)).trans (Heap.get?_push_of_some _ e)
  have told : ∀ (out : List Value) (cs : List (List (List Int))), out.Perm vs → out.length = cs.length → cs.Perm bs → cs.Pairwise (· < ·) → (∀ (j : Nat) v b, out[j]? = some v → cs[j]? = some b → BrdAt s.heap v b) → Q (.ref g.objs.size) { s with heap := sortedHeap (g.push (seqObj "list" vs.toArray 0)) g.objs.size vs out.toArray } := fun out cs a1 a2 a3 a4 a5 => by
    have z := h out cs a1 a2 a3 a4 a5
    rw [place, eg]
    exact z
  have room : ∀ {B : Around}, B.units ≤ A.units + 3 → B.units + 8 < cLine := fun z => by omega
  refine Calls.call_function_entry kind_sorted plain_sorted entry_sorted (args_sorted1 _) (wpAny_bind (m := checkCount "sorted" 1 1 _) (wpAny_pure (wpAny_bind (collect_list hl (wpAny_bind (wpAny_newList (wpAny_bind (wpAny_holding (wpAny_call_entry slot_list_sort ⟨_, Heap.get?_push_size _ rfl, rfl⟩ entry_list_sort ?sort (args_list_sort _)))) fits)) fits))))
  case sort =>
    rw [← eg]
    exact list_sort_brd (h0 := s.heap) (Heap.get?_push_size _ rfl) before hlen hb nd h127 (room (by first | exact Nat.le_refl _ | (show A.units + 1 ≤ A.units + 3; omega) | (show A.units + 1 + 1 ≤ A.units + 3; omega) | (show A.units + 1 + 1 + 1 ≤ A.units + 3; omega))) fun out cs a1 a2 a3 a4 a5 => ⟨_, rfl, wpAny_pure ⟨_, rfl, told out cs a1 a2 a3 a4 a5⟩⟩
end
section
variable {X : Cx} {K : PySem.W.Frag}
theorem brdAt_of {pins : List (Addr × Obj)} {σ : St} {H : Hp} {s : Shared} (I : Inv X pins σ H s) {v : V} {u : Value} {b : List (List Int)} (d : DatV X.K H v (dII b)) (r : RelV v u) : BrdAt s.heap u b := by
  obtain ⟨p, xs, rfl, hp, dxs⟩ := datII d
  cases r
  obtain ⟨us, rv, pl, _⟩ := I.list hp
  have hl := rv.length
  have hl' := dxs.len
  refine ⟨p, us, rfl, pl.isList, by omega, fun j u' r e1 e2 => ?_⟩
  have hj : j < xs.length := by have := (List.getElem?_eq_some_iff.mp e1).1; omega
  obtain ⟨u2, e3, rr⟩ := rv.get (List.getElem?_eq_getElem hj)
  rw [e1] at e3
  cases e3
  obtain ⟨r', e4, d'⟩ := dxs.getD (List.getElem?_eq_getElem hj)
  rw [e2] at e4
  cases e4
  obtain ⟨q, eq, hq⟩ := datI d'
  rw [eq] at rr
  cases rr
  obtain ⟨ws, rw', pw, _⟩ := I.list hq
  exact ⟨q, ws, rfl, pw.isList, rw'⟩
theorem DatAll.of_get {H : Hp} : ∀ {vs : List V} {ds : List PyData}, vs.length = ds.length → (∀ (j : Nat) v d, vs[j]? = some v → ds[j]? = some d → DatV K H v d) → DatAll K H vs ds
  | [], ds, hl, _ => by
    have e : ds = [] := List.length_eq_zero_iff.mp hl.symm
    subst e
    exact .nil
  | v :: vs, ds, hl, h => by
    cases ds with
    | nil => exact absurd hl (Nat.succ_ne_zero _)
    | cons d ds => exact .cons (h 0 v d rfl rfl) (DatAll.of_get (Nat.succ.inj hl) fun j v d e1 e2 => h (j + 1) v d (by simpa using e1) (by simpa using e2))
def backV : Value → V
  | .ref a => .ref a
  | _ => .non
theorem vals_back : ∀ {us : List Value}, (∀ u ∈ us, ∃ a, u = .ref a) → Vals (us.map backV) us
  | [], _ => .nil
  | u :: r, h => by
    obtain ⟨a, rfl⟩ := h u List.mem_cons_self
    exact .cons rfl (vals_back fun v hv => h v (List.mem_cons_of_mem _ hv))
theorem back_vals : ∀ {vs : List V} {us : List Value}, Vals vs us → (∀ u ∈ us, ∃ a, u = .ref a) → (∀ v ∈ vs, ∃ a, v = .ref a) → us.map backV = vs
  | _, _, .nil, _, _ => rfl
  | _, _, .cons r rr, h, h' => by
    obtain ⟨a, rfl⟩ := h' _ List.mem_cons_self
    cases r
    rw [List.map_cons, back_vals rr (fun v hv => h v (List.mem_cons_of_mem _ hv)) fun v hv => h' v (List.mem_cons_of_mem _ hv)]; rfl
def rSortII (K : PySem.W.Frag) : List V → Hp → VK → Prop := fun xs H Q => ∃ (p : Addr) (vs : List V) (bs : List (List (List Int))), xs = [.ref p] ∧ SqL K H p vs ∧ DatAll K H vs (bs.map dII) ∧ bs.Nodup ∧ bs.length ≤ 127 ∧ ∀ (l : Addr) (ws : List V) (cs : List (List (List Int))), H l = none → cs.Perm bs → cs.Pairwise (· < ·) → ws.Perm vs → DatAll K H ws (cs.map dII) → Q (.ref l) (upd H l (.lst ws))
theorem call_sortedII (hK : X.K = K) (hu : X.A.units + 64 < cLine) : CallR X (.builtin "sorted") (rSortII K) := by
  subst hK
  intro pins s σ H xs us Q I r h
  obtain ⟨p, vs, bs, rfl, hs, dvs, nd, h127, q⟩ := h
  obtain ⟨u, rfl, rx⟩ := vals1 r
  cases rx
  obtain ⟨its, ri, pl, hz⟩ := I.list hs
  have hl := ri.length
  have hl' := dvs.len
  have hbr : ∀ (j : Nat) v b, its[j]? = some v → bs[j]? = some b → BrdAt s.heap v b := fun j v b e1 e2 => by
    have hj : j < vs.length := by have := (List.getElem?_eq_some_iff.mp e1).1; omega
    obtain ⟨u2, e3, rr⟩ := ri.get (List.getElem?_eq_getElem hj)
    rw [e1] at e3
    cases e3
    obtain ⟨r', e4, d'⟩ := dvs.getD (List.getElem?_eq_getElem hj)
    rw [e2] at e4
    cases e4
    exact brdAt_of I d' rr
  refine sorted_brd pl.isList (by omega) hbr nd (by omega) (by omega) fun out cs a1 a2 a3 a4 a5 => ?_
  have refI : ∀ u ∈ its, ∃ a, u = .ref a := fun u hu => by
    obtain ⟨i, e⟩ := List.mem_iff_getElem?.mp hu
    have hi := (List.getElem?_eq_some_iff.mp e).1
    obtain ⟨a, _, ea, _⟩ := hbr i u _ e (List.getElem?_eq_getElem (by omega))
    exact ⟨a, ea⟩
  have refV : ∀ v ∈ vs, ∃ a, v = .ref a := fun v hv => by
    obtain ⟨i, e⟩ := List.mem_iff_getElem?.mp hv
    obtain ⟨b, _, d⟩ := dvs.getD e
    obtain ⟨a, _, ea, _⟩ := datII d
    exact ⟨a, ea⟩
  have hbk := back_vals ri refI refV
  have refO : ∀ u ∈ out, ∃ a, u = .ref a := fun u hu => refI u (a1.mem_iff.mp hu)
  have wp : (out.map backV).Perm vs := by rw [← hbk]; exact a1.map backV
  have dws : DatAll X.K H (out.map backV) (cs.map dII) := DatAll.of_get (by simp [a2]) fun j v d e1 e2 => by
    rw [List.getElem?_map] at e1 e2
    obtain ⟨u, eu, rfl⟩ := Option.map_eq_some_iff.mp e1
    obtain ⟨c, ec, rfl⟩ := Option.map_eq_some_iff.mp e2
    obtain ⟨i, ei⟩ := List.mem_iff_getElem?.mp (a1.mem_iff.mp (List.mem_of_getElem? eu))
    have hi := (List.getElem?_eq_some_iff.mp ei).1
    have ev : vs[i]? = some (backV u) := by rw [← hbk, List.getElem?_map, ei]; rfl
    obtain ⟨b, eb, db⟩ := dvs.getD ev
    rw [(a5 j u c eu ec).inj (hbr i u b ei eb)]
    exact db
  obtain ⟨e, he⟩ := sortedAll_at s.heap its out.toArray
  have hn : H (s.heap.objs.size + 1) = none := I.hok.fresh (Nat.le_succ _)
  have hol : (out.map backV).length ≤ sizeLine := by
    have := a1.length_eq
    rw [List.length_map]
    exact Nat.le_of_lt (small1000 (by omega))
  exact ⟨.ref (s.heap.objs.size + 1), upd H (s.heap.objs.size + 1) (.lst (out.map backV)), I.laid (t' := s.toks) (fun b o z => sortedAll_old z) (Nat.le_succ _) ⟨hol, out, e, vals_back refO, by simpa using he⟩, rfl, q _ _ cs hn a3 a4 wp dws⟩
end
end L2

set_option Elab.async false
set_option linter.all false
set_option maxRecDepth 100000
set_option maxHeartbeats 4000000
namespace L2
open PySem PySem.Spec PyProof.Rows
/-! the rules for lists of some thousand -/
theorem small5000 {n : Nat} (h : n ≤ 5000) : n < sizeLine := Nat.lt_of_le_of_lt h (by decide)
section
variable {K : PySem.W.Frag} {k : Nat} {cap : List Nat} {g : TG} {tc : TT} {te : TE} {σ : St} {H : Hp} {Q : VK}
theorem comp_listB {a : Addr} {xs : List V} (Pv : Nat → List V → Hp → Prop) (hn : xs.length ≤ 5000) (h0 : Pv 0 [] H) (hl : ∀ i ys H, i ≤ xs.length → Pv i ys H → SqL K H a xs) (hy : ∀ i ys H, Pv i ys H → ys.length ≤ i)
    (hs : ∀ i x ys H, xs[i]? = some x → Pv i ys H → g x (capσ k cap σ) H fun σ2 H2 => tc σ2 H2 fun b H3 => if b = true then te σ2 H3 fun v H4 => Pv (i + 1) (ys ++ [v]) H4 else Pv (i + 1) ys H3)
    (hd : ∀ ys H, Pv xs.length ys H → ∀ p, H p = none → Q (.ref p) (upd H p (.lst ys))) : CompW (Itl K a) k cap g tc te σ H Q := by
  refine ⟨fun i m ys H => m = xs.length - i ∧ i ≤ xs.length ∧ Pv i ys H, ⟨xs.length, by simp, Nat.zero_le _, h0⟩, ?_⟩
  rintro i m ys H ⟨rfl, hi, p⟩
  have q := hl i ys H hi p
  have hz : ys.length < sizeLine := small5000 (Nat.le_trans (hy i ys H p) (Nat.le_trans hi hn))
  by_cases hlt : i < xs.length
  · refine .inr ⟨⟨xs, xs[i], q, by simp [hlt]⟩, hz, Pv (i + 1), fun ys' H' p' => ⟨xs.length - (i + 1), by omega, rfl, hlt, p'⟩, fun x H' y => ?_⟩
    obtain ⟨e, y⟩ := y
    subst e
    exact hs i x ys _ (y xs q) p
  · have e : i = xs.length := by omega
    subst e
    exact .inl ⟨⟨xs, q, Nat.le_refl _⟩, Nat.le_of_lt hz, hd ys H p⟩
end
section
variable {K : PySem.W.Frag} {E : XK} {ρ : Rho} {ta tb tc : TE} {d e f : PyData} {i j : Int} {R R' : Out → Prop} {t u : TS} {b c : Bool} {tt tu : TT} {ds es : List PyData} {as bs : TA}
theorem yn_catB (ha : Y K ρ ta (.list ds)) (hb : Y K ρ tb (.list es)) (hn : ds.length + es.length ≤ 5000) : YN K ρ (tOp (rCatS K) ta tb) (ds ++ es) :=
  fun σ H Q ev q => ha σ H _ ev fun x H1 s1 dx => hb σ H1 _ (ev.same s1) fun y H2 s2 dy => by
    obtain ⟨p, xs, rfl, hs, da⟩ := datL (dx.same s2)
    obtain ⟨p', xs', rfl, hs', da'⟩ := datL dy
    exact ⟨p, p', xs, xs', rfl, rfl, hs, hs', by rw [da.length, da'.length]; exact Nat.le_of_lt (small5000 hn), fun l hl => q l _ H2 (s1.trans s2) hl (da.append da')⟩
end
section
variable {K : PySem.W.Frag} {E : XK} {ρ : Rho} {ta tb tc : TE} {d e f : PyData} {i j : Int} {R R' : Out → Prop} {t u : TS} {b c : Bool} {tt tu : TT} {ds es : List PyData} {as bs : TA}
theorem y_catB (ha : Y K ρ ta (.list ds)) (hb : Y K ρ tb (.list es)) (hn : ds.length + es.length ≤ 5000) : Y K ρ (tOp (rCatS K) ta tb) (.list (ds ++ es)) := (yn_catB ha hb hn).y
end
section
variable {K : PySem.W.Frag}
variable {E : XK} {ρ : Rho} {ta te : TE} {tc : TT} {d e f : PyData} {R : Out → Prop} {t : TS} {ds es : List PyData} {as : TA} {cap : List Nat}
theorem yn_compFB {α : Type} {enc : α → PyData} {as : List α} (hsrc : Y K ρ ta (.list (as.map enc))) (p : α → Bool) (F : α → PyData) (hn : as.length ≤ 5000)
    (hp : ∀ x ∈ as, YB K ((capρ 1 cap ρ).set 0 (some (enc x))) tc (p x)) (he : ∀ x ∈ as, p x = true → Y K ((capρ 1 cap ρ).set 0 (some (enc x))) te (F x)) :
    YN K ρ (tComp 1 cap (iList K ta) (gName 0) tc te) ((as.filter p).map F) := fun σ H Q ev q => hsrc σ H _ ev fun v H1 s1 dv => by
  obtain ⟨a, xs, rfl, hq, da⟩ := datL dv
  have hl := da.len
  refine ⟨a, rfl, ⟨xs, hq⟩, comp_listB (xs := xs) (fun i ys H' => Same H1 H' ∧ DatAll K H' ys (((as.take i).filter p).map F)) (by rw [hl]; exact hn) ⟨Same.refl _, by simpa using DatAll.nil⟩ (fun i ys H' _ w => w.1.seq hq)
    (fun i ys H' w => by rw [w.2.length, List.length_map]; exact Nat.le_trans (List.length_filter_le _ _) (by rw [List.length_take]; exact Nat.min_le_left _ _)) (fun i x ys H' hx w => ?_) fun ys H' w pp hpp => ?_⟩
  · obtain ⟨x', h1, h2⟩ := da.getD hx
    have hm := List.mem_of_getElem? h1
    have e1 : EnvD K H' ((capσ 1 cap σ).set 0 (some x)) ((capρ 1 cap ρ).set 0 (some (enc x'))) := ((ev.cap).same (s1.trans w.1)).set (h2.same w.1) 0
    refine hp x' hm _ H' _ e1 fun H2 s2 => ?_
    have hts := take_filter_succ as p i x' h1
    cases hb : p x' with
    | true =>
      rw [hb, if_pos rfl] at hts
      refine iteT (he x' hm hb _ H2 _ (e1.same s2) fun v H3 s3 dv => ⟨(w.1.trans s2).trans s3, ?_⟩)
      rw [hts, List.map_append]
      exact ((w.2.same s2).same s3).append (.cons dv .nil)
    | false =>
      rw [hb, if_neg Bool.false_ne_true, List.append_nil] at hts
      refine iteF ⟨w.1.trans s2, ?_⟩
      rw [hts]
      exact w.2.same s2
  · have w2 := w.2
    rw [hl, List.take_length] at w2
    exact q pp _ H' (s1.trans w.1) hpp w2
end
section
variable {K : PySem.W.Frag}
variable {E : XK} {ρ : Rho} {ta te : TE} {tc : TT} {d e f : PyData} {R : Out → Prop} {t : TS} {ds es : List PyData} {as : TA} {cap : List Nat}
theorem yn_compB {α : Type} {enc : α → PyData} {as : List α} (hsrc : Y K ρ ta (.list (as.map enc))) (F : α → PyData) (hn : as.length ≤ 5000)
    (he : ∀ x ∈ as, Y K ((capρ 1 cap ρ).set 0 (some (enc x))) te (F x)) : YN K ρ (tComp 1 cap (iList K ta) (gName 0) tYes te) (as.map F) :=
  (yn_compFB hsrc (fun _ => true) F hn (fun _ _ => yb_yes) fun x hx _ => he x hx).to (by rw [List.filter_eq_self.mpr (fun _ _ => rfl)])
end
section
variable {K : PySem.W.Frag}
variable {E : XK} {ρ : Rho} {ta te : TE} {tc : TT} {d e f : PyData} {R : Out → Prop} {t : TS} {ds es : List PyData} {as : TA} {cap : List Nat}
theorem yn_compTB {α β : Type} {enc : α → PyData} {enc' : β → PyData} {as : List α} (hsrc : Y K ρ ta (.list (as.map enc))) (F : α → β) (hn : as.length ≤ 5000)
    (he : ∀ x ∈ as, Y K ((capρ 1 cap ρ).set 0 (some (enc x))) te (enc' (F x))) : YN K ρ (tComp 1 cap (iList K ta) (gName 0) tYes te) ((as.map F).map enc') :=
  (yn_compB hsrc (fun x => enc' (F x)) hn he).to (by rw [List.map_map]; rfl)
end
end L2

set_option Elab.async false
set_option linter.all false
set_option maxRecDepth 100000
set_option maxHeartbeats 4000000
namespace L2
open PySem PySem.Spec PyProof.Rows
section
variable {K : PySem.W.Frag} {H : Hp} {σ : St} {ρ : Rho} {te ti : TE} {tt : TT} {D : Ends} {u : TS} {b : Bool}
/-- x = f(..) -/
theorem goCallSet {n : Nat} {sp : Sp} {E : XK} {t : TA} (h : t σ H fun vs H1 => sp (vs ++ []) H1 (fun v H2 => u D (σ.set n (some v)) H2) E) : tSeq (tAsg (tCall sp [] E t) (gName n)) u D σ H := h
end
end L2

set_option Elab.async false
set_option linter.all false
set_option maxRecDepth 100000
set_option maxHeartbeats 4000000
namespace L2
open PySem PySem.Spec PyProof.Rows
/-! ### a list of lists that is the asker's own -/
structure Own (H0 H : Hp) (p : Addr) (qs : List Addr) (b : List (List V)) : Prop where
  top : H p = some (.lst (qs.map V.ref))
  np : H0 p = none
  nq : ∀ q ∈ qs, H0 q = none
  nd : qs.Nodup
  npq : p ∉ qs
  len : qs.length = b.length
  row : ∀ (i : Nat) q r, qs[i]? = some q → b[i]? = some r → H q = some (.lst r)
abbrev rowsV (b : List (List Int)) : List (List V) := b.map fun r => r.map V.int
section
variable {K : PySem.W.Frag} {H H' H0 H00 : Hp} {p : Addr} {qs : List Addr} {b : List (List V)}
theorem Own.same (o : Own H0 H p qs b) (s : Same H H') : Own H0 H' p qs b := ⟨s _ _ o.top, o.np, o.nq, o.nd, o.npq, o.len, fun i q r h1 h2 => s _ _ (o.row i q r h1 h2)⟩
theorem Own.down (o : Own H0 H p qs b) (s : Same H00 H0) : Own H00 H p qs b := ⟨o.top, s.free o.np, fun q hq => s.free (o.nq q hq), o.nd, o.npq, o.len, o.row⟩
theorem Own.at (o : Own H0 H p qs b) {i : Nat} {r : List V} (h : b[i]? = some r) : ∃ q, qs[i]? = some q ∧ H q = some (.lst r) ∧ q ∈ qs ∧ q ≠ p := by
  have hi : i < qs.length := by rw [o.len]; exact (List.getElem?_eq_some_iff.mp h).1
  have e := List.getElem?_eq_getElem hi
  have hm := List.mem_of_getElem? e
  exact ⟨qs[i], e, o.row i _ r e h, hm, fun z => o.npq (z ▸ hm)⟩
/-- a row rewritten -/
theorem Own.set (o : Own H0 H p qs b) {i : Nat} {q : Addr} {r : List V} (hq : qs[i]? = some q) : Own H0 (upd H q (.lst r)) p qs (b.set i r) := by
  have hm := List.mem_of_getElem? hq
  refine ⟨by rw [upd_ne (show p ≠ q from fun z => o.npq (z ▸ hm))]; exact o.top, o.np, o.nq, o.nd, o.npq, by rw [List.length_set]; exact o.len, fun j q' r' h1 h2 => ?_⟩
  obtain ⟨hi, ei⟩ := List.getElem?_eq_some_iff.mp hq
  by_cases e : i = j
  · subst e
    rw [hq] at h1; cases h1
    rw [List.getElem?_set_self (by rw [← o.len]; exact hi)] at h2
    cases h2
    exact upd_same
  · rw [List.getElem?_set_ne e] at h2
    obtain ⟨hj, ej⟩ := List.getElem?_eq_some_iff.mp h1
    rw [upd_ne]
    · exact o.row j q' r' h1 h2
    · rintro rfl
      exact e ((List.getElem?_inj hi o.nd).mp (by rw [hq, h1]))
theorem DatAll.refs : ∀ {qs : List Addr} {b : List (List Int)}, qs.length = b.length → (∀ (i : Nat) q r, qs[i]? = some q → b[i]? = some r → H q = some (.lst (r.map V.int))) → DatAll K H (qs.map V.ref) (b.map dI)
  | [], [], _, _ => .nil
  | q :: qs, r :: b, h, f => .cons (datI_of (SqL.of (f 0 q r rfl rfl))) (DatAll.refs (by simpa using h) fun i q' r' h1 h2 => f (i + 1) q' r' (by simpa using h1) (by simpa using h2))
theorem Own.row' {b : List (List Int)} (o : Own H0 H p qs (rowsV b)) (i : Nat) (q : Addr) (r : List Int) (h1 : qs[i]? = some q) (h2 : b[i]? = some r) : H q = some (.lst (r.map V.int)) := o.row i q _ h1 (by rw [List.getElem?_map, h2]; rfl)
theorem Own.data {b : List (List Int)} (o : Own H0 H p qs (rowsV b)) : DatV K H (.ref p) (dII b) := datII_of (SqL.of o.top) (DatAll.refs (by rw [o.len, List.length_map]) o.row')
end
/-- an expression worth such a list -/
def YOwn (K : PySem.W.Frag) (ρ : Rho) (t : TE) (b : List (List V)) : Prop := ∀ (σ : St) (H : Hp) (Q : VK), EnvD K H σ ρ → (∀ p qs H', Same H H' → Own H H' p qs b → Q (.ref p) H') → t σ H Q
section
variable {K : PySem.W.Frag} {ρ : Rho} {ta te : TE} {cap : List Nat} {b : List (List V)}
theorem goSetOwn {H : Hp} {σ : St} {D : Ends} {u : TS} {n : Nat} (h : YOwn K ρ te b) (ev : EnvD K H σ ρ) (q : ∀ p qs H', Same H H' → Own H H' p qs b → u D (σ.set n (some (.ref p))) H') : tSeq (tAsg te (gName n)) u D σ H := h σ H _ ev q
/-- what stands between two turns of a comprehension that makes lists -/
structure MkL (H0 H : Hp) (ys : List V) (b : List (List V)) : Prop where
  ex : ∃ qs : List Addr, ys = qs.map V.ref ∧ (∀ q ∈ qs, H0 q = none) ∧ qs.Nodup ∧ qs.length = b.length ∧ ∀ (i : Nat) q r, qs[i]? = some q → b[i]? = some r → H q = some (.lst r)
theorem MkL.nil {H0 H : Hp} : MkL H0 H [] [] := ⟨[], rfl, fun q h => by simp at h, List.nodup_nil, rfl, fun i q r h => by simp at h⟩
theorem MkL.snoc {H0 H H' : Hp} {ys : List V} {b : List (List V)} {q : Addr} {vs : List V} (m : MkL H0 H ys b) (s0 : Same H0 H') (s : Same H H') (hq : H' q = none) : MkL H0 (upd H' q (.lst vs)) (ys ++ [.ref q]) (b ++ [vs]) := by
  obtain ⟨qs, rfl, n0, nd, hl, hr⟩ := m.ex
  have old : ∀ q' ∈ qs, ∃ r, H' q' = some (.lst r) := fun q' hm => by
    obtain ⟨i, hi⟩ := List.mem_iff_getElem?.mp hm
    have hlt : i < b.length := by rw [← hl]; exact (List.getElem?_eq_some_iff.mp hi).1
    exact ⟨_, s _ _ (hr i q' _ hi (List.getElem?_eq_getElem hlt))⟩
  have nm : q ∉ qs := fun hm => by obtain ⟨r, e⟩ := old q hm; rw [hq] at e; cases e
  refine ⟨qs ++ [q], by rw [List.map_append]; rfl, fun q' hm => ?_, ?_, by rw [List.length_append, List.length_append, hl]; rfl, fun i q' r h1 h2 => ?_⟩
  · rcases List.mem_append.mp hm with hm | hm
    · exact n0 q' hm
    · rw [List.mem_singleton.mp hm]; exact s0.free hq
  · rw [List.nodup_append]
    refine ⟨nd, by simp, fun a ha c hc => ?_⟩
    rw [List.mem_singleton.mp hc]
    rintro rfl
    exact nm ha
  · by_cases hi : i < qs.length
    · rw [List.getElem?_append_left hi] at h1
      rw [List.getElem?_append_left (by omega)] at h2
      rw [upd_ne (show q' ≠ q from fun z => nm (z ▸ List.mem_of_getElem? h1))]
      exact s _ _ (hr i q' r h1 h2)
    · have e : i = qs.length := by
        have := (List.getElem?_eq_some_iff.mp h1).1
        rw [List.length_append, List.length_singleton] at this; omega
      subst e
      rw [List.getElem?_append_right (Nat.le_refl _)] at h1
      rw [List.getElem?_append_right (by omega)] at h2
      simp only [Nat.sub_self, List.getElem?_cons_zero, Option.some.injEq] at h1
      have h2' : vs = r := by simpa [hl] using h2
      subst h1 h2'
      exact upd_same
theorem MkL.own {H0 H H' : Hp} {ys : List V} {b : List (List V)} {p : Addr} (m : MkL H0 H ys b) (s0 : Same H0 H) (hp : H p = none) : ∃ qs, Own H0 (upd H p (.lst ys)) p qs b := by
  obtain ⟨qs, rfl, n0, nd, hl, hr⟩ := m.ex
  have old : ∀ q' ∈ qs, ∃ r, H q' = some (.lst r) := fun q' hm => by
    obtain ⟨i, hi⟩ := List.mem_iff_getElem?.mp hm
    have hlt : i < b.length := by rw [← hl]; exact (List.getElem?_eq_some_iff.mp hi).1
    exact ⟨_, hr i q' _ hi (List.getElem?_eq_getElem hlt)⟩
  have nm : p ∉ qs := fun hm => by obtain ⟨r, e⟩ := old p hm; rw [hp] at e; cases e
  exact ⟨qs, upd_same, s0.free hp, n0, nd, nm, hl, fun i q r h1 h2 => by rw [upd_ne (show q ≠ p from fun z => nm (z ▸ List.mem_of_getElem? h1))]; exact hr i q r h1 h2⟩
/-- [a list just made for x in a list] -/
theorem yown_comp {α β : Type} {enc : α → PyData} {encb : β → PyData} {mkV : β → V} {as : List α} (hmk : ∀ {H : Hp} {l : List β} {vs : List V}, DatAll K H vs (l.map encb) → vs = l.map mkV) (hsrc : Y K ρ ta (.list (as.map enc))) (F : α → List β) (hn : as.length ≤ 1000)
    (he : ∀ x ∈ as, YN K ((capρ 1 cap ρ).set 0 (some (enc x))) te ((F x).map encb)) : YOwn K ρ (tComp 1 cap (iList K ta) (gName 0) tYes te) (as.map fun x => (F x).map mkV) := fun σ H Q ev q => hsrc σ H _ ev fun v H1 s1 dv => by
  obtain ⟨a, xs, rfl, hq, da⟩ := datL dv
  have hl := da.len
  refine ⟨a, rfl, ⟨xs, hq⟩, comp_list (xs := xs) (fun i ys H' => Same H1 H' ∧ MkL H H' ys ((as.take i).map fun x => (F x).map mkV) ∧ ys.length ≤ i) (by rw [hl]; exact hn) ⟨Same.refl _, by simpa using MkL.nil, Nat.le_refl _⟩ (fun i ys H' _ w => w.1.seq hq)
    (fun i ys H' w => w.2.2) (fun i x ys H' hx w => ?_) fun ys H' w pp hpp => ?_⟩
  · obtain ⟨x', h1, h2⟩ := da.getD hx
    have hm := List.mem_of_getElem? h1
    have e1 : EnvD K H' ((capσ 1 cap σ).set 0 (some x)) ((capρ 1 cap ρ).set 0 (some (enc x'))) := ((ev.cap).same (s1.trans w.1)).set (h2.same w.1) 0
    refine goElt ?_
    refine he x' hm _ H' _ e1 fun p vs H2 s2 hp dvs => ?_
    have ev := hmk dvs
    subst ev
    refine ⟨(w.1.trans s2).trans (same_upd hp _), ?_, by rw [List.length_append, List.length_singleton]; have := w.2.2; omega⟩
    have := w.2.1.snoc (vs := (F x').map mkV) ((s1.trans w.1).trans s2) s2 hp
    obtain ⟨hlt, ez⟩ := List.getElem?_eq_some_iff.mp h1
    rw [List.take_succ_eq_append_getElem hlt, List.map_append, ez]
    exact this
  · have w2 := w.2.1
    rw [hl, List.take_length] at w2
    obtain ⟨qs, o⟩ := w2.own (H' := H') (s1.trans w.1) hpp
    exact q pp qs _ ((s1.trans w.1).trans (same_upd hpp _)) o
end
/-! ### two ways that meet -/
section
variable {K : PySem.W.Frag} {H : Hp} {σ : St} {ρ : Rho} {te tv : TE} {tt : TT} {D : Ends} {t u : TS} {b : Bool}
theorem goIfM (Pv : St → Hp → Prop) (h : YB K ρ tt b) (ev : EnvD K H σ ρ) (hT : b = true → ∀ H1, Same H H1 → (∀ σ' H', Pv σ' H' → u D σ' H') → t { D with nx := u D } σ H1) (hF : b = false → ∀ H1, Same H H1 → Pv σ H1) (q : ∀ σ' H', Pv σ' H' → u D σ' H') : tSeq (tIfS tt t tNext) u D σ H :=
  h σ H _ ev fun H1 s1 => by
    cases b with
    | true => exact iteT (hT rfl H1 s1 q)
    | false => exact iteF (q _ _ (hF rfl H1 s1))
/-- for row in (a list of one's own): row.append(v) -/
def appTo (b : List (List V)) (v : V) (i : Nat) : List (List V) := (b.take i).map (fun r => r ++ [v]) ++ b.drop i
theorem appTo_zero (b : List (List V)) (v : V) : appTo b v 0 = b := by simp [appTo]
theorem appTo_all (b : List (List V)) (v : V) : appTo b v b.length = b.map fun r => r ++ [v] := by simp [appTo]
theorem appTo_succ {b : List (List V)} {v : V} {i : Nat} {r : List V} (h : b[i]? = some r) : appTo b v (i + 1) = (appTo b v i).set i (r ++ [v]) := by
  obtain ⟨hi, e⟩ := List.getElem?_eq_some_iff.mp h
  unfold appTo
  rw [List.set_append, if_neg (by simp; omega), List.length_map, List.length_take, Nat.min_eq_left (Nat.le_of_lt hi), Nat.sub_self, List.drop_eq_getElem_cons hi, List.set_cons_zero, List.take_succ_eq_append_getElem hi, List.map_append, e]
  simp
theorem appTo_at {b : List (List V)} {v : V} {i : Nat} {r : List V} (h : b[i]? = some r) : (appTo b v i)[i]? = some r := by
  obtain ⟨hi, e⟩ := List.getElem?_eq_some_iff.mp h
  unfold appTo
  rw [List.getElem?_append_right (by simp; omega), List.length_map, List.length_take, Nat.min_eq_left (Nat.le_of_lt hi), Nat.sub_self, List.getElem?_drop]
  simpa using h
theorem goAppendAll {H0 : Hp} {p : Addr} {qs : List Addr} {b : List (List V)} {n : Nat} {v : V} (o : Own H0 H p qs b) (s0 : Same H0 H) (hs : ∀ r ∈ b, r.length ≤ 999) (hsrc : ∀ Q : VK, Q (.ref p) H → te σ H Q) (hn : n < σ.length) (hv : ∀ σ' H' (Q : VK), Q v H' → tv σ' H' Q)
    (q : ∀ σ' H', (σ' = σ ∨ ∃ x, σ' = σ.set n (some x)) → Same H0 H' → (∀ x o, x ∉ qs → H x = some o → H' x = some o) → Own H0 H' p qs (b.map fun r => r ++ [v]) → u D σ' H') : tSeq (tFor (iList K te) (gName n) (tDrop (tBM K "list" rAppend (tVar n) (tCons tv tNil)))) u D σ H := by
  refine hsrc _ ⟨p, rfl, ⟨_, SqL.of o.top⟩, for_list (D := { D with nx := u D }) (xs := qs.map V.ref) (fun i σ' H' => (σ' = σ ∨ ∃ x, σ' = σ.set n (some x)) ∧ Same H0 H' ∧ (∀ x o, x ∉ qs → H x = some o → H' x = some o) ∧ Own H0 H' p qs (appTo b v i)) ⟨.inl rfl, s0, fun _ _ _ h => h, by rw [appTo_zero]; exact o⟩ (fun i σ' H' _ w => SqL.of w.2.2.2.top) (fun i x σ' H' hx w => ?_) fun σ' H' w => ?_⟩
  · obtain ⟨hσ, sx, kx, ox⟩ := w
    rw [List.getElem?_map] at hx
    obtain ⟨qq, hq, rfl⟩ := Option.map_eq_some_iff.mp hx
    have hi : i < b.length := by rw [← o.len]; exact (List.getElem?_eq_some_iff.mp hq).1
    have hr := List.getElem?_eq_getElem hi
    have hrow := ox.row i qq _ hq (appTo_at hr)
    have hσ' : ∃ y, σ'.set n (some (.ref qq)) = σ.set n (some y) := by
      rcases hσ with rfl | ⟨y, rfl⟩
      · exact ⟨_, rfl⟩
      · exact ⟨_, List.set_set ..⟩
    have hat : (σ'.set n (some (.ref qq)))[n]? = some (some (.ref qq)) := by
      refine List.getElem?_set_self ?_
      rcases hσ with rfl | ⟨y, rfl⟩
      · exact hn
      · rw [List.length_set]; exact hn
    have hl := hs _ (List.getElem_mem hi)
    refine ⟨_, hat, .inl ⟨rfl, _, SqL.of hrow⟩, hv _ _ _ ⟨qq, _, _, rfl, rfl, hrow, Nat.lt_of_le_of_lt hl (by show 999 < 2 ^ 24; decide), .inr hσ', sx.updN (o.nq qq (List.mem_of_getElem? hq)), fun x o' hx' hox => by rw [upd_ne (show x ≠ qq from fun z => hx' (z ▸ List.mem_of_getElem? hq))]; exact kx x o' hx' hox, ?_⟩⟩
    rw [appTo_succ hr]
    exact ox.set hq
  · obtain ⟨hσ, sx, kx, ox⟩ := w
    rw [List.length_map, o.len, appTo_all] at ox
    exact q σ' H' hσ sx kx ox
end
end L2

set_option Elab.async false
set_option linter.all false
set_option maxRecDepth 100000
set_option maxHeartbeats 4000000
namespace L2
open PySem PySem.Spec PyProof.Rows
/-! ### x in a tuple of two tuples -/
def rIn2 (K : PySem.W.Frag) : R2 := fun x y H Q => ∃ p u1 u2 d d1 d2, y = .ref p ∧ SqT K H p [.ref u1, .ref u2] ∧ u1 ≠ u2 ∧ DatV K H x d ∧ DatV K H (.ref u1) d1 ∧ DatV K H (.ref u2) d2 ∧
  (d.canLay0 = true ∧ d.depth ≤ 8) ∧ d1.canLay0 = true ∧ d2.canLay0 = true ∧ Q (.bl (PyData.eqv d1 d || PyData.eqv d2 d)) H
section
variable {X : Cx} {K : PySem.W.Frag}
/-! ### a < b < c < d -/
def tChain3 (r r' r'' : R2) (ta tb tc td : TE) : TE := fun σ H Q => ta σ H fun x H1 => tb σ H1 fun y H2 => r x y H2 fun z H3 => ∃ k, z = .bl k ∧
  (if k = true then tc σ H3 fun w' H4 => r' y w' H4 fun z' H5 => ∃ k', z' = .bl k' ∧ (if k' = true then td σ H5 fun w'' H6 => r'' w' w'' H6 Q else Q (.bl false) H5) else Q (.bl false) H3)
variable {a b c d : Expr} {ta tb tc td : TE} {pos : Pos}
end
section
variable {K : PySem.W.Frag} {ρ : Rho} {ta tb tc td te : TE} {i j k m : Int} {cap : List Nat} {tt : TT} {d e : PyData} {ds : List PyData}
def isRef : PyData → Bool
  | .list _ | .tuple _ => true
  | _ => false
theorem y_max2 (ha : Y K ρ ta (.int i)) (hb : Y K ρ tb (.int j)) : Y K ρ (tCB (fun xs H Q => ∃ i j, xs = [.int i, .int j] ∧ Q (.int (if j > i then j else i)) H) (tCons ta (tCons tb tNil))) (.int (max i j)) := y_cb (ya_cons ha (ya_cons hb ya_nil)) fun vs H Q dv q => by
  obtain ⟨v, w, rfl, d1, d2⟩ := dat2 dv
  rw [datInt d1, datInt d2]
  refine ⟨i, j, rfl, ?_⟩
  rw [show (if j > i then j else i) = max i j by split <;> omega]
  exact q _ H (Same.refl H) (.int _)
end
end L2
namespace L2
open PySem
end L2

/-! the mathematics of the numbers of boards, over plain lists -/
namespace NM
def sub (cs row : List Int) : List Int := List.zipWith (fun x y => x - y) cs row
def rowChoices : Nat → Int → List (List Int)
  | 0, m => if m < 0 ∨ m > 0 then [] else [[]]
  | n + 1, m => if m < 0 ∨ m > (n + 1 : Nat) then [] else (rowChoices n m).map (fun r => 0 :: r) ++ (rowChoices n (m - 1)).map (fun r => 1 :: r)
def left : List Int → List Int → Int
  | [], cs => if cs.any (fun c => decide (c < 0)) = true then 0 else if cs.all (fun c => decide (c = 0)) = true then 1 else 0
  | r :: rs, cs => if cs.any (fun c => decide (c < 0)) = true then 0 else ((rowChoices cs.length r).map fun row => left rs (sub cs row)).sum
theorem rc_none : ∀ (n : Nat) {m : Int}, (m < 0 ∨ m > (n : Int)) → rowChoices n m = []
  | 0, m, h => by simp only [rowChoices]; rw [if_pos (by omega)]
  | n + 1, m, h => by simp only [rowChoices]; rw [if_pos (by omega)]
/-- the recursion holds whatever the marks -/
theorem rc_succ (n : Nat) (m : Int) : rowChoices (n + 1) m = (rowChoices n m).map (fun r => 0 :: r) ++ (rowChoices n (m - 1)).map (fun r => 1 :: r) := by
  by_cases h : m < 0 ∨ m > ((n + 1 : Nat) : Int)
  · rw [rc_none (n + 1) h, rc_none n (by omega), rc_none n (m := m - 1) (by omega)]; rfl
  · simp only [rowChoices]; rw [if_neg h]
theorem rc_mem : ∀ {n : Nat} {m : Int} {r : List Int}, r ∈ rowChoices n m → r.length = n ∧ r.sum = m ∧ ∀ c ∈ r, c = 0 ∨ c = 1
  | 0, m, r, h => by
    simp only [rowChoices] at h
    split at h
    · cases h
    · rename_i hm
      have := List.mem_singleton.mp h
      subst this
      exact ⟨rfl, by show (0 : Int) = m; omega, fun c hc => nomatch hc⟩
  | n + 1, m, r, h => by
    rw [rc_succ] at h
    rcases List.mem_append.mp h with h | h
    · obtain ⟨r', hr, rfl⟩ := List.mem_map.mp h
      obtain ⟨a, b, c⟩ := rc_mem hr
      refine ⟨by simp [a], by simp [b], fun x hx => ?_⟩
      rcases List.mem_cons.mp hx with rfl | hx
      · exact .inl rfl
      · exact c x hx
    · obtain ⟨r', hr, rfl⟩ := List.mem_map.mp h
      obtain ⟨a, b, c⟩ := rc_mem hr
      refine ⟨by simp [a], by rw [List.sum_cons, b]; omega, fun x hx => ?_⟩
      rcases List.mem_cons.mp hx with rfl | hx
      · exact .inr rfl
      · exact c x hx
theorem rc_has : ∀ {r : List Int}, (∀ c ∈ r, c = 0 ∨ c = 1) → r ∈ rowChoices r.length r.sum
  | [], _ => by simp [rowChoices]
  | x :: r, h => by
    have ih := rc_has (r := r) fun c hc => h c (List.mem_cons_of_mem _ hc)
    rw [List.length_cons, rc_succ, List.sum_cons]
    rcases h x List.mem_cons_self with rfl | rfl
    · exact List.mem_append_left _ (List.mem_map.mpr ⟨r, by simpa using ih, rfl⟩)
    · exact List.mem_append_right _ (List.mem_map.mpr ⟨r, by rw [show (1 : Int) + r.sum - 1 = r.sum by omega]; exact ih, rfl⟩)
theorem rc_len : ∀ (n : Nat) (m : Int), n ≤ 6 → (rowChoices n m).length ≤ 20 := by
  intro n m hn
  by_cases h : m < 0 ∨ m > (n : Int)
  · rw [rc_none n h]; exact Nat.zero_le _
  · obtain ⟨k, rfl⟩ : ∃ k : Nat, m = k := ⟨m.toNat, by omega⟩
    have hk : k ≤ n := by omega
    have all : ∀ n, n < 7 → ∀ k, k < 7 → (rowChoices n ((k : Nat) : Int)).length ≤ 20 := by decide +kernel
    exact all n (by omega) k (by omega)
/-! ### a sum over all rows with so many marks -/
def S (cs : List Int) (r : Int) (g : List Int → Int) : Int := ((rowChoices cs.length r).map fun row => g (sub cs row)).sum
theorem S_cons (c : Int) (cs : List Int) (r : Int) (g : List Int → Int) : S (c :: cs) r g = S cs r (fun l => g (c :: l)) + S cs (r - 1) (fun l => g ((c - 1) :: l)) := by
  unfold S
  rw [List.length_cons, rc_succ, List.map_append, List.sum_append, List.map_map, List.map_map]
  congr 1
  refine congrArg List.sum (List.map_congr_left fun row _ => ?_)
  show g ((c - 0) :: sub cs row) = g (c :: sub cs row)
  rw [Int.sub_zero]
def PInv (g : List Int → Int) : Prop := ∀ a b : List Int, a.Perm b → g a = g b
theorem S_perm {cs cs' : List Int} (h : cs.Perm cs') : ∀ (r : Int) (g : List Int → Int), PInv g → S cs r g = S cs' r g := by
  induction h with
  | nil => intro r g _; rfl
  | @cons x l l' hp ih =>
    intro r g hg
    rw [S_cons, S_cons, ih r _ fun a b hab => hg _ _ (hab.cons x), ih (r - 1) _ fun a b hab => hg _ _ (hab.cons (x - 1))]
  | swap x y l =>
    intro r g hg
    rw [S_cons, S_cons, S_cons, S_cons, S_cons, S_cons]
    have e1 : S l r (fun m => g (y :: x :: m)) = S l r (fun m => g (x :: y :: m)) := by unfold S; exact congrArg List.sum (List.map_congr_left fun row _ => hg _ _ (List.Perm.swap x y _))
    have e2 : S l (r - 1) (fun m => g (y :: (x - 1) :: m)) = S l (r - 1) (fun m => g ((x - 1) :: y :: m)) := by unfold S; exact congrArg List.sum (List.map_congr_left fun row _ => hg _ _ (List.Perm.swap (x - 1) y _))
    have e3 : S l (r - 1) (fun m => g ((y - 1) :: x :: m)) = S l (r - 1) (fun m => g (x :: (y - 1) :: m)) := by unfold S; exact congrArg List.sum (List.map_congr_left fun row _ => hg _ _ (List.Perm.swap x (y - 1) _))
    have e4 : S l (r - 1 - 1) (fun m => g ((y - 1) :: (x - 1) :: m)) = S l (r - 1 - 1) (fun m => g ((x - 1) :: (y - 1) :: m)) := by unfold S; exact congrArg List.sum (List.map_congr_left fun row _ => hg _ _ (List.Perm.swap (x - 1) (y - 1) _))
    rw [e1, e2, e3, e4]; omega
  | trans _ _ ih1 ih2 => intro r g hg; rw [ih1 r g hg, ih2 r g hg]
theorem any_perm {a b : List Int} (p : Int → Bool) (h : a.Perm b) : a.any p = b.any p := by
  rw [Bool.eq_iff_iff, List.any_eq_true, List.any_eq_true]
  exact ⟨fun ⟨x, hx, q⟩ => ⟨x, h.mem_iff.mp hx, q⟩, fun ⟨x, hx, q⟩ => ⟨x, h.mem_iff.mpr hx, q⟩⟩
theorem all_perm {a b : List Int} (p : Int → Bool) (h : a.Perm b) : a.all p = b.all p := by
  rw [Bool.eq_iff_iff, List.all_eq_true, List.all_eq_true]
  exact ⟨fun q x hx => q x (h.mem_iff.mpr hx), fun q x hx => q x (h.mem_iff.mp hx)⟩
theorem left_perm : ∀ (rs : List Int), PInv (left rs)
  | [], a, b, h => by simp only [left]; rw [any_perm _ h, all_perm _ h]
  | r :: rs, a, b, h => by
    simp only [left]
    rw [any_perm _ h]
    split
    · rfl
    · exact S_perm h r (left rs) (left_perm rs)
/-! ### the board of a number -/
def pick (f : List Int → Int → Option (List (List Int))) (wy : List Int → Int) : List (List Int) → Int → Option (List (List Int))
  | [], _ => none
  | row :: t, n => if n < wy row then (f row n).map (fun b => row :: b) else pick f wy t (n - wy row)
def rowsAt : List Int → List Int → Int → Option (List (List Int))
  | [], _, _ => some []
  | r :: rs, cs, n => pick (fun row m => rowsAt rs (sub cs row) m) (fun row => left rs (sub cs row)) (rowChoices cs.length r) n
theorem pick_some {f : List Int → Int → Option (List (List Int))} {wy : List Int → Int} : ∀ {l : List (List Int)} {n : Int}, 0 ≤ n → n < (l.map wy).sum → (∀ row ∈ l, ∀ m, 0 ≤ m → m < wy row → ∃ b, f row m = some b) → ∃ row b m, row ∈ l ∧ 0 ≤ m ∧ m < wy row ∧ f row m = some b ∧ pick f wy l n = some (row :: b)
  | [], n, h0, h, _ => by rw [List.map_nil, List.sum_nil] at h; omega
  | row :: t, n, h0, h, hf => by
    rw [List.map_cons, List.sum_cons] at h
    simp only [pick]
    by_cases hn : n < wy row
    · obtain ⟨b, hb⟩ := hf row List.mem_cons_self n h0 hn
      refine ⟨row, b, n, List.mem_cons_self, h0, hn, hb, ?_⟩
      rw [if_pos hn, hb]; rfl
    · obtain ⟨row', b, m, h1, h2, h3, h4, h5⟩ := pick_some (l := t) (n := n - wy row) (by omega) (by omega) fun r hr => hf r (List.mem_cons_of_mem _ hr)
      refine ⟨row', b, m, List.mem_cons_of_mem _ h1, h2, h3, h4, ?_⟩
      rw [if_neg hn]; exact h5
/-- a board of so many rows, its cells marks or none -/
def Fits (h w : Nat) (b : List (List Int)) : Prop := b.length = h ∧ ∀ r ∈ b, r.length = w ∧ ∀ c ∈ r, c = 0 ∨ c = 1
theorem rowsAt_some : ∀ (rs cs : List Int) (n : Int), 0 ≤ n → n < left rs cs → ∃ b, rowsAt rs cs n = some b ∧ Fits rs.length cs.length b
  | [], cs, n, _, _ => ⟨[], rfl, rfl, fun r hr => nomatch hr⟩
  | r :: rs, cs, n, h0, h => by
    have hs : n < ((rowChoices cs.length r).map fun row => left rs (sub cs row)).sum := by
      simp only [left] at h
      split at h
      · omega
      · exact h
    have sl : ∀ row ∈ rowChoices cs.length r, (sub cs row).length = cs.length := fun row hr => by unfold sub; rw [List.length_zipWith, (rc_mem hr).1, Nat.min_self]
    obtain ⟨row, b, m, h1, h2, h3, h4, h5⟩ := pick_some (f := fun row m => rowsAt rs (sub cs row) m) (wy := fun row => left rs (sub cs row)) h0 hs fun row _ m hm hm' => let ⟨b, hb, _⟩ := rowsAt_some rs (sub cs row) m hm hm'; ⟨b, hb⟩
    obtain ⟨b', hb', f1, f2⟩ := rowsAt_some rs (sub cs row) m h2 h3
    have e : b = b' := Option.some.inj (h4.symm.trans hb')
    subst e
    refine ⟨row :: b, by simp only [rowsAt]; exact h5, by simp [f1], fun x hx => ?_⟩
    rcases List.mem_cons.mp hx with rfl | hx
    · exact ⟨(rc_mem h1).1, (rc_mem h1).2.2⟩
    · have := f2 x hx
      rw [sl row h1] at this
      exact this
/-! ### how many keys a count may write -/
def budT : Nat → Nat
  | 0 => 0
  | n + 1 => 1 + 20 * budT n
theorem budT_mono : ∀ {a b : Nat}, a ≤ b → budT a ≤ budT b
  | 0, _, _ => Nat.zero_le _
  | a + 1, b + 1, h => by have := budT_mono (a := a) (b := b) (by omega); simp only [budT]; omega
def budU : Nat → Nat
  | 0 => 0
  | n + 1 => 20 * budT n + budU n
end NM

/-! boards with counts, in order; exchanged, turned, with marks for empty cells -/
namespace NM
def colS (w : Nat) (b : List (List Int)) : List Int := (List.range w).map fun c => (b.map fun r => r.getD c 0).sum
theorem colS_len (w : Nat) (b : List (List Int)) : (colS w b).length = w := by unfold colS; rw [List.length_map, List.length_range]
theorem colS_get {w c : Nat} (b : List (List Int)) (h : c < w) : (colS w b)[c]? = some ((b.map fun r => r.getD c 0).sum) := by
  unfold colS; rw [List.getElem?_map, List.getElem?_range h]; rfl
theorem getD_of {l : List Int} {c : Nat} (h : c < l.length) : l[c]? = some (l.getD c 0) := by
  rw [List.getD_eq_getElem?_getD, List.getElem?_eq_getElem h]; rfl
theorem ext_getD {a b : List Int} (hl : a.length = b.length) (h : ∀ c, c < a.length → a.getD c 0 = b.getD c 0) : a = b := by
  refine List.ext_getElem? fun c => ?_
  by_cases hc : c < a.length
  · rw [getD_of hc, getD_of (by omega), h c hc]
  · rw [List.getElem?_eq_none (by omega), List.getElem?_eq_none (by omega)]
theorem colS_getD {w c : Nat} (b : List (List Int)) (h : c < w) : (colS w b).getD c 0 = (b.map fun r => r.getD c 0).sum := by
  rw [List.getD_eq_getElem?_getD, colS_get b h]; rfl
theorem sub_len {cs row : List Int} (h : row.length = cs.length) : (sub cs row).length = cs.length := by unfold sub; rw [List.length_zipWith, h, Nat.min_self]
theorem sub_getD {cs row : List Int} {c : Nat} (h : row.length = cs.length) (hc : c < cs.length) : (sub cs row).getD c 0 = cs.getD c 0 - row.getD c 0 := by
  unfold sub
  rw [List.getD_eq_getElem?_getD, List.getElem?_zipWith, getD_of hc, getD_of (show c < row.length by omega)]; rfl
theorem colS_cons {w : Nat} {row : List Int} {b : List (List Int)} {cs : List Int} (hr : row.length = w) (hc : cs.length = w) : colS w (row :: b) = cs ↔ colS w b = sub cs row := by
  have hs : (sub cs row).length = w := by rw [sub_len (by omega), hc]
  constructor
  · intro e
    refine ext_getD (by rw [colS_len, hs]) fun c h => ?_
    rw [colS_len] at h
    rw [colS_getD b h, sub_getD (by omega) (by omega), ← e, colS_getD _ h, List.map_cons, List.sum_cons]; omega
  · intro e
    refine ext_getD (by rw [colS_len, hc]) fun c h => ?_
    rw [colS_len] at h
    have : (colS w b).getD c 0 = (sub cs row).getD c 0 := by rw [e]
    rw [colS_getD b h, sub_getD (by omega) (by omega)] at this
    rw [colS_getD _ h, List.map_cons, List.sum_cons]; omega
/-- a board with these counts -/
structure IsB (rs cs : List Int) (b : List (List Int)) : Prop where
  rows : b.map List.sum = rs
  row : ∀ r ∈ b, r.length = cs.length
  bit : ∀ r ∈ b, ∀ c ∈ r, c = 0 ∨ c = 1
  cols : colS cs.length b = cs
def brds : List Int → List Int → List (List (List Int))
  | [], cs => if cs.any (fun c => decide (c < 0)) = true then [] else if cs.all (fun c => decide (c = 0)) = true then [[]] else []
  | r :: rs, cs => if cs.any (fun c => decide (c < 0)) = true then [] else (rowChoices cs.length r).flatMap fun row => (brds rs (sub cs row)).map fun b => row :: b
theorem left_len : ∀ (rs cs : List Int), left rs cs = ((brds rs cs).length : Int)
  | [], cs => by
    simp only [left, brds]
    split
    · rfl
    · split <;> rfl
  | r :: rs, cs => by
    simp only [left, brds]
    split
    · rfl
    · have : ∀ l : List (List Int), (l.map fun row => left rs (sub cs row)).sum = ((l.flatMap fun row => (brds rs (sub cs row)).map fun b => row :: b).length : Int) := fun l => by
        induction l with
        | nil => rfl
        | cons x l ih => rw [List.map_cons, List.sum_cons, List.flatMap_cons, List.length_append, List.length_map, left_len rs (sub cs x), ih]; omega
      exact this _
theorem bits_nn {l : List Int} (h : ∀ c ∈ l, c = 0 ∨ c = 1) : 0 ≤ l.sum ∧ l.sum ≤ l.length := by
  induction l with
  | nil => exact ⟨Int.le_refl _, Int.le_refl _⟩
  | cons x r ih =>
    have := ih fun c hc => h c (List.mem_cons_of_mem _ hc)
    have := h x List.mem_cons_self
    rw [List.sum_cons, List.length_cons]; omega
theorem bit_getD {r : List Int} (h : ∀ c ∈ r, c = 0 ∨ c = 1) (c : Nat) : r.getD c 0 = 0 ∨ r.getD c 0 = 1 := by
  by_cases hc : c < r.length
  · rw [List.getD_eq_getElem?_getD, List.getElem?_eq_getElem hc]; exact h _ (List.getElem_mem _)
  · rw [List.getD_eq_getElem?_getD, List.getElem?_eq_none (by omega)]; exact .inl rfl
theorem col_bits {b : List (List Int)} (h : ∀ r ∈ b, ∀ c ∈ r, c = 0 ∨ c = 1) (c : Nat) : ∀ x ∈ (b.map fun r => r.getD c 0), x = 0 ∨ x = 1 := fun x hx => by
  obtain ⟨r, hr, rfl⟩ := List.mem_map.mp hx
  exact bit_getD (h r hr) c
theorem IsB.bounds {rs cs : List Int} {b : List (List Int)} (x : IsB rs cs b) : (∀ c ∈ cs, 0 ≤ c ∧ c ≤ rs.length) ∧ ∀ r ∈ rs, 0 ≤ r ∧ r ≤ cs.length := by
  have hl : rs.length = b.length := by rw [← x.rows, List.length_map]
  refine ⟨fun c hc => ?_, fun r hr => ?_⟩
  · rw [← x.cols] at hc
    unfold colS at hc
    obtain ⟨k, _, rfl⟩ := List.mem_map.mp hc
    have := bits_nn (col_bits x.bit k)
    rw [List.length_map] at this
    rw [hl]; exact this
  · rw [← x.rows] at hr
    obtain ⟨q, hq, rfl⟩ := List.mem_map.mp hr
    have := bits_nn (x.bit q hq)
    rw [x.row q hq] at this
    exact this
theorem any_neg_iff {cs : List Int} : cs.any (fun c => decide (c < 0)) = true ↔ ∃ c ∈ cs, c < 0 := by
  rw [List.any_eq_true]
  exact ⟨fun ⟨c, h1, h2⟩ => ⟨c, h1, of_decide_eq_true h2⟩, fun ⟨c, h1, h2⟩ => ⟨c, h1, decide_eq_true h2⟩⟩
theorem brds_mem : ∀ {rs cs : List Int} {b : List (List Int)}, b ∈ brds rs cs ↔ IsB rs cs b
  | [], cs, b => by
    simp only [brds]
    constructor
    · intro h
      split at h
      · cases h
      · split at h
        · rename_i ha
          have := List.mem_singleton.mp h
          subst this
          refine ⟨rfl, (fun r hr => nomatch hr), (fun r hr => nomatch hr), ?_⟩
          refine ext_getD (colS_len _ _) fun c hc => ?_
          rw [colS_len] at hc
          rw [colS_getD _ hc]
          have := of_decide_eq_true (List.all_eq_true.mp ha _ (List.getElem_mem hc))
          rw [List.getD_eq_getElem?_getD, List.getElem?_eq_getElem hc]
          simp [this]
        · cases h
    · intro x
      have hb : b = [] := List.map_eq_nil_iff.mp x.rows
      subst hb
      have z : ∀ c ∈ cs, c = 0 := fun c hc => by
        rw [← x.cols] at hc
        unfold colS at hc
        obtain ⟨k, _, rfl⟩ := List.mem_map.mp hc
        rfl
      rw [if_neg, if_pos]
      · exact List.mem_singleton.mpr rfl
      · exact List.all_eq_true.mpr fun c hc => decide_eq_true (z c hc)
      · intro e
        obtain ⟨c, h1, h2⟩ := any_neg_iff.mp e
        have := z c h1; omega
  | r :: rs, cs, b => by
    simp only [brds]
    constructor
    · intro h
      split at h
      · cases h
      · obtain ⟨row, h1, h2⟩ := List.mem_flatMap.mp h
        obtain ⟨b', h3, rfl⟩ := List.mem_map.mp h2
        obtain ⟨a1, a2, a3⟩ := rc_mem h1
        have x := brds_mem.mp h3
        have sl := sub_len (cs := cs) (row := row) a1
        refine ⟨by rw [List.map_cons, a2, x.rows], fun q hq => ?_, fun q hq => ?_, (colS_cons a1 rfl).mpr (by rw [← x.cols, sl])⟩
        · rcases List.mem_cons.mp hq with rfl | hq
          · exact a1
          · rw [x.row q hq, sl]
        · rcases List.mem_cons.mp hq with rfl | hq
          · exact a3
          · exact x.bit q hq
    · intro x
      rw [if_neg]
      · cases b with
        | nil => have := x.rows; cases this
        | cons row b' =>
          have e := x.rows
          rw [List.map_cons] at e
          injection e with e1 e2
          have hr := x.row row List.mem_cons_self
          have hb := x.bit row List.mem_cons_self
          have sl := sub_len (cs := cs) (row := row) hr
          refine List.mem_flatMap.mpr ⟨row, ?_, List.mem_map.mpr ⟨b', brds_mem.mpr ⟨e2, fun q hq => ?_, fun q hq => x.bit q (List.mem_cons_of_mem _ hq), ?_⟩, rfl⟩⟩
          · have := rc_has hb
            rw [hr, e1] at this
            exact this
          · rw [x.row q (List.mem_cons_of_mem _ hq), sl]
          · rw [sl]; exact (colS_cons hr rfl).mp x.cols
      · intro e
        obtain ⟨c, h1, h2⟩ := any_neg_iff.mp e
        have := (x.bounds.1 c h1).1; omega
/-! ### the order -/
theorem rc_sorted : ∀ (n : Nat) (m : Int), (rowChoices n m).Pairwise (· < ·)
  | 0, m => by
    simp only [rowChoices]
    split
    · exact List.Pairwise.nil
    · exact List.pairwise_singleton _ _
  | n + 1, m => by
    rw [rc_succ, List.pairwise_append, List.pairwise_map, List.pairwise_map]
    refine ⟨(rc_sorted n m).imp fun h => List.cons_lt_cons_iff.mpr (.inr ⟨rfl, h⟩), (rc_sorted n (m - 1)).imp fun h => List.cons_lt_cons_iff.mpr (.inr ⟨rfl, h⟩), fun a ha b hb => ?_⟩
    obtain ⟨a', _, rfl⟩ := List.mem_map.mp ha
    obtain ⟨b', _, rfl⟩ := List.mem_map.mp hb
    exact List.cons_lt_cons_iff.mpr (.inl (by decide))
theorem brds_sorted : ∀ (rs cs : List Int), (brds rs cs).Pairwise (· < ·)
  | [], cs => by
    simp only [brds]
    split
    · exact List.Pairwise.nil
    · split
      · exact List.pairwise_singleton _ _
      · exact List.Pairwise.nil
  | r :: rs, cs => by
    simp only [brds]
    split
    · exact List.Pairwise.nil
    · rw [List.pairwise_flatMap]
      refine ⟨fun row _ => ?_, (rc_sorted cs.length r).imp fun {x y} h => fun a ha b hb => ?_⟩
      · rw [List.pairwise_map]
        exact (brds_sorted rs (sub cs row)).imp fun h => List.cons_lt_cons_iff.mpr (.inr ⟨rfl, h⟩)
      · obtain ⟨a', _, rfl⟩ := List.mem_map.mp ha
        obtain ⟨b', _, rfl⟩ := List.mem_map.mp hb
        exact List.cons_lt_cons_iff.mpr (.inl h)
theorem brds_nodup (rs cs : List Int) : (brds rs cs).Nodup := (brds_sorted rs cs).imp fun {a b} h e => by subst e; exact absurd h (List.lt_irrefl _)
/-! ### one to one -/
theorem len_le {α : Type} [DecidableEq α] : ∀ {a b : List α}, a.Nodup → (∀ x ∈ a, x ∈ b) → a.length ≤ b.length
  | [], _, _, _ => Nat.zero_le _
  | x :: t, b, hn, hs => by
    have hx := hs x List.mem_cons_self
    have ht := List.nodup_cons.mp hn
    have ih := len_le (a := t) (b := b.erase x) ht.2 fun y hy => (List.mem_erase_of_ne (fun e => ht.1 (by rw [← e]; exact hy))).mpr (hs y (List.mem_cons_of_mem _ hy))
    rw [List.length_erase_of_mem hx] at ih
    have := List.length_pos_of_mem hx
    rw [List.length_cons]; omega
theorem map_le {α β : Type} [DecidableEq β] {a : List α} {b : List β} (f : α → β) (hn : a.Nodup) (hi : ∀ x ∈ a, ∀ y ∈ a, f x = f y → x = y) (hm : ∀ x ∈ a, f x ∈ b) : a.length ≤ b.length := by
  have hnd : (a.map f).Nodup := by
    induction a with
    | nil => exact List.Pairwise.nil
    | cons x t ih =>
      have ht := List.nodup_cons.mp hn
      rw [List.map_cons, List.nodup_cons]
      refine ⟨fun z => ?_, ih ht.2 (fun y hy z hz => hi y (List.mem_cons_of_mem _ hy) z (List.mem_cons_of_mem _ hz)) fun y hy => hm y (List.mem_cons_of_mem _ hy)⟩
      obtain ⟨y, hy, e⟩ := List.mem_map.mp z
      have := hi y (List.mem_cons_of_mem _ hy) x List.mem_cons_self e
      exact ht.1 (this ▸ hy)
  have := len_le hnd fun y hy => by obtain ⟨x, hx, rfl⟩ := List.mem_map.mp hy; exact hm x hx
  rwa [List.length_map] at this
def tr (w : Nat) (b : List (List Int)) : List (List Int) := (List.range w).map fun c => b.map fun r => r.getD c 0
theorem map_range_getD {l : List Int} {w : Nat} (h : l.length = w) : (List.range w).map (fun c => l.getD c 0) = l := by
  refine ext_getD (by rw [List.length_map, List.length_range, h]) fun c hc => ?_
  rw [List.length_map, List.length_range] at hc
  rw [List.getD_eq_getElem?_getD, List.getElem?_map, List.getElem?_range hc]; rfl
theorem getD_map {b : List (List Int)} {c i : Nat} (h : i < b.length) : (b.map fun r => r.getD c 0).getD i 0 = (b.getD i []).getD c 0 := by
  rw [List.getD_eq_getElem?_getD, List.getElem?_map, List.getElem?_eq_getElem h, List.getD_eq_getElem?_getD (l := b), List.getElem?_eq_getElem h]; rfl
theorem tr_isB {rs cs : List Int} {b : List (List Int)} (x : IsB rs cs b) : IsB cs rs (tr cs.length b) := by
  have hl : rs.length = b.length := by rw [← x.rows, List.length_map]
  refine ⟨?_, fun r hr => ?_, fun r hr => ?_, ?_⟩
  · unfold tr
    rw [List.map_map]
    exact x.cols
  · obtain ⟨c, _, rfl⟩ := List.mem_map.mp hr
    rw [List.length_map, hl]
  · obtain ⟨c, _, rfl⟩ := List.mem_map.mp hr
    exact col_bits x.bit c
  · refine ext_getD (colS_len _ _) fun i hi => ?_
    rw [colS_len] at hi
    rw [colS_getD _ hi]
    unfold tr
    rw [List.map_map]
    have e : ((fun r : List Int => r.getD i 0) ∘ fun c => b.map fun r => r.getD c 0) = fun c => (b.getD i []).getD c 0 := by
      funext c
      exact getD_map (by omega)
    rw [e]
    have hb : b.getD i [] ∈ b := by rw [List.getD_eq_getElem?_getD, List.getElem?_eq_getElem (show i < b.length by omega)]; exact List.getElem_mem _
    rw [map_range_getD (x.row _ hb), ← x.rows]
    rw [List.getD_eq_getElem?_getD (l := b.map List.sum), List.getElem?_map, List.getD_eq_getElem?_getD, List.getElem?_eq_getElem (show i < b.length by omega)]; rfl
theorem tr_tr {b : List (List Int)} {h w : Nat} (hb : b.length = h) (hr : ∀ r ∈ b, r.length = w) : tr h (tr w b) = b := by
  refine List.ext_getElem? fun i => ?_
  by_cases hi : i < h
  · unfold tr
    rw [List.getElem?_map, List.getElem?_range hi, List.getElem?_eq_getElem (show i < b.length by omega)]
    simp only [Option.map_some, Option.some.injEq]
    rw [List.map_map]
    have e : ((fun r : List Int => r.getD i 0) ∘ fun c => b.map fun r => r.getD c 0) = fun c => (b[i]'(by omega)).getD c 0 := by
      funext c
      have := getD_map (b := b) (c := c) (i := i) (by omega)
      rw [List.getD_eq_getElem?_getD (l := b), List.getElem?_eq_getElem (show i < b.length by omega)] at this
      exact this
    rw [e]
    exact map_range_getD (hr _ (List.getElem_mem _))
  · rw [List.getElem?_eq_none (by unfold tr; rw [List.length_map, List.length_range]; omega), List.getElem?_eq_none (by omega)]
theorem left_tr_le (rs cs : List Int) : (brds rs cs).length ≤ (brds cs rs).length := by
  refine map_le (tr cs.length) (brds_nodup rs cs) (fun x hx y hy e => ?_) fun x hx => brds_mem.mpr (tr_isB (brds_mem.mp hx))
  have bx := brds_mem.mp hx
  have by_ := brds_mem.mp hy
  have lx : x.length = rs.length := by rw [← bx.rows, List.length_map]
  have ly : y.length = rs.length := by rw [← by_.rows, List.length_map]
  rw [← tr_tr lx bx.row, ← tr_tr ly by_.row, e]
theorem left_tr (rs cs : List Int) : left rs cs = left cs rs := by
  rw [left_len, left_len]
  have h1 := left_tr_le rs cs
  have h2 := left_tr_le cs rs
  omega
theorem left_permR {rs rs' : List Int} (h : rs.Perm rs') (cs : List Int) : left rs cs = left rs' cs := by
  rw [left_tr rs cs, left_tr rs' cs]; exact left_perm cs _ _ h
/-! ### marks for empty cells -/
def neg1 (b : List (List Int)) : List (List Int) := b.map fun r => r.map fun c => 1 - c
end NM

/-! the number of a board -/
namespace NM
def idx : List Int → List Int → List (List Int) → Int
  | r :: rs, cs, row :: b => (((rowChoices cs.length r).filter fun c => decide (c < row)).map fun c => left rs (sub cs c)).sum + idx rs (sub cs row) b
  | _, _, _ => 0
theorem not_neg {r : Int} {rs cs : List Int} {n : Int} (h0 : 0 ≤ n) (h : n < left (r :: rs) cs) : ¬ cs.any (fun c => decide (c < 0)) = true := fun e => by
  simp only [left] at h
  rw [if_pos e] at h
  omega
theorem pick_get {α : Type} {f : List Int → Int → Option (List (List Int))} {wy : List Int → Int} {g : List Int → List (List (List Int))} : ∀ (l : List (List Int)) (n : Int), 0 ≤ n → n < (l.map wy).sum → (∀ row ∈ l, wy row = ((g row).length : Int)) → (∀ row ∈ l, ∀ m, 0 ≤ m → m < wy row → f row m = (g row)[m.toNat]?) →
    pick f wy l n = (l.flatMap fun row => (g row).map fun b => row :: b)[n.toNat]?
  | [], n, h0, h, _, _ => by rw [List.map_nil, List.sum_nil] at h; omega
  | row :: t, n, h0, h, hw, hf => by
    rw [List.map_cons, List.sum_cons] at h
    have hwr := hw row List.mem_cons_self
    simp only [pick]
    rw [List.flatMap_cons]
    by_cases hn : n < wy row
    · rw [if_pos hn, hf row List.mem_cons_self n h0 hn, List.getElem?_append_left (by rw [List.length_map]; omega), List.getElem?_map]
    · rw [if_neg hn, pick_get (α := α) t (n - wy row) (by omega) (by omega) (fun r hr => hw r (List.mem_cons_of_mem _ hr)) (fun r hr => hf r (List.mem_cons_of_mem _ hr)), List.getElem?_append_right (by rw [List.length_map]; omega), List.length_map]
      congr 1
      omega
theorem rowsAt_get : ∀ (rs cs : List Int) (n : Int), 0 ≤ n → n < left rs cs → rowsAt rs cs n = (brds rs cs)[n.toNat]?
  | [], cs, n, h0, h => by
    simp only [left] at h
    simp only [rowsAt, brds]
    split at h
    · omega
    · rename_i h1
      split at h
      · rename_i h2
        rw [if_neg h1, if_pos h2, show n = 0 by omega]; rfl
      · omega
  | r :: rs, cs, n, h0, h => by
    have hn := not_neg h0 h
    simp only [left] at h
    rw [if_neg hn] at h
    simp only [rowsAt, brds]
    rw [if_neg hn]
    exact pick_get (α := Int) (g := fun row => brds rs (sub cs row)) _ n h0 h (fun row _ => left_len rs (sub cs row)) fun row _ m hm hm' => rowsAt_get rs (sub cs row) m hm hm'
theorem idx_flat {wy : List Int → Int} {g : List Int → List (List (List Int))} {row : List Int} {j : Nat} (hj : j < (g row).length) : ∀ (l : List (List Int)), l.Pairwise (· < ·) → row ∈ l → (∀ c ∈ l, wy c = ((g c).length : Int)) →
    0 ≤ ((l.filter fun c => decide (c < row)).map wy).sum ∧ ((l.filter fun c => decide (c < row)).map wy).sum + j < (l.map wy).sum ∧ (l.flatMap fun c => (g c).map fun b => c :: b)[((((l.filter fun c => decide (c < row)).map wy).sum + j : Int)).toNat]? = ((g row)[j]?).map fun b => row :: b
  | [], _, h, _ => nomatch h
  | c :: t, hp, h, hw => by
    obtain ⟨hp1, hp2⟩ := List.pairwise_cons.mp hp
    have hwc := hw c List.mem_cons_self
    have nn : ∀ l : List (List Int), (∀ c ∈ l, wy c = ((g c).length : Int)) → 0 ≤ (l.map wy).sum := fun l => by
      induction l with
      | nil => intro _; exact Int.le_refl _
      | cons x l ih => intro hx; rw [List.map_cons, List.sum_cons]; have := hx x List.mem_cons_self; have := ih fun r hr => hx r (List.mem_cons_of_mem _ hr); omega
    by_cases e : c = row
    · subst e
      have f0 : (c :: t).filter (fun x => decide (x < c)) = [] := by
        rw [List.filter_eq_nil_iff]
        intro x hx hlt
        have hlt := of_decide_eq_true hlt
        rcases List.mem_cons.mp hx with rfl | hx
        · exact List.lt_irrefl _ hlt
        · exact List.lt_irrefl _ (List.lt_trans hlt (hp1 x hx))
      rw [f0, List.map_nil, List.sum_nil]
      have hnt := nn t fun r hr => hw r (List.mem_cons_of_mem _ hr)
      refine ⟨Int.le_refl _, by rw [List.map_cons, List.sum_cons]; omega, ?_⟩
      rw [Int.zero_add, Int.toNat_natCast, List.flatMap_cons, List.getElem?_append_left (by rw [List.length_map]; exact hj), List.getElem?_map]
    · have hm : row ∈ t := (List.mem_cons.mp h).resolve_left fun z => e z.symm
      have hlt := hp1 row hm
      obtain ⟨i1, i2, i3⟩ := idx_flat hj t hp2 hm fun r hr => hw r (List.mem_cons_of_mem _ hr)
      rw [List.filter_cons, if_pos (decide_eq_true hlt), List.map_cons, List.sum_cons, List.map_cons, List.sum_cons, List.flatMap_cons]
      refine ⟨by omega, by omega, ?_⟩
      rw [List.getElem?_append_right (by rw [List.length_map]; omega), List.length_map, ← i3]
      congr 1
      omega
theorem idx_get : ∀ {rs cs : List Int} {b : List (List Int)}, IsB rs cs b → 0 ≤ idx rs cs b ∧ idx rs cs b < left rs cs ∧ (brds rs cs)[(idx rs cs b).toNat]? = some b
  | [], cs, b, x => by
    have hm := brds_mem.mpr x
    have hb : b = [] := List.map_eq_nil_iff.mp x.rows
    subst hb
    have hl : left [] cs = ((brds [] cs).length : Int) := left_len [] cs
    have hp := List.length_pos_of_mem hm
    have e : brds [] cs = [[]] := by
      simp only [brds] at hm ⊢
      split
      · rename_i h; rw [if_pos h] at hm; cases hm
      · rename_i h
        rw [if_neg h] at hm
        split
        · rfl
        · rename_i h'; rw [if_neg h'] at hm; cases hm
    rw [e] at hl ⊢
    exact ⟨Int.le_refl _, by rw [hl]; show (0 : Int) < 1; decide, rfl⟩
  | r :: rs, cs, [], x => by have := x.rows; cases this
  | r :: rs, cs, row :: b, x => by
    have hm := brds_mem.mpr x
    simp only [brds] at hm
    split at hm
    · cases hm
    · rename_i hn
      obtain ⟨row', h1, h2⟩ := List.mem_flatMap.mp hm
      obtain ⟨b', h3, e⟩ := List.mem_map.mp h2
      injection e with e1 e2
      subst e1 e2
      obtain ⟨i1, i2, i3⟩ := idx_get (brds_mem.mp h3)
      rw [left_len] at i2
      have hw : ∀ c ∈ rowChoices cs.length r, (fun c => left rs (sub cs c)) c = (((fun c => brds rs (sub cs c)) c).length : Int) := fun c _ => left_len rs (sub cs c)
      obtain ⟨j1, j2, j3⟩ := idx_flat (g := fun c => brds rs (sub cs c)) (wy := fun c => left rs (sub cs c)) (row := row') (j := (idx rs (sub cs row') b').toNat) (by show (idx rs (sub cs row') b').toNat < (brds rs (sub cs row')).length; omega) (rowChoices cs.length r) (rc_sorted _ _) h1 hw
      have ej : (((idx rs (sub cs row') b').toNat : Nat) : Int) = idx rs (sub cs row') b' := by omega
      rw [ej] at j2 j3
      simp only [idx, left, brds]
      rw [if_neg hn, if_neg hn]
      refine ⟨by omega, j2, ?_⟩
      rw [j3]
      show ((brds rs (sub cs row'))[(idx rs (sub cs row') b').toNat]?).map _ = _
      rw [i3]; rfl
theorem get_lt {rs cs : List Int} {i j : Nat} {a b : List (List Int)} (h : i < j) (ha : (brds rs cs)[i]? = some a) (hb : (brds rs cs)[j]? = some b) : a < b := by
  obtain ⟨h1, e1⟩ := List.getElem?_eq_some_iff.mp ha
  obtain ⟨h2, e2⟩ := List.getElem?_eq_some_iff.mp hb
  have := List.pairwise_iff_getElem.mp (brds_sorted rs cs) i j h1 h2 h
  rwa [e1, e2] at this
theorem get_inj {rs cs : List Int} {i j : Nat} {a : List (List Int)} (ha : (brds rs cs)[i]? = some a) (hb : (brds rs cs)[j]? = some a) : i = j := by
  rcases Nat.lt_trichotomy i j with h | h | h
  · exact absurd (get_lt h ha hb) (List.lt_irrefl _)
  · exact h
  · exact absurd (get_lt h hb ha) (List.lt_irrefl _)
theorem idx_rowsAt {rs cs : List Int} {n : Int} {b : List (List Int)} (h0 : 0 ≤ n) (h : n < left rs cs) (e : rowsAt rs cs n = some b) : IsB rs cs b ∧ idx rs cs b = n := by
  rw [rowsAt_get rs cs n h0 h] at e
  have x := brds_mem.mp (List.mem_of_getElem? e)
  obtain ⟨h1, h2, h3⟩ := idx_get x
  have := get_inj h3 e
  exact ⟨x, by omega⟩
end NM

namespace NM
theorem sorted_eq {a b : List (List (List Int))} (h : a.Perm b) (ha : a.Pairwise (· < ·)) (hb : b.Pairwise (· < ·)) : a = b := by
  induction a generalizing b with
  | nil => exact (List.nil_perm.mp h).symm
  | cons x t ih =>
    cases b with
    | nil => exact absurd h.length_eq (by simp)
    | cons y r =>
      obtain ⟨h1, h2⟩ := List.pairwise_cons.mp ha
      obtain ⟨h3, h4⟩ := List.pairwise_cons.mp hb
      have e : x = y := by
        rcases List.mem_cons.mp (h.mem_iff.mp List.mem_cons_self) with e | hx
        · exact e
        · rcases List.mem_cons.mp (h.mem_iff.mpr List.mem_cons_self) with e | hy
          · exact e.symm
          · exact absurd (List.lt_trans (h1 y hy) (h3 x hx)) (List.lt_irrefl _)
      subst e
      rw [ih (List.Perm.cons_inv h) h2 h4]
theorem brds_of {rs cs : List Int} {l : List (List (List Int))} (nd : l.Nodup) (hm : ∀ b, b ∈ l ↔ IsB rs cs b) : l.Perm (brds rs cs) :=
  (List.perm_ext_iff_of_nodup nd (brds_nodup rs cs)).mpr fun b => (hm b).trans brds_mem.symm
end NM

/-! exchanges on boards, and ways: over plain lists -/
namespace NM
/-- the sum of f over the numbers below n -/
def sm : Nat → (Nat → Int) → Int
  | 0, _ => 0
  | n + 1, f => sm n f + f n
theorem sm_congr : ∀ {n : Nat} {f g : Nat → Int}, (∀ i, i < n → f i = g i) → sm n f = sm n g
  | 0, _, _, _ => rfl
  | n + 1, f, g, h => by simp only [sm]; rw [sm_congr fun i hi => h i (by omega), h n (by omega)]
theorem sm_le : ∀ {n : Nat} {f g : Nat → Int}, (∀ i, i < n → f i ≤ g i) → sm n f ≤ sm n g
  | 0, _, _, _ => Int.le_refl _
  | n + 1, f, g, h => by simp only [sm]; have := sm_le (n := n) fun i hi => h i (by omega); have := h n (by omega); omega
theorem sm_add : ∀ (n : Nat) (f g : Nat → Int), sm n (fun i => f i + g i) = sm n f + sm n g
  | 0, _, _ => rfl
  | n + 1, f, g => by simp only [sm]; rw [sm_add n f g]; omega
theorem sm_const : ∀ (n : Nat) (c : Int), sm n (fun _ => c) = n * c
  | 0, c => by simp [sm]
  | n + 1, c => by simp only [sm]; rw [sm_const n c, Int.natCast_add, Int.add_mul]; simp
theorem sm_list : ∀ (l : List Int), l.sum = sm l.length fun j => l.getD j 0 := by
  intro l
  have key : ∀ (n : Nat), n ≤ l.length → (l.take n).sum = sm n fun j => l.getD j 0 := by
    intro n
    induction n with
    | zero => intro _; simp [sm]
    | succ n ih =>
      intro h
      simp only [sm]
      rw [← ih (by omega), List.take_add_one, List.sum_append, List.getD_eq_getElem?_getD, List.getElem?_eq_getElem (show n < l.length by omega)]
      simp only [Option.toList_some, List.sum_cons, List.sum_nil, Int.add_zero, Option.getD_some]
  have := key l.length (Nat.le_refl _)
  rwa [List.take_length] at this
/-- a cell -/
def cel (b : List (List Int)) (i j : Nat) : Int := (b.getD i []).getD j 0
/-! ### where two boards of the same counts differ, there is a step -/
structure Stp (h w : Nat) (A B : Nat → Nat → Int) (i k j l : Nat) : Prop where
  hi : i < h
  hk : k < h
  hj : j < w
  hl : l < w
  ij : A i j = 1 ∧ B i j = 0
  il : A i l = 0 ∧ B i l = 1
  kl : A k l = 1 ∧ B k l = 0
  kj : A k j = 0 ∨ B k j = 1
/-! ### exchanges -/
abbrev Ex := Nat × Nat × Nat × Nat
def On (h w : Nat) (e : Ex) : Prop := e.1 < e.2.1 ∧ e.2.1 < h ∧ e.2.2.1 < e.2.2.2 ∧ e.2.2.2 < w
def four (b : List (List Int)) (e : Ex) : List Int := [cel b e.1 e.2.2.1, cel b e.1 e.2.2.2, cel b e.2.1 e.2.2.1, cel b e.2.1 e.2.2.2]
def slant (b : List (List Int)) (e : Ex) : Bool := decide (four b e = [1, 0, 0, 1]) || decide (four b e = [0, 1, 1, 0])
def flip (b : List (List Int)) (i j : Nat) : List (List Int) := b.set i ((b.getD i []).set j (1 - cel b i j))
def turn (b : List (List Int)) (e : Ex) : List (List Int) := flip (flip (flip (flip b e.1 e.2.2.1) e.1 e.2.2.2) e.2.1 e.2.2.1) e.2.1 e.2.2.2
def ne1 (a b : List (List Int)) (i j : Nat) : Int := if cel a i j = cel b i j then 0 else 1
def un (a b : List (List Int)) (e : Ex) : Int := ne1 a b e.1 e.2.2.1 + ne1 a b e.1 e.2.2.2 + ne1 a b e.2.1 e.2.2.1 + ne1 a b e.2.1 e.2.2.2
def dist (h w : Nat) (a b : List (List Int)) : Int := sm h fun i => sm w fun j => ne1 a b i j
section
variable {h w : Nat} {a b : List (List Int)}
end
end NM

namespace NM
section
variable {h w : Nat} {a b : List (List Int)} {e : Ex}
/-! ### ways -/
def Can (h w : Nat) (b : List (List Int)) (e : Ex) : Prop := On h w e ∧ slant b e = true
def Walk (h w : Nat) : List Ex → List (List Int) → List (List Int) → Prop
  | [], a, b => a = b
  | e :: es, a, b => Can h w a e ∧ Walk h w es (turn a e) b
/-- what the loop keeps -/
structure WInv (h w : Nat) (a0 b0 a b : List (List Int)) (ah bh : List Ex) : Prop where
  fa : Fits h w a
  fb : Fits h w b
  hr : a.map List.sum = b.map List.sum
  hc : colS w a = colS w b
  wa : Walk h w ah a0 a
  wb : Walk h w bh b0 b
  le : 2 * ((ah.length : Int) + bh.length) + dist h w a b ≤ dist h w a0 b0
end
end NM
namespace NM
end NM

/-! when there is a board with counts: the sums over some rows -/
namespace NM
def mn (cs : List Int) (s : Int) : Int := (cs.map fun c => min c s).sum
theorem mn_sm (cs : List Int) (s : Int) : mn cs s = sm cs.length fun j => min (cs.getD j 0) s := by
  unfold mn
  rw [sm_list, List.length_map]
  refine sm_congr fun i hi => ?_
  rw [List.getD_eq_getElem?_getD, List.getElem?_map, List.getElem?_eq_getElem hi, List.getD_eq_getElem?_getD, List.getElem?_eq_getElem hi]; rfl
def GR (rs cs : List Int) : Prop := rs.sum = cs.sum ∧ ∀ I : List Int, I.Sublist rs → I.sum ≤ mn cs I.length
/-- a row with its marks in the columns that want most -/
structure Gre (cs : List Int) (r : Int) (g : List Int) : Prop where
  len : g.length = cs.length
  bits : ∀ c ∈ g, c = 0 ∨ c = 1
  sum : g.sum = r
  top : ∀ j l, j < cs.length → l < cs.length → g.getD j 0 = 1 → g.getD l 0 = 0 → cs.getD l 0 ≤ cs.getD j 0
/-! ### a board shows it -/
theorem sum_sublist {a b : List Int} (h : a.Sublist b) (hb : ∀ x ∈ b, 0 ≤ x) : a.sum ≤ b.sum := by
  induction h with
  | slnil => exact Int.le_refl _
  | cons x _ ih => rw [List.sum_cons]; have := hb x (by simp); have := ih fun y hy => hb y (by simp [hy]); omega
  | cons_cons x _ ih => rw [List.sum_cons, List.sum_cons]; have := ih fun y hy => hb y (by simp [hy]); omega
theorem sum_swap : ∀ (B : List (List Int)) (w : Nat), (∀ r ∈ B, r.length = w) → (B.map List.sum).sum = sm w fun c => (B.map fun r => r.getD c 0).sum
  | [], w, _ => by
    have := sm_const w 0
    simp only [List.map_nil, List.sum_nil]
    omega
  | r :: B, w, h => by
    rw [List.map_cons, List.sum_cons, sum_swap B w fun x hx => h x (by simp [hx]), sm_list r, h r (by simp), ← sm_add]
    exact sm_congr fun j _ => by rw [List.map_cons, List.sum_cons]
theorem gr_of_board {rs cs : List Int} {b : List (List Int)} (x : IsB rs cs b) : GR rs cs := by
  have hcol : ∀ c, c < cs.length → (b.map fun r => r.getD c 0).sum = cs.getD c 0 := fun c hc => by
    rw [← colS_getD b hc, x.cols]
  refine ⟨?_, fun I hI => ?_⟩
  · rw [← x.rows, sum_swap b cs.length x.row, sm_list cs]
    exact sm_congr hcol
  · rw [← x.rows] at hI
    obtain ⟨B, hB, rfl⟩ := List.sublist_map_iff.mp hI
    rw [sum_swap B cs.length fun r hr => x.row r (hB.subset hr), mn_sm, List.length_map]
    refine sm_le fun c hc => ?_
    have h1 : (B.map fun r => r.getD c 0).sum ≤ (b.map fun r => r.getD c 0).sum := sum_sublist (hB.map _) fun y hy => by
      rcases col_bits x.bit c y hy with z | z <;> omega
    rw [hcol c hc] at h1
    have h2 := (bits_nn (col_bits (fun r hr => x.bit r (hB.subset hr)) c)).2
    rw [List.length_map] at h2
    omega
/-! ### the greatest rows -/
def pos (t : Int) (l : List Int) : Int := (l.map fun x => max (x - t) 0).sum
/-! ### a row by an order of the columns -/
def rowBy (w : Nat) (T : List Nat) : List Int := (List.range w).map fun j => if j ∈ T then 1 else 0
end NM

namespace NM
theorem left_pos {rs cs : List Int} : 0 < left rs cs ↔ ∃ b, IsB rs cs b := by
  rw [left_len]
  constructor
  · intro h
    have : (brds rs cs) ≠ [] := fun e => by rw [e] at h; simp at h
    obtain ⟨b, hb⟩ := List.exists_mem_of_ne_nil _ this
    exact ⟨b, brds_mem.mp hb⟩
  · rintro ⟨b, hb⟩
    have := List.length_pos_of_mem (brds_mem.mpr hb)
    omega
/-! ### a row that leaves most, with one cell held -/
/-- the wants with one put above or below all -/
def led (cs : List Int) (col : Nat) (x : Int) : List Int := cs.set col x
/-! ### walls -/
end NM

/-! at most 127 boards of four rows and columns -/
namespace NM
/-- the rising lists of n numbers from nought to m -/
def risings : Nat → Nat → List (List Int)
  | 0, _ => [[]]
  | n + 1, m => (List.range (m + 1)).flatMap fun e : Nat => ((risings n m).filter fun l => l.all fun x => decide ((e : Int) ≤ x)).map fun l => (e : Int) :: l
theorem risings_has : ∀ {l : List Int} {m : Nat}, (∀ e ∈ l, 0 ≤ e ∧ e ≤ m) → l.Pairwise (· ≤ ·) → l ∈ risings l.length m
  | [], m, _, _ => by simp [risings]
  | x :: l, m, h, p => by
    obtain ⟨p1, p2⟩ := List.pairwise_cons.mp p
    have hx := h x (by simp)
    have ih := risings_has (l := l) (m := m) (fun e he => h e (by simp [he])) p2
    simp only [List.length_cons, risings]
    refine List.mem_flatMap.mpr ⟨x.toNat, List.mem_range.mpr (by omega), List.mem_map.mpr ⟨l, List.mem_filter.mpr ⟨ih, List.all_eq_true.mpr fun y hy => decide_eq_true ?_⟩, ?_⟩⟩
    · have := p1 y hy
      omega
    · rw [Int.toNat_of_nonneg hx.1]
theorem risings_perm {l : List Int} {m : Nat} (h : ∀ e ∈ l, 0 ≤ e ∧ e ≤ m) : ∃ y ∈ risings l.length m, l.Perm y := by
  have p := List.mergeSort_perm l fun a b => decide (a ≤ b)
  have s := List.pairwise_mergeSort (le := fun a b : Int => decide (a ≤ b)) (fun a b c h1 h2 => by simp only [decide_eq_true_eq] at *; omega) (fun a b => by simp only [Bool.or_eq_true, decide_eq_true_eq]; omega) l
  refine ⟨l.mergeSort fun a b => decide (a ≤ b), ?_, p.symm⟩
  have := risings_has (l := l.mergeSort fun a b => decide (a ≤ b)) (m := m) (fun e he => h e (p.subset he)) (s.imp fun h => of_decide_eq_true h)
  rwa [p.length_eq] at this
def allFew : Bool := (List.range 5).all fun h => (List.range 5).all fun w => (risings h w).all fun r => (risings w h).all fun c => (r.sum != c.sum) || decide (left r c ≤ 127)
theorem all_few : allFew = true := by decide +kernel
theorem left_few {rs cs : List Int} (hr : rs.length ≤ 4) (hc : cs.length ≤ 4) (rb : ∀ e ∈ rs, 0 ≤ e ∧ e ≤ cs.length) (cb : ∀ e ∈ cs, 0 ≤ e ∧ e ≤ rs.length) : left rs cs ≤ 127 := by
  obtain ⟨r, r1, r2⟩ := risings_perm rb
  obtain ⟨c, c1, c2⟩ := risings_perm cb
  have e : left rs cs = left r c := by rw [left_permR r2 cs]; exact left_perm r _ _ c2
  rw [e]
  by_cases hs : r.sum = c.sum
  · have h1 := List.all_eq_true.mp (List.all_eq_true.mp (List.all_eq_true.mp (List.all_eq_true.mp all_few rs.length (List.mem_range.mpr (by omega))) cs.length (List.mem_range.mpr (by omega))) r r1) c c1
    rw [Bool.or_eq_true] at h1
    rcases h1 with h1 | h1
    · rw [bne_iff_ne] at h1; exact absurd hs h1
    · exact of_decide_eq_true h1
  · have : ¬ 0 < left r c := fun z => by
      obtain ⟨b, hb⟩ := left_pos.mp z
      exact hs (gr_of_board hb).1
    omega
end NM


set_option Elab.async false
set_option linter.all false
set_option maxRecDepth 100000
set_option maxHeartbeats 4000000
namespace K04
open PySem L2
def top (i : Nat) : Stmt := PySem.Challenge.pw_markcounts_k04_whole_boards_counted.main.body.getD i (.Pass ⟨0, 0, 0, 0⟩)
abbrev s_is_sized : Stmt := top 8
abbrev s_is_row : Stmt := top 9
abbrev s_is_board : Stmt := top 10
abbrev s_are_within : Stmt := top 11
abbrev s_are_counts : Stmt := top 12
abbrev s_need_board : Stmt := top 13
abbrev s_need_counts : Stmt := top 14
abbrev s_marks_in_column : Stmt := top 15
abbrev s_counts : Stmt := top 16
abbrev s_columns_behind : Stmt := top 17
abbrev s_row_choices : Stmt := top 19
abbrev s_boards_left : Stmt := top 20
abbrev s_many : Stmt := top 21
abbrev s_rows_at : Stmt := top 22
abbrev s_board_at : Stmt := top 23
abbrev s_number_of : Stmt := top 24
abbrev s__law_cell_at : Stmt := top 26
abbrev s__law_whole : Stmt := top 27
abbrev s__law_bits : Stmt := top 29
abbrev s__law_board_by : Stmt := top 30
abbrev s__law_counts : Stmt := top 31
abbrev s__law_near_by : Stmt := top 32
abbrev s__law_is_board : Stmt := top 33
abbrev s__law_every_row : Stmt := top 34
abbrev s__law_all : Stmt := top 35
abbrev s__law_more : Stmt := top 36
abbrev s_law : Stmt := top 37
theorem sc_is_sized : FnScope ["things"] ["things"] (defScope s_is_sized) := ⟨rfl, rfl, rfl, by decide +kernel, rfl, by decide +kernel, by decide +kernel⟩
theorem sc_is_row : FnScope ["row", "width"] ["row", "width"] (defScope s_is_row) := ⟨rfl, rfl, rfl, by decide +kernel, rfl, by decide +kernel, by decide +kernel⟩
theorem sc_is_board : FnScope ["board"] ["board"] (defScope s_is_board) := ⟨rfl, rfl, rfl, by decide +kernel, rfl, by decide +kernel, by decide +kernel⟩
theorem sc_are_within : FnScope ["numbers", "most"] ["numbers", "most"] (defScope s_are_within) := ⟨rfl, rfl, rfl, by decide +kernel, rfl, by decide +kernel, by decide +kernel⟩
theorem sc_are_counts : FnScope ["rows", "columns"] ["rows", "columns"] (defScope s_are_counts) := ⟨rfl, rfl, rfl, by decide +kernel, rfl, by decide +kernel, by decide +kernel⟩
theorem sc_need_board : FnScope ["board"] ["board"] (defScope s_need_board) := ⟨rfl, rfl, rfl, by decide +kernel, rfl, by decide +kernel, by decide +kernel⟩
theorem sc_need_counts : FnScope ["rows", "columns"] ["rows", "columns"] (defScope s_need_counts) := ⟨rfl, rfl, rfl, by decide +kernel, rfl, by decide +kernel, by decide +kernel⟩
theorem sc_marks_in_column : FnScope ["board", "column"] ["board", "column"] (defScope s_marks_in_column) := ⟨rfl, rfl, rfl, by decide +kernel, rfl, by decide +kernel, by decide +kernel⟩
theorem sc_counts : FnScope ["board", "rows", "columns"] ["board"] (defScope s_counts) := ⟨rfl, rfl, rfl, by decide +kernel, rfl, by decide +kernel, by decide +kernel⟩
theorem sc_columns_behind : FnScope ["columns", "row"] ["columns", "row"] (defScope s_columns_behind) := ⟨rfl, rfl, rfl, by decide +kernel, rfl, by decide +kernel, by decide +kernel⟩
theorem sc_row_choices : FnScope ["width", "marks", "unmarked", "marked"] ["width", "marks"] (defScope s_row_choices) := ⟨rfl, rfl, rfl, by decide +kernel, rfl, by decide +kernel, by decide +kernel⟩
theorem sc_boards_left : FnScope ["rows", "columns", "known", "key", "choices"] ["rows", "columns", "known"] (defScope s_boards_left) := ⟨rfl, rfl, rfl, by decide +kernel, rfl, by decide +kernel, by decide +kernel⟩
theorem sc_many : FnScope ["rows", "columns"] ["rows", "columns"] (defScope s_many) := ⟨rfl, rfl, rfl, by decide +kernel, rfl, by decide +kernel, by decide +kernel⟩
theorem sc_rows_at : FnScope ["rows", "columns", "number", "known", "row", "behind", "ways"] ["rows", "columns", "number", "known"] (defScope s_rows_at) := ⟨rfl, rfl, rfl, by decide +kernel, rfl, by decide +kernel, by decide +kernel⟩
theorem sc_board_at : FnScope ["rows", "columns", "number"] ["rows", "columns", "number"] (defScope s_board_at) := ⟨rfl, rfl, rfl, by decide +kernel, rfl, by decide +kernel, by decide +kernel⟩
theorem sc_number_of : FnScope ["board", "told", "rows", "columns", "known", "number", "place", "row", "choice"] ["board"] (defScope s_number_of) := ⟨rfl, rfl, rfl, by decide +kernel, rfl, by decide +kernel, by decide +kernel⟩
theorem sc__law_cell_at : FnScope ["script", "k"] ["script", "k"] (defScope s__law_cell_at) := ⟨rfl, rfl, rfl, by decide +kernel, rfl, by decide +kernel, by decide +kernel⟩
theorem sc__law_whole : FnScope ["found"] ["found"] (defScope s__law_whole) := ⟨rfl, rfl, rfl, by decide +kernel, rfl, by decide +kernel, by decide +kernel⟩
theorem sc__law_bits : FnScope ["cell", "size", "number", "bits", "k"] ["cell", "size"] (defScope s__law_bits) := ⟨rfl, rfl, rfl, by decide +kernel, rfl, by decide +kernel, by decide +kernel⟩
theorem sc__law_board_by : FnScope ["script", "at", "most", "high", "wide"] ["script", "at", "most"] (defScope s__law_board_by) := ⟨rfl, rfl, rfl, by decide +kernel, rfl, by decide +kernel, by decide +kernel⟩
theorem sc__law_counts : FnScope ["board", "columns", "row"] ["board"] (defScope s__law_counts) := ⟨rfl, rfl, rfl, by decide +kernel, rfl, by decide +kernel, by decide +kernel⟩
theorem sc__law_near_by : FnScope ["script", "at", "most", "rows", "columns", "k", "one", "other"] ["script", "at", "most"] (defScope s__law_near_by) := ⟨rfl, rfl, rfl, by decide +kernel, rfl, by decide +kernel, by decide +kernel⟩
theorem sc__law_is_board : FnScope ["board", "row", "cell"] ["board"] (defScope s__law_is_board) := ⟨rfl, rfl, rfl, by decide +kernel, rfl, by decide +kernel, by decide +kernel⟩
theorem sc__law_every_row : FnScope ["size", "found", "k"] ["size"] (defScope s__law_every_row) := ⟨rfl, rfl, rfl, by decide +kernel, rfl, by decide +kernel, by decide +kernel⟩
theorem sc__law_all : FnScope ["rows", "columns", "found", "count", "longer", "row"] ["rows", "columns"] (defScope s__law_all) := ⟨rfl, rfl, rfl, by decide +kernel, rfl, by decide +kernel, by decide +kernel⟩
theorem sc__law_more : FnScope ["board", "row", "columns", "made", "k"] ["board", "row", "columns"] (defScope s__law_more) := ⟨rfl, rfl, rfl, by decide +kernel, rfl, by decide +kernel, by decide +kernel⟩
theorem sc_law : FnScope ["script", "rows", "columns", "handed", "due", "found", "picks", "k", "board", "back", "row"] ["script"] (defScope s_law) := ⟨rfl, rfl, rfl, by decide +kernel, rfl, by decide +kernel, by decide +kernel⟩
structure Ad where
  f_is_sized : Addr
  d_is_sized : FuncData
  f_is_row : Addr
  d_is_row : FuncData
  f_is_board : Addr
  d_is_board : FuncData
  f_are_within : Addr
  d_are_within : FuncData
  f_are_counts : Addr
  d_are_counts : FuncData
  f_need_board : Addr
  d_need_board : FuncData
  f_need_counts : Addr
  d_need_counts : FuncData
  f_marks_in_column : Addr
  d_marks_in_column : FuncData
  f_counts : Addr
  d_counts : FuncData
  f_columns_behind : Addr
  d_columns_behind : FuncData
  f_row_choices : Addr
  d_row_choices : FuncData
  f_boards_left : Addr
  d_boards_left : FuncData
  f_many : Addr
  d_many : FuncData
  f_rows_at : Addr
  d_rows_at : FuncData
  f_board_at : Addr
  d_board_at : FuncData
  f_number_of : Addr
  d_number_of : FuncData
  f__law_cell_at : Addr
  d__law_cell_at : FuncData
  f__law_whole : Addr
  d__law_whole : FuncData
  f__law_bits : Addr
  d__law_bits : FuncData
  f__law_board_by : Addr
  d__law_board_by : FuncData
  f__law_counts : Addr
  d__law_counts : FuncData
  f__law_near_by : Addr
  d__law_near_by : FuncData
  f__law_is_board : Addr
  d__law_is_board : FuncData
  f__law_every_row : Addr
  d__law_every_row : FuncData
  f__law_all : Addr
  d__law_all : FuncData
  f__law_more : Addr
  d__law_more : FuncData
  f_law : Addr
  d_law : FuncData
  c_MarkError : Addr
  c_NoBoard : Addr
  c_NoCounts : Addr
  c_NoNumber : Addr
theorem bt_len : bootBuiltins "len" = some (.builtin "len") := by decide +kernel
theorem bt_all : bootBuiltins "all" = some (.builtin "all") := by decide +kernel
theorem bt_sum : bootBuiltins "sum" = some (.builtin "sum") := by decide +kernel
theorem bt_min : bootBuiltins "min" = some (.builtin "min") := by decide +kernel
theorem bt_tuple : bootBuiltins "tuple" = some (.type "tuple") := by decide +kernel
theorem bt_sorted : bootBuiltins "sorted" = some (.builtin "sorted") := by decide +kernel
theorem bt_max : bootBuiltins "max" = some (.builtin "max") := by decide +kernel
theorem bt_isinstance : bootBuiltins "isinstance" = some (.builtin "isinstance") := by decide +kernel
theorem bt_int : bootBuiltins "int" = some (.type "int") := by decide +kernel
theorem bt_bool : bootBuiltins "bool" = some (.type "bool") := by decide +kernel
theorem bt_list : bootBuiltins "list" = some (.type "list") := by decide +kernel
structure Tx (K : PySem.W.Frag) (mg : Str → Option Value) (a : Ad) : Prop where
  F_is_sized : Fun K "is_sized" "is_sized" s_is_sized a.f_is_sized a.d_is_sized
  m_is_sized : mg "is_sized" = some (.ref a.f_is_sized)
  B_is_sized : Binds K a.d_is_sized ["things"] []
  F_is_row : Fun K "is_row" "is_row" s_is_row a.f_is_row a.d_is_row
  m_is_row : mg "is_row" = some (.ref a.f_is_row)
  B_is_row : Binds K a.d_is_row ["row", "width"] []
  F_is_board : Fun K "is_board" "is_board" s_is_board a.f_is_board a.d_is_board
  m_is_board : mg "is_board" = some (.ref a.f_is_board)
  B_is_board : Binds K a.d_is_board ["board"] []
  F_are_within : Fun K "are_within" "are_within" s_are_within a.f_are_within a.d_are_within
  m_are_within : mg "are_within" = some (.ref a.f_are_within)
  B_are_within : Binds K a.d_are_within ["numbers", "most"] []
  F_are_counts : Fun K "are_counts" "are_counts" s_are_counts a.f_are_counts a.d_are_counts
  m_are_counts : mg "are_counts" = some (.ref a.f_are_counts)
  B_are_counts : Binds K a.d_are_counts ["rows", "columns"] []
  F_need_board : Fun K "need_board" "need_board" s_need_board a.f_need_board a.d_need_board
  m_need_board : mg "need_board" = some (.ref a.f_need_board)
  B_need_board : Binds K a.d_need_board ["board"] []
  F_need_counts : Fun K "need_counts" "need_counts" s_need_counts a.f_need_counts a.d_need_counts
  m_need_counts : mg "need_counts" = some (.ref a.f_need_counts)
  B_need_counts : Binds K a.d_need_counts ["rows", "columns"] []
  F_marks_in_column : Fun K "marks_in_column" "marks_in_column" s_marks_in_column a.f_marks_in_column a.d_marks_in_column
  m_marks_in_column : mg "marks_in_column" = some (.ref a.f_marks_in_column)
  B_marks_in_column : Binds K a.d_marks_in_column ["board", "column"] []
  F_counts : Fun K "counts" "counts" s_counts a.f_counts a.d_counts
  m_counts : mg "counts" = some (.ref a.f_counts)
  B_counts : Binds K a.d_counts ["board"] []
  F_columns_behind : Fun K "columns_behind" "columns_behind" s_columns_behind a.f_columns_behind a.d_columns_behind
  m_columns_behind : mg "columns_behind" = some (.ref a.f_columns_behind)
  B_columns_behind : Binds K a.d_columns_behind ["columns", "row"] []
  F_row_choices : Fun K "row_choices" "row_choices" s_row_choices a.f_row_choices a.d_row_choices
  m_row_choices : mg "row_choices" = some (.ref a.f_row_choices)
  B_row_choices : Binds K a.d_row_choices ["width", "marks"] []
  F_boards_left : Fun K "boards_left" "boards_left" s_boards_left a.f_boards_left a.d_boards_left
  m_boards_left : mg "boards_left" = some (.ref a.f_boards_left)
  B_boards_left : Binds K a.d_boards_left ["rows", "columns", "known"] []
  F_many : Fun K "many" "many" s_many a.f_many a.d_many
  m_many : mg "many" = some (.ref a.f_many)
  B_many : Binds K a.d_many ["rows", "columns"] []
  F_rows_at : Fun K "rows_at" "rows_at" s_rows_at a.f_rows_at a.d_rows_at
  m_rows_at : mg "rows_at" = some (.ref a.f_rows_at)
  B_rows_at : Binds K a.d_rows_at ["rows", "columns", "number", "known"] []
  F_board_at : Fun K "board_at" "board_at" s_board_at a.f_board_at a.d_board_at
  m_board_at : mg "board_at" = some (.ref a.f_board_at)
  B_board_at : Binds K a.d_board_at ["rows", "columns", "number"] []
  F_number_of : Fun K "number_of" "number_of" s_number_of a.f_number_of a.d_number_of
  m_number_of : mg "number_of" = some (.ref a.f_number_of)
  B_number_of : Binds K a.d_number_of ["board"] []
  F__law_cell_at : Fun K "_law_cell_at" "_law_cell_at" s__law_cell_at a.f__law_cell_at a.d__law_cell_at
  m__law_cell_at : mg "_law_cell_at" = some (.ref a.f__law_cell_at)
  B__law_cell_at : Binds K a.d__law_cell_at ["script", "k"] []
  F__law_whole : Fun K "_law_whole" "_law_whole" s__law_whole a.f__law_whole a.d__law_whole
  m__law_whole : mg "_law_whole" = some (.ref a.f__law_whole)
  B__law_whole : Binds K a.d__law_whole ["found"] []
  F__law_bits : Fun K "_law_bits" "_law_bits" s__law_bits a.f__law_bits a.d__law_bits
  m__law_bits : mg "_law_bits" = some (.ref a.f__law_bits)
  B__law_bits : Binds K a.d__law_bits ["cell", "size"] []
  F__law_board_by : Fun K "_law_board_by" "_law_board_by" s__law_board_by a.f__law_board_by a.d__law_board_by
  m__law_board_by : mg "_law_board_by" = some (.ref a.f__law_board_by)
  B__law_board_by : Binds K a.d__law_board_by ["script", "at", "most"] []
  F__law_counts : Fun K "_law_counts" "_law_counts" s__law_counts a.f__law_counts a.d__law_counts
  m__law_counts : mg "_law_counts" = some (.ref a.f__law_counts)
  B__law_counts : Binds K a.d__law_counts ["board"] []
  F__law_near_by : Fun K "_law_near_by" "_law_near_by" s__law_near_by a.f__law_near_by a.d__law_near_by
  m__law_near_by : mg "_law_near_by" = some (.ref a.f__law_near_by)
  B__law_near_by : Binds K a.d__law_near_by ["script", "at", "most"] []
  F__law_is_board : Fun K "_law_is_board" "_law_is_board" s__law_is_board a.f__law_is_board a.d__law_is_board
  m__law_is_board : mg "_law_is_board" = some (.ref a.f__law_is_board)
  B__law_is_board : Binds K a.d__law_is_board ["board"] []
  F__law_every_row : Fun K "_law_every_row" "_law_every_row" s__law_every_row a.f__law_every_row a.d__law_every_row
  m__law_every_row : mg "_law_every_row" = some (.ref a.f__law_every_row)
  B__law_every_row : Binds K a.d__law_every_row ["size"] []
  F__law_all : Fun K "_law_all" "_law_all" s__law_all a.f__law_all a.d__law_all
  m__law_all : mg "_law_all" = some (.ref a.f__law_all)
  B__law_all : Binds K a.d__law_all ["rows", "columns"] []
  F__law_more : Fun K "_law_more" "_law_more" s__law_more a.f__law_more a.d__law_more
  m__law_more : mg "_law_more" = some (.ref a.f__law_more)
  B__law_more : Binds K a.d__law_more ["board", "row", "columns"] []
  F_law : Fun K "law" "law" s_law a.f_law a.d_law
  m_law : mg "law" = some (.ref a.f_law)
  B_law : Binds K a.d_law ["script"] []
  g_LEAST_SIZE : ∃ t, mg "LEAST_SIZE" = some (.int 1 t)
  g_MOST_SIZE : ∃ t, mg "MOST_SIZE" = some (.int 6 t)
  b_len : mg "len" = none
  b_all : mg "all" = none
  b_sum : mg "sum" = none
  b_range : mg "range" = none
  b_zip : mg "zip" = none
  b_min : mg "min" = none
  b_tuple : mg "tuple" = none
  b_sorted : mg "sorted" = none
  b_max : mg "max" = none
  b_enumerate : mg "enumerate" = none
  b_isinstance : mg "isinstance" = none
  b_int : mg "int" = none
  b_bool : mg "bool" = none
  b_list : mg "list" = none
  m_MarkError : mg "MarkError" = some (.ref a.c_MarkError)
  m_NoBoard : mg "NoBoard" = some (.ref a.c_NoBoard)
  m_NoCounts : mg "NoCounts" = some (.ref a.c_NoCounts)
  m_NoNumber : mg "NoNumber" = some (.ref a.c_NoNumber)
  x_MarkError : ExcCls K a.c_MarkError bmV "ValueError.__new__"
  x_NoBoard : ExcCls K a.c_NoBoard (.ref a.c_MarkError :: bmV) "ValueError.__new__"
  x_NoCounts : ExcCls K a.c_NoCounts (.ref a.c_MarkError :: bmV) "ValueError.__new__"
  x_NoNumber : ExcCls K a.c_NoNumber (.ref a.c_MarkError :: bmV) "ValueError.__new__"
  kits : ∀ c ∈ [a.c_NoBoard, a.c_NoCounts, a.c_NoNumber], ExcKit K c
  k_NoBoard : [a.c_NoBoard, a.c_NoCounts, a.c_NoNumber].map (fun d => PySem.W.kitOne K (.ref a.c_NoBoard) (.ref d)) = [some true, some false, some false]
  v_NoBoard : PySem.W.kitOne K (.ref a.c_NoBoard) (.type "ValueError") = some true
  k_NoCounts : [a.c_NoBoard, a.c_NoCounts, a.c_NoNumber].map (fun d => PySem.W.kitOne K (.ref a.c_NoCounts) (.ref d)) = [some false, some true, some false]
  v_NoCounts : PySem.W.kitOne K (.ref a.c_NoCounts) (.type "ValueError") = some true
  k_NoNumber : [a.c_NoBoard, a.c_NoCounts, a.c_NoNumber].map (fun d => PySem.W.kitOne K (.ref a.c_NoNumber) (.ref d)) = [some false, some false, some true]
  v_NoNumber : PySem.W.kitOne K (.ref a.c_NoNumber) (.type "ValueError") = some true
end K04


set_option Elab.async false
set_option linter.all false
set_option maxRecDepth 100000
set_option maxHeartbeats 4000000
namespace K04
open PySem L2
section
variable {P : Program} {w : World} {K : PySem.W.Frag} {mg : Str → Option Value} {base : Heap} {a : Ad}
section
variable {ρ : Rho} {ta tb : TE}
theorem y_catI {x y : List Int} (ha : Y K ρ ta (dI x)) (hb : Y K ρ tb (dI y)) (hn : x.length + y.length ≤ 1000) : Y K ρ (tOp (rCatS K) ta tb) (dI (x ++ y)) := (y_cat (ds := x.map .int) (es := y.map .int) ha hb (by simpa using hn)).to (by unfold dI; rw [List.map_append])
theorem y_catII {x y : List (List Int)} (ha : Y K ρ ta (dII x)) (hb : Y K ρ tb (dII y)) (hn : x.length + y.length ≤ 1000) : Y K ρ (tOp (rCatS K) ta tb) (dII (x ++ y)) := (y_cat (ds := x.map dI) (es := y.map dI) ha hb (by simpa using hn)).to (by unfold dII; rw [List.map_append])
theorem y_slI {x : List Int} {tl th : TO} {lo hi : Option Int} (ha : Y K ρ ta (dI x)) (hl : YO K ρ tl lo) (hh : YO K ρ th hi) : Y K ρ (tSl (rSlL K) ta tl th) (dI (cutL x lo hi)) := (y_slL (ds := x.map .int) ha hl hh).to (by unfold dI; rw [cutL_map])
theorem y_oneI {i : Int} (ha : Y K ρ ta (.int i)) : Y K ρ (tLst (tCons ta tNil)) (dI [i]) := y_lst (ya_cons ha ya_nil)
end
theorem cut_tail (r : Int) (rs : List Int) : cutL (r :: rs) (some 1) none = rs := by
  unfold cutL
  rw [show (some (1 : Int)) = some ((1 : Nat) : Int) from rfl, HT.sIx_nat, HT.sIx_none]
  have e : min 1 (r :: rs).length = 1 := by simp
  rw [e]
  show (rs.take _) = rs
  rw [List.take_of_length_le (by simp)]
def sized (n : Nat) : Bool := decide ((1 : Int) ≤ n) && decide ((n : Int) ≤ 6)
def hd0 (b : List (List Int)) : List Int := b.headD []
theorem at0 {b : List (List Int)} (h : b ≠ []) : atI (b.map dI) 0 = some (dI (hd0 b)) := by
  cases b with
  | nil => exact absurd rfl h
  | cons r t => exact atI_nat (j := 0) rfl
def colSum (b : List (List Int)) (c : Nat) : Int := (b.map fun r => r.getD c 0).sum
def rowsOf (b : List (List Int)) : List Int := b.map List.sum
def hd1 (l : List Int) : Int := l.headD 0
def colsOf (b : List (List Int)) : List Int := (List.range (hd0 b).length).map fun c => colSum b c
abbrev sp_is_sized (K : PySem.W.Frag) : Sp := spF K (fun ds : List PyData => [.list ds]) (fun _ => True) (fun ds => .bool (sized ds.length))
theorem ok_is_sized (T : Tx K mg a) : FnOk P w K mg base CX0 1 a.f_is_sized a.d_is_sized ["things"] (sp_is_sized K) :=
  T.F_is_sized.okD sc_is_sized (fun _ => rfl) fun cdv A outer s H E hr => ⟨_, (pss_one (ps_ret (pe_chain op_le op_le (pe_glob (v := .int 1) rfl T.g_LEAST_SIZE.choose_spec ⟨_, rfl⟩) (pe_callB (call_len_seq' (K := K) rfl) rfl T.b_len bt_len (pa_cons (pv 0) pa_nil)) (pe_glob (v := .int 6) rfl T.g_MOST_SIZE.choose_spec ⟨_, rfl⟩)))), fun ds _ =>
    ys_ret (y_chainI y_int (y_len (y_var rfl)) y_int) rfl⟩
def cell01 (c : Int) : Bool := ctn [0, 1] c
def isRow (ns : List Int) (w : Int) : Bool := decide ((ns.length : Int) = w) && (ns.map cell01).all id
abbrev sp_is_row (K : PySem.W.Frag) : Sp := spF K (fun a : List Int × Int => [dI a.1, .int a.2]) (fun a => a.1.length ≤ 1000) (fun a => .bool (isRow a.1 a.2))
theorem ok_is_row (T : Tx K mg a) : FnOk P w K mg base CX0 1 a.f_is_row a.d_is_row ["row", "width"] (sp_is_row K) :=
  T.F_is_row.okD sc_is_row (fun _ => rfl) fun cdv A outer s H E hr => ⟨_, (pss_one (ps_ret (pe_and (pe_cmpR op_eq (pe_callB (call_len_seq' (K := K) rfl) rfl T.b_len bt_len (pa_cons (pv 0) pa_nil)) (pv 1) (nomark _)) (pe_one (pe_callB (call_all' (K := K) rfl rfl) rfl T.b_all bt_all (pa_cons (pe_comp (N' := ["cell"]) (k := 1) (cap := []) (CompOk.of (sc := (defScope s_is_row)) (N := ["row", "width"]) rfl rfl (by decide +kernel)) (pi_list' (K := K) rfl rfl (pv 0)) (fun _ _ _ _ => pg_name (i := 0) (by decide +kernel : (["cell"] : List Str).Nodup) rfl (Or.inl rfl)) (gk_name (by decide)) (fun _ _ _ _ => pf_nil) (fun _ _ _ _ => (pe_cmpR (op_in_seq' (K := K) rfl) (pv 0) (pe_tup (pa_cons pe_int (pa_cons pe_int pa_nil))) rfl))) pa_nil)))))), fun ⟨ns, w⟩ h =>
    ys_ret ((y_and (y_eqI (y_len (ds := ns.map .int) (y_var rfl)) (y_var rfl)) fun _ => y_all (bs := ns.map cell01) (yn_compT (y_var rfl) cell01 h fun x _ => y_inT (ms := [0, 1]) (y_var rfl) (y_tup (ya_cons y_int (ya_cons y_int ya_nil)))).y).to (by rw [List.length_map]; rfl)) rfl⟩
def isBoard (b : List (List Int)) : Bool := if (!sized b.length || !sized (hd0 b).length) = true then false else (b.map fun r => isRow r (hd0 b).length).all id
def Small (b : List (List Int)) : Prop := b.length ≤ 1000 ∧ ∀ r ∈ b, r.length ≤ 1000
theorem sized_ne {b : List (List Int)} (h : (!sized b.length) = false) : b ≠ [] := by rintro rfl; exact absurd h (by decide)
abbrev sp_is_board (K : PySem.W.Frag) : Sp := spF K (fun b : List (List Int) => [dII b]) Small (fun b => .bool (isBoard b))
theorem ok_is_board (T : Tx K mg a) : FnOk P w K mg base CX0 2 a.f_is_board a.d_is_board ["board"] (sp_is_board K) :=
  T.F_is_board.okD sc_is_board (fun _ => rfl) fun cdv A outer s H E hr => ⟨_, (pss_cons (ps_if (PW.pt (pw_or (pt_not (pt_val (pe_call ((ok_is_sized T).mono (by first | decide | omega)) hr rfl T.m_is_sized T.F_is_sized.kp T.B_is_sized .nil pass0 (pa_cons (pv 0) pa_nil)))) (pw_or1 (pt_not (pt_val (pe_call ((ok_is_sized T).mono (by first | decide | omega)) hr rfl T.m_is_sized T.F_is_sized.kp T.B_is_sized .nil pass0 (pa_cons (pe_ix (ix_list' (K := K) rfl) (pv 0) pe_int (fun _ _ => rfl)) pa_nil))))))) (pss_one (ps_ret pe_bl)) pss_nil) (pss_one (ps_ret (pe_callB (call_all' (K := K) rfl rfl) rfl T.b_all bt_all (pa_cons (pe_comp (N' := ["row", "board"]) (k := 1) (cap := [0]) (CompOk.of (sc := (defScope s_is_board)) (N := ["board"]) rfl rfl (by decide +kernel)) (pi_list' (K := K) rfl rfl (pv 0)) (fun _ _ _ _ => pg_name (i := 0) (by decide +kernel : (["row", "board"] : List Str).Nodup) rfl (Or.inl rfl)) (gk_name (by decide)) (fun _ _ _ _ => pf_nil) (fun _ _ _ _ => (pe_call ((ok_is_row T).mono (by first | decide | omega)) hr rfl T.m_is_row T.F_is_row.kp T.B_is_row .nil pass0 (pa_cons (pv 0) (pa_cons (pe_callB (call_len_seq' (K := K) rfl) rfl T.b_len bt_len (pa_cons (pe_ix (ix_list' (K := K) rfl) (pv 1) pe_int (fun _ _ => rfl)) pa_nil)) pa_nil))))) pa_nil))))), fun b hb => by
    have hl : (b.map dI).length = b.length := List.length_map _
    have hl0 : ((hd0 b).map PyData.int).length = (hd0 b).length := List.length_map _
    refine ys_seq (ys_if (b := !sized b.length || !sized (hd0 b).length) (yb_or (yb_not (yb_b (y_cl (b.map dI) (ya_cons (y_var rfl) ya_nil) trivial (by rw [hl])))) fun h => yb_not (yb_b (y_cl ((hd0 b).map .int) (ya_cons (y_ixL (ds := b.map dI) (y_var rfl) y_int (at0 (sized_ne h))) ya_nil) trivial (by rw [hl0])))) (fun hc => ys_ret y_bl ?_) fun hc => ys_next (ys_ret (d := .bool (((b.map fun r => isRow r (hd0 b).length)).all id)) ?_ ?_))
    · show PyData.bool false = PyData.bool (isBoard b)
      unfold isBoard; rw [if_pos hc]
    · have hne := sized_ne (Bool.or_eq_false_iff.mp hc).1
      refine y_all (yn_compT (enc := dI) (enc' := PyData.bool) (y_var rfl) (fun r => isRow r (hd0 b).length) hb.1 fun r hr => y_call (r, ((hd0 b).length : Int)) (ya_cons (y_var rfl) (ya_cons ((y_len (ds := (hd0 b).map .int) (y_ixL (ds := b.map dI) (y_var rfl) y_int (at0 hne))).to (by rw [hl0])) ya_nil)) (hb.2 r hr)).y
    · show PyData.bool _ = PyData.bool (isBoard b)
      unfold isBoard; rw [if_neg (by rw [hc]; exact Bool.false_ne_true)]⟩
abbrev sp_need_board (K : PySem.W.Frag) (C : Addr) : Sp := spX K (fun b : List (List Int) => [dII b]) Small (fun b => if isBoard b = true then .ok .none else .error C)
theorem ok_need_board (T : Tx K mg a) : FnOk P w K mg base (CXE P w) 3 a.f_need_board a.d_need_board ["board"] (sp_need_board K a.c_NoBoard) :=
  T.F_need_board.okXD sc_need_board (fun _ => rfl) fun cdv A outer s H E hr => ⟨_, (pss_one (ps_if (pt_not (pt_val (pe_call ((ok_is_board T).mono (by first | decide | omega)) hr rfl T.m_is_board T.F_is_board.kp T.B_is_board .nil pass0 (pa_cons (pv 0) pa_nil)))) (pss_one (ps_raise T.x_NoBoard PySem.F.excBase_ValueError rfl rfl rfl T.m_NoBoard (pa_cons pe_str pa_nil) raisesE)) pss_nil)), fun b hb =>
    ys_if (b := !isBoard b) (yb_not (yb_b (y_call b (ya_cons (y_var rfl) ya_nil) hb))) (fun hc => ys_raise (ya_cons y_str ya_nil) (by simp) (if_neg (by simpa using hc))) fun hc => ys_next (if_pos (by simpa using hc))⟩
theorem atRow {r : List Int} {c : Nat} (h : c < r.length) : atI (r.map PyData.int) (c : Int) = some (.int (r.getD c 0)) := by
  refine atI_nat ?_
  rw [List.getElem?_map, List.getElem?_eq_getElem h]; simp [List.getD_eq_getElem?_getD, h]
abbrev sp_marks (K : PySem.W.Frag) : Sp := spF K (fun a : List (List Int) × Nat => [dII a.1, .int a.2]) (fun a => a.1.length ≤ 1000 ∧ ∀ r ∈ a.1, a.2 < r.length) (fun a => .int (colSum a.1 a.2))
theorem ok_marks_in_column (T : Tx K mg a) : FnOk P w K mg base CX0 1 a.f_marks_in_column a.d_marks_in_column ["board", "column"] (sp_marks K) :=
  T.F_marks_in_column.okD sc_marks_in_column (fun _ => rfl) fun cdv A outer s H E hr => ⟨_, (pss_one (ps_ret (pe_callB (call_sum' (K := K) rfl rfl) rfl T.b_sum bt_sum (pa_cons (pe_comp (N' := ["row", "column"]) (k := 1) (cap := [1]) (CompOk.of (sc := (defScope s_marks_in_column)) (N := ["board", "column"]) rfl rfl (by decide +kernel)) (pi_list' (K := K) rfl rfl (pv 0)) (fun _ _ _ _ => pg_name (i := 0) (by decide +kernel : (["row", "column"] : List Str).Nodup) rfl (Or.inl rfl)) (gk_name (by decide)) (fun _ _ _ _ => pf_nil) (fun _ _ _ _ => (pe_ix (ix_list' (K := K) rfl) (pv 0) (pv 1) (fun _ _ => rfl)))) pa_nil)))), fun ⟨b, c⟩ hb =>
    ys_ret (y_sum (ns := b.map fun r : List Int => r.getD c 0) (yn_compT (enc := dI) (y_var rfl) (fun r : List Int => r.getD c 0) hb.1 fun r hr => y_ixL (ds := r.map .int) (y_var rfl) (y_var rfl) (atRow (hb.2 r hr))).y) rfl⟩
theorem isBoard_ok {b : List (List Int)} (h : isBoard b = true) : (1 ≤ b.length ∧ b.length ≤ 6) ∧ (1 ≤ (hd0 b).length ∧ (hd0 b).length ≤ 6) ∧ ∀ r ∈ b, r.length = (hd0 b).length ∧ ∀ c ∈ r, c = 0 ∨ c = 1 := by
  unfold isBoard at h
  split at h
  · cases h
  · rename_i hc
    have hc' := Bool.or_eq_false_iff.mp (Bool.eq_false_iff.mpr hc)
    have s1 : sized b.length = true := by simpa using hc'.1
    have s2 : sized (hd0 b).length = true := by simpa using hc'.2
    unfold sized at s1 s2
    simp only [Bool.and_eq_true, decide_eq_true_eq] at s1 s2
    refine ⟨by omega, by omega, fun r hr => ?_⟩
    rw [List.all_map, List.all_eq_true] at h
    have hr' : isRow r (hd0 b).length = true := h r hr
    unfold isRow at hr'
    rw [Bool.and_eq_true, decide_eq_true_eq, List.all_map, List.all_eq_true] at hr'
    refine ⟨by omega, fun c hcm => ?_⟩
    have := hr'.2 c hcm
    simp only [Function.comp, id, cell01, ctn, List.any_cons, List.any_nil, Bool.or_false, Bool.or_eq_true, beq_iff_eq] at this
    omega
/-- what counts promises: two lists of its own -/
def sp_counts (K : PySem.W.Frag) (C : Addr) : Sp := fun vs H Q E => ∃ b, DatAll K H vs [dII b] ∧ Small b ∧
  (isBoard b = true → ∀ t p q H', Same H H' → H' t = some (.tup [.ref p, .ref q]) → H' p = some (.lst ((rowsOf b).map .int)) → H' q = some (.lst ((colsOf b).map .int)) → H p = none → H q = none → p ≠ q → Q (.ref t) H') ∧
  (isBoard b = false → ∀ H', Same H H' → E (.ref C) none H')
theorem ok_counts (T : Tx K mg a) : FnOk P w K mg base (CXE P w) 4 a.f_counts a.d_counts ["board"] (sp_counts K a.c_NoBoard) := by
  refine T.F_counts.okE sc_counts (fun vs H Q E h => ?_) (fun cdv A outer s H vs Q E hr h => ?_)
  · obtain ⟨b, da, _⟩ := h; rw [da.length]; rfl
  obtain ⟨b, da, hb, q, qe⟩ := h
  obtain ⟨v, rfl, hv⟩ := dat1 da
  refine ⟨_, (pss_cons (ps_expr (pe_call ((ok_need_board T).mono (by first | decide | omega)) hr rfl T.m_need_board T.F_need_board.kp T.B_need_board .nil passesE (pa_cons (pv 0) pa_nil))) (pss_cons (ps_setComp (i := 1) sc_counts.nd rfl rfl (N' := ["row"]) (k := 1) (cap := []) (CompOk.of (sc := (defScope s_counts)) (N := ["board", "rows", "columns"]) rfl rfl (by decide +kernel)) (pi_list' (K := K) rfl rfl (pv 0)) (fun _ _ _ _ => pg_name (i := 0) (by decide +kernel : (["row"] : List Str).Nodup) rfl (Or.inl rfl)) (gk_name (by decide)) (fun _ _ _ _ => pf_nil) (fun _ _ _ _ => (pe_callB (call_sum' (K := K) rfl rfl) rfl T.b_sum bt_sum (pa_cons (pv 0) pa_nil)))) (pss_cons (ps_setComp (i := 2) sc_counts.nd rfl rfl (N' := ["column", "board"]) (k := 1) (cap := [0]) (CompOk.of (sc := (defScope s_counts)) (N := ["board", "rows", "columns"]) rfl rfl (by decide +kernel)) (pi_range1 rfl rfl T.b_range (pa_cons (pe_callB (call_len_seq' (K := K) rfl) rfl T.b_len bt_len (pa_cons (pe_ix (ix_list' (K := K) rfl) (pv 0) pe_int (fun _ _ => rfl)) pa_nil)) pa_nil)) (fun _ _ _ _ => pg_name (i := 0) (by decide +kernel : (["column", "board"] : List Str).Nodup) rfl (Or.inl rfl)) (gk_name (by decide)) (fun _ _ _ _ => pf_nil) (fun _ _ _ _ => (pe_call ((ok_marks_in_column T).mono (by first | decide | omega)) hr rfl T.m_marks_in_column T.F_marks_in_column.kp T.B_marks_in_column .nil pass0 (pa_cons (pv 1) (pa_cons (pv 0) pa_nil))))) (pss_one (ps_ret (pe_tup (pa_cons (pv 1) (pa_cons (pv 2) pa_nil)))))))), ?_⟩
  have ev := EnvD.start (N := ["board", "rows", "columns"]) da
  cases hB : isBoard b with
  | false => exact goDropX (yx_callX b (ya_cons (y_var rfl) ya_nil) hb (if_neg (by rw [hB]; exact Bool.false_ne_true))) ev fun H' s => qe hB H' s
  | true =>
    obtain ⟨⟨l1, l2⟩, ⟨w1, w2⟩, hrows⟩ := isBoard_ok hB
    have hne : b ≠ [] := by rintro rfl; exact absurd l1 (by decide)
    refine goDrop (y_callX b (ya_cons (y_var rfl) ya_nil) hb (if_pos hB)) ev fun v0 H0 s0 _ => ?_
    refine goSetN (yn_compT (enc := dI) (enc' := PyData.int) (y_var rfl) List.sum hb.1 fun r hr => y_sum (y_var rfl)) (ev.same s0) fun p vs1 H1 s1 hp dv1 => ?_
    have e1 := DatAll.of_ints dv1
    subst e1
    have ev1 := ((ev.same (s0.trans s1)).same (same_upd hp (.lst ((rowsOf b).map .int)))).set (v := .ref p) (d := dI (rowsOf b)) (datI_of (SqL.of upd_same)) 1
    refine goSetN (yn_compRT (enc' := PyData.int) (n := ((hd0 b).length : Int)) (ya_cons ((y_len (ds := (hd0 b).map .int) (y_ixL (ds := b.map dI) (y_var rfl) y_int (at0 hne))).to (by rw [List.length_map])) ya_nil) (by omega) (by omega) (colSum b) fun i hi => y_call (b, i) (ya_cons (y_var rfl) (ya_cons (y_var rfl) ya_nil)) ⟨hb.1, fun r hr => by rw [(hrows r hr).1]; omega⟩) ev1 fun p2 vs2 H2 s2 hp2 dv2 => ?_
    have e2 := DatAll.of_ints dv2
    subst e2
    have n1 : H p = none := s0.free (s1.free hp)
    have n2' : (upd H1 p (.lst ((rowsOf b).map .int))) p2 = none := s2.free hp2
    have hne2 : p ≠ p2 := fun z => by rw [← z, upd_same] at n2'; cases n2'
    have n2 : H p2 = none := (s0.trans s1).free (by rw [upd_ne (Ne.symm hne2)] at n2'; exact n2')
    refine ⟨_, rfl, _, rfl, (by show 2 ≤ sizeLine; decide), fun t ht => ?_⟩
    have s3 := same_upd ht (.tup [.ref p, .ref p2])
    have hp' : H2 p = some (.lst ((rowsOf b).map .int)) := s2 _ _ upd_same
    refine q hB t p p2 _ ((((s0.trans s1).trans (same_upd hp _)).trans s2).trans ((same_upd hp2 _).trans s3)) upd_same ?_ ?_ n1 n2 hne2
    · exact s3 _ _ (by rw [upd_ne hne2]; exact hp')
    · exact s3 _ _ (by rw [upd_same]; rfl)
abbrev sp_countsD (K : PySem.W.Frag) (C : Addr) : Sp := spX K (fun b : List (List Int) => [dII b]) Small (fun b => if isBoard b = true then .ok (.tuple [dI (rowsOf b), dI (colsOf b)]) else .error C)
theorem ok_countsD (T : Tx K mg a) : FnOk P w K mg base (CXE P w) 4 a.f_counts a.d_counts ["board"] (sp_countsD K a.c_NoBoard) :=
  (ok_counts T).imp fun vs H Q E ⟨b, da, hb, q, qe⟩ => ⟨b, da, hb, fun hB t p p2 H' s h1 h2 h3 _ _ _ => q _ (if_pos hB) _ H' s (.tup (SqT.of h1) (.cons (datI_of (SqL.of h2)) (.cons (datI_of (SqL.of h3)) .nil))), fun hB H' s => qe _ (if_neg (by rw [hB]; exact Bool.false_ne_true)) H' s⟩
def within (ns : List Int) (most : Int) : Bool := (ns.map fun x => decide (0 ≤ x) && decide (x ≤ most)).all id
abbrev sp_are_within (K : PySem.W.Frag) : Sp := spF K (fun a : List Int × Int => [dI a.1, .int a.2]) (fun a => a.1.length ≤ 1000) (fun a => .bool (within a.1 a.2))
theorem ok_are_within (T : Tx K mg a) : FnOk P w K mg base CX0 1 a.f_are_within a.d_are_within ["numbers", "most"] (sp_are_within K) :=
  T.F_are_within.okD sc_are_within (fun _ => rfl) fun cdv A outer s H E hr => ⟨_, (pss_one (ps_ret (pe_callB (call_all' (K := K) rfl rfl) rfl T.b_all bt_all (pa_cons (pe_comp (N' := ["number", "most"]) (k := 1) (cap := [1]) (CompOk.of (sc := (defScope s_are_within)) (N := ["numbers", "most"]) rfl rfl (by decide +kernel)) (pi_list' (K := K) rfl rfl (pv 0)) (fun _ _ _ _ => pg_name (i := 0) (by decide +kernel : (["number", "most"] : List Str).Nodup) rfl (Or.inl rfl)) (gk_name (by decide)) (fun _ _ _ _ => pf_nil) (fun _ _ _ _ => (pe_chain op_le op_le pe_int (pv 0) (pv 1)))) pa_nil)))), fun ⟨ns, most⟩ h =>
    ys_ret (y_all (yn_compT (enc := PyData.int) (enc' := PyData.bool) (y_var rfl) (fun x => decide (0 ≤ x) && decide (x ≤ most)) h fun x _ => y_chainI y_int (y_var rfl) (y_var rfl)).y) rfl⟩
def areCounts (rs cs : List Int) : Bool := if (!sized rs.length || !sized cs.length) = true then false else within rs cs.length && within cs rs.length
abbrev sp_are_counts (K : PySem.W.Frag) : Sp := spF K (fun a : List Int × List Int => [dI a.1, dI a.2]) (fun a => a.1.length ≤ 1000 ∧ a.2.length ≤ 1000) (fun a => .bool (areCounts a.1 a.2))
theorem ok_are_counts (T : Tx K mg a) : FnOk P w K mg base CX0 2 a.f_are_counts a.d_are_counts ["rows", "columns"] (sp_are_counts K) :=
  T.F_are_counts.okD sc_are_counts (fun _ => rfl) fun cdv A outer s H E hr => ⟨_, (pss_cons (ps_if (PW.pt (pw_or (pt_not (pt_val (pe_call ((ok_is_sized T).mono (by first | decide | omega)) hr rfl T.m_is_sized T.F_is_sized.kp T.B_is_sized .nil pass0 (pa_cons (pv 0) pa_nil)))) (pw_or1 (pt_not (pt_val (pe_call ((ok_is_sized T).mono (by first | decide | omega)) hr rfl T.m_is_sized T.F_is_sized.kp T.B_is_sized .nil pass0 (pa_cons (pv 1) pa_nil))))))) (pss_one (ps_ret pe_bl)) pss_nil) (pss_one (ps_ret (pe_and (pe_call ((ok_are_within T).mono (by first | decide | omega)) hr rfl T.m_are_within T.F_are_within.kp T.B_are_within .nil pass0 (pa_cons (pv 0) (pa_cons (pe_callB (call_len_seq' (K := K) rfl) rfl T.b_len bt_len (pa_cons (pv 1) pa_nil)) pa_nil))) (pe_one (pe_call ((ok_are_within T).mono (by first | decide | omega)) hr rfl T.m_are_within T.F_are_within.kp T.B_are_within .nil pass0 (pa_cons (pv 1) (pa_cons (pe_callB (call_len_seq' (K := K) rfl) rfl T.b_len bt_len (pa_cons (pv 0) pa_nil)) pa_nil)))))))), fun ⟨rs, cs⟩ ⟨h1, h2⟩ => by
    have l1 : (rs.map PyData.int).length = rs.length := List.length_map _
    have l2 : (cs.map PyData.int).length = cs.length := List.length_map _
    refine ys_seq (ys_if (b := !sized rs.length || !sized cs.length) (yb_or (yb_not (yb_b (y_cl (rs.map .int) (ya_cons (y_var rfl) ya_nil) trivial (by rw [l1])))) fun _ => yb_not (yb_b (y_cl (cs.map .int) (ya_cons (y_var rfl) ya_nil) trivial (by rw [l2])))) (fun hc => ys_ret y_bl ?_) fun hc => ys_next (ys_ret (d := .bool (within rs cs.length && within cs rs.length)) (y_and (y_cl (rs, (cs.length : Int)) (ya_cons (y_var rfl) (ya_cons ((y_len (ds := cs.map .int) (y_var rfl)).to (by rw [l2])) ya_nil)) h1 rfl) fun _ => y_cl (cs, (rs.length : Int)) (ya_cons (y_var rfl) (ya_cons ((y_len (ds := rs.map .int) (y_var rfl)).to (by rw [l1])) ya_nil)) h2 rfl) ?_))
    · show PyData.bool false = PyData.bool (areCounts rs cs)
      unfold areCounts; rw [if_pos hc]
    · show PyData.bool _ = PyData.bool (areCounts rs cs)
      unfold areCounts; rw [if_neg (by rw [hc]; exact Bool.false_ne_true)]⟩
theorem areCounts_ok {rs cs : List Int} (h : areCounts rs cs = true) : (1 ≤ rs.length ∧ rs.length ≤ 6) ∧ (1 ≤ cs.length ∧ cs.length ≤ 6) ∧ (∀ x ∈ rs, 0 ≤ x ∧ x ≤ cs.length) ∧ ∀ x ∈ cs, 0 ≤ x ∧ x ≤ rs.length := by
  unfold areCounts at h
  split at h
  · cases h
  · rename_i hc
    have hc' := Bool.or_eq_false_iff.mp (Bool.eq_false_iff.mpr hc)
    have s1 : sized rs.length = true := by simpa using hc'.1
    have s2 : sized cs.length = true := by simpa using hc'.2
    unfold sized at s1 s2
    simp only [Bool.and_eq_true, decide_eq_true_eq] at s1 s2
    unfold within at h
    simp only [Bool.and_eq_true, List.all_map, List.all_eq_true, Function.comp, id, decide_eq_true_eq] at h
    exact ⟨by omega, by omega, h.1, h.2⟩
theorem areCounts_of {rs cs : List Int} (h1 : 1 ≤ rs.length ∧ rs.length ≤ 6) (h2 : 1 ≤ cs.length ∧ cs.length ≤ 6) (h3 : ∀ x ∈ rs, 0 ≤ x ∧ x ≤ cs.length) (h4 : ∀ x ∈ cs, 0 ≤ x ∧ x ≤ rs.length) : areCounts rs cs = true := by
  have s1 : sized rs.length = true := by unfold sized; simp only [Bool.and_eq_true, decide_eq_true_eq]; omega
  have s2 : sized cs.length = true := by unfold sized; simp only [Bool.and_eq_true, decide_eq_true_eq]; omega
  unfold areCounts
  rw [s1, s2, if_neg (by decide)]
  unfold within
  simp only [Bool.and_eq_true, List.all_map, List.all_eq_true, Function.comp, id, decide_eq_true_eq]
  exact ⟨h3, h4⟩
abbrev sp_need_counts (K : PySem.W.Frag) (C : Addr) : Sp := spX K (fun a : List Int × List Int => [dI a.1, dI a.2]) (fun a => a.1.length ≤ 1000 ∧ a.2.length ≤ 1000) (fun a => if areCounts a.1 a.2 = true then .ok .none else .error C)
theorem ok_need_counts (T : Tx K mg a) : FnOk P w K mg base (CXE P w) 3 a.f_need_counts a.d_need_counts ["rows", "columns"] (sp_need_counts K a.c_NoCounts) :=
  T.F_need_counts.okXD sc_need_counts (fun _ => rfl) fun cdv A outer s H E hr => ⟨_, (pss_one (ps_if (pt_not (pt_val (pe_call ((ok_are_counts T).mono (by first | decide | omega)) hr rfl T.m_are_counts T.F_are_counts.kp T.B_are_counts .nil pass0 (pa_cons (pv 0) (pa_cons (pv 1) pa_nil))))) (pss_one (ps_raise T.x_NoCounts PySem.F.excBase_ValueError rfl rfl rfl T.m_NoCounts (pa_cons pe_str pa_nil) raisesE)) pss_nil)), fun ⟨rs, cs⟩ hb =>
    ys_if (b := !areCounts rs cs) (yb_not (yb_b (y_cl (rs, cs) (ya_cons (y_var rfl) (ya_cons (y_var rfl) ya_nil)) hb rfl))) (fun hc => ys_raise (ya_cons y_str ya_nil) (by simp) (if_neg (by simpa using hc))) fun hc => ys_next (if_pos (by simpa using hc))⟩
abbrev sp_rc (K : PySem.W.Frag) (n : Nat) : Sp := spF K (fun a : Int × Int => [.int a.1, .int a.2]) (fun a => 0 ≤ a.1 ∧ a.1 < n ∧ a.1 ≤ 6) (fun a => dII (NM.rowChoices a.1.toNat a.2))
theorem ok_row_choicesN (T : Tx K mg a) : ∀ n : Nat, FnOk P w K mg base CX0 n a.f_row_choices a.d_row_choices ["width", "marks"] (sp_rc K n)
  | 0 => FnOk.never fun vs H Q E ⟨_, _, ⟨h1, h2, _⟩, _⟩ => by omega
  | n + 1 => by
    have IH_row_choices := ok_row_choicesN T n
    refine T.F_row_choices.okD sc_row_choices (fun _ => rfl) fun cdv A outer s H E hr => ⟨_, (pss_cons (ps_if (PW.pt (pw_or (pt_cmpR op_lt (pv 1) pe_int (nomark _)) (pw_or1 (pt_cmpR op_gt (pv 1) (pv 0) (nomark _))))) (pss_one (ps_ret (pe_lst pa_nil))) pss_nil) (pss_cons (ps_if (pt_cmpR op_eq (pv 0) pe_int (nomark _)) (pss_one (ps_ret (pe_lst (pa_cons (pe_lst pa_nil) pa_nil)))) pss_nil) (pss_cons (ps_setComp (i := 2) sc_row_choices.nd rfl rfl (N' := ["rest"]) (k := 1) (cap := []) (CompOk.of (sc := (defScope s_row_choices)) (N := ["width", "marks", "unmarked", "marked"]) rfl rfl (by decide +kernel)) (pi_list' (K := K) rfl rfl (pe_call (IH_row_choices) hr rfl T.m_row_choices T.F_row_choices.kp T.B_row_choices .nil pass0 (pa_cons (pe_op op_sub (pv 0) pe_int) (pa_cons (pv 1) pa_nil)))) (fun _ _ _ _ => pg_name (i := 0) (by decide +kernel : (["rest"] : List Str).Nodup) rfl (Or.inl rfl)) (gk_name (by decide)) (fun _ _ _ _ => pf_nil) (fun _ _ _ _ => (pe_op (op_catS (K := K) rfl) (pe_lst (pa_cons pe_int pa_nil)) (pv 0)))) (pss_cons (ps_setComp (i := 3) sc_row_choices.nd rfl rfl (N' := ["rest"]) (k := 1) (cap := []) (CompOk.of (sc := (defScope s_row_choices)) (N := ["width", "marks", "unmarked", "marked"]) rfl rfl (by decide +kernel)) (pi_list' (K := K) rfl rfl (pe_call (IH_row_choices) hr rfl T.m_row_choices T.F_row_choices.kp T.B_row_choices .nil pass0 (pa_cons (pe_op op_sub (pv 0) pe_int) (pa_cons (pe_op op_sub (pv 1) pe_int) pa_nil)))) (fun _ _ _ _ => pg_name (i := 0) (by decide +kernel : (["rest"] : List Str).Nodup) rfl (Or.inl rfl)) (gk_name (by decide)) (fun _ _ _ _ => pf_nil) (fun _ _ _ _ => (pe_op (op_catS (K := K) rfl) (pe_lst (pa_cons pe_int pa_nil)) (pv 0)))) (pss_one (ps_ret (pe_op (op_catS (K := K) rfl) (pv 2) (pv 3)))))))), fun ⟨w, m⟩ ⟨h1, h2, h3⟩ => ?_⟩
    have h1 : 0 ≤ w := h1
    have h2 : w < (n + 1 : Nat) := h2
    have h3 : w ≤ 6 := h3
    refine ys_seq (ys_if (yb_or (yb_test (y_lt (y_var rfl) y_int)) fun _ => yb_test (y_gt (y_var rfl) (y_var rfl))) (fun hc => ys_ret (y_lst (ds := []) ya_nil) ?_) fun hc => ys_next ?_)
    · have hc' : m < 0 ∨ w < m := by simpa using hc
      show PyData.list [] = dII (NM.rowChoices w.toNat m)
      rw [NM.rc_none w.toNat (by omega)]; rfl
    have hc' : 0 ≤ m ∧ m ≤ w := by simpa using hc
    refine ys_seq (ys_if (yb_test (y_eqI (y_var rfl) y_int)) (fun hz => ys_ret (y_lst (ya_cons (y_lst ya_nil) ya_nil)) ?_) fun hz => ys_next ?_)
    · have hz' : w = 0 := of_decide_eq_true hz
      subst hz'
      show _ = dII (NM.rowChoices 0 m)
      simp only [NM.rowChoices]
      rw [if_neg (by omega)]; rfl
    have hz' : w ≠ 0 := of_decide_eq_false hz
    obtain ⟨k, rfl⟩ : ∃ k : Nat, w = k + 1 := ⟨(w - 1).toNat, by omega⟩
    have hk : k ≤ 5 := by omega
    have b1 := NM.rc_len k m (by omega)
    have b2 := NM.rc_len k (m - 1) (by omega)
    refine ys_seq (ys_set (d := dII ((NM.rowChoices k m).map fun r => 0 :: r)) (yn_compT (enc := dI) (enc' := dI) (as := NM.rowChoices k m) ((y_cl ((k : Int), m) (ya_cons ((y_sub (y_var rfl) y_int).to (by rw [show ((k : Int) + 1 - 1) = k by omega])) (ya_cons (y_var rfl) ya_nil)) ⟨by show (0 : Int) ≤ k; omega, by show (k : Int) < n; omega, by show (k : Int) ≤ 6; omega⟩ rfl)) (fun r => 0 :: r) (by omega) fun r hr => y_catI (x := [0]) (y := r) (y_oneI y_int) (y_var rfl) (by have := (NM.rc_mem hr).1; simp; omega)).y ?_)
    refine ys_seq (ys_set (d := dII ((NM.rowChoices k (m - 1)).map fun r => 1 :: r)) (yn_compT (enc := dI) (enc' := dI) (as := NM.rowChoices k (m - 1)) ((y_cl ((k : Int), m - 1) (ya_cons ((y_sub (y_var rfl) y_int).to (by rw [show ((k : Int) + 1 - 1) = k by omega])) (ya_cons (y_sub (y_var rfl) y_int) ya_nil)) ⟨by show (0 : Int) ≤ k; omega, by show (k : Int) < n; omega, by show (k : Int) ≤ 6; omega⟩ rfl)) (fun r => 1 :: r) (by omega) fun r hr => y_catI (x := [1]) (y := r) (y_oneI y_int) (y_var rfl) (by have := (NM.rc_mem hr).1; simp; omega)).y ?_)
    refine ys_ret (y_catII (y_var rfl) (y_var rfl) (by simp; omega)) ?_
    show _ = dII (NM.rowChoices ((k : Int) + 1).toNat m)
    rw [show ((k : Int) + 1).toNat = k + 1 by omega, NM.rc_succ]
theorem ok_row_choices (T : Tx K mg a) : FnOk P w K mg base CX0 7 a.f_row_choices a.d_row_choices ["width", "marks"] (sp_rc K 7) := ok_row_choicesN T 7
abbrev sp_columns_behind (K : PySem.W.Frag) : Sp := spF K (fun a : List Int × List Int => [dI a.1, dI a.2]) (fun a => a.1.length = a.2.length ∧ a.1.length ≤ 1000) (fun a => dI (NM.sub a.1 a.2))
theorem ok_columns_behind (T : Tx K mg a) : FnOk P w K mg base CX0 1 a.f_columns_behind a.d_columns_behind ["columns", "row"] (sp_columns_behind K) :=
  T.F_columns_behind.okD sc_columns_behind (fun _ => rfl) fun cdv A outer s H E hr => ⟨_, (pss_one (ps_ret (pe_comp (N' := ["wanted", "cell"]) (k := 2) (cap := []) (CompOk.of (sc := (defScope s_columns_behind)) (N := ["columns", "row"]) rfl rfl (by decide +kernel)) (pi_zip' (K := K) rfl rfl rfl T.b_zip (pa_cons (pv 0) (pa_cons (pv 1) pa_nil))) (fun _ _ _ _ => pg_tup' (K := K) (n := 2) rfl rfl (pgs_cons (pg_name (i := 0) (by decide +kernel : (["wanted", "cell"] : List Str).Nodup) rfl (Or.inl rfl)) (pgs_cons (pg_name (i := 1) (by decide +kernel : (["wanted", "cell"] : List Str).Nodup) rfl (Or.inl rfl)) pgs_nil))) (gk_tup (gks_name (by decide) (gks_name (by decide) gks_nil))) (fun _ _ _ _ => pf_nil) (fun _ _ _ _ => (pe_op op_sub (pv 0) (pv 1)))))), fun ⟨cs, row⟩ ⟨h1, h2⟩ =>
    ys_ret (yn_compZI (xs := cs) (ys := row) (ya_cons (y_var rfl) (ya_cons (y_var rfl) ya_nil)) h1 h2 (fun x y => x - y) fun j x y _ _ => y_sub (y_var rfl) (y_var rfl)).y rfl⟩
def Memo (R : List Int) (kvs : List (NKey × V)) : Prop := ∀ k v, valV kvs k = some v → ∃ rows : List Int, (∃ pre, R = pre ++ rows) ∧ k.1 = (rows.length : Int) ∧ v = .int (NM.left rows k.2)
theorem Memo.nil (R : List Int) : Memo R [] := fun k v h => by cases h
theorem Memo.put {R rows ms : List Int} {kvs : List (NKey × V)} (m : Memo R kvs) (hs : ∃ pre, R = pre ++ rows) : Memo R (putK kvs ((rows.length : Int), ms) (.int (NM.left rows ms))) := fun k v h => by
  rw [valV_put] at h
  split at h
  · rename_i e
    cases h
    subst e
    exact ⟨rows, hs, rfl, rfl⟩
  · exact m k v h
theorem suffix_eq {R x y : List Int} (ha : ∃ p, R = p ++ x) (hb : ∃ p, R = p ++ y) (h : x.length = y.length) : x = y := by
  obtain ⟨p, rfl⟩ := ha
  obtain ⟨q, e⟩ := hb
  exact (List.append_inj' e h).2
theorem Memo.get {R rows ms : List Int} {kvs : List (NKey × V)} {v : V} (m : Memo R kvs) (hs : ∃ pre, R = pre ++ rows) (h : valV kvs ((rows.length : Int), ms) = some v) : v = .int (NM.left rows ms) := by
  obtain ⟨rows', h1, h2, h3⟩ := m _ _ h
  have h2' : (rows.length : Int) = (rows'.length : Int) := h2
  have e := suffix_eq hs h1 (by omega)
  subst e
  exact h3
theorem left_neg {rows cols : List Int} (hne : cols ≠ []) (h : mnI cols < 0) : NM.left rows cols = 0 := by
  have e : cols.any (fun c => decide (c < 0)) = true := List.any_eq_true.mpr ⟨_, (mnI_ok hne).1, decide_eq_true h⟩
  cases rows with
  | nil => simp only [NM.left]; rw [if_pos e]
  | cons r rs => simp only [NM.left]; rw [if_pos e]
theorem any_not {cols : List Int} (hne : cols ≠ []) (h : ¬ mnI cols < 0) : ¬ cols.any (fun c => decide (c < 0)) = true := fun e => by
  obtain ⟨c, h1, h2⟩ := List.any_eq_true.mp e
  have := (mnI_ok hne).2 c h1
  have := of_decide_eq_true h2
  omega
theorem left_nil {cols : List Int} (hne : cols ≠ []) (h : ¬ mnI cols < 0) : NM.left [] cols = if mxI cols = 0 then 1 else 0 := by
  simp only [NM.left]
  rw [if_neg (any_not hne h)]
  have m1 := mnI_ok hne
  have m2 := mxI_ok hne
  by_cases e : mxI cols = 0
  · rw [if_pos e, if_pos]
    refine List.all_eq_true.mpr fun c hc => decide_eq_true ?_
    have := m1.2 c hc
    have := m2.2 c hc
    omega
  · rw [if_neg e, if_neg]
    intro z
    exact e (of_decide_eq_true (List.all_eq_true.mp z _ m2.1))
theorem left_cons {r : Int} {rs cols : List Int} (hne : cols ≠ []) (h : ¬ mnI cols < 0) : NM.left (r :: rs) cols = ((NM.rowChoices cols.length r).map fun row => NM.left rs (NM.sub cols row)).sum := by
  simp only [NM.left]
  rw [if_neg (any_not hne h)]
def sp_left (K : PySem.W.Frag) (n : Nat) : Sp := fun vs H Q _ => ∃ (R rows cols : List Int) (v1 v2 : V) (kd : Addr) (kvs : List (NKey × V)), vs = [v1, v2, .ref kd] ∧ DatV K H v1 (dI rows) ∧ DatV K H v2 (dI cols) ∧ H kd = some (.dT kvs) ∧ Memo R kvs ∧ (∃ pre, R = pre ++ rows) ∧ rows.length < n ∧ (1 ≤ cols.length ∧ cols.length ≤ 6) ∧ kvs.length + NM.budT rows.length ≤ 16000000 ∧
  ∀ H' kvs', SameX kd H H' → H' kd = some (.dT kvs') → Memo R kvs' → kvs'.length ≤ kvs.length + NM.budT rows.length → Q (.int (NM.left rows cols)) H'
theorem ok_boards_leftN (T : Tx K mg a) : ∀ n : Nat, FnOk P w K mg base CX0 (n + 8) a.f_boards_left a.d_boards_left ["rows", "columns", "known"] (sp_left K n)
  | 0 => FnOk.never fun vs H Q E ⟨_, rows, _, _, _, _, _, _, _, _, _, _, _, h, _⟩ => absurd h (Nat.not_lt_zero _)
  | n + 1 => by
    have IH_boards_left := ok_boards_leftN T n
    refine T.F_boards_left.ok sc_boards_left (fun vs H Q E h => ?_) (fun cdv A outer s H vs Q E hr h => ?_)
    · obtain ⟨_, _, _, _, _, _, _, rfl, _⟩ := h; rfl
    obtain ⟨R, rows, cols, v1, v2, kd, kvs, rfl, d1, d2, hkd, memo, suf, hlt, ⟨c1, c6⟩, bud, q⟩ := h
    have hne : cols ≠ [] := by rintro rfl; exact absurd c1 (by decide)
    refine ⟨_, (pss_cons (ps_if (pt_cmpR op_lt (pe_callB (call_min' (K := K) rfl rfl) rfl T.b_min bt_min (pa_cons (pv 1) pa_nil)) pe_int (nomark _)) (pss_one (ps_ret pe_int)) pss_nil) (pss_cons (ps_if (pt_cmpR op_eq (pe_callB (call_len_seq' (K := K) rfl) rfl T.b_len bt_len (pa_cons (pv 0) pa_nil)) pe_int (nomark _)) (pss_one (ps_ret (pe_ifExp (pt_cmpR op_eq (pe_callB (call_max' (K := K) rfl rfl) rfl T.b_max bt_max (pa_cons (pv 1) pa_nil)) pe_int (nomark _)) pe_int pe_int))) pss_nil) (pss_cons (ps_set (i := 3) sc_boards_left.nd rfl (Or.inl rfl) (pe_tup (pa_cons (pe_callB (call_len_seq' (K := K) rfl) rfl T.b_len bt_len (pa_cons (pv 0) pa_nil)) (pa_cons (pe_callTy (call_tuple_of' (K := K) rfl) rfl T.b_tuple bt_tuple (pa_cons (pe_callB (call_sortedI (K := K) rfl) rfl T.b_sorted bt_sorted (pa_cons (pv 1) pa_nil)) pa_nil)) pa_nil)))) (pss_cons (ps_if (pt_cmpR (op_dnotin hr.units) (pv 3) (pv 2) rfl) (pss_cons (ps_set (i := 4) sc_boards_left.nd rfl (Or.inl rfl) (pe_call ((ok_row_choices T).mono (by first | decide | omega)) hr rfl T.m_row_choices T.F_row_choices.kp T.B_row_choices .nil pass0 (pa_cons (pe_callB (call_len_seq' (K := K) rfl) rfl T.b_len bt_len (pa_cons (pv 1) pa_nil)) (pa_cons (pe_ix (ix_list' (K := K) rfl) (pv 0) pe_int (fun _ _ => rfl)) pa_nil)))) (pss_one (ps_dput hr.units (pv 2) (pv 3) (pe_callB (call_sum' (K := K) rfl rfl) rfl T.b_sum bt_sum (pa_cons (pe_comp (N' := ["row", "known", "rows", "columns"]) (k := 1) (cap := [2, 0, 1]) (CompOk.of (sc := (defScope s_boards_left)) (N := ["rows", "columns", "known", "key", "choices"]) rfl rfl (by decide +kernel)) (pi_list' (K := K) rfl rfl (pv 4)) (fun _ _ _ _ => pg_name (i := 0) (by decide +kernel : (["row", "known", "rows", "columns"] : List Str).Nodup) rfl (Or.inl rfl)) (gk_name (by decide)) (fun _ _ _ _ => pf_nil) (fun _ _ _ _ => (pe_call (IH_boards_left) hr rfl T.m_boards_left T.F_boards_left.kp T.B_boards_left .nil pass0 (pa_cons (pe_slice (sl_list' (K := K) rfl) (pv 2) (po_some pe_int) po_none) (pa_cons (pe_call ((ok_columns_behind T).mono (by first | decide | omega)) hr rfl T.m_columns_behind T.F_columns_behind.kp T.B_columns_behind .nil pass0 (pa_cons (pv 3) (pa_cons (pv 0) pa_nil))) (pa_cons (pv 1) pa_nil)))))) pa_nil))))) pss_nil) (pss_one (ps_ret (pe_dget hr.units (pv 2) (pv 3) (fun _ _ => rfl)))))))), ?_⟩
    have ev : EnvD K H [some v1, some v2, some (.ref kd), none, none] [some (dI rows), some (dI cols), none, none, none] := ⟨rfl, fun i d hi => by
      match i, hi with
      | 0, hi => cases hi; exact ⟨_, rfl, d1⟩
      | 1, hi => cases hi; exact ⟨_, rfl, d2⟩
      | 2, hi => cases hi
      | 3, hi => cases hi
      | 4, hi => cases hi⟩
    cases hneg : decide (mnI cols < 0) with
    | true =>
      refine goIfT (yb_test (y_lt (y_min (y_var rfl) hne) y_int)) hneg ev fun H1 s1 => goRet y_int (ev.same s1) fun v H2 s2 dv => ?_
      have := q H2 kvs (s1.trans s2).x ((s1.trans s2) _ _ hkd) memo (Nat.le_add_right _ _)
      rw [left_neg hne (of_decide_eq_true hneg)] at this
      rw [datInt dv]; exact this
    | false =>
      have hnn := of_decide_eq_false hneg
      refine goIfN (yb_test (y_lt (y_min (y_var rfl) hne) y_int)) hneg ev fun H1 s1 => ?_
      cases rows with
      | nil =>
        refine goIfT (yb_test (y_eqI (y_len (ds := []) (y_var rfl)) y_int)) rfl (ev.same s1) fun H2 s2 => goRet (d := .int (if mxI cols = 0 then 1 else 0)) (y_if (yb_test (y_eqI (y_max (y_var rfl) hne) y_int)) (fun h => y_int.to (by rw [if_pos (of_decide_eq_true h)])) fun h => y_int.to (by rw [if_neg (of_decide_eq_false h)])) ((ev.same s1).same s2) fun v H3 s3 dv => ?_
        have sx := (s1.trans s2).trans s3
        have := q H3 kvs sx.x (sx _ _ hkd) memo (Nat.le_add_right _ _)
        rw [left_nil hne hnn] at this
        rw [datInt dv]; exact this
      | cons r rs =>
        refine goIfN (yb_test (y_eqI (y_len (ds := (r :: rs).map .int) (y_var rfl)) y_int)) (by simp; omega) (ev.same s1) fun H2 s2 => ?_
        have s12 := s1.trans s2
        obtain ⟨p1, e1, hq1⟩ := datI (d1.same s12)
        obtain ⟨p2, e2, hq2⟩ := datI (d2.same s12)
        subst e1 e2
        refine ⟨_, rfl, p1, _, rfl, .inl hq1, _, rfl, p2, cols, rfl, hq2, (by omega), fun l ms hl hperm hsort => ⟨l, _, rfl, .inl ⟨SqL.of upd_same, fun t ht => ⟨(by show 2 ≤ sizeLine; decide), fun kx hkx => ?_⟩⟩⟩⟩
        have s3a := same_upd hl (.lst (ms.map V.int))
        have s3b := same_upd ht (.tup (ms.map V.int))
        have s3c := same_upd hkx (.tup [.int ((List.map V.int (r :: rs)).length : Nat), .ref t])
        have s23 := (s3a.trans s3b).trans s3c
        have key : KeyAt (upd (upd (upd H2 l (.lst (ms.map V.int))) t (.tup (ms.map V.int))) kx (.tup [.int ((List.map V.int (r :: rs)).length : Nat), .ref t])) kx (((r :: rs).length : Int), ms) := ⟨t, by rw [upd_same, List.length_map], s3c _ _ upd_same⟩
        generalize upd (upd (upd H2 l (.lst (ms.map V.int))) t (.tup (ms.map V.int))) kx (.tup [.int ((List.map V.int (r :: rs)).length : Nat), .ref t]) = H3 at s23 key ⊢
        have sx : Same H H3 := s12.trans s23
        have hkd3 := sx _ _ hkd
        have lp : NM.left (r :: rs) ms = NM.left (r :: rs) cols := NM.left_perm _ _ _ hperm
        refine ⟨_, rfl, _, rfl, kd, kx, kvs, (((r :: rs).length : Int), ms), rfl, rfl, hkd3, key, _, rfl, ?_⟩
        cases hv : valV kvs (((r :: rs).length : Int), ms) with
        | some v =>
          refine iteF ?_
          refine ⟨_, rfl, _, rfl, kd, kx, kvs, _, v, rfl, rfl, hkd3, key, hv, ?_⟩
          have := q H3 kvs sx.x hkd3 memo (Nat.le_add_right _ _)
          rw [memo.get suf hv, lp]; exact this
        | none =>
          refine iteT ?_
          have ev3 : EnvD K H3 [some (.ref p1), some (.ref p2), some (.ref kd), some (.ref kx), none] [some (dI (r :: rs)), some (dI cols), none, none, none] := ⟨rfl, fun i d hi => by
            match i, hi with
            | 0, hi => cases hi; exact ⟨_, rfl, d1.same sx⟩
            | 1, hi => cases hi; exact ⟨_, rfl, d2.same sx⟩
            | 2, hi => cases hi
            | 3, hi => cases hi
            | 4, hi => cases hi⟩
          refine goSet (d := dII (NM.rowChoices cols.length r)) (y_cl ((cols.length : Int), r) (ya_cons ((y_len (ds := cols.map .int) (y_var rfl)).to (by rw [List.length_map])) (ya_cons (y_ixL (ds := (r :: rs).map .int) (y_var rfl) y_int (atI_nat (j := 0) rfl)) ya_nil)) ⟨by show (0 : Int) ≤ cols.length; omega, by show (cols.length : Int) < (7 : Nat); omega, by show (cols.length : Int) ≤ 6; omega⟩ rfl) ev3 fun v4 H4 s4 d4 => ?_
          obtain ⟨pc, xs, rfl, hpc, dxs⟩ := datII d4
          have hxl := dxs.len
          have hrl := NM.rc_len cols.length r c6
          have hkd4 := s4 _ _ hkd3
          have sx4 := sx.trans s4
          have hbud : (r :: rs).length = rs.length + 1 := rfl
          rw [hbud] at bud
          simp only [NM.budT] at bud
          refine ⟨_, rfl, pc, rfl, ⟨xs, hpc⟩, comp_list (xs := xs) (fun i ys H' => SameX kd H4 H' ∧ ∃ kvs', H' kd = some (.dT kvs') ∧ Memo R kvs' ∧ kvs'.length ≤ kvs.length + i * NM.budT rs.length ∧ ys = ((NM.rowChoices cols.length r).take i).map fun row => V.int (NM.left rs (NM.sub cols row))) (by omega)
            ⟨SameX.refl _ _, kvs, hkd4, memo, by omega, by simp⟩ (fun i ys H' _ w => w.1.seq hkd4 hpc) (fun i ys H' ⟨_, _, _, _, _, e⟩ => by rw [e, List.length_map, List.length_take]; exact Nat.min_le_left _ _) (fun i x ys H' hx ⟨sx', kvs', hk', m', l', e⟩ => ?_) fun ys H' ⟨sx', kvs', hk', m', l', e⟩ p hp => ?_⟩
          · obtain ⟨row, hrow, drow⟩ := dxs.getD hx
            have hrm := List.mem_of_getElem? hrow
            have hi : i < 20 := by have := (List.getElem?_eq_some_iff.mp hrow).1; omega
            have hmul : i * NM.budT rs.length + NM.budT rs.length ≤ 20 * NM.budT rs.length := by rw [← Nat.succ_mul]; exact Nat.mul_le_mul_right _ hi
            have hrwl := (NM.rc_mem hrm).1
            refine goElt (goCall ?_)
            have evb : EnvD K H' [some x, some (.ref kd), some (.ref p1), some (.ref p2)] [some (dI row), none, some (dI (r :: rs)), some (dI cols)] := ⟨rfl, fun j d hj => by
              match j, hj with
              | 0, hj => cases hj; exact ⟨_, rfl, drow.sameX sx' hkd4⟩
              | 1, hj => cases hj
              | 2, hj => cases hj; exact ⟨_, rfl, (d1.same sx4).sameX sx' hkd4⟩
              | 3, hj => cases hj; exact ⟨_, rfl, (d2.same sx4).sameX sx' hkd4⟩⟩
            refine goCons (d := dI rs) ((y_slI (x := r :: rs) (y_var rfl) (yo_some y_int) yo_none).to (by rw [cut_tail])) evb fun u1 H5 s5 du1 => ?_
            refine goCons (d := dI (NM.sub cols row)) (y_cl (cols, row) (ya_cons (y_var rfl) (ya_cons (y_var rfl) ya_nil)) ⟨hrwl.symm, by show cols.length ≤ 1000; omega⟩ rfl) (evb.same s5) fun u2 H6 s6 du2 => ?_
            have s56 := s5.trans s6
            refine goVar rfl (goNil ⟨R, rs, NM.sub cols row, u1, u2, kd, kvs', rfl, du1.same s6, du2, s56 _ _ hk', m', ?_, by simp only [List.length_cons] at hlt; omega, ?_, by omega, fun H7 kvs7 sx7 hk7 m7 l7 => ⟨sx'.trans (s56.x.trans sx7), kvs7, hk7, m7, ?_, ?_⟩⟩)
            · obtain ⟨pre, rfl⟩ := suf
              exact ⟨pre ++ [r], by simp⟩
            · have : (NM.sub cols row).length = cols.length := by unfold NM.sub; rw [List.length_zipWith, hrwl, Nat.min_self]
              omega
            · rw [Nat.succ_mul]; omega
            · obtain ⟨hlt', ge⟩ := List.getElem?_eq_some_iff.mp hrow
              rw [List.take_succ_eq_append_getElem hlt', List.map_append, ge, e]; rfl
          · have ks := (sx'.trans (same_upd hp (.lst ys)).x : SameX kd H4 _)
            have key4 : KeyAt H4 kx (((r :: rs).length : Int), ms) := key.same s4
            have tupX : ∀ {b : Addr} {o : List V}, H4 b = some (.tup o) → (upd H' p (.lst ys)) b = some (.tup o) := fun {b o} hb => ks _ _ (fun z => by rw [z, hkd4] at hb; cases hb) hb
            have key' : KeyAt (upd H' p (.lst ys)) kx (((r :: rs).length : Int), ms) := let ⟨b, k1, k2⟩ := key4; ⟨b, tupX k1, tupX k2⟩
            have hkp : (upd H' p (.lst ys)) kd = some (.dT kvs') := same_upd hp _ _ _ hk'
            have hle : kvs'.length ≤ kvs.length + 20 * NM.budT rs.length := Nat.le_trans l' (Nat.add_le_add_left (Nat.mul_le_mul_right _ (by omega)) _)
            have hsz : kvs'.length < sizeLine := Nat.lt_of_le_of_lt (show kvs'.length ≤ 16000000 by omega) (by decide)
            have hsum : ((NM.rowChoices cols.length r).map fun row => NM.left rs (NM.sub cols row)).sum = NM.left (r :: rs) cols := (left_cons hne hnn).symm
            refine ⟨p, (NM.rowChoices cols.length r).map (fun row => NM.left rs (NM.sub cols row)), rfl, SqL.of (by rw [upd_same, e, hxl, List.take_length, List.map_map]; rfl), ?_⟩
            rw [hsum]
            refine ⟨_, rfl, _, rfl, kd, kx, kvs', _, rfl, rfl, hkp, key', hsz, ?_⟩
            rw [← lp]
            have key'' : KeyAt (upd (upd H' p (.lst ys)) kd (.dT (putK kvs' (((r :: rs).length : Int), ms) (.int (NM.left (r :: rs) ms))))) kx (((r :: rs).length : Int), ms) := by
              obtain ⟨b, k1, k2⟩ := key'
              exact ⟨b, by rw [upd_ne (fun z => by rw [z, hkp] at k1; cases k1)]; exact k1, by rw [upd_ne (fun z => by rw [z, hkp] at k2; cases k2)]; exact k2⟩
            refine ⟨_, rfl, _, rfl, kd, kx, _, _, .int (NM.left (r :: rs) ms), rfl, rfl, upd_same, key'', by rw [valV_put, if_pos rfl], ?_⟩
            have hlp := length_putK kvs' (((r :: rs).length : Int), ms) (.int (NM.left (r :: rs) ms))
            have hb2 : NM.budT (r :: rs).length = 1 + 20 * NM.budT rs.length := rfl
            have := q _ _ (sx4.x.trans (ks.trans sameX_upd)) upd_same (m'.put (ms := ms) suf) (by omega)
            rw [← lp] at this
            exact this
theorem ok_boards_left (T : Tx K mg a) : FnOk P w K mg base CX0 15 a.f_boards_left a.d_boards_left ["rows", "columns", "known"] (sp_left K 7) := ok_boards_leftN T 7
abbrev sp_many (K : PySem.W.Frag) (C : Addr) : Sp := spX K (fun a : List Int × List Int => [dI a.1, dI a.2]) (fun a => a.1.length ≤ 1000 ∧ a.2.length ≤ 1000) (fun a => if areCounts a.1 a.2 = true then .ok (.int (NM.left a.1 a.2)) else .error C)
theorem ok_many (T : Tx K mg a) : FnOk P w K mg base (CXE P w) 16 a.f_many a.d_many ["rows", "columns"] (sp_many K a.c_NoCounts) := by
  refine T.F_many.okE sc_many (fun vs H Q E h => ?_) (fun cdv A outer s H vs Q E hr h => ?_)
  · obtain ⟨_, da, _⟩ := h; rw [da.length]; rfl
  obtain ⟨⟨rs, cs⟩, da, hb, q, qe⟩ := h
  obtain ⟨v1, v2, rfl, d1, d2⟩ := dat2 da
  refine ⟨_, (pss_cons (ps_expr (pe_call ((ok_need_counts T).mono (by first | decide | omega)) hr rfl T.m_need_counts T.F_need_counts.kp T.B_need_counts .nil passesE (pa_cons (pv 0) (pa_cons (pv 1) pa_nil)))) (pss_one (ps_ret (pe_call ((ok_boards_left T).mono (by first | decide | omega)) hr rfl T.m_boards_left T.F_boards_left.kp T.B_boards_left .nil pass0 (pa_cons (pv 0) (pa_cons (pv 1) (pa_cons pe_dnew pa_nil))))))), ?_⟩
  have ev := EnvD.start (N := ["rows", "columns"]) da
  cases hC : areCounts rs cs with
  | false => exact goDropX (yx_callX (rs, cs) (ya_cons (y_var rfl) (ya_cons (y_var rfl) ya_nil)) hb (if_neg (by rw [hC]; exact Bool.false_ne_true))) ev fun H' s => qe _ (if_neg (by rw [hC]; exact Bool.false_ne_true)) H' s
  | true =>
    obtain ⟨⟨l1, l2⟩, ⟨w1, w2⟩, _, _⟩ := areCounts_ok hC
    refine goDrop (y_callX (rs, cs) (ya_cons (y_var rfl) (ya_cons (y_var rfl) ya_nil)) hb (if_pos hC)) ev fun v0 H0 s0 _ => ?_
    have hbt : NM.budT rs.length ≤ NM.budT 6 := NM.budT_mono l2
    have hb6 : NM.budT 6 = 3368421 := by decide
    refine ⟨_, rfl, _, rfl, fun kd hk => ⟨rs, rs, cs, v1, v2, kd, [], rfl, (d1.same s0).same (same_upd hk _), (d2.same s0).same (same_upd hk _), upd_same, Memo.nil _, ⟨[], rfl⟩, by omega, ⟨w1, w2⟩, by simp; omega, fun H' kvs' sx _ _ _ => ?_⟩⟩
    exact q _ (if_pos hC) _ H' (s0.trans (sx.fresh hk)) (.int _)

theorem ite1 {A B : Prop} {b : Bool} (h : b = true) (q : A) : if b = true then A else B := by rw [if_pos h]; exact q
theorem ite0 {A B : Prop} {b : Bool} (h : b = false) (q : B) : if b = true then A else B := by rw [if_neg (by rw [h]; exact Bool.false_ne_true)]; exact q
theorem cut_from {x : List Int} {i : Nat} (h : i ≤ x.length) : cutL x (some (i : Int)) none = x.drop i := by
  unfold cutL
  rw [HT.sIx_nat, HT.sIx_none, Nat.min_eq_left h, List.take_of_length_le (by simp)]
theorem goIf1 {K : PySem.W.Frag} {H : Hp} {σ : St} {ρ : Rho} {tt : TT} {t e : TS} {D : Ends} {b : Bool} (h : YB K ρ tt b) (ev : EnvD K H σ ρ) (q : ∀ H', Same H H' → if b = true then t D σ H' else e D σ H') : tIfS tt t e D σ H := h σ H _ ev q
theorem goAsg {K : PySem.W.Frag} {H : Hp} {σ : St} {ρ : Rho} {te : TE} {d : PyData} {D : Ends} {n : Nat} (h : Y K ρ te d) (ev : EnvD K H σ ρ) (q : ∀ v H', Same H H' → DatV K H' v d → D.nx (σ.set n (some v)) H') : tAsg te (gName n) D σ H := h σ H _ ev q
theorem goSetX {K : PySem.W.Frag} {H : Hp} {σ : St} {ρ : Rho} {te : TE} {u : TS} {D : Ends} {n : Nat} {E : XK} {C : Addr} (h : YX K E ρ te C) (ev : EnvD K H σ ρ) (q : ∀ H', Same H H' → E (.ref C) none H') : tSeq (tAsg te (gName n)) u D σ H := h σ H _ ev q
theorem isB_of {b : List (List Int)} (h : isBoard b = true) : NM.IsB (rowsOf b) (colsOf b) b := by
  obtain ⟨_, _, hrows⟩ := isBoard_ok h
  have hl : (colsOf b).length = (hd0 b).length := by unfold colsOf; rw [List.length_map, List.length_range]
  exact ⟨rfl, fun r hr => by rw [hl]; exact (hrows r hr).1, fun r hr => (hrows r hr).2, by rw [hl]; rfl⟩
abbrev sp_number_of (K : PySem.W.Frag) (C : Addr) : Sp := spX K (fun b : List (List Int) => [dII b]) Small (fun b => if isBoard b = true then .ok (.int (NM.idx (rowsOf b) (colsOf b) b)) else .error C)
theorem ok_number_of (T : Tx K mg a) : FnOk P w K mg base (CXE P w) 17 a.f_number_of a.d_number_of ["board"] (sp_number_of K a.c_NoBoard) := by
  refine T.F_number_of.okE sc_number_of (fun vs H Q E h => ?_) (fun cdv A outer s H vs Q E hr h => ?_)
  · obtain ⟨_, da, _⟩ := h; rw [da.length]; rfl
  obtain ⟨b, da, hb, q, qe⟩ := h
  obtain ⟨v, rfl, hv⟩ := dat1 da
  refine ⟨_, (pss_cons (ps_set (i := 1) sc_number_of.nd rfl (Or.inl rfl) (pe_call ((ok_countsD T).mono (by first | decide | omega)) hr rfl T.m_counts T.F_counts.kp T.B_counts .nil passesE (pa_cons (pv 0) pa_nil))) (pss_cons (ps_set (i := 2) sc_number_of.nd rfl (Or.inl rfl) (pe_ix (ix_tup' (K := K) rfl) (pv 1) pe_int (fun _ _ => rfl))) (pss_cons (ps_set (i := 3) sc_number_of.nd rfl (Or.inl rfl) (pe_ix (ix_tup' (K := K) rfl) (pv 1) pe_int (fun _ _ => rfl))) (pss_cons (ps_set (i := 4) sc_number_of.nd rfl (Or.inl rfl) pe_dnew) (pss_cons (ps_set (i := 5) sc_number_of.nd rfl (Or.inl rfl) pe_int) (pss_cons (PS.nox (ps_for PassesOwn.never (pi_enum (K := K) rfl rfl rfl T.b_enumerate (pa_cons (pv 0) pa_nil)) (pg_tup' (K := K) (n := 2) rfl rfl (pgs_cons (pg_name (i := 6) sc_number_of.nd rfl (Or.inl rfl)) (pgs_cons (pg_name (i := 7) sc_number_of.nd rfl (Or.inl rfl)) pgs_nil))) (pss_cons (ps_for PassesOwn.never (pi_list' (K := K) rfl rfl (pe_call ((ok_row_choices T).mono (by first | decide | omega)) hr rfl T.m_row_choices T.F_row_choices.kp T.B_row_choices .nil pass0 (pa_cons (pe_callB (call_len_seq' (K := K) rfl) rfl T.b_len bt_len (pa_cons (pv 3) pa_nil)) (pa_cons (pe_ix (ix_list' (K := K) rfl) (pv 2) (pv 6) (fun _ _ => rfl)) pa_nil)))) (pg_name (i := 8) sc_number_of.nd rfl (Or.inl rfl)) (pss_one (ps_if (pt_cmpR (op_ltI (K := K) rfl hr.units) (pv 8) (pv 7) (nomark _)) (pss_one (ps_set (i := 5) sc_number_of.nd rfl (Or.inl rfl) (pe_op op_add (pv 5) (pe_call ((ok_boards_left T).mono (by first | decide | omega)) hr rfl T.m_boards_left T.F_boards_left.kp T.B_boards_left .nil pass0 (pa_cons (pe_slice (sl_list' (K := K) rfl) (pv 2) (po_some (pe_op op_add (pv 6) pe_int)) po_none) (pa_cons (pe_call ((ok_columns_behind T).mono (by first | decide | omega)) hr rfl T.m_columns_behind T.F_columns_behind.kp T.B_columns_behind .nil pass0 (pa_cons (pv 3) (pa_cons (pv 8) pa_nil))) (pa_cons (pv 4) pa_nil))))))) pss_nil))) (pss_one (ps_set (i := 3) sc_number_of.nd rfl (Or.inl rfl) (pe_call ((ok_columns_behind T).mono (by first | decide | omega)) hr rfl T.m_columns_behind T.F_columns_behind.kp T.B_columns_behind .nil pass0 (pa_cons (pv 3) (pa_cons (pv 7) pa_nil)))))))) (pss_one (ps_ret (pv 5))))))))), ?_⟩
  have ev : EnvD K H [some v, none, none, none, none, none, none, none, none] [some (dII b), none, none, none, none, none, none, none, none] := EnvD.start (N := ["board", "told", "rows", "columns", "known", "number", "place", "row", "choice"]) da
  cases hB : isBoard b with
  | false =>
    have e : (if isBoard b = true then Except.ok (PyData.tuple [dI (rowsOf b), dI (colsOf b)]) else .error a.c_NoBoard) = .error a.c_NoBoard := if_neg (by rw [hB]; exact Bool.false_ne_true)
    exact goSetX (yx_callX b (ya_cons (y_var rfl) ya_nil) hb e) ev fun H' s => qe _ (if_neg (by rw [hB]; exact Bool.false_ne_true)) H' s
  | true =>
    obtain ⟨⟨l1, l2⟩, ⟨w1, w2⟩, hrows⟩ := isBoard_ok hB
    have hB' := isB_of hB
    refine goSet (d := .tuple [dI (rowsOf b), dI (colsOf b)]) (y_callX b (ya_cons (y_var rfl) ya_nil) hb (if_pos hB)) ev fun vt H1 s1 dt => ?_
    have ev1 := (ev.same s1).set dt 1
    generalize hrs : rowsOf b = rs at *
    generalize hcs : colsOf b = cs at *
    have rl : rs.length = b.length := by rw [← hrs]; unfold rowsOf; rw [List.length_map]
    have cl : cs.length = (hd0 b).length := by rw [← hcs]; unfold colsOf; rw [List.length_map, List.length_range]
    refine goSet (d := dI rs) (y_ixT (y_var rfl) y_int rfl) ev1 fun vr H2 s2 dr => ?_
    have ev2 := (ev1.same s2).set dr 2
    refine goSet (d := dI cs) (y_ixT (y_var rfl) y_int rfl) ev2 fun vc H3 s3 dc => ?_
    refine fun kd hk => ?_
    have s13 := (s1.trans s2).trans s3
    have sk := same_upd hk (.dT [])
    have ev3 : EnvD K (upd H3 kd (.dT [])) [some v, some vt, some vr, some vc, some (.ref kd), none, none, none, none] [some (dII b), none, some (dI rs), some (dI cs), none, none, none, none, none] := ⟨rfl, fun i d hi => by
      match i, hi with
      | 0, hi => cases hi; exact ⟨_, rfl, (hv.same s13).same sk⟩
      | 1, hi => cases hi
      | 2, hi => cases hi; exact ⟨_, rfl, (dr.same s3).same sk⟩
      | 3, hi => cases hi; exact ⟨_, rfl, dc.same sk⟩
      | 4, hi => cases hi
      | 5, hi => cases hi
      | 6, hi => cases hi
      | 7, hi => cases hi
      | 8, hi => cases hi⟩
    refine goSet (d := .int 0) y_int ev3 fun v0 H5 s5 d0 => ?_
    have e0 := datInt d0
    subst e0
    have ev5 := (ev3.same s5).set (.int 0) 5
    refine goForE (ds := b.map dI) (ya_cons (y_var rfl) ya_nil) ev5 fun pa xs H6 s6 hpa dxs => ?_
    have s56 := s5.trans s6
    have hkd6 : H6 kd = some (.dT []) := s56 _ _ upd_same
    have hxl := dxs.len
    have hv6 : DatV K H6 v (dII b) := ((hv.same s13).same sk).same s56
    have hr6 : DatV K H6 vr (dI rs) := ((dr.same s3).same sk).same s56
    have hc6 : DatV K H6 vc (dI cs) := (dc.same sk).same s56
    have hbU : ∀ k, k ≤ 6 → NM.budU k ≤ 3545700 := by decide
    refine ⟨fun i σ' H' => ∃ (n : Int) (cv : V) (x y z : Option V) (kvs : List (NKey × V)) (cols : List Int), σ' = [some v, some vt, some vr, some cv, some (.ref kd), some (.int n), x, y, z] ∧ SameX kd H6 H' ∧ DatV K H' cv (dI cols) ∧ cols.length = cs.length ∧ H' kd = some (.dT kvs) ∧ Memo rs kvs ∧ kvs.length + NM.budU (rs.length - i) ≤ 3545700 ∧
        n + NM.idx (rs.drop i) cols (b.drop i) = NM.idx rs cs b,
      ⟨0, vc, none, none, none, [], cs, rfl, SameX.refl _ _, hc6, rfl, hkd6, Memo.nil _, by have := hbU rs.length (by omega); simpa using this, by simp⟩, fun i σ' H' _ ⟨_, _, _, _, _, _, _, _, sx, _⟩ => sx.seq hkd6 hpa, fun i x σ' H' p hx hp ⟨n, cv, x0, y0, z0, kvs, cols, e, sx', dcv, cll, hk', memo, bud, eidx⟩ => ?_, fun σ' H' ⟨n, cv, x0, y0, z0, kvs, cols, e, sx', dcv, cll, hk', memo, bud, eidx⟩ => ?_⟩
    · subst e
      obtain ⟨row, hrow, drow⟩ := dxs.getD hx
      obtain ⟨hi, ge⟩ := List.getElem?_eq_some_iff.mp hrow
      have hir : i < rs.length := by omega
      have hrm := List.mem_of_getElem? hrow
      have hrl := (hrows row hrm).1
      refine ⟨p, _, rfl, SqT.of upd_same, rfl, _, _, rfl, _, _, rfl, rfl, ?_⟩
      dsimp only
      have s7 := same_upd hp (.tup [.int (i : Int), x])
      have drow7 : DatV K (upd H' p (.tup [.int (i : Int), x])) x (dI row) := (drow.sameX sx' hkd6).same s7
      have evb : EnvD K (upd H' p (.tup [.int (i : Int), x])) [some v, some vt, some vr, some cv, some (.ref kd), some (.int n), some (.int i), some x, z0] [some (dII b), none, some (dI rs), some (dI cols), none, some (.int n), some (.int i), some (dI row), none] := ⟨rfl, fun j d hj => by
        match j, hj with
        | 0, hj => cases hj; exact ⟨_, rfl, (hv6.sameX sx' hkd6).same s7⟩
        | 1, hj => cases hj
        | 2, hj => cases hj; exact ⟨_, rfl, (hr6.sameX sx' hkd6).same s7⟩
        | 3, hj => cases hj; exact ⟨_, rfl, dcv.same s7⟩
        | 4, hj => cases hj
        | 5, hj => cases hj; exact ⟨_, rfl, .int _⟩
        | 6, hj => cases hj; exact ⟨_, rfl, .int _⟩
        | 7, hj => cases hj; exact ⟨_, rfl, drow7⟩
        | 8, hj => cases hj⟩
      have hri : rs[i]? = some rs[i] := List.getElem?_eq_getElem hir
      generalize hre : rs[i] = r at hri
      have c6 : cols.length ≤ 6 := by omega
      refine goForL (ds := (NM.rowChoices cols.length r).map dI) (y_cl ((cols.length : Int), r) (ya_cons ((y_len (ds := cols.map .int) (y_var rfl)).to (by rw [List.length_map])) (ya_cons (y_ixL (ds := rs.map .int) (y_var rfl) (y_var rfl) (atI_nat (j := i) (by rw [List.getElem?_map, hri]; rfl))) ya_nil)) ⟨by show (0 : Int) ≤ cols.length; omega, by show (cols.length : Int) < (7 : Nat); omega, by show (cols.length : Int) ≤ 6; omega⟩ rfl) evb fun pc ys H8 s8 hpc dys => ?_
      have s78 := s7.trans s8
      have hk8 := s78 _ _ hk'
      have hyl := dys.len
      have hrl20 := NM.rc_len cols.length r c6
      have hdl : (rs.drop (i + 1)).length = rs.length - (i + 1) := List.length_drop ..
      have hbud : NM.budU (rs.length - i) = 20 * NM.budT (rs.length - (i + 1)) + NM.budU (rs.length - (i + 1)) := by
        rw [show rs.length - i = (rs.length - (i + 1)) + 1 by omega]; rfl
      have edr : rs.drop i = r :: rs.drop (i + 1) := by rw [List.drop_eq_getElem_cons hir, hre]
      have edb : b.drop i = row :: b.drop (i + 1) := by rw [List.drop_eq_getElem_cons hi, ge]
      refine ⟨fun j σ2 H2 => ∃ (m : Int) (z : Option V) (kvs2 : List (NKey × V)), σ2 = [some v, some vt, some vr, some cv, some (.ref kd), some (.int m), some (.int i), some x, z] ∧ SameX kd H8 H2 ∧ H2 kd = some (.dT kvs2) ∧ Memo rs kvs2 ∧ kvs2.length ≤ kvs.length + j * NM.budT (rs.length - (i + 1)) ∧
          m = n + ((((NM.rowChoices cols.length r).take j).filter fun c => decide (c < row)).map fun c => NM.left (rs.drop (i + 1)) (NM.sub cols c)).sum,
        ⟨n, z0, kvs, rfl, SameX.refl _ _, hk8, memo, by omega, by simp⟩, fun j σ2 H2 _ ⟨_, _, _, _, sx, _⟩ => sx.seq hk8 hpc, fun j y σ2 H2 hy ⟨m, z, kvs2, e, sx2, hk2, memo2, len2, em⟩ => ?_, fun σ2 H2 ⟨m, z, kvs2, e, sx2, hk2, memo2, len2, em⟩ => ?_⟩
      · subst e
        obtain ⟨c, hc, dc'⟩ := dys.getD hy
        obtain ⟨hj, gj⟩ := List.getElem?_eq_some_iff.mp hc
        have hcm := List.mem_of_getElem? hc
        have hcl := (NM.rc_mem hcm).1
        have hj20 : j < 20 := by omega
        have hmul : j * NM.budT (rs.length - (i + 1)) + NM.budT (rs.length - (i + 1)) ≤ 20 * NM.budT (rs.length - (i + 1)) := by rw [← Nat.succ_mul]; exact Nat.mul_le_mul_right _ hj20
        have tk : (NM.rowChoices cols.length r).take (j + 1) = (NM.rowChoices cols.length r).take j ++ [c] := by rw [List.take_succ_eq_append_getElem hj, gj]
        have evc : EnvD K H2 [some v, some vt, some vr, some cv, some (.ref kd), some (.int m), some (.int i), some x, some y] [some (dII b), none, some (dI rs), some (dI cols), none, some (.int m), some (.int i), some (dI row), some (dI c)] := ⟨rfl, fun k d hk => by
          match k, hk with
          | 0, hk => cases hk; exact ⟨_, rfl, ((hv6.sameX sx' hkd6).same s78).sameX sx2 hk8⟩
          | 1, hk => cases hk
          | 2, hk => cases hk; exact ⟨_, rfl, ((hr6.sameX sx' hkd6).same s78).sameX sx2 hk8⟩
          | 3, hk => cases hk; exact ⟨_, rfl, (dcv.same s78).sameX sx2 hk8⟩
          | 4, hk => cases hk
          | 5, hk => cases hk; exact ⟨_, rfl, .int _⟩
          | 6, hk => cases hk; exact ⟨_, rfl, .int _⟩
          | 7, hk => cases hk; exact ⟨_, rfl, (drow7.same s8).sameX sx2 hk8⟩
          | 8, hk => cases hk; exact ⟨_, rfl, dc'.sameX sx2 hk8⟩⟩
        refine goIf1 (b := decide (c < row)) (yb_test (y_ltI (y_var rfl) (y_var rfl))) evc fun H9 s9 => ?_
        by_cases hlt : c < row
        · refine ite1 (decide_eq_true hlt) ?_
          have hk9 := s9 _ _ hk2
          have hsl : (NM.sub cols c).length = cols.length := NM.sub_len hcl
          refine ⟨_, rfl, goCall (t := tCons _ (tCons _ (tCons _ tNil))) (goCons (d := dI (rs.drop (i + 1))) ((y_slI (x := rs) (y_var rfl) (yo_some (i := ((i + 1 : Nat) : Int)) ((y_add (y_var rfl) y_int).to (by push_cast; rfl))) yo_none).to (by rw [cut_from (by omega)])) (evc.same s9) fun u1 H10 s10 du1 => goCons (d := dI (NM.sub cols c)) (y_cl (cols, c) (ya_cons (y_var rfl) (ya_cons (y_var rfl) ya_nil)) ⟨hcl.symm, by show cols.length ≤ 1000; omega⟩ rfl) ((evc.same s9).same s10) fun u2 H11 s11 du2 => goVar rfl (goNil ⟨rs, rs.drop (i + 1), NM.sub cols c, u1, u2, kd, kvs2, rfl, du1.same s11, du2, (s10.trans s11) _ _ hk9, memo2, ⟨rs.take (i + 1), (List.take_append_drop _ _).symm⟩, by omega, by omega, by rw [hdl]; omega, fun H12 kvs12 sx12 hk12 m12 l12 => ?_⟩))⟩
          rw [hdl] at l12
          refine ⟨_, _, rfl, rfl, ⟨_, _, kvs12, rfl, ((sx2.trans s9.x).trans (s10.trans s11).x).trans sx12, hk12, m12, by rw [Nat.succ_mul]; omega, ?_⟩⟩
          rw [tk, List.filter_append, List.map_append, List.sum_append, List.filter_cons, if_pos (decide_eq_true hlt), em]
          simp [Int.add_assoc]
        · refine ite0 (decide_eq_false hlt) ?_
          refine ⟨_, _, kvs2, rfl, sx2.trans s9.x, s9 _ _ hk2, memo2, by rw [Nat.succ_mul]; omega, ?_⟩
          rw [tk, List.filter_append, List.map_append, List.sum_append, List.filter_cons, if_neg (by rw [decide_eq_false hlt]; exact Bool.false_ne_true), em]
          simp
      · subst e
        rw [hyl, List.take_length] at em
        have evd : EnvD K H2 [some v, some vt, some vr, some cv, some (.ref kd), some (.int m), some (.int i), some x, z] [none, none, none, some (dI cols), none, none, none, some (dI row), none] := ⟨rfl, fun k d hk => by
          match k, hk with
          | 0, hk => cases hk
          | 1, hk => cases hk
          | 2, hk => cases hk
          | 3, hk => cases hk; exact ⟨_, rfl, (dcv.same s78).sameX sx2 hk8⟩
          | 4, hk => cases hk
          | 5, hk => cases hk
          | 6, hk => cases hk
          | 7, hk => cases hk; exact ⟨_, rfl, (drow7.same s8).sameX sx2 hk8⟩
          | 8, hk => cases hk⟩
        have hrc : row.length = cols.length := by omega
        refine goAsg (d := dI (NM.sub cols row)) (y_cl (cols, row) (ya_cons (y_var rfl) (ya_cons (y_var rfl) ya_nil)) ⟨hrc.symm, by show cols.length ≤ 1000; omega⟩ rfl) evd fun vb H9 s9 db => ?_
        have hmul : (NM.rowChoices cols.length r).length * NM.budT (rs.length - (i + 1)) ≤ 20 * NM.budT (rs.length - (i + 1)) := Nat.mul_le_mul_right _ hrl20
        rw [hyl] at len2
        refine ⟨m, vb, _, _, _, kvs2, NM.sub cols row, rfl, ((sx'.trans s78.x).trans sx2).trans s9.x, db, by rw [NM.sub_len hrc]; exact cll, s9 _ _ hk2, memo2, by omega, ?_⟩
        rw [edr, edb] at eidx
        simp only [NM.idx] at eidx
        rw [em, ← eidx]; omega
    · subst e
      have sAll : Same H H' := s13.trans ((s56.x.trans sx').fresh hk)
      rw [hxl, List.drop_length] at eidx
      have ez : NM.idx (rs.drop b.length) cols [] = 0 := by cases rs.drop b.length <;> rfl
      rw [ez] at eidx
      have evz : EnvD K H' [some v, some vt, some vr, some cv, some (.ref kd), some (.int n), x0, y0, z0] [none, none, none, none, none, some (.int n), none, none, none] := ⟨rfl, fun k d hk => by
        match k, hk with
        | 0, hk => cases hk
        | 1, hk => cases hk
        | 2, hk => cases hk
        | 3, hk => cases hk
        | 4, hk => cases hk
        | 5, hk => cases hk; exact ⟨_, rfl, .int _⟩
        | 6, hk => cases hk
        | 7, hk => cases hk
        | 8, hk => cases hk⟩
      refine goRet (y_var rfl) evz fun vz Hz sz dz => ?_
      exact q (.int n) (by show (if isBoard b = true then Except.ok (PyData.int (NM.idx (rowsOf b) (colsOf b) b)) else _) = _; rw [if_pos hB, hrs, hcs, ← eidx, Int.add_zero]) vz Hz (sAll.trans sz) dz
def cellAt (ns : List Int) (k : Int) : Int := if k < ns.length then ns.getD k.toNat 0 else 0
abbrev sp_cell_at (K : PySem.W.Frag) : Sp := spF K (fun a : List Int × Int => [dI a.1, .int a.2]) (fun a => 0 ≤ a.2) (fun a => .int (cellAt a.1 a.2))
theorem ok__law_cell_at (T : Tx K mg a) : FnOk P w K mg base CX0 1 a.f__law_cell_at a.d__law_cell_at ["script", "k"] (sp_cell_at K) :=
  T.F__law_cell_at.okD sc__law_cell_at (fun _ => rfl) fun cdv A outer s H E hr => ⟨_, (pss_cons (ps_if (pt_cmpR op_lt (pv 1) (pe_callB (call_len_seq' (K := K) rfl) rfl T.b_len bt_len (pa_cons (pv 0) pa_nil)) (nomark _)) (pss_one (ps_ret (pe_ix (ix_list' (K := K) rfl) (pv 0) (pv 1) (fun _ _ => rfl)))) pss_nil) (pss_one (ps_ret pe_int))), fun ⟨ns, k⟩ h => by
    refine ys_seq (ys_if (b := decide (k < ns.length)) (yb_test ((y_lt (y_var rfl) (y_len (ds := ns.map .int) (y_var rfl))).to (by rw [List.length_map]))) (fun hc => ?_) fun hc => ys_next (ys_ret y_int ?_))
    · have hk : k < ns.length := of_decide_eq_true hc
      have h0 : 0 ≤ k := h
      obtain ⟨n, rfl⟩ : ∃ n : Nat, k = n := ⟨k.toNat, by omega⟩
      refine ys_ret (y_ixL (ds := ns.map .int) (d := .int (ns.getD n 0)) (y_var rfl) (y_var rfl) (atI_nat ?_)) ?_
      · rw [List.getElem?_map, List.getElem?_eq_getElem (by omega)]; simp [List.getD_eq_getElem?_getD, show n < ns.length by omega]
      · show PyData.int _ = PyData.int (cellAt ns n)
        unfold cellAt; rw [if_pos hk]; rfl
    · show PyData.int 0 = PyData.int (cellAt ns k)
      unfold cellAt; rw [if_neg (of_decide_eq_false hc)]⟩
abbrev sp_whole (K : PySem.W.Frag) : Sp := spF K (fun i : Int => [.int i]) (fun _ => True) (fun _ => .bool true)
theorem ok__law_whole (T : Tx K mg a) : FnOk P w K mg base CX0 1 a.f__law_whole a.d__law_whole ["found"] (sp_whole K) :=
  T.F__law_whole.okD sc__law_whole (fun _ => rfl) fun cdv A outer s H E hr => ⟨_, (pss_one (ps_ret (pe_and (pe_callB (call_isD (K := K) rfl) rfl T.b_isinstance bt_isinstance (pa_cons (pv 0) (pa_cons (pe_bltn (v := .ty "int") rfl T.b_int bt_int rfl) pa_nil))) (pe_one (pe_not (pe_callB (call_isD (K := K) rfl) rfl T.b_isinstance bt_isinstance (pa_cons (pv 0) (pa_cons (pe_bltn (v := .ty "bool") rfl T.b_bool bt_bool rfl) pa_nil)))))))), fun i _ =>
    ys_ret (y_and (y_isD (d := .int i) (cv := .type "int") (y_var rfl) rfl rfl) fun _ => y_not (y_isD (d := .int i) (cv := .type "bool") (y_var rfl) rfl rfl)) rfl⟩
def num0 (cell : Int) : Int := (cell % 1000000007 + 12345) * 48271 % 1000000007
def num1 (cell : Int) : Int := num0 cell * num0 cell % 1000000007 / 8
def itB (n : Int) : Nat → List Int × Int
  | 0 => ([], n)
  | i + 1 => ((itB n i).1 ++ [(itB n i).2 % 2], (itB n i).2 / 2)
def bitsOf (cell : Int) (size : Nat) : List Int := (itB (num1 cell) size).1
theorem itB_len (n : Int) : ∀ i, (itB n i).1.length = i
  | 0 => rfl
  | i + 1 => by show ((itB n i).1 ++ [_]).length = _; rw [List.length_append, itB_len n i]; rfl
theorem itB_bit (n : Int) : ∀ i, ∀ c ∈ (itB n i).1, c = 0 ∨ c = 1
  | 0 => fun c h => nomatch h
  | i + 1 => fun c h => by
    rcases List.mem_append.mp h with h | h
    · exact itB_bit n i c h
    · have := List.mem_singleton.mp h
      omega
abbrev sp_bits (K : PySem.W.Frag) : Sp := spF K (fun a : Int × Int => [.int a.1, .int a.2]) (fun a => 0 ≤ a.2 ∧ a.2 ≤ 100) (fun a => dI (bitsOf a.1 a.2.toNat))
theorem ok__law_bits (T : Tx K mg a) : FnOk P w K mg base CX0 1 a.f__law_bits a.d__law_bits ["cell", "size"] (sp_bits K) := by
  refine T.F__law_bits.ok sc__law_bits (fun vs H Q E h => ?_) (fun cdv A outer s H vs Q E hr h => ?_)
  · obtain ⟨a, da, _⟩ := h; rw [da.length]; rfl
  obtain ⟨⟨cell, size⟩, da, ⟨hs0, hs1⟩, q⟩ := h
  obtain ⟨v1, v2, rfl, d1, d2⟩ := dat2 da
  have e1 := datInt d1
  have e2 := datInt d2
  subst e1 e2
  have n0 : 0 ≤ num0 cell ∧ num0 cell < 1000000007 := by unfold num0; omega
  refine ⟨_, (pss_cons (ps_set (i := 2) sc__law_bits.nd rfl (Or.inl rfl) (pe_op op_mod (pe_op op_mul (pe_op op_add (pe_op op_mod (pv 0) pe_int) pe_int) pe_int) pe_int)) (pss_cons (ps_set (i := 2) sc__law_bits.nd rfl (Or.inl rfl) (pe_op op_fdiv (pe_op op_mod (pe_op op_mul (pv 2) (pv 2)) pe_int) pe_int)) (pss_cons (ps_set (i := 3) sc__law_bits.nd rfl (Or.inl rfl) (pe_lst pa_nil)) (pss_cons (ps_for PassesOwn.never (pi_range1 rfl rfl T.b_range (pa_cons (pv 1) pa_nil)) (pg_name (i := 4) sc__law_bits.nd rfl (Or.inl rfl)) (pss_cons (ps_expr (pe_bm PySem.F.plainAttrs_list PySem.F.slot_list_append PySem.F.type_list_append mt_append (pv 3) (pa_cons (pe_op op_mod (pv 2) pe_int) pa_nil))) (pss_one (ps_set (i := 2) sc__law_bits.nd rfl (Or.inl rfl) (pe_op op_fdiv (pv 2) pe_int))))) (pss_one (ps_ret (pv 3))))))), ?_⟩
  refine ⟨_, rfl, _, _, rfl, rfl, (by show (0 : Int) < 1000000007; decide), _, _, rfl, rfl, _, _, rfl, rfl, (.inr ⟨by decide, by decide⟩), _, _, rfl, rfl, (by show (0 : Int) < 1000000007; decide), ?_⟩
  refine ⟨_, rfl, _, rfl, _, _, rfl, rfl, (.inl ⟨by show _ < num0 cell; omega, by show num0 cell < _; omega⟩), _, _, rfl, rfl, (by show (0 : Int) < 1000000007; decide), _, _, rfl, rfl, ⟨by decide, by decide⟩, ?_⟩
  refine ⟨(by decide), fun l hl => ?_⟩
  refine ⟨_, rfl, size, rfl, (by omega), (by omega), for_range (lo := 0) (n := size.toNat) (fun i σ' H' => (∃ x, σ' = [some (.int cell), some (.int size), some (.int (itB (num1 cell) i).2), some (.ref l), x]) ∧ Same H H' ∧ H' l = some (.lst ((itB (num1 cell) i).1.map .int)))
    ⟨⟨_, rfl⟩, same_upd hl _, upd_same⟩ (fun i σ' H' hi p => ?_) fun σ' H' p => ?_⟩
  · obtain ⟨⟨x, rfl⟩, sm, hL⟩ := p
    refine ⟨_, rfl, .inl ⟨rfl, _, SqL.of hL⟩, _, rfl, _, _, rfl, rfl, (by show (0 : Int) < 2; decide), l, _, _, rfl, rfl, hL, ?_, ?_⟩
    · rw [List.length_map, itB_len]; exact small1000 (by omega)
    · refine ⟨_, rfl, _, _, rfl, rfl, ⟨by decide, by decide⟩, ⟨_, rfl⟩, sm.updN hl, ?_⟩
      rw [upd_same]
      show _ = some (HO.lst (List.map V.int ((itB (num1 cell) i).1 ++ [_])))
      rw [List.map_append]; rfl
  · obtain ⟨⟨x, rfl⟩, sm, hL⟩ := p
    exact ⟨_, rfl, q _ H' sm (datI_of (SqL.of hL))⟩
def byHigh (ns : List Int) (at_ most : Int) : Int := 1 + cellAt ns at_ % most
def byWide (ns : List Int) (at_ most : Int) : Int := 1 + cellAt ns (at_ + 1) % most
def boardBy (ns : List Int) (at_ most : Int) : List (List Int) := (List.range (byHigh ns at_ most).toNat).map fun row : Nat => bitsOf (cellAt ns (at_ + 2 + (row : Int)) + 977 * (row : Int)) (byWide ns at_ most).toNat
abbrev sp_board_by (K : PySem.W.Frag) : Sp := spF K (fun a : List Int × Int × Int => [dI a.1, .int a.2.1, .int a.2.2]) (fun a => 0 ≤ a.2.1 ∧ 1 ≤ a.2.2 ∧ a.2.2 ≤ 6) (fun a => dII (boardBy a.1 a.2.1 a.2.2))
theorem ok__law_board_by (T : Tx K mg a) : FnOk P w K mg base CX0 2 a.f__law_board_by a.d__law_board_by ["script", "at", "most"] (sp_board_by K) :=
  T.F__law_board_by.okD sc__law_board_by (fun _ => rfl) fun cdv A outer s H E hr => ⟨_, (pss_cons (ps_set (i := 3) sc__law_board_by.nd rfl (Or.inl rfl) (pe_op op_add pe_int (pe_op op_mod (pe_call ((ok__law_cell_at T).mono (by first | decide | omega)) hr rfl T.m__law_cell_at T.F__law_cell_at.kp T.B__law_cell_at .nil pass0 (pa_cons (pv 0) (pa_cons (pv 1) pa_nil))) (pv 2)))) (pss_cons (ps_set (i := 4) sc__law_board_by.nd rfl (Or.inr rfl) (pe_op op_add pe_int (pe_op op_mod (pe_call ((ok__law_cell_at T).mono (by first | decide | omega)) hr rfl T.m__law_cell_at T.F__law_cell_at.kp T.B__law_cell_at .nil pass0 (pa_cons (pv 0) (pa_cons (pe_op op_add (pv 1) pe_int) pa_nil))) (pv 2)))) (pss_one (ps_ret (pe_comp (N' := ["row", "wide", "script", "at"]) (k := 1) (cap := [4, 0, 1]) (CompOk.of (sc := (defScope s__law_board_by)) (N := ["script", "at", "most", "high", "wide"]) rfl rfl (by decide +kernel)) (pi_range1 rfl rfl T.b_range (pa_cons (pv 3) pa_nil)) (fun _ _ _ _ => pg_name (i := 0) (by decide +kernel : (["row", "wide", "script", "at"] : List Str).Nodup) rfl (Or.inl rfl)) (gk_name (by decide)) (fun _ _ _ _ => pf_nil) (fun _ _ _ _ => (pe_call ((ok__law_bits T).mono (by first | decide | omega)) hr rfl T.m__law_bits T.F__law_bits.kp T.B__law_bits .nil pass0 (pa_cons (pe_op op_add (pe_call ((ok__law_cell_at T).mono (by first | decide | omega)) hr rfl T.m__law_cell_at T.F__law_cell_at.kp T.B__law_cell_at .nil pass0 (pa_cons (pv 2) (pa_cons (pe_op op_add (pe_op op_add (pv 3) pe_int) (pv 0)) pa_nil))) (pe_op op_mul pe_int (pv 0))) (pa_cons (pv 1) pa_nil))))))))), fun ⟨ns, at_, most⟩ h => by
    have h0 : 0 ≤ at_ := h.1
    have h1 : 1 ≤ most := h.2.1
    have h2 : most ≤ 6 := h.2.2
    have m1 := Int.emod_nonneg (cellAt ns at_) (b := most) (by omega)
    have m2 := Int.emod_lt_of_pos (cellAt ns at_) (b := most) (by omega)
    have m3 := Int.emod_nonneg (cellAt ns (at_ + 1)) (b := most) (by omega)
    have m4 := Int.emod_lt_of_pos (cellAt ns (at_ + 1)) (b := most) (by omega)
    refine ys_seq (ys_set (d := .int (byHigh ns at_ most)) (y_add y_int (y_mod (y_call (ns, at_) (ya_cons (y_var rfl) (ya_cons (y_var rfl) ya_nil)) h0) (y_var rfl) (by omega))) ?_)
    refine ys_seq (ys_set (d := .int (byWide ns at_ most)) (y_add y_int (y_mod (y_call (ns, at_ + 1) (ya_cons (y_var rfl) (ya_cons (y_add (y_var rfl) y_int) ya_nil)) (by show (0 : Int) ≤ at_ + 1; omega)) (y_var rfl) (by omega))) ?_)
    refine ys_ret (yn_compRT (enc' := dI) (n := byHigh ns at_ most) (ya_cons (y_var rfl) ya_nil) (by unfold byHigh; omega) (by unfold byHigh; omega) (fun row : Nat => bitsOf (cellAt ns (at_ + 2 + (row : Int)) + 977 * (row : Int)) (byWide ns at_ most).toNat) fun i hi => ?_).y rfl
    refine y_call (cellAt ns (at_ + 2 + i) + 977 * i, byWide ns at_ most) (ya_cons (y_add (y_call (ns, at_ + 2 + i) (ya_cons (y_var rfl) (ya_cons (y_add (y_add (y_var rfl) y_int) (y_var rfl)) ya_nil)) (by show (0 : Int) ≤ at_ + 2 + i; omega)) (y_mul y_int (y_var rfl) (.inl ⟨by decide, by decide⟩))) (ya_cons (y_var rfl) ya_nil)) ?_
    show 0 ≤ byWide ns at_ most ∧ byWide ns at_ most ≤ 100
    unfold byWide; omega⟩
def colsTo (b : List (List Int)) : Nat → List Int
  | 0 => (hd0 b).map fun _ => 0
  | i + 1 => List.zipWith (fun x y => x + y) (colsTo b i) (b.getD i [])
theorem colsTo_len {b : List (List Int)} (h : ∀ r ∈ b, r.length = (hd0 b).length) : ∀ i, i ≤ b.length → (colsTo b i).length = (hd0 b).length
  | 0, _ => by simp [colsTo]
  | i + 1, hi => by
    have := colsTo_len h i (by omega)
    have h2 := h (b.getD i []) (by rw [List.getD_eq_getElem?_getD, List.getElem?_eq_getElem hi]; exact List.getElem_mem _)
    simp only [colsTo, List.length_zipWith]; omega
def lawCols (b : List (List Int)) : List Int := colsTo b b.length
def Even (b : List (List Int)) : Prop := b ≠ [] ∧ b.length ≤ 1000 ∧ (hd0 b).length ≤ 1000 ∧ ∀ r ∈ b, r.length = (hd0 b).length
/-- two lists of its own -/
def sp_law_counts (K : PySem.W.Frag) : Sp := fun vs H Q _ => ∃ b, DatAll K H vs [dII b] ∧ Even b ∧
  ∀ t p q H', Same H H' → H' t = some (.tup [.ref p, .ref q]) → H' p = some (.lst ((rowsOf b).map .int)) → H' q = some (.lst ((lawCols b).map .int)) → H p = none → H q = none → p ≠ q → Q (.ref t) H'
theorem ok__law_counts (T : Tx K mg a) : FnOk P w K mg base CX0 1 a.f__law_counts a.d__law_counts ["board"] (sp_law_counts K) := by
  refine T.F__law_counts.ok sc__law_counts (fun vs H Q E h => ?_) (fun cdv A outer s H vs Q E hr h => ?_)
  · obtain ⟨_, da, _⟩ := h; rw [da.length]; rfl
  obtain ⟨b, da, ⟨hne, hl, hw, hrow⟩, q⟩ := h
  obtain ⟨v, rfl, hv⟩ := dat1 da
  refine ⟨_, (pss_cons (ps_setComp (i := 1) sc__law_counts.nd rfl rfl (N' := ["cell"]) (k := 1) (cap := []) (CompOk.of (sc := (defScope s__law_counts)) (N := ["board", "columns", "row"]) rfl rfl (by decide +kernel)) (pi_list' (K := K) rfl rfl (pe_ix (ix_list' (K := K) rfl) (pv 0) pe_int (fun _ _ => rfl))) (fun _ _ _ _ => pg_name (i := 0) (by decide +kernel : (["cell"] : List Str).Nodup) rfl (Or.inl rfl)) (gk_name (by decide)) (fun _ _ _ _ => pf_nil) (fun _ _ _ _ => pe_int)) (pss_cons (ps_for PassesOwn.never (pi_list' (K := K) rfl rfl (pv 0)) (pg_name (i := 2) sc__law_counts.nd rfl (Or.inl rfl)) (pss_one (ps_setComp (i := 1) sc__law_counts.nd rfl rfl (N' := ["column", "cell"]) (k := 2) (cap := []) (CompOk.of (sc := (defScope s__law_counts)) (N := ["board", "columns", "row"]) rfl rfl (by decide +kernel)) (pi_zip' (K := K) rfl rfl rfl T.b_zip (pa_cons (pv 1) (pa_cons (pv 2) pa_nil))) (fun _ _ _ _ => pg_tup' (K := K) (n := 2) rfl rfl (pgs_cons (pg_name (i := 0) (by decide +kernel : (["column", "cell"] : List Str).Nodup) rfl (Or.inl rfl)) (pgs_cons (pg_name (i := 1) (by decide +kernel : (["column", "cell"] : List Str).Nodup) rfl (Or.inl rfl)) pgs_nil))) (gk_tup (gks_name (by decide) (gks_name (by decide) gks_nil))) (fun _ _ _ _ => pf_nil) (fun _ _ _ _ => (pe_op op_add (pv 0) (pv 1)))))) (pss_one (ps_ret (pe_tup (pa_cons (pe_comp (N' := ["row"]) (k := 1) (cap := []) (CompOk.of (sc := (defScope s__law_counts)) (N := ["board", "columns", "row"]) rfl rfl (by decide +kernel)) (pi_list' (K := K) rfl rfl (pv 0)) (fun _ _ _ _ => pg_name (i := 0) (by decide +kernel : (["row"] : List Str).Nodup) rfl (Or.inl rfl)) (gk_name (by decide)) (fun _ _ _ _ => pf_nil) (fun _ _ _ _ => (pe_callB (call_sum' (K := K) rfl rfl) rfl T.b_sum bt_sum (pa_cons (pv 0) pa_nil)))) (pa_cons (pv 1) pa_nil))))))), ?_⟩
  have ev : EnvD K H [some v, none, none] [some (dII b), none, none] := EnvD.start (N := ["board", "columns", "row"]) da
  refine goSetN (yn_compT (enc := PyData.int) (enc' := PyData.int) (as := hd0 b) (y_ixL (ds := b.map dI) (y_var rfl) y_int (at0 hne)) (fun _ => (0 : Int)) hw fun x _ => y_int) ev fun p0 vs0 H1 s1 hp0 dv0 => ?_
  have e0 := DatAll.of_ints dv0
  subst e0
  have s1' := s1.trans (same_upd hp0 (.lst (((hd0 b).map fun _ => (0 : Int)).map V.int)))
  have ev1 : EnvD K (upd H1 p0 (.lst (((hd0 b).map fun _ => (0 : Int)).map V.int))) [some v, some (.ref p0), none] [some (dII b), none, none] := ⟨rfl, fun i d hi => by
    match i, hi with
    | 0, hi => cases hi; exact ⟨_, rfl, hv.same s1'⟩
    | 1, hi => cases hi
    | 2, hi => cases hi⟩
  refine goForL (ds := b.map dI) (y_var rfl) ev1 fun pa xs H2 s2 hpa dxs => ?_
  have hxl := dxs.len
  refine ⟨fun i σ' H' => ∃ cq x, σ' = [some v, some (.ref cq), x] ∧ Same H2 H' ∧ H' cq = some (.lst ((colsTo b i).map .int)) ∧ H cq = none, ⟨p0, none, rfl, Same.refl _, s2 _ _ upd_same, s1.free hp0⟩, fun i σ' H' _ ⟨_, _, _, s, _⟩ => s.seq hpa, fun i x σ' H' hx ⟨cq, x0, e, s3, hcq, nq⟩ => ?_, fun σ' H' ⟨cq, x0, e, s3, hcq, nq⟩ => ?_⟩
  · subst e
    obtain ⟨r, hr, dr⟩ := dxs.getD hx
    have hi : i < b.length := (List.getElem?_eq_some_iff.mp hr).1
    have hrl := hrow r (List.mem_of_getElem? hr)
    have hcl := colsTo_len hrow i (Nat.le_of_lt hi)
    have hg : b.getD i [] = r := by rw [List.getD_eq_getElem?_getD, hr]; rfl
    have evb : EnvD K H' [some v, some (.ref cq), some x] [some (dII b), some (dI (colsTo b i)), some (dI r)] := ⟨rfl, fun j d hj => by
      match j, hj with
      | 0, hj => cases hj; exact ⟨_, rfl, hv.same ((s1'.trans s2).trans s3)⟩
      | 1, hj => cases hj; exact ⟨_, rfl, datI_of (SqL.of hcq)⟩
      | 2, hj => cases hj; exact ⟨_, rfl, dr.same s3⟩⟩
    refine goAsgN (yn_compZI (xs := colsTo b i) (ys := r) (ya_cons (y_var rfl) (ya_cons (y_var rfl) ya_nil)) (by omega) (by omega) (fun x y => x + y) fun j x y _ _ => y_add (y_var rfl) (y_var rfl)) evb fun p vs H4 s4 hp dv => ?_
    have e := DatAll.of_ints dv
    subst e
    refine ⟨p, _, rfl, s3.trans (s4.trans (same_upd hp _)), ?_, ((s1'.trans s2).trans (s3.trans s4)).free hp⟩
    rw [upd_same]
    show _ = some (HO.lst (List.map V.int (List.zipWith _ _ (b.getD i []))))
    rw [hg]
  · subst e
    rw [hxl] at hcq
    have sAll := (s1'.trans s2).trans s3
    have evb : EnvD K H' [some v, some (.ref cq), x0] [some (dII b), none, none] := ⟨rfl, fun j d hj => by
      match j, hj with
      | 0, hj => cases hj; exact ⟨_, rfl, hv.same sAll⟩
      | 1, hj => cases hj
      | 2, hj => cases hj⟩
    refine goRetTup (goConsN (yn_compT (enc := dI) (enc' := PyData.int) (y_var rfl) List.sum hl fun r _ => y_sum (y_var rfl)) evb fun p vs H4 s4 hp dv => goVar rfl (goNil ⟨(by show 2 ≤ sizeLine; decide), fun t ht => ?_⟩))
    have e := DatAll.of_ints dv
    subst e
    have hcq4 := s4 _ _ hcq
    have hne2 : p ≠ cq := fun z => by rw [z, hcq4] at hp; cases hp
    have s5 := same_upd hp (.lst ((b.map List.sum).map V.int))
    have s6 := same_upd ht (.tup [.ref p, .ref cq])
    exact q t p cq _ (sAll.trans (s4.trans (s5.trans s6))) upd_same (s6 _ _ upd_same) (s6 _ _ (s5 _ _ hcq4)) ((sAll.trans s4).free hp) nq hne2
abbrev sp_law_countsD (K : PySem.W.Frag) : Sp := spF K (fun b : List (List Int) => [dII b]) Even (fun b => dT2 (rowsOf b) (lawCols b))
theorem ok__law_countsD (T : Tx K mg a) : FnOk P w K mg base CX0 1 a.f__law_counts a.d__law_counts ["board"] (sp_law_countsD K) :=
  (ok__law_counts T).imp fun vs H Q E ⟨b, da, hb, q⟩ => ⟨b, da, hb, fun t p p2 H' s h1 h2 h3 _ _ _ => q _ H' s (.tup (SqT.of h1) (.cons (datI_of (SqL.of h2)) (.cons (datI_of (SqL.of h3)) .nil)))⟩
def goodRow (b : List (List Int)) (r : List Int) : Bool := sized r.length && decide (r.length = (hd0 b).length) && r.all fun c => decide (c = 0) || decide (c = 1)
def lawIsBoard (b : List (List Int)) : Bool := sized b.length && b.all (goodRow b)
abbrev sp_law_is_board (K : PySem.W.Frag) : Sp := spF K (fun b : List (List Int) => [dII b]) (fun _ => True) (fun b => .bool (lawIsBoard b))
theorem all_false {α : Type} {l : List α} {p : α → Bool} {x : α} (h : x ∈ l) (hp : p x = false) : l.all p = false := by
  rw [List.all_eq_false]; exact ⟨x, h, by rw [hp]; exact Bool.false_ne_true⟩
theorem ok__law_is_board (T : Tx K mg a) : FnOk P w K mg base CX0 1 a.f__law_is_board a.d__law_is_board ["board"] (sp_law_is_board K) :=
  T.F__law_is_board.okD sc__law_is_board (fun _ => rfl) fun cdv A outer s H E hr => ⟨_, (pss_cons (ps_if (PW.pt (pw_or (pt_not (pt_val (pe_callB (call_isD (K := K) rfl) rfl T.b_isinstance bt_isinstance (pa_cons (pv 0) (pa_cons (pe_bltn (v := .ty "list") rfl T.b_list bt_list rfl) pa_nil))))) (pw_or1 (pt_not (pt_chain op_le op_le pe_int (pe_callB (call_len_seq' (K := K) rfl) rfl T.b_len bt_len (pa_cons (pv 0) pa_nil)) pe_int))))) (pss_one (ps_ret pe_bl)) pss_nil) (pss_cons (ps_for PassesOwn.never (pi_list' (K := K) rfl rfl (pv 0)) (pg_name (i := 1) sc__law_is_board.nd rfl (Or.inl rfl)) (pss_cons (ps_if (PW.pt (pw_or (pt_not (pt_val (pe_callB (call_isD (K := K) rfl) rfl T.b_isinstance bt_isinstance (pa_cons (pv 1) (pa_cons (pe_bltn (v := .ty "list") rfl T.b_list bt_list rfl) pa_nil))))) (pw_or (pt_not (pt_chain op_le op_le pe_int (pe_callB (call_len_seq' (K := K) rfl) rfl T.b_len bt_len (pa_cons (pv 1) pa_nil)) pe_int)) (pw_or1 (pt_cmpR op_ne (pe_callB (call_len_seq' (K := K) rfl) rfl T.b_len bt_len (pa_cons (pv 1) pa_nil)) (pe_callB (call_len_seq' (K := K) rfl) rfl T.b_len bt_len (pa_cons (pe_ix (ix_list' (K := K) rfl) (pv 0) pe_int (fun _ _ => rfl)) pa_nil)) (nomark _)))))) (pss_one (ps_ret pe_bl)) pss_nil) (pss_one (ps_for PassesOwn.never (pi_list' (K := K) rfl rfl (pv 1)) (pg_name (i := 2) sc__law_is_board.nd rfl (Or.inl rfl)) (pss_one (ps_if (PW.pt (pw_or (pt_not (pt_val (pe_callB (call_isD (K := K) rfl) rfl T.b_isinstance bt_isinstance (pa_cons (pv 2) (pa_cons (pe_bltn (v := .ty "int") rfl T.b_int bt_int rfl) pa_nil))))) (pw_or (pt_val (pe_callB (call_isD (K := K) rfl) rfl T.b_isinstance bt_isinstance (pa_cons (pv 2) (pa_cons (pe_bltn (v := .ty "bool") rfl T.b_bool bt_bool rfl) pa_nil)))) (pw_or1 (PW.pt (pw_and (pt_cmpR op_ne (pv 2) pe_int (nomark _)) (pw_and1 (pt_cmpR op_ne (pv 2) pe_int (nomark _))))))))) (pss_one (ps_ret pe_bl)) pss_nil)))))) (pss_one (ps_ret pe_bl)))), fun b _ => by
    refine ys_seq (ys_if (b := !true || !sized b.length) (yb_or (yb_not (yb_b (y_isD (d := dII b) (cv := .type "list") (y_var rfl) rfl rfl))) fun _ => yb_not (yb_test ((y_chainI y_int (y_len (ds := b.map dI) (y_var rfl)) y_int).to (by rw [List.length_map]; rfl)))) (fun hc => ys_ret y_bl ?_) fun hc => ys_next ?_)
    · have hs : sized b.length = false := by simpa using hc
      show PyData.bool false = PyData.bool (lawIsBoard b)
      unfold lawIsBoard; rw [hs, Bool.false_and]
    · have hs : sized b.length = true := by simpa using hc
      have hne : b ≠ [] := by rintro rfl; exact absurd hs (by decide)
      refine ys_seq (ys_forL (ds := b.map dI) (y_var rfl) (fun i ρ' => (∃ x y, ρ' = [some (dII b), x, y]) ∧ (b.take i).all (goodRow b) = true) ⟨⟨_, _, rfl⟩, rfl⟩ (fun i d ρ' hd hp => ?_) fun ρ' hp => ?_)
      · obtain ⟨⟨u, v, rfl⟩, ht⟩ := hp
        rw [List.getElem?_map] at hd
        obtain ⟨r, hr, rfl⟩ := Option.map_eq_some_iff.mp hd
        have hm := List.mem_of_getElem? hr
        have bad : goodRow b r = false → lawIsBoard b = false := fun h => by unfold lawIsBoard; rw [all_false hm h, Bool.and_false]
        refine ys_seq (ys_if (b := !true || (!sized r.length || !decide (r.length = (hd0 b).length))) (yb_or (yb_not (yb_b (y_isD (d := dI r) (cv := .type "list") (y_var rfl) rfl rfl))) fun _ => yb_or (yb_not (yb_test ((y_chainI y_int (y_len (ds := r.map .int) (y_var rfl)) y_int).to (by rw [List.length_map]; rfl)))) fun _ => yb_test ((y_neI (y_len (ds := r.map .int) (y_var rfl)) (y_len (ds := (hd0 b).map .int) (y_ixL (ds := b.map dI) (y_var rfl) y_int (at0 hne)))).to (by rw [List.length_map, List.length_map]; congr 2; rw [decide_eq_decide]; omega))) (fun hc => ys_ret y_bl ?_) fun hc => ys_next ?_)
        · show PyData.bool false = PyData.bool (lawIsBoard b)
          rw [bad ?_]
          unfold goodRow
          have hc' : sized r.length = false ∨ decide (r.length = (hd0 b).length) = false := by simpa using hc
          rcases hc' with h | h <;> rw [h] <;> simp
        · have hc' : sized r.length = true ∧ r.length = (hd0 b).length := by simpa using hc
          refine ys_forL (ds := r.map .int) (y_var rfl) (fun j ρ' => (∃ x, ρ' = [some (dII b), some (dI r), x]) ∧ (r.take j).all (fun c => decide (c = 0) || decide (c = 1)) = true) ⟨⟨_, rfl⟩, rfl⟩ (fun j e ρ' he hq => ?_) fun ρ' hq => ?_
          · obtain ⟨⟨z, rfl⟩, hj⟩ := hq
            rw [List.getElem?_map] at he
            obtain ⟨c, hcj, rfl⟩ := Option.map_eq_some_iff.mp he
            have hcm := List.mem_of_getElem? hcj
            refine ys_if (b := !true || (false || (!decide (c = 0) && !decide (c = 1)))) (yb_or (yb_not (yb_b (y_isD (d := .int c) (cv := .type "int") (y_var rfl) rfl rfl))) fun _ => yb_or (yb_b (y_isD (d := .int c) (cv := .type "bool") (y_var rfl) rfl rfl)) fun _ => yb_and (yb_test (y_neI (y_var rfl) y_int)) fun _ => yb_test (y_neI (y_var rfl) y_int)) (fun hc => ys_ret y_bl ?_) fun hc => ys_next ?_
            · show PyData.bool false = PyData.bool (lawIsBoard b)
              rw [bad ?_]
              unfold goodRow
              rw [all_false hcm (by simpa using hc), Bool.and_false]
            · refine ⟨⟨_, rfl⟩, ?_⟩
              obtain ⟨l1, g1⟩ := List.getElem?_eq_some_iff.mp hcj
              rw [List.take_succ_eq_append_getElem l1, List.all_append, hj, g1]
              have hc3 : ¬ c = 0 → c = 1 := by simpa using hc
              have hc4 := (Decidable.em (c = 0)).imp_right hc3
              simpa using hc4
          · obtain ⟨⟨z, rfl⟩, hj⟩ := hq
            refine ⟨⟨_, _, rfl⟩, ?_⟩
            rw [List.length_map, List.take_length] at hj
            obtain ⟨l1, g1⟩ := List.getElem?_eq_some_iff.mp hr
            rw [List.take_succ_eq_append_getElem l1, List.all_append, ht, g1]
            show (true && ([r].all (goodRow b))) = true
            simp only [List.all_cons, List.all_nil, Bool.and_true, Bool.true_and]
            unfold goodRow; rw [hc'.1, decide_eq_true hc'.2, hj]; rfl
      · obtain ⟨⟨u, v, rfl⟩, ht⟩ := hp
        rw [List.length_map, List.take_length] at ht
        refine ys_ret y_bl ?_
        show PyData.bool true = PyData.bool (lawIsBoard b)
        unfold lawIsBoard; rw [hs, ht]; rfl⟩
theorem colsTo_eq {b : List (List Int)} (h : ∀ r ∈ b, r.length = (hd0 b).length) : ∀ i, i ≤ b.length → colsTo b i = (List.range (hd0 b).length).map fun c => ((b.take i).map fun r => r.getD c 0).sum
  | 0, _ => by
    show (hd0 b).map (fun _ => (0 : Int)) = _
    refine List.ext_getElem (by simp) fun c h1 h2 => by simp
  | i + 1, hi => by
    have ih := colsTo_eq h i (by omega)
    have hlt : i < b.length := hi
    have hr := h b[i] (List.getElem_mem _)
    have hg : b.getD i [] = b[i] := by simp [List.getD_eq_getElem?_getD, hlt]
    show List.zipWith _ (colsTo b i) (b.getD i []) = _
    rw [ih, hg, List.take_succ_eq_append_getElem hlt]
    refine List.ext_getElem (by simp [hr]) fun c h1 h2 => ?_
    have hc : c < (hd0 b).length := by simpa using h2
    simp only [List.getElem_zipWith, List.getElem_map, List.getElem_range, List.map_append, List.sum_append, List.map_cons, List.map_nil, List.sum_cons, List.sum_nil, Int.add_zero]
    rw [List.getD_eq_getElem?_getD, List.getElem?_eq_getElem (by omega)]
    rfl
theorem lawCols_eq {b : List (List Int)} (h : ∀ r ∈ b, r.length = (hd0 b).length) : lawCols b = colsOf b := by
  unfold lawCols colsOf colSum
  rw [colsTo_eq h b.length (Nat.le_refl _), List.take_length]
theorem boardBy_ok (ns : List Int) (at_ : Int) {most : Int} (h1 : 1 ≤ most) (h6 : most ≤ 6) : (1 ≤ (boardBy ns at_ most).length ∧ (boardBy ns at_ most).length ≤ 6) ∧ 1 ≤ (hd0 (boardBy ns at_ most)).length ∧ ∀ r ∈ boardBy ns at_ most, r.length = (byWide ns at_ most).toNat ∧ r.length ≤ 6 ∧ ∀ c ∈ r, c = 0 ∨ c = 1 := by
  have m1 := Int.emod_nonneg (cellAt ns at_) (b := most) (by omega)
  have m2 := Int.emod_lt_of_pos (cellAt ns at_) (b := most) (by omega)
  have m3 := Int.emod_nonneg (cellAt ns (at_ + 1)) (b := most) (by omega)
  have m4 := Int.emod_lt_of_pos (cellAt ns (at_ + 1)) (b := most) (by omega)
  have hw : 1 ≤ (byWide ns at_ most).toNat ∧ (byWide ns at_ most).toNat ≤ 6 := by unfold byWide; omega
  have hh : 1 ≤ (byHigh ns at_ most).toNat ∧ (byHigh ns at_ most).toNat ≤ 6 := by unfold byHigh; omega
  have hr : ∀ r ∈ boardBy ns at_ most, r.length = (byWide ns at_ most).toNat ∧ r.length ≤ 6 ∧ ∀ c ∈ r, c = 0 ∨ c = 1 := fun r hm => by
    unfold boardBy at hm
    obtain ⟨i, _, rfl⟩ := List.mem_map.mp hm
    unfold bitsOf
    rw [itB_len]
    exact ⟨rfl, hw.2, itB_bit _ _⟩
  have hl : (boardBy ns at_ most).length = (byHigh ns at_ most).toNat := by unfold boardBy; rw [List.length_map, List.length_range]
  refine ⟨by rw [hl]; exact hh, ?_, hr⟩
  cases hb : boardBy ns at_ most with
  | nil => rw [hb] at hl; simp at hl; omega
  | cons r t => show 1 ≤ r.length; rw [(hr r (by rw [hb]; exact List.mem_cons_self)).1]; exact hw.1
theorem bits_sum : ∀ {l : List Int}, (∀ c ∈ l, c = 0 ∨ c = 1) → 0 ≤ l.sum ∧ l.sum ≤ l.length
  | [], _ => ⟨Int.le_refl _, Int.le_refl _⟩
  | x :: r, h => by
    have ih := bits_sum (l := r) fun c hc => h c (List.mem_cons_of_mem _ hc)
    have hx := h x List.mem_cons_self
    rw [List.sum_cons, List.length_cons]
    omega
/-- a board of marks, its rows of as many cells -/
structure Marks (b : List (List Int)) (high wide : Nat) : Prop where
  len : b.length = high
  row : ∀ r ∈ b, r.length = wide
  bit : ∀ r ∈ b, ∀ c ∈ r, c = 0 ∨ c = 1
  h1 : 1 ≤ high
  h6 : high ≤ 6
  w1 : 1 ≤ wide
  w6 : wide ≤ 6
theorem Marks.hd {b : List (List Int)} {high wide : Nat} (m : Marks b high wide) : b ≠ [] ∧ (hd0 b).length = wide := by
  have hne : b ≠ [] := by rintro rfl; have := m.len; have := m.h1; simp at *; omega
  refine ⟨hne, ?_⟩
  cases b with
  | nil => exact absurd rfl hne
  | cons r t => exact m.row r List.mem_cons_self
theorem Marks.even {b : List (List Int)} {high wide : Nat} (m : Marks b high wide) : Even b := ⟨m.hd.1, by have := m.len; have := m.h6; omega, by have := m.hd.2; have := m.w6; omega, fun r hr => by rw [m.row r hr, m.hd.2]⟩
theorem Marks.cols {b : List (List Int)} {high wide : Nat} (m : Marks b high wide) : lawCols b = colsOf b := lawCols_eq m.even.2.2.2
theorem Marks.counts {b : List (List Int)} {high wide : Nat} (m : Marks b high wide) : (rowsOf b).length = high ∧ (colsOf b).length = wide ∧ (∀ x ∈ rowsOf b, 0 ≤ x ∧ x ≤ wide) ∧ ∀ x ∈ colsOf b, 0 ≤ x ∧ x ≤ high := by
  refine ⟨by unfold rowsOf; rw [List.length_map, m.len], by unfold colsOf; rw [List.length_map, List.length_range, m.hd.2], fun x hx => ?_, fun x hx => ?_⟩
  · unfold rowsOf at hx
    obtain ⟨r, hr, rfl⟩ := List.mem_map.mp hx
    have := bits_sum (m.bit r hr)
    rw [m.row r hr] at this
    exact this
  · unfold colsOf at hx
    obtain ⟨c, hc, rfl⟩ := List.mem_map.mp hx
    unfold colSum
    have hb := bits_sum (l := b.map fun r => r.getD c 0) fun x hx => by
      obtain ⟨r, hr, rfl⟩ := List.mem_map.mp hx
      have hcl : c < r.length := by rw [m.row r hr, ← m.hd.2]; exact List.mem_range.mp hc
      rw [List.getD_eq_getElem?_getD, List.getElem?_eq_getElem hcl]
      exact m.bit r hr _ (List.getElem_mem _)
    rw [List.length_map, m.len] at hb
    exact hb
theorem boardBy_marks (ns : List Int) (at_ : Int) {most : Int} (h1 : 1 ≤ most) (h6 : most ≤ 6) : Marks (boardBy ns at_ most) (byHigh ns at_ most).toNat (byWide ns at_ most).toNat := by
  have m1 := Int.emod_nonneg (cellAt ns at_) (b := most) (by omega)
  have m2 := Int.emod_lt_of_pos (cellAt ns at_) (b := most) (by omega)
  have m3 := Int.emod_nonneg (cellAt ns (at_ + 1)) (b := most) (by omega)
  have m4 := Int.emod_lt_of_pos (cellAt ns (at_ + 1)) (b := most) (by omega)
  have z := (boardBy_ok ns at_ h1 h6).2.2
  exact ⟨by unfold boardBy; rw [List.length_map, List.length_range], fun r hr => (z r hr).1, fun r hr => (z r hr).2.2, by unfold byHigh; omega, by unfold byHigh; omega, by unfold byWide; omega, by unfold byWide; omega⟩
theorem by_le (ns : List Int) (at_ : Int) {most : Int} (h1 : 1 ≤ most) : ((byHigh ns at_ most).toNat : Int) ≤ most ∧ ((byWide ns at_ most).toNat : Int) ≤ most := by
  have m1 := Int.emod_nonneg (cellAt ns at_) (b := most) (by omega)
  have m2 := Int.emod_lt_of_pos (cellAt ns at_) (b := most) (by omega)
  have m3 := Int.emod_nonneg (cellAt ns (at_ + 1)) (b := most) (by omega)
  have m4 := Int.emod_lt_of_pos (cellAt ns (at_ + 1)) (b := most) (by omega)
  unfold byHigh byWide; omega
theorem rowEq {w : Nat} (hw : sized w = true) (x : List Int) : isRow x w = (sized x.length && decide (x.length = w) && x.all fun c => decide (c = 0) || decide (c = 1)) := by
  unfold isRow
  have h1 : ((x.map cell01).all id) = x.all fun c => decide (c = 0) || decide (c = 1) := by
    rw [List.all_map]
    congr 1
    funext c
    simp only [Function.comp, id, cell01, ctn, List.any_cons, List.any_nil, Bool.or_false]
    by_cases h0 : c = 0
    · subst h0; rfl
    · by_cases h1 : c = 1
      · subst h1; rfl
      · simp [h0, h1, Ne.symm h0, Ne.symm h1]
  rw [h1]
  by_cases h : x.length = w
  · rw [h, hw]; simp
  · have h' : ¬ ((x.length : Int) = w) := by omega
    simp [h, h']
theorem isBoard_eq (b : List (List Int)) : isBoard b = lawIsBoard b := by
  cases b with
  | nil => rfl
  | cons r t =>
    unfold isBoard lawIsBoard
    have e0 : hd0 (r :: t) = r := rfl
    cases s1 : sized (r :: t).length with
    | false => rw [if_pos (by rfl)]; rfl
    | true =>
      cases s2 : sized r.length with
      | false =>
        rw [if_pos (by rw [e0, s2]; rfl), List.all_cons]
        unfold goodRow
        rw [s2]; rfl
      | true =>
        rw [if_neg (by rw [e0, s2]; decide), Bool.true_and, List.all_map, e0]
        congr 1
        funext x
        show isRow x r.length = goodRow (r :: t) x
        rw [rowEq s2]; rfl
theorem fits_board {h w : Nat} {b : List (List Int)} (f : NM.Fits h w b) (h1 : 1 ≤ h) (h6 : h ≤ 6) (w1 : 1 ≤ w) (w6 : w ≤ 6) : lawIsBoard b = true := by
  have hne : b ≠ [] := by rintro rfl; have := f.1; simp at this; omega
  have h0 : (hd0 b).length = w := by
    cases b with
    | nil => exact absurd rfl hne
    | cons r t => exact (f.2 r List.mem_cons_self).1
  have sz : ∀ n : Nat, 1 ≤ n → n ≤ 6 → sized n = true := fun n a b => by unfold sized; simp only [Bool.and_eq_true, decide_eq_true_eq]; omega
  unfold lawIsBoard
  rw [f.1, sz h h1 h6, Bool.true_and]
  refine List.all_eq_true.mpr fun r hr => ?_
  obtain ⟨a1, a2⟩ := f.2 r hr
  unfold goodRow
  rw [a1, sz w w1 w6, h0, decide_eq_true rfl, Bool.true_and, Bool.true_and]
  refine List.all_eq_true.mpr fun c hc => ?_
  rcases a2 c hc with rfl | rfl <;> rfl
theorem Marks.fits {b : List (List Int)} {high wide : Nat} (m : Marks b high wide) : NM.Fits high wide b := ⟨m.len, fun r hr => ⟨m.row r hr, m.bit r hr⟩⟩
theorem Marks.law {b : List (List Int)} {high wide : Nat} (m : Marks b high wide) : lawIsBoard b = true := fits_board m.fits m.h1 m.h6 m.w1 m.w6
theorem Marks.board {b : List (List Int)} {high wide : Nat} (m : Marks b high wide) : isBoard b = true := by rw [isBoard_eq]; exact m.law
theorem Marks.small {b : List (List Int)} {high wide : Nat} (m : Marks b high wide) : Small b := ⟨by have := m.len; have := m.h6; omega, fun r hr => by have := m.row r hr; have := m.w6; omega⟩
/-- counts of so many rows and columns, each within its bounds -/
structure Cnt (rs cs : List Int) (high wide : Nat) : Prop where
  rl : rs.length = high
  cl : cs.length = wide
  rb : ∀ x ∈ rs, 0 ≤ x ∧ x ≤ wide
  cb : ∀ x ∈ cs, 0 ≤ x ∧ x ≤ high
theorem set_mem {xs : List Int} {j : Nat} {v : Int} {x : Int} (h : x ∈ xs.set j v) : x = v ∨ x ∈ xs := by
  rcases List.mem_or_eq_of_mem_set h with h | h
  · exact .inr h
  · exact .inl h
theorem Cnt.setC {rs cs : List Int} {high wide : Nat} (c : Cnt rs cs high wide) {v : Int} (j : Nat) (h : 0 ≤ v ∧ v ≤ high) : Cnt rs (cs.set j v) high wide := ⟨c.rl, by rw [List.length_set]; exact c.cl, c.rb, fun x hx => by
  rcases set_mem hx with rfl | hx
  · exact h
  · exact c.cb x hx⟩
theorem Cnt.setR {rs cs : List Int} {high wide : Nat} (c : Cnt rs cs high wide) {v : Int} (j : Nat) (h : 0 ≤ v ∧ v ≤ wide) : Cnt (rs.set j v) cs high wide := ⟨by rw [List.length_set]; exact c.rl, c.cl, fun x hx => by
  rcases set_mem hx with rfl | hx
  · exact h
  · exact c.rb x hx, c.cb⟩
/-- the item of a list of ints at a place within it -/
theorem atInt {xs : List Int} {k : Int} (h0 : 0 ≤ k) (h1 : k < xs.length) : atI (xs.map PyData.int) k = some (.int (xs.getD k.toNat 0)) := by
  obtain ⟨n, rfl⟩ : ∃ n : Nat, k = n := ⟨k.toNat, by omega⟩
  have hn : n < xs.length := by omega
  refine atI_nat ?_
  rw [List.getElem?_map, List.getElem?_eq_getElem hn]; simp [List.getD_eq_getElem?_getD, hn]
theorem getD_mem {xs : List Int} {k : Nat} (h : k < xs.length) : xs.getD k 0 ∈ xs := by
  rw [List.getD_eq_getElem?_getD, List.getElem?_eq_getElem h]; exact List.getElem_mem _
def sp_near_by (K : PySem.W.Frag) : Sp := fun vs H Q _ => ∃ (ns : List Int) (at_ most : Int), DatAll K H vs [dI ns, .int at_, .int most] ∧ 0 ≤ at_ ∧ (1 ≤ most ∧ most ≤ 6) ∧
  ∀ v H' rs cs high wide, Same H H' → DatV K H' v (dT2 rs cs) → Cnt rs cs high wide → (1 ≤ high ∧ (high : Int) ≤ most) → (1 ≤ wide ∧ (wide : Int) ≤ most) → Q v H'
/-- one turn that moves a mark from one place to another, of the list at q (slot sl), its numbers bounded by the other list's length -/
theorem ok__law_near_by (T : Tx K mg a) : FnOk P w K mg base CX0 3 a.f__law_near_by a.d__law_near_by ["script", "at", "most"] (sp_near_by K) := by
  refine T.F__law_near_by.ok sc__law_near_by (fun vs H Q E h => ?_) (fun cdv A outer s H vs Q E hr h => ?_)
  · obtain ⟨_, _, _, da, _⟩ := h; rw [da.length]; rfl
  obtain ⟨ns, at_, most, da, hat, ⟨hm1, hm6⟩, q⟩ := h
  obtain ⟨v1, v2, v3, rfl, d1, d2, d3⟩ : ∃ v1 v2 v3, vs = [v1, v2, v3] ∧ DatV K H v1 (dI ns) ∧ DatV K H v2 (.int at_) ∧ DatV K H v3 (.int most) := by
    cases da with
    | cons x y => obtain ⟨u, w, rfl, h1, h2⟩ := dat2 y; exact ⟨_, _, _, rfl, x, h1, h2⟩
  have e2 := datInt d2
  have e3 := datInt d3
  subst e2 e3
  have M := boardBy_marks ns at_ hm1 hm6
  obtain ⟨bh, bw⟩ := by_le ns at_ hm1
  obtain ⟨kr, kc, kb, kb'⟩ := M.counts
  refine ⟨_, (pss_cons (ps_asg (pe_call ((ok__law_counts T).mono (by first | decide | omega)) hr rfl T.m__law_counts T.F__law_counts.kp T.B__law_counts .nil pass0 (pa_cons (pe_call ((ok__law_board_by T).mono (by first | decide | omega)) hr rfl T.m__law_board_by T.F__law_board_by.kp T.B__law_board_by .nil pass0 (pa_cons (pv 0) (pa_cons (pv 1) (pa_cons (pv 2) pa_nil)))) pa_nil)) (pg_tup' (K := K) (n := 2) rfl rfl (pgs_cons (pg_name (i := 3) sc__law_near_by.nd rfl (Or.inl rfl)) (pgs_cons (pg_name (i := 4) sc__law_near_by.nd rfl (Or.inr rfl)) pgs_nil)))) (pss_cons (ps_for PassesOwn.never (pi_range1 rfl rfl T.b_range (pa_cons (pe_op op_mod (pe_call ((ok__law_cell_at T).mono (by first | decide | omega)) hr rfl T.m__law_cell_at T.F__law_cell_at.kp T.B__law_cell_at .nil pass0 (pa_cons (pv 0) (pa_cons (pe_op op_add (pv 1) pe_int) pa_nil))) pe_int) pa_nil)) (pg_name (i := 5) sc__law_near_by.nd rfl (Or.inl rfl)) (pss_cons (ps_set (i := 6) sc__law_near_by.nd rfl (Or.inl rfl) (pe_op op_mod (pe_call ((ok__law_cell_at T).mono (by first | decide | omega)) hr rfl T.m__law_cell_at T.F__law_cell_at.kp T.B__law_cell_at .nil pass0 (pa_cons (pv 0) (pa_cons (pe_op op_add (pe_op op_add (pv 1) pe_int) (pe_op op_mul pe_int (pv 5))) pa_nil))) (pe_callB (call_len_seq' (K := K) rfl) rfl T.b_len bt_len (pa_cons (pv 4) pa_nil)))) (pss_cons (ps_set (i := 7) sc__law_near_by.nd rfl (Or.inl rfl) (pe_op op_mod (pe_call ((ok__law_cell_at T).mono (by first | decide | omega)) hr rfl T.m__law_cell_at T.F__law_cell_at.kp T.B__law_cell_at .nil pass0 (pa_cons (pv 0) (pa_cons (pe_op op_add (pe_op op_add (pv 1) pe_int) (pe_op op_mul pe_int (pv 5))) pa_nil))) (pe_callB (call_len_seq' (K := K) rfl) rfl T.b_len bt_len (pa_cons (pv 4) pa_nil)))) (pss_one (ps_if (PW.pt (pw_and (pt_cmpR op_gt (pe_ix (ix_list' (K := K) rfl) (pv 4) (pv 6) (fun _ _ => rfl)) pe_int (nomark _)) (pw_and1 (pt_cmpR op_lt (pe_ix (ix_list' (K := K) rfl) (pv 4) (pv 7) (fun _ _ => rfl)) (pe_callB (call_len_seq' (K := K) rfl) rfl T.b_len bt_len (pa_cons (pv 3) pa_nil)) (nomark _))))) (pss_cons (ps_asg (pe_op op_sub (pe_ix (ix_list' (K := K) rfl) (pv 4) (pv 6) (fun _ _ => rfl)) pe_int) (pg_sub (pv 4) (pv 6) set_list)) (pss_one (ps_asg (pe_op op_add (pe_ix (ix_list' (K := K) rfl) (pv 4) (pv 7) (fun _ _ => rfl)) pe_int) (pg_sub (pv 4) (pv 7) set_list)))) pss_nil))))) (pss_cons (ps_for PassesOwn.never (pi_range1 rfl rfl T.b_range (pa_cons (pe_op op_mod (pe_call ((ok__law_cell_at T).mono (by first | decide | omega)) hr rfl T.m__law_cell_at T.F__law_cell_at.kp T.B__law_cell_at .nil pass0 (pa_cons (pv 0) (pa_cons (pe_op op_add (pv 1) pe_int) pa_nil))) pe_int) pa_nil)) (pg_name (i := 5) sc__law_near_by.nd rfl (Or.inl rfl)) (pss_cons (ps_set (i := 6) sc__law_near_by.nd rfl (Or.inl rfl) (pe_op op_mod (pe_call ((ok__law_cell_at T).mono (by first | decide | omega)) hr rfl T.m__law_cell_at T.F__law_cell_at.kp T.B__law_cell_at .nil pass0 (pa_cons (pv 0) (pa_cons (pe_op op_add (pe_op op_add (pv 1) pe_int) (pe_op op_mul pe_int (pv 5))) pa_nil))) (pe_callB (call_len_seq' (K := K) rfl) rfl T.b_len bt_len (pa_cons (pv 3) pa_nil)))) (pss_cons (ps_set (i := 7) sc__law_near_by.nd rfl (Or.inl rfl) (pe_op op_mod (pe_call ((ok__law_cell_at T).mono (by first | decide | omega)) hr rfl T.m__law_cell_at T.F__law_cell_at.kp T.B__law_cell_at .nil pass0 (pa_cons (pv 0) (pa_cons (pe_op op_add (pe_op op_add (pv 1) pe_int) (pe_op op_mul pe_int (pv 5))) pa_nil))) (pe_callB (call_len_seq' (K := K) rfl) rfl T.b_len bt_len (pa_cons (pv 3) pa_nil)))) (pss_one (ps_if (PW.pt (pw_and (pt_cmpR op_gt (pe_ix (ix_list' (K := K) rfl) (pv 3) (pv 6) (fun _ _ => rfl)) pe_int (nomark _)) (pw_and1 (pt_cmpR op_lt (pe_ix (ix_list' (K := K) rfl) (pv 3) (pv 7) (fun _ _ => rfl)) (pe_callB (call_len_seq' (K := K) rfl) rfl T.b_len bt_len (pa_cons (pv 4) pa_nil)) (nomark _))))) (pss_cons (ps_asg (pe_op op_sub (pe_ix (ix_list' (K := K) rfl) (pv 3) (pv 6) (fun _ _ => rfl)) pe_int) (pg_sub (pv 3) (pv 6) set_list)) (pss_one (ps_asg (pe_op op_add (pe_ix (ix_list' (K := K) rfl) (pv 3) (pv 7) (fun _ _ => rfl)) pe_int) (pg_sub (pv 3) (pv 7) set_list)))) pss_nil))))) (pss_cons (ps_if (pt_cmpR op_eq (pe_op op_mod (pe_call ((ok__law_cell_at T).mono (by first | decide | omega)) hr rfl T.m__law_cell_at T.F__law_cell_at.kp T.B__law_cell_at .nil pass0 (pa_cons (pv 0) (pa_cons (pe_op op_add (pv 1) pe_int) pa_nil))) pe_int) pe_int (nomark _)) (pss_one (ps_setComp (i := 3) sc__law_near_by.nd rfl rfl (N' := ["k", "script", "columns", "at"]) (k := 1) (cap := [0, 4, 1]) (CompOk.of (sc := (defScope s__law_near_by)) (N := ["script", "at", "most", "rows", "columns", "k", "one", "other"]) rfl rfl (by decide +kernel)) (pi_range1 rfl rfl T.b_range (pa_cons (pe_callB (call_len_seq' (K := K) rfl) rfl T.b_len bt_len (pa_cons (pv 3) pa_nil)) pa_nil)) (fun _ _ _ _ => pg_name (i := 0) (by decide +kernel : (["k", "script", "columns", "at"] : List Str).Nodup) rfl (Or.inl rfl)) (gk_name (by decide)) (fun _ _ _ _ => pf_nil) (fun _ _ _ _ => (pe_op op_mod (pe_call ((ok__law_cell_at T).mono (by first | decide | omega)) hr rfl T.m__law_cell_at T.F__law_cell_at.kp T.B__law_cell_at .nil pass0 (pa_cons (pv 1) (pa_cons (pe_op op_add (pe_op op_add (pv 3) pe_int) (pv 0)) pa_nil))) (pe_op op_add (pe_callB (call_len_seq' (K := K) rfl) rfl T.b_len bt_len (pa_cons (pv 2) pa_nil)) pe_int))))) pss_nil) (pss_one (ps_ret (pe_tup (pa_cons (pv 3) (pa_cons (pv 4) pa_nil))))))))), ?_⟩
  have ev : EnvD K H [some v1, some (.int at_), some (.int most), none, none, none, none, none] [some (dI ns), some (.int at_), some (.int most), none, none, none, none, none] := EnvD.start (N := ["script", "at", "most", "rows", "columns", "k", "one", "other"]) da
  -- rows, columns = _law_counts(_law_board_by(script, at, most))
  refine goCall (t := tCons _ tNil) (goCons (d := dII (boardBy ns at_ most)) (y_cl (ns, at_, most) (ya_cons (y_var rfl) (ya_cons (y_var rfl) (ya_cons (y_var rfl) ya_nil))) ⟨hat, hm1, hm6⟩ rfl) ev fun vb H1 s1 db => goNil ⟨boardBy ns at_ most, .cons db .nil, M.even, fun t p p2 H2 s2 h1 h2 h3 n1 n2 n3 => ?_⟩)
  rw [M.cols] at h3
  have s12 := s1.trans s2
  have np : H p = none := s1.free n1
  have nq : H p2 = none := s1.free n2
  refine ⟨t, _, rfl, SqT.of h1, rfl, _, _, rfl, _, _, rfl, rfl, ?_⟩
  have c0 : Cnt (rowsOf (boardBy ns at_ most)) (colsOf (boardBy ns at_ most)) (byHigh ns at_ most).toNat (byWide ns at_ most).toNat := ⟨kr, kc, kb, kb'⟩
  have hh1 := M.h1
  have hw1 := M.w1
  have hh6 := M.h6
  have hw6 := M.w6
  generalize rowsOf (boardBy ns at_ most) = rs0 at h2 c0
  generalize colsOf (boardBy ns at_ most) = cs0 at h3 c0
  generalize (byHigh ns at_ most).toNat = high at c0 hh1 hh6 bh
  generalize (byWide ns at_ most).toNat = wide at c0 hw1 hw6 bw
  -- the setting between two turns
  have env : ∀ {H' : Hp} {rs cs : List Int} {x y z : Option V} {X Y Z : Option PyData}, Same H H' → H' p = some (.lst (rs.map .int)) → H' p2 = some (.lst (cs.map .int)) → (∀ d, X = some d → ∃ v, x = some v ∧ DatV K H' v d) → (∀ d, Y = some d → ∃ v, y = some v ∧ DatV K H' v d) → (∀ d, Z = some d → ∃ v, z = some v ∧ DatV K H' v d) →
      EnvD K H' [some v1, some (.int at_), some (.int most), some (.ref p), some (.ref p2), x, y, z] [some (dI ns), some (.int at_), some (.int most), some (dI rs), some (dI cs), X, Y, Z] := fun {H' rs cs x y z X Y Z} sh hp hq hx hy hz => ⟨rfl, fun i d hi => by
    match i, hi with
    | 0, hi => cases hi; exact ⟨_, rfl, d1.same sh⟩
    | 1, hi => cases hi; exact ⟨_, rfl, .int _⟩
    | 2, hi => cases hi; exact ⟨_, rfl, .int _⟩
    | 3, hi => cases hi; exact ⟨_, rfl, datI_of (SqL.of hp)⟩
    | 4, hi => cases hi; exact ⟨_, rfl, datI_of (SqL.of hq)⟩
    | 5, hi => obtain ⟨v, e, dv⟩ := hx d (by simpa using hi); exact ⟨v, by simp [e], dv⟩
    | 6, hi => obtain ⟨v, e, dv⟩ := hy d (by simpa using hi); exact ⟨v, by simp [e], dv⟩
    | 7, hi => obtain ⟨v, e, dv⟩ := hz d (by simpa using hi); exact ⟨v, by simp [e], dv⟩⟩
  have none' : ∀ {H' : Hp} {x : Option V} (d : PyData), (none : Option PyData) = some d → ∃ v, x = some v ∧ DatV K H' v d := fun d e => by cases e
  have emod4 := Int.emod_nonneg (cellAt ns (at_ + 10)) (b := 4) (by decide)
  have emod4' := Int.emod_lt_of_pos (cellAt ns (at_ + 10)) (b := 4) (by decide)
  dsimp only
  refine goForR (m := cellAt ns (at_ + 10) % 4) ?ya emod4 (by omega) (env (X := none) (Y := none) (Z := none) s12 h2 h3 none' none' none') fun H3 s3 => ?_
  case ya => exact (ya_cons (y_mod (y_cl (ns, at_ + 10) (ya_cons (y_var rfl) (ya_cons (y_add (y_var rfl) y_int) ya_nil)) (by show (0 : Int) ≤ at_ + 10; omega) rfl) y_int (by decide)) ya_nil)
  refine ⟨fun i σ' H' => ∃ cs x y z, σ' = [some v1, some (.int at_), some (.int most), some (.ref p), some (.ref p2), x, y, z] ∧ Same H H' ∧ H' p = some (.lst (rs0.map .int)) ∧ H' p2 = some (.lst (cs.map .int)) ∧ Cnt rs0 cs high wide, ⟨cs0, none, none, none, rfl, s12.trans s3, s3 _ _ h2, s3 _ _ h3, c0⟩, fun i σ' H' hi ⟨cs, x, y, z, e, sh, hp, hq, c⟩ => ?_, fun σ' H' ⟨cs, x, y, z, e, sh, hp, hq, c⟩ => ?_⟩
  · subst e
    have hcl : 0 < cs.length := by rw [c.cl]; omega
    have evk := env (x := some (.int i)) (y := y) (z := z) (X := some (.int i)) (Y := none) (Z := none) sh hp hq (fun d e => by cases e; exact ⟨_, rfl, .int _⟩) none' none'
    have lenC : ∀ {ρ : Rho} {n : Nat}, ρ[n]? = some (some (dI cs)) → Y K ρ (tCB _ (tCons (tVar n) tNil)) (.int cs.length) := fun {ρ n} h => (y_len (ds := cs.map .int) (y_var h)).to (by rw [List.length_map])
    refine goSet (y_mod (y_cl (ns, at_ + 11 + 3 * i) (ya_cons (y_var rfl) (ya_cons (y_add (y_add (y_var rfl) y_int) (y_mul y_int (y_var rfl) (.inl ⟨by decide, by decide⟩))) ya_nil)) (by show (0 : Int) ≤ at_ + 11 + 3 * i; omega) rfl) (lenC rfl) (by omega)) evk fun vo H4 s4 do_ => ?_
    have eo := datInt do_
    subst eo
    have ev4 := (evk.same s4).set do_ 6
    refine goSet (y_mod (y_cl (ns, at_ + 12 + 3 * i) (ya_cons (y_var rfl) (ya_cons (y_add (y_add (y_var rfl) y_int) (y_mul y_int (y_var rfl) (.inl ⟨by decide, by decide⟩))) ya_nil)) (by show (0 : Int) ≤ at_ + 12 + 3 * i; omega) rfl) (lenC rfl) (by omega)) ev4 fun vt H5 s5 dt => ?_
    have et := datInt dt
    subst et
    have ev5 := (ev4.same s5).set dt 7
    have o0 := Int.emod_nonneg (cellAt ns (at_ + 11 + 3 * i)) (b := (cs.length : Int)) (by omega)
    have o1 := Int.emod_lt_of_pos (cellAt ns (at_ + 11 + 3 * i)) (b := (cs.length : Int)) (by omega)
    have t0 := Int.emod_nonneg (cellAt ns (at_ + 12 + 3 * i)) (b := (cs.length : Int)) (by omega)
    have t1 := Int.emod_lt_of_pos (cellAt ns (at_ + 12 + 3 * i)) (b := (cs.length : Int)) (by omega)
    generalize cellAt ns (at_ + 11 + 3 * i) % (cs.length : Int) = one at *
    generalize cellAt ns (at_ + 12 + 3 * i) % (cs.length : Int) = oth at *
    have hp5 := s5 _ _ (s4 _ _ hp)
    have hq5 := s5 _ _ (s4 _ _ hq)
    have sh5 := (sh.trans s4).trans s5
    have co := c.cb _ (getD_mem (k := one.toNat) (by omega))
    have ct := c.cb _ (getD_mem (k := oth.toNat) (by omega))
    refine (yb_and (yb_test (y_gt (y_ixL (ds := cs.map .int) (y_var rfl) (y_var rfl) (atInt o0 o1)) y_int)) fun _ => yb_test (y_lt (y_ixL (ds := cs.map .int) (y_var rfl) (y_var rfl) (atInt t0 t1)) ((y_len (ds := rs0.map .int) (y_var rfl)).to (by rw [List.length_map]))) : YB K _ _ _) _ H5 _ ev5 fun H6 s6 => ?_
    have hp6 := s6 _ _ hp5
    have hq6 := s6 _ _ hq5
    have sh6 := sh5.trans s6
    refine ite2 (fun hc => ?_) fun _ => ⟨cs, _, _, _, rfl, sh6, hp6, hq6, c⟩
    have hc' : 0 < cs.getD one.toNat 0 ∧ cs.getD oth.toNat 0 < rs0.length := by simpa using hc
    rw [c.rl] at hc'
    refine goSeq (goSetItem (k := one) (y_sub (y_ixL (ds := cs.map .int) (y_var rfl) (y_var rfl) (atInt o0 o1)) y_int) (ev5.same s6) rfl rfl fun v H7 s7 dv => ⟨_, one.toNat, s7 _ _ hq6, by rw [List.length_map]; exact ixN_of o0 o1, ?_⟩)
    have e7 := datInt dv
    subst e7
    have c2 : Cnt rs0 (cs.set one.toNat (cs.getD one.toNat 0 - 1)) high wide := c.setC _ (by omega)
    have hset : (cs.map V.int).set one.toNat (.int (cs.getD one.toNat 0 - 1)) = (cs.set one.toNat (cs.getD one.toNat 0 - 1)).map V.int := by rw [List.map_set]
    rw [hset]
    have hpq : p ≠ p2 := n3
    have sh7 : Same H (upd H7 p2 (.lst ((cs.set one.toNat (cs.getD one.toNat 0 - 1)).map V.int))) := (sh6.trans s7).updN nq
    have hp7 : (upd H7 p2 (.lst ((cs.set one.toNat (cs.getD one.toNat 0 - 1)).map V.int))) p = some (.lst (rs0.map .int)) := by rw [upd_ne hpq]; exact s7 _ _ hp6
    generalize hcs2 : cs.set one.toNat (cs.getD one.toNat 0 - 1) = cs2 at *
    have cl2 : cs2.length = cs.length := by rw [← hcs2, List.length_set]
    have t1' : oth < cs2.length := by omega
    have ct2 : cs2.getD oth.toNat 0 ≤ cs.getD oth.toNat 0 ∧ 0 ≤ cs2.getD oth.toNat 0 := by
      refine ⟨?_, (c2.cb _ (getD_mem (k := oth.toNat) (by omega))).1⟩
      rw [← hcs2, List.getD_eq_getElem?_getD, List.getD_eq_getElem?_getD, List.getElem?_set]
      split
      · rename_i e
        rw [if_pos (by omega), ← e]
        have := List.getD_eq_getElem?_getD (l := cs) (i := one.toNat) (a := (0 : Int))
        simp only [Option.getD_some]
        omega
      · exact Int.le_refl _
    refine goSetItem (k := oth) (y_add (y_ixL (ds := cs2.map .int) (y_var rfl) (y_var rfl) (atInt t0 t1')) y_int) (env (x := some (.int i)) (y := some (.int one)) (z := some (.int oth)) (X := none) (Y := none) (Z := some (.int oth)) sh7 hp7 upd_same none' none' fun d e => by cases e; exact ⟨_, rfl, .int _⟩) rfl rfl fun v H8 s8 dv => ⟨_, oth.toNat, s8 _ _ upd_same, by rw [List.length_map]; exact ixN_of t0 t1', ?_⟩
    have e8 := datInt dv
    subst e8
    have hset2 : (cs2.map V.int).set oth.toNat (.int (cs2.getD oth.toNat 0 + 1)) = (cs2.set oth.toNat (cs2.getD oth.toNat 0 + 1)).map V.int := by rw [List.map_set]
    rw [hset2]
    refine ⟨_, _, _, _, rfl, (sh7.trans s8).updN nq, by rw [upd_ne hpq]; exact s8 _ _ hp7, upd_same, c2.setC _ (by omega)⟩
  subst e
  have emod3 := Int.emod_nonneg (cellAt ns (at_ + 20)) (b := 3) (by decide)
  have emod3' := Int.emod_lt_of_pos (cellAt ns (at_ + 20)) (b := 3) (by decide)
  refine goForR (m := cellAt ns (at_ + 20) % 3) ?ya emod3 (by omega) (env (X := none) (Y := none) (Z := none) sh hp hq none' none' none') fun H3' s3' => ?_
  case ya => exact (ya_cons (y_mod (y_cl (ns, at_ + 20) (ya_cons (y_var rfl) (ya_cons (y_add (y_var rfl) y_int) ya_nil)) (by show (0 : Int) ≤ at_ + 20; omega) rfl) y_int (by decide)) ya_nil)
  refine ⟨fun i σ' H' => ∃ rs x y z, σ' = [some v1, some (.int at_), some (.int most), some (.ref p), some (.ref p2), x, y, z] ∧ Same H H' ∧ H' p = some (.lst (rs.map .int)) ∧ H' p2 = some (.lst (cs.map .int)) ∧ Cnt rs cs high wide, ⟨rs0, _, _, _, rfl, sh.trans s3', s3' _ _ hp, s3' _ _ hq, c⟩, fun i σ' H' hi ⟨rs, x, y, z, e, sh, hp, hq, c⟩ => ?_, fun σ' H' ⟨rs, x, y, z, e, sh, hp, hq, c⟩ => ?_⟩
  · subst e
    have hcl : 0 < rs.length := by rw [c.rl]; omega
    have evk := env (x := some (.int i)) (y := y) (z := z) (X := some (.int i)) (Y := none) (Z := none) sh hp hq (fun d e => by cases e; exact ⟨_, rfl, .int _⟩) none' none'
    have lenC : ∀ {ρ : Rho} {n : Nat}, ρ[n]? = some (some (dI rs)) → Y K ρ (tCB _ (tCons (tVar n) tNil)) (.int rs.length) := fun {ρ n} h => (y_len (ds := rs.map .int) (y_var h)).to (by rw [List.length_map])
    refine goSet (y_mod (y_cl (ns, at_ + 21 + 3 * i) (ya_cons (y_var rfl) (ya_cons (y_add (y_add (y_var rfl) y_int) (y_mul y_int (y_var rfl) (.inl ⟨by decide, by decide⟩))) ya_nil)) (by show (0 : Int) ≤ at_ + 21 + 3 * i; omega) rfl) (lenC rfl) (by omega)) evk fun vo H4 s4 do_ => ?_
    have eo := datInt do_
    subst eo
    have ev4 := (evk.same s4).set do_ 6
    refine goSet (y_mod (y_cl (ns, at_ + 22 + 3 * i) (ya_cons (y_var rfl) (ya_cons (y_add (y_add (y_var rfl) y_int) (y_mul y_int (y_var rfl) (.inl ⟨by decide, by decide⟩))) ya_nil)) (by show (0 : Int) ≤ at_ + 22 + 3 * i; omega) rfl) (lenC rfl) (by omega)) ev4 fun vt H5 s5 dt => ?_
    have et := datInt dt
    subst et
    have ev5 := (ev4.same s5).set dt 7
    have o0 := Int.emod_nonneg (cellAt ns (at_ + 21 + 3 * i)) (b := (rs.length : Int)) (by omega)
    have o1 := Int.emod_lt_of_pos (cellAt ns (at_ + 21 + 3 * i)) (b := (rs.length : Int)) (by omega)
    have t0 := Int.emod_nonneg (cellAt ns (at_ + 22 + 3 * i)) (b := (rs.length : Int)) (by omega)
    have t1 := Int.emod_lt_of_pos (cellAt ns (at_ + 22 + 3 * i)) (b := (rs.length : Int)) (by omega)
    generalize cellAt ns (at_ + 21 + 3 * i) % (rs.length : Int) = one at *
    generalize cellAt ns (at_ + 22 + 3 * i) % (rs.length : Int) = oth at *
    have hp5 := s5 _ _ (s4 _ _ hp)
    have hq5 := s5 _ _ (s4 _ _ hq)
    have sh5 := (sh.trans s4).trans s5
    have co := c.rb _ (getD_mem (k := one.toNat) (by omega))
    have ct := c.rb _ (getD_mem (k := oth.toNat) (by omega))
    refine (yb_and (yb_test (y_gt (y_ixL (ds := rs.map .int) (y_var rfl) (y_var rfl) (atInt o0 o1)) y_int)) fun _ => yb_test (y_lt (y_ixL (ds := rs.map .int) (y_var rfl) (y_var rfl) (atInt t0 t1)) ((y_len (ds := cs.map .int) (y_var rfl)).to (by rw [List.length_map]))) : YB K _ _ _) _ H5 _ ev5 fun H6 s6 => ?_
    have hp6 := s6 _ _ hp5
    have hq6 := s6 _ _ hq5
    have sh6 := sh5.trans s6
    refine ite2 (fun hc => ?_) fun _ => ⟨rs, _, _, _, rfl, sh6, hp6, hq6, c⟩
    have hc' : 0 < rs.getD one.toNat 0 ∧ rs.getD oth.toNat 0 < cs.length := by simpa using hc
    rw [c.cl] at hc'
    refine goSeq (goSetItem (k := one) (y_sub (y_ixL (ds := rs.map .int) (y_var rfl) (y_var rfl) (atInt o0 o1)) y_int) (ev5.same s6) rfl rfl fun v H7 s7 dv => ⟨_, one.toNat, s7 _ _ hp6, by rw [List.length_map]; exact ixN_of o0 o1, ?_⟩)
    have e7 := datInt dv
    subst e7
    have c2 : Cnt (rs.set one.toNat (rs.getD one.toNat 0 - 1)) cs high wide := c.setR _ (by omega)
    have hset : (rs.map V.int).set one.toNat (.int (rs.getD one.toNat 0 - 1)) = (rs.set one.toNat (rs.getD one.toNat 0 - 1)).map V.int := by rw [List.map_set]
    rw [hset]
    have sh7 : Same H (upd H7 p (.lst ((rs.set one.toNat (rs.getD one.toNat 0 - 1)).map V.int))) := (sh6.trans s7).updN np
    have hq7 : (upd H7 p (.lst ((rs.set one.toNat (rs.getD one.toNat 0 - 1)).map V.int))) p2 = some (.lst (cs.map .int)) := by rw [upd_ne (Ne.symm n3)]; exact s7 _ _ hq6
    generalize hcs2 : rs.set one.toNat (rs.getD one.toNat 0 - 1) = rs2 at *
    have cl2 : rs2.length = rs.length := by rw [← hcs2, List.length_set]
    have t1' : oth < rs2.length := by omega
    have ct2 : rs2.getD oth.toNat 0 ≤ rs.getD oth.toNat 0 ∧ 0 ≤ rs2.getD oth.toNat 0 := by
      refine ⟨?_, (c2.rb _ (getD_mem (k := oth.toNat) (by omega))).1⟩
      rw [← hcs2, List.getD_eq_getElem?_getD, List.getD_eq_getElem?_getD, List.getElem?_set]
      split
      · rename_i e
        rw [if_pos (by omega), ← e]
        have := List.getD_eq_getElem?_getD (l := rs) (i := one.toNat) (a := (0 : Int))
        simp only [Option.getD_some]
        omega
      · exact Int.le_refl _
    refine goSetItem (k := oth) (y_add (y_ixL (ds := rs2.map .int) (y_var rfl) (y_var rfl) (atInt t0 t1')) y_int) (env (x := some (.int i)) (y := some (.int one)) (z := some (.int oth)) (X := none) (Y := none) (Z := some (.int oth)) sh7 upd_same hq7 none' none' fun d e => by cases e; exact ⟨_, rfl, .int _⟩) rfl rfl fun v H8 s8 dv => ⟨_, oth.toNat, s8 _ _ upd_same, by rw [List.length_map]; exact ixN_of t0 t1', ?_⟩
    have e8 := datInt dv
    subst e8
    have hset2 : (rs2.map V.int).set oth.toNat (.int (rs2.getD oth.toNat 0 + 1)) = (rs2.set oth.toNat (rs2.getD oth.toNat 0 + 1)).map V.int := by rw [List.map_set]
    rw [hset2]
    refine ⟨_, _, _, _, rfl, (sh7.trans s8).updN np, upd_same, by rw [upd_ne (Ne.symm n3)]; exact s8 _ _ hq7, c2.setR _ (by omega)⟩
  subst e
  have evz := env (x := x) (y := y) (z := z) (X := none) (Y := none) (Z := none) sh hp hq none' none' none'
  have hres : ∀ {v : V} {H' : Hp} {rs' : List Int}, Same H H' → DatV K H' v (dT2 rs' cs) → Cnt rs' cs high wide → Q v H' := fun {v H' rs'} s dv c' => q v H' rs' cs high wide s dv c' ⟨hh1, bh⟩ ⟨hw1, bw⟩
  refine goIf (b := decide (cellAt ns (at_ + 28) % 5 = 1)) ?yb evz fun H9 s9 => ?_
  case yb => exact yb_test (y_eqI (y_mod (y_cl (ns, at_ + 28) (ya_cons (y_var rfl) (ya_cons (y_add (y_var rfl) y_int) ya_nil)) (by show (0 : Int) ≤ at_ + 28; omega) rfl) y_int (by decide)) y_int)
  refine ite2 (fun _ => ?_) fun _ => ?_
  · refine goAsgN (yn_compRT (enc' := PyData.int) (n := (rs.length : Int)) (ya_cons ((y_len (ds := rs.map .int) (y_var rfl)).to (by rw [List.length_map])) ya_nil) (by omega) (by rw [c.rl]; omega) (fun k : Nat => cellAt ns (at_ + 30 + (k : Int)) % ((cs.length : Int) + 1)) fun k hk => y_mod (y_cl (ns, at_ + 30 + (k : Int)) (ya_cons (y_var rfl) (ya_cons (y_add (y_add (y_var rfl) y_int) (y_var rfl)) ya_nil)) (by show (0 : Int) ≤ at_ + 30 + (k : Int); omega) rfl) (y_add ((y_len (ds := cs.map .int) (y_var rfl)).to (by rw [List.length_map])) y_int) (by omega)) (evz.same s9) fun pn vs H10 s10 hpn dv => ?_
    have en := DatAll.of_ints dv
    subst en
    have s11 := same_upd hpn (.lst (((List.range (rs.length : Int).toNat).map fun k : Nat => cellAt ns (at_ + 30 + (k : Int)) % ((cs.length : Int) + 1)).map V.int))
    refine ⟨_, rfl, _, rfl, (by show 2 ≤ sizeLine; decide), fun t' ht' => ?_⟩
    have s12' := same_upd ht' (.tup [.ref pn, .ref p2])
    refine hres (rs' := (List.range (rs.length : Int).toNat).map fun k : Nat => cellAt ns (at_ + 30 + (k : Int)) % ((cs.length : Int) + 1)) (sh.trans (s9.trans (s10.trans (s11.trans s12')))) (.tup (SqT.of upd_same) (.cons (datI_of (SqL.of (s12' _ _ upd_same))) (.cons (datI_of (SqL.of (s12' _ _ (s11 _ _ (s10 _ _ (s9 _ _ hq)))))) .nil))) ⟨by rw [List.length_map, List.length_range, ← c.rl]; rfl, c.cl, fun x hx => ?_, c.cb⟩
    obtain ⟨k, _, rfl⟩ := List.mem_map.mp hx
    have z1 := Int.emod_nonneg (cellAt ns (at_ + 30 + (k : Int))) (b := (cs.length : Int) + 1) (by omega)
    have z2 := Int.emod_lt_of_pos (cellAt ns (at_ + 30 + (k : Int))) (b := (cs.length : Int) + 1) (by omega)
    have := c.cl
    omega
  · refine ⟨_, rfl, _, rfl, (by show 2 ≤ sizeLine; decide), fun t' ht' => ?_⟩
    have s12' := same_upd ht' (.tup [.ref p, .ref p2])
    exact hres (sh.trans (s9.trans s12')) (.tup (SqT.of upd_same) (.cons (datI_of (SqL.of (s12' _ _ (s9 _ _ hp)))) (.cons (datI_of (SqL.of (s12' _ _ (s9 _ _ hq)))) .nil))) c
def everyRow : Nat → List (List Int)
  | 0 => [[]]
  | n + 1 => (everyRow n).map (fun r => r ++ [0]) ++ (everyRow n).map (fun r => r ++ [1])
theorem every_len : ∀ n, (everyRow n).length = 2 ^ n
  | 0 => rfl
  | n + 1 => by simp only [everyRow]; rw [List.length_append, List.length_map, List.length_map, every_len n, Nat.pow_succ]; omega
theorem every_mem : ∀ {n : Nat} {r : List Int}, r ∈ everyRow n ↔ r.length = n ∧ ∀ c ∈ r, c = 0 ∨ c = 1
  | 0, r => by
    simp only [everyRow, List.mem_singleton]
    constructor
    · rintro rfl; exact ⟨rfl, fun c hc => nomatch hc⟩
    · rintro ⟨h, _⟩; exact List.length_eq_zero_iff.mp h
  | n + 1, r => by
    simp only [everyRow, List.mem_append, List.mem_map]
    constructor
    · rintro (⟨q, hq, rfl⟩ | ⟨q, hq, rfl⟩)
      · obtain ⟨h1, h2⟩ := every_mem.mp hq
        refine ⟨by simp [h1], fun c hc => ?_⟩
        rcases List.mem_append.mp hc with hc | hc
        · exact h2 c hc
        · exact .inl (List.mem_singleton.mp hc)
      · obtain ⟨h1, h2⟩ := every_mem.mp hq
        refine ⟨by simp [h1], fun c hc => ?_⟩
        rcases List.mem_append.mp hc with hc | hc
        · exact h2 c hc
        · exact .inr (List.mem_singleton.mp hc)
    · rintro ⟨h1, h2⟩
      have hne : r ≠ [] := by rintro rfl; simp at h1
      have hd : r.dropLast ++ [r.getLast hne] = r := List.dropLast_concat_getLast hne
      have hq : r.dropLast ∈ everyRow n := every_mem.mpr ⟨by rw [List.length_dropLast, h1]; rfl, fun c hc => h2 c (by rw [← hd]; exact List.mem_append_left _ hc)⟩
      rcases h2 _ (List.getLast_mem hne) with h | h
      · exact .inl ⟨r.dropLast, hq, by rw [← h]; exact hd⟩
      · exact .inr ⟨r.dropLast, hq, by rw [← h]; exact hd⟩
theorem every_nodup : ∀ n, (everyRow n).Nodup
  | 0 => List.pairwise_singleton _ _
  | n + 1 => by
    have ih := every_nodup n
    simp only [everyRow]
    refine List.pairwise_append.mpr ⟨?_, ?_, fun x hx y hy e => ?_⟩
    · exact List.pairwise_map.mpr (ih.imp fun h e => h (List.append_cancel_right e))
    · exact List.pairwise_map.mpr (ih.imp fun h e => h (List.append_cancel_right e))
    · obtain ⟨q, _, rfl⟩ := List.mem_map.mp hx
      obtain ⟨q', _, rfl⟩ := List.mem_map.mp hy
      have := (List.append_inj' e rfl).2
      injection this with h _
      exact absurd h (by decide)
abbrev sp_every_row (K : PySem.W.Frag) : Sp := spF K (fun n : Nat => [.int n]) (fun n => n ≤ 6) (fun n => dII (everyRow n))
theorem ok__law_every_row (T : Tx K mg a) : FnOk P w K mg base CX0 1 a.f__law_every_row a.d__law_every_row ["size"] (sp_every_row K) :=
  T.F__law_every_row.okD sc__law_every_row (fun _ => rfl) fun cdv A outer s H E hr => ⟨_, (pss_cons (ps_set (i := 1) sc__law_every_row.nd rfl (Or.inl rfl) (pe_lst (pa_cons (pe_lst pa_nil) pa_nil))) (pss_cons (ps_for PassesOwn.never (pi_range1 rfl rfl T.b_range (pa_cons (pv 0) pa_nil)) (pg_name (i := 2) sc__law_every_row.nd rfl (Or.inl rfl)) (pss_one (ps_set (i := 1) sc__law_every_row.nd rfl (Or.inl rfl) (pe_op (op_catS (K := K) rfl) (pe_comp (N' := ["row"]) (k := 1) (cap := []) (CompOk.of (sc := (defScope s__law_every_row)) (N := ["size", "found", "k"]) rfl rfl (by decide +kernel)) (pi_list' (K := K) rfl rfl (pv 1)) (fun _ _ _ _ => pg_name (i := 0) (by decide +kernel : (["row"] : List Str).Nodup) rfl (Or.inl rfl)) (gk_name (by decide)) (fun _ _ _ _ => pf_nil) (fun _ _ _ _ => (pe_op (op_catS (K := K) rfl) (pv 0) (pe_lst (pa_cons pe_int pa_nil))))) (pe_comp (N' := ["row"]) (k := 1) (cap := []) (CompOk.of (sc := (defScope s__law_every_row)) (N := ["size", "found", "k"]) rfl rfl (by decide +kernel)) (pi_list' (K := K) rfl rfl (pv 1)) (fun _ _ _ _ => pg_name (i := 0) (by decide +kernel : (["row"] : List Str).Nodup) rfl (Or.inl rfl)) (gk_name (by decide)) (fun _ _ _ _ => pf_nil) (fun _ _ _ _ => (pe_op (op_catS (K := K) rfl) (pv 0) (pe_lst (pa_cons pe_int pa_nil))))))))) (pss_one (ps_ret (pv 1))))), fun n hn => by
    have hn : n ≤ 6 := hn
    refine ys_seq (ys_set (d := dII [[]]) (y_lst (ya_cons (y_lst (ds := []) ya_nil) ya_nil)) ?_)
    refine ys_seq (ys_forR (m := (n : Int)) ?ya (by omega) (by omega) (fun i ρ' => i ≤ n ∧ ∃ x, ρ' = [some (.int n), some (dII (everyRow i)), x]) ⟨Nat.zero_le _, _, rfl⟩ (fun i ρ' hi hp => ?_) fun ρ' hp => ?_)
    case ya => exact ya_cons (y_var rfl) ya_nil
    · obtain ⟨_, x, rfl⟩ := hp
      have hl := every_len i
      have h64 : 2 ^ i ≤ 2 ^ 5 := Nat.pow_le_pow_right (by decide) (by omega)
      have half : ∀ b : Int, Y K [some (.int n), some (dII (everyRow i)), some (.int i)] (tComp 1 [] (iList K (tVar 1)) (gName 0) tYes (tOp (rCatS K) (tVar 0) (tLst (tCons (tC (.int b)) tNil)))) (dII ((everyRow i).map fun r => r ++ [b])) := fun b =>
        (yn_compT (enc := dI) (enc' := dI) (y_var rfl) (fun r => r ++ [b]) (by omega) fun r hr => y_catI (y_var rfl) (y_oneI y_int) (by have := (every_mem.mp hr).1; simp; omega)).y
      exact ys_set (d := dII (everyRow (i + 1))) (y_catII (half 0) (half 1) (by rw [List.length_map, List.length_map]; omega)) ⟨by omega, _, rfl⟩
    · obtain ⟨_, x, rfl⟩ := hp
      exact ys_ret (y_var rfl) rfl⟩
def fitsCols (b : List (List Int)) (cs : List Int) (n : Nat) : Bool := (List.range n).all fun k => decide (colSum b k ≤ cs.getD k 0)
def moreOf (b : List (List Int)) (r cs : List Int) : List (List Int) := if fitsCols (b ++ [r]) cs cs.length = true then b ++ [r] else []
abbrev sp_law_more (K : PySem.W.Frag) : Sp := spF K (fun a : List (List Int) × List Int × List Int => [dII a.1, dI a.2.1, dI a.2.2]) (fun a => a.1.length ≤ 100 ∧ (∀ x ∈ a.1, x.length = a.2.2.length) ∧ a.2.1.length = a.2.2.length ∧ a.2.2.length ≤ 100) (fun a => dII (moreOf a.1 a.2.1 a.2.2))
theorem ok__law_more (T : Tx K mg a) : FnOk P w K mg base CX0 1 a.f__law_more a.d__law_more ["board", "row", "columns"] (sp_law_more K) :=
  T.F__law_more.okD sc__law_more (fun _ => rfl) fun cdv A outer s H E hr => ⟨_, (pss_cons (ps_set (i := 3) sc__law_more.nd rfl (Or.inl rfl) (pe_op (op_catS (K := K) rfl) (pv 0) (pe_lst (pa_cons (pv 1) pa_nil)))) (pss_cons (ps_for PassesOwn.never (pi_range1 rfl rfl T.b_range (pa_cons (pe_callB (call_len_seq' (K := K) rfl) rfl T.b_len bt_len (pa_cons (pv 2) pa_nil)) pa_nil)) (pg_name (i := 4) sc__law_more.nd rfl (Or.inr rfl)) (pss_one (ps_if (pt_cmpR op_gt (pe_callB (call_sum' (K := K) rfl rfl) rfl T.b_sum bt_sum (pa_cons (pe_comp (N' := ["line", "k"]) (k := 1) (cap := [4]) (CompOk.of (sc := (defScope s__law_more)) (N := ["board", "row", "columns", "made", "k"]) rfl rfl (by decide +kernel)) (pi_list' (K := K) rfl rfl (pv 3)) (fun _ _ _ _ => pg_name (i := 0) (by decide +kernel : (["line", "k"] : List Str).Nodup) rfl (Or.inl rfl)) (gk_name (by decide)) (fun _ _ _ _ => pf_nil) (fun _ _ _ _ => (pe_ix (ix_list' (K := K) rfl) (pv 0) (pv 1) (fun _ _ => rfl)))) pa_nil)) (pe_ix (ix_list' (K := K) rfl) (pv 2) (pv 4) (fun _ _ => rfl)) (nomark _)) (pss_one (ps_ret (pe_lst pa_nil))) pss_nil))) (pss_one (ps_ret (pv 3))))), fun ⟨b, r, cs⟩ ⟨h1, h2, h3, h4⟩ => by
    have h1 : b.length ≤ 100 := h1
    have h2 : ∀ x ∈ b, x.length = cs.length := h2
    have h3 : r.length = cs.length := h3
    have h4 : cs.length ≤ 100 := h4
    have hrow : ∀ x ∈ b ++ [r], x.length = cs.length := fun x hx => by
      rcases List.mem_append.mp hx with hx | hx
      · exact h2 x hx
      · rw [List.mem_singleton.mp hx]; exact h3
    refine ys_seq (ys_set (d := dII (b ++ [r])) ((y_cat (ds := b.map dI) (es := [dI r]) (y_var rfl) (y_lst (ya_cons (y_var rfl) ya_nil)) (by simp; omega)).to (by simp [dII])) ?_)
    refine ys_seq (ys_forR (m := (cs.length : Int)) (ya_cons ((y_len (ds := cs.map .int) (y_var rfl)).to (by rw [List.length_map])) ya_nil) (by omega) (by omega) (fun i ρ' => (∃ z, ρ' = [some (dII b), some (dI r), some (dI cs), some (dII (b ++ [r])), z]) ∧ fitsCols (b ++ [r]) cs i = true) ⟨⟨_, rfl⟩, rfl⟩ (fun i ρ' hi hp => ?_) fun ρ' hp => ?_)
    · obtain ⟨⟨z, rfl⟩, hf⟩ := hp
      have hi' : i < cs.length := by omega
      refine ys_if (b := decide (cs.getD i 0 < colSum (b ++ [r]) i)) (yb_test (y_gt (y_sum (ns := (b ++ [r]).map fun x : List Int => x.getD i 0) (yn_compT (enc := dI) (as := b ++ [r]) (y_var rfl) (fun x : List Int => x.getD i 0) (by simp; omega) fun x hx => y_ixL (ds := x.map .int) (y_var rfl) (y_var rfl) (atRow (by rw [hrow x hx]; exact hi'))).y) (y_ixL (ds := cs.map .int) (y_var rfl) (y_var rfl) (atRow hi')))) (fun hc => ys_ret (y_lst (ds := []) ya_nil) ?_) fun hc => ys_next ⟨⟨_, rfl⟩, ?_⟩
      · show PyData.list [] = dII (moreOf b r cs)
        unfold moreOf
        rw [if_neg]
        · rfl
        · intro e
          have := of_decide_eq_true (List.all_eq_true.mp e i (List.mem_range.mpr hi'))
          have := of_decide_eq_true hc
          omega
      · have hc := of_decide_eq_false hc
        unfold fitsCols at hf ⊢
        rw [List.range_succ, List.all_append, hf]
        simp
        have h5 : cs.getD i 0 = cs[i]?.getD 0 := List.getD_eq_getElem?_getD ..
        omega
    · obtain ⟨⟨z, rfl⟩, hf⟩ := hp
      rw [Int.toNat_natCast] at hf
      refine ys_ret (y_var rfl) ?_
      show dII (b ++ [r]) = dII (moreOf b r cs)
      unfold moreOf
      rw [if_pos hf]⟩
end
end K04


set_option Elab.async false
set_option linter.all false
set_option maxRecDepth 100000
set_option maxHeartbeats 4000000
namespace K04
open PySem L2
section
variable {P : Program} {w : World} {K : PySem.W.Frag} {mg : Str → Option Value} {base : Heap} {a : Ad}
def rowsSum (n : Nat) (c : Int) : List (List Int) := (everyRow n).filter fun r => decide (r.sum = c)
def longerOf (f : List (List (List Int))) (c : Int) (cs : List Int) : List (List (List Int)) := (rowsSum cs.length c).flatMap fun row => f.map fun b => moreOf b row cs
def nextOf (f : List (List (List Int))) (c : Int) (cs : List Int) : List (List (List Int)) := (longerOf f c cs).filter fun b => decide (0 < b.length)
def foundOf (cs : List Int) (rs : List Int) : List (List (List Int)) := rs.foldl (fun f c => nextOf f c cs) [[]]
/-- a part of a board: its first rows -/
structure Part (rs cs : List Int) (b : List (List Int)) : Prop where
  rows : b.map List.sum = rs
  row : ∀ r ∈ b, r.length = cs.length ∧ ∀ c ∈ r, c = 0 ∨ c = 1
  col : ∀ k, k < cs.length → colSum b k ≤ cs.getD k 0
theorem colSum_append (b : List (List Int)) (r : List Int) (k : Nat) : colSum (b ++ [r]) k = colSum b k + r.getD k 0 := by
  unfold colSum; rw [List.map_append, List.sum_append]; simp
theorem fits_iff {b : List (List Int)} {cs : List Int} : fitsCols b cs cs.length = true ↔ ∀ k, k < cs.length → colSum b k ≤ cs.getD k 0 := by
  unfold fitsCols
  rw [List.all_eq_true]
  exact ⟨fun h k hk => of_decide_eq_true (h k (List.mem_range.mpr hk)), fun h k hk => decide_eq_true (h k (List.mem_range.mp hk))⟩
theorem next_eq (f : List (List (List Int))) (c : Int) (cs : List Int) : nextOf f c cs = (rowsSum cs.length c).flatMap fun row => (f.filter fun b => fitsCols (b ++ [row]) cs cs.length).map fun b => b ++ [row] := by
  unfold nextOf longerOf
  rw [List.filter_flatMap]
  congr 1
  funext row
  induction f with
  | nil => rfl
  | cons b t ih =>
    rw [List.map_cons, List.filter_cons, List.filter_cons, ih]
    unfold moreOf
    cases hf : fitsCols (b ++ [row]) cs cs.length with
    | true => rw [if_pos rfl, if_pos (by simp), if_pos rfl, List.map_cons]
    | false => rw [if_neg Bool.false_ne_true, if_neg (by simp), if_neg Bool.false_ne_true]
theorem next_mem {f : List (List (List Int))} {rs cs : List Int} {c : Int} (hf : ∀ b, b ∈ f ↔ Part rs cs b) (b : List (List Int)) : b ∈ nextOf f c cs ↔ Part (rs ++ [c]) cs b := by
  rw [next_eq, List.mem_flatMap]
  constructor
  · rintro ⟨row, hr, hb⟩
    obtain ⟨b0, h0, rfl⟩ := List.mem_map.mp hb
    obtain ⟨h1, h2⟩ := List.mem_filter.mp h0
    obtain ⟨r1, r2⟩ := List.mem_filter.mp hr
    have p := (hf b0).mp h1
    refine ⟨by rw [List.map_append, p.rows]; simp [of_decide_eq_true r2], fun r hr' => ?_, fits_iff.mp h2⟩
    rcases List.mem_append.mp hr' with hr' | hr'
    · exact p.row r hr'
    · rw [List.mem_singleton.mp hr']; exact every_mem.mp r1
  · intro p
    have hne : b ≠ [] := by rintro rfl; have := p.rows; simp at this
    have hd : b.dropLast ++ [b.getLast hne] = b := List.dropLast_concat_getLast hne
    have hm : b.getLast hne ∈ b := List.getLast_mem hne
    have e := p.rows
    rw [← hd, List.map_append] at e
    have e2 := List.append_inj' e (by simp)
    have es : (b.getLast hne).sum = c := by simpa using e2.2
    refine ⟨b.getLast hne, List.mem_filter.mpr ⟨every_mem.mpr (p.row _ hm), decide_eq_true es⟩, List.mem_map.mpr ⟨b.dropLast, List.mem_filter.mpr ⟨(hf _).mpr ⟨e2.1, fun r hr => p.row r (by rw [← hd]; exact List.mem_append_left _ hr), fun k hk => ?_⟩, ?_⟩, hd⟩⟩
    · have h1 := p.col k hk
      rw [← hd, colSum_append] at h1
      have := NM.bit_getD (p.row _ hm).2 k
      omega
    · show fitsCols _ _ _ = true
      rw [hd]; exact fits_iff.mpr p.col
theorem next_nodup {f : List (List (List Int))} {cs : List Int} {c : Int} (hf : f.Nodup) : (nextOf f c cs).Nodup := by
  rw [next_eq, List.Nodup, List.pairwise_flatMap]
  refine ⟨fun row _ => List.pairwise_map.mpr ((hf.filter _).imp fun h e => h (List.append_cancel_right e)), ((every_nodup cs.length).filter _).imp fun {x y} hxy a ha b hb e => ?_⟩
  obtain ⟨a', _, rfl⟩ := List.mem_map.mp ha
  obtain ⟨b', _, rfl⟩ := List.mem_map.mp hb
  have := (List.append_inj' e rfl).2
  exact hxy (by simpa using this)
theorem found_ok (cs : List Int) (rs : List Int) (hc : ∀ k, k < cs.length → 0 ≤ cs.getD k 0) : (foundOf cs rs).Nodup ∧ ∀ b, b ∈ foundOf cs rs ↔ Part rs cs b := by
  have key : ∀ (rs pre : List Int) (f : List (List (List Int))), f.Nodup → (∀ b, b ∈ f ↔ Part pre cs b) → (rs.foldl (fun f c => nextOf f c cs) f).Nodup ∧ ∀ b, b ∈ rs.foldl (fun f c => nextOf f c cs) f ↔ Part (pre ++ rs) cs b := fun rs => by
    induction rs with
    | nil => intro pre f h1 h2; rw [List.append_nil]; exact ⟨h1, h2⟩
    | cons c t ih =>
      intro pre f h1 h2
      have := ih (pre ++ [c]) (nextOf f c cs) (next_nodup h1) (next_mem h2)
      rw [List.append_assoc] at this
      exact this
  refine key rs [] [[]] (List.pairwise_singleton _ _) fun b => ?_
  rw [List.mem_singleton]
  constructor
  · rintro rfl
    exact ⟨rfl, (fun r hr => nomatch hr), fun k hk => by show (0 : Int) ≤ _; exact hc k hk⟩
  · intro p; exact List.map_eq_nil_iff.mp p.rows
/-- what stands behind the last test: the boards with these counts -/
theorem all_ok {rs cs : List Int} (hc : ∀ k, k < cs.length → 0 ≤ cs.getD k 0) : ((foundOf cs rs).filter fun b => decide (NM.colS cs.length b = cs)).Perm (NM.brds rs cs) := by
  obtain ⟨h1, h2⟩ := found_ok cs rs hc
  refine NM.brds_of (h1.filter _) fun b => ?_
  rw [List.mem_filter, h2]
  constructor
  · rintro ⟨p, hb⟩
    exact ⟨p.rows, fun r hr => (p.row r hr).1, fun r hr => (p.row r hr).2, of_decide_eq_true hb⟩
  · intro x
    refine ⟨⟨x.rows, fun r hr => ⟨x.row r hr, x.bit r hr⟩, fun k hk => ?_⟩, decide_eq_true x.cols⟩
    have : (NM.colS cs.length b).getD k 0 = cs.getD k 0 := by rw [x.cols]
    rw [NM.colS_getD b hk] at this
    show (b.map fun r => r.getD k 0).sum ≤ _
    omega
def dIII (f : List (List (List Int))) : PyData := .list (f.map dII)
theorem y_sortII {ρ : Rho} {ta : TE} {bs cs : List (List (List Int))} (h : Y K ρ ta (dIII bs)) (nd : bs.Nodup) (h127 : bs.length ≤ 127) (hp : bs.Perm cs) (hs : cs.Pairwise (· < ·)) : Y K ρ (tCB (rSortII K) (tCons ta tNil)) (dIII cs) := y_cb (ya_cons h ya_nil) fun vs H Q dv q => by
  obtain ⟨v, rfl, dv1⟩ := dat1 dv
  obtain ⟨p, xs, rfl, hq, da⟩ := datL (ds := bs.map dII) dv1
  refine ⟨p, xs, bs, rfl, hq, da, nd, h127, fun l ws cs' hl pc sc _ dw => ?_⟩
  have e : cs' = cs := NM.sorted_eq (pc.trans hp) sc hs
  subst e
  exact q _ _ (same_upd hl _) (.lst (SqL.of upd_same) (dw.same (same_upd hl _)))
theorem rowsSum_few {n : Nat} (c : Int) (hn : n ≤ 4) : (rowsSum n c).length ≤ 6 := by
  by_cases h : 0 ≤ c ∧ c ≤ 4
  · obtain ⟨k, rfl⟩ : ∃ k : Nat, c = k := ⟨c.toNat, by omega⟩
    have all : ∀ n, n < 5 → ∀ k, k < 5 → (rowsSum n ((k : Nat) : Int)).length ≤ 6 := by decide +kernel
    exact all n (by omega) k (by omega)
  · have e : rowsSum n c = [] := List.filter_eq_nil_iff.mpr fun r hr => by
      obtain ⟨h1, h2⟩ := every_mem.mp hr
      have := bits_sum h2
      simp only [decide_eq_true_eq]
      omega
    rw [e]; exact Nat.zero_le _
theorem flat_len {α β : Type} {g : α → List β} {m : Nat} : ∀ {l : List α}, (∀ x ∈ l, (g x).length = m) → (l.flatMap g).length = l.length * m
  | [], _ => by simp
  | x :: l, h => by
    rw [List.flatMap_cons, List.length_append, h x (by simp), flat_len fun y hy => h y (by simp [hy]), List.length_cons, Nat.succ_mul]; omega
theorem longer_len (f : List (List (List Int))) (c : Int) {cs : List Int} (hc : cs.length ≤ 4) : (longerOf f c cs).length ≤ 6 * f.length := by
  unfold longerOf
  rw [flat_len (m := f.length) fun row _ => by rw [List.length_map]]
  exact Nat.mul_le_mul_right _ (rowsSum_few c hc)
theorem found_len {cs : List Int} (hc : cs.length ≤ 4) : ∀ (rs : List Int) (f : List (List (List Int))), (rs.foldl (fun f c => nextOf f c cs) f).length ≤ 6 ^ rs.length * f.length
  | [], f => by simp
  | c :: rs, f => by
    rw [List.foldl_cons, List.length_cons, Nat.pow_succ]
    refine Nat.le_trans (found_len hc rs _) ?_
    rw [Nat.mul_assoc]
    refine Nat.mul_le_mul_left _ ?_
    exact Nat.le_trans (List.length_filter_le _ _) (longer_len f c hc)
theorem found_few {cs : List Int} (hc : cs.length ≤ 4) {rs : List Int} (k : Nat) (hr : rs.length ≤ k) : (foundOf cs rs).length ≤ 6 ^ k := by
  have := found_len hc rs [[]]
  rw [List.length_singleton, Nat.mul_one] at this
  exact Nat.le_trans this (Nat.pow_le_pow_right (by decide) hr)
/-- the law's list of boards, with so many rows gone through -/
def longerTo (f : List (List (List Int))) (c : Int) (cs : List Int) (j : Nat) : List (List (List Int)) := (((everyRow cs.length).take j).filter fun r => decide (r.sum = c)).flatMap fun row => f.map fun b => moreOf b row cs
theorem longerTo_succ {f : List (List (List Int))} {c : Int} {cs row : List Int} {j : Nat} (h : (everyRow cs.length)[j]? = some row) : longerTo f c cs (j + 1) = longerTo f c cs j ++ if row.sum = c then f.map (fun b => moreOf b row cs) else [] := by
  obtain ⟨hj, e⟩ := List.getElem?_eq_some_iff.mp h
  unfold longerTo
  rw [List.take_succ_eq_append_getElem hj, e, List.filter_append, List.flatMap_append]
  congr 1
  by_cases hs : row.sum = c
  · rw [if_pos hs, List.filter_cons_of_pos (by simpa using hs)]; simp
  · rw [if_neg hs, List.filter_cons_of_neg (by simpa using hs)]; rfl
theorem longerTo_len (f : List (List (List Int))) (c : Int) {cs : List Int} (j : Nat) (hc : cs.length ≤ 4) : (longerTo f c cs j).length ≤ 6 * f.length := by
  unfold longerTo
  rw [flat_len (m := f.length) fun row _ => by rw [List.length_map]]
  refine Nat.mul_le_mul_right _ (Nat.le_trans ?_ (rowsSum_few c hc))
  exact ((List.take_sublist j (everyRow cs.length)).filter _).length_le
abbrev sp_law_all (K : PySem.W.Frag) : Sp := spF K (fun x : List Int × List Int => [dI x.1, dI x.2]) (fun x => areCounts x.1 x.2 = true ∧ x.1.length ≤ 4 ∧ x.2.length ≤ 4) (fun x => dIII (NM.brds x.1 x.2))
theorem ok__law_all (T : Tx K mg a) : FnOk P w K mg base CX0 2 a.f__law_all a.d__law_all ["rows", "columns"] (sp_law_all K) :=
  T.F__law_all.okD sc__law_all (fun _ => rfl) fun cdv A outer s H E hr => ⟨_, (pss_cons (ps_set (i := 2) sc__law_all.nd rfl (Or.inl rfl) (pe_lst (pa_cons (pe_lst pa_nil) pa_nil))) (pss_cons (ps_for PassesOwn.never (pi_list' (K := K) rfl rfl (pv 0)) (pg_name (i := 3) sc__law_all.nd rfl (Or.inl rfl)) (pss_cons (ps_set (i := 4) sc__law_all.nd rfl (Or.inl rfl) (pe_lst pa_nil)) (pss_cons (ps_for PassesOwn.never (pi_list' (K := K) rfl rfl (pe_call ((ok__law_every_row T).mono (by first | decide | omega)) hr rfl T.m__law_every_row T.F__law_every_row.kp T.B__law_every_row .nil pass0 (pa_cons (pe_callB (call_len_seq' (K := K) rfl) rfl T.b_len bt_len (pa_cons (pv 1) pa_nil)) pa_nil))) (pg_name (i := 5) sc__law_all.nd rfl (Or.inr rfl)) (pss_one (ps_if (pt_cmpR op_eq (pe_callB (call_sum' (K := K) rfl rfl) rfl T.b_sum bt_sum (pa_cons (pv 5) pa_nil)) (pv 3) (nomark _)) (pss_one (ps_set (i := 4) sc__law_all.nd rfl (Or.inl rfl) (pe_op (op_catS (K := K) rfl) (pv 4) (pe_comp (N' := ["board", "row", "columns"]) (k := 1) (cap := [5, 1]) (CompOk.of (sc := (defScope s__law_all)) (N := ["rows", "columns", "found", "count", "longer", "row"]) rfl rfl (by decide +kernel)) (pi_list' (K := K) rfl rfl (pv 2)) (fun _ _ _ _ => pg_name (i := 0) (by decide +kernel : (["board", "row", "columns"] : List Str).Nodup) rfl (Or.inl rfl)) (gk_name (by decide)) (fun _ _ _ _ => pf_nil) (fun _ _ _ _ => (pe_call ((ok__law_more T).mono (by first | decide | omega)) hr rfl T.m__law_more T.F__law_more.kp T.B__law_more .nil pass0 (pa_cons (pv 0) (pa_cons (pv 1) (pa_cons (pv 2) pa_nil))))))))) pss_nil))) (pss_one (ps_setComp (i := 2) sc__law_all.nd rfl rfl (N' := ["board"]) (k := 1) (cap := []) (CompOk.of (sc := (defScope s__law_all)) (N := ["rows", "columns", "found", "count", "longer", "row"]) rfl rfl (by decide +kernel)) (pi_list' (K := K) rfl rfl (pv 4)) (fun _ _ _ _ => pg_name (i := 0) (by decide +kernel : (["board"] : List Str).Nodup) rfl (Or.inl rfl)) (gk_name (by decide)) (fun _ _ _ _ => pf_one (pt_cmpR op_gt (pe_callB (call_len_seq' (K := K) rfl) rfl T.b_len bt_len (pa_cons (pv 0) pa_nil)) pe_int (nomark _))) (fun _ _ _ _ => (pv 0))))))) (pss_one (ps_ret (pe_callB (call_sortedII (K := K) rfl hr.units) rfl T.b_sorted bt_sorted (pa_cons (pe_comp (N' := ["board", "columns"]) (k := 1) (cap := [1]) (CompOk.of (sc := (defScope s__law_all)) (N := ["rows", "columns", "found", "count", "longer", "row"]) rfl rfl (by decide +kernel)) (pi_list' (K := K) rfl rfl (pv 2)) (fun _ _ _ _ => pg_name (i := 0) (by decide +kernel : (["board", "columns"] : List Str).Nodup) rfl (Or.inl rfl)) (gk_name (by decide)) (fun _ _ _ _ => pf_one (pt_cmpR (op_eqD' (K := K) rfl hr.units) (pe_ix (ix_tup' (K := K) rfl) (pe_call ((ok__law_countsD T).mono (by first | decide | omega)) hr rfl T.m__law_counts T.F__law_counts.kp T.B__law_counts .nil pass0 (pa_cons (pv 0) pa_nil)) pe_int (fun _ _ => rfl)) (pv 1) (nomark _))) (fun _ _ _ _ => (pv 0))) pa_nil)))))), fun ⟨rs, cs⟩ ⟨hC, hr4, hc4⟩ => by
    have hC : areCounts rs cs = true := hC
    have hr4 : rs.length ≤ 4 := hr4
    have hc4 : cs.length ≤ 4 := hc4
    obtain ⟨⟨l1, l6⟩, ⟨w1, w6⟩, hrb, hcb⟩ := areCounts_ok hC
    have hc0 : ∀ k, k < cs.length → 0 ≤ cs.getD k 0 := fun k hk => (hcb _ (getD_mem hk)).1
    have ylen : ∀ {ρ : Rho} {n : Nat} {x : List Int}, ρ[n]? = some (some (dI x)) → Y K ρ (tCB _ (tCons (tVar n) tNil)) (.int x.length) := fun {ρ n x} h => (y_len (ds := x.map .int) (y_var h)).to (by rw [List.length_map])
    refine ys_seq (ys_set (d := dIII [[]]) (y_lst (ya_cons (y_lst ya_nil) ya_nil)) ?_)
    refine ys_seq (ys_forL (ds := rs.map .int) (y_var rfl) (fun i ρ' => ∃ x y z, ρ' = [some (dI rs), some (dI cs), some (dIII (foundOf cs (rs.take i))), x, y, z]) ⟨_, _, _, rfl⟩ (fun i d ρ' hd hp => ?_) fun ρ' hp => ?_)
    · obtain ⟨x0, y0, z0, rfl⟩ := hp
      rw [List.getElem?_map] at hd
      obtain ⟨c, hc, rfl⟩ := Option.map_eq_some_iff.mp hd
      obtain ⟨hi, ec⟩ := List.getElem?_eq_some_iff.mp hc
      have enext : foundOf cs (rs.take (i + 1)) = nextOf (foundOf cs (rs.take i)) c cs := by
        unfold foundOf
        rw [List.take_succ_eq_append_getElem hi, ec, List.foldl_append]; rfl
      have flen := found_few hc4 (rs := rs.take i) 3 (by rw [List.length_take]; omega)
      have fpart := (found_ok cs (rs.take i) hc0).2
      rw [enext]
      generalize foundOf cs (rs.take i) = f at flen fpart
      refine ys_seq (ys_set (d := dIII []) (y_lst ya_nil) ?_)
      refine ys_seq (ys_forL (ds := (everyRow cs.length).map dI) (y_cl cs.length (ya_cons (ylen rfl) ya_nil) w6 rfl) (fun j ρ'' => ∃ z, ρ'' = [some (dI rs), some (dI cs), some (dIII f), some (.int c), some (dIII (longerTo f c cs j)), z]) ⟨_, rfl⟩ (fun j d' ρ'' hd' hp' => ?_) fun ρ'' hp' => ?_)
      · obtain ⟨z1, rfl⟩ := hp'
        rw [List.getElem?_map] at hd'
        obtain ⟨row, hrow, rfl⟩ := Option.map_eq_some_iff.mp hd'
        obtain ⟨rl, rbits⟩ := every_mem.mp (List.mem_of_getElem? hrow)
        have ll := longerTo_len f c j hc4
        rw [longerTo_succ hrow]
        refine ys_if (yb_test (y_eqI (y_sum (y_var rfl)) (y_var rfl))) (fun h => ?_) fun h => ys_next ?_
        · rw [if_pos (of_decide_eq_true h)]
          refine ys_set (d := dIII (longerTo f c cs j ++ f.map fun b => moreOf b row cs)) ((y_catB (ds := (longerTo f c cs j).map dII) (es := (f.map fun b => moreOf b row cs).map dII) (y_var rfl) (yn_compTB (enc := dII) (enc' := dII) (as := f) (y_var rfl) (fun b => moreOf b row cs) (by omega) fun b hb => y_cl (b, row, cs) (ya_cons (y_var rfl) (ya_cons (y_var rfl) (ya_cons (y_var rfl) ya_nil))) ⟨?_, fun x hx => ((((fpart b).mp hb).row) x hx).1, rl, by show cs.length ≤ 100; omega⟩ rfl).y (by rw [List.length_map, List.length_map, List.length_map]; omega)).to (by unfold dIII; rw [List.map_append])) ⟨_, rfl⟩
          have e := congrArg List.length ((fpart b).mp hb).rows
          rw [List.length_map, List.length_take] at e
          show b.length ≤ 100
          omega
        · rw [if_neg (of_decide_eq_false h), List.append_nil]
          exact ⟨_, rfl⟩
      · obtain ⟨z1, rfl⟩ := hp'
        have el : longerTo f c cs ((everyRow cs.length).map dI).length = longerOf f c cs := by
          rw [List.length_map]; unfold longerTo longerOf rowsSum; rw [List.take_length]
        rw [el]
        have ll := longer_len f c hc4
        exact ys_set (d := dIII (nextOf f c cs)) (yn_compFB (enc := dII) (as := longerOf f c cs) (y_var rfl) (fun b => decide (0 < b.length)) dII (by omega) (fun b hb => yb_test ((y_gt (y_len (ds := b.map dI) (y_var rfl)) y_int).to (by rw [List.length_map]; congr 1; simp))) fun b hb _ => y_var rfl).y ⟨_, _, _, rfl⟩
    · obtain ⟨x0, y0, z0, rfl⟩ := hp
      rw [List.length_map, List.take_length]
      have flen := found_few hc4 (rs := rs) 4 hr4
      obtain ⟨fnd, fpart⟩ := found_ok cs rs hc0
      have all := all_ok (rs := rs) hc0
      have colsEq : ∀ b ∈ foundOf cs rs, Even b ∧ lawCols b = NM.colS cs.length b := fun b hb => by
        have p := (fpart b).mp hb
        have bl : b.length = rs.length := by have := congrArg List.length p.rows; rwa [List.length_map] at this
        have M : Marks b rs.length cs.length := ⟨bl, fun r hr => (p.row r hr).1, fun r hr => (p.row r hr).2, l1, l6, w1, w6⟩
        refine ⟨M.even, ?_⟩
        rw [M.cols]
        unfold colsOf colSum NM.colS
        rw [M.hd.2]
      have few := NM.left_few hr4 hc4 hrb hcb
      rw [NM.left_len] at few
      have pe : ((foundOf cs rs).filter fun b => decide (lawCols b = cs)) = (foundOf cs rs).filter fun b => decide (NM.colS cs.length b = cs) := List.filter_congr fun b hb => by rw [(colsEq b hb).2]
      rw [← pe] at all
      refine ys_ret (d := dIII (NM.brds rs cs)) (y_sortII (bs := (foundOf cs rs).filter fun b => decide (lawCols b = cs)) (yn_compFB (enc := dII) (as := foundOf cs rs) (y_var rfl) (fun b => decide (lawCols b = cs)) dII (by omega) (fun b hb => (yb_test (y_eqD (neg := false) (d := dI (lawCols b)) (e := dI cs) (y_ixT (ds := [dI (rowsOf b), dI (lawCols b)]) (y_cl b (ya_cons (y_var rfl) ya_nil) (colsEq b hb).1 rfl) y_int rfl) (y_var rfl) (shI _) (shI _))).to ?_) fun b hb _ => y_var rfl).y (fnd.filter _) (by have := all.length_eq; omega) all (NM.brds_sorted rs cs)) rfl
      rw [eqI]; simp⟩
/-! ### the rows, lists of the asker's own -/
theorem Own.cat {H0 H1 H : Hp} {p1 p2 p : Addr} {qs1 qs2 : List Addr} {b1 b2 : List (List V)} (o1 : Own H0 H p1 qs1 b1) (o2 : Own H1 H p2 qs2 b2) (s : Same H0 H1) (s0 : Same H0 H) (old : ∀ q ∈ qs1, ∃ x, H1 q = some x) (hp : H p = none) : Own H0 (upd H p (.lst ((qs1 ++ qs2).map V.ref))) p (qs1 ++ qs2) (b1 ++ b2) := by
  have at1 : ∀ (i : Nat) q r, qs1[i]? = some q → b1[i]? = some r → q ≠ p := fun i q r h1 h2 z => by have := o1.row i q r h1 h2; rw [z, hp] at this; cases this
  have at2 : ∀ (i : Nat) q r, qs2[i]? = some q → b2[i]? = some r → q ≠ p := fun i q r h1 h2 z => by have := o2.row i q r h1 h2; rw [z, hp] at this; cases this
  have in1 : ∀ q ∈ qs1, q ≠ p := fun q hq => by
    obtain ⟨i, hi⟩ := List.mem_iff_getElem?.mp hq
    have hl : i < b1.length := by rw [← o1.len]; exact (List.getElem?_eq_some_iff.mp hi).1
    exact at1 i q _ hi (List.getElem?_eq_getElem hl)
  have in2 : ∀ q ∈ qs2, q ≠ p := fun q hq => by
    obtain ⟨i, hi⟩ := List.mem_iff_getElem?.mp hq
    have hl : i < b2.length := by rw [← o2.len]; exact (List.getElem?_eq_some_iff.mp hi).1
    exact at2 i q _ hi (List.getElem?_eq_getElem hl)
  refine ⟨upd_same, s0.free hp, fun q hq => ?_, ?_, fun hq => ?_, by rw [List.length_append, List.length_append, o1.len, o2.len], fun i q r h1 h2 => ?_⟩
  · rcases List.mem_append.mp hq with h | h
    · exact o1.nq q h
    · exact s.free (o2.nq q h)
  · rw [List.nodup_append]
    refine ⟨o1.nd, o2.nd, fun x hx y hy e => ?_⟩
    subst e
    obtain ⟨z, hz⟩ := old x hx
    rw [o2.nq x hy] at hz
    cases hz
  · rcases List.mem_append.mp hq with h | h
    · exact in1 p h rfl
    · exact in2 p h rfl
  · by_cases hi : i < qs1.length
    · rw [List.getElem?_append_left hi] at h1
      rw [List.getElem?_append_left (by rw [← o1.len]; exact hi)] at h2
      rw [upd_ne (at1 i q r h1 h2)]
      exact o1.row i q r h1 h2
    · rw [List.getElem?_append_right (by omega)] at h1
      rw [List.getElem?_append_right (by rw [← o1.len]; omega), ← o1.len] at h2
      rw [upd_ne (at2 _ q r h1 h2)]
      exact o2.row _ q r h1 h2
theorem Own.old {H0 H : Hp} {p : Addr} {qs : List Addr} {b : List (List V)} (o : Own H0 H p qs b) {q : Addr} (hq : q ∈ qs) : ∃ r, H q = some (.lst r) := by
  obtain ⟨i, hi⟩ := List.mem_iff_getElem?.mp hq
  have hl : i < b.length := by rw [← o.len]; exact (List.getElem?_eq_some_iff.mp hi).1
  exact ⟨_, o.row i q _ hi (List.getElem?_eq_getElem hl)⟩
theorem Own.none {H0 H : Hp} {p : Addr} (s0 : Same H0 H) (hp : H p = none) : Own H0 (upd H p (.lst [])) p [] [] := ⟨upd_same, s0.free hp, (fun _ h => nomatch h), List.nodup_nil, (fun h => nomatch h), rfl, fun i q r h => by simp at h⟩
def sp_rcO (K : PySem.W.Frag) : Sp := fun vs H Q _ => ∃ w m : Int, DatAll K H vs [.int w, .int m] ∧ (1 ≤ w ∧ w ≤ 6) ∧ ∀ p qs H', Same H H' → Own H H' p qs (rowsV (NM.rowChoices w.toNat m)) → Q (.ref p) H'
theorem ok_row_choicesO (T : Tx K mg a) : FnOk P w K mg base CX0 8 a.f_row_choices a.d_row_choices ["width", "marks"] (sp_rcO K) := by
  have IH_row_choices := ok_row_choices (P := P) (w := w) (base := base) T
  refine T.F_row_choices.ok sc_row_choices (fun vs H Q E h => ?_) (fun cdv A outer s H vs Q E hr h => ?_)
  · obtain ⟨_, _, da, _⟩ := h; rw [da.length]; rfl
  obtain ⟨w, m, da, ⟨h1, h3⟩, q⟩ := h
  obtain ⟨va, vb, rfl, _, _⟩ := dat2 da
  refine ⟨_, (pss_cons (ps_if (PW.pt (pw_or (pt_cmpR op_lt (pv 1) pe_int (nomark _)) (pw_or1 (pt_cmpR op_gt (pv 1) (pv 0) (nomark _))))) (pss_one (ps_ret (pe_lst pa_nil))) pss_nil) (pss_cons (ps_if (pt_cmpR op_eq (pv 0) pe_int (nomark _)) (pss_one (ps_ret (pe_lst (pa_cons (pe_lst pa_nil) pa_nil)))) pss_nil) (pss_cons (ps_setComp (i := 2) sc_row_choices.nd rfl rfl (N' := ["rest"]) (k := 1) (cap := []) (CompOk.of (sc := (defScope s_row_choices)) (N := ["width", "marks", "unmarked", "marked"]) rfl rfl (by decide +kernel)) (pi_list' (K := K) rfl rfl (pe_call (IH_row_choices) hr rfl T.m_row_choices T.F_row_choices.kp T.B_row_choices .nil pass0 (pa_cons (pe_op op_sub (pv 0) pe_int) (pa_cons (pv 1) pa_nil)))) (fun _ _ _ _ => pg_name (i := 0) (by decide +kernel : (["rest"] : List Str).Nodup) rfl (Or.inl rfl)) (gk_name (by decide)) (fun _ _ _ _ => pf_nil) (fun _ _ _ _ => (pe_op (op_catS (K := K) rfl) (pe_lst (pa_cons pe_int pa_nil)) (pv 0)))) (pss_cons (ps_setComp (i := 3) sc_row_choices.nd rfl rfl (N' := ["rest"]) (k := 1) (cap := []) (CompOk.of (sc := (defScope s_row_choices)) (N := ["width", "marks", "unmarked", "marked"]) rfl rfl (by decide +kernel)) (pi_list' (K := K) rfl rfl (pe_call (IH_row_choices) hr rfl T.m_row_choices T.F_row_choices.kp T.B_row_choices .nil pass0 (pa_cons (pe_op op_sub (pv 0) pe_int) (pa_cons (pe_op op_sub (pv 1) pe_int) pa_nil)))) (fun _ _ _ _ => pg_name (i := 0) (by decide +kernel : (["rest"] : List Str).Nodup) rfl (Or.inl rfl)) (gk_name (by decide)) (fun _ _ _ _ => pf_nil) (fun _ _ _ _ => (pe_op (op_catS (K := K) rfl) (pe_lst (pa_cons pe_int pa_nil)) (pv 0)))) (pss_one (ps_ret (pe_op (op_catS (K := K) rfl) (pv 2) (pv 3)))))))), ?_⟩
  have ev : EnvD K H [some va, some vb, none, none] [some (.int w), some (.int m), none, none] := EnvD.start (N := ["width", "marks", "unmarked", "marked"]) da
  refine goIf (yb_or (yb_test (y_lt (y_var rfl) y_int)) fun _ => yb_test (y_gt (y_var rfl) (y_var rfl))) ev fun H1 s1 => ite2 (fun hc => ?_) fun hc => ?_
  · have hc' : m < 0 ∨ w < m := by simpa using hc
    refine ⟨(by show 0 ≤ sizeLine; decide), fun p hp => q p [] _ (s1.trans (same_upd hp _)) ?_⟩
    rw [NM.rc_none w.toNat (by omega)]
    exact Own.none s1 hp
  have hc' : 0 ≤ m ∧ m ≤ w := by simpa using hc
  refine goIfN (b := false) ((yb_test (y_eqI (y_var rfl) y_int)).to (decide_eq_false (by omega))) rfl (ev.same s1) fun H2 s2 => ?_
  obtain ⟨k, rfl⟩ : ∃ k : Nat, w = k + 1 := ⟨(w - 1).toNat, by omega⟩
  have hk : k ≤ 5 := by omega
  have b1 := NM.rc_len k m (by omega)
  have b2 := NM.rc_len k (m - 1) (by omega)
  have s12 := s1.trans s2
  have ev2 := ev.same s12
  refine goSetOwn (b := (NM.rowChoices k m).map fun r => (0 :: r).map V.int) (yown_comp (enc := dI) (encb := PyData.int) (mkV := V.int) (as := NM.rowChoices k m) (fun dv => DatAll.of_ints dv) (y_cl ((k : Int), m) (ya_cons ((y_sub (y_var rfl) y_int).to (by rw [show ((k : Int) + 1 - 1) = k by omega])) (ya_cons (y_var rfl) ya_nil)) ⟨by show (0 : Int) ≤ k; omega, by show (k : Int) < (7 : Nat); omega, by show (k : Int) ≤ 6; omega⟩ rfl) (fun r => 0 :: r) (by omega) fun r hr => (yn_cat (ds := [.int 0]) (es := r.map .int) (y_oneI y_int) (y_var rfl) (by have := (NM.rc_mem hr).1; simp; omega)).to (by simp)) ev2 fun p1 qs1 H3 s3 o1 => ?_
  have e1 : ((NM.rowChoices k m).map fun r => (0 :: r).map V.int) = rowsV ((NM.rowChoices k m).map fun r => 0 :: r) := by unfold rowsV; rw [List.map_map]; rfl
  have d3 : DatV K H3 (.ref p1) (dII ((NM.rowChoices k m).map fun r => 0 :: r)) := by rw [e1] at o1; exact o1.data
  have ev3 := (ev2.same s3).set d3 2
  refine goSetOwn (b := (NM.rowChoices k (m - 1)).map fun r => (1 :: r).map V.int) (yown_comp (enc := dI) (encb := PyData.int) (mkV := V.int) (as := NM.rowChoices k (m - 1)) (fun dv => DatAll.of_ints dv) (y_cl ((k : Int), m - 1) (ya_cons ((y_sub (y_var rfl) y_int).to (by rw [show ((k : Int) + 1 - 1) = k by omega])) (ya_cons (y_sub (y_var rfl) y_int) ya_nil)) ⟨by show (0 : Int) ≤ k; omega, by show (k : Int) < (7 : Nat); omega, by show (k : Int) ≤ 6; omega⟩ rfl) (fun r => 1 :: r) (by omega) fun r hr => (yn_cat (ds := [.int 1]) (es := r.map .int) (y_oneI y_int) (y_var rfl) (by have := (NM.rc_mem hr).1; simp; omega)).to (by simp)) ev3 fun p2 qs2 H4 s4 o2 => ?_
  have o1' := o1.same s4
  refine ⟨_, rfl, _, rfl, p1, p2, _, _, rfl, rfl, SqL.of o1'.top, SqL.of o2.top, Nat.le_of_lt (small1000 (by rw [List.length_map, List.length_map, o1'.len, o2.len, List.length_map, List.length_map]; omega)), fun p hp => ?_⟩
  rw [← List.map_append]
  refine q p (qs1 ++ qs2) _ (((s12.trans s3).trans s4).trans (same_upd hp _)) ?_
  have e : rowsV (NM.rowChoices ((k : Int) + 1).toNat m) = ((NM.rowChoices k m).map fun r => (0 :: r).map V.int) ++ (NM.rowChoices k (m - 1)).map fun r => (1 :: r).map V.int := by
    rw [show ((k : Int) + 1).toNat = k + 1 by omega, NM.rc_succ]
    unfold rowsV
    rw [List.map_append, List.map_map, List.map_map]; rfl
  rw [e]
  exact Own.cat (o1'.down s12) o2 (s12.trans s3) ((s12.trans s3).trans s4) (fun x hx => by obtain ⟨r, h⟩ := Own.old o1 hx; exact ⟨_, h⟩) hp
theorem rowsAt_len : ∀ {rows cols : List Int} {n : Int} {b : List (List Int)}, NM.rowsAt rows cols n = some b → b.length = rows.length
  | [], _, _, b, h => by cases h; rfl
  | r :: rs, cols, n, b, h => by
    simp only [NM.rowsAt] at h
    have : ∀ (l : List (List Int)) (n : Int), NM.pick (fun row m => NM.rowsAt rs (NM.sub cols row) m) (fun row => NM.left rs (NM.sub cols row)) l n = some b → b.length = rs.length + 1 := fun l => by
      induction l with
      | nil => intro n h; cases h
      | cons row t ih =>
        intro n h
        simp only [NM.pick] at h
        split at h
        · obtain ⟨b', hb, rfl⟩ := Option.map_eq_some_iff.mp h
          rw [List.length_cons, rowsAt_len hb]
        · exact ih _ h
    exact this _ _ h
theorem Own.sameX {H0 H H' : Hp} {p kd : Addr} {qs : List Addr} {b : List (List V)} {kvs : List (NKey × V)} (o : Own H0 H p qs b) (s : SameX kd H H') (hk : H kd = some (.dT kvs)) : Own H0 H' p qs b :=
  ⟨s _ _ (fun z => by have := o.top; rw [z, hk] at this; cases this) o.top, o.np, o.nq, o.nd, o.npq, o.len, fun i q r h1 h2 => s _ _ (fun z => by have := o.row i q r h1 h2; rw [z, hk] at this; cases this) (o.row i q r h1 h2)⟩
theorem SameX.free {H H' : Hp} {kd p : Addr} {o : HO} (s : SameX kd H H') (hk : H' kd = some o) (hp : H' p = none) : H p = none := by
  cases e : H p with
  | none => rfl
  | some x =>
    by_cases z : p = kd
    · rw [z, hk] at hp; cases hp
    · rw [s p x z e] at hp; cases hp
def sp_rows_atO (K : PySem.W.Frag) (C : Addr) (n : Nat) : Sp := fun vs H Q E => ∃ (R rows cols : List Int) (number : Int) (v1 v2 : V) (kd : Addr) (kvs : List (NKey × V)), vs = [v1, v2, .int number, .ref kd] ∧ DatV K H v1 (dI rows) ∧ DatV K H v2 (dI cols) ∧ H kd = some (.dT kvs) ∧ Memo R kvs ∧ (∃ pre, R = pre ++ rows) ∧ rows.length < n ∧ (1 ≤ cols.length ∧ cols.length ≤ 6) ∧ rows.length ≤ 6 ∧ 0 ≤ number ∧ kvs.length + NM.budU rows.length ≤ 16000000 ∧
  (∀ b, NM.rowsAt rows cols number = some b → ∀ p qs H' kvs', SameX kd H H' → H' kd = some (.dT kvs') → Own H H' p qs (rowsV b) → Q (.ref p) H') ∧ (NM.rowsAt rows cols number = none → ∀ H', SameX kd H H' → E (.ref C) none H')
theorem ok_rows_atON (T : Tx K mg a) : ∀ n : Nat, FnOk P w K mg base (CXE P w) (n + 16) a.f_rows_at a.d_rows_at ["rows", "columns", "number", "known"] (sp_rows_atO K a.c_NoNumber n)
  | 0 => FnOk.never fun vs H Q E ⟨_, rows, _, _, _, _, _, _, _, _, _, _, _, _, h, _⟩ => absurd h (Nat.not_lt_zero _)
  | n + 1 => by
    have IH_rows_at := ok_rows_atON T n
    refine T.F_rows_at.okE sc_rows_at (fun vs H Q E h => ?_) (fun cdv A outer s H vs Q E hr h => ?_)
    · obtain ⟨_, _, _, _, _, _, _, _, rfl, _⟩ := h; rfl
    obtain ⟨R, rows, cols, number, v1, v2, kd, kvs, rfl, d1, d2, hkd, memo, suf, hlt, ⟨c1, c6⟩, hl6, h0, bud, q, qe⟩ := h
    refine ⟨_, (pss_cons (ps_if (pt_cmpR op_eq (pe_callB (call_len_seq' (K := K) rfl) rfl T.b_len bt_len (pa_cons (pv 0) pa_nil)) pe_int (nomark _)) (pss_one (ps_ret (pe_lst pa_nil))) pss_nil) (pss_cons (PS.nox (ps_for PassesOwn.never (pi_list' (K := K) rfl rfl (pe_call ((ok_row_choicesO T).mono (by first | decide | omega)) hr rfl T.m_row_choices T.F_row_choices.kp T.B_row_choices .nil pass0 (pa_cons (pe_callB (call_len_seq' (K := K) rfl) rfl T.b_len bt_len (pa_cons (pv 1) pa_nil)) (pa_cons (pe_ix (ix_list' (K := K) rfl) (pv 0) pe_int (fun _ _ => rfl)) pa_nil)))) (pg_name (i := 4) sc_rows_at.nd rfl (Or.inl rfl)) (pss_cons (ps_set (i := 5) sc_rows_at.nd rfl (Or.inl rfl) (pe_call ((ok_columns_behind T).mono (by first | decide | omega)) hr rfl T.m_columns_behind T.F_columns_behind.kp T.B_columns_behind .nil pass0 (pa_cons (pv 1) (pa_cons (pv 4) pa_nil)))) (pss_cons (ps_set (i := 6) sc_rows_at.nd rfl (Or.inl rfl) (pe_call ((ok_boards_left T).mono (by first | decide | omega)) hr rfl T.m_boards_left T.F_boards_left.kp T.B_boards_left .nil pass0 (pa_cons (pe_slice (sl_list' (K := K) rfl) (pv 0) (po_some pe_int) po_none) (pa_cons (pv 5) (pa_cons (pv 3) pa_nil))))) (pss_cons (ps_if (pt_cmpR op_lt (pv 2) (pv 6) (nomark _)) (pss_one (ps_ret (pe_op (op_catS (K := K) rfl) (pe_lst (pa_cons (pv 4) pa_nil)) (pe_call (IH_rows_at) hr rfl T.m_rows_at T.F_rows_at.kp T.B_rows_at .nil passX0 (pa_cons (pe_slice (sl_list' (K := K) rfl) (pv 0) (po_some pe_int) po_none) (pa_cons (pv 5) (pa_cons (pv 2) (pa_cons (pv 3) pa_nil)))))))) pss_nil) (pss_one (ps_set (i := 2) sc_rows_at.nd rfl (Or.inl rfl) (pe_op op_sub (pv 2) (pv 6))))))))) (pss_one (ps_raise T.x_NoNumber PySem.F.excBase_ValueError rfl rfl rfl T.m_NoNumber (pa_cons pe_str pa_nil) raisesE)))), ?_⟩
    have ev : EnvD K H [some v1, some v2, some (.int number), some (.ref kd), none, none, none] [some (dI rows), some (dI cols), some (.int number), none, none, none, none] := ⟨rfl, fun i d hi => by
      match i, hi with
      | 0, hi => cases hi; exact ⟨_, rfl, d1⟩
      | 1, hi => cases hi; exact ⟨_, rfl, d2⟩
      | 2, hi => cases hi; exact ⟨_, rfl, .int _⟩
      | 3, hi => cases hi
      | 4, hi => cases hi
      | 5, hi => cases hi
      | 6, hi => cases hi⟩
    cases rows with
    | nil => exact goIfT (yb_test (y_eqI (y_len (ds := []) (y_var rfl)) y_int)) rfl ev fun H1 s1 => ⟨(by show 0 ≤ sizeLine; decide), fun p hp => q [] rfl p [] _ kvs (s1.trans (same_upd hp _)).x ((same_upd hp _) _ _ (s1 _ _ hkd)) (Own.none s1 hp)⟩
    | cons r rs =>
      refine goIfN (yb_test (y_eqI (y_len (ds := (r :: rs).map .int) (y_var rfl)) y_int)) (by simp; omega) ev fun H1 s1 => ?_
      refine goCall (t := tCons _ (tCons _ tNil)) (goCons (d := .int cols.length) ((y_len (ds := cols.map .int) (y_var rfl)).to (by rw [List.length_map])) (ev.same s1) fun ua Ha sa da => goCons (d := .int r) (y_ixL (ds := (r :: rs).map .int) (y_var rfl) y_int (atI_nat (j := 0) rfl)) ((ev.same s1).same sa) fun ub Hb sb db => goNil ⟨(cols.length : Int), r, .cons (da.same sb) (.cons db .nil), ⟨by omega, by omega⟩, fun pc qc H2 s2' oc => ?_⟩)
      rw [Int.toNat_natCast] at oc
      have s2 : Same H1 H2 := (sa.trans sb).trans s2'
      have oc := oc.down (sa.trans sb)
      have s12 := s1.trans s2
      have hkd2 := s12 _ _ hkd
      have hrl := NM.rc_len cols.length r c6
      have hql : qc.length = (NM.rowChoices cols.length r).length := by rw [oc.len, List.length_map]
      have hbud : NM.budU (r :: rs).length = 20 * NM.budT rs.length + NM.budU rs.length := rfl
      refine ⟨pc, rfl, ⟨_, SqL.of oc.top⟩, for_list (xs := qc.map V.ref) (fun i σ' H' => ∃ m x y z, σ' = [some v1, some v2, some (.int m), some (.ref kd), x, y, z] ∧ SameX kd H2 H' ∧ 0 ≤ m ∧ (∃ kvs', H' kd = some (.dT kvs') ∧ Memo R kvs' ∧ kvs'.length ≤ kvs.length + i * NM.budT rs.length) ∧
        NM.rowsAt (r :: rs) cols number = NM.pick (fun row m => NM.rowsAt rs (NM.sub cols row) m) (fun row => NM.left rs (NM.sub cols row)) ((NM.rowChoices cols.length r).drop i) m)
        ⟨number, none, none, none, rfl, SameX.refl _ _, h0, ⟨kvs, hkd2, memo, by omega⟩, rfl⟩ (fun i σ' H' _ ⟨_, _, _, _, _, sx, _⟩ => SqL.of (Own.sameX oc sx hkd2).top) (fun i x σ' H' hx ⟨m, x0, y0, z0, e, sx', hm0, ⟨kvs', hk', m', l'⟩, epick⟩ => ?_) fun σ' H' ⟨m, x0, y0, z0, e, sx', hm0, _, epick⟩ => ?_⟩
      · subst e
        rw [List.getElem?_map] at hx
        obtain ⟨qx, hqx, rfl⟩ := Option.map_eq_some_iff.mp hx
        have hi' : i < (NM.rowChoices cols.length r).length := by rw [← hql]; exact (List.getElem?_eq_some_iff.mp hqx).1
        obtain ⟨row, ge⟩ : ∃ row, (NM.rowChoices cols.length r)[i] = row := ⟨_, rfl⟩
        have hrow : (NM.rowChoices cols.length r)[i]? = some row := by rw [List.getElem?_eq_getElem hi', ge]
        have hrm := List.mem_of_getElem? hrow
        have ocH := Own.sameX oc sx' hkd2
        have hq0 := ocH.row' i qx row hqx hrow
        have nqx : H qx = none := s1.free (oc.nq qx (List.mem_of_getElem? hqx))
        have drow : DatV K H' (.ref qx) (dI row) := datI_of (SqL.of hq0)
        have hi : i < 20 := by omega
        have hmul : i * NM.budT rs.length + NM.budT rs.length ≤ 20 * NM.budT rs.length := by rw [← Nat.succ_mul]; exact Nat.mul_le_mul_right _ hi
        have hrwl := (NM.rc_mem hrm).1
        have hsl : (NM.sub cols row).length = cols.length := by unfold NM.sub; rw [List.length_zipWith, hrwl, Nat.min_self]
        have hsuf : ∃ pre, R = pre ++ rs := by
          obtain ⟨pre, rfl⟩ := suf
          exact ⟨pre ++ [r], by simp⟩
        have hlt' : rs.length < n := by simp only [List.length_cons] at hlt; omega
        have hl6' : rs.length ≤ 5 := by simp only [List.length_cons] at hl6; omega
        have d1' := (d1.same s12).sameX sx' hkd2
        have d2' := (d2.same s12).sameX sx' hkd2
        have evb : EnvD K H' [some v1, some v2, some (.int m), some (.ref kd), some (.ref qx), y0, z0] [some (dI (r :: rs)), some (dI cols), some (.int m), none, some (dI row), none, none] := ⟨rfl, fun j d hj => by
          match j, hj with
          | 0, hj => cases hj; exact ⟨_, rfl, d1'⟩
          | 1, hj => cases hj; exact ⟨_, rfl, d2'⟩
          | 2, hj => cases hj; exact ⟨_, rfl, .int _⟩
          | 3, hj => cases hj
          | 4, hj => cases hj; exact ⟨_, rfl, drow⟩
          | 5, hj => cases hj
          | 6, hj => cases hj⟩
        refine goSet (d := dI (NM.sub cols row)) (y_cl (cols, row) (ya_cons (y_var rfl) (ya_cons (y_var rfl) ya_nil)) ⟨hrwl.symm, by show cols.length ≤ 1000; omega⟩ rfl) evb fun vb H5 s5 db => ?_
        have evc := (evb.same s5).set db 5
        -- ways = boards_left(rows[1:], behind, known)
        refine goCall (t := tCons _ (tCons _ (tCons _ tNil))) (goCons (d := dI rs) ((y_slI (x := r :: rs) (y_var rfl) (yo_some y_int) yo_none).to (by rw [cut_tail])) evc fun u1 H6 s6 du1 => goVar rfl (goVar rfl (goNil ⟨R, rs, NM.sub cols row, u1, vb, kd, kvs', rfl, du1, db.same s6, (s5.trans s6) _ _ hk', m', hsuf, by omega, by omega, by omega, fun H7 kvs7 sx7 hk7 m7 l7 => ?_⟩)))
        have hk6 := (s5.trans s6) _ _ hk'
        have sxa : SameX kd H' H7 := (s5.trans s6).x.trans sx7
        have evd := ((evc.same s6).sameX sx7 hk6).set (.int (NM.left rs (NM.sub cols row))) 6
        have drop : (NM.rowChoices cols.length r).drop i = row :: (NM.rowChoices cols.length r).drop (i + 1) := by rw [List.drop_eq_getElem_cons hi', ge]
        rw [drop] at epick
        simp only [NM.pick] at epick
        by_cases hw : m < NM.left rs (NM.sub cols row)
        · refine goIfT (yb_test (y_lt (y_var rfl) (y_var rfl))) (decide_eq_true hw) evd fun H8 s8 => ?_
          rw [if_pos hw] at epick
          obtain ⟨b', hb', _⟩ := NM.rowsAt_some rs (NM.sub cols row) m hm0 hw
          rw [hb'] at epick
          have hk8 := s8 _ _ hk7
          have hq8 : H8 qx = some (.lst (row.map V.int)) := s8 _ _ (sx7 _ _ (fun z => by rw [z, hk'] at hq0; cases hq0) (s6 _ _ (s5 _ _ hq0)))
          refine ⟨.ref qx, rfl, (by show 1 ≤ sizeLine; decide), fun l hl => ?_⟩
          have s9 := same_upd hl (.lst [.ref qx])
          have eve := (evd.same s8).same s9
          refine goCall (t := tCons _ (tCons _ (tCons _ (tCons _ tNil)))) (goCons (d := dI rs) ((y_slI (x := r :: rs) (y_var rfl) (yo_some y_int) yo_none).to (by rw [cut_tail])) eve fun u2 H10 s10 du2 => goVar rfl (goVar rfl (goVar rfl (goNil ⟨R, rs, NM.sub cols row, m, u2, vb, kd, kvs7, rfl, du2, ((((db.same s6).sameX sx7 hk6).same s8).same s9).same s10, (s9.trans s10) _ _ hk8, m7, hsuf, hlt', by omega, by omega, hm0, by omega, fun b2 hb2 pb qb H11 kvs11 sx11 hk11 ob => ?_, fun hn => by rw [hb'] at hn; cases hn⟩))))
          rw [hb'] at hb2
          cases hb2
          have hl10 : H10 l = some (.lst [.ref qx]) := s10 _ _ upd_same
          have hk10 : H10 kd = some (.dT kvs7) := (s9.trans s10) _ _ hk8
          have hl11 : H11 l = some (.lst [.ref qx]) := sx11 _ _ (fun z => by rw [z, hk10] at hl10; cases hl10) hl10
          have hq10 : H10 qx = some (.lst (row.map V.int)) := (s9.trans s10) _ _ hq8
          have hq11 : H11 qx = some (.lst (row.map V.int)) := sx11 _ _ (fun z => by rw [z, hk10] at hq10; cases hq10) hq10
          have hbl := rowsAt_len hb'
          refine ⟨l, pb, _, _, rfl, rfl, SqL.of hl11, SqL.of ob.top, Nat.le_of_lt (small1000 (by rw [List.length_map, ob.len, List.length_map]; simp; omega)), fun p2 hp2 => ?_⟩
          have s12' := same_upd hp2 (.lst ([V.ref qx] ++ qb.map V.ref))
          have sxAll : SameX kd H H11 := (((s12.x.trans sx').trans sxa).trans ((s8.trans (s9.trans s10)).x)).trans sx11
          have np2 : H p2 = none := SameX.free sxAll hk11 hp2
          have nqb : ∀ y ∈ qb, H y = none := fun y hy => by
            have sxA : SameX kd H H10 := ((s12.x.trans sx').trans sxa).trans ((s8.trans (s9.trans s10)).x)
            exact SameX.free sxA hk10 (ob.nq y hy)
          have q2 : ∀ {y : Addr} {o : HO}, H11 y = some o → y ≠ p2 := fun h z => by rw [z, hp2] at h; cases h
          refine q (row :: b') epick p2 (qx :: qb) _ kvs11 (sxAll.trans s12'.x) (s12' _ _ hk11) ⟨upd_same, np2, fun y hy => ?_, List.nodup_cons.mpr ⟨fun hm => ?_, ob.nd⟩, fun hm => ?_, by rw [List.length_cons, ob.len]; rfl, fun j y rr h1 h2 => ?_⟩
          · rcases List.mem_cons.mp hy with rfl | hy
            · exact nqx
            · exact nqb y hy
          · rw [ob.nq qx hm] at hq10; cases hq10
          · rcases List.mem_cons.mp hm with e | e
            · exact q2 hq11 e.symm
            · obtain ⟨rr, hrr⟩ := Own.old ob e
              exact q2 hrr rfl
          · cases j with
            | zero =>
              simp only [List.getElem?_cons_zero, Option.some.injEq] at h1 h2
              subst h1
              have h2 : row.map V.int = rr := by simpa [rowsV] using h2
              subst h2
              rw [upd_ne (q2 hq11)]
              exact hq11
            | succ j =>
              simp only [List.getElem?_cons_succ] at h1
              have h2 : (rowsV b')[j]? = some rr := by simpa [rowsV] using h2
              have hh := ob.row j y rr h1 h2
              rw [upd_ne (q2 hh)]
              exact hh
        · refine goIfN (yb_test (y_lt (y_var rfl) (y_var rfl))) (decide_eq_false hw) evd fun H8 s8 => ?_
          rw [if_neg hw] at epick
          refine ⟨_, rfl, _, rfl, _, _, rfl, rfl, ⟨_, _, _, _, rfl, (sx'.trans sxa).trans s8.x, by omega, ⟨kvs7, s8 _ _ hk7, m7, ?_⟩, epick⟩⟩
          rw [Nat.succ_mul]; omega
      · rw [List.length_map, hql, List.drop_length] at epick
        exact ⟨(by show 1 ≤ sizeLine; decide), qe epick _ (s12.x.trans sx')⟩
theorem ok_rows_atO (T : Tx K mg a) : FnOk P w K mg base (CXE P w) 23 a.f_rows_at a.d_rows_at ["rows", "columns", "number", "known"] (sp_rows_atO K a.c_NoNumber 7) := ok_rows_atON T 7
def sp_board_atO (K : PySem.W.Frag) : Sp := fun vs H Q _ => ∃ (rs cs : List Int) (number : Int) (b : List (List Int)), DatAll K H vs [dI rs, dI cs, .int number] ∧ areCounts rs cs = true ∧ 0 ≤ number ∧ NM.rowsAt rs cs number = some b ∧ ∀ p qs H', Same H H' → Own H H' p qs (rowsV b) → Q (.ref p) H'
theorem ok_board_atO (T : Tx K mg a) : FnOk P w K mg base (CXE P w) 24 a.f_board_at a.d_board_at ["rows", "columns", "number"] (sp_board_atO K) := by
  refine T.F_board_at.okE sc_board_at (fun vs H Q E h => ?_) (fun cdv A outer s H vs Q E hr h => ?_)
  · obtain ⟨_, _, _, _, da, _⟩ := h; rw [da.length]; rfl
  obtain ⟨rs, cs, number, b, da, hC, hn, hb, q⟩ := h
  have ev := EnvD.start (N := ["rows", "columns", "number"]) da
  obtain ⟨v1, v2, v3, rfl, d1, d2, d3⟩ : ∃ v1 v2 v3, vs = [v1, v2, v3] ∧ DatV K H v1 (dI rs) ∧ DatV K H v2 (dI cs) ∧ DatV K H v3 (.int number) := by
    cases da with
    | cons x y => obtain ⟨u, w, rfl, h1, h2⟩ := dat2 y; exact ⟨_, _, _, rfl, x, h1, h2⟩
  have e3 := datInt d3
  subst e3
  obtain ⟨⟨l1, l2⟩, ⟨w1, w2⟩, _, _⟩ := areCounts_ok hC
  refine ⟨_, (pss_cons (ps_expr (pe_call ((ok_need_counts T).mono (by first | decide | omega)) hr rfl T.m_need_counts T.F_need_counts.kp T.B_need_counts .nil passesE (pa_cons (pv 0) (pa_cons (pv 1) pa_nil)))) (pss_cons (ps_if (pt_cmpR op_lt (pv 2) pe_int (nomark _)) (pss_one (ps_raise T.x_NoNumber PySem.F.excBase_ValueError rfl rfl rfl T.m_NoNumber (pa_cons pe_str pa_nil) raisesE)) pss_nil) (pss_one (ps_ret (pe_call ((ok_rows_atO T).mono (by first | decide | omega)) hr rfl T.m_rows_at T.F_rows_at.kp T.B_rows_at .nil passesE (pa_cons (pv 0) (pa_cons (pv 1) (pa_cons (pv 2) (pa_cons pe_dnew pa_nil))))))))), ?_⟩
  refine goDrop (y_callX (rs, cs) (ya_cons (y_var rfl) (ya_cons (y_var rfl) ya_nil)) ⟨by show rs.length ≤ 1000; omega, by show cs.length ≤ 1000; omega⟩ (if_pos hC)) ev fun v0 H0 s0 _ => ?_
  refine goIfN (yb_test (y_lt (y_var rfl) y_int)) (decide_eq_false (by omega)) (ev.same s0) fun H1 s1 => ?_
  have s01 := s0.trans s1
  have hbt : ∀ k, k ≤ 6 → NM.budU k ≤ 3545700 := by decide
  have hb6 := hbt rs.length l2
  refine ⟨_, rfl, _, rfl, _, rfl, fun kd hk => ⟨rs, rs, cs, number, v1, v2, kd, [], rfl, (d1.same s01).same (same_upd hk _), (d2.same s01).same (same_upd hk _), upd_same, Memo.nil _, ⟨[], rfl⟩, by omega, ⟨w1, w2⟩, l2, hn, by simp; omega, fun b2 hb2 p qs H' kvs' sx hk' ow => ?_, fun hb2 => by rw [hb] at hb2; cases hb2⟩⟩
  rw [hb] at hb2
  cases hb2
  exact q p qs H' (s01.trans (sx.fresh hk)) (ow.down (s01.trans (same_upd hk _)))
end
end K04


set_option Elab.async false
set_option linter.all false
set_option maxRecDepth 100000
set_option maxHeartbeats 4000000
namespace K04
open PySem L2
section
variable {P : Program} {w : World} {K : PySem.W.Frag} {mg : Str → Option Value} {base : Heap} {a : Ad}
theorem Cnt.are {rs cs : List Int} {high wide : Nat} (c : Cnt rs cs high wide) (h1 : 1 ≤ high ∧ high ≤ 6) (w1 : 1 ≤ wide ∧ wide ≤ 6) : areCounts rs cs = true :=
  areCounts_of (by rw [c.rl]; exact h1) (by rw [c.cl]; exact w1) (by rw [c.cl]; exact c.rb) (by rw [c.rl]; exact c.cb)
theorem isB_marks {rs cs : List Int} {b : List (List Int)} (hC : areCounts rs cs = true) (x : NM.IsB rs cs b) : Marks b rs.length cs.length := by
  obtain ⟨⟨l1, l6⟩, ⟨w1, w6⟩, _, _⟩ := areCounts_ok hC
  have hl : b.length = rs.length := by rw [← x.rows, List.length_map]
  exact ⟨hl, x.row, x.bit, l1, l6, w1, w6⟩
theorem colsOf_S {b : List (List Int)} {h w : Nat} (m : Marks b h w) : colsOf b = NM.colS w b := by
  unfold colsOf colSum NM.colS
  rw [m.hd.2]
theorem y_board {ρ : Rho} {E : XK} {as : TA} {rs cs : List Int} {n : Int} {b : List (List Int)} (h : YA K ρ as [dI rs, dI cs, .int n]) (hC : areCounts rs cs = true) (h0 : 0 ≤ n) (hb : NM.rowsAt rs cs n = some b) : Y K ρ (tCall (sp_board_atO K) [] E as) (dII b) := fun σ H Q ev q => h σ H _ ev fun vs H1 s1 dv =>
  ⟨rs, cs, n, b, by rw [List.append_nil]; exact dv, hC, h0, hb, fun p qs H' s' ow => q _ H' (s1.trans s') ow.data⟩
theorem y_lenX {ρ : Rho} {ta : TE} {x : List Int} (hg : Y K ρ ta (dI x)) : Y K ρ (tCB (fun xs H Q => ∃ p ys, xs = [.ref p] ∧ (SqL K H p ys ∨ SqT K H p ys) ∧ Q (.int ys.length) H) (tCons ta tNil)) (.int x.length) := (y_len (ds := x.map .int) hg).to (by rw [List.length_map])
def sp_law (K : PySem.W.Frag) : Sp := fun vs H Q _ => ∃ (p : Addr) (ns : List Int), vs = [.ref p] ∧ SqL K H p (ns.map V.int) ∧ ∀ H', Q (.bl true) H'
theorem ok_law (T : Tx K mg a) : FnOk P w K mg base CX0 27 a.f_law a.d_law ["script"] (sp_law K) := by
  refine T.F_law.ok sc_law (fun vs H Q E h => ?_) (fun cdv A outer s H vs Q E hr h => ?_)
  · obtain ⟨_, _, rfl, _⟩ := h; rfl
  obtain ⟨p0, ns, rfl, hx, q⟩ := h
  refine ⟨_, (pss_cons (ps_asg (pe_call ((ok__law_near_by T).mono (by first | decide | omega)) hr rfl T.m__law_near_by T.F__law_near_by.kp T.B__law_near_by .nil pass0 (pa_cons (pv 0) (pa_cons pe_int (pa_cons pe_int pa_nil)))) (pg_tup' (K := K) (n := 2) rfl rfl (pgs_cons (pg_name (i := 1) sc_law.nd rfl (Or.inl rfl)) (pgs_cons (pg_name (i := 2) sc_law.nd rfl (Or.inr rfl)) pgs_nil)))) (pss_cons (ps_set (i := 3) sc_law.nd rfl (Or.inl rfl) (pe_lst (pa_cons (pe_callTy (call_list_of' (K := K) rfl) rfl T.b_list bt_list (pa_cons (pv 1) pa_nil)) (pa_cons (pe_callTy (call_list_of' (K := K) rfl) rfl T.b_list bt_list (pa_cons (pv 2) pa_nil)) pa_nil)))) (pss_cons (ps_set (i := 4) sc_law.nd rfl (Or.inr rfl) (pe_call ((ok__law_all T).mono (by first | decide | omega)) hr rfl T.m__law_all T.F__law_all.kp T.B__law_all .nil pass0 (pa_cons (pv 1) (pa_cons (pv 2) pa_nil)))) (pss_cons (ps_set (i := 5) sc_law.nd rfl (Or.inl rfl) (pe_call ((ok_many T).mono (by first | decide | omega)) hr rfl T.m_many T.F_many.kp T.B_many .nil passX0 (pa_cons (pe_ix (ix_list' (K := K) rfl) (pv 3) pe_int (fun _ _ => rfl)) (pa_cons (pe_ix (ix_list' (K := K) rfl) (pv 3) pe_int (fun _ _ => rfl)) pa_nil)))) (pss_cons (ps_if (PW.pt (pw_or (pt_not (pt_val (pe_call ((ok__law_whole T).mono (by first | decide | omega)) hr rfl T.m__law_whole T.F__law_whole.kp T.B__law_whole .nil pass0 (pa_cons (pv 5) pa_nil)))) (pw_or (pt_cmpR op_ne (pv 5) (pe_callB (call_len_seq' (K := K) rfl) rfl T.b_len bt_len (pa_cons (pv 4) pa_nil)) (nomark _)) (pw_or1 (pt_cmpR (op_neD' (K := K) rfl hr.units) (pv 3) (pe_lst (pa_cons (pv 1) (pa_cons (pv 2) pa_nil))) (nomark _)))))) (pss_one (ps_ret pe_bl)) pss_nil) (pss_cons (ps_set (i := 6) sc_law.nd rfl (Or.inl rfl) (pe_op (op_catS (K := K) rfl) (pe_lst (pa_cons pe_int (pa_cons (pe_op op_sub (pe_callB (call_len_seq' (K := K) rfl) rfl T.b_len bt_len (pa_cons (pv 4) pa_nil)) pe_int) pa_nil))) (pe_comp (N' := ["k", "script", "due"]) (k := 1) (cap := [0, 4]) (CompOk.of (sc := (defScope s_law)) (N := ["script", "rows", "columns", "handed", "due", "found", "picks", "k", "board", "back", "row"]) rfl rfl (by decide +kernel)) (pi_range1 rfl rfl T.b_range (pa_cons pe_int pa_nil)) (fun _ _ _ _ => pg_name (i := 0) (by decide +kernel : (["k", "script", "due"] : List Str).Nodup) rfl (Or.inl rfl)) (gk_name (by decide)) (fun _ _ _ _ => pf_nil) (fun _ _ _ _ => (pe_op op_mod (pe_call ((ok__law_cell_at T).mono (by first | decide | omega)) hr rfl T.m__law_cell_at T.F__law_cell_at.kp T.B__law_cell_at .nil pass0 (pa_cons (pv 1) (pa_cons (pe_op op_add pe_int (pv 0)) pa_nil))) (pe_callB (call_max2 rfl) rfl T.b_max bt_max (pa_cons pe_int (pa_cons (pe_callB (call_len_seq' (K := K) rfl) rfl T.b_len bt_len (pa_cons (pv 2) pa_nil)) pa_nil)))))))) (pss_cons (ps_if (pt_cmpR op_eq (pe_callB (call_len_seq' (K := K) rfl) rfl T.b_len bt_len (pa_cons (pv 4) pa_nil)) pe_int (nomark _)) (pss_one (ps_set (i := 6) sc_law.nd rfl (Or.inl rfl) (pe_lst pa_nil))) pss_nil) (pss_cons (ps_for PassesOwn.never (pi_list' (K := K) rfl rfl (pv 6)) (pg_name (i := 7) sc_law.nd rfl (Or.inl rfl)) (pss_cons (ps_set (i := 8) sc_law.nd rfl (Or.inl rfl) (pe_call ((ok_board_atO T).mono (by first | decide | omega)) hr rfl T.m_board_at T.F_board_at.kp T.B_board_at .nil passX0 (pa_cons (pe_ix (ix_list' (K := K) rfl) (pv 3) pe_int (fun _ _ => rfl)) (pa_cons (pe_ix (ix_list' (K := K) rfl) (pv 3) pe_int (fun _ _ => rfl)) (pa_cons (pv 7) pa_nil))))) (pss_cons (ps_if (PW.pt (pw_or (pt_not (pt_val (pe_call ((ok__law_is_board T).mono (by first | decide | omega)) hr rfl T.m__law_is_board T.F__law_is_board.kp T.B__law_is_board .nil pass0 (pa_cons (pv 8) pa_nil)))) (pw_or1 (pt_cmpR (op_neD' (K := K) rfl hr.units) (pv 8) (pe_ix (ix_list' (K := K) rfl) (pv 4) (pv 7) (fun _ _ => rfl)) (nomark _))))) (pss_one (ps_ret pe_bl)) pss_nil) (pss_cons (ps_set (i := 9) sc_law.nd rfl (Or.inl rfl) (pe_call ((ok_number_of T).mono (by first | decide | omega)) hr rfl T.m_number_of T.F_number_of.kp T.B_number_of .nil passX0 (pa_cons (pv 8) pa_nil))) (pss_cons (ps_if (PW.pt (pw_or (pt_not (pt_val (pe_call ((ok__law_whole T).mono (by first | decide | omega)) hr rfl T.m__law_whole T.F__law_whole.kp T.B__law_whole .nil pass0 (pa_cons (pv 9) pa_nil)))) (pw_or1 (pt_cmpR op_ne (pv 9) (pv 7) (nomark _))))) (pss_one (ps_ret pe_bl)) pss_nil) (pss_cons (ps_asg (pe_op op_sub pe_int (pe_ix (ix_list' (K := K) rfl) (pe_ix (ix_list' (K := K) rfl) (pv 8) pe_int (fun _ _ => rfl)) pe_int (fun _ _ => rfl))) (pg_sub (pe_ix (ix_list' (K := K) rfl) (pv 8) pe_int (fun _ _ => rfl)) pe_int set_list)) (pss_cons (ps_for PassesOwn.never (pi_list' (K := K) rfl rfl (pv 8)) (pg_name (i := 10) sc_law.nd rfl (Or.inl rfl)) (pss_one (ps_expr (pe_bm PySem.F.plainAttrs_list PySem.F.slot_list_append PySem.F.type_list_append mt_append (pv 10) (pa_cons pe_int pa_nil))))) (pss_cons (ps_if (pt_cmpR op_gt (pe_callB (call_len_seq' (K := K) rfl) rfl T.b_len bt_len (pa_cons (pe_comp (N' := ["row", "columns"]) (k := 1) (cap := [2]) (CompOk.of (sc := (defScope s_law)) (N := ["script", "rows", "columns", "handed", "due", "found", "picks", "k", "board", "back", "row"]) rfl rfl (by decide +kernel)) (pi_list' (K := K) rfl rfl (pv 8)) (fun _ _ _ _ => pg_name (i := 0) (by decide +kernel : (["row", "columns"] : List Str).Nodup) rfl (Or.inl rfl)) (gk_name (by decide)) (fun _ _ _ _ => pf_one (pt_cmpR op_ne (pe_callB (call_len_seq' (K := K) rfl) rfl T.b_len bt_len (pa_cons (pv 0) pa_nil)) (pe_op op_add (pe_callB (call_len_seq' (K := K) rfl) rfl T.b_len bt_len (pa_cons (pv 1) pa_nil)) pe_int) (nomark _))) (fun _ _ _ _ => (pv 0))) pa_nil)) pe_int (nomark _)) (pss_one (ps_ret pe_bl)) pss_nil) (pss_one (ps_if (pt_cmpR (op_neD' (K := K) rfl hr.units) (pe_call ((ok_board_atO T).mono (by first | decide | omega)) hr rfl T.m_board_at T.F_board_at.kp T.B_board_at .nil passX0 (pa_cons (pe_ix (ix_list' (K := K) rfl) (pv 3) pe_int (fun _ _ => rfl)) (pa_cons (pe_ix (ix_list' (K := K) rfl) (pv 3) pe_int (fun _ _ => rfl)) (pa_cons (pv 7) pa_nil)))) (pe_ix (ix_list' (K := K) rfl) (pv 4) (pv 7) (fun _ _ => rfl)) (nomark _)) (pss_one (ps_ret pe_bl)) pss_nil)))))))))) (pss_one (ps_ret (pe_cmpR (op_eqD' (K := K) rfl hr.units) (pv 3) (pe_lst (pa_cons (pv 1) (pa_cons (pv 2) pa_nil))) (nomark _)))))))))))), ?_⟩
  have yl : ∀ {ρ : Rho} {n : Nat} {x : List Int}, ρ[n]? = some (some (dI x)) → Y K ρ (tCB _ (tCons (tVar n) tNil)) (dI x) := fun {ρ n x} h => y_list (ds := x.map .int) (y_var h)
  have ev0 : EnvD K H [some (.ref p0), none, none, none, none, none, none, none, none, none, none] [some (dI ns), none, none, none, none, none, none, none, none, none, none] := EnvD.start (N := ["script", "rows", "columns", "handed", "due", "found", "picks", "k", "board", "back", "row"]) (.cons (datI_of hx) .nil)
  refine goCall (t := tCons _ (tCons _ (tCons _ tNil))) (goCons (d := dI ns) (y_var rfl) ev0 fun u1 H1 s1 du => goCons (d := .int 0) y_int (ev0.same s1) fun u2 H2 s2 d2 => goCons (d := .int 4) y_int ((ev0.same s1).same s2) fun u3 H3 s3 d3 => goNil ⟨ns, 0, 4, .cons ((du.same s2).same s3) (.cons (d2.same s3) (.cons d3 .nil)), by decide, ⟨by decide, by decide⟩, fun v H4 rs cs high wide s4 dv c ⟨hh1, hh5⟩ ⟨hw1, hw5⟩ => ?_⟩)
  have sAll := ((s1.trans s2).trans s3).trans s4
  obtain ⟨pt, xs, rfl, hpt, dxs⟩ := datT dv
  obtain ⟨w1, w2, rfl, dr, dc⟩ := dat2 dxs
  refine ⟨pt, _, rfl, hpt, rfl, _, _, rfl, _, _, rfl, rfl, ?_⟩
  dsimp only
  have hC := c.are ⟨hh1, by omega⟩ ⟨hw1, by omega⟩
  have hr4 : rs.length ≤ 4 := by rw [c.rl]; omega
  have hc4 : cs.length ≤ 4 := by rw [c.cl]; omega
  obtain ⟨⟨l1, l6⟩, ⟨k1, k6⟩, hrb, hcb⟩ := areCounts_ok hC
  have hl : rs.length ≤ 1000 ∧ cs.length ≤ 1000 := by omega
  have ev4 : EnvD K H4 [some (.ref p0), some w1, some w2, none, none, none, none, none, none, none, none] [some (dI ns), some (dI rs), some (dI cs), none, none, none, none, none, none, none, none] := ((ev0.same sAll).set dr 1).set dc 2
  refine goSet (d := dII [rs, cs]) (y_lst (ya_cons (yl rfl) (ya_cons (yl rfl) ya_nil))) ev4 fun v3 H5 s5 d5 => ?_
  have ev5 := (ev4.same s5).set d5 3
  have hd0' : ∀ {ρ : Rho}, ρ[3]? = some (some (dII [rs, cs])) → Y K ρ (tOp (rIxL K) (tVar 3) (tC (.int 0))) (dI rs) := fun h => y_ixL (ds := [dI rs, dI cs]) (y_var h) y_int rfl
  have hd1' : ∀ {ρ : Rho}, ρ[3]? = some (some (dII [rs, cs])) → Y K ρ (tOp (rIxL K) (tVar 3) (tC (.int 1))) (dI cs) := fun h => y_ixL (ds := [dI rs, dI cs]) (y_var h) y_int rfl
  refine goSet (d := dIII (NM.brds rs cs)) (y_cl (rs, cs) (ya_cons (y_var rfl) (ya_cons (y_var rfl) ya_nil)) ⟨hC, hr4, hc4⟩ rfl) ev5 fun v4 H6 s6 d6 => ?_
  have ev6 := (ev5.same s6).set d6 4
  refine goSet (d := .int (NM.left rs cs)) (y_callX (rs, cs) (ya_cons (hd0' rfl) (ya_cons (hd1' rfl) ya_nil)) hl (if_pos hC)) ev6 fun v5 H7 s7 d7 => ?_
  have ev7 := (ev6.same s7).set d7 5
  have few := NM.left_few hr4 hc4 hrb hcb
  have elen := NM.left_len rs cs
  have ylenD : ∀ {ρ : Rho} {n : Nat}, ρ[n]? = some (some (dIII (NM.brds rs cs))) → Y K ρ (tCB _ (tCons (tVar n) tNil)) (.int (NM.left rs cs)) := fun h => (y_len (ds := (NM.brds rs cs).map dII) (y_var h)).to (by rw [List.length_map, elen])
  have rowsGet : ∀ k : Int, 0 ≤ k → k < NM.left rs cs → ∃ b, NM.rowsAt rs cs k = some b ∧ (NM.brds rs cs)[k.toNat]? = some b ∧ NM.IsB rs cs b ∧ NM.idx rs cs b = k := fun k h0 h1 => by
    have e := NM.rowsAt_get rs cs k h0 h1
    have hlt : k.toNat < (NM.brds rs cs).length := by omega
    rw [List.getElem?_eq_getElem hlt] at e
    obtain ⟨x, y⟩ := NM.idx_rowsAt h0 h1 e
    exact ⟨_, e, List.getElem?_eq_getElem hlt, x, y⟩
  generalize hL : NM.left rs cs = L at *
  have hL0 : 0 ≤ L := by omega
  refine goIfN (b := false) ((yb_or (c := false) (yb_not (yb_b (y_cl L (ya_cons (y_var rfl) ya_nil) trivial rfl))) fun _ => (yb_or (b := false) (c := false) ((yb_test (y_neI (i := L) (j := L) (y_var rfl) (ylenD rfl))).to (by simp)) fun _ => (yb_test (y_eqD (neg := true) (d := dII [rs, cs]) (e := dII [rs, cs]) (y_var rfl) (y_lst (ya_cons (y_var rfl) (ya_cons (y_var rfl) ya_nil))) (shII _) (shII _))).to (by rw [eqII]; simp)).to (by rfl)).to (by rfl)) rfl ev7 fun H8 s8 => ?_
  have ev8 := ev7.same s8
  refine goSet (d := dI ([0, L - 1] ++ (List.range 4).map fun k : Nat => cellAt ns (45 + (k : Int)) % max 1 L)) (y_catI (y_lst (ya_cons y_int (ya_cons (y_sub (ylenD rfl) y_int) ya_nil))) (yn_compRT (enc' := PyData.int) (n := 4) (ya_cons y_int ya_nil) (by decide) (by decide) (fun k : Nat => cellAt ns (45 + (k : Int)) % max 1 L) fun i hi => y_mod (y_cl (ns, 45 + (i : Int)) (ya_cons (y_var rfl) (ya_cons (y_add y_int (y_var rfl)) ya_nil)) (by show (0 : Int) ≤ 45 + (i : Int); omega) rfl) (y_max2 y_int (ylenD rfl)) (by omega)).y (by simp)) ev8 fun v9 H9 s9 d9 => ?_
  have ev9 := (ev8.same s9).set d9 6
  refine goIfM (fun σ' H' => ∃ v pk, σ' = [some (.ref p0), some w1, some w2, some v3, some v4, some v5, some v, none, none, none, none] ∧ Same H9 H' ∧ DatV K H' v (dI pk) ∧ ∀ k ∈ pk, 0 ≤ k ∧ k < L) (yb_test (y_eqI (ylenD rfl) y_int)) ev9 (fun hb Ha sa kk => ?_) (fun hb Ha sa => ⟨_, _, rfl, sa, d9.same sa, ?_⟩) fun σ' Ha ⟨vp, pk, eσ, sa, dp, hpk⟩ => ?_
  · exact (y_lst ya_nil : Y K _ _ (dI [])) _ Ha _ (ev9.same sa) fun v Hb sb dv => kk _ _ ⟨v, [], rfl, sa.trans sb, dv, fun k hk => by simp at hk⟩
  · have hb' := of_decide_eq_false hb
    intro k hk
    rcases List.mem_append.mp hk with h | h
    · rcases List.mem_cons.mp h with rfl | h
      · omega
      · rw [List.mem_singleton.mp h]; omega
    · obtain ⟨i, _, rfl⟩ := List.mem_map.mp h
      have := Int.emod_nonneg (cellAt ns (45 + (i : Int))) (b := max 1 L) (by omega)
      have := Int.emod_lt_of_pos (cellAt ns (45 + (i : Int))) (b := max 1 L) (by omega)
      omega
  subst eσ
  have s49 : Same H4 Ha := (((s5.trans s6).trans (s7.trans s8)).trans s9).trans sa
  have evp : EnvD K Ha [some (.ref p0), some w1, some w2, some v3, some v4, some v5, some vp, none, none, none, none] [none, some (dI rs), some (dI cs), some (dII [rs, cs]), some (dIII (NM.brds rs cs)), none, some (dI pk), none, none, none, none] := ⟨rfl, fun j d hj => by
    match j, hj with
    | 0, hj => cases hj
    | 1, hj => cases hj; exact ⟨_, rfl, dr.same s49⟩
    | 2, hj => cases hj; exact ⟨_, rfl, dc.same s49⟩
    | 3, hj => cases hj; exact ⟨_, rfl, d5.same ((s6.trans (s7.trans s8)).trans (s9.trans sa))⟩
    | 4, hj => cases hj; exact ⟨_, rfl, d6.same ((s7.trans s8).trans (s9.trans sa))⟩
    | 5, hj => cases hj
    | 6, hj => cases hj; exact ⟨_, rfl, dp⟩
    | 7, hj => cases hj
    | 8, hj => cases hj
    | 9, hj => cases hj
    | 10, hj => cases hj⟩
  refine goForL (ds := pk.map .int) (y_var rfl) evp fun pa ys Hb sb hpa dys => ⟨fun i σ' H' => ∃ x7 x8 x9 x10, σ' = [some (.ref p0), some w1, some w2, some v3, some v4, some v5, some vp, x7, x8, x9, x10] ∧ Same Hb H', ⟨_, _, _, _, rfl, Same.refl _⟩, fun i σ' H' _ ⟨_, _, _, _, _, sx⟩ => sx.seq hpa, fun i x σ' H' hx' ⟨x7, x8, x9, x10, e, sH⟩ => ?_, fun σ' H' ⟨x7, x8, x9, x10, e, sH⟩ => ?_⟩
  · subst e
    obtain ⟨k, hk, dk⟩ := dys.getD hx'
    have ek := datInt dk
    subst ek
    obtain ⟨kz0, kz1⟩ := hpk k (List.mem_of_getElem? hk)
    obtain ⟨b, hb, hget, isB, hidx⟩ := rowsGet k kz0 kz1
    have M := isB_marks hC isB
    obtain ⟨hne, hwd⟩ := M.hd
    have er : rowsOf b = rs := isB.rows
    have ec : colsOf b = cs := by rw [colsOf_S M, isB.cols]
    have hat : atI ((NM.brds rs cs).map dII) k = some (dII b) := by
      have e : k = (k.toNat : Int) := (Int.toNat_of_nonneg kz0).symm
      rw [e]
      exact atI_nat (by rw [List.getElem?_map, hget]; rfl)
    have sbH := sb.trans sH
    have evk : EnvD K H' [some (.ref p0), some w1, some w2, some v3, some v4, some v5, some vp, some (.int k), x8, x9, x10] [none, some (dI rs), some (dI cs), some (dII [rs, cs]), some (dIII (NM.brds rs cs)), none, none, some (.int k), none, none, none] := ⟨rfl, fun j d hj => by
      match j, hj with
      | 0, hj => cases hj
      | 1, hj => cases hj; exact ⟨_, rfl, (dr.same s49).same sbH⟩
      | 2, hj => cases hj; exact ⟨_, rfl, (dc.same s49).same sbH⟩
      | 3, hj => cases hj; exact ⟨_, rfl, (d5.same ((s6.trans (s7.trans s8)).trans (s9.trans sa))).same sbH⟩
      | 4, hj => cases hj; exact ⟨_, rfl, (d6.same ((s7.trans s8).trans (s9.trans sa))).same sbH⟩
      | 5, hj => cases hj
      | 6, hj => cases hj
      | 7, hj => cases hj; exact ⟨_, rfl, .int _⟩
      | 8, hj => cases hj
      | 9, hj => cases hj
      | 10, hj => cases hj⟩
    refine goCallSet (t := tCons _ (tCons _ (tCons _ tNil))) (goCons (d := dI rs) (hd0' rfl) evk fun uA HA sA dA => goCons (d := dI cs) (hd1' rfl) (evk.same sA) fun uB HB sB dB' => goCons (d := .int k) (y_var rfl) ((evk.same sA).same sB) fun uC HC sC dC => goNil ⟨rs, cs, k, b, .cons ((dA.same sB).same sC) (.cons (dB'.same sC) (.cons dC .nil)), hC, kz0, hb, fun p qs H10 s10 ow => ?_⟩)
    have sHC : Same H' HC := (sA.trans sB).trans sC
    have ev10 := (evk.same (sHC.trans s10)).set (v := .ref p) (d := dII b) ow.data 8
    refine goIfN (b := false) ((yb_or (c := false) ((yb_not (yb_b (y_cl b (ya_cons (y_var rfl) ya_nil) trivial rfl))).to (by rw [M.law])) fun _ => (yb_test (y_eqD (neg := true) (d := dII b) (e := dII b) (y_var rfl) (y_ixL (ds := (NM.brds rs cs).map dII) (y_var rfl) (y_var rfl) hat) (shII _) (shII _))).to (by rw [eqII]; simp)).to (by rfl)) rfl ev10 fun H11 s11 => ?_
    have ev11 := ev10.same s11
    refine goSet (d := .int k) (y_callX b (ya_cons (y_var rfl) ya_nil) M.small (by show (if isBoard b = true then _ else _) = _; rw [if_pos M.board, er, ec, hidx])) ev11 fun v12 H12 s12 d12 => ?_
    have ev12 := (ev11.same s12).set d12 9
    refine goIfN (b := false) ((yb_or (c := false) (yb_not (yb_b (y_cl k (ya_cons (y_var rfl) ya_nil) trivial rfl))) fun _ => (yb_test (y_neI (y_var rfl) (y_var rfl))).to (by simp)).to (by rfl)) rfl ev12 fun H13 s13 => ?_
    have ev13 := ev12.same s13
    obtain ⟨row0, brest, rfl⟩ : ∃ row0 brest, b = row0 :: brest := by
      cases b with
      | nil => exact absurd rfl hne
      | cons x y => exact ⟨x, y, rfl⟩
    have l0 : row0.length = cs.length := M.row row0 (by simp)
    have s1013 : Same H10 H13 := (s11.trans s12).trans s13
    have ow13 := ow.same s1013
    refine (y_sub y_int (y_ixL (ds := row0.map .int) (y_ixL (ds := (row0 :: brest).map dI) (y_var rfl) y_int (atI_nat (j := 0) rfl)) y_int (atInt (k := 0) (by decide) (by omega))) : Y K _ _ _) _ H13 _ ev13 fun v14 H14 s14 d14 => ?_
    rw [datInt d14]
    obtain ⟨q0, hq0, hrow0, hm0, hne0⟩ := ow13.at (i := 0) (r := row0.map V.int) rfl
    have ow14 := ow13.same s14
    have hat0 : atI (qs.map V.ref) 0 = some (.ref q0) := atI_nat (j := 0) (by rw [List.getElem?_map, hq0]; rfl)
    refine ⟨_, rfl, p, _, _, _, rfl, rfl, SqL.of ow14.top, hat0, q0, _, 0, 0, rfl, rfl, s14 _ _ hrow0, ixN_of (k := 0) (by decide) (by rw [List.length_map]; omega), ?_⟩
    have ow15 := ow14.set (r := (row0.map V.int).set 0 (.int (1 - row0.getD (Int.toNat 0) 0))) hq0
    have sC15 : Same HC (upd H14 q0 (.lst ((row0.map V.int).set 0 (.int (1 - row0.getD (Int.toNat 0) 0))))) := (s10.trans (s1013.trans s14)).updN (ow14.nq q0 hm0)
    have e15 : (rowsV (row0 :: brest)).set 0 ((row0.map V.int).set 0 (.int (1 - row0.getD (Int.toNat 0) 0))) = rowsV (row0.set 0 (1 - row0.getD (Int.toNat 0) 0) :: brest) := by
      unfold rowsV
      rw [List.map_cons, List.map_cons, List.set_cons_zero, List.map_set]
    rw [e15] at ow15
    have rl1 : ∀ rr ∈ row0.set 0 (1 - row0.getD (Int.toNat 0) 0) :: brest, rr.length = cs.length := fun rr hrr => by
      rcases List.mem_cons.mp hrr with rfl | h
      · rw [List.length_set]; exact l0
      · exact M.row rr (by simp [h])
    have bl1 : (row0.set 0 (1 - row0.getD (Int.toNat 0) 0) :: brest).length ≤ 6 := by have := M.len; have := M.h6; simp only [List.length_cons] at *; omega
    generalize row0.set 0 (1 - row0.getD (Int.toNat 0) 0) :: brest = b1 at *
    dsimp only
    refine goAppendAll (v := .int 9) ow15 sC15 (fun rr hrr => ?hlen) (fun Q hQ => ⟨_, rfl, hQ⟩) (by simp) (fun σ' H' Q hQ => hQ) fun σ' H16 hσ s16 k16 ow16 => ?hrest
    case hlen =>
      obtain ⟨r', hr', rfl⟩ := List.mem_map.mp hrr
      rw [List.length_map, rl1 r' hr']; omega
    obtain ⟨u, rfl⟩ : ∃ u, σ' = [some (.ref p0), some w1, some w2, some v3, some v4, some v5, some vp, some (.int k), some (.ref p), some v12, u] := by
      rcases hσ with rfl | ⟨x, rfl⟩
      · exact ⟨_, rfl⟩
      · exact ⟨_, rfl⟩
    have eb : ((rowsV b1).map fun rr => rr ++ [V.int 9]) = rowsV (b1.map fun rr => rr ++ [9]) := by
      unfold rowsV; rw [List.map_map, List.map_map]; congr 1; funext rr; simp
    rw [eb] at ow16
    have cl1 : ∀ rr ∈ b1.map (fun rr => rr ++ [(9 : Int)]), rr.length = cs.length + 1 := fun rr hrr => by
      obtain ⟨r', hr', rfl⟩ := List.mem_map.mp hrr
      rw [List.length_append, List.length_singleton, rl1 r' hr']
    have cll : (b1.map (fun rr => rr ++ [(9 : Int)])).length ≤ 1000 := by rw [List.length_map]; omega
    generalize b1.map (fun rr => rr ++ [(9 : Int)]) = c1 at *
    have sH16 : Same H' H16 := sHC.trans s16
    have sb16 := sbH.trans sH16
    have ev16 : EnvD K H16 [some (.ref p0), some w1, some w2, some v3, some v4, some v5, some vp, some (.int k), some (.ref p), some v12, u] [none, some (dI rs), some (dI cs), some (dII [rs, cs]), some (dIII (NM.brds rs cs)), none, none, some (.int k), some (dII c1), none, none] := ⟨rfl, fun j d hj => by
      match j, hj with
      | 0, hj => cases hj
      | 1, hj => cases hj; exact ⟨_, rfl, (dr.same s49).same sb16⟩
      | 2, hj => cases hj; exact ⟨_, rfl, (dc.same s49).same sb16⟩
      | 3, hj => cases hj; exact ⟨_, rfl, (d5.same ((s6.trans (s7.trans s8)).trans (s9.trans sa))).same sb16⟩
      | 4, hj => cases hj; exact ⟨_, rfl, (d6.same ((s7.trans s8).trans (s9.trans sa))).same sb16⟩
      | 5, hj => cases hj
      | 6, hj => cases hj
      | 7, hj => cases hj; exact ⟨_, rfl, .int _⟩
      | 8, hj => cases hj; exact ⟨_, rfl, ow16.data⟩
      | 9, hj => cases hj
      | 10, hj => cases hj⟩
    refine goIfN (b := false) ?hlast rfl ev16 fun H17 s17 => ?_
    case hlast =>
      refine (yb_test (y_gt (y_len (yn_compF (enc := dI) (as := c1) (y_var rfl) (fun rr => !decide ((rr.length : Int) = (cs.length : Int) + 1)) dI cll (fun rr hrr => yb_test (y_neI (y_lenX (y_var rfl)) (y_add (y_lenX (y_var rfl)) y_int))) fun rr _ _ => y_var rfl).y) y_int)).to ?_
      have e0 : (c1.filter fun rr => !decide ((rr.length : Int) = (cs.length : Int) + 1)) = [] := List.filter_eq_nil_iff.mpr fun rr hrr => by rw [cl1 rr hrr]; simp
      rw [e0]; rfl
    refine ((yb_test (y_eqD (neg := true) (d := dII (row0 :: brest)) (e := dII (row0 :: brest)) (y_board (ya_cons (hd0' rfl) (ya_cons (hd1' rfl) (ya_cons (y_var rfl) ya_nil))) hC kz0 hb) (y_ixL (ds := (NM.brds rs cs).map dII) (y_var rfl) (y_var rfl) hat) (shII _) (shII _))).to (c := false) (by rw [eqII]; simp) : YB K _ _ false) _ H17 _ (ev16.same s17) fun H18 s18 => iteF ?_
    exact ⟨_, _, _, _, rfl, (sH.trans sH16).trans (s17.trans s18)⟩
  · subst e
    have evf : EnvD K H' [some (.ref p0), some w1, some w2, some v3, some v4, some v5, some vp, x7, x8, x9, x10] [none, some (dI rs), some (dI cs), some (dII [rs, cs]), none, none, none, none, none, none, none] := ⟨rfl, fun j d hj => by
      match j, hj with
      | 0, hj => cases hj
      | 1, hj => cases hj; exact ⟨_, rfl, ((dr.same s49).same sb).same sH⟩
      | 2, hj => cases hj; exact ⟨_, rfl, ((dc.same s49).same sb).same sH⟩
      | 3, hj => cases hj; exact ⟨_, rfl, ((d5.same ((s6.trans (s7.trans s8)).trans (s9.trans sa))).same sb).same sH⟩
      | 4, hj => cases hj
      | 5, hj => cases hj
      | 6, hj => cases hj
      | 7, hj => cases hj
      | 8, hj => cases hj
      | 9, hj => cases hj
      | 10, hj => cases hj⟩
    refine goRet ((y_eqD (neg := false) (d := dII [rs, cs]) (e := dII [rs, cs]) (y_var rfl) (y_lst (ya_cons (y_var rfl) (ya_cons (y_var rfl) ya_nil))) (shII _) (shII _)).to (f := .bool true) (by rw [eqII]; simp)) evf fun v Hz sz dv => ?_
    rw [datBool dv]
    exact q Hz
end
theorem all_mk {l : PySem.W.OpenLaw} {w : World} {K : PySem.W.Frag} {h : Heap} {mg : Str → Option Value} {fa : Addr} (X : K.In h) (G : h.Ns mainGlobals mg) (hfa : mg "law" = some (.ref fa))
    {f0 f1 f2 f3 f4 f5 f6 f7 f8 f9 f10 f11 f12 f13 f14 f15 f16 f17 f18 f19 f20 f21 f22 f23 f24 f25 f26 c0 c1 c2 c3 : Addr}
    {od0 an0 od1 an1 od2 an2 od3 an3 od4 an4 od5 an5 od6 an6 od7 an7 od8 an8 od9 an9 od10 an10 od11 an11 od12 an12 od13 an13 od14 an14 od15 an15 od16 an16 od17 an17 od18 an18 od19 an19 od20 an20 od21 an21 od22 an22 od23 an23 od24 an24 od25 an25 od26 an26 : Option Addr} {sl0 sl1 sl2 sl3 sl4 sl5 sl6 sl7 sl8 sl9 sl10 sl11 sl12 sl13 sl14 sl15 sl16 sl17 sl18 sl19 sl20 sl21 sl22 sl23 sl24 sl25 sl26 : Array (Option Value)} {oc0 kV0 dc0 pm0 cd0 ct0 oc1 kV1 dc1 pm1 cd1 ct1 oc2 kV2 dc2 pm2 cd2 ct2 oc3 kV3 dc3 pm3 cd3 ct3 oc4 kV4 dc4 pm4 cd4 ct4 oc5 kV5 dc5 pm5 cd5 ct5 oc6 kV6 dc6 pm6 cd6 ct6 oc7 kV7 dc7 pm7 cd7 ct7 oc8 kV8 dc8 pm8 cd8 ct8 oc9 kV9 dc9 pm9 cd9 ct9 oc10 kV10 dc10 pm10 cd10 ct10 oc11 kV11 dc11 pm11 cd11 ct11 oc12 kV12 dc12 pm12 cd12 ct12 oc13 kV13 dc13 pm13 cd13 ct13 oc14 kV14 dc14 pm14 cd14 ct14 oc15 kV15 dc15 pm15 cd15 ct15 oc16 kV16 dc16 pm16 cd16 ct16 oc17 kV17 dc17 pm17 cd17 ct17 oc18 kV18 dc18 pm18 cd18 ct18 oc19 kV19 dc19 pm19 cd19 ct19 oc20 kV20 dc20 pm20 cd20 ct20 oc21 kV21 dc21 pm21 cd21 ct21 oc22 kV22 dc22 pm22 cd22 ct22 oc23 kV23 dc23 pm23 cd23 ct23 oc24 kV24 dc24 pm24 cd24 ct24 oc25 kV25 dc25 pm25 cd25 ct25 oc26 kV26 dc26 pm26 cd26 ct26 : Value}
    {t0 t1 : Tok}
    (a0 : PySem.W.nsIn K mainGlobals "is_sized" = some (some (.ref f0))) (l0 : K.lookup f0 = some ⟨oc0, od0, .func (PySem.W.fnOf "is_sized" "is_sized" (defArgs s_is_sized) (defBody s_is_sized) (defScope s_is_sized) .none kV0 dc0 pm0 an0 cd0 ct0), sl0⟩) (d0 : PySem.W.codeIn K cd0 "is_sized" = true) (k0 : PySem.W.keepIn K (.ref f0) = true)
    (a1 : PySem.W.nsIn K mainGlobals "is_row" = some (some (.ref f1))) (l1 : K.lookup f1 = some ⟨oc1, od1, .func (PySem.W.fnOf "is_row" "is_row" (defArgs s_is_row) (defBody s_is_row) (defScope s_is_row) .none kV1 dc1 pm1 an1 cd1 ct1), sl1⟩) (d1 : PySem.W.codeIn K cd1 "is_row" = true) (k1 : PySem.W.keepIn K (.ref f1) = true)
    (a2 : PySem.W.nsIn K mainGlobals "is_board" = some (some (.ref f2))) (l2 : K.lookup f2 = some ⟨oc2, od2, .func (PySem.W.fnOf "is_board" "is_board" (defArgs s_is_board) (defBody s_is_board) (defScope s_is_board) .none kV2 dc2 pm2 an2 cd2 ct2), sl2⟩) (d2 : PySem.W.codeIn K cd2 "is_board" = true) (k2 : PySem.W.keepIn K (.ref f2) = true)
    (a3 : PySem.W.nsIn K mainGlobals "are_within" = some (some (.ref f3))) (l3 : K.lookup f3 = some ⟨oc3, od3, .func (PySem.W.fnOf "are_within" "are_within" (defArgs s_are_within) (defBody s_are_within) (defScope s_are_within) .none kV3 dc3 pm3 an3 cd3 ct3), sl3⟩) (d3 : PySem.W.codeIn K cd3 "are_within" = true) (k3 : PySem.W.keepIn K (.ref f3) = true)
    (a4 : PySem.W.nsIn K mainGlobals "are_counts" = some (some (.ref f4))) (l4 : K.lookup f4 = some ⟨oc4, od4, .func (PySem.W.fnOf "are_counts" "are_counts" (defArgs s_are_counts) (defBody s_are_counts) (defScope s_are_counts) .none kV4 dc4 pm4 an4 cd4 ct4), sl4⟩) (d4 : PySem.W.codeIn K cd4 "are_counts" = true) (k4 : PySem.W.keepIn K (.ref f4) = true)
    (a5 : PySem.W.nsIn K mainGlobals "need_board" = some (some (.ref f5))) (l5 : K.lookup f5 = some ⟨oc5, od5, .func (PySem.W.fnOf "need_board" "need_board" (defArgs s_need_board) (defBody s_need_board) (defScope s_need_board) .none kV5 dc5 pm5 an5 cd5 ct5), sl5⟩) (d5 : PySem.W.codeIn K cd5 "need_board" = true) (k5 : PySem.W.keepIn K (.ref f5) = true)
    (a6 : PySem.W.nsIn K mainGlobals "need_counts" = some (some (.ref f6))) (l6 : K.lookup f6 = some ⟨oc6, od6, .func (PySem.W.fnOf "need_counts" "need_counts" (defArgs s_need_counts) (defBody s_need_counts) (defScope s_need_counts) .none kV6 dc6 pm6 an6 cd6 ct6), sl6⟩) (d6 : PySem.W.codeIn K cd6 "need_counts" = true) (k6 : PySem.W.keepIn K (.ref f6) = true)
    (a7 : PySem.W.nsIn K mainGlobals "marks_in_column" = some (some (.ref f7))) (l7 : K.lookup f7 = some ⟨oc7, od7, .func (PySem.W.fnOf "marks_in_column" "marks_in_column" (defArgs s_marks_in_column) (defBody s_marks_in_column) (defScope s_marks_in_column) .none kV7 dc7 pm7 an7 cd7 ct7), sl7⟩) (d7 : PySem.W.codeIn K cd7 "marks_in_column" = true) (k7 : PySem.W.keepIn K (.ref f7) = true)
    (a8 : PySem.W.nsIn K mainGlobals "counts" = some (some (.ref f8))) (l8 : K.lookup f8 = some ⟨oc8, od8, .func (PySem.W.fnOf "counts" "counts" (defArgs s_counts) (defBody s_counts) (defScope s_counts) .none kV8 dc8 pm8 an8 cd8 ct8), sl8⟩) (d8 : PySem.W.codeIn K cd8 "counts" = true) (k8 : PySem.W.keepIn K (.ref f8) = true)
    (a9 : PySem.W.nsIn K mainGlobals "columns_behind" = some (some (.ref f9))) (l9 : K.lookup f9 = some ⟨oc9, od9, .func (PySem.W.fnOf "columns_behind" "columns_behind" (defArgs s_columns_behind) (defBody s_columns_behind) (defScope s_columns_behind) .none kV9 dc9 pm9 an9 cd9 ct9), sl9⟩) (d9 : PySem.W.codeIn K cd9 "columns_behind" = true) (k9 : PySem.W.keepIn K (.ref f9) = true)
    (a10 : PySem.W.nsIn K mainGlobals "row_choices" = some (some (.ref f10))) (l10 : K.lookup f10 = some ⟨oc10, od10, .func (PySem.W.fnOf "row_choices" "row_choices" (defArgs s_row_choices) (defBody s_row_choices) (defScope s_row_choices) .none kV10 dc10 pm10 an10 cd10 ct10), sl10⟩) (d10 : PySem.W.codeIn K cd10 "row_choices" = true) (k10 : PySem.W.keepIn K (.ref f10) = true)
    (a11 : PySem.W.nsIn K mainGlobals "boards_left" = some (some (.ref f11))) (l11 : K.lookup f11 = some ⟨oc11, od11, .func (PySem.W.fnOf "boards_left" "boards_left" (defArgs s_boards_left) (defBody s_boards_left) (defScope s_boards_left) .none kV11 dc11 pm11 an11 cd11 ct11), sl11⟩) (d11 : PySem.W.codeIn K cd11 "boards_left" = true) (k11 : PySem.W.keepIn K (.ref f11) = true)
    (a12 : PySem.W.nsIn K mainGlobals "many" = some (some (.ref f12))) (l12 : K.lookup f12 = some ⟨oc12, od12, .func (PySem.W.fnOf "many" "many" (defArgs s_many) (defBody s_many) (defScope s_many) .none kV12 dc12 pm12 an12 cd12 ct12), sl12⟩) (d12 : PySem.W.codeIn K cd12 "many" = true) (k12 : PySem.W.keepIn K (.ref f12) = true)
    (a13 : PySem.W.nsIn K mainGlobals "rows_at" = some (some (.ref f13))) (l13 : K.lookup f13 = some ⟨oc13, od13, .func (PySem.W.fnOf "rows_at" "rows_at" (defArgs s_rows_at) (defBody s_rows_at) (defScope s_rows_at) .none kV13 dc13 pm13 an13 cd13 ct13), sl13⟩) (d13 : PySem.W.codeIn K cd13 "rows_at" = true) (k13 : PySem.W.keepIn K (.ref f13) = true)
    (a14 : PySem.W.nsIn K mainGlobals "board_at" = some (some (.ref f14))) (l14 : K.lookup f14 = some ⟨oc14, od14, .func (PySem.W.fnOf "board_at" "board_at" (defArgs s_board_at) (defBody s_board_at) (defScope s_board_at) .none kV14 dc14 pm14 an14 cd14 ct14), sl14⟩) (d14 : PySem.W.codeIn K cd14 "board_at" = true) (k14 : PySem.W.keepIn K (.ref f14) = true)
    (a15 : PySem.W.nsIn K mainGlobals "number_of" = some (some (.ref f15))) (l15 : K.lookup f15 = some ⟨oc15, od15, .func (PySem.W.fnOf "number_of" "number_of" (defArgs s_number_of) (defBody s_number_of) (defScope s_number_of) .none kV15 dc15 pm15 an15 cd15 ct15), sl15⟩) (d15 : PySem.W.codeIn K cd15 "number_of" = true) (k15 : PySem.W.keepIn K (.ref f15) = true)
    (a16 : PySem.W.nsIn K mainGlobals "_law_cell_at" = some (some (.ref f16))) (l16 : K.lookup f16 = some ⟨oc16, od16, .func (PySem.W.fnOf "_law_cell_at" "_law_cell_at" (defArgs s__law_cell_at) (defBody s__law_cell_at) (defScope s__law_cell_at) .none kV16 dc16 pm16 an16 cd16 ct16), sl16⟩) (d16 : PySem.W.codeIn K cd16 "_law_cell_at" = true) (k16 : PySem.W.keepIn K (.ref f16) = true)
    (a17 : PySem.W.nsIn K mainGlobals "_law_whole" = some (some (.ref f17))) (l17 : K.lookup f17 = some ⟨oc17, od17, .func (PySem.W.fnOf "_law_whole" "_law_whole" (defArgs s__law_whole) (defBody s__law_whole) (defScope s__law_whole) .none kV17 dc17 pm17 an17 cd17 ct17), sl17⟩) (d17 : PySem.W.codeIn K cd17 "_law_whole" = true) (k17 : PySem.W.keepIn K (.ref f17) = true)
    (a18 : PySem.W.nsIn K mainGlobals "_law_bits" = some (some (.ref f18))) (l18 : K.lookup f18 = some ⟨oc18, od18, .func (PySem.W.fnOf "_law_bits" "_law_bits" (defArgs s__law_bits) (defBody s__law_bits) (defScope s__law_bits) .none kV18 dc18 pm18 an18 cd18 ct18), sl18⟩) (d18 : PySem.W.codeIn K cd18 "_law_bits" = true) (k18 : PySem.W.keepIn K (.ref f18) = true)
    (a19 : PySem.W.nsIn K mainGlobals "_law_board_by" = some (some (.ref f19))) (l19 : K.lookup f19 = some ⟨oc19, od19, .func (PySem.W.fnOf "_law_board_by" "_law_board_by" (defArgs s__law_board_by) (defBody s__law_board_by) (defScope s__law_board_by) .none kV19 dc19 pm19 an19 cd19 ct19), sl19⟩) (d19 : PySem.W.codeIn K cd19 "_law_board_by" = true) (k19 : PySem.W.keepIn K (.ref f19) = true)
    (a20 : PySem.W.nsIn K mainGlobals "_law_counts" = some (some (.ref f20))) (l20 : K.lookup f20 = some ⟨oc20, od20, .func (PySem.W.fnOf "_law_counts" "_law_counts" (defArgs s__law_counts) (defBody s__law_counts) (defScope s__law_counts) .none kV20 dc20 pm20 an20 cd20 ct20), sl20⟩) (d20 : PySem.W.codeIn K cd20 "_law_counts" = true) (k20 : PySem.W.keepIn K (.ref f20) = true)
    (a21 : PySem.W.nsIn K mainGlobals "_law_near_by" = some (some (.ref f21))) (l21 : K.lookup f21 = some ⟨oc21, od21, .func (PySem.W.fnOf "_law_near_by" "_law_near_by" (defArgs s__law_near_by) (defBody s__law_near_by) (defScope s__law_near_by) .none kV21 dc21 pm21 an21 cd21 ct21), sl21⟩) (d21 : PySem.W.codeIn K cd21 "_law_near_by" = true) (k21 : PySem.W.keepIn K (.ref f21) = true)
    (a22 : PySem.W.nsIn K mainGlobals "_law_is_board" = some (some (.ref f22))) (l22 : K.lookup f22 = some ⟨oc22, od22, .func (PySem.W.fnOf "_law_is_board" "_law_is_board" (defArgs s__law_is_board) (defBody s__law_is_board) (defScope s__law_is_board) .none kV22 dc22 pm22 an22 cd22 ct22), sl22⟩) (d22 : PySem.W.codeIn K cd22 "_law_is_board" = true) (k22 : PySem.W.keepIn K (.ref f22) = true)
    (a23 : PySem.W.nsIn K mainGlobals "_law_every_row" = some (some (.ref f23))) (l23 : K.lookup f23 = some ⟨oc23, od23, .func (PySem.W.fnOf "_law_every_row" "_law_every_row" (defArgs s__law_every_row) (defBody s__law_every_row) (defScope s__law_every_row) .none kV23 dc23 pm23 an23 cd23 ct23), sl23⟩) (d23 : PySem.W.codeIn K cd23 "_law_every_row" = true) (k23 : PySem.W.keepIn K (.ref f23) = true)
    (a24 : PySem.W.nsIn K mainGlobals "_law_all" = some (some (.ref f24))) (l24 : K.lookup f24 = some ⟨oc24, od24, .func (PySem.W.fnOf "_law_all" "_law_all" (defArgs s__law_all) (defBody s__law_all) (defScope s__law_all) .none kV24 dc24 pm24 an24 cd24 ct24), sl24⟩) (d24 : PySem.W.codeIn K cd24 "_law_all" = true) (k24 : PySem.W.keepIn K (.ref f24) = true)
    (a25 : PySem.W.nsIn K mainGlobals "_law_more" = some (some (.ref f25))) (l25 : K.lookup f25 = some ⟨oc25, od25, .func (PySem.W.fnOf "_law_more" "_law_more" (defArgs s__law_more) (defBody s__law_more) (defScope s__law_more) .none kV25 dc25 pm25 an25 cd25 ct25), sl25⟩) (d25 : PySem.W.codeIn K cd25 "_law_more" = true) (k25 : PySem.W.keepIn K (.ref f25) = true)
    (a26 : PySem.W.nsIn K mainGlobals "law" = some (some (.ref f26))) (l26 : K.lookup f26 = some ⟨oc26, od26, .func (PySem.W.fnOf "law" "law" (defArgs s_law) (defBody s_law) (defScope s_law) .none kV26 dc26 pm26 an26 cd26 ct26), sl26⟩) (d26 : PySem.W.codeIn K cd26 "law" = true) (k26 : PySem.W.keepIn K (.ref f26) = true)
    (g0 : PySem.W.nsIn K mainGlobals "LEAST_SIZE" = some (some (.int 1 t0)))
    (g1 : PySem.W.nsIn K mainGlobals "MOST_SIZE" = some (some (.int 6 t1)))
    (z0 : PySem.W.nsIn K mainGlobals "len" = some none)
    (z1 : PySem.W.nsIn K mainGlobals "all" = some none)
    (z2 : PySem.W.nsIn K mainGlobals "sum" = some none)
    (z3 : PySem.W.nsIn K mainGlobals "range" = some none)
    (z4 : PySem.W.nsIn K mainGlobals "zip" = some none)
    (z5 : PySem.W.nsIn K mainGlobals "min" = some none)
    (z6 : PySem.W.nsIn K mainGlobals "tuple" = some none)
    (z7 : PySem.W.nsIn K mainGlobals "sorted" = some none)
    (z8 : PySem.W.nsIn K mainGlobals "max" = some none)
    (z9 : PySem.W.nsIn K mainGlobals "enumerate" = some none)
    (z10 : PySem.W.nsIn K mainGlobals "isinstance" = some none)
    (z11 : PySem.W.nsIn K mainGlobals "int" = some none)
    (z12 : PySem.W.nsIn K mainGlobals "bool" = some none)
    (z13 : PySem.W.nsIn K mainGlobals "list" = some none)
    (e0 : PySem.W.nsIn K mainGlobals "MarkError" = some (some (.ref c0))) (x0 : PySem.W.excIn K c0 bmV "ValueError.__new__" = true) (m0 : mroAt K c0 = some (.ref c0 :: bmV))
    (e1 : PySem.W.nsIn K mainGlobals "NoBoard" = some (some (.ref c1))) (x1 : PySem.W.excIn K c1 bmV "ValueError.__new__" = true) (m1 : mroAt K c1 = some (.ref c1 :: .ref c0 :: bmV))
    (e2 : PySem.W.nsIn K mainGlobals "NoCounts" = some (some (.ref c2))) (x2 : PySem.W.excIn K c2 bmV "ValueError.__new__" = true) (m2 : mroAt K c2 = some (.ref c2 :: .ref c0 :: bmV))
    (e3 : PySem.W.nsIn K mainGlobals "NoNumber" = some (some (.ref c3))) (x3 : PySem.W.excIn K c3 bmV "ValueError.__new__" = true) (m3 : mroAt K c3 = some (.ref c3 :: .ref c0 :: bmV))
    (kb : [c1, c2, c3].all (kitB K) = true)
    (y1 : [c1, c2, c3].map (fun d => PySem.W.kitOne K (.ref c1) (.ref d)) = [some true, some false, some false]) (v1 : PySem.W.kitOne K (.ref c1) (.type "ValueError") = some true)
    (y2 : [c1, c2, c3].map (fun d => PySem.W.kitOne K (.ref c2) (.ref d)) = [some false, some true, some false]) (v2 : PySem.W.kitOne K (.ref c2) (.type "ValueError") = some true)
    (y3 : [c1, c2, c3].map (fun d => PySem.W.kitOne K (.ref c3) (.ref d)) = [some false, some false, some true]) (v3 : PySem.W.kitOne K (.ref c3) (.type "ValueError") = some true)
    : ∃ fd : FuncData, (∀ (s : Shared) (v : Value), BindsTo s fd ⟨[v], []⟩ [("script", v)]) ∧ ∀ base : Heap, K.In base → base.Ns mainGlobals mg → FnOk l.prog w K mg base CX0 27 fa fd ["script"] (sp_law K) := by
  have e := hfa.symm.trans (PySem.W.mg_of X G a26)
  cases e
  have F0 := fun_mk (st := s_is_sized) l0 d0 k0
  have b0 := F0.binds (ps := ["things"]) fun _ _ _ _ _ _ us hl => match us, hl with | [_], _ => rfl
  have F1 := fun_mk (st := s_is_row) l1 d1 k1
  have b1 := F1.binds (ps := ["row", "width"]) fun _ _ _ _ _ _ us hl => match us, hl with | [_, _], _ => rfl
  have F2 := fun_mk (st := s_is_board) l2 d2 k2
  have b2 := F2.binds (ps := ["board"]) fun _ _ _ _ _ _ us hl => match us, hl with | [_], _ => rfl
  have F3 := fun_mk (st := s_are_within) l3 d3 k3
  have b3 := F3.binds (ps := ["numbers", "most"]) fun _ _ _ _ _ _ us hl => match us, hl with | [_, _], _ => rfl
  have F4 := fun_mk (st := s_are_counts) l4 d4 k4
  have b4 := F4.binds (ps := ["rows", "columns"]) fun _ _ _ _ _ _ us hl => match us, hl with | [_, _], _ => rfl
  have F5 := fun_mk (st := s_need_board) l5 d5 k5
  have b5 := F5.binds (ps := ["board"]) fun _ _ _ _ _ _ us hl => match us, hl with | [_], _ => rfl
  have F6 := fun_mk (st := s_need_counts) l6 d6 k6
  have b6 := F6.binds (ps := ["rows", "columns"]) fun _ _ _ _ _ _ us hl => match us, hl with | [_, _], _ => rfl
  have F7 := fun_mk (st := s_marks_in_column) l7 d7 k7
  have b7 := F7.binds (ps := ["board", "column"]) fun _ _ _ _ _ _ us hl => match us, hl with | [_, _], _ => rfl
  have F8 := fun_mk (st := s_counts) l8 d8 k8
  have b8 := F8.binds (ps := ["board"]) fun _ _ _ _ _ _ us hl => match us, hl with | [_], _ => rfl
  have F9 := fun_mk (st := s_columns_behind) l9 d9 k9
  have b9 := F9.binds (ps := ["columns", "row"]) fun _ _ _ _ _ _ us hl => match us, hl with | [_, _], _ => rfl
  have F10 := fun_mk (st := s_row_choices) l10 d10 k10
  have b10 := F10.binds (ps := ["width", "marks"]) fun _ _ _ _ _ _ us hl => match us, hl with | [_, _], _ => rfl
  have F11 := fun_mk (st := s_boards_left) l11 d11 k11
  have b11 := F11.binds (ps := ["rows", "columns", "known"]) fun _ _ _ _ _ _ us hl => match us, hl with | [_, _, _], _ => rfl
  have F12 := fun_mk (st := s_many) l12 d12 k12
  have b12 := F12.binds (ps := ["rows", "columns"]) fun _ _ _ _ _ _ us hl => match us, hl with | [_, _], _ => rfl
  have F13 := fun_mk (st := s_rows_at) l13 d13 k13
  have b13 := F13.binds (ps := ["rows", "columns", "number", "known"]) fun _ _ _ _ _ _ us hl => match us, hl with | [_, _, _, _], _ => rfl
  have F14 := fun_mk (st := s_board_at) l14 d14 k14
  have b14 := F14.binds (ps := ["rows", "columns", "number"]) fun _ _ _ _ _ _ us hl => match us, hl with | [_, _, _], _ => rfl
  have F15 := fun_mk (st := s_number_of) l15 d15 k15
  have b15 := F15.binds (ps := ["board"]) fun _ _ _ _ _ _ us hl => match us, hl with | [_], _ => rfl
  have F16 := fun_mk (st := s__law_cell_at) l16 d16 k16
  have b16 := F16.binds (ps := ["script", "k"]) fun _ _ _ _ _ _ us hl => match us, hl with | [_, _], _ => rfl
  have F17 := fun_mk (st := s__law_whole) l17 d17 k17
  have b17 := F17.binds (ps := ["found"]) fun _ _ _ _ _ _ us hl => match us, hl with | [_], _ => rfl
  have F18 := fun_mk (st := s__law_bits) l18 d18 k18
  have b18 := F18.binds (ps := ["cell", "size"]) fun _ _ _ _ _ _ us hl => match us, hl with | [_, _], _ => rfl
  have F19 := fun_mk (st := s__law_board_by) l19 d19 k19
  have b19 := F19.binds (ps := ["script", "at", "most"]) fun _ _ _ _ _ _ us hl => match us, hl with | [_, _, _], _ => rfl
  have F20 := fun_mk (st := s__law_counts) l20 d20 k20
  have b20 := F20.binds (ps := ["board"]) fun _ _ _ _ _ _ us hl => match us, hl with | [_], _ => rfl
  have F21 := fun_mk (st := s__law_near_by) l21 d21 k21
  have b21 := F21.binds (ps := ["script", "at", "most"]) fun _ _ _ _ _ _ us hl => match us, hl with | [_, _, _], _ => rfl
  have F22 := fun_mk (st := s__law_is_board) l22 d22 k22
  have b22 := F22.binds (ps := ["board"]) fun _ _ _ _ _ _ us hl => match us, hl with | [_], _ => rfl
  have F23 := fun_mk (st := s__law_every_row) l23 d23 k23
  have b23 := F23.binds (ps := ["size"]) fun _ _ _ _ _ _ us hl => match us, hl with | [_], _ => rfl
  have F24 := fun_mk (st := s__law_all) l24 d24 k24
  have b24 := F24.binds (ps := ["rows", "columns"]) fun _ _ _ _ _ _ us hl => match us, hl with | [_, _], _ => rfl
  have F25 := fun_mk (st := s__law_more) l25 d25 k25
  have b25 := F25.binds (ps := ["board", "row", "columns"]) fun _ _ _ _ _ _ us hl => match us, hl with | [_, _, _], _ => rfl
  have F26 := fun_mk (st := s_law) l26 d26 k26
  have b26 := F26.binds (ps := ["script"]) fun _ _ _ _ _ _ us hl => match us, hl with | [_], _ => rfl
  have T : Tx K mg ⟨f0, _, f1, _, f2, _, f3, _, f4, _, f5, _, f6, _, f7, _, f8, _, f9, _, f10, _, f11, _, f12, _, f13, _, f14, _, f15, _, f16, _, f17, _, f18, _, f19, _, f20, _, f21, _, f22, _, f23, _, f24, _, f25, _, fa, _, c0, c1, c2, c3⟩ := ⟨F0, PySem.W.mg_of X G a0, b0, F1, PySem.W.mg_of X G a1, b1, F2, PySem.W.mg_of X G a2, b2, F3, PySem.W.mg_of X G a3, b3, F4, PySem.W.mg_of X G a4, b4, F5, PySem.W.mg_of X G a5, b5, F6, PySem.W.mg_of X G a6, b6, F7, PySem.W.mg_of X G a7, b7, F8, PySem.W.mg_of X G a8, b8, F9, PySem.W.mg_of X G a9, b9, F10, PySem.W.mg_of X G a10, b10, F11, PySem.W.mg_of X G a11, b11, F12, PySem.W.mg_of X G a12, b12, F13, PySem.W.mg_of X G a13, b13, F14, PySem.W.mg_of X G a14, b14, F15, PySem.W.mg_of X G a15, b15, F16, PySem.W.mg_of X G a16, b16, F17, PySem.W.mg_of X G a17, b17, F18, PySem.W.mg_of X G a18, b18, F19, PySem.W.mg_of X G a19, b19, F20, PySem.W.mg_of X G a20, b20, F21, PySem.W.mg_of X G a21, b21, F22, PySem.W.mg_of X G a22, b22, F23, PySem.W.mg_of X G a23, b23, F24, PySem.W.mg_of X G a24, b24, F25, PySem.W.mg_of X G a25, b25, F26, PySem.W.mg_of X G a26, b26, ⟨t0, PySem.W.mg_of X G g0⟩, ⟨t1, PySem.W.mg_of X G g1⟩, PySem.W.mg_none_of X G z0, PySem.W.mg_none_of X G z1, PySem.W.mg_none_of X G z2, PySem.W.mg_none_of X G z3, PySem.W.mg_none_of X G z4, PySem.W.mg_none_of X G z5, PySem.W.mg_none_of X G z6, PySem.W.mg_none_of X G z7, PySem.W.mg_none_of X G z8, PySem.W.mg_none_of X G z9, PySem.W.mg_none_of X G z10, PySem.W.mg_none_of X G z11, PySem.W.mg_none_of X G z12, PySem.W.mg_none_of X G z13, PySem.W.mg_of X G e0, PySem.W.mg_of X G e1, PySem.W.mg_of X G e2, PySem.W.mg_of X G e3, excCls_of X x0 m0, excCls_of X x1 m1, excCls_of X x2 m2, excCls_of X x3 m3, fun c hc => kit_of (List.all_eq_true.mp kb c hc), y1, v1, y2, v2, y3, v3⟩
  exact ⟨_, fun s v => .of_eq rfl, fun base _ _ => ok_law T⟩
theorem walk {l : PySem.W.OpenLaw} {q : Program} {loose : List Str} {XP : (Str → Option Value) → Heap → Prop} {YP : World → Heap → Prop} {d : DefRec} {K : Params → PySem.W.Frag} (hn : l.most = some 63) (hdf : d.params.defaults = [])
    (hY : ∀ (w : World) (h : Heap), YP w h → (K w.params).In h)
    (F : ∀ (w : World) (mg : Str → Option Value) (fa : Addr) (h : Heap), (K w.params).In h → h.Ns mainGlobals mg → mg d.name = some (.ref fa) →
      ∃ fd : FuncData, (∀ (s : Shared) (u : Value), BindsTo s fd ⟨[u], []⟩ [("script", u)]) ∧ ∀ base : Heap, (K w.params).In base → base.Ns mainGlobals mg → FnOk l.prog w (K w.params) mg base CX0 27 fa fd ["script"] (sp_law (K w.params))) :
    PySem.W.WalkO q loose XP YP l.row.toRowW d [] (fun f vs => PySem.call f vs) :=
  L2.walk_of (n := 63) (k := 27) (x := "script") (CX := fun _ => CX0) (sp := fun w => sp_law (K w.params)) hn (by decide) hdf ⟨rfl, by decide, by decide⟩ hY F (fun _ _ a ns hl _ hS => ⟨a, ns, rfl, hS, fun _ => rfl⟩) fun _ _ _ _ _ z => z
end K04
open PySem PySem.W PyProof.Rows
set_option maxRecDepth 100000 in
set_option maxHeartbeats 0 in
theorem PySem.Challenge.cw_markcounts_k04_whole_boards_counted_holds : PySem.Challenge.rw_markcounts_k04_whole_boards_counted.Holds := by
  w_on; o_law; k_head; (case hw => w_witness2)
  k_fill
  refine K04.walk (l := PySem.Challenge.rw_markcounts_k04_whole_boards_counted) rfl rfl (fun w h Y => by first | exact PySem.W.kIn_of Y | exact PySem.W.km_in_of Y) ?F
  case F =>
    intro w mg fa h KX G hmg
    refine' K04.all_mk KX G hmg ?pm_a0 ?pm_l0 ?pm_d0 ?pm_k0 ?pm_a1 ?pm_l1 ?pm_d1 ?pm_k1 ?pm_a2 ?pm_l2 ?pm_d2 ?pm_k2 ?pm_a3 ?pm_l3 ?pm_d3 ?pm_k3 ?pm_a4 ?pm_l4 ?pm_d4 ?pm_k4 ?pm_a5 ?pm_l5 ?pm_d5 ?pm_k5 ?pm_a6 ?pm_l6 ?pm_d6 ?pm_k6 ?pm_a7 ?pm_l7 ?pm_d7 ?pm_k7 ?pm_a8 ?pm_l8 ?pm_d8 ?pm_k8 ?pm_a9 ?pm_l9 ?pm_d9 ?pm_k9 ?pm_a10 ?pm_l10 ?pm_d10 ?pm_k10 ?pm_a11 ?pm_l11 ?pm_d11 ?pm_k11 ?pm_a12 ?pm_l12 ?pm_d12 ?pm_k12 ?pm_a13 ?pm_l13 ?pm_d13 ?pm_k13 ?pm_a14 ?pm_l14 ?pm_d14 ?pm_k14 ?pm_a15 ?pm_l15 ?pm_d15 ?pm_k15 ?pm_a16 ?pm_l16 ?pm_d16 ?pm_k16 ?pm_a17 ?pm_l17 ?pm_d17 ?pm_k17 ?pm_a18 ?pm_l18 ?pm_d18 ?pm_k18 ?pm_a19 ?pm_l19 ?pm_d19 ?pm_k19 ?pm_a20 ?pm_l20 ?pm_d20 ?pm_k20 ?pm_a21 ?pm_l21 ?pm_d21 ?pm_k21 ?pm_a22 ?pm_l22 ?pm_d22 ?pm_k22 ?pm_a23 ?pm_l23 ?pm_d23 ?pm_k23 ?pm_a24 ?pm_l24 ?pm_d24 ?pm_k24 ?pm_a25 ?pm_l25 ?pm_d25 ?pm_k25 ?pm_a26 ?pm_l26 ?pm_d26 ?pm_k26 ?pm_g0 ?pm_g1 ?pm_z0 ?pm_z1 ?pm_z2 ?pm_z3 ?pm_z4 ?pm_z5 ?pm_z6 ?pm_z7 ?pm_z8 ?pm_z9 ?pm_z10 ?pm_z11 ?pm_z12 ?pm_z13 ?pm_e0 ?pm_x0 ?pm_m0 ?pm_e1 ?pm_x1 ?pm_m1 ?pm_e2 ?pm_x2 ?pm_m2 ?pm_e3 ?pm_x3 ?pm_m3 ?pm_kb ?pm_y1 ?pm_v1 ?pm_y2 ?pm_v2 ?pm_y3 ?pm_v3
    (case pm_a0 => k_is)
    (case pm_l0 => k_is)
    (case pm_d0 => k_is)
    (case pm_k0 => k_is)
    (case pm_a1 => k_is)
    (case pm_l1 => k_is)
    (case pm_d1 => k_is)
    (case pm_k1 => k_is)
    (case pm_a2 => k_is)
    (case pm_l2 => k_is)
    (case pm_d2 => k_is)
    (case pm_k2 => k_is)
    (case pm_a3 => k_is)
    (case pm_l3 => k_is)
    (case pm_d3 => k_is)
    (case pm_k3 => k_is)
    (case pm_a4 => k_is)
    (case pm_l4 => k_is)
    (case pm_d4 => k_is)
    (case pm_k4 => k_is)
    (case pm_a5 => k_is)
    (case pm_l5 => k_is)
    (case pm_d5 => k_is)
    (case pm_k5 => k_is)
    (case pm_a6 => k_is)
    (case pm_l6 => k_is)
    (case pm_d6 => k_is)
    (case pm_k6 => k_is)
    (case pm_a7 => k_is)
    (case pm_l7 => k_is)
    (case pm_d7 => k_is)
    (case pm_k7 => k_is)
    (case pm_a8 => k_is)
    (case pm_l8 => k_is)
    (case pm_d8 => k_is)
    (case pm_k8 => k_is)
    (case pm_a9 => k_is)
    (case pm_l9 => k_is)
    (case pm_d9 => k_is)
    (case pm_k9 => k_is)
    (case pm_a10 => k_is)
    (case pm_l10 => k_is)
    (case pm_d10 => k_is)
    (case pm_k10 => k_is)
    (case pm_a11 => k_is)
    (case pm_l11 => k_is)
    (case pm_d11 => k_is)
    (case pm_k11 => k_is)
    (case pm_a12 => k_is)
    (case pm_l12 => k_is)
    (case pm_d12 => k_is)
    (case pm_k12 => k_is)
    (case pm_a13 => k_is)
    (case pm_l13 => k_is)
    (case pm_d13 => k_is)
    (case pm_k13 => k_is)
    (case pm_a14 => k_is)
    (case pm_l14 => k_is)
    (case pm_d14 => k_is)
    (case pm_k14 => k_is)
    (case pm_a15 => k_is)
    (case pm_l15 => k_is)
    (case pm_d15 => k_is)
    (case pm_k15 => k_is)
    (case pm_a16 => k_is)
    (case pm_l16 => k_is)
    (case pm_d16 => k_is)
    (case pm_k16 => k_is)
    (case pm_a17 => k_is)
    (case pm_l17 => k_is)
    (case pm_d17 => k_is)
    (case pm_k17 => k_is)
    (case pm_a18 => k_is)
    (case pm_l18 => k_is)
    (case pm_d18 => k_is)
    (case pm_k18 => k_is)
    (case pm_a19 => k_is)
    (case pm_l19 => k_is)
    (case pm_d19 => k_is)
    (case pm_k19 => k_is)
    (case pm_a20 => k_is)
    (case pm_l20 => k_is)
    (case pm_d20 => k_is)
    (case pm_k20 => k_is)
    (case pm_a21 => k_is)
    (case pm_l21 => k_is)
    (case pm_d21 => k_is)
    (case pm_k21 => k_is)
    (case pm_a22 => k_is)
    (case pm_l22 => k_is)
    (case pm_d22 => k_is)
    (case pm_k22 => k_is)
    (case pm_a23 => k_is)
    (case pm_l23 => k_is)
    (case pm_d23 => k_is)
    (case pm_k23 => k_is)
    (case pm_a24 => k_is)
    (case pm_l24 => k_is)
    (case pm_d24 => k_is)
    (case pm_k24 => k_is)
    (case pm_a25 => k_is)
    (case pm_l25 => k_is)
    (case pm_d25 => k_is)
    (case pm_k25 => k_is)
    (case pm_a26 => k_is)
    (case pm_l26 => k_is)
    (case pm_d26 => k_is)
    (case pm_k26 => k_is)
    (case pm_g0 => k_is)
    (case pm_g1 => k_is)
    (case pm_z0 => k_is)
    (case pm_z1 => k_is)
    (case pm_z2 => k_is)
    (case pm_z3 => k_is)
    (case pm_z4 => k_is)
    (case pm_z5 => k_is)
    (case pm_z6 => k_is)
    (case pm_z7 => k_is)
    (case pm_z8 => k_is)
    (case pm_z9 => k_is)
    (case pm_z10 => k_is)
    (case pm_z11 => k_is)
    (case pm_z12 => k_is)
    (case pm_z13 => k_is)
    (case pm_e0 => k_is)
    (case pm_e1 => k_is)
    (case pm_e2 => k_is)
    (case pm_e3 => k_is)
    (case pm_x0 => kernel_rfl)
    (case pm_m0 => kernel_rfl)
    (case pm_x1 => kernel_rfl)
    (case pm_m1 => kernel_rfl)
    (case pm_x2 => kernel_rfl)
    (case pm_m2 => kernel_rfl)
    (case pm_x3 => kernel_rfl)
    (case pm_m3 => kernel_rfl)
    (case pm_kb => kernel_rfl)
    (case pm_y1 => kernel_rfl)
    (case pm_v1 => kernel_rfl)
    (case pm_y2 => kernel_rfl)
    (case pm_v2 => kernel_rfl)
    (case pm_y3 => kernel_rfl)
    (case pm_v3 => kernel_rfl)
#print axioms PySem.Challenge.cw_markcounts_k04_whole_boards_counted_holds

