import PyProof.Rows.All
import Wide.All
import OpenK.AllK
import Wide.FinOn
import Lean
import PyProof.EqAt
import PyProof.EqKinds
import PyProof.TupleCall
import PyProof.Rows.SortStr
import PyProof.DictRoadsH
import PyProof.DictIter
import PyProof.RaisesDict
import PyProof.WalksEnum
import PyProof.EnumMake
import PyProof.P3In
import PyProof.FString5
import PyProof.MinMaxWalk
import PyProof.Rows.SeqMore
import PyProof.Rows.CountFlat
import PyProof.Rows.TupDisplay
import PyProof.DictTable
import PyProof.ConsumeWalk
import PyProof.Rows.SortRuns
import PyProof.Rows.SortShell
import PyProof.FactsAll.list_1
import PyProof.FactsAll.list_2
import KE.KSortKey
import PyProof.StrCalls
import PyProof.StrBlockI
import PyProof.StrBlockH
import PyProof.SliceStr2
import PyProof.StrLoop
import PyProof.StrWalks
import PyProof.Rows.Range3
import PyProof.CollectIter
import PyProof.DictWalks
import KE.KSortTup
import PyProof.AttrMissHeap
import KE.KDictOf
import PySem.Challenge.RW_linesaid_k45_joined
set_option Elab.async false
set_option linter.all false
set_option maxRecDepth 100000
/-! THE HAND LAYER, for ints, bools, texts, own classes, LISTS and tuples (index, slices, in, append, pop ..), calls, loops. Paste it whole ahead of your own text; what your proof does not reach may be deleted. -/
namespace L2
open PySem PySem.Spec PyProof.Rows

/-- a key: an int or a str -/
abbrev Key := Sum Int Str
def keyIs : Key → Value → Bool
  | .inl k, v => Value.isInt k v
  | .inr x, v => Value.isStrOf x v
def keyH (w : World) : Key → Int
  | .inl k => hashInt k
  | .inr x => hashStr w x
theorem keyIs_shape : ∀ {k : Key} {v : Value}, keyIs k v = true → (∃ i t, k = Sum.inl i ∧ v = Value.int i t) ∨ (∃ x t, k = Sum.inr x ∧ v = Value.str x t)
  | .inl i, v, h => by
    obtain ⟨t, e⟩ := Value.isInt_shape (k := i) (v := v) h
    exact .inl ⟨i, t, rfl, e⟩
  | .inr x, v, h => by
    obtain ⟨t, e⟩ := Value.isStrOf_shape (x := x) (v := v) h
    exact .inr ⟨x, t, rfl, e⟩
theorem keyIs_int (i : Int) (t : Tok) : keyIs (.inl i) (.int i t) = true := by simp [keyIs, Value.isInt]
theorem keyIs_str (x : Str) (t : Tok) : keyIs (.inr x) (.str x t) = true := by simp [keyIs, Value.isStrOf]
theorem key_ll (a b : Int) : decide ((Sum.inl a : Key) = Sum.inl b) = (a == b) := by
  by_cases e : a = b
  · subst e; simp
  · have h : ¬ (Sum.inl a : Key) = Sum.inl b := fun q => e (Sum.inl.inj q)
    rw [decide_eq_false h]
    exact (beq_eq_false_iff_ne.mpr e).symm
theorem key_rr (a b : Str) : decide ((Sum.inr a : Key) = Sum.inr b) = decide (a = b) := by
  by_cases e : a = b
  · subst e; simp
  · have h : ¬ (Sum.inr a : Key) = Sum.inr b := fun q => e (Sum.inr.inj q)
    rw [decide_eq_false h, decide_eq_false e]
theorem key_lr (a : Int) (b : Str) : decide ((Sum.inl a : Key) = Sum.inr b) = false := decide_eq_false (fun q => nomatch q)
theorem key_rl (a : Str) (b : Int) : decide ((Sum.inr a : Key) = Sum.inl b) = false := decide_eq_false (fun q => nomatch q)

def mixKind (prog : Program) (w : World) : PySem.KeyKind prog w Key where
  is := keyIs
  hash := keyH w
  inj := fun v a b ha hb => by
    rcases keyIs_shape ha with ⟨i, t, rfl, rfl⟩ | ⟨x, t, rfl, rfl⟩
    · rcases keyIs_shape hb with ⟨j, u, rfl, e⟩ | ⟨y, u, rfl, e⟩
      · injection e with e1 _; rw [e1]
      · exact nomatch e
    · rcases keyIs_shape hb with ⟨j, u, rfl, e⟩ | ⟨y, u, rfl, e⟩
      · exact nomatch e
      · injection e with e1 _; rw [e1]
  byValue := fun k v h => by
    rcases keyIs_shape h with ⟨i, t, rfl, rfl⟩ | ⟨x, t, rfl, rfl⟩ <;> rfl
  pyHash := fun hv h => by
    rcases keyIs_shape hv with ⟨i, t, rfl, rfl⟩ | ⟨x, t, rfl, rfl⟩
    · exact wpAny_pyHash_int h
    · exact wpAny_pyHash_str h
  eqBool := fun hu hv h => by
    rcases keyIs_shape hu with ⟨i, t, rfl, rfl⟩ | ⟨x, t, rfl, rfl⟩
    · rcases keyIs_shape hv with ⟨j, u, rfl, rfl⟩ | ⟨y, u, rfl, rfl⟩
      · rw [key_ll] at h; exact wpAny_eqBool_int h
      · rw [key_lr] at h; exact SeqAt.EqAt.int_str i t y u _ _ _ _ h
    · rcases keyIs_shape hv with ⟨j, u, rfl, rfl⟩ | ⟨y, u, rfl, rfl⟩
      · rw [key_rl] at h; exact SeqAt.EqAt.str_int x t j u _ _ _ _ h
      · rw [key_rr] at h; exact wpAny_eqBool_str h
  «strs» := fun k x t v h => by
    rcases keyIs_shape h with ⟨i, u, rfl, e⟩ | ⟨y, u, rfl, e⟩
    · exact nomatch e
    · injection e with e1 _
      subst e1
      cases v <;> rfl

end L2

namespace L2
open PySem PySem.Spec PyProof.Rows

/-- a value, without the heap -/
inductive V where
  | non | bl (b : Bool) | int (i : Int) | str (x : Str) | byt (b : Array UInt8) | flt (b : UInt64) | ref (a : Addr) | ty (n : String) | cel (a : Addr)
  deriving DecidableEq

def RelV : V → Value → Prop
  | .non, u => u = Value.none
  | .bl b, u => u = Value.bool b
  | .int i, u => ∃ t, u = Value.int i t
  | .str x, u => ∃ t, u = Value.str x t
  | .byt b, u => ∃ t, u = Value.bytes b t
  | .flt b, u => ∃ t, u = Value.float b t
  | .ref a, u => u = Value.ref a
  | .ty n, u => u = Value.type n
  | .cel a, u => u = Value.ref a

def V.nc : V → Prop
  | .cel _ => False
  | _ => True
abbrev Vals : List V → List Value → Prop := Paired RelV
theorem Vals.length {xs : List V} {us : List Value} (r : Vals xs us) : xs.length = us.length := Paired.length r
theorem Vals.get : ∀ {xs : List V} {us : List Value} {i : Nat} {x : V}, Vals xs us → xs[i]? = some x → ∃ u, us[i]? = some u ∧ RelV x u
  | _, _, _, _, .nil, e => by simp at e
  | _, _, 0, _, .cons r _, e => by simp at e; subst e; exact ⟨_, rfl, r⟩
  | _, _, i + 1, x, .cons _ t, e => by
    obtain ⟨u, h1, h2⟩ := Vals.get (i := i) (x := x) t (by simpa using e)
    exact ⟨u, by simpa using h1, h2⟩
theorem Vals.set {x : V} {u : Value} (r : RelV x u) : ∀ {xs : List V} {us : List Value} (i : Nat), Vals xs us → Vals (xs.set i x) (us.set i u)
  | _, _, _, .nil => .nil
  | _, _, 0, .cons _ t => .cons r t
  | _, _, i + 1, .cons q t => .cons q (Vals.set r i t)
theorem Vals.append : ∀ {xs ys : List V} {us ws : List Value}, Vals xs us → Vals ys ws → Vals (xs ++ ys) (us ++ ws)
  | _, _, _, _, .nil, s => s
  | _, _, _, _, .cons r t, s => .cons r (Vals.append t s)
theorem Vals.take : ∀ {xs : List V} {us : List Value} (n : Nat), Vals xs us → Vals (xs.take n) (us.take n)
  | _, _, 0, _ => .nil
  | _, _, _ + 1, .nil => .nil
  | _, _, n + 1, .cons r t => .cons r (Vals.take n t)
theorem Vals.drop : ∀ {xs : List V} {us : List Value} (n : Nat), Vals xs us → Vals (xs.drop n) (us.drop n)
  | _, _, 0, r => r
  | _, _, _ + 1, .nil => .nil
  | _, _, n + 1, .cons _ t => Vals.drop n t
theorem Vals.none_of : ∀ {xs : List V} {us : List Value} {i : Nat}, Vals xs us → xs[i]? = none → us[i]? = none := fun {xs us i} r e => by
  have h1 := r.length
  have h2 : xs.length ≤ i := List.getElem?_eq_none_iff.mp e
  exact List.getElem?_eq_none_iff.mpr (by omega)

def RelO : Option V → Option Value → Prop
  | some v, some u => RelV v u
  | none, none => True
  | _, _ => False
def KV {κ : Type} : List (κ × V) → List (κ × Value) → Prop := Paired fun (p : κ × V) (q : κ × Value) => p.1 = q.1 ∧ RelV p.2 q.2

/-- a key of a dict (00_mix): an int or a text -/
def kV : Key → V
  | .inl i => .int i
  | .inr x => .str x

/-- what stands at a tracked address -/
inductive HO where
  /-- a list -/
  | lst (xs : List V)
  /-- a tuple (never changes) -/
  | tup (xs : List V)
  /-- a dict whose keys are ints and texts; one whose keys are tuples of ints and texts (the empty one is both) -/
  | dK (kvs : List (Key × V)) | dT (kvs : List (List Key × V))
  /-- a set of ints: its members, its size -/
  | set (S : Int → Bool) (n : Nat)
  /-- an instance of the class at C, its dict at dx, its attributes -/
  | ins (C dx : Addr) (fs : List (Str × V))
  /-- the dict of the instance at x -/
  | own (x : Addr)
  /-- the dict of an exception -/
  | xd (fs : List (Str × V))
  /-- a bound method, f of x -/
  | met (f x : Addr)
  /-- a range object lo, lo + 1, .. below hi -/
  | rng (lo hi : Int)
  /-- a thing that is known to the object (the script; a dict while a loop walks it): read, never written while it is so -/
  | frz (o : Obj) (u : HO)
  /-- a code object's table -/
  | tbl (ps : Array Value)
  /-- any other thing, by what is true of its one object (a def of one's own: SetO a S n := HO.ext fun h => ..) -/
  | ext (φ : Heap → Prop)

abbrev Hp := Addr → Option HO
def upd (H : Hp) (a : Addr) (o : HO) : Hp := fun b => if b = a then some o else H b
theorem upd_same {H : Hp} {a : Addr} {o : HO} : upd H a o a = some o := by unfold upd; rw [if_pos rfl]
theorem upd_ne {H : Hp} {a b : Addr} {o : HO} (h : b ≠ a) : upd H a o b = H b := by unfold upd; rw [if_neg h]
theorem upd_upd {H : Hp} {a : Addr} {o u : HO} : upd (upd H a o) a u = upd H a u := by
  funext b; unfold upd; split <;> rfl
theorem ne_of_none {H : Hp} {a b : Addr} {o : HO} (h : H a = some o) (h' : H b = none) : a ≠ b := by
  intro e; subst e; rw [h] at h'; cases h'

section
variable (P : Program) (w : World)
def ObjOk (H : Hp) (h : Heap) (a : Addr) : HO → Prop
  | .lst xs => xs.length ≤ sizeLine ∧ ∃ (its : List Value) (n : Nat), Vals xs its ∧ h.get? a = some { cls := .type "list", data := .seq its.toArray n }
  | .tup xs => xs.length ≤ sizeLine ∧ ∃ its : List Value, Vals xs its ∧ IsTup h a its.toArray
  | .dK kvs => kvs.length ≤ sizeLine ∧ (a == sysModules) = false ∧ ∃ vs, KV kvs vs ∧ h.DictOf (mixKind P w) a vs
  | .dT kvs => kvs.length ≤ sizeLine ∧ (a == sysModules) = false ∧ ∃ xs : List (List Key × Addr × Value),
      Paired (fun (p : List Key × V) (q : List Key × Addr × Value) => p.1 = q.1 ∧ H q.2.1 = some (.tup (p.1.map kV)) ∧ RelV p.2 q.2.2) kvs xs ∧
      ∃ o es ep, h.get? a = some o ∧ o.ExactDict ∧ o.data = .dict es ep ∧ es.toList = xs.map (entryOfKey (tupleKind (mixKind P w))) ∧ (xs.map (·.1)).Nodup
  | .set S n => h.SetOf (intKind P w) a S n
  | .ins C dx fs => H dx = some (.own a) ∧ fs.length ≤ 1000 ∧ dx ≠ a ∧ h.get? a = some (PySem.W.instObj C dx) ∧
      ∃ mA, h.Ns1 dx mA ∧ (∀ f, RelO (fs.lookup f) (mA f)) ∧ PySem.Within mA (fs.map (·.1))
  | .own _ => ∃ o, h.get? a = some o
  | .xd fs => ∃ mA, h.Ns1 a mA ∧ ∀ f, RelO (fs.lookup f) (mA f)
  | .rng lo hi => ∃ t u v, h.get? a = some { cls := .type "range", data := .fields #[.int lo t, .int hi u, .int 1 v] }
  | .frz o u => h.get? a = some o ∧ ObjOk H h a u
  | .tbl ps => h.get? a = some { cls := .none, data := .fields ps }
  | .met f x => h.get? a = some (PySem.W.methodObj (.ref f) (.ref x))
  | .ext φ => φ h ∧ (∃ o, h.get? a = some o) ∧ ∀ h1 h2 : Heap, φ h1 → (∀ o, h1.get? a = some o → h2.get? a = some o) → φ h2
/-- the abstract heap is held -/
def HOk (H : Hp) (h : Heap) : Prop := ∀ a o, H a = some o → ObjOk P w H h a o
end

section
variable {P : Program} {w : World} {H H' : Hp} {h h' : Heap} {a : Addr} {o : HO}
theorem ObjOk.lt (x : ObjOk P w H h a o) : a < h.objs.size := by
  cases o with
  | lst xs => obtain ⟨_, _, _, _, e⟩ := x; exact Heap.lt_size e
  | tup xs => obtain ⟨_, _, _, p⟩ := x; exact p.lt
  | dK kvs => obtain ⟨_, _, _, _, o, _, _, e, _⟩ := x; exact Heap.lt_size e
  | dT kvs => obtain ⟨_, _, _, _, o, _, _, e, _⟩ := x; exact Heap.lt_size e
  | set S n => obtain ⟨o, _, _, _, e, _⟩ := x; exact Heap.lt_size e
  | ins C dx fs => obtain ⟨_, _, _, e, _⟩ := x; exact Heap.lt_size e
  | own y => obtain ⟨_, e⟩ := x; exact Heap.lt_size e
  | xd fs => obtain ⟨_, ⟨_, _, _, e, _⟩, _⟩ := x; exact Heap.lt_size e
  | rng lo hi => obtain ⟨_, _, _, e⟩ := x; exact Heap.lt_size e
  | frz ob u => obtain ⟨e, _⟩ := x; exact Heap.lt_size e
  | tbl ps => exact Heap.lt_size (show h.get? a = some _ from x)
  | met f y => exact Heap.lt_size (show h.get? a = some _ from x)
  | ext φ => obtain ⟨_, ⟨_, e⟩, _⟩ := x; exact Heap.lt_size e
theorem Paired.mapP {α β : Type} {F G : α → β → Prop} : ∀ {l₁ : List α} {l₂ : List β}, Paired F l₁ l₂ → (∀ a b, F a b → G a b) → Paired G l₁ l₂
  | _, _, .nil, _ => .nil
  | _, _, .cons r t, f => .cons (f _ _ r) (Paired.mapP t f)
/-- what an object's description leans on: its own object, its own dict, the tuples -/
theorem ObjOk.stay (x : ObjOk P w H h a o) (k : ∀ b u, (b = a ∨ H b = some (.own a)) → h.get? b = some u → h'.get? b = some u)
    (ho : ∀ b, H b = some (.own a) → H' b = some (.own a)) (ht : ∀ b xs, H b = some (.tup xs) → H' b = some (.tup xs)) : ObjOk P w H' h' a o := by
  induction o with
  | lst xs => obtain ⟨z, its, n, r, e⟩ := x; exact ⟨z, its, n, r, k _ _ (.inl rfl) e⟩
  | tup xs => obtain ⟨z, its, r, ob, e, c⟩ := x; exact ⟨z, its, r, ob, k _ _ (.inl rfl) e, c⟩
  | dK kvs => obtain ⟨z, y, vs, r, ob, es, ep, e, c⟩ := x; exact ⟨z, y, vs, r, ob, es, ep, k _ _ (.inl rfl) e, c⟩
  | dT kvs =>
    obtain ⟨z, y, xs, r, ob, es, ep, e, c⟩ := x
    exact ⟨z, y, xs, Paired.mapP r fun p q z => ⟨z.1, ht _ _ z.2.1, z.2.2⟩, ob, es, ep, k _ _ (.inl rfl) e, c⟩
  | set S n => obtain ⟨ob, es, ep, t, e, c⟩ := x; exact ⟨ob, es, ep, t, k _ _ (.inl rfl) e, c⟩
  | ins C dx fs =>
    obtain ⟨d, z, ne, e, mA, ⟨od, es, ep, e2, c⟩, r⟩ := x
    exact ⟨ho _ d, z, ne, k _ _ (.inl rfl) e, mA, ⟨od, es, ep, k _ _ (.inr d) e2, c⟩, r⟩
  | own y => obtain ⟨ob, e⟩ := x; exact ⟨ob, k _ _ (.inl rfl) e⟩
  | xd fs => obtain ⟨mA, ⟨od, es, ep, e, c⟩, r⟩ := x; exact ⟨mA, ⟨od, es, ep, k _ _ (.inl rfl) e, c⟩, r⟩
  | rng lo hi => obtain ⟨t, u, v, e⟩ := x; exact ⟨t, u, v, k _ _ (.inl rfl) e⟩
  | frz ob u ih => obtain ⟨e, q⟩ := x; exact ⟨k _ _ (.inl rfl) e, ih q⟩
  | tbl ps =>
    have e : h.get? a = some { cls := .none, data := .fields ps } := x
    show h'.get? a = some { cls := .none, data := .fields ps }
    exact k a _ (.inl rfl) e
  | met f y =>
    have e : h.get? a = some (PySem.W.methodObj (.ref f) (.ref y)) := x
    show h'.get? a = some (PySem.W.methodObj (.ref f) (.ref y))
    exact k a _ (.inl rfl) e
  | ext φ => obtain ⟨p, ⟨o, e⟩, st⟩ := x; exact ⟨st _ _ p fun o q => k _ _ (.inl rfl) q, ⟨o, k _ _ (.inl rfl) e⟩, st⟩
theorem HOk.lt (x : HOk P w H h) (e : H a = some o) : a < h.objs.size := (x a o e).lt
theorem HOk.fresh (x : HOk P w H h) (e : h.objs.size ≤ a) : H a = none := by
  cases q : H a with
  | none => rfl
  | some u => exact absurd (Nat.lt_of_lt_of_le (x.lt q) e) (Nat.lt_irrefl _)
/-- every object of the heap is kept -/
theorem HOk.kept (x : HOk P w H h) (k : ∀ b u, h.get? b = some u → h'.get? b = some u) : HOk P w H h' := fun a o e =>
  (x a o e).stay (fun b u _ q => k b u q) (fun _ q => q) fun _ _ q => q
/-- a new object is laid and tracked -/
theorem HOk.laid (x : HOk P w H h) (k : ∀ b u, h.get? b = some u → h'.get? b = some u) (hp : h.objs.size ≤ a) (new : ObjOk P w (upd H a o) h' a o) : HOk P w (upd H a o) h' := fun b u e => by
  have hn := x.fresh hp
  by_cases hb : b = a
  · subst hb; rw [upd_same] at e; cases e; exact new
  · rw [upd_ne hb] at e
    exact (x b u e).stay (fun c v _ q => k c v q) (fun c q => by rw [upd_ne (ne_of_none q hn)]; exact q) fun c xs q => by rw [upd_ne (ne_of_none q hn)]; exact q
end

/-- what may be read as u: it is u, or a known u -/
def Rd (H : Hp) (a : Addr) (u : HO) : Prop := H a = some u ∨ ∃ o, H a = some (.frz o u)
theorem Rd.of {H : Hp} {a : Addr} {u : HO} (h : H a = some u) : Rd H a u := .inl h
theorem Rd.ok {P : Program} {w : World} {H : Hp} {h : Heap} {a : Addr} {u : HO} (r : Rd H a u) (x : HOk P w H h) : ObjOk P w H h a u := by
  rcases r with r | ⟨o, r⟩
  · exact x a u r
  · obtain ⟨_, q⟩ := x a _ r
    exact q
/-- what may be written -/
def Mut : Option HO → Prop
  | some (.lst _) => True
  | some (.dK _) => True
  | some (.dT _) => True
  | some (.set _ _) => True
  | some (.ins _ _ _) => True
  | some (.ext _) => True
  | _ => False
section
variable {P : Program} {w : World} {H : Hp} {h h' : Heap} {x e : Addr} {o' : HO}
/-- the object at e is changed: x itself, or the dict of the instance x -/
theorem HOk.write (ok : HOk P w H h) (mu : Mut (H x)) (he : e = x ∨ H e = some (.own x)) (k : ∀ b u, b ≠ e → h.get? b = some u → h'.get? b = some u) (heo : ∃ u, h'.get? e = some u)
    (new : ObjOk P w (upd H x o') h' x o') : HOk P w (upd H x o') h' := fun b u q => by
  have nown : ∀ c y, H c = some (.own y) → c ≠ x := fun c y r z => by subst z; rw [r] at mu; exact mu
  have ntup : ∀ c xs, H c = some (.tup xs) → c ≠ x := fun c xs r z => by subst z; rw [r] at mu; exact mu
  by_cases hb : b = x
  · subst hb; rw [upd_same] at q; cases q; exact new
  · rw [upd_ne hb] at q
    by_cases hbe : b = e
    · have q' : H b = some (.own x) := by
        rcases he with z | z
        · exact absurd (hbe.trans z) hb
        · rw [hbe]; exact z
      rw [q] at q'; cases q'
      obtain ⟨v, hv⟩ := heo
      exact ⟨v, by rw [hbe]; exact hv⟩
    · refine (ok b u q).stay (fun c v hc r => k c v ?_ r) (fun c r => by rw [upd_ne (nown c b r)]; exact r) fun c xs r => by rw [upd_ne (ntup c xs r)]; exact r
      rcases hc with rfl | hc
      · exact hbe
      · rintro rfl
        rcases he with z | z
        · exact nown c b hc z
        · rw [hc] at z; cases z; exact hb rfl
end

/-! ### kept unless tracked; of the frames at fs (the callers') the slots may change (an exception that passes writes there); of the records at ex (iterators) nothing is said -/
structure Un (fs ex : List Addr) (H H' : Hp) (h h' : Heap) : Prop where
  keep : ∀ b o, h.get? b = some o → H b = none → b ∉ fs → b ∉ ex → h'.get? b = some o
  slot : ∀ b o, h.get? b = some o → H b = none → b ∈ fs → b ∉ ex → ∃ sl, h'.get? b = some { o with slots := sl }
  free : ∀ b o, h.get? b = some o → H b = none → b ∉ ex → H' b = none
  there : ∀ b o, h.get? b = some o → b ∉ ex → ∃ o', h'.get? b = some o'
  tups : ∀ b xs, H b = some (.tup xs) → H' b = some (.tup xs)
  frzs : ∀ b o u, H b = some (.frz o u) → H' b = some (.frz o u)
  tbls : ∀ b ps, H b = some (.tbl ps) → ∃ more, H' b = some (.tbl (ps ++ more))
section
variable {fs fs' ex ex' : List Addr} {H H1 H2 : Hp} {h h1 h2 h' : Heap} {a x e : Addr} {o : HO}
theorem Un.any (u : Un fs ex H H1 h h1) {b : Addr} {ob : Obj} (q : h.get? b = some ob) (n : H b = none) (hx : b ∉ ex) : ∃ sl, h1.get? b = some { ob with slots := sl } := by
  by_cases hb : b ∈ fs
  · exact u.slot b ob q n hb hx
  · exact ⟨ob.slots, u.keep b ob q n hb hx⟩
theorem Un.trans (a : Un fs ex H H1 h h1) (b : Un fs ex H1 H2 h1 h2) : Un fs ex H H2 h h2 where
  keep := fun c ob q n hc hx => b.keep c ob (a.keep c ob q n hc hx) (a.free c ob q n hx) hc hx
  slot := fun c ob q n hc hx => by
    obtain ⟨sl, e1⟩ := a.slot c ob q n hc hx
    obtain ⟨sl', e2⟩ := b.slot c _ e1 (a.free c ob q n hx) hc hx
    exact ⟨sl', e2⟩
  free := fun c ob q n hx => by
    obtain ⟨o', e1⟩ := a.there c ob q hx
    exact b.free c o' e1 (a.free c ob q n hx) hx
  there := fun c ob q hx => by
    obtain ⟨o', e1⟩ := a.there c ob q hx
    exact b.there c o' e1 hx
  tups := fun c xs q => b.tups c xs (a.tups c xs q)
  frzs := fun c ob xs q => b.frzs c ob xs (a.frzs c ob xs q)
  tbls := fun c ps q => by
    obtain ⟨m1, e1⟩ := a.tbls c ps q
    obtain ⟨m2, e2⟩ := b.tbls c _ e1
    exact ⟨m1 ++ m2, by rw [e2, Array.append_assoc]⟩
theorem Un.kept (k : ∀ b u, h.get? b = some u → h'.get? b = some u) : Un fs ex H H h h' :=
  ⟨fun b ob q _ _ _ => k b ob q, fun b ob q _ _ _ => ⟨ob.slots, k b ob q⟩, fun _ _ _ n _ => n, fun b ob q _ => ⟨ob, k b ob q⟩, fun _ _ q => q, fun _ _ _ q => q, fun _ ps q => ⟨#[], by rw [q]; simp⟩⟩
theorem Un.refl : Un fs ex H H h h := Un.kept fun _ _ q => q
theorem Un.laid (k : ∀ b u, h.get? b = some u → h'.get? b = some u) (hp : h.objs.size ≤ a) (hn : H a = none) : Un fs ex H (upd H a o) h h' where
  keep := fun b u q _ _ _ => k b u q
  slot := fun b u q _ _ _ => ⟨u.slots, k b u q⟩
  free := fun b u q n _ => by rw [upd_ne (Nat.ne_of_lt (Nat.lt_of_lt_of_le (Heap.lt_size q) hp))]; exact n
  there := fun b u q _ => ⟨u, k b u q⟩
  tups := fun b xs q => by rw [upd_ne (ne_of_none q hn)]; exact q
  frzs := fun b u xs q => by rw [upd_ne (ne_of_none q hn)]; exact q
  tbls := fun b ps q => ⟨#[], by rw [upd_ne (ne_of_none q hn), q]; simp⟩
theorem Un.write (mu : Mut (H x)) (he : e = x ∨ H e = some (.own x)) (k : ∀ b u, b ≠ e → h.get? b = some u → h'.get? b = some u) (heo : ∃ u, h'.get? e = some u) : Un fs ex H (upd H x o) h h' := by
  have hx : ∀ b, H b = none → b ≠ x := fun b n z => by subst z; rw [n] at mu; exact mu
  have hb : ∀ b, H b = none → b ≠ e := fun b n z => by
    subst z
    rcases he with r | r
    · exact hx b n r
    · rw [n] at r; cases r
  have hm : ∀ b u, H b = some u → ¬ Mut (some u) → b ≠ x := fun b u q nm z => by subst z; rw [q] at mu; exact nm mu
  refine ⟨fun b u q n _ _ => k b u (hb b n) q, fun b u q n _ _ => ⟨u.slots, k b u (hb b n) q⟩, fun b u q n _ => by rw [upd_ne (hx b n)]; exact n, fun b u q _ => ?_,
    fun b xs q => by rw [upd_ne (hm b _ q fun z => z)]; exact q, fun b u xs q => by rw [upd_ne (hm b _ q fun z => z)]; exact q, fun b ps q => ⟨#[], by rw [upd_ne (hm b _ q fun z => z), q]; simp⟩⟩
  by_cases hbe : b = e
  · subst hbe; exact heo
  · exact ⟨u, k b u hbe q⟩
theorem Un.mono (u : Un fs ex H H1 h h1) (hs : ∀ b ∈ fs, b ∈ fs') (hx : ∀ b ∈ ex, b ∈ ex') : Un fs' ex' H H1 h h1 :=
  ⟨fun b ob q n hb he => u.keep b ob q n (fun z => hb (hs b z)) fun z => he (hx b z), fun _ _ q n _ he => u.any q n fun z => he (hx _ z), fun b ob q n he => u.free b ob q n fun z => he (hx b z), fun b ob q he => u.there b ob q fun z => he (hx b z), u.tups, u.frzs, u.tbls⟩
end

/-! ### the heap without what is tracked -/
def trk (h : Heap) (H : Hp) : List Addr := (List.range h.objs.size).filter fun a => (H a).isSome
def hidT (h : Heap) (H : Hp) : Heap := PySem.W.hideAll h (trk h H)
theorem hidT_size (h : Heap) (H : Hp) : (hidT h H).objs.size = h.objs.size := PySem.W.hideAll_size _ _
theorem hidT_get {h : Heap} {H : Hp} {b : Addr} {o : Obj} (e : h.get? b = some o) (n : H b = none) : (hidT h H).get? b = some o :=
  PySem.W.hideAll_get _ e fun hm => by
    have q : (H b).isSome = true := (List.mem_filter.mp hm).2
    rw [n] at q; simp at q
theorem of_hidT {h : Heap} {H : Hp} {b : Addr} {o : Obj} (e : (hidT h H).get? b = some o) : h.get? b = some o ∧ H b = none := by
  have e' : h.get? b = some o := PySem.W.of_hideAll (trk h H) e
  refine ⟨e', ?_⟩
  cases q : H b with
  | none => rfl
  | some x =>
    have hm : b ∈ trk h H := List.mem_filter.mpr ⟨List.mem_range.mpr (Heap.lt_size e'), by simp [q]⟩
    have z : (hidT h H).get? b = none := PySem.W.hideAll_none (trk h H) hm
    rw [z] at e; cases e

/-! ### OpenK's ledger, filled with every new object but one -/
def allNews (g h : Heap) (L : Addr) : List (Addr × Obj) := (List.range h.objs.size).filterMap fun a => if a = L ∨ (g.get? a).isSome = true then none else (h.get? a).map fun o => (a, o)
def rest (g h : Heap) (L d : Addr) : List (Addr × Obj) := (allNews g h L).filter fun p => decide (p.1 ≠ d)
end L2

namespace L2
open PySem PySem.Spec PyProof.Rows

/-- the module's facts, over the base: the heap at the law's entry without what is tracked there -/
structure Mod (K : PySem.W.Frag) (mg : Str → Option Value) (base : Heap) : Prop where
  kin : K.In base
  glob : base.Ns mainGlobals mg
  blt : ∃ mb, base.Ns builtinsNs mb ∧ ∀ x : Str, x ≠ "__name__" → mb x = bootBuiltins x
  nolimit : base.NoLimit

/-- the context: a def's body (or a comprehension's block) running. base: fixed through the whole law; s₀, H₀: the entry; outer: the frames whose slots others may change (a def's callers); stack: all frames that run;
   ex: iterators that were made ahead of the entry and are walked here (a comprehension's); fn: the names whose cells were made at the entry (a def: all; a comprehension's block: its own); calm: not within an except suite; pn: pins that every state bears; xe: what is wanted of an exception that leaves the code -/
structure Cx where
  prog : Program
  w : World
  K : PySem.W.Frag
  mg : Str → Option Value
  base : Heap
  A : Around
  N : List Str
  s₀ : Shared
  H₀ : Hp
  env : Env
  outer : List Env
  stack : List Env
  ex : List Addr
  fn : Str → Bool
  calm : Bool
  pn : List (Addr × Obj)
  xe : Value → Shared → Prop
/-- the callers' frames -/
def frs (l : List Env) : List Addr := l.filterMap (·.frame)
abbrev Cx.fs (X : Cx) : List Addr := frs X.outer

def Vis (sc : Scope) (x : Str) : Prop := sc.names.lookup x = some .local ∨ sc.names.lookup x = some .cell ∨ sc.names.lookup x = some .free
def Loc (sc : Scope) (x : Str) : Prop := sc.names.lookup x = some .local ∨ sc.names.lookup x = some .cell
def Look (env : Env) (h : Heap) (m : Str → Option Value) (x : Str) (u : Value) : Prop :=
  (env.kindOf x = some .local ∧ m x = some u) ∨ ((env.kindOf x = some .cell ∨ env.kindOf x = some .free) ∧ ∃ c, env.cells.lookup x = some c ∧ h.IsCell c (some u))

structure Cx.Ok (X : Cx) : Prop where
  mod : Mod X.K X.mg X.base
  kind : X.env.scope.kind = .function
  glob : X.env.globals = mainGlobals
  blt : X.env.builtins = builtinsNs
  above : X.s₀.heap.objs.size ≤ X.env.locals
  inj : ∀ x y c, X.env.cells.lookup x = some c → X.env.cells.lookup y = some c → x = y
  has : ∀ x, (X.env.kindOf x = some .cell ∨ X.env.kindOf x = some .free) → ∃ c, X.env.cells.lookup x = some c
  cab : ∀ x c, X.fn x = true → X.env.cells.lookup x = some c → X.s₀.heap.objs.size ≤ c
  hd : X.calm = true → X.A.handled = none
  frames : X.A.frames = some X.stack
  stk : X.stack = X.outer ∨ (X.stack = X.env :: X.outer ∧ X.env.frame = some X.env.locals)
  exf : ∀ b ∈ X.ex, b ≠ X.env.locals ∧ ∀ x c, X.env.cells.lookup x = some c → c ≠ b
  bs : ∀ b o, X.base.get? b = some o → X.s₀.heap.get? b = some o ∧ X.H₀ b = none
  bsz : X.base.objs.size ≤ X.s₀.heap.objs.size
  noex : ∀ b o, X.base.get? b = some o → b ∉ X.ex
  exfs : ∀ b ∈ X.ex, b ∉ X.fs
  funs : X.s₀.heap.FunFrames X.base X.outer
  frf : ∀ b ∈ X.fs, X.H₀ b = none

structure Inv (X : Cx) (pins : List (Addr × Obj)) (σ : List (Option V)) (H : Hp) (s : Shared) : Prop where
  ok : X.Ok
  os : s.os = X.s₀.os
  bare : AllBare s.gens
  base : Un X.fs X.ex X.H₀ H X.s₀.heap s.heap
  loc : ∃ m, s.heap.Ns X.env.locals m ∧ ∀ (i : Nat) (x : Str) (v : V), X.N[i]? = some x → σ[i]? = some (some v) → Vis X.env.scope x → ∃ u, RelV v u ∧ Look X.env s.heap m x u
  cell : ∀ x c, X.env.cells.lookup x = some c → ∃ v, s.heap.IsCell c v
  free : H X.env.locals = none
  freeC : ∀ x c, X.env.cells.lookup x = some c → H c = none
  pin : ∀ p ∈ X.pn ++ pins, s.heap.get? p.1 = some p.2 ∧ H p.1 = none ∧ p.1 ≠ X.env.locals ∧ p.1 ∉ X.fs ∧ ∀ v, p.2.data ≠ .cell v
  hok : HOk X.prog X.w H s.heap
  len : σ.length = X.N.length

section
variable {X : Cx} {pins : List (Addr × Obj)} {σ : List (Option V)} {H H' : Hp} {s : Shared} {h' : Heap}

theorem Cx.Ok.nofr (ok : X.Ok) {b : Addr} {o : Obj} (e : X.base.get? b = some o) : b ∉ X.fs := fun hb => by
  have := (ok.funs.mem hb).1
  rw [e] at this; cases this
theorem Inv.bs (I : Inv X pins σ H s) : ∀ b o, X.base.get? b = some o → s.heap.get? b = some o ∧ H b = none := fun b o e =>
  ⟨I.base.keep b o (I.ok.bs b o e).1 (I.ok.bs b o e).2 (I.ok.nofr e) (I.ok.noex b o e), I.base.free b o (I.ok.bs b o e).1 (I.ok.bs b o e).2 (I.ok.noex b o e)⟩
theorem Inv.bk (I : Inv X pins σ H s) : ∀ b o, X.base.get? b = some o → s.heap.get? b = some o := fun b o e => (I.bs b o e).1
theorem Inv.mod (I : Inv X pins σ H s) : Mod X.K X.mg X.base := I.ok.mod
theorem Inv.kIn (I : Inv X pins σ H s) : X.K.In s.heap := I.ok.mod.kin.keeps I.bk
theorem Inv.nolimit (I : Inv X pins σ H s) : s.heap.NoLimit := I.ok.mod.nolimit.keeps I.bk
/-- the frame over the base: for OpenK's rules (K.In X.base is I.mod.kin) -/
theorem Inv.fr (I : Inv X pins σ H s) : ∃ m, Fr X.base X.env.locals s.heap m :=
  let ⟨m, hn, _⟩ := I.loc
  ⟨m, hn, I.bk, Nat.le_trans I.ok.bsz I.ok.above⟩
theorem Inv.lt (I : Inv X pins σ H s) : X.env.locals < s.heap.objs.size := let ⟨_, hn, _⟩ := I.loc; hn.lt
theorem Inv.sz (I : Inv X pins σ H s) : X.s₀.heap.objs.size ≤ s.heap.objs.size := Nat.le_trans I.ok.above (Nat.le_of_lt I.lt)
theorem Inv.nofs (I : Inv X pins σ H s) {a : Addr} (h : s.heap.objs.size ≤ a) : a ∉ X.fs := fun hb => by
  obtain ⟨_, o, ho, _⟩ := I.ok.funs.mem hb
  exact absurd (Nat.lt_of_lt_of_le (Heap.lt_size ho) (Nat.le_trans I.sz h)) (Nat.lt_irrefl _)
theorem Inv.cne (I : Inv X pins σ H s) : ∀ x c, X.env.cells.lookup x = some c → c ≠ X.env.locals := fun x c e z => by
  obtain ⟨v, o, ho, hd⟩ := I.cell x c e
  obtain ⟨m, ⟨o', es, ep, ho', hd', _⟩, _⟩ := I.loc
  rw [z, ho'] at ho; cases ho; rw [hd'] at hd; cases hd
theorem Inv.funs (I : Inv X pins σ H s) : s.heap.FunFrames X.base X.outer := by
  have all : ∀ (l : List Env), (∀ b ∈ frs l, b ∈ X.fs) → X.s₀.heap.FunFrames X.base l → s.heap.FunFrames X.base l := by
    intro l
    induction l with
    | nil => intro _ _; trivial
    | cons env r ih =>
      intro hs hl
      obtain ⟨hk, ⟨L, o, hf, hn, ho, hd⟩, hr⟩ := hl
      have hL : L ∈ X.fs := hs L (by unfold frs; rw [List.filterMap_cons, hf]; exact List.mem_cons_self)
      obtain ⟨sl, e⟩ := I.base.slot L o ho (I.ok.frf L hL) hL fun z => I.ok.exfs L z hL
      exact ⟨hk, ⟨L, _, hf, hn, e, hd⟩, ih (fun b hb => hs b (by unfold frs; rw [List.filterMap_cons, hf]; exact List.mem_cons_of_mem _ hb)) hr⟩
  exact all X.outer (fun _ hb => hb) I.ok.funs

/-- the frames that run, for a call -/
theorem Inv.stack (I : Inv X pins σ H s) : s.heap.FunFrames X.base X.stack := by
  rcases I.ok.stk with e | ⟨e, hf⟩
  · rw [e]; exact I.funs
  · rw [e]
    obtain ⟨m, hn, _⟩ := I.loc
    refine .cons (by rw [I.ok.kind]; decide) hf hn ?_ I.funs
    exact Heap.get?_none_of_le (Nat.le_trans I.ok.bsz I.ok.above)
theorem Inv.stkSub (I : Inv X pins σ H s) : ∀ b ∈ frs X.stack, b ∈ X.env.locals :: X.fs := fun b hb => by
  rcases I.ok.stk with e | ⟨e, hf⟩
  · rw [e] at hb; exact List.mem_cons_of_mem _ hb
  · rw [e] at hb
    unfold frs at hb
    rw [List.filterMap_cons, hf] at hb
    exact hb
theorem Inv.stkFree (I : Inv X pins σ H s) : ∀ b ∈ frs X.stack, H b = none := fun b hb => by
  rcases List.mem_cons.mp (I.stkSub b hb) with e | hb
  · rw [e]; exact I.free
  · obtain ⟨_, o, ho, _⟩ := I.ok.funs.mem hb
    exact I.base.free b o ho (I.ok.frf b hb) fun z => I.ok.exfs b z hb

/-- THE STEP: the untracked objects but the frame and the records at ch are kept (the callers' frames up to slots), the frame's map is kept, the new abstract heap is held -/
theorem Inv.step {g' : Array GenState} {t' : Nat} {d' : Drawn} {ch : List Addr} (I : Inv X pins σ H s)
    (hch : ∀ b ∈ ch, (b ∈ X.ex ∨ X.s₀.heap.objs.size ≤ b) ∧ b ≠ X.env.locals ∧ (∀ x c, X.env.cells.lookup x = some c → c ≠ b) ∧ ∀ p ∈ X.pn ++ pins, p.1 ≠ b)
    (keep : ∀ b o, b ≠ X.env.locals → b ∉ X.fs → b ∉ ch → s.heap.get? b = some o → H b = none → h'.get? b = some o)
    (slot : ∀ b o, b ≠ X.env.locals → b ∈ X.fs → b ∉ ch → s.heap.get? b = some o → H b = none → ∃ sl, h'.get? b = some { o with slots := sl }) (free : ∀ b o, b ∉ ch → s.heap.get? b = some o → H b = none → H' b = none)
    (there : ∀ b o, b ∉ ch → s.heap.get? b = some o → ∃ o', h'.get? b = some o')
    (tups : ∀ b xs, H b = some (.tup xs) → H' b = some (.tup xs)) (frzs : ∀ b o u, H b = some (.frz o u) → H' b = some (.frz o u)) (tbls : ∀ b ps, H b = some (.tbl ps) → ∃ more, H' b = some (.tbl (ps ++ more)))
    (ns : ∀ m, s.heap.Ns X.env.locals m → h'.Ns X.env.locals m) (hok : HOk X.prog X.w H' h') (hg : AllBare g') :
    Inv X pins σ H' { s with heap := h', gens := g', drawn := d', toks := t' } := by
  have neL : ∀ b o, X.s₀.heap.get? b = some o → b ≠ X.env.locals := fun b o e => Nat.ne_of_lt (Nat.lt_of_lt_of_le (Heap.lt_size e) I.ok.above)
  have neC : ∀ b o, X.s₀.heap.get? b = some o → b ∉ X.ex → b ∉ ch := fun b o e hx hb => by
    rcases (hch b hb).1 with z | z
    · exact hx z
    · exact absurd (Nat.lt_of_lt_of_le (Heap.lt_size e) z) (Nat.lt_irrefl _)
  have cellK : ∀ x c, X.env.cells.lookup x = some c → ∀ v, s.heap.IsCell c v → h'.IsCell c v := fun x c e v ⟨o, ho, hd⟩ => by
    have nch : c ∉ ch := fun z => (hch c z).2.2.1 x c e rfl
    by_cases hc : c ∈ X.fs
    · obtain ⟨sl, q⟩ := slot c o (I.cne x c e) hc nch ho (I.freeC x c e)
      exact ⟨_, q, hd⟩
    · exact ⟨o, keep c o (I.cne x c e) hc nch ho (I.freeC x c e), hd⟩
  refine ⟨I.ok, I.os, hg, ⟨fun b o e n hb hx => ?_, fun b o e n hb hx => ?_, fun b o e n hx => ?_, fun b o e hx => ?_, fun b xs e => tups b xs (I.base.tups b xs e), fun b o xs e => frzs b o xs (I.base.frzs b o xs e), fun b ps e => ?_⟩, ?_, fun x c e => ?_, ?_, fun x c e => ?_, fun p hp => ?_, hok, I.len⟩
  · exact keep b o (neL b o e) hb (neC b o e hx) (I.base.keep b o e n hb hx) (I.base.free b o e n hx)
  · obtain ⟨sl, e1⟩ := I.base.slot b o e n hb hx
    obtain ⟨sl', e2⟩ := slot b _ (neL b o e) hb (neC b o e hx) e1 (I.base.free b o e n hx)
    exact ⟨sl', e2⟩
  · obtain ⟨o', e1⟩ := I.base.there b o e hx
    exact free b o' (neC b o e hx) e1 (I.base.free b o e n hx)
  · obtain ⟨o', e1⟩ := I.base.there b o e hx
    exact there b o' (neC b o e hx) e1
  · obtain ⟨m1, e1⟩ := I.base.tbls b ps e
    obtain ⟨m2, e2⟩ := tbls b _ e1
    exact ⟨m1 ++ m2, by rw [e2, Array.append_assoc]⟩
  · obtain ⟨m, hn, hl⟩ := I.loc
    refine ⟨m, ns m hn, fun i x v e1 e2 e3 => ?_⟩
    obtain ⟨u, r, l⟩ := hl i x v e1 e2 e3
    refine ⟨u, r, ?_⟩
    rcases l with l | ⟨k, c, e, z⟩
    · exact .inl l
    · exact .inr ⟨k, c, e, cellK x c e _ z⟩
  · obtain ⟨v, z⟩ := I.cell x c e
    exact ⟨v, cellK x c e v z⟩
  · obtain ⟨m, ⟨o, _, _, ho, _⟩, _⟩ := I.loc
    exact free _ o (fun z => (hch _ z).2.1 rfl) ho I.free
  · obtain ⟨v, o, ho, hd⟩ := I.cell x c e
    exact free c o (fun z => (hch c z).2.2.1 x c e rfl) ho (I.freeC x c e)
  · obtain ⟨e, n, ne, nf, d⟩ := I.pin p hp
    have nch : p.1 ∉ ch := fun z => (hch p.1 z).2.2.2 p hp rfl
    exact ⟨keep p.1 p.2 ne nf nch e n, free p.1 p.2 nch e n, ne, nf, d⟩
/-- .. where the frame's own object is kept too -/
theorem Inv.un {t' : Nat} (I : Inv X pins σ H s) (u : Un X.fs [] H H' s.heap h') (hok : HOk X.prog X.w H' h') : Inv X pins σ H' { s with heap := h', toks := t' } := by
  obtain ⟨m, ⟨o, es, ep, ho, r⟩, _⟩ := id I.loc
  obtain ⟨sl, hL⟩ := u.any ho I.free (by simp)
  exact I.step (g' := s.gens) (d' := s.drawn) (ch := []) (fun _ z => nomatch z) (fun b o _ hb _ e n => u.keep b o e n hb (by simp)) (fun b o _ hb _ e n => u.slot b o e n hb (by simp)) (fun b o _ e n => u.free b o e n (by simp)) (fun b o _ e => u.there b o e (by simp)) u.tups u.frzs u.tbls (fun m' hm => by
    obtain ⟨o', es', ep', ho', r'⟩ := hm
    rw [ho] at ho'; cases ho'
    exact ⟨_, es', ep', hL, r'⟩) hok I.bare
/-- behind a call (or a comprehension's block): the slots of this frame may have changed too, the records at ch may have turned -/
theorem Inv.call {g' : Array GenState} {t' : Nat} {d' : Drawn} {ch : List Addr} (I : Inv X pins σ H s) (u : Un (frs X.stack) ch H H' s.heap h') (hok : HOk X.prog X.w H' h') (hg : AllBare g')
    (hch : ∀ b ∈ ch, (b ∈ X.ex ∨ X.s₀.heap.objs.size ≤ b) ∧ b ≠ X.env.locals ∧ (∀ x c, X.env.cells.lookup x = some c → c ≠ b) ∧ ∀ p ∈ X.pn ++ pins, p.1 ≠ b) :
    Inv X pins σ H' { s with heap := h', gens := g', drawn := d', toks := t' } := by
  obtain ⟨m, ⟨o, es, ep, ho, r⟩, _⟩ := id I.loc
  obtain ⟨sl, hL⟩ := u.any ho I.free fun z => (hch _ z).2.1 rfl
  exact I.step (ch := ch) hch (fun b o hL hb hc e n => u.keep b o e n (fun z => (List.mem_cons.mp (I.stkSub b z)).elim hL hb) hc) (fun b o _ _ hc e n => u.any e n hc) (fun b o hc e n => u.free b o e n hc) (fun b o hc e => u.there b o e hc) u.tups u.frzs u.tbls (fun m' hm => by
    obtain ⟨o', es', ep', ho', r'⟩ := hm
    rw [ho] at ho'; cases ho'
    exact ⟨_, es', ep', hL, r'⟩) hok hg
/-- an untracked record of ours (an iterator) has turned -/
theorem Inv.turned {t' : Nat} {it : Addr} (I : Inv X pins σ H s) (k : ∀ b o, b ≠ it → s.heap.get? b = some o → h'.get? b = some o) (hn : H it = none) (hL : it ≠ X.env.locals)
    (h1 : it ∈ X.ex ∨ X.s₀.heap.objs.size ≤ it) (h2 : ∀ x c, X.env.cells.lookup x = some c → c ≠ it) (h3 : ∀ p ∈ X.pn ++ pins, p.1 ≠ it) : Inv X pins σ H { s with heap := h', toks := t' } := by
  have nit : ∀ b u, H b = some u → b ≠ it := fun b u e z => by rw [z, hn] at e; cases e
  refine I.step (g' := s.gens) (d' := s.drawn) (ch := [it]) (fun b hb => ?_) (fun b o _ _ hc e _ => k b o (fun z => hc (by simp [z])) e) (fun b o _ _ hc e _ => ⟨o.slots, k b o (fun z => hc (by simp [z])) e⟩) (fun _ _ _ _ n => n)
    (fun b o hc e => ⟨o, k b o (fun z => hc (by simp [z])) e⟩) (fun _ _ e => e) (fun _ _ _ e => e) (fun b ps e => ⟨#[], by rw [e]; simp⟩) (fun m hm => ?_) (fun b u e => ?_) I.bare
  · have e : b = it := by simpa using hb
    subst e
    exact ⟨h1, hL, h2, h3⟩
  · obtain ⟨o, es, ep, ho, r⟩ := hm
    exact ⟨o, es, ep, k _ o (Ne.symm hL) ho, r⟩
  · refine (I.hok b u e).stay (fun c v hc q => k c v ?_ q) (fun _ q => q) fun _ _ q => q
    rcases hc with z | z
    · rw [z]; exact nit b u e
    · exact nit c _ z
theorem Inv.tok (I : Inv X pins σ H s) (t : Nat) : Inv X pins σ H { s with toks := t } := I.un (h' := s.heap) (t' := t) Un.refl I.hok
/-- all objects kept -/
theorem Inv.kept {t' : Nat} (I : Inv X pins σ H s) (k : ∀ b u, s.heap.get? b = some u → h'.get? b = some u) : Inv X pins σ H { s with heap := h', toks := t' } := I.un (Un.kept k) (I.hok.kept k)
/-- a new object laid and tracked -/
theorem Inv.laid {a : Addr} {o : HO} {t' : Nat} (I : Inv X pins σ H s) (k : ∀ b u, s.heap.get? b = some u → h'.get? b = some u) (hp : s.heap.objs.size ≤ a) (new : ObjOk X.prog X.w (upd H a o) h' a o) :
    Inv X pins σ (upd H a o) { s with heap := h', toks := t' } := I.un (Un.laid k hp (I.hok.fresh hp)) (I.hok.laid k hp new)
/-- an object written -/
theorem Inv.write {x e : Addr} {o : HO} {t' : Nat} (I : Inv X pins σ H s) (mu : Mut (H x)) (he : e = x ∨ H e = some (.own x)) (k : ∀ b u, b ≠ e → s.heap.get? b = some u → h'.get? b = some u) (heo : ∃ u, h'.get? e = some u)
    (new : ObjOk X.prog X.w (upd H x o) h' x o) : Inv X pins σ (upd H x o) { s with heap := h', toks := t' } := I.un (Un.write mu he k heo) (I.hok.write mu he k heo new)
/-- forgetting slots, pins -/
theorem Inv.weak {σ' : List (Option V)} (I : Inv X pins σ H s) (hl : σ'.length = σ.length) (w : ∀ (i : Nat) v, σ'[i]? = some (some v) → σ[i]? = some (some v)) : Inv X pins σ' H s :=
  ⟨I.ok, I.os, I.bare, I.base, let ⟨m, hn, hl'⟩ := I.loc; ⟨m, hn, fun i x v e1 e2 e3 => hl' i x v e1 (w i v e2) e3⟩, I.cell, I.free, I.freeC, I.pin, I.hok, hl.trans I.len⟩
theorem Inv.pins_of {pins' : List (Addr × Obj)} (I : Inv X pins σ H s) (h : ∀ p ∈ pins', s.heap.get? p.1 = some p.2 ∧ H p.1 = none ∧ p.1 ≠ X.env.locals ∧ p.1 ∉ X.fs ∧ ∀ v, p.2.data ≠ .cell v) : Inv X pins' σ H s :=
  ⟨I.ok, I.os, I.bare, I.base, I.loc, I.cell, I.free, I.freeC, fun p hp => (List.mem_append.mp hp).elim (fun z => I.pin p (List.mem_append_left _ z)) (h p), I.hok, I.len⟩

theorem nodup_ix {N : List Str} (hN : N.Nodup) {i j : Nat} {x : Str} (a : N[i]? = some x) (b : N[j]? = some x) : i = j := by
  obtain ⟨h1, e1⟩ := List.getElem?_eq_some_iff.mp a
  obtain ⟨h2, e2⟩ := List.getElem?_eq_some_iff.mp b
  exact (List.getElem_inj hN).mp (e1.trans e2.symm)

/-- a name is stored; what changed -/
theorem store_ok2 {M : Model} {A : Around} {E : Value → Shared → Prop} {i : Nat} {x : Str} {v : V} {u : Value} {Q : Unit → Shared → Prop} (I : Inv X pins σ H s) (hN : X.N.Nodup) (hi : X.N[i]? = some x) (hx : Loc X.env.scope x) (r : RelV v u)
    (h : ∀ s', Inv X pins (σ.set i (some v)) H s' → (∃ a, Heap.SameBut a s.heap s'.heap ∧ (a = X.env.locals ∨ X.env.cells.lookup x = some a)) → Q () s') (hf : X.fn x = true ∨ X.env.scope.names.lookup x = some .local := by first | exact .inl rfl | exact .inr rfl | assumption) : wpAny M A (storeName X.env x u) Q E s := by
  obtain ⟨m, hn, hl⟩ := id I.loc
  have hcls : (X.env.scope.kind == .class || (X.env.scope.kind == .module && X.env.locals != X.env.globals)) = false := by rw [I.ok.kind]; rfl
  have hiσ : i < σ.length := by rw [I.len]; exact (List.getElem?_eq_some_iff.mp hi).1
  have cne := I.cne
  have tracked : ∀ {a : Addr} {h' : Heap}, (∃ o, s.heap.get? a = some o ∧ H a = none) → Heap.SameBut a s.heap h' → HOk X.prog X.w H h' := fun {a h'} ha hs b ob e => by
    obtain ⟨_, _, hfree⟩ := ha
    refine (I.hok b ob e).stay (fun c w' hc q => (hs.2 c ?_).trans q) (fun _ q => q) fun _ _ q => q
    rintro rfl
    rcases hc with rfl | hc
    · rw [hfree] at e; cases e
    · rw [hfree] at hc; cases hc
  rcases hx with hk | hk
  · refine wpAny_storeName_local hk hn (fun h' hn' hs => ?_) hcls
    obtain ⟨oL, _, _, hoL, _⟩ := id hn
    refine h _ ⟨I.ok, I.os, I.bare, ⟨fun b o e n hb hx => ?_, fun b o e n hb hx => ?_, I.base.free, fun b o e hx => ?_, I.base.tups, I.base.frzs, I.base.tbls⟩, ⟨_, hn', fun j y v' e1 e2 e3 => ?_⟩, fun y c e => ?_, I.free, I.freeC, fun p hp => ?_, tracked ⟨oL, hoL, I.free⟩ hs, by simpa using I.len⟩ ⟨_, hs, .inl rfl⟩
    · exact (hs.2 b (Nat.ne_of_lt (Nat.lt_of_lt_of_le (Heap.lt_size e) I.ok.above))).trans (I.base.keep b o e n hb hx)
    · obtain ⟨sl, e1⟩ := I.base.slot b o e n hb hx
      exact ⟨sl, (hs.2 b (Nat.ne_of_lt (Nat.lt_of_lt_of_le (Heap.lt_size e) I.ok.above))).trans e1⟩
    · obtain ⟨o', e1⟩ := I.base.there b o e hx
      exact ⟨o', (hs.2 b (Nat.ne_of_lt (Nat.lt_of_lt_of_le (Heap.lt_size e) I.ok.above))).trans e1⟩
    · by_cases hj : j = i
      · subst hj
        rw [hi] at e1; cases e1
        rw [List.getElem?_set_self hiσ] at e2
        cases e2
        exact ⟨u, r, .inl ⟨hk, by simp⟩⟩
      · rw [List.getElem?_set_ne (Ne.symm hj)] at e2
        obtain ⟨u', r', q⟩ := hl j y v' e1 e2 e3
        refine ⟨u', r', ?_⟩
        rcases q with ⟨k, e⟩ | ⟨k, c, e, z⟩
        · refine .inl ⟨k, ?_⟩
          have : y ≠ x := fun e => hj (nodup_ix hN e1 (e ▸ hi))
          simp [this, e]
        · exact .inr ⟨k, c, e, z.sameBut hs (cne y c e)⟩
    · obtain ⟨w', z⟩ := I.cell y c e
      exact ⟨w', z.sameBut hs (cne y c e)⟩
    · obtain ⟨e, n, ne, nf, d⟩ := I.pin p hp
      exact ⟨(hs.2 p.1 ne).trans e, n, ne, nf, d⟩
  · have hfn : X.fn x = true := by
      rcases hf with z | z
      · exact z
      · rw [z] at hk; cases hk
    obtain ⟨c, hc⟩ := I.ok.has x (.inl hk)
    obtain ⟨w', z⟩ := I.cell x c hc
    refine wpAny_storeName_cell I.ok.kind hk hc z (fun h' hc' hs => ?_)
    obtain ⟨oc, hoc, hocd⟩ := id z
    refine h { s with heap := h' } ⟨I.ok, I.os, I.bare, ⟨fun b o e n hb hx => ?_, fun b o e n hb hx => ?_, I.base.free, fun b o e hx => ?_, I.base.tups, I.base.frzs, I.base.tbls⟩, ⟨m, hn.sameBut hs (Ne.symm (cne x c hc)), fun j y v' e1 e2 e3 => ?_⟩, fun y c' e => ?_, I.free, I.freeC, fun p hp => ?_, tracked ⟨oc, hoc, I.freeC x c hc⟩ hs, by simpa using I.len⟩ ⟨c, hs, .inr hc⟩
    · exact (hs.2 b (Nat.ne_of_lt (Nat.lt_of_lt_of_le (Heap.lt_size e) (I.ok.cab x c hfn hc)))).trans (I.base.keep b o e n hb hx)
    · obtain ⟨sl, e1⟩ := I.base.slot b o e n hb hx
      exact ⟨sl, (hs.2 b (Nat.ne_of_lt (Nat.lt_of_lt_of_le (Heap.lt_size e) (I.ok.cab x c hfn hc)))).trans e1⟩
    · obtain ⟨o', e1⟩ := I.base.there b o e hx
      exact ⟨o', (hs.2 b (Nat.ne_of_lt (Nat.lt_of_lt_of_le (Heap.lt_size e) (I.ok.cab x c hfn hc)))).trans e1⟩
    · by_cases hj : j = i
      · subst hj
        rw [hi] at e1; cases e1
        rw [List.getElem?_set_self hiσ] at e2
        cases e2
        exact ⟨u, r, .inr ⟨.inl hk, c, hc, hc'⟩⟩
      · rw [List.getElem?_set_ne (Ne.symm hj)] at e2
        obtain ⟨u', r', q⟩ := hl j y v' e1 e2 e3
        refine ⟨u', r', ?_⟩
        rcases q with q | ⟨k, c', e, z'⟩
        · exact .inl q
        · refine .inr ⟨k, c', e, z'.sameBut hs ?_⟩
          rintro rfl
          exact hj (nodup_ix hN e1 (I.ok.inj _ _ _ e hc ▸ hi))
    · by_cases hcc : c' = c
      · subst hcc; exact ⟨_, hc'⟩
      · obtain ⟨w2, z2⟩ := I.cell y c' e
        exact ⟨w2, z2.sameBut hs hcc⟩
    · obtain ⟨e, n, ne, nf, d⟩ := I.pin p hp
      refine ⟨(hs.2 p.1 ?_).trans e, n, ne, nf, d⟩
      intro q
      rw [q, hoc] at e
      have q' : oc = p.2 := Option.some.inj e
      exact d w' (by rw [← q']; exact hocd)
theorem store_ok {M : Model} {A : Around} {E : Value → Shared → Prop} {i : Nat} {x : Str} {v : V} {u : Value} {Q : Unit → Shared → Prop} (I : Inv X pins σ H s) (hN : X.N.Nodup) (hi : X.N[i]? = some x) (hx : Loc X.env.scope x) (r : RelV v u)
    (h : ∀ s', Inv X pins (σ.set i (some v)) H s' → Q () s') (hf : X.fn x = true ∨ X.env.scope.names.lookup x = some .local := by first | exact .inl rfl | exact .inr rfl | assumption) : wpAny M A (storeName X.env x u) Q E s :=
  store_ok2 I hN hi hx r (fun s' I' _ => h s' I') hf
/-- behind a call or a block, the state as it is -/
theorem Inv.call' {s' : Shared} {ch : List Addr} (I : Inv X pins σ H s) (ho : s'.os = s.os) (u : Un (frs X.stack) ch H H' s.heap s'.heap) (hok : HOk X.prog X.w H' s'.heap) (hg : AllBare s'.gens)
    (hch : ∀ b ∈ ch, (b ∈ X.ex ∨ X.s₀.heap.objs.size ≤ b) ∧ b ≠ X.env.locals ∧ (∀ x c, X.env.cells.lookup x = some c → c ≠ b) ∧ ∀ p ∈ X.pn ++ pins, p.1 ≠ b) : Inv X pins σ H' s' := by
  obtain ⟨h', g', d', t', o'⟩ := s'
  have e : o' = s.os := ho
  subst e
  exact I.call (g' := g') (t' := t') (d' := d') u hok hg hch
end

/-! ### the judgements -/
/-- an exception: its class, its own dict's address (where it has one), the abstract heap behind it -/
abbrev XK := Value → Option Addr → Hp → Prop
abbrev St := List (Option V)
abbrev VK := V → Hp → Prop
/-- an expression's reading; a test's; an argument list's -/
abbrev TE := St → Hp → VK → Prop
abbrev TT := St → Hp → (Bool → Hp → Prop) → Prop
abbrev TA := St → Hp → (List V → Hp → Prop) → Prop
/-- what is wanted behind a statement -/
structure Ends where
  nx : St → Hp → Prop
  rt : VK
  bk : St → Hp → Prop := fun _ _ => False
  ct : St → Hp → Prop := fun _ _ => False
abbrev TS := Ends → St → Hp → Prop

def EP (X : Cx) (pins : List (Addr × Obj)) (σ : St) (Q : VK) (u : Value) (s' : Shared) : Prop := ∃ v H', Inv X pins σ H' s' ∧ RelV v u ∧ Q v H'
def TP (X : Cx) (pins : List (Addr × Obj)) (σ : St) (Q : Bool → Hp → Prop) (b : Bool) (s' : Shared) : Prop := ∃ H', Inv X pins σ H' s' ∧ Q b H'
def AP (X : Cx) (pins : List (Addr × Obj)) (σ : St) (Q : List V → Hp → Prop) (us : List Value) (s' : Shared) : Prop := ∃ vs H', Inv X pins σ H' s' ∧ Vals vs us ∧ Q vs H'
def SP (X : Cx) (pins : List (Addr × Obj)) (D : Ends) (f : Flow) (s' : Shared) : Prop :=
  match f with
  | .next => ∃ σ' H', Inv X pins σ' H' s' ∧ D.nx σ' H'
  | .brk => ∃ σ' H', Inv X pins σ' H' s' ∧ D.bk σ' H'
  | .cont => ∃ σ' H', Inv X pins σ' H' s' ∧ D.ct σ' H'
  | .ret u => ∃ v σ' H', Inv X pins σ' H' s' ∧ RelV v u ∧ D.rt v H'

def PE (X : Cx) (e : Expr) (t : TE) : Prop :=
  ∀ (pins : List (Addr × Obj)) (s : Shared) (σ : St) (H : Hp) (Q : VK), Inv X pins σ H s → t σ H Q → wpAny (model X.prog X.w) X.A (eval e X.env) (EP X pins σ Q) X.xe s
def PT (X : Cx) (e : Expr) (t : TT) : Prop :=
  ∀ (pins : List (Addr × Obj)) (s : Shared) (σ : St) (H : Hp) (Q : Bool → Hp → Prop), Inv X pins σ H s → t σ H Q → wpAny (model X.prog X.w) X.A (isTrue e X.env (eval e X.env)) (TP X pins σ Q) X.xe s
/-- a test whatever its 'whole' is (and, or) -/
def PW (X : Cx) (e : Expr) (t : TT) : Prop :=
  ∀ (whole : Sem Value) (pins : List (Addr × Obj)) (s : Shared) (σ : St) (H : Hp) (Q : Bool → Hp → Prop), Inv X pins σ H s → t σ H Q → wpAny (model X.prog X.w) X.A (isTrue e X.env whole) (TP X pins σ Q) X.xe s
theorem PW.pt {X : Cx} {e : Expr} {t : TT} (h : PW X e t) : PT X e t := h _
/-- an argument list (no star), from the left -/
def PA (X : Cx) (es : List Expr) (t : TA) : Prop :=
  ∀ (pos : Pos) (pins : List (Addr × Obj)) (s : Shared) (σ : St) (H : Hp) (Q : List V → Hp → Prop), Inv X pins σ H s → t σ H Q → wpAny (model X.prog X.w) X.A (spliced (backTo pos (starEach es X.env))) (AP X pins σ Q) X.xe s
def PS (X : Cx) (st : Stmt) (t : TS) : Prop :=
  ∀ (pins : List (Addr × Obj)) (s : Shared) (σ : St) (H : Hp) (D : Ends), Inv X pins σ H s → t D σ H → wpAny (model X.prog X.w) X.A (exec st X.env) (SP X pins D) X.xe s
def PSs (X : Cx) (st : List Stmt) (t : TS) : Prop :=
  ∀ (pins : List (Addr × Obj)) (s : Shared) (σ : St) (H : Hp) (D : Ends), Inv X pins σ H s → t D σ H → wpAny (model X.prog X.w) X.A (execs st X.env) (SP X pins D) X.xe s
/-- weaken the end -/
theorem thn {α : Type} {t : Sem α} {Q Q' : α → Shared → Prop} {M : Model} {A : Around} {E : Value → Shared → Prop} {s : Shared} (h : wpAny M A t Q E s) (hQ : ∀ a s, Q a s → Q' a s) : wpAny M A t Q' E s := wpAny_mono h hQ fun _ _ x => x
end L2

namespace L2
open PySem PySem.Spec PyProof.Rows
section
variable {X : Cx}

/-! ### names and constants -/
def tVar (i : Nat) : TE := fun σ H Q => ∃ v, σ[i]? = some (some v) ∧ Q v H
def tC (v : V) : TE := fun _ H Q => Q v H
theorem pe_var {i : Nat} {x : Str} {pos : Pos} (hN : X.N[i]? = some x) (hv : Vis X.env.scope x) (hd : (x == ("__debug__" : Str)) = false := by decide) (hcd : (x == ("__classdict__" : Str)) = false := by decide) : PE X (.Name x pos) (tVar i) := by
  intro pins s σ H Q I h
  obtain ⟨v, e, h⟩ := h
  obtain ⟨m, hn, hl⟩ := I.loc
  obtain ⟨u, r, l⟩ := hl i x v hN e hv
  have fin : EP X pins σ Q u s := ⟨v, H, I, r, h⟩
  rcases l with ⟨hk, hm⟩ | ⟨hk, c, hc, hcell⟩
  · exact wpAny_Name (wpAny_loadName_local I.ok.kind hk hn hm fin) hd
  · rcases hk with hk | hk
    · exact wpAny_Name (wpAny_loadName_cell I.ok.kind hk hc hcell fin) hd
    · exact wpAny_Name (wpAny_loadName_free I.ok.kind hk hc hcell fin hcd) hd
theorem pe_int {i j pos} : PE X (.Constant (.int i) j pos) (tC (.int i)) := fun _ _ _ H _ I h => wpAny_Constant_int ⟨.int i, H, I.tok _, ⟨_, rfl⟩, h⟩
theorem pe_bl {b j pos} : PE X (.Constant (.bool b) j pos) (tC (.bl b)) := fun _ _ _ H _ I h => Constant_bool ⟨.bl b, H, I, rfl, h⟩
theorem pe_str {x j pos} : PE X (.Constant (.str x) j pos) (tC (.str x)) := fun _ _ _ H _ I h => Calls.Constant_str ⟨.str x, H, I.tok _, ⟨_, rfl⟩, h⟩

/-- a global name of the def -/
def Gl (X : Cx) (x : Str) : Prop := X.env.kindOf x = some .globalImplicit
theorem ld_glob {E : Value → Shared → Prop} {pins : List (Addr × Obj)} {s : Shared} {σ : St} {H : Hp} {x : Str} {u : Value} {pos : Pos} {Q : Value → Shared → Prop} (I : Inv X pins σ H s) (hg : Gl X x) (hm : X.mg x = some u) (h : Q u s)
    (hd : (x == ("__debug__" : Str)) = false := by decide) : wpAny (model X.prog X.w) X.A (eval (.Name x pos) X.env) Q E s :=
  Calls.Name_function_global I.ok.kind hg (Calls.loadGlobal_global (by rw [I.ok.glob]; exact I.mod.glob.keeps I.bk) hm h) hd
theorem ld_blt {E : Value → Shared → Prop} {pins : List (Addr × Obj)} {s : Shared} {σ : St} {H : Hp} {x : Str} {u : Value} {pos : Pos} {Q : Value → Shared → Prop} (I : Inv X pins σ H s) (hg : Gl X x) (hm : X.mg x = none) (hv : bootBuiltins x = some u) (h : Q u s)
    (hn : x ≠ "__name__" := by decide) (hd : (x == ("__debug__" : Str)) = false := by decide) : wpAny (model X.prog X.w) X.A (eval (.Name x pos) X.env) Q E s := by
  obtain ⟨mb, h1, h2⟩ := I.mod.blt
  exact Calls.Name_function_global I.ok.kind hg (Calls.loadGlobal_builtin (by rw [I.ok.glob]; exact I.mod.glob.keeps I.bk) hm (by rw [I.ok.blt]; exact h1.keeps I.bk) ((h2 x hn).trans hv) h) hd
theorem pe_bltn {x : Str} {v : V} {u : Value} {pos : Pos} (hg : Gl X x) (hm : X.mg x = none) (hv : bootBuiltins x = some u) (r : RelV v u) (hn : x ≠ "__name__" := by decide) (hd : (x == ("__debug__" : Str)) = false := by decide) : PE X (.Name x pos) (tC v) :=
  fun _ _ _ H _ I h => ld_blt I hg hm hv ⟨v, H, I, r, h⟩ hn hd

/-! ### arithmetic -/
/-- two ints -/
def t2I (ta tb : TE) (k : Int → Int → Hp → Prop) : St → Hp → Prop := fun σ H => ta σ H fun x H1 => tb σ H1 fun y H2 => ∃ i j, x = .int i ∧ y = .int j ∧ k i j H2
def tAdd (ta tb : TE) : TE := fun σ H Q => t2I ta tb (fun i j H2 => Q (.int (i + j)) H2) σ H
def tSub (ta tb : TE) : TE := fun σ H Q => t2I ta tb (fun i j H2 => Q (.int (i - j)) H2) σ H
/-- the left factor below 2^64 -/
def tMul (ta tb : TE) : TE := fun σ H Q => t2I ta tb (fun i j H2 => (-(2 ^ 64) < i ∧ i < 2 ^ 64) ∧ Q (.int (i * j)) H2) σ H
variable {a b : Expr} {ta tb : TE} {pos : Pos}
/-! ### comparisons -/
def PC (X : Cx) (op : CmpOp) (a b : Expr) (t : TE) : Prop :=
  ∀ (pins : List (Addr × Obj)) (s : Shared) (σ : St) (H : Hp) (Q : VK), Inv X pins σ H s → t σ H Q →
    wpAny (model X.prog X.w) X.A (eval a X.env) (fun v s₁ => wpAny (model X.prog X.w) X.A (eval b X.env) (fun u s₂ => wpAny (model X.prog X.w) X.A (compareOp op v u) (EP X pins σ Q) X.xe s₂) X.xe s₁) X.xe s
def tCmp (p : Int → Int → Bool) (ta tb : TE) : TE := fun σ H Q => t2I ta tb (fun i j H2 => Q (.bl (p i j)) H2) σ H
abbrev tLt : TE → TE → TE := tCmp fun i j => decide (i < j)
abbrev tLe : TE → TE → TE := tCmp fun i j => decide (i ≤ j)
abbrev tGt : TE → TE → TE := tCmp fun i j => decide (j < i)
abbrev tGe : TE → TE → TE := tCmp fun i j => decide (j ≤ i)
abbrev tEqI : TE → TE → TE := tCmp fun i j => decide (i = j)
abbrev tNeI : TE → TE → TE := tCmp fun i j => !decide (i = j)
/-- is None -/
def tIsN (ta : TE) : TE := fun σ H Q => ta σ H fun x H1 => Q (.bl (decide (x = .non))) H1
def tNotN (ta : TE) : TE := fun σ H Q => ta σ H fun x H1 => Q (.bl (!decide (x = .non))) H1
/-- a comparison as a value, as a test -/
def tB (t : TE) : TT := fun σ H Q => t σ H fun x H1 => ∃ c, x = .bl c ∧ Q c H1
/-- an expression whose value is a bool, as a test -/
theorem pt_val {e : Expr} {t : TE} (h : PE X e t) (he : ∀ whole, isTrue e X.env whole = (do let v ← whole; standAt e.pos; holding [v] (truthy v)) := by intro _; rfl) : PT X e (tB t) := by
  intro pins s σ H Q I hw
  refine isTrue_plain (thn (h pins s σ H _ I hw) fun v s1 ⟨x, H1, I1, r1, q1⟩ => ?_) (he _)
  obtain ⟨d, rfl, q⟩ := q1
  cases r1
  exact wpAny_truthy_bool ⟨H1, I1, q⟩

/-! ### and, or, not -/
variable {tA tB' : TT} {rest : List Expr}
def tAnd (t u : TT) : TT := fun σ H Q => t σ H fun c H1 => if c = true then u σ H1 Q else Q false H1
def tOr (t u : TT) : TT := fun σ H Q => t σ H fun c H1 => if c = true then Q true H1 else u σ H1 Q
def tNot (t : TT) : TT := fun σ H Q => t σ H fun c H1 => Q (!c) H1
theorem pw_or1 (ha : PT X a tA) : PW X (.BoolOp .Or [a] pos) tA := by
  intro wh pins s σ H Q I h
  refine isTrue_or (thn (ha pins s σ H Q I h) fun c s1 e => ?_)
  cases c with
  | false => exact isTrue_or_nil e
  | true => exact e
theorem pw_or (ha : PT X a tA) (hb : PW X (.BoolOp .Or (b :: rest) pos) tB') : PW X (.BoolOp .Or (a :: b :: rest) pos) (tOr tA tB') := by
  intro wh pins s σ H Q I h
  refine isTrue_or (thn (ha pins s σ H _ I h) fun c s1 ⟨H1, I1, q1⟩ => ?_)
  cases c with
  | true => exact ⟨H1, I1, q1⟩
  | false => exact hb wh pins s1 σ H1 Q I1 q1
theorem pt_not (ha : PT X a tA) : PT X (.UnaryOp .Not a pos) (tNot tA) := by
  intro pins s σ H Q I h
  exact isTrue_not (ha pins s σ H (fun c H1 => Q (!c) H1) I h)
/-- .. as values (bools) -/
def tAndV (ta tb : TE) : TE := fun σ H Q => ta σ H fun x H1 => ∃ c, x = .bl c ∧ if c = true then tb σ H1 Q else Q (.bl false) H1
def tOrV (ta tb : TE) : TE := fun σ H Q => ta σ H fun x H1 => ∃ c, x = .bl c ∧ if c = true then Q (.bl true) H1 else tb σ H1 Q
def tNotV (ta : TE) : TE := fun σ H Q => ta σ H fun x H1 => ∃ c, x = .bl c ∧ Q (.bl (!c)) H1
/-- a if t else b -/
def tIf (t : TT) (ta tb : TE) : TE := fun σ H Q => t σ H fun c H1 => if c = true then ta σ H1 Q else tb σ H1 Q
end
end L2

namespace L2
open PySem PySem.Spec PyProof.Rows

/-! ### a list, a tuple that is read: tracked, frozen, or an object of the module -/
def SqL (K : PySem.W.Frag) (H : Hp) (a : Addr) (xs : List V) : Prop :=
  Rd H a (.lst xs) ∨
    ∃ (o : Obj) (its : Array Value) (n : Nat), K.lookup a = some o ∧ o.cls = .type "list" ∧ o.dict = none ∧ o.data = .seq its n ∧ its.size ≤ sizeLine ∧ Vals xs its.toList ∧ ∀ x ∈ xs, x.nc
def SqT (K : PySem.W.Frag) (H : Hp) (a : Addr) (xs : List V) : Prop :=
  Rd H a (.tup xs) ∨
    ∃ (o : Obj) (its : Array Value) (n : Nat), K.lookup a = some o ∧ o.cls = .type "tuple" ∧ o.data = .seq its n ∧ its.size ≤ sizeLine ∧ Vals xs its.toList ∧ ∀ x ∈ xs, x.nc
def absV : Value → Option V
  | .none => some .non
  | .bool b => some (.bl b)
  | .int i _ => some (.int i)
  | .str x _ => some (.str x)
  | .bytes b _ => some (.byt b)
  | .float b _ => some (.flt b)
  | .ref a => some (.ref a)
  | .type n => some (.ty n)
  | _ => none
theorem RelV.abs {x : V} {u : Value} (r : RelV x u) (hx : x.nc) : absV u = some x := by
  cases x with
  | cel _ => exact hx.elim
  | non => cases r; rfl
  | bl _ => cases r; rfl
  | int _ => obtain ⟨t, rfl⟩ := r; rfl
  | str _ => obtain ⟨t, rfl⟩ := r; rfl
  | byt _ => obtain ⟨t, rfl⟩ := r; rfl
  | flt _ => obtain ⟨t, rfl⟩ := r; rfl
  | ref _ => cases r; rfl
  | ty _ => cases r; rfl
theorem RelV.inj {x y : V} {u : Value} (r : RelV x u) (q : RelV y u) (hx : x.nc) (hy : y.nc) : x = y := Option.some.inj ((r.abs hx).symm.trans (q.abs hy))
theorem Vals.inj : ∀ {xs ys : List V} {us : List Value}, Vals xs us → Vals ys us → (∀ x ∈ xs, x.nc) → (∀ y ∈ ys, y.nc) → xs = ys
  | _, _, _, .nil, .nil, _, _ => rfl
  | _, _, _, .cons r t, .cons r' t', hx, hy => by rw [r.inj r' (hx _ List.mem_cons_self) (hy _ List.mem_cons_self), Vals.inj t t' (fun x h => hx x (List.mem_cons_of_mem _ h)) fun y h => hy y (List.mem_cons_of_mem _ h)]
section
variable {X : Cx} {pins : List (Addr × Obj)} {σ : St} {H : Hp} {s : Shared} {a : Addr} {xs ys : List V}
theorem SqL.of {K : PySem.W.Frag} (h : H a = some (.lst xs)) : SqL K H a xs := .inl (.inl h)
theorem SqT.of {K : PySem.W.Frag} (h : H a = some (.tup xs)) : SqT K H a xs := .inl (.inl h)
theorem Inv.list (I : Inv X pins σ H s) (h : SqL X.K H a xs) : ∃ its : List Value, Vals xs its ∧ PlainL s.heap a its.toArray ∧ xs.length ≤ sizeLine := by
  rcases h with h | ⟨o, its, n, hk, hc, hd, hs, hz, r, _⟩
  · obtain ⟨z, its, n, r, e⟩ := h.ok I.hok
    exact ⟨its, r, ⟨_, n, e, rfl, rfl, rfl⟩, z⟩
  · refine ⟨its.toList, r, ⟨o, n, I.kIn a o hk, hc, hd, by simpa using hs⟩, ?_⟩
    have e := r.length
    simp only [Array.length_toList] at e
    omega
theorem Inv.tuple (I : Inv X pins σ H s) (h : SqT X.K H a xs) : ∃ its : List Value, Vals xs its ∧ IsTup s.heap a its.toArray ∧ xs.length ≤ sizeLine := by
  rcases h with h | ⟨o, its, n, hk, hc, hs, hz, r, _⟩
  · obtain ⟨z, its, r, p⟩ := h.ok I.hok
    exact ⟨its, r, p, z⟩
  · refine ⟨its.toList, r, ⟨o, I.kIn a o hk, hc, n, by simpa using hs⟩, ?_⟩
    have e := r.length
    simp only [Array.length_toList] at e
    omega
theorem Rd.one {u u' : HO} (h : Rd H a u) (h' : Rd H a u') (n : ∀ o v, u ≠ .frz o v) (n' : ∀ o v, u' ≠ .frz o v) : u = u' := by
  rcases h with h | ⟨o, h⟩ <;> rcases h' with h' | ⟨o', h'⟩ <;> rw [h] at h' <;> cases h'
  · rfl
  · exact absurd rfl (n _ _)
  · exact absurd rfl (n' _ _)
  · rfl
theorem Inv.noconst (I : Inv X pins σ H s) {u : HO} {o : Obj} (h : Rd H a u) (hk : X.K.lookup a = some o) : False := by
  have := (I.bs a o (I.mod.kin a o hk)).2
  rcases h with h | ⟨_, h⟩ <;> (rw [h] at this; cases this)
theorem Inv.list_inj (I : Inv X pins σ H s) (h : SqL X.K H a xs) (h' : SqL X.K H a ys) : xs = ys := by
  rcases h with h | ⟨o, its, n, hk, hc, hd, hs, hz, r, hn⟩ <;> rcases h' with h' | ⟨o', its', n', hk', hc', hd', hs', hz', r', hn'⟩
  · have := Rd.one h h' (fun _ _ z => by cases z) (fun _ _ z => by cases z)
    cases this; rfl
  · exact (I.noconst h hk').elim
  · exact (I.noconst h' hk).elim
  · rw [hk] at hk'; cases hk'
    rw [hs] at hs'; cases hs'
    exact r.inj r' hn hn'
end

/-! ### another wish about exceptions -/
abbrev Cx.wish (X : Cx) (E : Value → Shared → Prop) : Cx := { X with xe := E }
/-- no exception leaves -/
abbrev Cx.nox (X : Cx) : Cx := X.wish fun _ _ => False
theorem Cx.Ok.wish {X : Cx} (ok : X.Ok) (E : Value → Shared → Prop) : (X.wish E).Ok :=
  ⟨ok.mod, ok.kind, ok.glob, ok.blt, ok.above, ok.inj, ok.has, ok.cab, ok.hd, ok.frames, ok.stk, ok.exf, ok.bs, ok.bsz, ok.noex, ok.exfs, ok.funs, ok.frf⟩
theorem Cx.Ok.unwish {X : Cx} {E : Value → Shared → Prop} (ok : (X.wish E).Ok) : X.Ok :=
  ⟨ok.mod, ok.kind, ok.glob, ok.blt, ok.above, ok.inj, ok.has, ok.cab, ok.hd, ok.frames, ok.stk, ok.exf, ok.bs, ok.bsz, ok.noex, ok.exfs, ok.funs, ok.frf⟩
section
variable {X : Cx} {pins : List (Addr × Obj)} {σ : St} {H : Hp} {s : Shared} {E : Value → Shared → Prop}
theorem Inv.wish (I : Inv X pins σ H s) (E : Value → Shared → Prop) : Inv (X.wish E) pins σ H s := ⟨I.ok.wish E, I.os, I.bare, I.base, I.loc, I.cell, I.free, I.freeC, I.pin, I.hok, I.len⟩
theorem Inv.unwish (I : Inv (X.wish E) pins σ H s) : Inv X pins σ H s := ⟨I.ok.unwish, I.os, I.bare, I.base, I.loc, I.cell, I.free, I.freeC, I.pin, I.hok, I.len⟩
theorem SP.unwish {D : Ends} {f : Flow} {s' : Shared} (h : SP (X.wish E) pins D f s') : SP X pins D f s' := by
  cases f with
  | next => obtain ⟨σ', H', I, q⟩ := h; exact ⟨σ', H', I.unwish, q⟩
  | brk => obtain ⟨σ', H', I, q⟩ := h; exact ⟨σ', H', I.unwish, q⟩
  | cont => obtain ⟨σ', H', I, q⟩ := h; exact ⟨σ', H', I.unwish, q⟩
  | ret u => obtain ⟨v, σ', H', I, r, q⟩ := h; exact ⟨v, σ', H', I.unwish, r, q⟩
theorem PE.nox {e : Expr} {t : TE} (h : PE X.nox e t) : PE X e t := fun pins s σ H Q I hw =>
  wpAny_mono (h pins s σ H Q (I.wish _) hw) (fun _ _ ⟨v, H', I', r, q⟩ => ⟨v, H', I'.unwish, r, q⟩) fun _ _ z => False.elim z
theorem PT.nox {e : Expr} {t : TT} (h : PT X.nox e t) : PT X e t := fun pins s σ H Q I hw =>
  wpAny_mono (h pins s σ H Q (I.wish _) hw) (fun _ _ ⟨H', I', q⟩ => ⟨H', I'.unwish, q⟩) fun _ _ z => False.elim z
theorem PSs.nox {st : List Stmt} {t : TS} (h : PSs X.nox st t) : PSs X st t := fun pins s σ H D I hw =>
  wpAny_mono (h pins s σ H D (I.wish _) hw) (fun _ _ q => q.unwish) fun _ _ z => False.elim z
end

/-! ### blocks and small statements -/
section
variable {X : Cx} {st : Stmt} {rest : List Stmt} {t u : TS} {e : Expr} {te : TE} {pos : Pos}
def tNext : TS := fun D σ H => D.nx σ H
def tSeq (t u : TS) : TS := fun D σ H => t { D with nx := u D } σ H
theorem pss_nil : PSs X [] tNext := fun _ _ σ H _ I h => wpAny_execs_nil ⟨σ, H, I, h⟩
theorem pss_cons (h1 : PS X st t) (h2 : PSs X rest u) : PSs X (st :: rest) (tSeq t u) := by
  intro pins s σ H D I h
  refine wpAny_execs_cons (thn (h1 pins s σ H { D with nx := u D } I h) fun f s1 q => ?_)
  cases f with
  | next =>
    obtain ⟨σ', H', I', q⟩ := q
    exact h2 pins s1 σ' H' D I' q
  | ret v => exact q
  | brk => exact q
  | cont => exact q
theorem pss_one (h1 : PS X st t) : PSs X [st] t := by
  intro pins s σ H D I h
  refine wpAny_execs_cons (thn (h1 pins s σ H D I h) fun f s1 q => ?_)
  cases f with
  | next => exact wpAny_execs_nil q
  | ret v => exact q
  | brk => exact q
  | cont => exact q
def tBreak : TS := fun D σ H => D.bk σ H
def tCont : TS := fun D σ H => D.ct σ H
/-- in a def's body nothing is shown -/
theorem Inv.quiet {pins : List (Addr × Obj)} {σ : St} {H : Hp} {s : Shared} (I : Inv X pins σ H s) : interactive X.env = false := by simp [interactive, I.ok.kind]
/-- an expression whose value is dropped -/
def tDrop (te : TE) : TS := fun D σ H => te σ H fun _ H1 => D.nx σ H1
theorem ps_expr (he : PE X e te) (hs : swapsWith e none pos.line X.env = pure false := by rfl) : PS X (.Expr e pos) (tDrop te) := by
  intro pins s σ H D I h
  exact wpAny_Expr_any (thn (he pins s σ H _ I h) fun v s1 ⟨x, H1, I1, r1, q1⟩ => ⟨σ, H1, I1, q1⟩) I.quiet hs
def tRet (te : TE) : TS := fun D σ H => te σ H D.rt
theorem ps_ret (he : PE X e te) : PS X (.Return (some e) pos) (tRet te) := by
  intro pins s σ H D I h
  exact wpAny_Return_some (thn (he pins s σ H _ I h) fun v s1 ⟨x, H1, I1, r1, q1⟩ => ⟨x, σ, H1, I1, r1, q1⟩)
def tRetN : TS := fun D _ H => D.rt .non H
def tIfS (c : TT) (t u : TS) : TS := fun D σ H => c σ H fun b H1 => if b = true then t D σ H1 else u D σ H1
theorem ps_if {c : Expr} {a b : List Stmt} {tc : TT} (hc : PT X c tc) (ha : PSs X a t) (hb : PSs X b u) : PS X (.If c a b pos) (tIfS tc t u) := by
  intro pins s σ H D I h
  refine wpAny_If (thn (hc pins s σ H _ I h) fun d s1 ⟨H1, I1, q1⟩ => ?_)
  cases d with
  | true => exact ha pins s1 σ H1 D I1 q1
  | false => exact hb pins s1 σ H1 D I1 q1
/-- code that the proof never comes to -/
def tNever : TS := fun _ _ _ => False
end

/-! ### targets -/
abbrev TG := V → St → Hp → (St → Hp → Prop) → Prop
abbrev TGs := List V → St → Hp → (St → Hp → Prop) → Prop
def PG (X : Cx) (target : Expr) (t : TG) : Prop :=
  ∀ (pins : List (Addr × Obj)) (s : Shared) (σ : St) (H : Hp) (v : V) (u : Value) (Q : St → Hp → Prop), Inv X pins σ H s → RelV v u → t v σ H Q →
    wpAny (model X.prog X.w) X.A (assign target X.env u) (fun _ s' => ∃ σ' H', Inv X pins σ' H' s' ∧ Q σ' H') X.xe s
/-- several targets, one after another -/
def PGs (X : Cx) (ts : List Expr) (t : TGs) : Prop :=
  ∀ (pins : List (Addr × Obj)) (s : Shared) (σ : St) (H : Hp) (vs : List V) (us : List Value) (Q : St → Hp → Prop), Inv X pins σ H s → Vals vs us → t vs σ H Q →
    wpAny (model X.prog X.w) X.A (assignInOrder ((assignEach ts X.env).map (·.2)) us) (fun _ s' => ∃ σ' H', Inv X pins σ' H' s' ∧ Q σ' H') X.xe s
/-- o[i] = v, by values -/
abbrev TSet := V → V → V → Hp → (Hp → Prop) → Prop
def PSet (X : Cx) (t : TSet) : Prop :=
  ∀ (pins : List (Addr × Obj)) (s : Shared) (σ : St) (H : Hp) (o i v : V) (ov iv u : Value) (Q : Hp → Prop), Inv X pins σ H s → RelV o ov → RelV i iv → RelV v u → t o i v H Q →
    wpAny (model X.prog X.w) X.A (setItem ov iv u) (fun _ s' => ∃ H', Inv X pins σ H' s' ∧ Q H') X.xe s
/-- a op= b, by values -/
abbrev TIp := V → V → Hp → VK → Prop
def PIp (X : Cx) (op : Operator) (t : TIp) : Prop :=
  ∀ (pins : List (Addr × Obj)) (s : Shared) (σ : St) (H : Hp) (x y : V) (v u : Value) (Q : VK), Inv X pins σ H s → RelV x v → RelV y u → t x y H Q →
    wpAny (model X.prog X.w) X.A (inplaceOp op v u) (EP X pins σ Q) X.xe s
section
variable {X : Cx} {pos : Pos}
def gName (i : Nat) : TG := fun v σ H Q => Q (σ.set i (some v)) H
theorem pg_name {i : Nat} {x : Str} (hN : X.N.Nodup) (hi : X.N[i]? = some x) (hx : Loc X.env.scope x) (hf : X.fn x = true ∨ X.env.scope.names.lookup x = some .local := by first | exact .inl rfl | exact .inr rfl | assumption) : PG X (.Name x pos) (gName i) := by
  intro pins s σ H v u Q I r h
  exact wpAny_assign_Name (store_ok I hN hi hx r (fun s' I' => ⟨_, H, I', h⟩) hf)
def gNil : TGs := fun vs σ H Q => vs = [] ∧ Q σ H
def gCons (t : TG) (u : TGs) : TGs := fun vs σ H Q => ∃ v r, vs = v :: r ∧ t v σ H fun σ' H' => u r σ' H' Q
theorem pgs_nil : PGs X [] gNil := by
  intro pins s σ H vs us Q I r h
  obtain ⟨e, h⟩ := h
  subst e
  cases r
  exact assignInOrder_nil ⟨σ, H, I, h⟩
theorem pgs_cons {e : Expr} {es : List Expr} {t : TG} {u : TGs} (h1 : PG X e t) (h2 : PGs X es u)
    (hs : (assignEach (e :: es) X.env).map (·.2) = assign e X.env :: (assignEach es X.env).map (·.2) := by rfl) : PGs X (e :: es) (gCons t u) := by
  intro pins s σ H vs us Q I r h
  obtain ⟨v, vr, e1, h⟩ := h
  subst e1
  cases r with
  | cons r rr =>
    rw [hs]
    refine assignInOrder_cons (thn (h1 pins s σ H _ _ _ I r h) fun _ s1 ⟨σ1, H1, I1, q1⟩ => ?_)
    exact h2 pins s1 σ1 H1 _ _ Q I1 rr q1
/-- (a, b, ..) = a tuple of that length -/
def gTup (K : PySem.W.Frag) (n : Nat) (t : TGs) : TG := fun v σ H Q => ∃ a xs, v = .ref a ∧ SqT K H a xs ∧ xs.length = n ∧ t xs σ H Q
theorem pg_tup {es : List Expr} {k : Nat} {t : TGs} {n : Nat} (hc : X.calm = true) (h : PGs X es t)
    (hn : (assignEach es X.env).length = n := by rfl) (hst : (assignEach es X.env).findIdx? (·.1) = none := by rfl) : PG X (.Tuple es k pos) (gTup X.K n t) := by
  intro pins s σ H v u Q I r hw
  obtain ⟨a, xs, e1, hq, hl, hw⟩ := hw
  subst e1
  cases r
  obtain ⟨its, rv, ht, hz⟩ := I.tuple hq
  refine assign_Tuple_tuple (I.ok.hd hc) ht (by simp [hn, ← hl, rv.length]) hst fun h' hx => ?_
  have I1 : Inv X pins σ H { s with heap := h' } := I.kept (t' := s.toks) fun b o e => hx b o (Nat.ne_of_lt (Heap.lt_size e)) e
  exact h pins _ σ H xs _ Q I1 (by simpa using rv) hw
/-- o[i] = .. -/
def gSub (to ti : TE) (t : TSet) : TG := fun v σ H Q => to σ H fun o H1 => ti σ H1 fun i H2 => t o i v H2 fun H3 => Q σ H3
theorem pg_sub {o i : Expr} {to ti : TE} {t : TSet} (ho : PE X o to) (hi : PE X i ti) (hs : PSet X t)
    (ha : ∀ v, assign (.Subscript o i pos) X.env v = (do
      let ov ← holding [v] (eval o X.env)
      let iv ← holding [v, ov] (eval i X.env)
      standAt pos
      holding [v, ov, iv] (setItem ov iv v)
      release [v, ov, iv] []) := by intro _; rfl) : PG X (.Subscript o i pos) (gSub to ti t) := by
  intro pins s σ H v u Q I r h
  rw [ha]
  refine wpAny_bind (wpAny_holding (thn (ho pins s σ H _ I h) fun ov s1 ⟨x, H1, I1, r1, q1⟩ => ?_))
  refine wpAny_bind (wpAny_holding (thn (hi pins s1 σ H1 _ I1 q1) fun iv s2 ⟨y, H2, I2, r2, q2⟩ => ?_))
  refine wpAny_bind (wpAny_standAt (wpAny_bind (wpAny_holding (thn (hs pins s2 σ H2 x y v ov iv u _ I2 r1 r2 r q2) fun _ s3 ⟨H3, I3, q3⟩ => ?_))))
  exact wpAny_release ⟨σ, H3, I3, q3⟩
/-- target = value -/
def tAsg (te : TE) (g : TG) : TS := fun D σ H => te σ H fun x H1 => g x σ H1 D.nx
theorem ps_asg {tg e : Expr} {te : TE} {g : TG} (he : PE X e te) (hg : PG X tg g) (hs : swapsWithSole [tg] e pos.line X.env = pure false := by rfl) (hw : swappedStores [tg] e X.env = pure none := by rfl)
    (h1 : (assignEach [tg] X.env).map (·.2) = [assign tg X.env] := by rfl) : PS X (.Assign [tg] e pos) (tAsg te g) := by
  intro pins s σ H D I h
  refine wpAny_Assign_stores (thn (he pins s σ H _ I h) fun v s1 ⟨x, H1, I1, r1, q1⟩ => ?_) hs hw
  rw [h1]
  exact thn (hg pins s1 σ H1 x v _ I1 r1 q1) fun _ s2 q => q
/-- name = value -/
theorem ps_set {i : Nat} {x : Str} {e : Expr} {te : TE} {pos' : Pos} (hN : X.N.Nodup) (hi : X.N[i]? = some x) (hx : Loc X.env.scope x) (he : PE X e te) (hs : swapsWith e (some (.Name x pos')) pos.line X.env = pure false := by rfl) (hf : X.fn x = true ∨ X.env.scope.names.lookup x = some .local := by first | exact .inl rfl | exact .inr rfl | assumption) :
    PS X (.Assign [.Name x pos'] e pos) (tAsg te (gName i)) := by
  intro pins s σ H D I h
  refine wpAny_Assign_Name (thn (he pins s σ H _ I h) fun v s1 ⟨y, H1, I1, r1, q1⟩ => ?_) hs
  exact store_ok I1 hN hi hx r1 (fun s2 I2 => ⟨_, H1, I2, q1⟩) hf
/-- a, b = x, y with plain local names: stored from the right; the pair itself is not tracked (the opening rows as in PyProof/Rows/TupAssign.lean:23) -/
def tPar (i j : Nat) (ta : TA) : TS := fun D σ H => ta σ H fun vs H1 => ∃ v w, vs = [v, w] ∧ D.nx ((σ.set i (some v)).set j (some w)) H1
/-- name op= e -/
def tAug (i : Nat) (te : TE) (ti : TIp) : TS := fun D σ H => ∃ x, σ[i]? = some (some x) ∧ te σ H fun y H1 => ti x y H1 fun z H2 => D.nx (σ.set i (some z)) H2
/-- o[i] op= e -/
def tAugS (to ti te : TE) (tget : V → V → Hp → VK → Prop) (tip : TIp) (tset : TSet) : TS := fun D σ H => to σ H fun o H1 => ti σ H1 fun i H2 => tget o i H2 fun x H3 => te σ H3 fun y H4 => tip x y H4 fun z H5 => tset o i z H5 fun H6 => D.nx σ H6
/-- o[i], by values -/
def PGet (X : Cx) (t : V → V → Hp → VK → Prop) : Prop :=
  ∀ (pins : List (Addr × Obj)) (s : Shared) (σ : St) (H : Hp) (o i : V) (ov iv : Value) (Q : VK), Inv X pins σ H s → RelV o ov → RelV i iv → t o i H Q →
    wpAny (model X.prog X.w) X.A (getItem ov iv) (EP X pins σ Q) X.xe s
/-- ints -/
def ipI (f : Int → Int → Int) : TIp := fun x y H Q => ∃ i j, x = .int i ∧ y = .int j ∧ Q (.int (f i j)) H
end

/-! ### while -/
section
variable {X : Cx} {pos : Pos}
/-- the invariant W with its measure -/
def tWhile (c : TT) (tb : TS) : TS := fun D σ H => ∃ W : Nat → St → Hp → Prop, (∃ m, W m σ H) ∧ ∀ m σ H, W m σ H →
  c σ H fun b H1 => if b = true then ∃ N : St → Hp → Prop, (∀ σ' H', N σ' H' → ∃ m', m' < m ∧ W m' σ' H') ∧ tb { D with nx := N, ct := N, bk := D.nx } σ H1 else D.nx σ H1
end

/-! ### what a loop or a comprehension walks -/
/-- at turn i: it yields x (the heap may grow), or it stops -/
structure It where
  go : Nat → Hp → Prop
  yld : Nat → Hp → V → Hp → Prop
  stop : Nat → Hp → Prop
/-- the iterator's own objects may turn: they are not the frame's, not pinned, younger than the entry (or a comprehension's own) -/
def FpOk (X : Cx) (pins : List (Addr × Obj)) (H : Hp) (b : Addr) : Prop :=
  H b = none ∧ b ≠ X.env.locals ∧ b ∉ X.fs ∧ (b ∈ X.ex ∨ X.s₀.heap.objs.size ≤ b) ∧ (∀ x c, X.env.cells.lookup x = some c → c ≠ b) ∧ ∀ p ∈ X.pn ++ pins, p.1 ≠ b
theorem Inv.fpOk {X : Cx} {pins : List (Addr × Obj)} {σ : St} {H H' : Hp} {s : Shared} {b : Addr} (I : Inv X pins σ H s) (hb : s.heap.objs.size ≤ b) (hn : H' b = none) : FpOk X pins H' b := by
  refine ⟨hn, Nat.ne_of_gt (Nat.lt_of_lt_of_le I.lt hb), I.nofs hb, .inr (Nat.le_trans I.sz hb), fun x c e z => ?_, fun p hp z => ?_⟩
  · obtain ⟨v, q⟩ := I.cell x c e
    exact absurd (Nat.lt_of_lt_of_le q.lt (by rw [z]; exact hb)) (Nat.lt_irrefl _)
  · exact absurd (Nat.lt_of_lt_of_le (Heap.lt_size (I.pin p hp).1) (by rw [z]; exact hb)) (Nat.lt_irrefl _)
structure Turn (P : Program) (w : World) (K : PySem.W.Frag) (tg : Expr) (J : It) (fp : List Addr) (it : Addr) (tn : Nat → Heap → Prop) : Prop where
  mem : it ∈ fp
  obj : ∀ i h, tn i h → ∀ b ∈ fp, ∃ o, h.get? b = some o ∧ ∀ v, o.data ≠ .cell v
  keep : ∀ i h h', tn i h → (∀ b ∈ fp, ∀ o, h.get? b = some o → h'.get? b = some o) → tn i h'
  item : ∀ (X : Cx), X.prog = P → X.w = w → X.K = K → X.calm = true → ∀ (i : Nat) (pins : List (Addr × Obj)) (s : Shared) (σ : St) (H : Hp) (E : Value → Shared → Prop), Inv X pins σ H s → (∀ b ∈ fp, FpOk X pins H b) → tn i s.heap → J.go i H →
    wpAny (model P w) X.A (pyNext (.ref it)) (fun r s1 => ∃ u, r = some u ∧
      wpAny (model P w) X.A (letOwnedTupleGo tg (.ref it) u) (fun _ s2 => ∃ x H', Inv X pins σ H' s2 ∧ RelV x u ∧ J.yld i H x H' ∧ tn (i + 1) s2.heap ∧ ∀ b ∈ fp, H' b = none) E s1) E s
  done : ∀ (X : Cx), X.prog = P → X.w = w → X.K = K → X.calm = true → ∀ (i : Nat) (pins : List (Addr × Obj)) (s : Shared) (σ : St) (H : Hp) (E : Value → Shared → Prop), Inv X pins σ H s → (∀ b ∈ fp, FpOk X pins H b) → tn i s.heap → J.stop i H →
    wpAny (model P w) X.A (pyNext (.ref it)) (fun r s1 => r = none ∧ Inv X pins σ H s1) E s
  self : ∀ (A : Around) (i : Nat) (s : Shared) (Q : Value → Shared → Prop) (E : Value → Shared → Prop), tn i s.heap → Q (.ref it) s → wpAny (model P w) A (pyIter (.ref it)) Q E s
abbrev TI := St → Hp → (It → Hp → Prop) → Prop
/-- an iterator has come -/
def PIE (X : Cx) (pins : List (Addr × Obj)) (σ : St) (tg : Expr) (R : It → Hp → Prop) (itv : Value) (s2 : Shared) : Prop :=
  ∃ (it : Addr) (fp : List Addr) (tn : Nat → Heap → Prop) (J : It) (H' : Hp), itv = .ref it ∧ Inv X pins σ H' s2 ∧ Turn X.prog X.w X.K tg J fp it tn ∧ tn 0 s2.heap ∧ (∀ b ∈ fp, FpOk X pins H' b) ∧ R J H'
def PI (X : Cx) (tg iter : Expr) (wi : TI) : Prop :=
  ∀ (pins : List (Addr × Obj)) (s : Shared) (σ : St) (H : Hp) (R : It → Hp → Prop), Inv X pins σ H s → wi σ H R →
    wpAny (model X.prog X.w) X.A (eval iter X.env) (fun v s1 => wpAny (model X.prog X.w) X.A (pyIter v) (PIE X pins σ tg R) X.xe s1) X.xe s

/-- the step ahead of the store is nothing for an iterator that keeps no tuple -/
theorem go_of {M : Model} {A : Around} {E : Value → Shared → Prop} {s : Shared} {tg : Expr} {it : Addr} {u : Value} {o : Obj} {n : String} {vs : Array Value} {Q : Unit → Shared → Prop} (ho : s.heap.get? it = some o) (hc : o.cls = .type n) (hd : o.data = .fields vs)
    (hn : ["enumerate", "zip", "dict_itemiterator", "dict_reverseitemiterator", "odict_iterator", "itertools.zip_longest", "itertools.pairwise"].contains n = false) (hQ : Q () s) : wpAny M A (letOwnedTupleGo tg (.ref it) u) Q E s := by
  unfold letOwnedTupleGo
  cases tg <;> first
    | exact wpAny_pure hQ
    | (cases u <;> first
        | exact wpAny_pure hQ
        | (refine wpAny_bind (wpAny_load ho ?_)
           rw [hc, hd]
           show wpAny M A (if (["enumerate", "zip", "dict_itemiterator", "dict_reverseitemiterator", "odict_iterator", "itertools.zip_longest", "itertools.pairwise"].contains n && vs[0]? == some (rawInt _)) = true then _ else _) Q E s
           rw [if_neg (by intro h; rw [hn, Bool.false_and] at h; cases h)]
           exact wpAny_pure hQ))

/-- the list at a, as it stands at each turn (a loop may append to it) -/
def Itl (K : PySem.W.Frag) (a : Addr) : It :=
  ⟨fun i H => ∃ xs x, SqL K H a xs ∧ xs[i]? = some x, fun i H x H' => H' = H ∧ ∀ xs, SqL K H a xs → xs[i]? = some x, fun i H => ∃ xs, SqL K H a xs ∧ xs.length ≤ i⟩
def Itt (K : PySem.W.Frag) (a : Addr) : It :=
  ⟨fun i H => ∃ xs x, SqT K H a xs ∧ xs[i]? = some x, fun i H x H' => H' = H ∧ ∀ xs, SqT K H a xs → xs[i]? = some x, fun i H => ∃ xs, SqT K H a xs ∧ xs.length ≤ i⟩
/-- lo, lo + 1, .. (n of them) -/
def Itr (lo : Int) (n : Nat) : It := ⟨fun i _ => i < n, fun i H x H' => H' = H ∧ x = .int (lo + i), fun i _ => n ≤ i⟩
theorem turn_list {P : Program} {w : World} {K : PySem.W.Frag} {tg : Expr} (a it : Addr) : Turn P w K tg (Itl K a) [it] it (fun i h => h.IsListIter it a i) where
  mem := by simp
  obj := fun i h st b hb => by
    have e : b = it := by simpa using hb
    subst e
    obtain ⟨o, e, c, d⟩ := st
    exact ⟨o, e, fun v z => by rw [d] at z; cases z⟩
  keep := fun i h h' st k => st.at fun o e => k it (by simp) o e
  item := by
    intro X hP hw hK hc i pins s σ H E I hf st hg
    subst hP hw hK
    obtain ⟨xs, x, hq, hx⟩ := hg
    obtain ⟨its, rv, p, hz⟩ := I.list hq
    obtain ⟨u, hu, ru⟩ := rv.get hx
    obtain ⟨f0, f1, f2, f3, f4, f5⟩ := hf it (by simp)
    refine wpAny_pyNext_list_item st p.isList (x := u) (by simpa using hu) fun h' st' sb => ?_
    have I1 : Inv X pins σ H { s with heap := h' } := I.turned (t' := s.toks) (fun b o hb e => (sb.2 b hb).trans e) f0 f1 f3 f4 f5
    obtain ⟨o, e, c, d⟩ := id st'
    exact ⟨u, rfl, go_of (s := { s with heap := h' }) e c d (by decide) ⟨x, H, I1, ru, ⟨rfl, fun ys hy => by rw [I.list_inj hy hq]; exact hx⟩, st', fun b hb => (hf b hb).1⟩⟩
  done := by
    intro X hP hw hK hc i pins s σ H E I hf st hg
    subst hP hw hK
    obtain ⟨xs, hq, hx⟩ := hg
    obtain ⟨its, rv, p, hz⟩ := I.list hq
    obtain ⟨f0, f1, f2, f3, f4, f5⟩ := hf it (by simp)
    have hl := rv.length
    exact wpAny_pyNext_list_end (I.ok.hd hc) st p.isList (by simp; omega) fun h' eb => ⟨rfl, I.turned (t' := s.toks) (fun b o hb e => eb b o hb e) f0 f1 f3 f4 f5⟩
  self := fun _ _ _ _ _ st h => wpAny_pyIter_listiter st h
theorem turn_range {P : Program} {w : World} {K : PySem.W.Frag} {tg : Expr} (it : Addr) (lo : Int) (n : Nat) : Turn P w K tg (Itr lo n) [it] it (fun i h => IsRangeIter h it (lo + (i : Nat) * 1) ((n : Int) - (i : Nat)) 1) where
  mem := by simp
  obj := fun i h st b hb => by
    have e : b = it := by simpa using hb
    subst e
    exact ⟨_, st, fun v z => by
      have z' : Data.fields _ = Data.cell v := z
      cases z'⟩
  keep := fun i h h' st k => k it (by simp) _ st
  item := by
    intro X hP hw hK hc i pins s σ H E I hf st hg
    subst hP hw hK
    obtain ⟨f0, f1, f2, f3, f4, f5⟩ := hf it (by simp)
    have W := Walks.range (prog := X.prog) (w := X.w) (I.ok.hd hc) it lo 1 n
    refine W.item i s _ _ hg st fun v h' tk hv st' kk => ?_
    obtain ⟨t, rfl⟩ := hv
    have I1 : Inv X pins σ H { s with heap := h', toks := tk } := I.turned (fun b o hb e => kk b o (by simpa using hb) e) f0 f1 f3 f4 f5
    refine ⟨_, rfl, go_of (s := { s with heap := h', toks := tk }) (n := "range_iterator") st' rfl rfl (by decide) ⟨.int (lo + i), H, I1, ⟨t, ?_⟩, ⟨rfl, rfl⟩, st', fun b hb => (hf b hb).1⟩⟩
    rw [Int.mul_one]
  done := by
    intro X hP hw hK hc i pins s σ H E I hf st hg
    subst hP hw hK
    obtain ⟨f0, f1, f2, f3, f4, f5⟩ := hf it (by simp)
    exact wpAny_pyNext_range_end (I.ok.hd hc) st (by have : n ≤ i := hg; omega) fun h' eb => ⟨rfl, I.turned (t' := s.toks) (fun b o hb e => eb b o hb e) f0 f1 f3 f4 f5⟩
  self := fun _ _ _ _ _ st h => wpAny_pyIter_rangeiter st h
end L2

namespace L2
open PySem PySem.Spec PyProof.Rows
section
variable {X : Cx} {tg : Expr}
def iList (K : PySem.W.Frag) (tl : TE) : TI := fun σ H R => tl σ H fun x H1 => ∃ a, x = .ref a ∧ (∃ xs, SqL K H1 a xs) ∧ R (Itl K a) H1
def iTup (K : PySem.W.Frag) (tl : TE) : TI := fun σ H R => tl σ H fun x H1 => ∃ a, x = .ref a ∧ (∃ xs, SqT K H1 a xs) ∧ R (Itt K a) H1
theorem pi_list {l : Expr} {tl : TE} (hl : PE X l tl) : PI X tg l (iList X.K tl) := by
  intro pins s σ H R I h
  refine thn (hl pins s σ H _ I h) fun v s1 ⟨x, H1, I1, r1, q1⟩ => ?_
  obtain ⟨a, e, ⟨xs, hq⟩, q⟩ := q1
  subst e
  cases r1
  obtain ⟨its, rv, p, hz⟩ := I1.list hq
  refine wpAny_pyIter_list p.isList ?_
  refine ⟨s1.heap.objs.size, [s1.heap.objs.size], _, _, H1, rfl, I1.kept (t' := s1.toks) fun b o e => Heap.get?_push_of_some _ e, turn_list a _, ⟨_, Heap.get?_push_size _ rfl, rfl, rfl⟩, fun b hb => ?_, q⟩
  have e : b = s1.heap.objs.size := by simpa using hb
  subst e
  exact I1.fpOk (Nat.le_refl _) (I1.hok.fresh (Nat.le_refl _))
/-- a range object just made, walked -/
theorem range_it {pins : List (Addr × Obj)} {σ : St} {H : Hp} {s : Shared} {R : It → Hp → Prop} {E : Value → Shared → Prop} {lo hi : Int} {t u v : Tok} {tk : Nat} (I : Inv X pins σ H s) (h1 : -(2 ^ 62) ≤ lo) (h2 : lo < 2 ^ 62) (h3 : -(2 ^ 62) ≤ hi) (h4 : hi < 2 ^ 62)
    (q : R (Itr lo (hi - lo).toNat) H) : wpAny (model X.prog X.w) X.A (pyIter (.ref s.heap.objs.size)) (PIE X pins σ tg R) E { s with heap := s.heap.push { cls := .type "range", data := .fields #[.int lo t, .int hi u, .int 1 v] }, toks := tk } := by
  refine wpAny_pyIter_range (IsRange.new ..) (small_one h1 h2 h3 h4) ?_
  have I1 : Inv X pins σ H { s with heap := s.heap.push { cls := .type "range", data := .fields #[.int lo t, .int hi u, .int 1 v] }, toks := tk } := I.kept fun b o e => Heap.get?_push_of_some _ e
  refine ⟨(s.heap.push { cls := .type "range", data := .fields #[.int lo t, .int hi u, .int 1 v] }).objs.size, [(s.heap.push { cls := .type "range", data := .fields #[.int lo t, .int hi u, .int 1 v] }).objs.size], _, _, H, rfl,
    I1.kept (t' := tk) fun b o e => Heap.get?_push_of_some _ e, turn_range _ lo (hi - lo).toNat, ?_, fun b hb => ?_, q⟩
  · have e1 : lo + ((0 : Nat) : Int) * 1 = lo := by simp
    have e2 : (((hi - lo).toNat : Nat) : Int) - ((0 : Nat) : Int) = Builtin.Range.rangeSize lo hi 1 := by rw [rangeSize_one]; split <;> omega
    show IsRangeIter _ _ (lo + ((0 : Nat) : Int) * 1) ((((hi - lo).toNat : Nat) : Int) - ((0 : Nat) : Int)) 1
    rw [e1, e2]
    exact Heap.get?_push_size _ rfl
  · have e : b = (s.heap.push { cls := .type "range", data := .fields #[.int lo t, .int hi u, .int 1 v] }).objs.size := by simpa using hb
    subst e
    exact I1.fpOk (Nat.le_refl _) (I1.hok.fresh (Nat.le_refl _))
def iRng1 (ta : TA) : TI := fun σ H R => ta σ H fun vs H1 => ∃ j : Int, vs = [.int j] ∧ -(2 ^ 62) ≤ j ∧ j < 2 ^ 62 ∧ R (Itr 0 j.toNat) H1
def iRng2 (ta : TA) : TI := fun σ H R => ta σ H fun vs H1 => ∃ i j : Int, vs = [.int i, .int j] ∧ (-(2 ^ 62) ≤ i ∧ i < 2 ^ 62 ∧ -(2 ^ 62) ≤ j ∧ j < 2 ^ 62) ∧ R (Itr i (j - i).toNat) H1
theorem pi_range1 {a : Expr} {ta : TA} {p pos : Pos} (hg : Gl X "range") (hm : X.mg "range" = none) (ha : PA X [a] ta) (hs : starEach [a] X.env = [(false, eval a X.env)] := by rfl) : PI X tg (.Call (.Name "range" p) [a] [] pos) (iRng1 ta) := by
  intro pins s σ H R I h
  refine Call_ (ld_blt I hg hm boot_range (PyProof.Rows.callWith_type1 (thn (ha pos pins s σ H _ I h) fun us s1 ⟨vs, H1, I1, r1, q1⟩ => ?_) hs rfl))
  obtain ⟨j, e, q1, q2, q⟩ := q1
  subst e
  cases r1 with
  | cons r rr =>
    cases rr
    obtain ⟨t, rfl⟩ := r
    exact call_range_1 (range_it I1 (by omega) (by omega) q1 q2 (by simpa using q))
/-! ### for -/
/-- W: the invariant by the turn and a measure; N: what the body is to reach -/
def tFor (wi : TI) (g : TG) (tb : TS) : TS := fun D σ H => wi σ H fun J H1 => ∃ W : Nat → Nat → St → Hp → Prop, (∃ m, W 0 m σ H1) ∧ ∀ i m σ H, W i m σ H →
  (J.stop i H ∧ D.nx σ H) ∨ (J.go i H ∧ ∃ N : St → Hp → Prop, (∀ σ' H', N σ' H' → ∃ m', m' < m ∧ W (i + 1) m' σ' H') ∧ ∀ x H', J.yld i H x H' → g x σ H' fun σ2 H2 => tb { D with nx := N, ct := N, bk := D.nx } σ2 H2)
/-- the records at fp as they stand -/
def pinsAt (fp : List Addr) (h : Heap) : List (Addr × Obj) := fp.filterMap fun b => (h.get? b).map fun o => (b, o)
theorem mem_pinsAt {fp : List Addr} {h : Heap} {b : Addr} {o : Obj} (hb : b ∈ fp) (e : h.get? b = some o) : (b, o) ∈ pinsAt fp h := List.mem_filterMap.mpr ⟨b, hb, by rw [e]; rfl⟩
theorem of_pinsAt {fp : List Addr} {h : Heap} {p : Addr × Obj} (hp : p ∈ pinsAt fp h) : p.1 ∈ fp ∧ h.get? p.1 = some p.2 := by
  obtain ⟨b, hb, e⟩ := List.mem_filterMap.mp hp
  cases q : h.get? b with
  | none => rw [q] at e; cases e
  | some o =>
    rw [q] at e
    have e' : (b, o) = p := Option.some.inj e
    subst e'
    exact ⟨hb, q⟩
theorem Inv.pinned {pins : List (Addr × Obj)} {σ : St} {H : Hp} {s : Shared} {fp : List Addr} (I : Inv X pins σ H s) (hf : ∀ b ∈ fp, FpOk X pins H b) (ho : ∀ b ∈ fp, ∃ o, s.heap.get? b = some o ∧ ∀ v, o.data ≠ .cell v) : Inv X (pins ++ pinsAt fp s.heap) σ H s :=
  I.pins_of fun p hp => (List.mem_append.mp hp).elim (fun z => I.pin p (List.mem_append_right _ z)) fun z => by
    obtain ⟨hb, e⟩ := of_pinsAt z
    obtain ⟨f0, f1, f2, _⟩ := hf p.1 hb
    obtain ⟨o, e', d⟩ := ho p.1 hb
    rw [e] at e'; cases e'
    exact ⟨e, f0, f1, f2, d⟩
theorem Inv.unpinned {pins pl : List (Addr × Obj)} {σ : St} {H : Hp} {s : Shared} (I : Inv X (pins ++ pl) σ H s) : Inv X pins σ H s := I.pins_of fun p hp => I.pin p (List.mem_append_right _ (List.mem_append_left _ hp))
theorem ps_for {iter : Expr} {body : List Stmt} {wi : TI} {g : TG} {tb : TS} {pos : Pos} (hp : PassesOwn (model X.prog X.w) X.A X.env X.xe) (hc : X.calm = true) (hi : PI X tg iter wi) (hg : PG X tg g) (hb : PSs X body tb)
    (hs : ∀ x, foldedSetIterable iter X.env x = pure x := by intro _; rfl) : PS X (.For tg iter body [] pos) (tFor wi g tb) := by
  intro pins s σ H D I h
  refine wpAny_For (thn (hi pins s σ H _ I h) fun v s1 h1 => thn h1 fun itv s2 h2 => ?_) hs
  obtain ⟨it, fp, tn, J, H2, e, I2, T, st2, f2, W, ⟨m0, w0⟩, turn⟩ := h2
  subst e
  -- what stays true of the iterator's objects through the loop
  have stat : ∀ {H' : Hp}, (∀ b ∈ fp, H' b = none) → ∀ b ∈ fp, FpOk X pins H' b := fun hn b hb => ⟨hn b hb, (f2 b hb).2⟩
  refine codeAny_forLoop_any (fun n s' => ∃ i σ' H', Inv X pins σ' H' s' ∧ tn i s'.heap ∧ (∀ b ∈ fp, H' b = none) ∧ W i n σ' H') ?_ m0 ⟨0, σ, H2, I2, st2, fun b hb => (f2 b hb).1, w0⟩
  rintro n s3 ⟨i, σ3, H3, I3, st3, fr3, w3⟩
  rcases turn i n σ3 H3 w3 with ⟨stop, qn⟩ | ⟨go, N, hN, step⟩
  · refine wpAny_passesOwn hp (thn (T.done X rfl rfl rfl hc i pins s3 σ3 H3 X.xe I3 (stat fr3) st3 stop) fun r s4 ⟨hr, I4⟩ => ?_)
    subst hr
    exact wpAny_execs_nil ⟨σ3, H3, I4, qn⟩
  · refine wpAny_passesOwn hp (thn (T.item X rfl rfl rfl hc i pins s3 σ3 H3 X.xe I3 (stat fr3) st3 go) fun r s4 ⟨u, hr, h4⟩ => ?_)
    subst hr
    refine wpAny_passesOwn hp (thn h4 fun _ s5 ⟨x, H5, I5, r5, y5, st5, fr5⟩ => ?_)
    have I5' := I5.pinned (stat fr5) (T.obj _ _ st5)
    refine wpAny_passesOwn hp (thn (hg _ s5 σ3 H5 x u _ I5' r5 (step x H5 y5)) fun _ s6 ⟨σ6, H6, I6, q6⟩ => ?_)
    refine wpAny_passesOwn hp (thn (hb _ s6 σ6 H6 _ I6 q6) fun f s7 q7 => ?_)
    have again : ∀ {σ7 : St} {H7 : Hp}, Inv X (pins ++ pinsAt fp s5.heap) σ7 H7 s7 → N σ7 H7 → ∃ m, m < n ∧ ∃ i σ' H', Inv X pins σ' H' s7 ∧ tn i s7.heap ∧ (∀ b ∈ fp, H' b = none) ∧ W i m σ' H' := fun {σ7 H7} I7 n7 => by
      obtain ⟨m', hm, w7⟩ := hN σ7 H7 n7
      refine ⟨m', hm, i + 1, σ7, H7, I7.unpinned, T.keep _ _ _ st5 fun b hb o e => (I7.pin (b, o) (List.mem_append_right _ (List.mem_append_right _ (mem_pinsAt hb e)))).1, fun b hb => ?_, w7⟩
      obtain ⟨o, e, d⟩ := T.obj _ _ st5 b hb
      exact (I7.pin (b, o) (List.mem_append_right _ (List.mem_append_right _ (mem_pinsAt hb e)))).2.1
    cases f with
    | next => obtain ⟨σ7, H7, I7, n7⟩ := q7; exact again I7 n7
    | cont => obtain ⟨σ7, H7, I7, n7⟩ := q7; exact again I7 n7
    | brk => obtain ⟨σ7, H7, I7, q7⟩ := q7; exact ⟨σ7, H7, I7.unpinned, q7⟩
    | ret v => obtain ⟨x7, σ7, H7, I7, r7, q7⟩ := q7; exact ⟨x7, σ7, H7, I7.unpinned, r7, q7⟩
end

/-! ### the forms one uses -/
/-- over a list that the body leaves as it is -/
theorem for_list {K : PySem.W.Frag} {a : Addr} {xs : List V} {g : TG} {tb : TS} {D : Ends} {σ : St} {H : Hp} (Pv : Nat → St → Hp → Prop) (h0 : Pv 0 σ H) (hl : ∀ i σ H, i ≤ xs.length → Pv i σ H → SqL K H a xs)
    (hs : ∀ i x σ H, xs[i]? = some x → Pv i σ H → g x σ H fun σ2 H2 => tb { D with nx := Pv (i + 1), ct := Pv (i + 1), bk := D.nx } σ2 H2) (hd : ∀ σ H, Pv xs.length σ H → D.nx σ H) :
    ∃ W : Nat → Nat → St → Hp → Prop, (∃ m, W 0 m σ H) ∧ ∀ i m σ H, W i m σ H →
      ((Itl K a).stop i H ∧ D.nx σ H) ∨ ((Itl K a).go i H ∧ ∃ N : St → Hp → Prop, (∀ σ' H', N σ' H' → ∃ m', m' < m ∧ W (i + 1) m' σ' H') ∧ ∀ x H', (Itl K a).yld i H x H' → g x σ H' fun σ2 H2 => tb { D with nx := N, ct := N, bk := D.nx } σ2 H2) := by
  refine ⟨fun i m σ H => m = xs.length - i ∧ i ≤ xs.length ∧ Pv i σ H, ⟨xs.length, by simp, Nat.zero_le _, h0⟩, ?_⟩
  rintro i m σ H ⟨rfl, hi, p⟩
  have q := hl i σ H hi p
  by_cases hlt : i < xs.length
  · refine .inr ⟨⟨xs, xs[i], q, by simp [hlt]⟩, Pv (i + 1), fun σ' H' p' => ⟨xs.length - (i + 1), by omega, rfl, hlt, p'⟩, fun x H' y => ?_⟩
    obtain ⟨e, y⟩ := y
    subst e
    exact hs i x σ _ (y xs q) p
  · have e : i = xs.length := by omega
    subst e
    exact .inl ⟨⟨xs, q, Nat.le_refl _⟩, hd σ H p⟩
theorem for_range {lo : Int} {n : Nat} {g : TG} {tb : TS} {D : Ends} {σ : St} {H : Hp} (Pv : Nat → St → Hp → Prop) (h0 : Pv 0 σ H)
    (hs : ∀ i σ H, i < n → Pv i σ H → g (.int (lo + i)) σ H fun σ2 H2 => tb { D with nx := Pv (i + 1), ct := Pv (i + 1), bk := D.nx } σ2 H2) (hd : ∀ σ H, Pv n σ H → D.nx σ H) :
    ∃ W : Nat → Nat → St → Hp → Prop, (∃ m, W 0 m σ H) ∧ ∀ i m σ H, W i m σ H →
      ((Itr lo n).stop i H ∧ D.nx σ H) ∨ ((Itr lo n).go i H ∧ ∃ N : St → Hp → Prop, (∀ σ' H', N σ' H' → ∃ m', m' < m ∧ W (i + 1) m' σ' H') ∧ ∀ x H', (Itr lo n).yld i H x H' → g x σ H' fun σ2 H2 => tb { D with nx := N, ct := N, bk := D.nx } σ2 H2) := by
  refine ⟨fun i m σ H => m = n - i ∧ i ≤ n ∧ Pv i σ H, ⟨n, by simp, Nat.zero_le _, h0⟩, ?_⟩
  rintro i m σ H ⟨rfl, hi, p⟩
  by_cases hlt : i < n
  · refine .inr ⟨hlt, Pv (i + 1), fun σ' H' p' => ⟨n - (i + 1), by omega, rfl, hlt, p'⟩, fun x H' y => ?_⟩
    obtain ⟨e, y⟩ := y
    subst e y
    exact hs i σ _ hlt p
  · have e : i = n := by omega
    subst e
    exact .inl ⟨Nat.le_refl _, hd σ H p⟩
end L2

namespace L2
open PySem PySem.Spec PyProof.Rows

abbrev R2 := V → V → Hp → VK → Prop
/-- a two-place operation on values: f is binaryOp op, inplaceOp op or compareOp op -/
def OpR (X : Cx) (f : Value → Value → Sem Value) (r : R2) : Prop :=
  ∀ (pins : List (Addr × Obj)) (s : Shared) (σ : St) (H : Hp) (x y : V) (v u : Value) (Q : VK), Inv X pins σ H s → RelV x v → RelV y u → r x y H Q →
    wpAny (model X.prog X.w) X.A (f v u) (EP X pins σ Q) X.xe s
/-- a one-place operation -/
def UnR (X : Cx) (f : Value → Sem Value) (r : V → Hp → VK → Prop) : Prop :=
  ∀ (pins : List (Addr × Obj)) (s : Shared) (σ : St) (H : Hp) (x : V) (v : Value) (Q : VK), Inv X pins σ H s → RelV x v → r x H Q →
    wpAny (model X.prog X.w) X.A (f v) (EP X pins σ Q) X.xe s
/-- a call of a value that is known (a builtin, a type) with values -/
def CallR (X : Cx) (f : Value) (r : List V → Hp → VK → Prop) : Prop :=
  ∀ (pins : List (Addr × Obj)) (s : Shared) (σ : St) (H : Hp) (xs : List V) (us : List Value) (Q : VK), Inv X pins σ H s → Vals xs us → r xs H Q →
    wpAny (model X.prog X.w) X.A (call f us) (EP X pins σ Q) X.xe s
/-- a value's truth -/
def TruR (X : Cx) (r : V → Hp → (Bool → Hp → Prop) → Prop) : Prop :=
  ∀ (pins : List (Addr × Obj)) (s : Shared) (σ : St) (H : Hp) (x : V) (v : Value) (Q : Bool → Hp → Prop), Inv X pins σ H s → RelV x v → r x H Q →
    wpAny (model X.prog X.w) X.A (truthy v) (TP X pins σ Q) X.xe s

def tOp (r : R2) (ta tb : TE) : TE := fun σ H Q => ta σ H fun x H1 => tb σ H1 fun y H2 => r x y H2 Q
def tUn (r : V → Hp → VK → Prop) (ta : TE) : TE := fun σ H Q => ta σ H fun x H1 => r x H1 Q
/-- ints in, under C, and a value out -/
def rI (C : Int → Int → Prop) (g : Int → Int → V) : R2 := fun x y H Q => ∃ i j, x = .int i ∧ y = .int j ∧ C i j ∧ Q (g i j) H
def rI0 (g : Int → Int → V) : R2 := fun x y H Q => ∃ i j, x = .int i ∧ y = .int j ∧ Q (g i j) H
def rU (g : Int → V) : V → Hp → VK → Prop := fun x H Q => ∃ i, x = .int i ∧ Q (g i) H

section
variable {X : Cx} {a b c : Expr} {ta tb tc : TE} {pos : Pos}

theorem binT (ha : PE X a ta) (hb : PE X b tb) {pins : List (Addr × Obj)} {s : Shared} {σ : St} {H : Hp} {R : V → V → Hp → Prop} (I : Inv X pins σ H s)
    (h : ta σ H fun x H1 => tb σ H1 fun y H2 => R x y H2) {Q : Value → Shared → Prop} {f : Value → Value → Sem Value}
    (hf : ∀ v u s2 x y H2, Inv X pins σ H2 s2 → RelV x v → RelV y u → R x y H2 → wpAny (model X.prog X.w) X.A (f v u) Q X.xe s2) :
    wpAny (model X.prog X.w) X.A (eval a X.env) (fun v s₁ => wpAny (model X.prog X.w) X.A (eval b X.env) (fun u s₂ => wpAny (model X.prog X.w) X.A (f v u) Q X.xe s₂) X.xe s₁) X.xe s := by
  refine thn (ha pins s σ H _ I h) fun v s1 ⟨x, H1, I1, r1, q1⟩ => ?_
  refine thn (hb pins s1 σ H1 _ I1 q1) fun u s2 ⟨y, H2, I2, r2, q2⟩ => ?_
  exact hf v u s2 x y H2 I2 r1 r2 q2

theorem pe_op {op : Operator} {r : R2} (ho : OpR X (binaryOp op) r) (ha : PE X a ta) (hb : PE X b tb) : PE X (.BinOp a op b pos) (tOp r ta tb) := by
  intro pins s σ H Q I h
  exact wpAny_BinOp (binT ha hb I h fun v u s2 x y H2 I2 rx ry q => ho pins s2 σ H2 x y v u Q I2 rx ry q)
/-! ### ints -/
theorem opI {f : Value → Value → Sem Value} {C : Int → Int → Prop} {g : Int → Int → Int}
    (rule : ∀ (i j : Int) (t u : Tok) (s : Shared) (Q : Value → Shared → Prop) (E : Value → Shared → Prop), C i j → Q (.int (g i j) s.toks) { s with toks := s.toks + 1 } → wpAny (model X.prog X.w) X.A (f (.int i t) (.int j u)) Q E s) :
    OpR X f (rI C fun i j => .int (g i j)) := by
  intro pins s σ H x y v u Q I rx ry h
  obtain ⟨i, j, rfl, rfl, hc, q⟩ := h
  obtain ⟨t, rfl⟩ := rx
  obtain ⟨t', rfl⟩ := ry
  exact rule i j t t' s _ _ hc ⟨.int (g i j), H, I.tok _, ⟨_, rfl⟩, q⟩
theorem opI0 {f : Value → Value → Sem Value} {g : Int → Int → Int}
    (rule : ∀ (i j : Int) (t u : Tok) (s : Shared) (Q : Value → Shared → Prop) (E : Value → Shared → Prop), Q (.int (g i j) s.toks) { s with toks := s.toks + 1 } → wpAny (model X.prog X.w) X.A (f (.int i t) (.int j u)) Q E s) :
    OpR X f (rI0 fun i j => .int (g i j)) := by
  intro pins s σ H x y v u Q I rx ry h
  obtain ⟨i, j, rfl, rfl, q⟩ := h
  obtain ⟨t, rfl⟩ := rx
  obtain ⟨t', rfl⟩ := ry
  exact rule i j t t' s _ _ ⟨.int (g i j), H, I.tok _, ⟨_, rfl⟩, q⟩
theorem opB0 {f : Value → Value → Sem Value} {g : Int → Int → Bool}
    (rule : ∀ (i j : Int) (t u : Tok) (s : Shared) (Q : Value → Shared → Prop) (E : Value → Shared → Prop), Q (.bool (g i j)) s → wpAny (model X.prog X.w) X.A (f (.int i t) (.int j u)) Q E s) :
    OpR X f (rI0 fun i j => .bl (g i j)) := by
  intro pins s σ H x y v u Q I rx ry h
  obtain ⟨i, j, rfl, rfl, q⟩ := h
  obtain ⟨t, rfl⟩ := rx
  obtain ⟨t', rfl⟩ := ry
  exact rule i j t t' s _ _ ⟨.bl (g i j), H, I, rfl, q⟩

def CDiv (i j : Int) : Prop := 0 < j ∧ j < 1073741824
def CDivN (i j : Int) : Prop := j ≠ 0 ∧ j.natAbs < 1073741824
def CPow (i j : Int) : Prop := 0 ≤ j ∧ j ≤ 1000000 ∧ i.natAbs < 2 ^ 64
def CMul (i j : Int) : Prop := (-(2 ^ 64) < i ∧ i < 2 ^ 64) ∨ (-(2 ^ 64) < j ∧ j < 2 ^ 64)
theorem CMul.ok {i j : Int} (h : CMul i j) : IntMulOk i j := by
  rcases h with ⟨h1, h2⟩ | ⟨h1, h2⟩
  · exact .of_left (intBits_le_64 h1 h2)
  · exact .of_right (intBits_le_64 h1 h2)
theorem op_add : OpR X (binaryOp .Add) (rI0 fun i j => .int (i + j)) := opI0 fun _ _ _ _ _ _ _ q => add_int q
theorem op_sub : OpR X (binaryOp .Sub) (rI0 fun i j => .int (i - j)) := opI0 fun _ _ _ _ _ _ _ q => sub_int q
theorem op_mul : OpR X (binaryOp .Mult) (rI CMul fun i j => .int (i * j)) := opI fun _ _ _ _ _ _ _ hc q => mul_int q hc.ok
/-- % by a positive divisor of any size -/
theorem op_mod : OpR X (binaryOp .Mod) (rI (fun _ j => 0 < j) fun i j => .int (i % j)) := opI fun i j _ _ _ _ _ hc q => by
  have h1 : (0 : Int) < j := hc
  exact mod_int' (by omega) (by rw [Int.fmod_eq_emod_of_nonneg i (by omega)]; exact q)
theorem op_pow : OpR X (binaryOp .Pow) (rI CPow fun i j => .int (i ^ j.toNat)) := opI fun _ _ _ _ _ _ _ hc q => pow_int_small hc.1 hc.2.1 hc.2.2 q
/-! ### bools among ints: n += (a < b) -/
end

/-! ### comparisons -/
/-- the scalars that == tells apart as data does -/
def scal : V → V → Bool
  | .non, .non => true | .non, .int _ => true | .int _, .non => true | .non, .bl _ => true | .bl _, .non => true | .non, .str _ => true | .str _, .non => true
  | .int _, .int _ => true | .bl _, .bl _ => true | .str _, .str _ => true | .byt _, .byt _ => true
  | .int _, .str _ => true | .str _, .int _ => true | .bl _, .str _ => true | .str _, .bl _ => true
  | _, _ => false
def rEq : R2 := fun x y H Q => scal x y = true ∧ Q (.bl (decide (x = y))) H
def rNe : R2 := fun x y H Q => scal x y = true ∧ Q (.bl (!decide (x = y))) H

theorem dec_int {i j : Int} : decide (V.int i = V.int j) = (i == j) := by
  rw [Bool.eq_iff_iff]
  simp
theorem dec_bl {i j : Bool} : decide (V.bl i = V.bl j) = (i == j) := by
  rw [Bool.eq_iff_iff]
  simp
theorem dec_str {i j : Str} : decide (V.str i = V.str j) = (i == j) := by
  rw [Bool.eq_iff_iff]
  simp
theorem dec_byt {i j : Array UInt8} : decide (V.byt i = V.byt j) = (i.toList == j.toList) := by
  rw [Bool.eq_iff_iff]
  cases i
  cases j
  simp

section
variable {X : Cx} {a b c : Expr} {ta tb tc : TE} {pos : Pos}
theorem fin_bl {pins : List (Addr × Obj)} {σ : St} {H : Hp} {s : Shared} {Q : VK} {k k' : Bool} (I : Inv X pins σ H s) (q : Q (.bl k) H) (e : k = k') : EP X pins σ Q (.bool k') s := by
  subst e
  exact ⟨.bl k, H, I, rfl, q⟩
theorem op_eq : OpR X (compareOp .Eq) rEq := by
  intro pins s σ H x y v u Q I rx ry h
  obtain ⟨hs, q⟩ := h
  cases x with
  | non =>
    cases rx
    cases y with
    | non => cases ry; exact PySem.EqNone.eq_none_none (fin_bl I q (by simp))
    | bl j => cases ry; exact PySem.EqNone.eq_none_bool (fin_bl I q (by simp))
    | int j => obtain ⟨t', rfl⟩ := ry; exact PySem.EqNone.eq_none_int (fin_bl I q (by simp))
    | str j => obtain ⟨t', rfl⟩ := ry; exact PySem.EqNone.eq_none_str (fin_bl I q (by simp))
    | _ => exact absurd (show false = true from hs) Bool.false_ne_true
  | bl i =>
    cases rx
    cases y with
    | non => cases ry; exact PySem.EqNone.eq_bool_none (fin_bl I q (by simp))
    | bl j => cases ry; exact eq_bool (fin_bl I q dec_bl)
    | str j => obtain ⟨t', rfl⟩ := ry; exact PySem.EqMixed.eq_bool_str (fin_bl I q (by simp))
    | _ => exact absurd (show false = true from hs) Bool.false_ne_true
  | int i =>
    obtain ⟨t, rfl⟩ := rx
    cases y with
    | non => cases ry; exact PySem.EqNone.eq_int_none (fin_bl I q (by simp))
    | int j => obtain ⟨t', rfl⟩ := ry; exact eq_int (fin_bl I q dec_int)
    | str j => obtain ⟨t', rfl⟩ := ry; exact PySem.EqMixed.eq_int_str (fin_bl I q (by simp))
    | _ => exact absurd (show false = true from hs) Bool.false_ne_true
  | str i =>
    obtain ⟨t, rfl⟩ := rx
    cases y with
    | non => cases ry; exact PySem.EqNone.eq_str_none (fin_bl I q (by simp))
    | bl j => cases ry; exact PySem.EqMixed.eq_str_bool (fin_bl I q (by simp))
    | int j => obtain ⟨t', rfl⟩ := ry; exact PySem.EqMixed.eq_str_int (fin_bl I q (by simp))
    | str j => obtain ⟨t', rfl⟩ := ry; exact eq_str (fin_bl I q dec_str)
    | _ => exact absurd (show false = true from hs) Bool.false_ne_true
  | byt i =>
    obtain ⟨t, rfl⟩ := rx
    cases y with
    | byt j => obtain ⟨t', rfl⟩ := ry; exact PySem.W.eq_bytes (fin_bl I q dec_byt)
    | _ => exact absurd (show false = true from hs) Bool.false_ne_true
  | _ => cases y <;> exact absurd (show false = true from hs) Bool.false_ne_true
theorem op_ne : OpR X (compareOp .NotEq) rNe := by
  intro pins s σ H x y v u Q I rx ry h
  obtain ⟨hs, q⟩ := h
  cases x with
  | non =>
    cases rx
    cases y with
    | non => cases ry; exact PySem.EqNone.ne_none_none (fin_bl I q (by simp))
    | bl j => cases ry; exact PySem.EqNone.ne_none_bool (fin_bl I q (by simp))
    | int j => obtain ⟨t', rfl⟩ := ry; exact PySem.EqNone.ne_none_int (fin_bl I q (by simp))
    | str j => obtain ⟨t', rfl⟩ := ry; exact PySem.EqNone.ne_none_str (fin_bl I q (by simp))
    | _ => exact absurd (show false = true from hs) Bool.false_ne_true
  | bl i =>
    cases rx
    cases y with
    | non => cases ry; exact PySem.EqNone.ne_bool_none (fin_bl I q (by simp))
    | bl j => cases ry; exact ne_bool (fin_bl I q (congrArg not dec_bl))
    | str j => obtain ⟨t', rfl⟩ := ry; exact PySem.EqMixed.ne_bool_str (fin_bl I q (by simp))
    | _ => exact absurd (show false = true from hs) Bool.false_ne_true
  | int i =>
    obtain ⟨t, rfl⟩ := rx
    cases y with
    | non => cases ry; exact PySem.EqNone.ne_int_none (fin_bl I q (by simp))
    | int j => obtain ⟨t', rfl⟩ := ry; exact ne_int (fin_bl I q (congrArg not dec_int))
    | str j => obtain ⟨t', rfl⟩ := ry; exact PySem.EqMixed.ne_int_str (fin_bl I q (by simp))
    | _ => exact absurd (show false = true from hs) Bool.false_ne_true
  | str i =>
    obtain ⟨t, rfl⟩ := rx
    cases y with
    | non => cases ry; exact PySem.EqNone.ne_str_none (fin_bl I q (by simp))
    | bl j => cases ry; exact PySem.EqMixed.ne_str_bool (fin_bl I q (by simp))
    | int j => obtain ⟨t', rfl⟩ := ry; exact PySem.EqMixed.ne_str_int (fin_bl I q (by simp))
    | str j => obtain ⟨t', rfl⟩ := ry; exact ne_str (fin_bl I q (congrArg not dec_str))
    | _ => exact absurd (show false = true from hs) Bool.false_ne_true
  | byt i =>
    obtain ⟨t, rfl⟩ := rx
    cases y with
    | byt j => obtain ⟨t', rfl⟩ := ry; exact PySem.W.ne_bytes (fin_bl I q (congrArg not dec_byt))
    | _ => exact absurd (show false = true from hs) Bool.false_ne_true
  | _ => cases y <;> exact absurd (show false = true from hs) Bool.false_ne_true

theorem op_lt : OpR X (compareOp .Lt) (rI0 fun i j => .bl (decide (i < j))) := opB0 fun _ _ _ _ _ _ _ q => lt_int q
theorem op_ge : OpR X (compareOp .GtE) (rI0 fun i j => .bl (decide (j ≤ i))) := opB0 fun _ _ _ _ _ _ _ q => ge_int q
/-- is, is not of two objects that are tracked lists or instances -/
def isObj : HO → Bool
  | .lst _ => true
  | .ins _ _ _ => true
  | _ => false
/-- two rules for one operation: by cases -/
theorem OpR.or {f : Value → Value → Sem Value} {r r' : R2} (h : OpR X f r) (h' : OpR X f r') : OpR X f (fun x y H Q => r x y H Q ∨ r' x y H Q) := by
  intro pins s σ H x y v u Q I rx ry q
  rcases q with q | q
  · exact h pins s σ H x y v u Q I rx ry q
  · exact h' pins s σ H x y v u Q I rx ry q

theorem nomark (b : Expr) {op : CmpOp} (h : op ≠ .In := by decide) (h2 : op ≠ .NotIn := by decide) : behindInMarks op b = false := by
  have e1 : (op == CmpOp.In) = false := by cases op <;> first | rfl | exact absurd rfl h
  have e2 : (op == CmpOp.NotIn) = false := by cases op <;> first | rfl | exact absurd rfl h2
  cases b <;> simp [behindInMarks, e1, e2]
/-- a comparison as a value; hm: nomark b, or (for in, not in) by with_unfolding_all rfl -/
theorem pe_cmpR {op : CmpOp} {r : R2} (ho : OpR X (compareOp op) r) (ha : PE X a ta) (hb : PE X b tb) (hm : behindInMarks op b = false) : PE X (.Compare a [op] [b] pos) (tOp r ta tb) := by
  intro pins s σ H Q I h
  exact wpAny_Compare1 (binT ha hb I h fun v u s2 x y H2 I2 rx ry q => ho pins s2 σ H2 x y v u Q I2 rx ry q) hm
/-- a reading of a value as a test -/
def tTest (t : TE) : TT := fun σ H Q => t σ H fun x H' => ∃ k, x = .bl k ∧ Q k H'
theorem pt_cmpR {op : CmpOp} {r : R2} (ho : OpR X (compareOp op) r) (ha : PE X a ta) (hb : PE X b tb) (hm : behindInMarks op b = false) : PT X (.Compare a [op] [b] pos) (tTest (tOp r ta tb)) := by
  intro pins s σ H Q I h
  refine wpAny_isTrue_Compare1 (thn (ha pins s σ H _ I h) fun v s1 ⟨x, H1, I1, r1, q1⟩ => thn (hb pins s1 σ H1 _ I1 q1) fun u s2 ⟨y, H2, I2, r2, q2⟩ =>
    thn (ho pins s2 σ H2 x y v u _ I2 r1 r2 q2) fun c s3 ⟨z, H3, I3, r3, k, e, q3⟩ => ?_) hm
  subst e
  cases r3
  exact wpAny_truthy_bool ⟨H3, I3, q3⟩
/-- a op1 b op2 c -/
def tChain (r r' : R2) (ta tb tc : TE) : TE := fun σ H Q => ta σ H fun x H1 => tb σ H1 fun y H2 => r x y H2 fun z H3 => ∃ k, z = .bl k ∧
  (if k = true then tc σ H3 fun w' H4 => r' y w' H4 Q else Q (.bl false) H3)
/-! ### truth -/
/-- a value's truth by the abstract heap -/
def TruV (K : PySem.W.Frag) (x : V) (H : Hp) (k : Bool) : Prop :=
  match x with
  | .non => k = false
  | .bl b => k = b
  | .int i => k = (i != 0)
  | .str y => y.length ≤ sizeLine ∧ k = ((y.length : Int) != 0)
  | .byt y => y.size ≤ sizeLine ∧ k = ((y.size : Int) != 0)
  | .ref p => (∃ xs, SqL K H p xs ∧ k = !xs.isEmpty) ∨ (∃ xs, SqT K H p xs ∧ k = !xs.isEmpty) ∨ ∃ kvs, H p = some (.dK kvs) ∧ k = !kvs.isEmpty
  | _ => False
theorem line63 : (sizeLine : Nat) < 2 ^ 63 := by rw [sizeLine_eq]; decide
/-! ### strs and bytes -/
theorem op_add_str : OpR X (binaryOp .Add) (fun x y H Q => ∃ i j, x = .str i ∧ y = .str j ∧ i.length + j.length ≤ sizeLine ∧ Q (.str (i ++ j)) H) := by
  intro pins s σ H x y v u Q I rx ry h
  obtain ⟨i, j, rfl, rfl, hz, q⟩ := h
  obtain ⟨t, rfl⟩ := rx
  obtain ⟨t', rfl⟩ := ry
  exact add_str (fun t' tk => ⟨.str (i ++ j), H, I.tok _, ⟨_, rfl⟩, q⟩) hz
def PlainIxT (b : Expr) : Prop := ∀ o i, subscripted b false o i = operate [o, i] (getItem o i)
/-! ### scalar builtins, by CallR -/
theorem vals1 {x : V} {us : List Value} (r : Vals [x] us) : ∃ u, us = [u] ∧ RelV x u := by
  cases r with
  | cons r1 r2 => cases r2; exact ⟨_, rfl, r1⟩
theorem vals2 {x y : V} {us : List Value} (r : Vals [x, y] us) : ∃ u w', us = [u, w'] ∧ RelV x u ∧ RelV y w' := by
  cases r with
  | cons r1 r2 =>
    cases r2 with
    | cons r3 r4 => cases r4; exact ⟨_, _, rfl, r1, r3⟩
theorem call_abs : CallR X (.builtin "abs") (fun xs H Q => ∃ i, xs = [.int i] ∧ Q (.int (if i < 0 then -i else i)) H) := by
  intro pins s σ H xs us Q I r h
  obtain ⟨i, rfl, q⟩ := h
  obtain ⟨u, rfl, t, rfl⟩ := vals1 r
  exact call_abs_int fun u tk => ⟨.int (if i < 0 then -i else i), H, I.tok _, ⟨_, rfl⟩, q⟩
/-- len of a str, a bytes, a list, a tuple -/
def LenV (K : PySem.W.Frag) (x : V) (H : Hp) (n : Nat) : Prop :=
  match x with
  | .str y => y.length ≤ sizeLine ∧ n = y.length
  | .byt y => y.size ≤ sizeLine ∧ n = y.size
  | .ref p => (∃ xs, SqL K H p xs ∧ n = xs.length) ∨ ∃ xs, SqT K H p xs ∧ n = xs.length
  | _ => False
end
end L2

namespace L2
open PySem PySem.Spec PyProof.Rows

/-! ### an instance, its attributes a map -/
structure ObjM (h : Heap) (x dx C : Addr) (mA : Str → Option Value) : Prop where
  obj : h.get? x = some (PySem.W.instObj C dx)
  ns : h.Ns1 dx mA
  ne : dx ≠ x

theorem lookIn_ns {h : Heap} {dx : Addr} {mA : Str → Option Value} (n : h.Ns1 dx mA) : ∃ od, h.get? dx = some od ∧ ∀ name, PySem.W.lookIn name od = some (mA name) := by
  obtain ⟨o, es, ep, ho, hd, hk, _, hm⟩ := n
  refine ⟨o, ho, fun name => ?_⟩
  have e := hm name
  unfold nsFind findBy at e
  rw [← Array.find?_toList] at e
  unfold PySem.W.lookIn
  rw [hd]
  dsimp only
  split
  · rename_i y q
    rw [q] at e
    exact congrArg some e
  · rename_i q
    rw [q] at e
    have a : es.toList.any (·.refKey) = false := by
      rw [List.any_eq_false]
      intro y hy
      obtain ⟨z, t, hkey⟩ := hk y (Array.mem_toList_iff.mp hy)
      simp [DictEntry.refKey, hkey]
    have a' : ¬ es.toList.any (·.refKey) = true := by rw [a]; exact Bool.false_ne_true
    rw [if_neg a']
    exact congrArg some e

theorem ObjM.look {h : Heap} {x dx C : Addr} {mA : Str → Option Value} (I : ObjM h x dx C mA) : ∃ od, PySem.W.InstAt h x (PySem.W.instObj C dx) C (some od) ∧ ∀ name, PySem.W.lookIn name od = some (mA name) :=
  let ⟨od, ho, hl⟩ := lookIn_ns I.ns
  ⟨od, ⟨I.obj, rfl, rfl, ho⟩, hl⟩

section
variable {prog : Program} {w : World} {A : Around} {E : Value → Shared → Prop} {s : Shared} {K : PySem.W.Frag} {x dx C f : Addr} {mA : Str → Option Value} {name : Str} {v : Value}

end

/-! ### the attributes as a list of pairs -/
def putF (f : Str) (v : V) : List (Str × V) → List (Str × V)
  | [] => [(f, v)]
  | (g, x) :: r => if g = f then (g, v) :: r else (g, x) :: putF f v r
theorem RelO.none_of {o : Option Value} (r : RelO none o) : o = none := by
  cases o with
  | none => rfl
  | some u => exact (show False from r).elim
section
variable {P : Program} {w : World} {H H' : Hp} {h h' : Heap} {a C dx : Addr} {fs fs' : List (Str × V)}
theorem ins_get (hok : HOk P w H h) (e : H a = some (.ins C dx fs)) : ∃ mA, ObjM h a dx C mA ∧ (∀ f, RelO (fs.lookup f) (mA f)) ∧ PySem.Within mA (fs.map (·.1)) ∧ fs.length ≤ 1000 ∧ H dx = some (.own a) := by
  obtain ⟨d, z, ne, ob, mA, n, r, q⟩ := (show ObjOk P w H h a (.ins C dx fs) from hok a _ e)
  exact ⟨mA, ⟨ob, n, ne⟩, r, q, z, d⟩
end

/-! ### what of the text a class must have -/
structure Cls (K : PySem.W.Frag) (C : Addr) : Prop where
  pg : PySem.W.plainGet K C Str.empty = true
  hd : PySem.W.hasDictIn K C = true
  po : PySem.W.plainOver K C = true
  sa : PySem.W.findIn K (.ref C) "__setattr__" = some (some (.builtin "object.__setattr__"))
theorem Cls.get {K : PySem.W.Frag} {C : Addr} (c : Cls K C) (f : Str) : PySem.W.plainGet K C f = true := c.pg
/-- no class of it has the name -/
def NoAttr (K : PySem.W.Frag) (C : Addr) (f : Str) : Prop := PySem.W.findIn K (.ref C) f = some none
/-- a constant of the class -/
structure Con (K : PySem.W.Frag) (C : Addr) (f : Str) (v : V) (u : Value) : Prop where
  at_ : PySem.W.findIn K (.ref C) f = some (some u)
  rel : RelV v u
  get : PySem.W.specialIn K u "__get__" = some none
  cp : PySem.W.copiedNames.contains f = false
/-- a method: a plain def of the class or of one above it -/
structure Meth (K : PySem.W.Frag) (C : Addr) (m : Str) (f : Addr) : Prop where
  at_ : PySem.W.findIn K (.ref C) m = some (some (.ref f))
  fn : PySem.W.isFn K (.ref f) = true
  kp : PySem.W.keepIn K (.ref f) = true

section
variable {X : Cx} {pins : List (Addr × Obj)} {σ : St} {H : Hp} {s : Shared} {a C dx : Addr} {fs : List (Str × V)} {f : Str} {v : V} {A : Around} {E : Value → Shared → Prop}

/-- a new instance, tracked, without attributes -/
theorem Inv.made (I : Inv X pins σ H s) : Inv X pins σ (upd (upd H s.heap.objs.size (.own (s.heap.objs.size + 1))) (s.heap.objs.size + 1) (.ins C s.heap.objs.size []))
    { s with heap := (s.heap.push PySem.W.emptyDict).push (PySem.W.instObj C s.heap.objs.size) } := by
  have e1 : (s.heap.push PySem.W.emptyDict).get? s.heap.objs.size = some PySem.W.emptyDict := Heap.get?_push_size s.heap rfl
  have e2 : ((s.heap.push PySem.W.emptyDict).push (PySem.W.instObj C s.heap.objs.size)).get? (s.heap.objs.size + 1) = some (PySem.W.instObj C s.heap.objs.size) := by
    have := Heap.get?_push_size (s.heap.push PySem.W.emptyDict) (o := PySem.W.instObj C s.heap.objs.size) rfl
    rwa [Heap.size_push] at this
  have e3 : (s.heap.push PySem.W.emptyDict).Ns s.heap.objs.size (fun _ => none) := ⟨PySem.W.emptyDict, #[], _, e1, rfl, (fun e he => absurd he (by simp)), fun _ => rfl⟩
  have I1 := I.laid (a := s.heap.objs.size) (o := .own (s.heap.objs.size + 1)) (h' := s.heap.push PySem.W.emptyDict) (t' := s.toks) (fun b u q => Heap.get?_push_of_some _ q) (Nat.le_refl _) ⟨_, e1⟩
  refine I1.laid (a := s.heap.objs.size + 1) (o := .ins C s.heap.objs.size []) (t' := s.toks) (fun b u q => Heap.get?_push_of_some _ q) (Nat.le_of_eq (Heap.size_push _ _)) ?_
  have ne : s.heap.objs.size ≠ s.heap.objs.size + 1 := Nat.ne_of_lt (Nat.lt_succ_self _)
  refine ⟨by rw [upd_ne ne, upd_same], Nat.zero_le _, ne, e2, fun _ => none, (Heap.Ns1.of_empty e3).at fun o q => Heap.get?_push_of_some _ q, fun _ => True.intro, fun y hy => absurd rfl hy⟩

end

/-! ### readings and rules -/
/-- e.f, an attribute of the instance -/
def tFld (K : PySem.W.Frag) (ta : TE) (f : Str) : TE := fun σ H Q => ta σ H fun x H1 => ∃ a C dx fs v, x = .ref a ∧ H1 a = some (.ins C dx fs) ∧ Cls K C ∧ NoAttr K C f ∧ fs.lookup f = some v ∧ Q v H1
/-- e.f, a constant of the class -/
def tCon (K : PySem.W.Frag) (ta : TE) (f : Str) : TE := fun σ H Q => ta σ H fun x H1 => ∃ a C dx fs v u, x = .ref a ∧ H1 a = some (.ins C dx fs) ∧ Cls K C ∧ Con K C f v u ∧ fs.lookup f = none ∧ Q v H1
/-- e.f = value -/
def sFld (K : PySem.W.Frag) (ta tv : TE) (f : Str) : TS := fun D σ H => tv σ H fun y H1 => ta σ H1 fun x H2 => ∃ a C dx fs, x = .ref a ∧ H2 a = some (.ins C dx fs) ∧ Cls K C ∧ NoAttr K C f ∧ fs.length < 1000 ∧
  D.nx σ (upd H2 a (.ins C dx (putF f y fs)))
/-- an augmented operator on two values -/
def InOp (X : Cx) (op : Operator) (rd : V → V → Hp → VK → Prop) : Prop :=
  ∀ (pins : List (Addr × Obj)) (s : Shared) (σ : St) (H : Hp) (x y : V) (u v : Value) (Q : VK), Inv X pins σ H s → RelV x u → RelV y v → rd x y H Q → wpAny (model X.prog X.w) X.A (inplaceOp op u v) (EP X pins σ Q) X.xe s
/-- e.f op= value -/
def sFldAug (K : PySem.W.Frag) (ta tv : TE) (rd : V → V → Hp → VK → Prop) (f : Str) : TS := fun D σ H => ta σ H fun x H1 => ∃ a C dx fs v, x = .ref a ∧ H1 a = some (.ins C dx fs) ∧ Cls K C ∧ NoAttr K C f ∧ fs.lookup f = some v ∧
  tv σ H1 fun y H2 => rd v y H2 fun z H3 => ∃ dx' fs', H3 a = some (.ins C dx' fs') ∧ fs'.length < 1000 ∧ D.nx σ (upd H3 a (.ins C dx' (putF f z fs')))

section
variable {X : Cx} {o e value : Expr} {f : Str} {pos pos' tpos : Pos} {ta tv : TE}
def rAdd : V → V → Hp → VK → Prop := fun x y H Q => ∃ i j, x = .int i ∧ y = .int j ∧ Q (.int (i + j)) H
def rSub : V → V → Hp → VK → Prop := fun x y H Q => ∃ i j, x = .int i ∧ y = .int j ∧ Q (.int (i - j)) H
end

/-! ### isinstance -/
section
variable {X : Cx} {pins : List (Addr × Obj)} {σ : St} {H : Hp} {s : Shared} {A : Around} {E : Value → Shared → Prop} {Q : Value → Shared → Prop} {c : Value} {b : Bool}
/-- the type of a value, as the fragment's deciders take it; for an instance its class -/
inductive TyOf (K : PySem.W.Frag) (H : Hp) : V → Value → Prop where
  | non : TyOf K H .non (.type "NoneType")
  | bl (x : Bool) : TyOf K H (.bl x) (.type "bool")
  | int (i : Int) : TyOf K H (.int i) (.type "int")
  | str (x : Str) : TyOf K H (.str x) (.type "str")
  | flt (x : UInt64) : TyOf K H (.flt x) (.type "float")
  | lst {a : Addr} {xs : List V} (e : H a = some (.lst xs)) : TyOf K H (.ref a) (.type "list")
  | frz {a : Addr} {o : Obj} {xs : List V} (e : H a = some (.frz o (.lst xs))) : TyOf K H (.ref a) (.type "list")
  | tup {a : Addr} {xs : List V} (e : H a = some (.tup xs)) : TyOf K H (.ref a) (.type "tuple")
  | dK {a : Addr} {kvs : List (Key × V)} (e : H a = some (.dK kvs)) : TyOf K H (.ref a) (.type "dict")
  | dT {a : Addr} {kvs : List (List Key × V)} (e : H a = some (.dT kvs)) : TyOf K H (.ref a) (.type "dict")
  | ins {a C dx : Addr} {fs : List (Str × V)} (e : H a = some (.ins C dx fs)) (cl : Cls K C) (ha : PySem.W.findIn K (.ref C) "__class__" = some (some (.builtin "object.__class__")))
      (hn : PySem.W.specialIn K (.builtin "object.__class__") "__get__" = some (some (.builtin "getset_descriptor.__get__"))) (htk : PySem.W.takesIn K (.builtin "object.__class__") = some true)
      (hm : PySem.W.mroIn K C (.type "object") = some true) : TyOf K H (.ref a) (.ref C)
/-- isinstance(x, c) for one class c, a built-in or an own one: kitOne's answer -/
theorem isinst_ok {x : V} {u t : Value} (I : Inv X pins σ H s) (rx : RelV x u) (ty : TyOf X.K H x t) (e : PySem.W.kitOne X.K t c = some b) (h : ∀ tk, Q (.bool b) { s with toks := tk }) :
    wpAny (model X.prog X.w) A (call (.builtin "isinstance") [u, c]) Q E s := by
  cases ty with
  | non => cases (show u = Value.none from rx); exact PySem.W.kia_one PySem.W.kitx_none I.kIn True.intro e (fun z => nomatch z) h
  | bl y => cases (show u = Value.bool y from rx); exact PySem.W.kia_one PySem.W.kitx_bool I.kIn True.intro e (fun z => nomatch z) h
  | int i => obtain ⟨t, q⟩ := (show ∃ t, u = Value.int i t from rx); cases q; exact PySem.W.kia_one PySem.W.kitx_int I.kIn True.intro e (fun z => nomatch z) h
  | str y => obtain ⟨t, q⟩ := (show ∃ t, u = Value.str y t from rx); cases q; exact PySem.W.kia_one PySem.W.kitx_str I.kIn True.intro e (fun z => nomatch z) h
  | flt y => obtain ⟨t, q⟩ := (show ∃ t, u = Value.float y t from rx); cases q; exact PySem.W.kia_one PySem.W.kitx_float I.kIn True.intro e (fun z => nomatch z) h
  | @lst a xs ea =>
    cases (show u = Value.ref a from rx)
    obtain ⟨_, _, n, _, h1⟩ := (show ObjOk X.prog X.w H s.heap a (.lst xs) from I.hok a _ ea)
    exact PySem.W.kia_one PySem.W.kitx_list I.kIn ⟨_, h1, rfl⟩ e (fun z => nomatch z) h
  | @frz a ob xs ea =>
    cases (show u = Value.ref a from rx)
    obtain ⟨_, _, _, n, _, h1⟩ := (show ObjOk X.prog X.w H s.heap a (.frz ob (.lst xs)) from I.hok a _ ea)
    exact PySem.W.kia_one PySem.W.kitx_list I.kIn ⟨_, h1, rfl⟩ e (fun z => nomatch z) h
  | @tup a xs ea =>
    cases (show u = Value.ref a from rx)
    obtain ⟨_, _, _, p⟩ := (show ObjOk X.prog X.w H s.heap a (.tup xs) from I.hok a _ ea)
    obtain ⟨o, h1, h2, _⟩ := p
    exact PySem.W.kia_one PySem.W.kitx_tuple I.kIn ⟨o, h1, h2⟩ e (fun z => nomatch z) h
  | @dK a kvs ea =>
    cases (show u = Value.ref a from rx)
    obtain ⟨_, _, vs, _, p⟩ := (show ObjOk X.prog X.w H s.heap a (.dK kvs) from I.hok a _ ea)
    obtain ⟨o, es, ep, h1, h2, _⟩ := p
    exact PySem.W.kia_one PySem.W.kitx_dict I.kIn ⟨o, h1, h2.1⟩ e (fun z => nomatch z) h
  | @dT a kvs ea =>
    cases (show u = Value.ref a from rx)
    obtain ⟨_, _, xs, _, o, es, ep, h1, h2, _⟩ := (show ObjOk X.prog X.w H s.heap a (.dT kvs) from I.hok a _ ea)
    exact PySem.W.kia_one PySem.W.kitx_dict I.kIn ⟨o, h1, h2.1⟩ e (fun z => nomatch z) h
  | @ins a C dx fs ea cl ha hn htk hm =>
    cases (show u = Value.ref a from rx)
    obtain ⟨mA, O, _⟩ := ins_get I.hok ea
    obtain ⟨od, J, _⟩ := O.look
    exact PySem.W.kia_one (PySem.W.kitx_own (cl.get _) cl.hd ha hn htk hm) I.kIn J e (fun z => nomatch z) h
end
end L2

namespace L2
open PySem PySem.Spec PyProof.Rows

/-! ### room -/
structure Room (k : Nat) (A : Around) : Prop where
  hd : A.handled = none
  dp : A.depth + 3 * k + 5 < recursionLimit
  un : A.units + 16 * k + 200 < cLine
theorem Room.mono {j k : Nat} {A : Around} (r : Room k A) (h : j ≤ k) : Room j A := ⟨r.hd, by have := r.dp; omega, by have := r.un; omega⟩
theorem Room.deeper {k : Nat} {A : Around} (r : Room (k + 1) A) (env : Env) : Room k (A.deeper env) :=
  ⟨r.hd, by have := r.dp; show A.depth + 1 + 3 * k + 5 < _; omega, by have := r.un; show A.units + 3 + 16 * k + 200 < _; omega⟩
theorem Room.in1 {k : Nat} {A : Around} (r : Room (k + 1) A) : Room k A.in1 :=
  ⟨r.hd, by have := r.dp; show A.depth + 3 * k + 5 < _; omega, by have := r.un; show A.units + 1 + 16 * k + 200 < _; omega⟩
theorem make_depth {A : Around} {C : Addr} {us : List Value} {kw : List (Str × Value)} : (A.under (.builtin "type.__call__" ⟨.ref C :: us, kw⟩)).depth = A.depth + 1 := by
  first | rfl | simp [Around.under, Code.weight, Code.isCreation, Code.isGuard, Code.isCaller, Code.frames, Code.isFrame, guardIds]
theorem make_units {A : Around} {C : Addr} {us : List Value} {kw : List (Str × Value)} : (A.under (.builtin "type.__call__" ⟨.ref C :: us, kw⟩)).units = A.units + 1 := by
  first | rfl | simp [Around.under, Code.cUnits, Code.frames, Code.isFrame]
theorem Room.make {k : Nat} {A : Around} (r : Room (k + 1) A) (C : Addr) (us : List Value) (kw : List (Str × Value)) : Room k (A.under (.builtin "type.__call__" ⟨.ref C :: us, kw⟩)) :=
  ⟨r.hd, by have := r.dp; rw [make_depth]; omega, by have := r.un; rw [make_units]; omega⟩
theorem Room.depth {k : Nat} {A : Around} (r : Room k A) : A.depth < recursionLimit := by have := r.dp; omega
theorem Room.units {k : Nat} {A : Around} (r : Room k A) : A.units + 64 < cLine := by have := r.un; omega
/-! ### argument lists and displays -/
def tNil : TA := fun _ H Q => Q [] H
def tCons (ta : TE) (tr : TA) : TA := fun σ H Q => ta σ H fun x H1 => tr σ H1 fun xs H2 => Q (x :: xs) H2
section
variable {X : Cx} {e : Expr} {es : List Expr} {te : TE} {t : TA} {pos : Pos}
theorem pa_nil : PA X [] tNil := fun _ _ _ _ H Q I h => Calls.spliced_nil ⟨[], H, I, .nil, h⟩
theorem pa_cons (ha : PE X e te) (hr : PA X es t) (hs : starEach (e :: es) X.env = (false, eval e X.env) :: starEach es X.env := by rfl) : PA X (e :: es) (tCons te t) := by
  intro pos pins s σ H Q I h
  rw [hs]
  show wpAny _ _ (spliced ((false, eval e X.env) :: backTo pos (starEach es X.env))) _ _ s
  refine Calls.spliced_cons (thn (ha pins s σ H _ I h) fun u s1 ⟨x, H1, I1, r1, q1⟩ => ?_)
  exact thn (hr pos pins s1 σ H1 _ I1 q1) fun us s2 ⟨xs, H2, I2, r2, q2⟩ => ⟨x :: xs, H2, I2, .cons r1 r2, q2⟩

/-- a tuple, a list of written items -/
def tTup (t : TA) : TE := fun σ H Q => t σ H fun xs H1 => xs.length ≤ sizeLine ∧ ∀ p, H1 p = none → Q (.ref p) (upd H1 p (.tup xs))
def tLst (t : TA) : TE := fun σ H Q => t σ H fun xs H1 => xs.length ≤ sizeLine ∧ ∀ p, H1 p = none → Q (.ref p) (upd H1 p (.lst xs))
theorem pe_tup {x1} (h : PA X es t) : PE X (.Tuple es x1 pos) (tTup t) := by
  intro pins s σ H Q I hq
  refine wpAny_Tuple_spliced (thn (h pos pins s σ H _ I hq) fun us s1 ⟨xs, H1, I1, r, z, q⟩ => ⟨by rw [← r.length]; exact z, ?_⟩)
  have hf : H1 s1.heap.objs.size = none := I1.hok.fresh (Nat.le_refl _)
  refine ⟨.ref s1.heap.objs.size, upd H1 s1.heap.objs.size (.tup xs), I1.laid (t' := s1.toks) (fun b u e => Heap.get?_push_of_some _ e) (Nat.le_refl _) ?_, rfl, q _ hf⟩
  exact ⟨z, us, r, ⟨_, Heap.get?_push_size _ rfl, rfl, _, rfl⟩⟩
theorem pe_lst (h : PA X es t) : PE X (.List es pos) (tLst t) := by
  intro pins s σ H Q I hq
  refine wpAny_List_spliced (thn (h pos pins s σ H _ I hq) fun us s1 ⟨xs, H1, I1, r, z, q⟩ => ⟨by rw [← r.length]; exact z, ?_⟩)
  have hf : H1 s1.heap.objs.size = none := I1.hok.fresh (Nat.le_refl _)
  refine ⟨.ref s1.heap.objs.size, upd H1 s1.heap.objs.size (.lst xs), I1.laid (t' := s1.toks) (fun b u e => Heap.get?_push_of_some _ e) (Nat.le_refl _) ?_, rfl, q _ hf⟩
  exact ⟨z, us, 0, r, Heap.get?_push_size _ rfl⟩
end

/-! ### what a def promises -/
/-- a def's promise: the bound arguments in the parameters' order, the heap, the wanted end, the wanted exception -/
abbrev Sp := List V → Hp → VK → XK → Prop
/-- how an exception lies behind a call (file 08 gives it): the callers' frames, abstract heap and state ahead of the call, the wish, the exception, the state -/
abbrev CXT := List Env → Hp → Shared → XK → Value → Shared → Prop

/-- the state at a call -/
structure Env0 (P : Program) (w : World) (K : PySem.W.Frag) (mg : Str → Option Value) (base : Heap) (A : Around) (outer : List Env) (s : Shared) (H : Hp) : Prop where
  frames : A.frames = some outer
  mod : Mod K mg base
  bs : ∀ b o, base.get? b = some o → s.heap.get? b = some o ∧ H b = none
  bsz : base.objs.size ≤ s.heap.objs.size
  funs : s.heap.FunFrames base outer
  frf : ∀ b ∈ frs outer, H b = none
  hok : HOk P w H s.heap
  bare : AllBare s.gens
/-- a call's end -/
def CE (outer : List Env) (P : Program) (w : World) (H : Hp) (s : Shared) (Q : VK) (u : Value) (s' : Shared) : Prop :=
  ∃ v H', s'.os = s.os ∧ AllBare s'.gens ∧ Un (frs outer) [] H H' s.heap s'.heap ∧ HOk P w H' s'.heap ∧ RelV v u ∧ Q v H'
def CR (CX : CXT) (outer : List Env) (P : Program) (w : World) (H : Hp) (s : Shared) (Q : VK) (E : XK) (r : Result) (s' : Shared) : Prop :=
  match r with
  | .ok (.ret u) => CE outer P w H s Q u s'
  | .ok _ => False
  | .error e => CX outer H s E e s'
structure FnOk (P : Program) (w : World) (K : PySem.W.Frag) (mg : Str → Option Value) (base : Heap) (CX : CXT) (k : Nat) (f : Addr) (fd : FuncData) (ps : List Str) (sp : Sp) : Prop where
  len : ∀ vs H Q E, sp vs H Q E → vs.length = ps.length
  run : ∀ (A : Around) (outer : List Env) (s : Shared) (H : Hp) (args : Args) (us : List Value) (vs : List V) (Q : VK) (E : XK), Room k A → Env0 P w K mg base A outer s H → BindsTo s fd args (ps.zip us) → Vals vs us → sp vs H Q E →
    codeAny (model P w) A (.call (.ref f) args) (CR CX outer P w H s Q E) s
theorem FnOk.mono {P : Program} {w : World} {K : PySem.W.Frag} {mg : Str → Option Value} {base : Heap} {CX : CXT} {j k : Nat} {f : Addr} {fd : FuncData} {ps : List Str} {sp : Sp} (F : FnOk P w K mg base CX j f fd ps sp) (h : j ≤ k) :
    FnOk P w K mg base CX k f fd ps sp := ⟨F.len, fun A outer s H args us vs Q E hr => F.run A outer s H args us vs Q E (hr.mono h)⟩
/-- a weaker promise -/
theorem FnOk.imp {P : Program} {w : World} {K : PySem.W.Frag} {mg : Str → Option Value} {base : Heap} {CX : CXT} {k : Nat} {f : Addr} {fd : FuncData} {ps : List Str} {sp sp' : Sp} (F : FnOk P w K mg base CX k f fd ps sp)
    (h : ∀ vs H Q E, sp' vs H Q E → sp vs H Q E) : FnOk P w K mg base CX k f fd ps sp' :=
  ⟨fun vs H Q E q => F.len vs H Q E (h _ _ _ _ q), fun A outer s H args us vs Q E hr he hb hv hs => F.run A outer s H args us vs Q E hr he hb hv (h _ _ _ _ hs)⟩

theorem Env0.make {P : Program} {w : World} {K : PySem.W.Frag} {mg : Str → Option Value} {base : Heap} {A : Around} {outer : List Env} {s : Shared} {H : Hp} (e : Env0 P w K mg base A outer s H) (C : Addr) (us : List Value) (kw : List (Str × Value)) :
    Env0 P w K mg base (A.under (.builtin "type.__call__" ⟨.ref C :: us, kw⟩)) outer s H := ⟨by first | exact e.frames | (simpa [Around.under, Code.envs, Code.isFrame, pushEnvs] using e.frames), e.mod, e.bs, e.bsz, e.funs, e.frf, e.hok, e.bare⟩
theorem Env0.in1 {P : Program} {w : World} {K : PySem.W.Frag} {mg : Str → Option Value} {base : Heap} {A : Around} {outer : List Env} {s : Shared} {H : Hp} (e : Env0 P w K mg base A outer s H) :
    Env0 P w K mg base A.in1 outer s H := ⟨e.frames, e.mod, e.bs, e.bsz, e.funs, e.frf, e.hok, e.bare⟩

section
variable {X : Cx} {pins : List (Addr × Obj)} {σ : St} {H : Hp} {s s' : Shared}
/-- from a body: what a callee wants -/
theorem Inv.env0 (I : Inv X pins σ H s) : Env0 X.prog X.w X.K X.mg X.base X.A X.stack s H :=
  ⟨I.ok.frames, I.ok.mod, I.bs, Nat.le_trans I.ok.bsz I.sz, I.stack, I.stkFree, I.hok, I.bare⟩
/-- behind a call -/
theorem Inv.after {Q : VK} {u : Value} (I : Inv X pins σ H s) (h : CE X.stack X.prog X.w H s Q u s') : EP X pins σ Q u s' := by
  obtain ⟨v, H', os, bare, un, hok, r, q⟩ := h
  obtain ⟨hh, g, d, t, os'⟩ := s'
  obtain rfl : os' = s.os := os
  exact ⟨v, H', I.call (h' := hh) (g' := g) (d' := d) (t' := t) (ch := []) un hok bare (fun b z => absurd z (by simp)), r, q⟩
end

/-! ### calls -/
/-- f(..): the written arguments, then the defaults dvs; E: what is wanted of an exception -/
def tCall (sp : Sp) (dvs : List V) (E : XK) (t : TA) : TE := fun σ H Q => t σ H fun vs H1 => sp (vs ++ dvs) H1 Q E
/-- o.m(..) of an instance of the class at C -/
def tMeth (C : Addr) (m : Str) (sp : Sp) (dvs : List V) (E : XK) (ta : TE) (t : TA) : TE := fun σ H Q => ta σ H fun x H1 => ∃ a dx fs, x = .ref a ∧ H1 a = some (.ins C dx fs) ∧ fs.lookup m = none ∧
  t σ H1 fun vs H2 => sp (x :: (vs ++ dvs)) H2 Q E
/-- C(..): a new instance and its dict, then __init__ -/
def tMake (C : Addr) (sp : Sp) (dvs : List V) (E : XK) (t : TA) : TE := fun σ H Q => t σ H fun vs H1 => ∀ x dx, H1 x = none → H1 dx = none → dx ≠ x →
  sp (.ref x :: (vs ++ dvs)) (upd (upd H1 dx (.own x)) x (.ins C dx [])) (fun v H2 => v = .non ∧ Q (.ref x) H2) E

/-- how the parameters are bound: us the positional arguments, kw the keywords' values by name, ds the defaults that fill up -/
def Binds (K : PySem.W.Frag) (fd : FuncData) (ps : List Str) (ds : List Value) : Prop :=
  ∀ (s : Shared) (us : List Value), K.In s.heap → (us ++ ds).length = ps.length → BindsTo s fd ⟨us, []⟩ (ps.zip (us ++ ds))
/-- every parameter is given -/
theorem Binds.all {K : PySem.W.Frag} {fd : FuncData} {ps : List Str} (h : ∀ us : List Value, us.length = ps.length → bindArgs fd ⟨us, []⟩ = pure (ps.zip us)) : Binds K fd ps [] := fun s us _ hl => by
  rw [List.append_nil] at hl ⊢
  exact .of_eq (h us hl)

/-- an exception of a callee reaches what this body wants of exceptions -/
def Passes (CX : CXT) (X : Cx) (E : XK) : Prop := ∀ (pins : List (Addr × Obj)) (σ : St) (H : Hp) (s : Shared) (e : Value) (s' : Shared), Inv X pins σ H s → CX X.stack H s E e s' → X.xe e s'

section
variable {X : Cx} {CX : CXT} {k : Nat} {f C : Addr} {fd : FuncData} {ps : List Str} {sp : Sp} {dvs : List V} {ds : List Value} {E : XK} {x m : Str} {p pos apos : Pos} {e o : Expr} {es : List Expr} {ta : TE} {t : TA}

/-- the callee runs -/
theorem run_fn {pins : List (Addr × Obj)} {σ : St} {H : Hp} {s : Shared} {Q : VK} {us : List Value} {vs : List V} (F : FnOk X.prog X.w X.K X.mg X.base CX k f fd ps sp) (hr : Room k X.A) (hb : Binds X.K fd ps ds) (hd : Vals dvs ds) (hx : Passes CX X E)
    (I : Inv X pins σ H s) (r : Vals vs us) (h : sp (vs ++ dvs) H Q E) : wpAny (model X.prog X.w) X.A (call (.ref f) us) (EP X pins σ Q) X.xe s := by
  have r2 : Vals (vs ++ dvs) (us ++ ds) := r.append hd
  have hl : (us ++ ds).length = ps.length := by rw [← r2.length]; exact F.len _ _ _ _ h
  refine wpAny_call (codeAny_mono (F.run X.A X.stack s H ⟨us, []⟩ (us ++ ds) (vs ++ dvs) Q E hr I.env0 (hb s us I.kIn hl) r2 h) fun r s' hq => ?_)
  cases r with
  | error e => exact hx pins σ H s e s' I hq
  | ok fl =>
    cases fl with
    | ret u => exact I.after hq
    | next => exact False.elim hq
    | brk => exact False.elim hq
    | cont => exact False.elim hq

theorem pe_call (F : FnOk X.prog X.w X.K X.mg X.base CX k f fd ps sp) (hr : Room k X.A) (hg : Gl X x) (hm : X.mg x = some (.ref f)) (hk : PySem.W.keepIn X.K (.ref f) = true) (hb : Binds X.K fd ps ds) (hd : Vals dvs ds) (hx : Passes CX X E)
    (ha : PA X (e :: es) t) (hdb : (x == ("__debug__" : Str)) = false := by decide) (he : starEach (e :: es) X.env = (false, eval e X.env) :: starEach es X.env := by rfl) (hpl : (backTo pos (starEach es X.env)).any (·.1) = false := by rfl) :
    PE X (.Call (.Name x p) (e :: es) [] pos) (tCall sp dvs E t) := by
  intro pins s σ H Q I h
  refine wpAny_Call_Name_kw (ld_glob I hg hm ?_ hdb)
  refine PySem.W.callWith_K (h₀ := X.base) I.ok.mod.kin hk (thn (ha pos pins s σ H _ I h) fun us s1 ⟨vs, H1, I1, r, q⟩ => ⟨I1.kIn, ?_⟩) he hpl
  exact run_fn F hr hb hd hx I1 r q
/-- what a class must have to be made -/
structure Mk (K : PySem.W.Frag) (C f : Addr) : Prop where
  makes : PySem.W.makesIn K C = true
  init : PySem.W.findIn K (.ref C) "__init__" = some (some (.ref f))
  fn : PySem.W.isFn K (.ref f) = true
  kp : PySem.W.keepIn K (.ref C) = true

end

/-! ### keywords -/
/-- the values of the keywords, from the left -/
def PK (X : Cx) (kws : List Keyword) (t : TA) : Prop :=
  ∀ (pos : Pos) (pins : List (Addr × Obj)) (s : Shared) (σ : St) (H : Hp) (Q : List V → Hp → Prop), Inv X pins σ H s → t σ H Q → wpAny (model X.prog X.w) X.A (evalAll ((backToKw pos (keywordEach kws X.env)).map (·.2))) (AP X pins σ Q) X.xe s
section
variable {X : Cx} {CX : CXT} {k : Nat} {f C : Addr} {fd : FuncData} {ps ks : List Str} {sp : Sp} {E : XK} {x m : Str} {p pos apos kpos : Pos} {e o : Expr} {es : List Expr} {kws : List Keyword} {te ta : TE} {t tk : TA} {nm : Option Str}
/-- how a call with keywords binds: g puts the positional values us and the keywords' values ws (names ks) in the parameters' order, defaults among them -/
structure KBinds (K : PySem.W.Frag) (fd : FuncData) (ps ks : List Str) (g : List Value → List Value → List Value) (gV : List V → List V → List V) : Prop where
  to : ∀ (s : Shared) (us ws : List Value), K.In s.heap → (g us ws).length = ps.length → BindsTo s fd ⟨us, ks.zip ws⟩ (ps.zip (g us ws))
  rel : ∀ {vs : List V} {us : List Value} {zs : List V} {ws : List Value}, Vals vs us → Vals zs ws → Vals (gV vs zs) (g us ws)
def tCallK (sp : Sp) (gV : List V → List V → List V) (E : XK) (t tk : TA) : TE := fun σ H Q => t σ H fun vs H1 => tk σ H1 fun zs H2 => sp (gV vs zs) H2 Q E
variable {g : List Value → List Value → List Value} {gV : List V → List V → List V}
end

/-! ### a def's body keeps its promise -/
/-- names: the parameters first -/
structure FnScope (N P : List Str) (sc : Scope) : Prop where
  kind : sc.kind = .function
  co : sc.isCoroutine = false
  gen : sc.isGenerator = false
  nd : N.Nodup
  pre : N.take P.length = P
  par : ∀ x ∈ P, sc.names.lookup x = some .local ∨ sc.names.lookup x = some .cell
  nofree : ∀ y ∈ sc.names, y.2 ≠ .free

theorem bindL_out {kindOf : Str → Option NameKind} {x : Str} : ∀ {binds : List (Str × Value)} {m : Str → Option Value}, (∀ v, (x, v) ∉ binds) → bindL kindOf binds m x = m x
  | [], _, _ => rfl
  | (n, v) :: r, m, h => by
    unfold bindL
    rw [bindL_out fun w hw => h w (List.mem_cons_of_mem _ hw)]
    split
    · have : x ≠ n := by rintro rfl; exact h v List.mem_cons_self
      simp [this]
    · rfl
theorem bindC_out {kindOf : Str → Option NameKind} {x : Str} : ∀ {binds : List (Str × Value)} {m : Str → Option Value}, (∀ v, (x, v) ∉ binds) → bindC kindOf binds m x = m x
  | [], _, _ => rfl
  | (n, v) :: r, m, h => by
    unfold bindC
    rw [bindC_out fun w hw => h w (List.mem_cons_of_mem _ hw)]
    split
    · rfl
    · have : x ≠ n := by rintro rfl; exact h v List.mem_cons_self
      simp [this]
theorem bindL_get {kindOf : Str → Option NameKind} {x : Str} {v : Value} : ∀ {P : List Str} {vs : List Value} {i : Nat} {m : Str → Option Value}, P.Nodup → P[i]? = some x → vs[i]? = some v → kindOf x = some .local →
    bindL kindOf (P.zip vs) m x = some v
  | [], _, _, _, _, h, _, _ => by simp at h
  | _ :: _, [], _, _, _, _, h, _ => by simp at h
  | p :: P, w :: vs, 0, m, nd, h1, h2, hk => by
    simp at h1 h2; subst h1; subst h2
    show bindL kindOf ((p, w) :: P.zip vs) m p = _
    unfold bindL
    rw [bindL_out fun v hv => (List.nodup_cons.mp nd).1 (List.of_mem_zip hv).1, if_pos hk]
    simp
  | p :: P, w :: vs, i + 1, m, nd, h1, h2, hk => by
    show bindL kindOf ((p, w) :: P.zip vs) m x = _
    unfold bindL
    exact bindL_get (i := i) (List.nodup_cons.mp nd).2 (by simpa using h1) (by simpa using h2) hk
theorem bindC_get {kindOf : Str → Option NameKind} {x : Str} {v : Value} : ∀ {P : List Str} {vs : List Value} {i : Nat} {m : Str → Option Value}, P.Nodup → P[i]? = some x → vs[i]? = some v → kindOf x ≠ some .local →
    bindC kindOf (P.zip vs) m x = some v
  | [], _, _, _, _, h, _, _ => by simp at h
  | _ :: _, [], _, _, _, _, h, _ => by simp at h
  | p :: P, w :: vs, 0, m, nd, h1, h2, hk => by
    simp at h1 h2; subst h1; subst h2
    show bindC kindOf ((p, w) :: P.zip vs) m p = _
    unfold bindC
    rw [bindC_out fun v hv => (List.nodup_cons.mp nd).1 (List.of_mem_zip hv).1, if_neg hk]
    simp
  | p :: P, w :: vs, i + 1, m, nd, h1, h2, hk => by
    show bindC kindOf ((p, w) :: P.zip vs) m x = _
    unfold bindC
    exact bindC_get (i := i) (List.nodup_cons.mp nd).2 (by simpa using h1) (by simpa using h2) hk

/-- the names' values at the entry -/
def start (N : List Str) (vs : List V) : St := vs.map some ++ List.replicate (N.length - vs.length) none

/-- the context of a def's body, at its entry; an exception leaves the frame, then lies as CX says -/
def cxOf (CX : CXT) (P : Program) (w : World) (K : PySem.W.Frag) (mg : Str → Option Value) (base : Heap) (N : List Str) (qual : Str) (scope : Scope) (f : Addr) (cd : Value) (A : Around) (outer : List Env) (s : Shared) (H : Hp) (E : XK) : Cx where
  prog := P
  w := w
  K := K
  mg := mg
  base := base
  A := A.deeper (envOfC qual scope s.heap.objs.size f cd)
  N := N
  s₀ := s
  H₀ := H
  env := envOfC qual scope s.heap.objs.size f cd
  outer := outer
  stack := envOfC qual scope s.heap.objs.size f cd :: outer
  ex := []
  calm := true
  fn := fun _ => true
  pn := []
  xe := fun e s' => wpAny (model P w) (A.deeper (envOfC qual scope s.heap.objs.size f cd)) (leaving (envOfC qual scope s.heap.objs.size f cd) e) (fun _ s'' => CX outer H s E e s'') (fun e' s'' => CX outer H s E e' s'') s'

theorem cell_has {sc : Scope} {n : Nat} {x : Str} (h : sc.names.lookup x = some .cell) : ∃ c, (cellsFrom n sc.names []).lookup x = some c := by
  have q := PySem.W.cellsFrom_some sc.names n [] (.inl h)
  exact Option.isSome_iff_exists.mp q

theorem inv_start {CX : CXT} {P : Program} {w : World} {K : PySem.W.Frag} {mg : Str → Option Value} {base : Heap} {N ps : List Str} {qual : Str} {scope : Scope} {f : Addr} {cd : Value} {A : Around} {outer : List Env} {s s1 : Shared} {H : Hp} {E : XK} {us : List Value} {vs : List V}
    (S : FnScope N ps scope) (hd : A.handled = none) (e0 : Env0 P w K mg base A outer s H) (hl : vs.length = ps.length) (r : Vals vs us)
    (x : InCallC s s.heap.objs.size (bindL (envOfC qual scope s.heap.objs.size f cd).kindOf (ps.zip us) fun _ => none) (cellsFrom (s.heap.objs.size + 1) scope.names []) (bindC (envOfC qual scope s.heap.objs.size f cd).kindOf (ps.zip us) fun _ => none) s1) :
    Inv (cxOf CX P w K mg base N qual scope f cd A outer s H E) [] (start N vs) H s1 := by
  have hpl : ps.length ≤ N.length := by have := congrArg List.length S.pre; rw [List.length_take] at this; omega
  obtain ⟨h1, tk, rfl, hk⟩ := x.done
  have noA : ∀ b : Addr, b ∉ (cxOf CX P w K mg base N qual scope f cd A outer s H E).ex := fun b z => absurd (show b ∈ ([] : List Addr) from z) (by simp)
  refine ⟨⟨e0.mod, S.kind, rfl, rfl, Nat.le_refl _, fun y z c h1 h2 => ?_, fun y hy => ?_, fun y c _ h => ?_, fun _ => hd, Around.frames_deeper e0.frames, .inr ⟨rfl, rfl⟩, fun b z => absurd z (noA b), e0.bs, e0.bsz, fun b _ _ => noA b, fun b z => absurd z (noA b), e0.funs, e0.frf⟩,
    rfl, e0.bare, Un.kept hk, ⟨_, x.toInCall.ns, fun i y v h1 h2 h3 => ?_⟩, fun y c h => ⟨_, x.cell y c h⟩, e0.hok.fresh (Nat.le_refl _), fun y c h => ?_, fun p hp => absurd (show p ∈ ([] : List (Addr × Obj)) from hp) (by simp), e0.hok.kept hk, ?_⟩
  · exact name_of_addr x.apart (PySem.mem_of_lookup h1) (PySem.mem_of_lookup h2)
  · have hy : scope.names.lookup y = some .cell ∨ scope.names.lookup y = some .free := hy
    rcases hy with hy | hy
    · exact cell_has hy
    · exact absurd rfl (S.nofree _ (PySem.mem_of_lookup hy))
  · exact Nat.le_of_lt (x.above y c (PySem.mem_of_lookup h))
  · have hi : i < vs.length := by
      unfold start at h2
      by_cases hi : i < vs.length
      · exact hi
      · rw [List.getElem?_append_right (by simpa using hi)] at h2
        rw [List.getElem?_replicate] at h2
        split at h2 <;> cases h2
    have ha : vs[i]? = some v := by
      unfold start at h2
      rw [List.getElem?_append_left (by simpa using hi), List.getElem?_map] at h2
      cases e : vs[i]? with
      | none => rw [e] at h2; cases h2
      | some a => rw [e] at h2; cases h2; rfl
    obtain ⟨u, hu, rv⟩ := r.get ha
    have hp : ps[i]? = some y := by
      rw [← S.pre, List.getElem?_take_of_lt (by omega)]; exact h1
    have ndP : ps.Nodup := by rw [← S.pre]; exact S.nd.sublist (List.take_sublist _ _)
    refine ⟨u, rv, ?_⟩
    rcases S.par y (List.mem_of_getElem? hp) with k | k
    · exact .inl ⟨k, bindL_get ndP hp hu k⟩
    · obtain ⟨c, e⟩ := cell_has (n := s.heap.objs.size + 1) k
      refine .inr ⟨.inl k, c, e, ?_⟩
      have q := x.cell y c e
      rw [bindC_get ndP hp hu (by show scope.names.lookup y ≠ _; rw [k]; decide)] at q
      exact q
  · exact e0.hok.fresh (Nat.le_of_lt (x.above y c (PySem.mem_of_lookup h)))
  · unfold start
    show _ = N.length
    rw [List.length_append, List.length_map, List.length_replicate]
    omega

/-- THE RULE: a def (or a method) of the text, by its body. The body's reading t is chosen for each entry; it is run at the parameters' values -/
theorem fn_of {CX : CXT} {P : Program} {w : World} {K : PySem.W.Frag} {mg : Str → Option Value} {base : Heap} {k : Nat} {f : Addr} {name qual : Str} {params : Arguments} {body : List Stmt} {scope : Scope} {dV kV doc pm cdv ct oc : Value} {an od : Option Addr}
    {osl : Array (Option Value)} {N ps : List Str} {sp : Sp} (lk : K.lookup f = some ⟨oc, od, .func (PySem.W.fnOf name qual params body scope dV kV doc pm an cdv ct), osl⟩) (hcd : PySem.W.codeIn K cdv qual = true) (S : FnScope N ps scope)
    (len : ∀ vs H Q E, sp vs H Q E → vs.length = ps.length)
    (hbody : ∀ (A : Around) (outer : List Env) (s : Shared) (H : Hp) (vs : List V) (Q : VK) (E : XK), Room k (A.deeper (envOfC qual scope s.heap.objs.size f cdv)) → sp vs H Q E →
      ∃ t, PSs (cxOf CX P w K mg base N qual scope f cdv A outer s H E) body t ∧ t { nx := fun _ H' => Q .non H', rt := Q } (start N vs) H) :
    FnOk P w K mg base CX (k + 1) f (PySem.W.fnOf name qual params body scope dV kV doc pm an cdv ct) ps sp := by
  refine ⟨len, fun A outer s H args us vs Q E hr e0 hb r hsp => ?_⟩
  have hl := len _ _ _ _ hsp
  have KX : K.In s.heap := e0.mod.kin.keeps fun b o e => (e0.bs b o e).1
  have lim : s.heap.NoLimit := e0.mod.nolimit.keeps fun b o e => (e0.bs b o e).1
  have hkind : ∀ y ∈ ps.zip us, scope.names.lookup y.1 = some .local ∨ (scope.names.lookup y.1 = some .cell ∧ ((cellsFrom (s.heap.objs.size + 1) scope.names []).lookup y.1).isSome = true) := fun ⟨n, v⟩ hy => by
    rcases S.par n (List.of_mem_zip hy).1 with q | q
    · exact .inl q
    · exact .inr ⟨q, PySem.W.cellsFrom_some _ _ _ (.inl q)⟩
  refine codeAny_call_function hr.depth (KX _ _ lk) rfl S.co S.gen rfl (PySem.W.codeRec_of KX hcd) (hb _ _ _ _ ?_)
  refine wpAny_newFunctionEnv_cells S.kind hkind fun env he s1 x => ?_
  subst he
  refine ⟨lim.keeps x.toInCall.keep, codeAny_func ?_⟩
  obtain ⟨t, ht, hq⟩ := hbody A outer s H vs Q E (hr.deeper _) hsp
  have I : Inv (cxOf CX P w K mg base N qual scope f cdv A outer s H E) [] (start N vs) H s1 := inv_start S hr.hd e0 hl r x
  refine wpAny_mono (ht [] s1 (start N vs) H _ I hq) (fun fl s' hs => ?_) fun e s' hs => hs
  have fin : ∀ {σ' : St} {H' : Hp} {v : V} {u : Value}, Inv (cxOf CX P w K mg base N qual scope f cdv A outer s H E) [] σ' H' s' → RelV v u → Q v H' → CE outer P w H s Q u s' :=
    fun {σ' H' v u} J rv q => ⟨v, H', J.os, J.bare, J.base, J.hok, rv, q⟩
  cases fl with
  | ret u =>
    obtain ⟨v, σ', H', J, rv, q⟩ := hs
    exact fin J rv q
  | next =>
    obtain ⟨σ', H', J, q⟩ := hs
    exact fin (v := V.non) (u := Value.none) J rfl q
  | brk =>
    obtain ⟨_, _, _, q⟩ := hs
    exact False.elim q
  | cont =>
    obtain ⟨_, _, _, q⟩ := hs
    exact False.elim q
end L2

namespace L2
open PySem PySem.Spec PyProof.Rows
section
variable {X : Cx} {x : Str} {p pos : Pos} {e : Expr} {es : List Expr} {t : TA} {id T : String} {r : List V → Hp → VK → Prop}

def tCB (r : List V → Hp → VK → Prop) (t : TA) : TE := fun σ H Q => t σ H fun vs H1 => r vs H1 Q
/-- f(e, ..), f a built-in function -/
theorem pe_callB (hc : CallR X (.builtin id) r) (hg : Gl X x) (hm : X.mg x = none) (hv : bootBuiltins x = some (.builtin id)) (ha : PA X (e :: es) t) (hn : x ≠ "__name__" := by decide) (hdb : (x == ("__debug__" : Str)) = false := by decide)
    (he : starEach (e :: es) X.env = (false, eval e X.env) :: starEach es X.env := by rfl) (hpl : (backTo pos (starEach es X.env)).any (·.1) = false := by rfl) : PE X (.Call (.Name x p) (e :: es) [] pos) (tCB r t) := by
  intro pins s σ H Q I h
  refine wpAny_Call_Name_kw (ld_blt I hg hm hv ?_ hn hdb)
  exact PyProof.Rows.callWith_builtin1 (thn (ha pos pins s σ H _ I h) fun us s1 ⟨vs, H1, I1, r1, q1⟩ => hc pins s1 σ H1 vs us Q I1 r1 q1) he hpl
/-- T(e, ..), T a built-in type -/
theorem pe_callTy (hc : CallR X (.type T) r) (hg : Gl X x) (hm : X.mg x = none) (hv : bootBuiltins x = some (.type T)) (ha : PA X (e :: es) t) (hn : x ≠ "__name__" := by decide) (hdb : (x == ("__debug__" : Str)) = false := by decide)
    (he : starEach (e :: es) X.env = (false, eval e X.env) :: starEach es X.env := by rfl) (hpl : (backTo pos (starEach es X.env)).any (·.1) = false := by rfl) : PE X (.Call (.Name x p) (e :: es) [] pos) (tCB r t) := by
  intro pins s σ H Q I h
  refine wpAny_Call_Name_kw (ld_blt I hg hm hv ?_ hn hdb)
  exact PyProof.Rows.callWith_type1 (thn (ha pos pins s σ H _ I h) fun us s1 ⟨vs, H1, I1, r1, q1⟩ => hc pins s1 σ H1 vs us Q I1 r1 q1) he hpl
end
end L2

namespace HT
open PySem PyProof.Rows

/-- t < u of tuples of ints -/
def lexLt : List Int → List Int → Bool
  | [], [] => false
  | [], _ :: _ => true
  | _ :: _, [] => false
  | x :: xs, y :: ys => if x = y then lexLt xs ys else decide (x < y)
section
open PySem.SeqAt
open PySem.AutoSeq1 (wpAny_loadPart')
open PySem.MeetsSeq PySem.MeetsSeq2 PySem.MeetsSeq3

end

section
variable {prog : Program} {w : World} {A : Around} {E : Value → Shared → Prop} {s : Shared}

/-! ### t[a:b], not the whole -/
/-- a slice's bound as a place among n (d where it is left out) -/
def sIx (n d : Nat) : Option Int → Nat
  | none => d
  | some v => if v < 0 then (v + (n : Int)).toNat else min v.toNat n
end
end HT

namespace L2
open PySem PySem.Spec PyProof.Rows

/-! ### the parts of a slice -/
abbrev TO := St → Hp → (Option Int → Hp → Prop) → Prop
/-- a slice's part (left out, or an int) -/
def PO (X : Cx) (e : Option Expr) (t : TO) : Prop :=
  ∀ (pins : List (Addr × Obj)) (s : Shared) (σ : St) (H : Hp) (Q : Option Int → Hp → Prop), Inv X pins σ H s → t σ H Q →
    wpAny (model X.prog X.w) X.A (evalPart e X.env) (fun u s' => ∃ o H', Inv X pins σ H' s' ∧ IsPart u o ∧ Q o H') X.xe s
def tNoPart : TO := fun _ H Q => Q none H
def tPart (t : TE) : TO := fun σ H Q => t σ H fun x H1 => ∃ i, x = .int i ∧ Q (some i) H1

section
variable {X : Cx} {e : Expr} {te : TE} {lo hi : Option Expr} {tl th : TO} {pos p2 : Pos}

theorem po_none : PO X none tNoPart := by
  intro pins s σ H Q I h
  rw [evalPart_none]
  exact wpAny_pure ⟨none, H, I, .none, h⟩
theorem po_some (h : PE X e te) : PO X (some e) (tPart te) := by
  intro pins s σ H Q I hw
  rw [evalPart_some]
  refine thn (h pins s σ H _ I hw) fun u s1 ⟨x, H1, I1, r1, q1⟩ => ?_
  obtain ⟨i, rfl, q⟩ := q1
  obtain ⟨t, rfl⟩ := r1
  exact ⟨some i, H1, I1, .int i t, q⟩

/-- what a slice of a value is, by values: the slice object stands at sl -/
def SlR (X : Cx) (r : V → Option Int → Option Int → Hp → VK → Prop) : Prop :=
  ∀ (pins : List (Addr × Obj)) (s : Shared) (σ : St) (H : Hp) (x : V) (v vl vu : Value) (lo hi : Option Int) (sl : Addr) (Q : VK), Inv X pins σ H s → RelV x v → s.heap.IsSliceOf sl vl vu .none → IsPart vl lo → IsPart vu hi → r x lo hi H Q →
    ∃ T id, typeLookup (.type T) "__getitem__" = pure (some (.builtin id)) ∧ s.TypeIs v T ∧ wpAny (model X.prog X.w) X.A (getItem v (.ref sl)) (EP X pins σ Q) X.xe s
theorem SlR.or {r r' : V → Option Int → Option Int → Hp → VK → Prop} (h : SlR X r) (h' : SlR X r') : SlR X (fun x lo hi H Q => r x lo hi H Q ∨ r' x lo hi H Q) := by
  intro pins s σ H x v vl vu lo hi sl Q I rx hs pl pu q
  rcases q with q | q
  · exact h pins s σ H x v vl vu lo hi sl Q I rx hs pl pu q
  · exact h' pins s σ H x v vl vu lo hi sl Q I rx hs pl pu q
def tSl (r : V → Option Int → Option Int → Hp → VK → Prop) (te : TE) (tl th : TO) : TE := fun σ H Q => te σ H fun x H1 => tl σ H1 fun l H2 => th σ H2 fun u H3 => r x l u H3 Q
/-- a[lo:hi], any a -/
theorem pe_slice {r : V → Option Int → Option Int → Hp → VK → Prop} (hr : SlR X r) (he : PE X e te) (hl : PO X lo tl) (hu : PO X hi th) : PE X (.Subscript e (.Slice lo hi none p2) pos) (tSl r te tl th) := by
  intro pins s σ H Q I h
  refine Subscript_ (thn (he pins s σ H _ I h) fun v s1 ⟨x, H1, I1, r1, q1⟩ => ?_)
  refine wpAny_Slice (thn (hl pins s1 σ H1 _ I1 q1) fun vl s2 ⟨l, H2, I2, pl, q2⟩ => thn (hu pins s2 σ H2 _ I2 q2) fun vu s3 ⟨u, H3, I3, pu, q3⟩ => ?_)
  rw [evalPart_none]
  refine wpAny_pure ?_
  have I4 : Inv X pins σ H3 { s3 with heap := s3.heap.push { cls := .type "slice", data := .fields #[vl, vu, .none] } } := I3.kept (t' := s3.toks) fun b ob q => Heap.get?_push_of_some _ q
  obtain ⟨T, id, hT, ht, hg⟩ := hr pins { s3 with heap := s3.heap.push { cls := .type "slice", data := .fields #[vl, vu, .none] } } σ H3 x v vl vu l u s3.heap.objs.size Q I4 r1 (Heap.IsSliceOf.new ..) pl pu q3
  show wpAny (model X.prog X.w) X.A (subscriptTail e (.Slice lo hi none p2) v (.ref s3.heap.objs.size)) (EP X pins σ Q) X.xe { s3 with heap := s3.heap.push { cls := .type "slice", data := .fields #[vl, vu, .none] } }
  exact tail_any (ops := [.ref s3.heap.objs.size, v]) ht hT hg (by with_unfolding_all rfl)

/-- the items of xs[lo:hi] -/
def cutV (xs : List V) (lo hi : Option Int) : List V := (xs.drop (HT.sIx xs.length 0 lo)).take (HT.sIx xs.length xs.length hi - HT.sIx xs.length 0 lo)
theorem cutV_length (xs : List V) (lo hi : Option Int) : (cutV xs lo hi).length ≤ xs.length := by
  unfold cutV
  rw [List.length_take, List.length_drop]
  omega
/-- t[lo:hi], not the whole of it (the whole would be t itself) -/
def rSlT (K : PySem.W.Frag) : V → Option Int → Option Int → Hp → VK → Prop := fun x lo hi H Q => ∃ a xs, x = .ref a ∧ SqT K H a xs ∧
  ¬ (HT.sIx xs.length 0 lo = 0 ∧ HT.sIx xs.length xs.length hi = xs.length) ∧ ∀ p, H p = none → Q (.ref p) (upd H p (.tup (cutV xs lo hi)))
/-! ### t < u, t + u -/
def rLtT (K : PySem.W.Frag) : R2 := fun x y H Q => ∃ a b ns ms, x = .ref a ∧ y = .ref b ∧ SqT K H a (ns.map V.int) ∧ SqT K H b (ms.map V.int) ∧ Q (.bl (HT.lexLt ns ms)) H
/-- t + u, t not empty: u empty gives t itself -/
def rCatT (K : PySem.W.Frag) : R2 := fun x y H Q => ∃ a b xs ys, x = .ref a ∧ y = .ref b ∧ SqT K H a xs ∧ SqT K H b ys ∧ xs ≠ [] ∧ xs.length + ys.length ≤ sizeLine ∧
  (ys = [] → Q (.ref a) H) ∧ (ys ≠ [] → ∀ p, H p = none → Q (.ref p) (upd H p (.tup (xs ++ ys))))
end
end L2

namespace L2
open PySem PySem.Spec PyProof.Rows

/-! ### places -/
/-- the place that an index of any sign means -/
def ixN (n : Nat) (i : Int) : Option Nat := if 0 ≤ i then (if i < n then some i.toNat else none) else if -(n : Int) ≤ i then some (i + n).toNat else none
def atI {α : Type} (xs : List α) (i : Int) : Option α := (ixN xs.length i).bind fun j => xs[j]?
theorem ixN_seq {n : Nat} {i : Int} {j : Nat} (h : ixN n i = some j) : seqIndex? i n = some j ∧ j < n ∧ -(n : Int) ≤ i ∧ i < n := by
  unfold ixN at h
  by_cases h0 : 0 ≤ i
  · rw [if_pos h0] at h
    by_cases h1 : i < n
    · rw [if_pos h1] at h
      have e : i.toNat = j := Option.some.inj h
      exact ⟨by rw [seqIndex_of h0 h1, e], by omega, by omega, h1⟩
    · rw [if_neg h1] at h; cases h
  · rw [if_neg h0] at h
    by_cases h1 : -(n : Int) ≤ i
    · rw [if_pos h1] at h
      have e : (i + n).toNat = j := Option.some.inj h
      exact ⟨by rw [seqIndex_neg (by omega) h1, e], by omega, h1, by omega⟩
    · rw [if_neg h1] at h; cases h
theorem atI_get {α : Type} {xs : List α} {i : Int} {v : α} (h : atI xs i = some v) : ∃ j, seqIndex? i xs.length = some j ∧ xs[j]? = some v ∧ j < xs.length ∧ -(xs.length : Int) ≤ i ∧ i < xs.length := by
  unfold atI at h
  cases e : ixN xs.length i with
  | none => rw [e] at h; cases h
  | some j =>
    rw [e] at h
    obtain ⟨h1, h2, h3, h4⟩ := ixN_seq e
    exact ⟨j, h1, h, h2, h3, h4⟩
theorem atI_nat {α : Type} {xs : List α} {j : Nat} {v : α} (h : xs[j]? = some v) : atI xs (j : Int) = some v := by
  have hj : j < xs.length := (List.getElem?_eq_some_iff.mp h).1
  have e : ixN xs.length (j : Int) = some j := by
    unfold ixN
    rw [if_pos (by omega), if_pos (by omega)]; simp
  unfold atI; rw [e]; exact h
/-! ### what may be subscripted -/
/-- what stands as an index of a plain subscript -/
def PlainIx (b : Expr) : Prop := ∀ o i, subscripted b false o i = operate [o, i] (getItem o i)
/-- a subscript by values -/
def IxR (X : Cx) (r : R2) : Prop :=
  ∀ (value slice : Expr) (pins : List (Addr × Obj)) (s : Shared) (σ : St) (H : Hp) (x y : V) (v u : Value) (Q : VK), Inv X pins σ H s → RelV x v → RelV y u → r x y H Q →
    subscripted slice false v u = operate [v, u] (getItem v u) → wpAny (model X.prog X.w) X.A (subscriptTail value slice v u) (EP X pins σ Q) X.xe s
/-- a call of a builtin's method by values: the receiver, the arguments -/
def MtR (X : Cx) (id : String) (r : V → List V → Hp → VK → Prop) : Prop :=
  ∀ (pins : List (Addr × Obj)) (s : Shared) (σ : St) (H : Hp) (x : V) (xs : List V) (v : Value) (us : List Value) (Q : VK), Inv X pins σ H s → RelV x v → Vals xs us → r x xs H Q →
    wpAny (model X.prog X.w) X.A (call (.builtin id) (v :: us)) (EP X pins σ Q) X.xe s
section
variable {X : Cx} {a b : Expr} {ta tb : TE} {pos : Pos}
theorem IxR.or {r r' : R2} (h : IxR X r) (h' : IxR X r') : IxR X (fun x y H Q => r x y H Q ∨ r' x y H Q) := by
  intro value slice pins s σ H x y v u Q I rx ry q hs
  rcases q with q | q
  · exact h value slice pins s σ H x y v u Q I rx ry q hs
  · exact h' value slice pins s σ H x y v u Q I rx ry q hs
theorem MtR.or {id : String} {r r' : V → List V → Hp → VK → Prop} (h : MtR X id r) (h' : MtR X id r') : MtR X id (fun x xs H Q => r x xs H Q ∨ r' x xs H Q) := by
  intro pins s σ H x xs v us Q I rx rs q
  rcases q with q | q
  · exact h pins s σ H x xs v us Q I rx rs q
  · exact h' pins s σ H x xs v us Q I rx rs q
/-- a[b] -/
theorem pe_ix {r : R2} (hr : IxR X r) (ha : PE X a ta) (hb : PE X b tb) (hs : PlainIx b) : PE X (.Subscript a b pos) (tOp r ta tb) := by
  intro pins s σ H Q I h
  exact Subscript_ (binT ha hb I h fun v u s2 x y H2 I2 rx ry q => hr a b pins s2 σ H2 x y v u Q I2 rx ry q (hs _ _))

def rIxL (K : PySem.W.Frag) : R2 := fun x y H Q => ∃ p xs i v, x = .ref p ∧ y = .int i ∧ SqL K H p xs ∧ atI xs i = some v ∧ Q v H
def rIxT (K : PySem.W.Frag) : R2 := fun x y H Q => ∃ p xs i v, x = .ref p ∧ y = .int i ∧ SqT K H p xs ∧ atI xs i = some v ∧ Q v H
def rIxS : R2 := fun x y H Q => ∃ z i c, x = .str z ∧ y = .int i ∧ z.length ≤ sizeLine ∧ atI z.cps.toList i = some c ∧ Q (.str ⟨#[c]⟩) H
theorem ix_list : IxR X (rIxL X.K) := by
  intro value slice pins s σ H x y v u Q I rx ry h hs
  obtain ⟨p, xs, i, z, rfl, rfl, hq, he, q⟩ := h
  cases rx
  obtain ⟨t, rfl⟩ := ry
  obtain ⟨its, r, pl, hz⟩ := I.list hq
  obtain ⟨j, h1, h2, h3, h4, h5⟩ := atI_get he
  obtain ⟨w, ew, rw'⟩ := r.get h2
  have hl := r.length
  have hn := line63
  have fin : EP X pins σ Q w s := ⟨z, H, I, rw', q⟩
  by_cases h0 : 0 ≤ i
  · have hj : i.toNat = j := by
      rw [seqIndex_of h0 h5] at h1
      exact Option.some.inj h1
    exact item_listR pl.isList h0 (by omega) (by rw [hj]; simpa using ew) fin hs
  · have hj : (i + (its.toArray.size : Int)).toNat = j := by
      rw [seqIndex_neg (by omega) h4] at h1
      rw [List.size_toArray, ← hl]
      exact Option.some.inj h1
    exact subscriptTail_builtinR (x := w) pl.isList.typeIs slot_list_getitem.lookup
      (wpAny_getItem_list_neg (Q := fun r s' => r = w ∧ EP X pins σ Q r s') pl.isList (by omega) (by rw [List.size_toArray] <;> omega) (by omega) (by rw [hj]; simpa using ew) ⟨rfl, fin⟩) hs
theorem ix_tup : IxR X (rIxT X.K) := by
  intro value slice pins s σ H x y v u Q I rx ry h hs
  obtain ⟨p, xs, i, z, rfl, rfl, hq, he, q⟩ := h
  cases rx
  obtain ⟨t, rfl⟩ := ry
  obtain ⟨its, r, pl, hz⟩ := I.tuple hq
  obtain ⟨j, h1, h2, h3, h4, h5⟩ := atI_get he
  obtain ⟨w, ew, rw'⟩ := r.get h2
  have hl := r.length
  have hn := line63
  have fin : EP X pins σ Q w s := ⟨z, H, I, rw', q⟩
  exact subscriptTail_builtinR (x := w) pl.typeIs slot_tuple_getitem.lookup
    (getItem_tuple (j := j) (Q := fun r s' => r = w ∧ EP X pins σ Q r s') pl (by omega) (by omega) (by rw [List.size_toArray, ← hl]; exact h1) (by simpa using ew) ⟨rfl, fin⟩) hs
theorem ix_str : IxR X rIxS := by
  intro value slice pins s σ H x y v u Q I rx ry h hs
  obtain ⟨z, i, c, rfl, rfl, hz, he, q⟩ := h
  obtain ⟨t, rfl⟩ := rx
  obtain ⟨t', rfl⟩ := ry
  obtain ⟨j, h1, h2, h3, h4, h5⟩ := atI_get he
  have hl : z.cps.toList.length = z.length := by simp [Str.length]
  rw [hl] at h1 h4 h5
  have hn := line63
  exact tail_any (typeIs_str s z t) slot_str_getitem.lookup (getItem_str (c := c) (by
    have e1 : decide (i < -(2 ^ 63 : Int)) = false := decide_eq_false (by omega)
    have e2 : decide (i ≥ 2 ^ 63) = false := decide_eq_false (by omega)
    rw [e1, e2, Bool.or_false]) (by rw [h1]; simpa using h2) ⟨.str ⟨#[c]⟩, H, I.tok _, ⟨_, rfl⟩, q⟩) hs
/-- list, tuple or str -/
def rIx (K : PySem.W.Frag) : R2 := fun x y H Q => rIxL K x y H Q ∨ rIxT K x y H Q ∨ rIxS x y H Q
theorem ix_seq : IxR X (rIx X.K) := ix_list.or (ix_tup.or ix_str)

/-! ### xs[i] = v, any sign -/
theorem Inv.lst {pins : List (Addr × Obj)} {σ : St} {H : Hp} {s : Shared} {p : Addr} {xs : List V} (I : Inv X pins σ H s) (h : H p = some (.lst xs)) :
    ∃ (its : List Value) (n : Nat), Vals xs its ∧ s.heap.get? p = some { cls := .type "list", data := .seq its.toArray n } ∧ xs.length ≤ sizeLine := by
  obtain ⟨z, its, n, r, e⟩ := I.hok p _ h
  exact ⟨its, n, r, e, z⟩
def rSetL : V → V → V → Hp → (Hp → Prop) → Prop := fun o i v H Q => ∃ p xs k j, o = .ref p ∧ i = .int k ∧ H p = some (.lst xs) ∧ ixN xs.length k = some j ∧ Q (upd H p (.lst (xs.set j v)))
/-! ### slices -/
theorem slice_bounds (lo hi : Option Int) (n : Nat) : (sliceBounds lo hi none n).1 = ((HT.sIx n 0 lo : Nat) : Int) ∧ (sliceBounds lo hi none n).2.1 = ((HT.sIx n n hi : Nat) : Int) ∧ (sliceBounds lo hi none n).2.2 = 1 := by
  refine ⟨?_, ?_, rfl⟩
  · cases lo with
    | none => simp [sliceBounds, HT.sIx]
    | some i =>
      simp only [sliceBounds, HT.sIx, Option.getD_none, show (1 : Int) > 0 by decide, if_true]
      by_cases h : i < 0
      · simp only [h, if_true] <;> omega
      · simp only [h, if_false] <;> omega
  · cases hi with
    | none => simp [sliceBounds, HT.sIx]
    | some i =>
      simp only [sliceBounds, HT.sIx, Option.getD_none, show (1 : Int) > 0 by decide, if_true]
      by_cases h : i < 0
      · simp only [h, if_true] <;> omega
      · simp only [h, if_false] <;> omega
theorem slicePick_cut (its : List Value) (lo hi : Option Int) : slicePick its.toArray lo hi none = ((its.drop (HT.sIx its.length 0 lo)).take (HT.sIx its.length its.length hi - HT.sIx its.length 0 lo)).toArray := by
  obtain ⟨h1, h2, h3⟩ := slice_bounds lo hi its.toArray.size
  unfold slicePick
  rw [h1, h2, h3]
  simp only [sliceRange_one, pick_run, List.size_toArray] <;> rfl
/-- xs[lo:hi] of a list: a new list -/
def rSlL (K : PySem.W.Frag) : V → Option Int → Option Int → Hp → VK → Prop := fun x lo hi H Q => ∃ a xs, x = .ref a ∧ SqL K H a xs ∧ ∀ p, H p = none → Q (.ref p) (upd H p (.lst (cutV xs lo hi)))
theorem sl_list : SlR X (rSlL X.K) := by
  intro pins s σ H x v vl vu lo hi sl Q I rx hs pl pu h
  obtain ⟨a, xs, rfl, hx, q⟩ := h
  cases rx
  obtain ⟨its, r, ht, hz⟩ := I.list hx
  have hlen := r.length
  refine ⟨"list", _, slot_list_getitem.lookup, ht.isList.typeIs, ?_⟩
  refine wpAny_getItem_list_slice ht.isList hs pl pu .none (by simp) ?_ (by rw [List.size_toArray] <;> omega)
  rw [slicePick_cut, ← hlen]
  refine ⟨.ref s.heap.objs.size, _, I.laid (t' := s.toks) (o := .lst (cutV xs lo hi)) (fun b ob q => Heap.get?_push_of_some _ q) (Nat.le_refl _) ?_, rfl, q _ (I.hok.fresh (Nat.le_refl _))⟩
  exact ⟨Nat.le_trans (cutV_length xs lo hi) hz, _, 0, (r.drop (HT.sIx xs.length 0 lo)).take (HT.sIx xs.length xs.length hi - HT.sIx xs.length 0 lo), Heap.get?_push_size _ rfl⟩

/-! ### in, not in: flat items -/
def flatV : V → Bool
  | .non => true
  | .bl _ => true
  | .int _ => true
  | .str _ => true
  | _ => false
/-- == of flat values -/
def eqV : V → V → Bool
  | .non, .non => true
  | .bl a, .bl b => a == b
  | .bl a, .int b => (if a then 1 else 0) == b
  | .int a, .bl b => a == (if b then 1 else 0)
  | .int a, .int b => a == b
  | .str a, .str b => a == b
  | _, _ => false
theorem eqAt_V {A : Around} {s : Shared} {y x : V} {u v : Value} (ry : RelV y u) (rx : RelV x v) (fy : flatV y = true) (fx : flatV x = true) : SeqAt.EqAt A s u v (eqV y x) := by
  cases y with
  | non =>
    cases ry
    cases x with
    | non => cases rx; exact SeqAt.EqAt.same _
    | bl b => cases rx; exact SeqAt.EqAt.none_bool b
    | int b => obtain ⟨t, rfl⟩ := rx; exact SeqAt.EqAt.none_int b t
    | str b => obtain ⟨t, rfl⟩ := rx; exact SeqAt.EqAt.none_str b t
    | _ => exact absurd (show false = true from fx) Bool.false_ne_true
  | bl a =>
    cases ry
    cases x with
    | non => cases rx; exact SeqAt.EqAt.bool_none a
    | bl b => cases rx; exact SeqAt.EqAt.bool_bool a b
    | int b => obtain ⟨t, rfl⟩ := rx; exact SeqAt.EqAt.bool_int a b t
    | str b => obtain ⟨t, rfl⟩ := rx; exact SeqAt.EqAt.bool_str a b t
    | _ => exact absurd (show false = true from fx) Bool.false_ne_true
  | int a =>
    obtain ⟨t', rfl⟩ := ry
    cases x with
    | non => cases rx; exact SeqAt.EqAt.int_none a t'
    | bl b => cases rx; exact SeqAt.EqAt.int_bool a t' b
    | int b => obtain ⟨t, rfl⟩ := rx; exact SeqAt.EqAt.int_int a t' b t
    | str b => obtain ⟨t, rfl⟩ := rx; exact SeqAt.EqAt.int_str a t' b t
    | _ => exact absurd (show false = true from fx) Bool.false_ne_true
  | str a =>
    obtain ⟨t', rfl⟩ := ry
    cases x with
    | non => cases rx; exact SeqAt.EqAt.str_none a t'
    | bl b => cases rx; exact SeqAt.EqAt.str_bool a t' b
    | int b => obtain ⟨t, rfl⟩ := rx; exact SeqAt.EqAt.str_int a t' b t
    | str b => obtain ⟨t, rfl⟩ := rx; exact SeqAt.EqAt.str_str a t' b t
    | _ => exact absurd (show false = true from fx) Bool.false_ne_true
  | _ => exact absurd (show false = true from fy) Bool.false_ne_true
/-- the items' answers, read off the values (a value's own answer does not lean on its token) -/
def eqU (x : V) (u : Value) : Bool := match u with
  | .none => eqV .non x
  | .bool b => eqV (.bl b) x
  | .int i _ => eqV (.int i) x
  | .str z _ => eqV (.str z) x
  | _ => false
theorem eqU_of {x y : V} {u : Value} (r : RelV y u) (f : flatV y = true) : eqU x u = eqV y x := by
  cases y with
  | non => cases r; rfl
  | bl b => cases r; rfl
  | int i => obtain ⟨t, rfl⟩ := r; rfl
  | str z => obtain ⟨t, rfl⟩ := r; rfl
  | _ => exact absurd (show false = true from f) Bool.false_ne_true
theorem any_eqU {x : V} : ∀ {xs : List V} {us : List Value}, Vals xs us → xs.all flatV = true → us.any (eqU x) = xs.any fun y => eqV y x
  | _, _, .nil, _ => rfl
  | y :: xs, u :: us, .cons r t, f => by
    rw [List.all_cons, Bool.and_eq_true] at f
    rw [List.any_cons, List.any_cons, eqU_of r f.1, any_eqU t f.2]
theorem mem_eqAt {A : Around} {s : Shared} {x : V} {v : Value} (rx : RelV x v) (fx : flatV x = true) : ∀ {xs : List V} {us : List Value}, Vals xs us → xs.all flatV = true → ∀ u ∈ us, SeqAt.EqAt A s u v (eqU x u)
  | _, _, .nil, _ => fun u hu => by cases hu
  | y :: xs, u :: us, .cons r t, f => fun u' hu => by
    rw [List.all_cons, Bool.and_eq_true] at f
    rcases List.mem_cons.mp hu with rfl | hu
    · rw [eqU_of r f.1]; exact eqAt_V r rx f.1 fx
    · exact mem_eqAt rx fx t f.2 u' hu
def inV (x : V) (xs : List V) : Bool := xs.any fun y => eqV y x
/-- x in a list or tuple of flat items -/
def rIn (K : PySem.W.Frag) (neg : Bool) : R2 := fun x y H Q => ∃ p xs, y = .ref p ∧ (SqL K H p xs ∨ SqT K H p xs) ∧ flatV x = true ∧ xs.all flatV = true ∧ Q (.bl (if neg then !inV x xs else inV x xs)) H
theorem op_notIn_seq : OpR X (compareOp .NotIn) (rIn X.K true) := by
  intro pins s σ H x y v u Q I rx ry h
  obtain ⟨p, xs, rfl, hq, fx, fs, q⟩ := h
  cases ry
  rcases hq with hq | hq
  · obtain ⟨its, r, pl, hz⟩ := I.list hq
    refine SeqAt.notIn_listAt (eqU x) pl.isList (fun w hw => mem_eqAt rx fx r fs w (by simpa using hw)) ⟨.bl _, H, I, rfl, ?_⟩
    rw [show its.toArray.any (eqU x) = its.any (eqU x) by simp, any_eqU r fs]
    exact q
  · obtain ⟨its, r, pl, hz⟩ := I.tuple hq
    refine SeqAt.notIn_tupleAt (eqU x) pl (fun w hw => mem_eqAt rx fx r fs w (by simpa using hw)) ⟨.bl _, H, I, rfl, ?_⟩
    rw [show its.toArray.any (eqU x) = its.any (eqU x) by simp, any_eqU r fs]
    exact q
/-! ### len, list(x), tuple(x) of any list or tuple that is read -/
theorem call_len_seq : CallR X (.builtin "len") (fun xs H Q => ∃ p ys, xs = [.ref p] ∧ (SqL X.K H p ys ∨ SqT X.K H p ys) ∧ Q (.int ys.length) H) := by
  intro pins s σ H xs us Q I r h
  obtain ⟨p, ys, rfl, hq, q⟩ := h
  obtain ⟨u, rfl, rx⟩ := vals1 r
  cases rx
  have hn := line63
  rcases hq with hq | hq
  · obtain ⟨its, r', pl, hz⟩ := I.list hq
    have hlen := r'.length
    exact Calls.call_len_list pl.isList (by simp only [List.size_toArray] <;> omega) ⟨.int ys.length, H, I.tok _, ⟨s.toks + 1, by rw [List.size_toArray, hlen]⟩, q⟩
  · obtain ⟨its, r', pl, hz⟩ := I.tuple hq
    have hlen := r'.length
    exact len_tuple pl (by simp only [List.size_toArray] <;> omega) ⟨.int ys.length, H, I.tok _, ⟨s.toks + 1, by rw [List.size_toArray, hlen]⟩, q⟩
theorem CallR.or {f : Value} {r r' : List V → Hp → VK → Prop} (h : CallR X f r) (h' : CallR X f r') : CallR X f (fun xs H Q => r xs H Q ∨ r' xs H Q) := by
  intro pins s σ H xs us Q I rs q
  rcases q with q | q
  · exact h pins s σ H xs us Q I rs q
  · exact h' pins s σ H xs us Q I rs q
theorem call_list_of : CallR X (.type "list") (fun xs H Q => ∃ p ys, xs = [.ref p] ∧ (SqL X.K H p ys ∨ SqT X.K H p ys) ∧ ∀ l, H l = none → Q (.ref l) (upd H l (.lst ys))) := by
  intro pins s σ H xs us Q I r h
  obtain ⟨p, ys, rfl, hq, q⟩ := h
  obtain ⟨u, rfl, rx⟩ := vals1 r
  cases rx
  have fin : ∀ (its : List Value), Vals ys its → ys.length ≤ sizeLine → ∀ (h' : Heap) (c' : Nat), (∀ b o', s.heap.get? b = some o' → h'.get? b = some o') →
      h'.get? s.heap.objs.size = some { cls := .type "list", dict := none, data := .seq its.toArray c', slots := #[] } → EP X pins σ Q (.ref s.heap.objs.size) { s with heap := h' } := fun its r' hz h' c' kp e =>
    ⟨.ref s.heap.objs.size, _, I.laid (t' := s.toks) kp (Nat.le_refl _) (show ObjOk X.prog X.w _ h' _ (.lst ys) from ⟨hz, its, c', r', e⟩), rfl, q _ (I.hok.fresh (Nat.le_refl _))⟩
  rcases hq with hq | hq
  · obtain ⟨its, r', pl, hz⟩ := I.list hq
    have hlen := r'.length
    obtain ⟨o, ho, hc, n, hd⟩ := pl.isList
    exact call_list_seq p (.inl rfl) ho hc hd (fun h' c' kp e => fin its r' hz h' c' kp e) (by simp only [List.size_toArray] <;> omega)
  · obtain ⟨its, r', pl, hz⟩ := I.tuple hq
    have hlen := r'.length
    obtain ⟨o, ho, hc, n, hd⟩ := pl
    exact call_list_seq p (.inr rfl) ho hc hd (fun h' c' kp e => fin its r' hz h' c' kp e) (by simp only [List.size_toArray] <;> omega)
theorem call_tuple_of : CallR X (.type "tuple") (fun xs H Q => ∃ p ys, xs = [.ref p] ∧ ((SqL X.K H p ys ∧ ∀ l, H l = none → Q (.ref l) (upd H l (.tup ys))) ∨ (SqT X.K H p ys ∧ Q (.ref p) H))) := by
  intro pins s σ H xs us Q I r h
  obtain ⟨p, ys, rfl, h⟩ := h
  obtain ⟨u, rfl, rx⟩ := vals1 r
  cases rx
  rcases h with ⟨hq, q⟩ | ⟨hq, q⟩
  · obtain ⟨its, r', pl, hz⟩ := I.list hq
    have hlen := r'.length
    refine call_tuple_list pl.isList (fun h' kp => ?_) (by simp only [List.size_toArray] <;> omega)
    have I1 : Inv X pins σ H { s with heap := h' } := I.kept (t' := s.toks) kp
    have I2 : Inv X pins σ (upd H h'.objs.size (.tup ys)) { s with heap := h'.push { cls := .type "tuple", data := .seq its.toArray } } :=
      I1.laid (t' := s.toks) (fun b o e => Heap.get?_push_of_some _ e) (Nat.le_refl _) (show ObjOk X.prog X.w _ _ _ (.tup ys) from ⟨hz, its, r', IsTup.new _ _⟩)
    exact ⟨.ref h'.objs.size, _, I2, rfl, q _ (I1.hok.fresh (Nat.le_refl _))⟩
  · obtain ⟨its, r', pl, hz⟩ := I.tuple hq
    exact call_tuple_same pl ⟨.ref p, H, I, rfl, q⟩

/-! ### the call of a builtin's method: o.m(..) -/
/-- the value is of that builtin type -/
def tyV (K : PySem.W.Frag) (T : String) (x : V) (H : Hp) : Prop := match x with
  | .str _ => T = "str"
  | .int _ => T = "int"
  | .ref p => (T = "list" ∧ ∃ xs, SqL K H p xs) ∨ (T = "tuple" ∧ ∃ o, K.lookup p = some o ∧ o.cls = .type "tuple" ∧ o.dict = none) ∨
      (T = "dict" ∧ ((∃ kvs, H p = some (.dK kvs)) ∨ ∃ kvs, H p = some (.dT kvs))) ∨ (T = "set" ∧ ∃ S n, H p = some (.set S n))
  | _ => False
theorem tyV_is {pins : List (Addr × Obj)} {σ : St} {H : Hp} {s : Shared} {T : String} {x : V} {v : Value} (I : Inv X pins σ H s) (r : RelV x v) (ty : tyV X.K T x H) :
    s.TypeIs v T ∧ ∀ a, v = .ref a → ∃ ob, s.heap.get? a = some ob ∧ ob.dict = none := by
  cases x with
  | str z =>
    obtain ⟨t, rfl⟩ := r
    cases (show T = "str" from ty)
    exact ⟨typeIs_str s z t, fun _ e => nomatch e⟩
  | int i =>
    obtain ⟨t, rfl⟩ := r
    cases (show T = "int" from ty)
    exact ⟨typeIs_int s i t, fun _ e => nomatch e⟩
  | ref p =>
    cases r
    rcases ty with ⟨rfl, xs, hq⟩ | ⟨rfl, o, hk, hc, hd⟩ | ⟨rfl, hk⟩ | ⟨rfl, S, n, hk⟩
    · obtain ⟨its, _, pl, _⟩ := I.list hq
      refine ⟨pl.isList.typeIs, fun a e => ?_⟩
      cases e
      obtain ⟨o, n, e, c, hd, _⟩ := pl
      exact ⟨o, e, hd⟩
    · refine ⟨⟨o, I.kIn p o hk, hc⟩, fun a e => ?_⟩
      cases e
      exact ⟨o, I.kIn _ o hk, hd⟩
    · have z : ∃ o, s.heap.get? p = some o ∧ o.ExactDict := by
        rcases hk with ⟨kvs, hk⟩ | ⟨kvs, hk⟩
        · obtain ⟨_, _, _, _, o, _, _, e, ex, _⟩ := I.hok p _ hk
          exact ⟨o, e, ex⟩
        · obtain ⟨_, _, _, _, o, _, _, e, ex, _⟩ := I.hok p _ hk
          exact ⟨o, e, ex⟩
      obtain ⟨o, e, ex⟩ := z
      refine ⟨⟨o, e, ex.1⟩, fun a e2 => ?_⟩
      cases e2
      exact ⟨o, e, ex.2.1⟩
    · obtain ⟨o, _, _, _, e, ex, _⟩ := I.hok p _ hk
      refine ⟨⟨o, e, ex.1⟩, fun a e2 => ?_⟩
      cases e2
      exact ⟨o, e, ex.2.1⟩
  | _ => exact False.elim ty
def tBM0 (K : PySem.W.Frag) (T : String) (r : V → List V → Hp → VK → Prop) (to : TE) : TE := fun σ H Q => to σ H fun x H1 => tyV K T x H1 ∧ r x [] H1 Q
def tBM (K : PySem.W.Frag) (T : String) (r : V → List V → Hp → VK → Prop) (to : TE) (t : TA) : TE := fun σ H Q => to σ H fun x H1 => tyV K T x H1 ∧ t σ H1 fun xs H2 => r x xs H2 Q
variable {o e : Expr} {es : List Expr} {to : TE} {t : TA} {name : Str} {apos cpos : Pos} {T id : String} {r : V → List V → Hp → VK → Prop}
theorem pe_bm (pa : PlainAttrs T) (slot : Slot T name id) (hty : typeOf (.builtin id) = pure (.type "method_descriptor")) (hm : MtR X id r) (ho : PE X o to) (ha : PA X (e :: es) t)
    (hbase : attributeBase o name X.env (eval o X.env) = eval o X.env := by rfl)
    (hfew : ((backTo cpos (starEach (e :: es) X.env)).all (fun x => !x.1) && (backToKw cpos (keywordEach [] X.env)).all (fun x => x.1.isSome)
      && decide ((e :: es).length + ([] : List Keyword).length + (if ([] : List Keyword).isEmpty then 0 else 1) < 30)) = true := by rfl)
    (hline : (apos.endLine == cpos.line) = true := by rfl) (hs : starEach (e :: es) X.env = (false, eval e X.env) :: starEach es X.env := by rfl) (hplain : (backTo cpos (starEach es X.env)).any (·.1) = false := by rfl) :
    PE X (.Call (.Attribute o name apos) (e :: es) [] cpos) (tBM X.K T r to t) := by
  intro pins s σ H Q I h
  refine wpAny_Call_method_late hbase hfew hline rfl (thn (ho pins s σ H _ I h) fun v s1 ⟨x, H1, I1, r1, ty, q1⟩ => ?_)
  obtain ⟨h1, h2⟩ := tyV_is I1 r1 ty
  refine ⟨T, id, pa, slot, hty, h1, h2, ?_⟩
  have hA := ha cpos pins s1 σ H1 _ I1 q1
  rw [hs] at hA ⊢
  refine Calls.callWith_builtin (by show (false || (backTo cpos (starEach es X.env)).any (·.1)) = false; rw [hplain] <;> rfl) (Calls.evalArgs_plain ?_)
  exact thn hA fun us s2 ⟨vs, H2, I2, r2, q2⟩ => hm pins s2 σ H2 x vs v us Q I2 r1 r2 q2
/- xs.append(e), list.index on a module's tuple .. are MtR facts of 06m -/
end
end L2

namespace L2
open PySem PySem.Spec PyProof.Rows

def MtM (X : Cx) (id : String) (r : V → List V → Hp → VK → Prop) : Prop :=
  ∀ (pins : List (Addr × Obj)) (s : Shared) (σ : St) (H : Hp) (x : V) (xs : List V) (v : Value) (us : List Value) (Q : VK), Inv X pins σ H s → RelV x v → Vals xs us → r x xs H Q →
    wpAny (model X.prog X.w) X.A (call (.builtin id) (v :: us)) (EP X pins σ Q) X.xe s

/-! ### lists of values -/
theorem Vals.one : ∀ {x : V} {us : List Value}, Vals [x] us → ∃ u, us = [u] ∧ RelV x u
  | _, _, .cons r .nil => ⟨_, rfl, r⟩
theorem Vals.two : ∀ {x y : V} {us : List Value}, Vals [x, y] us → ∃ u v, us = [u, v] ∧ RelV x u ∧ RelV y v
  | _, _, _, .cons r (.cons q .nil) => ⟨_, _, rfl, r, q⟩
theorem Vals.zero : ∀ {us : List Value}, Vals [] us → us = []
  | _, .nil => rfl
theorem Vals.dropLast {xs : List V} {us : List Value} (h : Vals xs us) : Vals xs.dropLast us.dropLast := by
  induction h with
  | nil => exact .nil
  | cons r t ih =>
    cases t with
    | nil => exact .nil
    | cons q t' => exact .cons r ih
theorem Vals.eraseIdx : ∀ {xs : List V} {us : List Value} (i : Nat), Vals xs us → Vals (xs.eraseIdx i) (us.eraseIdx i)
  | _, _, _, .nil => .nil
  | _, _, 0, .cons _ t => t
  | _, _, i + 1, .cons r t => .cons r (Vals.eraseIdx i t)
theorem Vals.reverse {xs : List V} {us : List Value} (h : Vals xs us) : Vals xs.reverse us.reverse := by
  induction h with
  | nil => exact .nil
  | cons r t ih => rw [List.reverse_cons, List.reverse_cons]; exact Vals.append ih (.cons r .nil)
theorem len_erase {α : Type} : ∀ (l : List α) (i : Nat), (l.eraseIdx i).length ≤ l.length
  | [], _ => Nat.le_refl _
  | _ :: _, 0 => Nat.le_succ _
  | _ :: r, i + 1 => Nat.succ_le_succ (len_erase r i)
section
variable {X : Cx} {pins : List (Addr × Obj)} {σ : St} {H : Hp} {s : Shared} {l b : Addr} {xs ys zs : List V}

/-! ### the two steps: a tracked list is rewritten, a new list is laid -/
theorem Inv.lset {its its' : List Value} {n : Nat} {f : Array Value → Array Value} {t' : Nat} (I : Inv X pins σ H s) (hH : H l = some (.lst xs))
    (e : s.heap.get? l = some { cls := .type "list", data := .seq its.toArray n }) (hf : f its.toArray = its'.toArray) (hv : Vals ys its') (hz : ys.length ≤ sizeLine) :
    Inv X pins σ (upd H l (.lst ys)) { s with heap := s.heap.update l (Obj.mapSeq f), toks := t' } := by
  have q := PySem.IsL.update e f
  rw [hf] at q
  refine I.write (x := l) (e := l) (by rw [hH]; exact trivial) (.inl rfl) (fun b' u hb hu => (Heap.get?_update_other s.heap (Obj.mapSeq f) (Ne.symm hb)).trans hu) ⟨_, q⟩ ?_
  exact ⟨hz, its', _, hv, q⟩
theorem Inv.lnew {its : List Value} {t' : Nat} (I : Inv X pins σ H s) (hv : Vals ys its) (hz : ys.length ≤ sizeLine) :
    Inv X pins σ (upd H s.heap.objs.size (.lst ys)) { s with heap := s.heap.push { cls := .type "list", data := .seq its.toArray }, toks := t' } :=
  I.laid (fun _ _ q => Heap.get?_push_of_some _ q) (Nat.le_refl _) ⟨hz, its, 0, hv, Heap.get?_push_size _ rfl⟩
theorem Inv.fresh (I : Inv X pins σ H s) : H s.heap.objs.size = none := I.hok.fresh (Nat.le_refl _)
theorem Inv.lstM (I : Inv X pins σ H s) (hH : H l = some (.lst xs)) : xs.length ≤ sizeLine ∧ ∃ (its : List Value) (n : Nat), Vals xs its ∧ xs.length = its.length ∧ s.heap.get? l = some { cls := .type "list", data := .seq its.toArray n } := by
  obtain ⟨z, its, n, r, e⟩ := I.hok l _ hH
  exact ⟨z, its, n, r, r.length, e⟩

end

section
variable {X : Cx}

/-! ### methods -/
def rAppend : V → List V → Hp → VK → Prop := fun x vs H Q => ∃ l xs y, x = .ref l ∧ vs = [y] ∧ H l = some (.lst xs) ∧ xs.length < sizeLine ∧ Q .non (upd H l (.lst (xs ++ [y])))
theorem mt_append : MtM X "list.append" rAppend := by
  intro pins s σ H x vs v us Q I rx rv h
  obtain ⟨l, xs, y, rfl, rfl, hH, hz, q⟩ := h
  cases rx
  obtain ⟨u, rfl, ru⟩ := rv.one
  obtain ⟨z, its, n, r, hl, e⟩ := I.lstM hH
  refine call_meets F.slot_list_append ⟨_, e, rfl⟩ F.entry_list_append (F.args_list_append_2 _ _) (PySem.list_append l its.toArray n u (by rw [List.size_toArray]; omega)) ⟨e, ?_⟩
  refine ⟨.non, _, I.lset (its' := its ++ [u]) hH e (by simp) (r.append (.cons ru .nil)) ?_, rfl, q⟩
  rw [List.length_append, List.length_singleton]
  omega

def rExtend : V → List V → Hp → VK → Prop := fun x vs H Q => ∃ l b xs zs, x = .ref l ∧ vs = [.ref b] ∧ H l = some (.lst xs) ∧ H b = some (.lst zs) ∧ xs.length + zs.length ≤ sizeLine ∧ Q .non (upd H l (.lst (xs ++ zs)))
def rPop : V → List V → Hp → VK → Prop := fun x vs H Q => ∃ l xs y, x = .ref l ∧ vs = [] ∧ H l = some (.lst xs) ∧ xs[xs.length - 1]? = some y ∧ Q y (upd H l (.lst xs.dropLast))
def rPopAt : V → List V → Hp → VK → Prop := fun x vs H Q => ∃ l xs i k y, x = .ref l ∧ vs = [.int i] ∧ H l = some (.lst xs) ∧ -(2 ^ 63) ≤ i ∧ i < 2 ^ 63 ∧ seqIndex? i xs.length = some k ∧ xs[k]? = some y ∧ Q y (upd H l (.lst (xs.eraseIdx k)))
theorem mt_popAt : MtM X "list.pop" rPopAt := by
  intro pins s σ H x vs v us Q I rx rv h
  obtain ⟨l, xs, i, k, y, rfl, rfl, hH, h1, h2, hk, hy, q⟩ := h
  cases rx
  obtain ⟨u, rfl, ru⟩ := rv.one
  obtain ⟨t, rfl⟩ := ru
  obtain ⟨z, its, n, r, hl, e⟩ := I.lstM hH
  obtain ⟨w, hw, rw'⟩ := r.get hy
  refine call_meets F.slot_list_pop ⟨_, e, rfl⟩ F.entry_list_pop (F.args_list_pop_2 _ _)
    (MeetsSeq.list_pop_at l its.toArray n i t k w (fitsIndex_both h1 h2) (by rw [List.size_toArray, ← hl]; exact hk) (by rw [← Array.getElem?_toList]; exact hw) (by rw [List.size_toArray]; omega)) ⟨e, ?_⟩
  refine ⟨y, _, I.lset (its' := its.eraseIdx k) hH e ?_ (r.eraseIdx k) ?_, rw', q⟩
  · show its.toArray.eraseIdxIfInBounds k = (its.eraseIdx k).toArray
    rw [List.eraseIdxIfInBounds_toArray]
  · have := len_erase xs k
    omega

def rReverse : V → List V → Hp → VK → Prop := fun x vs H Q => ∃ l xs, x = .ref l ∧ vs = [] ∧ H l = some (.lst xs) ∧ Q .non (upd H l (.lst xs.reverse))
def rClear : V → List V → Hp → VK → Prop := fun x vs H Q => ∃ l xs, x = .ref l ∧ vs = [] ∧ H l = some (.lst xs) ∧ Q .non (upd H l (.lst []))
/-! ### list + list, list += list, list * int -/
def rCat : R2 := fun x y H Q => ∃ l b xs zs, x = .ref l ∧ y = .ref b ∧ H l = some (.lst xs) ∧ H b = some (.lst zs) ∧ xs.length + zs.length ≤ sizeLine ∧ ∀ p, H p = none → Q (.ref p) (upd H p (.lst (xs ++ zs)))
/-- a list times an int (a negative one is nothing) -/
def rRep : R2 := fun x y H Q => ∃ l k xs, x = .ref l ∧ y = .int k ∧ H l = some (.lst xs) ∧ -(2 ^ 63) ≤ k ∧ k < 2 ^ 63 ∧ xs.length * k.toNat ≤ sizeLine ∧
  ∀ p, H p = none → Q (.ref p) (upd H p (.lst (List.replicate k.toNat xs).flatten))
/-! ### del xs[i] -/
end

/-! ### xs[a:b] = ys -/
section
variable {prog : Program} {w : World} {A : Around} {E : Value → Shared → Prop} {s : Shared}
set_option maxRecDepth 100000 in
end

section
variable {X : Cx}
end
end L2

namespace Att
open PySem PySem.W PySem.Calls PyProof.Rows

/-! ### the script -/
theorem ints_of_wellAll {P : Params} {h : Heap} : ∀ (ns : List Int) (vs : List Value), WellAll P h vs (ns.map WData.int) → IntsAre vs ns := by
  intro ns
  induction ns with
  | nil =>
    intro vs w
    rw [List.map_nil] at w
    cases w
    exact .nil
  | cons n ns ih =>
    intro vs w
    rw [List.map_cons] at w
    cases w with
    | cons a b =>
      cases a
      exact .cons _ _ (ih _ b)

theorem script_of {l : OpenLaw} {n : Nat} (hn : l.most = some n) {P : Params} {h : Heap} {args : List WData} {vals : List Value}
    (hpre : l.row.toRowW.claim.pre args = true) (hwl : WellAll P h vals args) :
    ∃ a vs ns, vals = [Value.ref a] ∧ args = [WData.list (ns.map WData.int)] ∧ h.get? a = some { cls := .type "list", data := .seq vs.toArray } ∧ IntsAre vs ns ∧ ns.length ≤ n := by
  have hsh : WShape.hasAll [] args [.list .int] = true := (pre_splitW hpre).1
  have hc : l.pre.holds [] { args := args } = true := (pre_splitW hpre).2
  obtain ⟨d, r, rfl, h1, h2⟩ := hasAllW_cons hsh
  obtain rfl := hasAllW_nil h2
  obtain ⟨xs, rfl, h3⟩ := hasW_list h1
  obtain ⟨ns, rfl⟩ := items_int h3
  have hlen : ns.length ≤ n := by
    unfold OpenLaw.pre at hc
    have h4 : (WTm.not (.lt (.lit (.int (n : Int))) (.len (.arg 0)))).holds [] { args := [.list (ns.map .int)] } = true := by
      have h4 := (holds_andW hc).1
      rw [hn] at h4
      exact h4
    have h5 := condW_of h4 (w_not (w_lt w_lit (w_len_list (w_arg rfl))))
    rw [List.length_map] at h5
    refine Nat.le_of_not_lt fun q => ?_
    have q' : (n : Int) < ((ns.length : Nat) : Int) := by omega
    first
      | (rw [decide_eq_true q'] at h5; exact absurd h5 (by decide))
      | (simp at h5; omega)
  cases hwl with
  | cons w1 w2 =>
    cases w2
    cases w1 with
    | list ho hall => exact ⟨_, _, ns, rfl, rfl, ho, ints_of_wellAll ns _ hall, hlen⟩

theorem post_true (l : OpenLaw) (args : List WData) : l.row.toRowW.claim.post args (.bool true) args = true :=
  postW_of (r := l.row.toRowW) (X := (true == true))
    (show WShape.has [] (.bool true) .bool = true by first | rfl | decide | simp [WShape.has, WShape.arms, WShape.armsAll])
    (show (WTm.eq .res (.lit (.bool true))).value [] { args := args, res := some (.bool true), after := args } = some (.bool (true == true)) from w_eq_bool (w_res rfl) w_lit) rfl

/-! ### the attachment: holds_open's last premise (the goal 'hc' behind k_head) from a wpAny of the law's body -/
/-- the same from a codeAny of the CALL (for a layer whose function contracts speak of calls) -/
theorem attach_call {l : OpenLaw} {n : Nat} {q : Program} {loose : List Str} {XP : (Str → Option Value) → Heap → Prop} {YP : World → Heap → Prop} {d : DefRec}
    (hn : l.most = some n) (hdf : d.params.defaults = [])
    (call : ∀ (w : World) (s₀ s₁ : Shared) (mg mb : Str → Option Value) (fa : Addr) (o : Obj) (pm cd doc : Value) (a : Addr) (vs : List Value) (ns : List Int),
      Ground q loose [] XP w s₀ mg mb s₁.heap → YP w s₁.heap →
      s₁.heap.get? fa = some o → o.data = .func (docDef d.name d.params d.body d.scope pm cd doc) → s₁.heap.CodeRec cd d.name → mg d.name = some (.ref fa) →
      s₁.heap.get? a = some { cls := .type "list", data := .seq vs.toArray } → IntsAre vs ns → ns.length ≤ n → s₁.gens = #[] →
      codeAny (model l.prog w) callerA (.call (.ref fa) ⟨[.ref a], []⟩) (fun r s' => r = .ok (.ret (.bool true)) ∧ OldK s₁.heap s'.heap ∧ s'.os = s₁.os ∧ AllBare s'.gens) s₁) :
    WalkO q loose XP YP l.row.toRowW d [] (fun f vs => PySem.call f vs) := by
  intro w s₀ s₁ mg mb G Y fa o pm cd doc dV kV ho hd hcd hD hmg hg args vals as hpre hlay hrd hwl hlo
  obtain rfl : dV = .none := Dflts.none hD hdf
  obtain rfl : kV = .none := Dflts.noKw hD
  obtain ⟨a, vs, ns, rfl, rfl, hobj, hints, hlen⟩ := script_of hn hpre hwl
  refine enter_call (codeAny_mono (call w s₀ s₁ mg mb fa o pm cd doc a vs ns G Y ho (fd_plain hd) hcd hmg hobj hints hlen hg) fun r s' hq => ?_)
  obtain ⟨rfl, h2, h3, h4⟩ := hq
  exact ⟨.inl ⟨.bool true, .bool true, [], rfl, fun _ => rfl, .bool true, post_true l _, fun _ => ⟨List.Pairwise.nil, fun _ hm => (nomatch hm)⟩⟩, h2, h3, h4⟩

/-! ### rules over ANY heap (no ledger) from facts about the written part K: the library's own take a ledger (News) for what they write -/
section
variable {prog : Program} {w : World} {A : Around} {E : Value → Shared → Prop} {s : Shared} {K : Frag}

/-! the whole heap as the ledger: makes every rule that writes through a ledger a rule over any heap -/
def noObjs (h : Heap) : Heap := { h with objs := #[] }
def ledger (h : Heap) (L d : Addr) : List (Addr × Obj) := (List.range h.objs.size).filterMap fun a => if a = L ∨ a = d then none else (h.get? a).map fun o => (a, o)
end
end Att

namespace L2
open PySem PySem.Spec PyProof.Rows

theorem vals_ints : ∀ {vs : List Value} {ns : List Int}, IntsAre vs ns → Vals (ns.map V.int) vs
  | _, _, .nil => .nil
  | _, _, .cons n t h => .cons ⟨t, rfl⟩ (vals_ints h)

/-- nothing is tracked but the script, known to the object (or it is an object of the module) -/
def Only (H : Hp) : Prop := ∀ b, H b = none ∨ ∃ o xs, H b = some (.frz o (.lst xs))

/-- THE HEAD: the law's promise, at the heap behind the top. F, the promise of the law's def, may use that base is part of the heap (so K.In base, base.Ns mainGlobals mg stand in Mod) -/
theorem law_call {P : Program} {w : World} {K : PySem.W.Frag} {mg mb : Str → Option Value} {CX : CXT} {k : Nat} {fa a : Addr} {fd : FuncData} {x : Str} {sp : Sp} {s₁ : Shared} {vs : List Value} {ns : List Int}
    (KX : K.In s₁.heap) (hns : s₁.heap.Ns mainGlobals mg) (hb : s₁.heap.Ns builtinsNs mb) (hbb : ∀ x : Str, x ≠ "__name__" → mb x = bootBuiltins x) (hlim : s₁.heap.NoLimit) (hg : s₁.gens = #[])
    (ha : s₁.heap.get? a = some { cls := .type "list", data := .seq vs.toArray }) (hi : IntsAre vs ns) (hl : ns.length ≤ sizeLine) (hr : Room k callerA)
    (F : ∀ base : Heap, K.In base → base.Ns mainGlobals mg → FnOk P w K mg base CX k fa fd [x] sp) (hbind : ∀ (s : Shared) (u : Value), BindsTo s fd ⟨[u], []⟩ [(x, u)])
    (hsp : ∀ H : Hp, Only H → SqL K H a (ns.map V.int) → sp [.ref a] H (fun v _ => v = .bl true) fun _ _ _ => False)
    (hCX : ∀ H e s', CX [] H s₁ (fun _ _ _ => False) e s' → False) :
    codeAny (model P w) callerA (.call (.ref fa) ⟨[.ref a], []⟩) (fun r s' => r = .ok (.ret (.bool true)) ∧ OldK s₁.heap s'.heap ∧ s'.os = s₁.os ∧ AllBare s'.gens) s₁ := by
  have rv := vals_ints hi
  have lenV := hi.length
  -- from an abstract heap in which nothing but the script may be tracked
  have core : ∀ H : Hp, Only H → SqL K H a (ns.map V.int) → HOk P w H s₁.heap → (∀ b, H b ≠ none → b = a) → (H a ≠ none → K.lookup a = none) →
      codeAny (model P w) callerA (.call (.ref fa) ⟨[.ref a], []⟩) (fun r s' => r = .ok (.ret (.bool true)) ∧ OldK s₁.heap s'.heap ∧ s'.os = s₁.os ∧ AllBare s'.gens) s₁ := by
    intro H hO hS hok hA hK
    have base_of : ∀ {b : Addr} {o : Obj}, s₁.heap.get? b = some o → H b = none → (hidT s₁.heap H).get? b = some o := fun e n => hidT_get e n
    have noA : ∀ {b : Addr} {o : Obj} {es : Array DictEntry} {ep : Nat}, s₁.heap.get? b = some o → o.data = .dict es ep → H b = none := fun {b o es ep} e d => by
      cases q : H b with
      | none => rfl
      | some u =>
        have e' : b = a := hA b (by rw [q]; simp)
        subst e'
        rw [ha] at e; cases e
        have d' : Data.seq vs.toArray _ = Data.dict es ep := d
        cases d'
    have nsK : ∀ {b : Addr} {m : Str → Option Value}, s₁.heap.Ns b m → (hidT s₁.heap H).Ns b m := fun {b m} ⟨o, es, ep, e, d, r⟩ => ⟨o, es, ep, base_of e (noA e d), d, r⟩
    have hKb : K.In (hidT s₁.heap H) := fun b o e => base_of (KX b o e) (by
      cases q : H b with
      | none => rfl
      | some u =>
        have e' : b = a := hA b (by rw [q]; simp)
        subst e'
        rw [hK (by rw [q]; simp)] at e; cases e)
    have hM : Mod K mg (hidT s₁.heap H) := ⟨hKb, nsK hns, ⟨mb, nsK hb, hbb⟩, let ⟨mc, h1, h2⟩ := hlim; ⟨mc, nsK h1, h2⟩⟩
    have e0 : Env0 P w K mg (hidT s₁.heap H) callerA [] s₁ H := ⟨rfl, hM, fun b o e => of_hidT e, Nat.le_of_eq (hidT_size _ _), trivial, fun b hb => absurd (show b ∈ ([] : List Addr) from hb) (by simp), hok, .of_eq hg⟩
    refine codeAny_mono ((F _ hKb (nsK hns)).run callerA [] s₁ H ⟨[.ref a], []⟩ [.ref a] [.ref a] _ _ hr e0 (hbind s₁ (.ref a)) (.cons rfl .nil) (hsp H hO hS)) fun r s' h => ?_
    cases r with
    | error e => exact (hCX H e s' h).elim
    | ok fl =>
      cases fl with
      | next => exact False.elim h
      | brk => exact False.elim h
      | cont => exact False.elim h
      | ret u =>
        obtain ⟨v, H', os, bare, un, hok', r', q⟩ := h
        have q' : v = .bl true := q
        subst q'
        obtain rfl : u = Value.bool true := r'
        refine ⟨rfl, OldK.of_keep fun b o e => ?_, os, bare⟩
        cases q : H b with
        | none => exact un.keep b o e q (by intro z; exact absurd (show b ∈ ([] : List Addr) from z) (by simp)) (by simp)
        | some u =>
          rcases hO b with z | ⟨ob, xs, z⟩
          · rw [q] at z; cases z
          · have z2 := un.frzs b ob _ z
            obtain ⟨e1, _⟩ := hok b _ z
            obtain ⟨e2, _⟩ := hok' b _ z2
            rw [e] at e1; cases e1
            exact e2
  cases hk : K.lookup a with
  | some o =>
    -- the script is one of the module's own objects
    have e := KX a o hk
    rw [ha] at e
    cases e
    refine core (fun _ => none) (fun _ => .inl rfl) (.inr ⟨_, vs.toArray, _, hk, rfl, rfl, rfl, by rw [List.size_toArray, lenV]; exact hl, by simpa using rv, fun x hx => by obtain ⟨i, _, rfl⟩ := List.mem_map.mp hx; trivial⟩) (fun b u z => by have z' : (none : Option HO) = some u := z; cases z') (fun b z => absurd rfl z) fun z => absurd rfl z
  | none =>
    refine core (fun b => if b = a then some (.frz { cls := .type "list", data := .seq vs.toArray } (.lst (ns.map V.int))) else none) (fun b => ?_) (.inl (.inr ⟨{ cls := .type "list", data := .seq vs.toArray }, if_pos rfl⟩)) (fun b u z => ?_) (fun b z => ?_) fun _ => hk
    · by_cases hb : b = a
      · exact .inr ⟨_, _, if_pos hb⟩
      · exact .inl (if_neg hb)
    · by_cases hb : b = a
      · have z' := (if_pos hb).symm.trans z
        cases z'
        subst hb
        exact ⟨ha, by rw [List.length_map]; exact hl, vs, _, rv, ha⟩
      · have z' := (if_neg hb).symm.trans z
        cases z'
    · by_cases hb : b = a
      · exact hb
      · exact absurd (if_neg hb) z
end L2

namespace L2
open PySem PySem.Spec PyProof.Rows

abbrev KOf {K : PySem.W.Frag} {h : Heap} (_ : K.In h) : PySem.W.Frag := K

/-- the goal that k_head leaves (case hc), from the law's promise. F gives the function object fd (K's own) once, then the promise over every base -/
theorem walk_of {l : PySem.W.OpenLaw} {n k : Nat} {q : Program} {loose : List Str} {XP : (Str → Option Value) → Heap → Prop} {YP : World → Heap → Prop} {d : DefRec} {K : Params → PySem.W.Frag} {CX : World → CXT} {sp : World → Sp} {x : Str}
    (hn : l.most = some n) (hn2 : n ≤ sizeLine) (hdf : d.params.defaults = []) (hr : Room k callerA)
    (hY : ∀ (w : World) (h : Heap), YP w h → (K w.params).In h)
    (F : ∀ (w : World) (mg : Str → Option Value) (fa : Addr) (h : Heap), (K w.params).In h → h.Ns mainGlobals mg → mg d.name = some (.ref fa) →
      ∃ fd : FuncData, (∀ (s : Shared) (u : Value), BindsTo s fd ⟨[u], []⟩ [(x, u)]) ∧
        ∀ base : Heap, (K w.params).In base → base.Ns mainGlobals mg → FnOk l.prog w (K w.params) mg base (CX w) k fa fd [x] (sp w))
    (hsp : ∀ (w : World) (H : Hp) (a : Addr) (ns : List Int), ns.length ≤ n → Only H → SqL (K w.params) H a (ns.map V.int) → sp w [.ref a] H (fun v _ => v = .bl true) fun _ _ _ => False)
    (hCX : ∀ (w : World) (H : Hp) (s : Shared) (e : Value) (s' : Shared), CX w [] H s (fun _ _ _ => False) e s' → False) :
    PySem.W.WalkO q loose XP YP l.row.toRowW d [] (fun f vs => PySem.call f vs) := by
  refine Att.attach_call hn hdf fun w s₀ s₁ mg mb fa o pm cd doc a vs ns G Y ho hd hcd hmg hobj hints hlen hg => ?_
  have KX := hY w _ Y
  obtain ⟨fd, hb, hF⟩ := F w mg fa _ KX G.T.g hmg
  exact law_call KX G.T.g G.T.b G.T.builtins G.T.nolimit hg hobj hints (Nat.le_trans hlen hn2) hr hF hb (fun H hO hS => hsp w H a ns hlen hO hS) fun H e s' => hCX w H s₁ e s'
end L2

/- THE LAST THEOREM (shape; LID, My.* are yours):
   My.Adr: a structure of the addresses that your layer names (classes, functions); My.Txt K t: a structure (Prop) of the equations over K;
   My.txt_mk : {K} {implicit addresses ..} (e1 : nsIn K mainGlobals "law" = some (some (.ref f))) (e2 : K.lookup f = some ⟨oc, od, .func (fnOf "law" "law" params body scope dV kV doc pm an cdv ct), sl⟩) (e3 : codeIn K cdv "law" = true) .. : ∃ t, My.Txt K t

set_option maxRecDepth 100000 in
set_option maxHeartbeats 0 in
theorem PySem.Challenge.cw_LID_holds : PySem.Challenge.rw_LID.Holds := by
  w_on; o_law; k_head; (case hw => w_witness2)
  k_fill
  refine L2.walk_of (l := PySem.Challenge.rw_LID) (n := 63) (k := 40) (x := "script") (CX := fun w => ..) (sp := fun _ => My.sp_law) rfl (by decide) rfl ⟨rfl, by decide, by decide⟩ (fun w h Y => PySem.W.kIn_of Y) ?F ?S ?C
  case F =>
    intro w mg fa h KX G hmg
    have T : ∃ t, My.Txt (L2.KOf KX) t := by
      dsimp only [L2.KOf]                          -- K must stand as «<heap const> w.params» for k_is
      refine' My.txt_mk ?e1 ?e2 ?e3 ..
      (case e1 => PySem.W.k_is)                    -- in the order: a name -> its address -> its object -> its parts
      (case e2 => PySem.W.k_is)
      ..
    obtain ⟨t, T⟩ := T
    have e0 := hmg.symm.trans (PySem.W.mg_of KX G T.law)
    cases e0                                       -- fa is the law's own address
    exact ⟨_, fun s u => .of_eq rfl, fun base kb nb => My.law_fn T kb nb⟩     -- if «.of_eq rfl» comes too early: refine' ⟨_, ?b, fun base kb nb => My.law_fn T kb nb⟩; exact fun s u => .of_eq rfl
  case S => exact fun w H a ns hl hO hS => ..
  case C => exact ..
(the tactic k_is has no namespace: write k_is) -/

/-! SHORT WORDS over the layer: a def of the text, its body, what a loop and a test want. -/
namespace L2
open PySem PySem.Spec PyProof.Rows

/-! ### the text by places -/
/-- the j-th statement of a class's body -/
def inClass (s : Stmt) (j : Nat) : Stmt := match s with
  | .ClassDef _ _ _ body _ _ _ _ _ _ _ => body.getD j (.Pass ⟨0, 0, 0, 0⟩)
  | _ => .Pass ⟨0, 0, 0, 0⟩
def defArgs (s : Stmt) : Arguments := match s with
  | .FunctionDef _ a _ _ _ _ _ _ _ _ => a
  | _ => { posonlyargs := [], args := [], vararg := none, kwonlyargs := [], kw_defaults := [], kwarg := none, defaults := [] }
def defBody (s : Stmt) : List Stmt := match s with
  | .FunctionDef _ _ b _ _ _ _ _ _ _ => b
  | _ => []
def defScope (s : Stmt) : Scope := match s with
  | .FunctionDef _ _ _ _ _ _ sc _ _ _ => sc
  | _ => { kind := .function, names := [], isGenerator := false, isCoroutine := false }

/-! ### no exception leaves a def -/
abbrev CX0 : CXT := fun _ _ _ _ _ _ => False
abbrev E0 : XK := fun _ _ _ => False
theorem pass0 {X : Cx} : Passes CX0 X E0 := fun _ _ _ _ _ _ _ h => h.elim

/-! ### a def (or method) of the text as it stands behind the top -/
structure Fun (K : PySem.W.Frag) (x qual : Str) (st : Stmt) (f : Addr) (fd : FuncData) : Prop where
  ex : ∃ (oc : Value) (od : Option Addr) (kV doc pm : Value) (an : Option Addr) (cdv ct : Value) (osl : Array (Option Value)),
    fd = PySem.W.fnOf x qual (defArgs st) (defBody st) (defScope st) .none kV doc pm an cdv ct ∧ K.lookup f = some ⟨oc, od, .func fd, osl⟩ ∧ PySem.W.codeIn K cdv qual = true
  kp : PySem.W.keepIn K (.ref f) = true
section
variable {P : Program} {w : World} {K : PySem.W.Frag} {mg : Str → Option Value} {base : Heap}
/-- THE RULE for a def: its body as a term of rules, and the reading of that term -/
theorem Fun.ok {x qual : Str} {st : Stmt} {f : Addr} {fd : FuncData} {N ps : List Str} {k : Nat} {sp : Sp} (F : Fun K x qual st f fd) (S : FnScope N ps (defScope st)) (len : ∀ vs H Q E, sp vs H Q E → vs.length = ps.length)
    (hbody : ∀ (cdv : Value) (A : Around) (outer : List Env) (s : Shared) (H : Hp) (vs : List V) (Q : VK) (E : XK), Room k (A.deeper (envOfC qual (defScope st) s.heap.objs.size f cdv)) → sp vs H Q E →
      ∃ t, PSs (cxOf CX0 P w K mg base N qual (defScope st) f cdv A outer s H E).nox (defBody st) t ∧ t { nx := fun _ H' => Q .non H', rt := Q } (start N vs) H) : FnOk P w K mg base CX0 (k + 1) f fd ps sp := by
  obtain ⟨oc, od, kV, doc, pm, an, cdv, ct, osl, rfl, lk, hcd⟩ := F.ex
  refine fn_of lk hcd S len fun A outer s H vs Q E hr hsp => ?_
  obtain ⟨t, h, q⟩ := hbody cdv A outer s H vs Q E hr hsp
  exact ⟨t, h.nox, q⟩
/-- how its arguments bind (no defaults): h is «fun _ _ _ _ _ _ us hl => match us, hl with | [_, _], _ => rfl», one _ a parameter -/
theorem Fun.binds {x qual : Str} {st : Stmt} {f : Addr} {fd : FuncData} {ps : List Str} (F : Fun K x qual st f fd)
    (h : ∀ (kV doc pm : Value) (an : Option Addr) (cdv ct : Value) (us : List Value), us.length = ps.length → bindArgs (PySem.W.fnOf x qual (defArgs st) (defBody st) (defScope st) .none kV doc pm an cdv ct) ⟨us, []⟩ = pure (ps.zip us)) : Binds K fd ps [] := by
  obtain ⟨oc, od, kV, doc, pm, an, cdv, ct, osl, rfl, lk, hcd⟩ := F.ex
  exact .all (h kV doc pm an cdv ct)
theorem fun_mk {x qual : Str} {st : Stmt} {f : Addr} {oc : Value} {od an : Option Addr} {osl : Array (Option Value)} {kV doc pm cdv ct : Value} (l : K.lookup f = some ⟨oc, od, .func (PySem.W.fnOf x qual (defArgs st) (defBody st) (defScope st) .none kV doc pm an cdv ct), osl⟩)
    (c : PySem.W.codeIn K cdv qual = true) (k : PySem.W.keepIn K (.ref f) = true) : Fun K x qual st f (PySem.W.fnOf x qual (defArgs st) (defBody st) (defScope st) .none kV doc pm an cdv ct) := ⟨⟨oc, od, kV, doc, pm, an, cdv, ct, osl, rfl, l, c⟩, k⟩
end
theorem hu_of {A : Around} {k : Nat} (hr : Room k A) : A.units + 1 < cLine := Nat.lt_of_le_of_lt (Nat.add_le_add_left (by decide : 1 ≤ 64) _) hr.units
theorem small1000 {n : Nat} (h : n ≤ 1000) : n < sizeLine := Nat.lt_of_le_of_lt h (by decide)

/-! ### expressions in short: the name that stands in the i-th slot -/
section
variable {X : Cx}
theorem pv (i : Nat) {x : Str} {pos : Pos} (hN : X.N[i]? = some x := by rfl) (hv : Vis X.env.scope x := by first | exact Or.inl rfl | exact Or.inr (Or.inl rfl) | exact Or.inr (Or.inr rfl)) (hd : (x == ("__debug__" : Str)) = false := by decide)
    (hcd : (x == ("__classdict__" : Str)) = false := by decide) : PE X (.Name x pos) (tVar i) := pe_var hN hv hd hcd
end

/-! ### tests -/
theorem iteF {A B : Prop} (h : B) : if false = true then A else B := by
  rw [if_neg Bool.false_ne_true]
  exact h
theorem iteT {A B : Prop} (h : A) : if true = true then A else B := by
  rw [if_pos rfl]
  exact h
/-! ### heaps -/
/-- all that was tracked is as it was -/
def Same (H H' : Hp) : Prop := ∀ b o, H b = some o → H' b = some o
theorem Same.refl (H : Hp) : Same H H := fun _ _ h => h
theorem Same.trans {H H1 H2 : Hp} (a : Same H H1) (b : Same H1 H2) : Same H H2 := fun c o h => b c o (a c o h)
theorem Same.free {H H' : Hp} (e : Same H H') {l : Addr} (h : H' l = Option.none) : H l = Option.none := by
  cases q : H l with
  | none => rfl
  | some o =>
    rw [e l o q] at h
    cases h
theorem Same.seq {K : PySem.W.Frag} {H H' : Hp} {a : Addr} {xs : List V} (e : Same H H') (h : SqL K H a xs) : SqL K H' a xs := by
  rcases h with (h | ⟨o, h⟩) | h
  · exact .inl (.inl (e _ _ h))
  · exact .inl (.inr ⟨o, e _ _ h⟩)
  · exact .inr h

end L2

set_option Elab.async false
set_option linter.all false
set_option maxRecDepth 100000
/-! maths: texts in order, and lists of them -/
namespace Nm
open PySem PyProof.Rows
def lt (a b : Str) : Prop := a.cps.toList < b.cps.toList
instance (a b : Str) : Decidable (lt a b) := inferInstanceAs (Decidable (a.cps.toList < b.cps.toList))
theorem irr (a : Str) : ¬ lt a a := List.lt_irrefl _
theorem tr {a b c : Str} (h : lt a b) (g : lt b c) : lt a c := List.lt_trans h g
theorem asym {a b : Str} (h : lt a b) : ¬ lt b a := fun g => irr a (tr h g)
theorem str_ext {a b : Str} (h : a.cps.toList = b.cps.toList) : a = b := by
  cases a; cases b
  simp only [Str.mk.injEq]
  exact Array.toList_inj.mp h
theorem tri {a b : Str} (h : ¬ lt a b) (g : ¬ lt b a) : a = b := str_ext (List.le_antisymm g h)
theorem other {a b : Str} (ne : a ≠ b) (h : ¬ lt a b) : lt b a := by
  by_cases g : lt b a
  · exact g
  · exact absurd (tri h g) ne
def le (a b : Str) : Prop := ¬ lt b a
theorem sortedS_pw : ∀ {l : List Str}, sortedS l = true → l.Pairwise le
  | [], _ => .nil
  | [a], _ => by simp
  | a :: b :: r, h => by
    have h' : risingS a (b :: r) = true := h
    unfold risingS at h'
    simp only [Bool.and_eq_true, Bool.not_eq_true', ltCps_eq, decide_eq_false_iff_not] at h'
    have ih := sortedS_pw (l := b :: r) h'.2
    refine List.pairwise_cons.mpr ⟨fun c hc => ?_, ih⟩
    rcases List.mem_cons.mp hc with rfl | hc
    · exact h'.1
    · intro z
      have : le b c := (List.pairwise_cons.mp ih).1 c hc
      by_cases e : a = b
      · subst e; exact this z
      · exact this (tr z (other (fun q => e q.symm) h'.1))
theorem sorted_one {l m : List Str} (p : l.Perm m) (h : sortedS l = true) (g : m.Pairwise le) : l = m :=
  List.Perm.eq_of_pairwise (fun a b _ _ x y => tri y x) (sortedS_pw h) g p
/-- put into its place -/
def ins (x : Str) : List Str → List Str
  | [] => [x]
  | y :: r => if lt y x then y :: ins x r else x :: y :: r
def srt : List Str → List Str
  | [] => []
  | x :: r => ins x (srt r)
theorem ins_perm (x : Str) : ∀ l, (ins x l).Perm (x :: l)
  | [] => .refl _
  | y :: r => by
    unfold ins
    split
    · exact ((ins_perm x r).cons y).trans (.swap x y r)
    · exact .refl _
theorem srt_perm : ∀ l, (srt l).Perm l
  | [] => .refl _
  | x :: r => (ins_perm x (srt r)).trans ((srt_perm r).cons x)
theorem ins_pw {x : Str} : ∀ {l : List Str}, l.Pairwise le → (ins x l).Pairwise le
  | [], _ => by simp [ins]
  | y :: r, h => by
    obtain ⟨h1, h2⟩ := List.pairwise_cons.mp h
    unfold ins
    split
    · rename_i c
      refine List.pairwise_cons.mpr ⟨fun z hz => ?_, ins_pw h2⟩
      rcases List.mem_cons.mp ((ins_perm x r).mem_iff.mp hz) with rfl | hz
      · exact asym c
      · exact h1 z hz
    · rename_i c
      refine List.pairwise_cons.mpr ⟨fun z hz => ?_, h⟩
      rcases List.mem_cons.mp hz with rfl | hz'
      · exact c
      · intro q
        by_cases e : x = y
        · rw [e] at q; exact h1 z hz' q
        · exact h1 z hz' (tr q (other (fun e' => e e'.symm) c))
theorem srt_pw : ∀ l, (srt l).Pairwise le
  | [] => .nil
  | x :: r => ins_pw (srt_pw r)
theorem sorted_srt {l m : List Str} (p : l.Perm m) (h : sortedS l = true) : l = srt m := sorted_one (p.trans (srt_perm m).symm) h (srt_pw m)
theorem srt_len (l : List Str) : (srt l).length = l.length := (srt_perm l).length_eq
end Nm

set_option Elab.async false
set_option linter.all false
set_option maxRecDepth 100000
/-! maths: points by pairs of ints, spans, five points -/
namespace Ln
structure Pt where
  a : Int
  b : Int
  c : Int
  d : Int
def Is (p q X L : Int) : Prop := p * L = X * q
theorem Is.times {a b c d X Y L M : Int} (h1 : Is a b X L) (h2 : Is c d Y M) : Is (a * c) (b * d) (X * Y) (L * M) := by
  unfold Is at *
  grind
/-- the scaled cross of three -/
def cr (X Y : PySem.Str → Int) (p q r : PySem.Str) : Int := (X q - X p) * (Y r - Y p) - (Y q - Y p) * (X r - X p)
def spN (p q r : Pt) : Int := (q.a * p.b - p.a * q.b) * (r.c * p.d - p.c * r.d) * ((q.d * p.d) * (r.b * p.b)) - (q.c * p.d - p.c * q.d) * (r.a * p.b - p.a * r.b) * ((q.b * p.b) * (r.d * p.d))
def spB (p q r : Pt) : Int := (q.b * p.b) * (r.d * p.d) * ((q.d * p.d) * (r.b * p.b))
/-- the points of names stand for these scaled places -/
structure Pl (pl : PySem.Str → Pt) (X Y : PySem.Str → Int) (L : Int) (x : PySem.Str) : Prop where
  hx : Is (pl x).a (pl x).b (X x) L
  hy : Is (pl x).c (pl x).d (Y x) L
  nb : (pl x).b ≠ 0
  nd : (pl x).d ≠ 0
/-- the way from the first to the second, at t -/
def wyN (a0 b0 a1 b1 t0 t1 : Int) : Int := a0 * (b1 * b0) * t1 + t0 * (a1 * b0 - a0 * b1) * b0
def wyB (b0 b1 t1 : Int) : Int := b0 * (b1 * b0) * t1
end Ln

set_option Elab.async false
set_option linter.all false
set_option maxRecDepth 100000
/-! exceptions over the hand layer: raised in a def, passed on by its callers, caught by a class -/
namespace L2
open PySem PySem.Spec PyProof.Rows

/-- what a flying exception leaves: B is the part of the heap that no station of the flight touches -/
structure UnB (fs : List Addr) (H H' : Hp) (h B h' : Heap) : Prop where
  keep : ∀ b o, h.get? b = some o → H b = none → b ∉ fs → B.get? b = some o
  there : ∀ b o, h.get? b = some o → b ∉ fs → ∃ o', B.get? b = some o'
  slot : ∀ b o, h.get? b = some o → H b = none → b ∈ fs → ∃ sl, h'.get? b = some { o with slots := sl }
  free : ∀ b o, h.get? b = some o → H b = none → H' b = none
  tups : ∀ b xs, H b = some (.tup xs) → H' b = some (.tup xs)
  frzs : ∀ b o u, H b = some (.frz o u) → H' b = some (.frz o u)
  tbls : ∀ b ps, H b = some (.tbl ps) → ∃ more, H' b = some (.tbl (ps ++ more))

/-- an exception behind a call -/
def CXR (P : Program) (w : World) : CXT := fun outer H s E e s' => ∃ (ea : Addr) (cls a0 : Value) (B : Heap) (H' : Hp),
  e = .ref ea ∧ s'.os = s.os ∧ AllBare s'.gens ∧ UnB (frs outer) H H' s.heap B s'.heap ∧ HOk P w H' B ∧ Heap.FlyingW B outer ea cls a0 s'.heap ∧ E cls none H'

theorem FnOk.calm {P : Program} {w : World} {K : PySem.W.Frag} {mg : Str → Option Value} {base : Heap} {k : Nat} {f : Addr} {fd : FuncData} {ps : List Str} {sp sp' : Sp}
    (F : FnOk P w K mg base (CXR P w) k f fd ps sp) (h : ∀ vs H Q E, sp' vs H Q E → sp vs H Q E0) : FnOk P w K mg base CX0 k f fd ps sp' where
  len := fun vs H Q E z => F.len _ _ _ _ (h vs H Q E z)
  run := fun A outer s H args us vs Q E hr e0 hb r z => codeAny_mono (F.run A outer s H args us vs Q E0 hr e0 hb r (h _ _ _ _ z)) fun res s' q => by
    cases res with
    | error e =>
      obtain ⟨_, _, _, _, _, _, _, _, _, _, _, zz⟩ := q
      exact zz.elim
    | ok fl => cases fl <;> exact q

section
variable {X : Cx} {pins : List (Addr × Obj)} {σ : St} {H H' : Hp} {s s1 : Shared} {h' : Heap}

end

section
variable {P : Program} {w : World} {K : PySem.W.Frag} {mg : Str → Option Value} {base : Heap} {N : List Str} {qual : Str} {scope : Scope} {f : Addr} {cd : Value} {A : Around} {outer : List Env} {s : Shared} {H : Hp} {E : XK}

/-- what is wanted of an exception that a def's own text raises -/
def RaisesTo (X : Cx) (E : XK) : Prop := ∀ (pins : List (Addr × Obj)) (σ : St) (H : Hp) (s : Shared) (h' : Heap) (e : Addr) (cls : Value) (vs : List Value),
  Inv X pins σ H s → Heap.MadeExcOf s.heap h' e cls vs → E cls none H → X.xe (.ref e) { s with heap := h' }

end

/-! ### raise C(..) -/
def bmV : List Value := [.type "ValueError", .type "Exception", .type "BaseException", .type "object"]
abbrev ExcC (K : PySem.W.Frag) (C : Addr) : Prop := PySem.W.excIn K C bmV "ValueError.__new__" = true

section
variable {X : Cx} {E : XK} {C : Addr} {x : Str} {np cpos pos : Pos} {e₀ : Expr} {es : List Expr} {t : TA}
def tRaise (cls : Value) (E : XK) (t : TA) : TS := fun _ σ H => t σ H fun vs H1 => vs.length ≤ sizeLine ∧ E cls none H1
end
end L2

set_option Elab.async false
set_option linter.all false
set_option maxRecDepth 100000
namespace L2
open PySem PySem.Spec PyProof.Rows

/-- an exception's object, by its class -/
def ExcO (ea : Addr) (cls : Value) : HO := .ext fun h => ∃ (o : Obj) (vs : Array Value), h.get? ea = some o ∧ o.cls = cls ∧ o.data = .fields vs

theorem ObjOk.there {P : Program} {w : World} {H : Hp} {h : Heap} {a : Addr} {o : HO} (x : ObjOk P w H h a o) : ∃ ob, h.get? a = some ob := by
  cases o with
  | lst xs => obtain ⟨_, _, _, _, e⟩ := x; exact ⟨_, e⟩
  | tup xs => obtain ⟨_, _, _, ob, e, _⟩ := x; exact ⟨_, e⟩
  | dK kvs => obtain ⟨_, _, _, _, o, _, _, e, _⟩ := x; exact ⟨_, e⟩
  | dT kvs => obtain ⟨_, _, _, _, o, _, _, e, _⟩ := x; exact ⟨_, e⟩
  | set S n => obtain ⟨o, _, _, _, e, _⟩ := x; exact ⟨_, e⟩
  | ins C dx fs => obtain ⟨_, _, _, e, _⟩ := x; exact ⟨_, e⟩
  | own y => obtain ⟨_, e⟩ := x; exact ⟨_, e⟩
  | xd fs => obtain ⟨_, ⟨_, _, _, e, _⟩, _⟩ := x; exact ⟨_, e⟩
  | rng lo hi => obtain ⟨_, _, _, e⟩ := x; exact ⟨_, e⟩
  | frz ob u => obtain ⟨e, _⟩ := x; exact ⟨_, e⟩
  | tbl ps => exact ⟨_, (show h.get? a = some _ from x)⟩
  | met f y => exact ⟨_, (show h.get? a = some _ from x)⟩
  | ext φ => obtain ⟨_, ⟨_, e⟩, _⟩ := x; exact ⟨_, e⟩

section
variable {X : Cx} {pins : List (Addr × Obj)} {σ : St} {H H' : Hp} {s s1 : Shared} {B h : Heap} {ea : Addr} {cls a0 : Value}

/-- the state at a handler: the exception tracked by its class -/
theorem Inv.caught (I : Inv X pins σ H s) (U : UnB (frs X.stack) H H' s.heap B s1.heap) (ho : s1.os = s.os) (hg : AllBare s1.gens) (hok : HOk X.prog X.w H' B) (fl : Heap.FlyingW B X.stack ea cls a0 h) (sm : s1.heap.UpToSlots h)
    (fr1 : s1.heap.FunFrames B X.stack) : Inv X pins σ (upd H' ea (ExcO ea cls)) { s1 with heap := h } ∧ H' ea = none := by
  obtain ⟨kb, ne, fr, oe, vs, T, oT, ts, he, hc, hd, _⟩ := id fl
  have free : H' ea = none := by
    cases q : H' ea with
    | none => rfl
    | some o =>
      obtain ⟨ob, z⟩ := (hok ea o q).there
      rw [ne] at z
      cases z
  have nea : ∀ b u, H' b = some u → b ≠ ea := fun b u q z => by rw [z, free] at q; cases q
  have notF : ea ∉ frs X.stack := fun hm => by
    obtain ⟨_, o, q, nf⟩ := fr.mem hm
    rw [he] at q
    cases q
    exact nf vs hd
  have old : ∀ b o, s.heap.get? b = some o → b ≠ ea := fun b o q z => by
    subst z
    obtain ⟨o', q'⟩ := U.there _ o q notF
    rw [ne] at q'
    cases q'
  have tr : ∀ b o, s.heap.get? b = some o → b ∈ frs X.stack → ∃ sl, h.get? b = some { o with slots := sl } := fun b o q hm => by
    obtain ⟨sl, q1⟩ := U.slot b o q (I.stkFree b hm) hm
    obtain ⟨_, o', q2, nf⟩ := fr1.mem hm
    rw [q1] at q2
    cases q2
    obtain ⟨sl2, q3⟩ := sm b _ q1 nf
    exact ⟨sl2, q3⟩
  refine ⟨I.call' (s' := { s1 with heap := h }) (ch := []) ho ?_ ?_ hg (fun _ z => nomatch z), free⟩
  · exact {
      keep := fun b o q n nf _ => kb b o (U.keep b o q n nf)
      slot := fun b o q n hf _ => tr b o q hf
      free := fun b o q n _ => by rw [upd_ne (old b o q)]; exact U.free b o q n
      there := fun b o q _ => by
        by_cases hm : b ∈ frs X.stack
        · obtain ⟨sl, z⟩ := tr b o q hm
          exact ⟨_, z⟩
        · obtain ⟨o', z⟩ := U.there b o q hm
          exact ⟨o', kb b o' z⟩
      tups := fun b xs q => by rw [upd_ne (nea b _ (U.tups b xs q))]; exact U.tups b xs q
      frzs := fun b o u q => by rw [upd_ne (nea b _ (U.frzs b o u q))]; exact U.frzs b o u q
      tbls := fun b ps q => by
        obtain ⟨m, z⟩ := U.tbls b ps q
        exact ⟨m, by rw [upd_ne (nea b _ z)]; exact z⟩ }
  · intro b u q
    by_cases hb : b = ea
    · subst hb
      rw [upd_same] at q
      cases q
      refine ⟨⟨oe, vs, he, hc.1, hd⟩, ⟨oe, he⟩, fun h1 h2 z k => ?_⟩
      obtain ⟨o, ws, z1, z2, z3⟩ := z
      exact ⟨o, ws, k o z1, z2, z3⟩
    · rw [upd_ne hb] at q
      exact (hok b u q).stay (fun c v _ r => kb c v r) (fun c r => by rw [upd_ne (nea c _ r)]; exact r) fun c xs r => by rw [upd_ne (nea c _ r)]; exact r

/-- the body of a try, the handler's body -/
abbrev Cx.tryIn (X : Cx) (pn : List (Addr × Obj)) (E : Value → Shared → Prop) : Cx := { X with pn := pn, xe := E }
abbrev Cx.hand (X : Cx) (ea : Addr) (E : Value → Shared → Prop) : Cx := { X with A := X.A.mark (some (.ref ea)), calm := false, xe := E }

theorem Cx.Ok.tryIn {pn : List (Addr × Obj)} {E : Value → Shared → Prop} (k : X.Ok) : (X.tryIn pn E).Ok :=
  ⟨k.mod, k.kind, k.glob, k.blt, k.above, k.inj, k.has, k.cab, k.hd, k.frames, k.stk, k.exf, k.bs, k.bsz, k.noex, k.exfs, k.funs, k.frf⟩
theorem Cx.Ok.unTry {pn : List (Addr × Obj)} {E : Value → Shared → Prop} (k : (X.tryIn pn E).Ok) : X.Ok :=
  ⟨k.mod, k.kind, k.glob, k.blt, k.above, k.inj, k.has, k.cab, k.hd, k.frames, k.stk, k.exf, k.bs, k.bsz, k.noex, k.exfs, k.funs, k.frf⟩
theorem Cx.Ok.hand {E : Value → Shared → Prop} (k : X.Ok) : (X.hand ea E).Ok :=
  ⟨k.mod, k.kind, k.glob, k.blt, k.above, k.inj, k.has, k.cab, (fun z => nomatch z), k.frames, k.stk, k.exf, k.bs, k.bsz, k.noex, k.exfs, k.funs, k.frf⟩
theorem Inv.tryIn {E : Value → Shared → Prop} (I : Inv X pins σ H s) : Inv (X.tryIn (X.pn ++ pins) E) [] σ H s :=
  ⟨I.ok.tryIn, I.os, I.bare, I.base, I.loc, I.cell, I.free, I.freeC, fun p hp => I.pin p (by simpa using hp), I.hok, I.len⟩
theorem Inv.unTry {E : Value → Shared → Prop} {pl : List (Addr × Obj)} (I : Inv (X.tryIn (X.pn ++ pins) E) pl σ H s) : Inv X pins σ H s :=
  ⟨I.ok.unTry, I.os, I.bare, I.base, I.loc, I.cell, I.free, I.freeC, fun p hp => I.pin p (List.mem_append_left _ hp), I.hok, I.len⟩
theorem Inv.hand {E : Value → Shared → Prop} (I : Inv X pins σ H s) : Inv (X.hand ea E) pins σ H s :=
  ⟨I.ok.hand, I.os, I.bare, I.base, I.loc, I.cell, I.free, I.freeC, I.pin, I.hok, I.len⟩
/-- a wish about exceptions that knows the names' values at the call -/
def PassesS (CX : CXT) (X : Cx) (Ex : St → XK) : Prop := ∀ (pins : List (Addr × Obj)) (σ : St) (H : Hp) (s : Shared) (e : Value) (s' : Shared), Inv X pins σ H s → CX X.stack H s (Ex σ) e s' → X.xe e s'
def tCallS (sp : Sp) (dvs : List V) (Ex : St → XK) (t : TA) : TE := fun σ H Q => t σ H fun vs H1 => sp (vs ++ dvs) H1 Q (Ex σ)
def Caught (X : Cx) (pn : List (Addr × Obj)) (Ex : St → XK) : Value → Shared → Prop := fun e s' => ∃ (pl : List (Addr × Obj)) (σ : St) (H : Hp) (s : Shared), Inv (X.tryIn pn fun _ _ => False) pl σ H s ∧ CXR X.prog X.w X.stack H s (Ex σ) e s'
end

section
variable {X : Cx} {CX : CXT} {k : Nat} {f : Addr} {fd : FuncData} {ps : List Str} {sp : Sp} {dvs : List V} {ds : List Value} {Ex : St → XK} {x : Str} {p pos : Pos} {e : Expr} {es : List Expr} {t : TA}
end

/-! ### try .. except D as n -/
end L2

set_option Elab.async false
set_option linter.all false
set_option maxRecDepth 100000
namespace L2
open PySem PySem.Spec PyProof.Rows

/-! ### ints of known size -/
def Sz (n : Nat) (i : Int) : Prop := i.natAbs < 2 ^ n
theorem Sz.mono {m n : Nat} {i : Int} (h : Sz m i) (hl : m ≤ n) : Sz n i := Nat.lt_of_lt_of_le h (Nat.pow_le_pow_right (by decide) hl)
theorem Sz.le {n : Nat} {i j : Int} (h : Sz n j) (hl : i.natAbs ≤ j.natAbs) : Sz n i := Nat.lt_of_le_of_lt hl h
theorem Sz.neg {n : Nat} {i : Int} (h : Sz n i) : Sz n (-i) := h.le (by omega)
theorem Sz.add' {n : Nat} {i j : Int} (h : Sz n i) (g : Sz n j) : Sz (n + 1) (i + j) := by
  unfold Sz at *
  rw [Nat.pow_succ]
  generalize 2 ^ n = k at *
  omega
theorem Sz.sub' {n : Nat} {i j : Int} (h : Sz n i) (g : Sz n j) : Sz (n + 1) (i - j) := by
  unfold Sz at *
  rw [Nat.pow_succ]
  generalize 2 ^ n = k at *
  omega
theorem Sz.add {m n k : Nat} {i j : Int} (h : Sz m i) (g : Sz n j) (hm : m < k) (hn : n < k) : Sz k (i + j) := by
  cases k with
  | zero => exact absurd hm (Nat.not_lt_zero _)
  | succ k => exact Sz.add' (h.mono (Nat.le_of_lt_succ hm)) (g.mono (Nat.le_of_lt_succ hn))
theorem Sz.sub {m n k : Nat} {i j : Int} (h : Sz m i) (g : Sz n j) (hm : m < k) (hn : n < k) : Sz k (i - j) := by
  cases k with
  | zero => exact absurd hm (Nat.not_lt_zero _)
  | succ k => exact Sz.sub' (h.mono (Nat.le_of_lt_succ hm)) (g.mono (Nat.le_of_lt_succ hn))
theorem Sz.bits {n : Nat} {i : Int} (h : Sz n i) : Builtin.Int.intBits i ≤ n := PySem.intBits_le_iff.mpr h

def CMulS (i j : Int) : Prop := ∃ m n, Sz m i ∧ Sz n j ∧ m + n ≤ 134217728
def CDivS (_ j : Int) : Prop := j ≠ 0 ∧ Sz 9000 j
section
variable {X : Cx}
theorem op_mulS : OpR X (binaryOp .Mult) (rI CMulS fun i j => .int (i * j)) :=
  opI fun _ _ _ _ _ _ _ h q => by
    obtain ⟨m, n, h1, h2, h3⟩ := h
    exact mul_int q (PySem.IntMulOk.of_le h1.bits h2.bits h3)
theorem op_fdivS : OpR X (binaryOp .FloorDiv) (rI CDivS fun i j => .int (i.fdiv j)) :=
  opI fun _ _ _ _ _ _ _ h q => floordiv_int h.1 q (Or.inl (PyProof.noPylong_of_log2 ((Nat.log2_lt (by have := h.1; omega)).mpr h.2)))

/-! ### isinstance by one class -/
def toVal : V → Value
  | .ty n => .type n
  | .ref a => .ref a
  | _ => .none
theorem toVal_rel {c : V} {u : Value} (h : (∃ n, c = .ty n) ∨ ∃ a, c = .ref a) (r : RelV c u) : u = toVal c := by
  rcases h with ⟨n, rfl⟩ | ⟨a, rfl⟩
  · exact r
  · exact r
def rIsi (K : PySem.W.Frag) : List V → Hp → VK → Prop := fun xs H Q => ∃ x c t b, xs = [x, c] ∧ ((∃ n, c = .ty n) ∨ ∃ a, c = .ref a) ∧ TyOf K H x t ∧ PySem.W.kitOne K t (toVal c) = some b ∧ Q (.bl b) H
end

/-! ### a callee by its name -/
def Cal (P : Program) (w : World) (K : PySem.W.Frag) (mg : Str → Option Value) (base : Heap) (CX : CXT) (k : Nat) (x : Str) (ps : List Str) (sp : Sp) : Prop :=
  ∃ f fd, FnOk P w K mg base CX k f fd ps sp ∧ Binds K fd ps [] ∧ PySem.W.keepIn K (.ref f) = true ∧ mg x = some (.ref f)
section
variable {X : Cx} {CX : CXT} {k : Nat} {ps : List Str} {sp : Sp} {E : XK} {x : Str} {p pos : Pos} {e : Expr} {es : List Expr} {t : TA}
theorem pe_cal (c : Cal X.prog X.w X.K X.mg X.base CX k x ps sp) (hr : Room k X.A) (hx : Passes CX X E) (ha : PA X (e :: es) t) (hg : Gl X x := by rfl) (hdb : (x == ("__debug__" : Str)) = false := by decide)
    (he : starEach (e :: es) X.env = (false, eval e X.env) :: starEach es X.env := by rfl) (hpl : (backTo pos (starEach es X.env)).any (·.1) = false := by rfl) :
    PE X (.Call (.Name x p) (e :: es) [] pos) (tCall sp [] E t) := by
  obtain ⟨f, fd, F, b, kp, m⟩ := c
  exact pe_call F hr hg m kp b .nil hx ha hdb he hpl
end
theorem Cal.calm {P : Program} {w : World} {K : PySem.W.Frag} {mg : Str → Option Value} {base : Heap} {k : Nat} {x : Str} {ps : List Str} {sp sp' : Sp} (c : Cal P w K mg base (CXR P w) k x ps sp) (h : ∀ vs H Q E, sp' vs H Q E → sp vs H Q E0) :
    Cal P w K mg base CX0 k x ps sp' := by
  obtain ⟨f, fd, F, b, kp, m⟩ := c
  exact ⟨f, fd, F.calm h, b, kp, m⟩
end L2
namespace L2
open PySem PySem.Spec PyProof.Rows
/-! ### tests, split -/
theorem iteLt {p : Prop} [Decidable p] {A B : Prop} (h1 : p → A) (h2 : ¬ p → B) : if decide p = true then A else B := by
  by_cases h : p
  · rw [decide_eq_true h]
    exact iteT (h1 h)
  · rw [decide_eq_false h]
    exact iteF (h2 h)
/-- the built-in names that the program leaves as they are -/
structure Bl (mg : Str → Option Value) : Prop where
  b_isinstance : mg "isinstance" = none
  b_int : mg "int" = none
  b_bool : mg "bool" = none
  b_abs : mg "abs" = none
  b_len : mg "len" = none
  b_range : mg "range" = none
  b_max : mg "max" = none
  b_tuple : mg "tuple" = none
  b_min : mg "min" = none
  b_sorted : mg "sorted" = none
  b_enumerate : mg "enumerate" = none
  b_list : mg "list" = none
  b_dict : mg "dict" = none
  b_str : mg "str" = none
  b_any : mg "any" = none
  b_all : mg "all" = none
  b_sum : mg "sum" = none
  b_zip : mg "zip" = none
  b_set : mg "set" = none
  b_reversed : mg "reversed" = none
end L2
namespace L2
open PySem PySem.Spec PyProof.Rows
end L2
namespace L2
open PySem PySem.Spec PyProof.Rows
/-! ### ways that meet again behind a statement -/
def tMid (t : TS) : TS := fun D σ H => ∃ M : St → Hp → Prop, t { D with nx := M } σ H ∧ ∀ σ' H', M σ' H' → D.nx σ' H'
end L2
namespace L2
open PySem PySem.Spec PyProof.Rows
section
variable {X : Cx} {x : Str} {pos : Pos}
/-- a built-in type, an own class, by its name -/
theorem pe_ty {n : String} (hg : Gl X x) (hm : X.mg x = none) (hv : bootBuiltins x = some (.type n)) (hn : x ≠ "__name__" := by decide) (hd : (x == ("__debug__" : Str)) = false := by decide) : PE X (.Name x pos) (tC (.ty n)) := pe_bltn hg hm hv rfl hn hd
end
end L2

set_option Elab.async false
set_option linter.all false
set_option maxRecDepth 100000
set_option maxHeartbeats 1000000
namespace L2
open PySem PySem.Spec PyProof.Rows

/-! ### try: body; except D as n: suite -/
/-- the names' values at the raise are the wish's first; behind the suite they are forgotten -/
def tTry (K : PySem.W.Frag) (D : Addr) (i : Nat) (tb : (St → XK) → TS) (th : TS) : TS := fun De σ H => ∃ Ex : St → XK, tb Ex De σ H ∧ ∀ (σ1 : St) (cls : Value) (dx : Option Addr) (H1 : Hp), Ex σ1 cls dx H1 →
  ∃ C, cls = .ref C ∧ ExcC K C ∧ PySem.W.mroIn K C (.ref D) = some true ∧ ∀ ea, H1 ea = none →
    th { nx := fun σ2 H2 => De.nx (List.replicate σ2.length none) H2, rt := De.rt, bk := fun σ2 H2 => De.bk (List.replicate σ2.length none) H2, ct := fun σ2 H2 => De.ct (List.replicate σ2.length none) H2 } (σ1.set i (some (.ref ea))) (upd H1 ea (ExcO ea (.ref C)))

section
variable {X : Cx} {D : Addr} {i : Nat} {x n : Str} {np hpos pos : Pos} {body suite : List Stmt} {b₀ : Stmt} {tb : (St → XK) → TS} {th : TS}
end

/-! ### isinstance(e, ..) of a caught exception -/
/-- what of the text an exception's class must have -/
structure ExcK (K : PySem.W.Frag) (C : Addr) : Prop where
  ga : PySem.W.findIn K (.ref C) "__getattribute__" = some (some (.builtin "BaseException.__getattribute__"))
  gt : PySem.W.findIn K (.ref C) "__getattr__" = some none
  cl : PySem.W.findIn K (.ref C) "__class__" = some (some (.builtin "object.__class__"))
  ob : PySem.W.mroIn K C (.type "object") = some true
  be : PySem.W.mroIn K C (.type "BaseException") = some true

def ExcAt (ea : Addr) (cls : Value) (h : Heap) : Prop := ∃ (o : Obj) (vs : Array Value), h.get? ea = some o ∧ o.cls = cls ∧ o.data = .fields vs

section
variable {K : PySem.W.Frag} {prog : Program} {w : World} {A : Around} {E : Value → Shared → Prop} {hh : Heap} {g : Array GenState} {d : Drawn} {t : Nat} {os : OsState} {ea C : Addr} {o : Obj}
end
section
variable {X : Cx}
def rIsiX (K : PySem.W.Frag) : List V → Hp → VK → Prop := fun xs H Q => ∃ ea C c b, xs = [.ref ea, c] ∧ ((∃ n, c = .ty n) ∨ ∃ a, c = .ref a) ∧ H ea = some (ExcO ea (.ref C)) ∧ ExcK K C ∧ ExcC K C ∧ PySem.W.kitOne K (.ref C) (toVal c) = some b ∧ Q (.bl b) H
def rIsiXT (K : PySem.W.Frag) : List V → Hp → VK → Prop := fun xs H Q => ∃ ea C tp cs b, xs = [.ref ea, .ref tp] ∧ H ea = some (ExcO ea (.ref C)) ∧ ExcK K C ∧ ExcC K C ∧ H tp = some (.tup cs) ∧ (∀ c ∈ cs, (∃ n, c = V.ty n) ∨ ∃ a, c = V.ref a) ∧ PySem.W.kitAny K (.ref C) (cs.map toVal) = some b ∧ Q (.bl b) H
end
end L2

set_option Elab.async false
set_option linter.all false
set_option maxRecDepth 100000
namespace L2
open PySem PySem.Spec PyProof.Rows

/-! ### values as data: none, truths, ints, texts, lists and tuples of such -/
mutual
inductive RdD (K : PySem.W.Frag) (H : Hp) : V → PyData → Prop
  | non : RdD K H .non .none
  | bl (b : Bool) : RdD K H (.bl b) (.bool b)
  | int (i : Int) : RdD K H (.int i) (.int i)
  | str (x : Str) : RdD K H (.str x) (.str x)
  | lst {a : Addr} {xs : List V} {ds : List PyData} : SqL K H a xs → RdDs K H xs ds → RdD K H (.ref a) (.list ds)
  | tup {a : Addr} {xs : List V} {ds : List PyData} : SqT K H a xs → RdDs K H xs ds → RdD K H (.ref a) (.tuple ds)
  | cel {a : Addr} {d : PyData} : RdD K H (.ref a) d → RdD K H (.cel a) d
inductive RdDs (K : PySem.W.Frag) (H : Hp) : List V → List PyData → Prop
  | nil : RdDs K H [] []
  | cons {v : V} {vs : List V} {d : PyData} {ds : List PyData} : RdD K H v d → RdDs K H vs ds → RdDs K H (v :: vs) (d :: ds)
end

section
variable {X : Cx} {pins : List (Addr × Obj)} {σ : St} {H : Hp} {s : Shared}
mutual
theorem Inv.reads (I : Inv X pins σ H s) : ∀ {v : V} {d : PyData} {u : Value}, RdD X.K H v d → RelV v u → ∃ as, Reads s.heap u d as
  | _, _, u, .non, r => by cases (show u = Value.none from r); exact ⟨_, .none⟩
  | _, _, u, .bl b, r => by cases (show u = Value.bool b from r); exact ⟨_, .bool b⟩
  | _, _, u, .int i, r => by obtain ⟨t, e⟩ := (show ∃ t, u = Value.int i t from r); cases e; exact ⟨_, .int i t⟩
  | _, _, u, .str x, r => by obtain ⟨t, e⟩ := (show ∃ t, u = Value.str x t from r); cases e; exact ⟨_, .str x t⟩
  | _, _, u, .lst (a := a) h hs, r => by
    cases (show u = Value.ref a from r)
    obtain ⟨its, rv, ⟨o, n, ho, hc, hdi, hd⟩, _⟩ := I.list h
    obtain ⟨as, ra⟩ := I.readsAll hs rv
    exact ⟨_, .list ho hc hd (by simpa using ra)⟩
  | _, _, u, .tup (a := a) h hs, r => by
    cases (show u = Value.ref a from r)
    obtain ⟨its, rv, ⟨o, ho, hc, n, hd⟩, _⟩ := I.tuple h
    obtain ⟨as, ra⟩ := I.readsAll hs rv
    exact ⟨_, .tuple ho hc hd (by simpa using ra)⟩
  | _, _, u, .cel (a := a) h, r => I.reads h (show RelV (.ref a) u from r)
theorem Inv.readsAll (I : Inv X pins σ H s) : ∀ {vs : List V} {ds : List PyData} {us : List Value}, RdDs X.K H vs ds → Vals vs us → ∃ as, ReadsAll s.heap us ds as
  | _, _, _, .nil, r => by cases r; exact ⟨_, .nil⟩
  | _, _, _, .cons h hs, r => by
    cases r with
    | cons r1 r2 =>
      obtain ⟨as, ra⟩ := I.reads h r1
      obtain ⟨bs, rb⟩ := I.readsAll hs r2
      exact ⟨_, .cons ra rb⟩
end
def rEqD (K : PySem.W.Frag) : R2 := fun x y H Q => ∃ d e, RdD K H x d ∧ RdD K H y e ∧ SeqAt.shaped d = true ∧ SeqAt.shaped e = true ∧ Q (.bl (PyData.eqv d e)) H
def rNeD (K : PySem.W.Frag) : R2 := fun x y H Q => ∃ d e, RdD K H x d ∧ RdD K H y e ∧ SeqAt.shaped d = true ∧ SeqAt.shaped e = true ∧ Q (.bl (!PyData.eqv d e)) H
theorem op_eqD (hu : X.A.units + 64 < cLine) : OpR X (compareOp .Eq) (rEqD X.K) := fun pins s σ H x y v u Q I rx ry h => by
  obtain ⟨d, e, h1, h2, s1, s2, q⟩ := h
  obtain ⟨as, r1⟩ := I.reads h1 rx
  obtain ⟨bs, r2⟩ := I.reads h2 ry
  exact eq_dataH r1 r2 s1 s2 hu ⟨.bl _, H, I, rfl, q⟩
theorem op_neD (hu : X.A.units + 64 < cLine) : OpR X (compareOp .NotEq) (rNeD X.K) := fun pins s σ H x y v u Q I rx ry h => by
  obtain ⟨d, e, h1, h2, s1, s2, q⟩ := h
  obtain ⟨as, r1⟩ := I.reads h1 rx
  obtain ⟨bs, r2⟩ := I.reads h2 ry
  exact ne_dataH r1 r2 s1 s2 hu ⟨.bl _, H, I, rfl, q⟩
end
end L2

set_option Elab.async false
set_option linter.all false
set_option maxRecDepth 100000
set_option maxHeartbeats 1000000
/-! the pure layer: code read over plain data; what is shared never changes, what a name owns may -/
namespace L2
open PySem PySem.Spec PyProof.Rows

def keyD : Key → PyData
  | .inl i => .int i
  | .inr x => .str x
def tkD (ks : List Key) : PyData := .tuple (ks.map keyD)

/-! ### dicts: the record itself is known; its keys are ints, texts, or tuples of these -/
abbrev KD := Key ⊕ List Key
def kdD : KD → PyData
  | .inl k => keyD k
  | .inr ks => tkD ks
def kHash (w : World) : KD → Int
  | .inl k => keyH w k
  | .inr ks => reduceHash (Builtin.Tuple.tupleHashOf (ks.map (keyH w)))
abbrev DX := KD × Value × Value
def entX (w : World) (x : DX) : DictEntry := ⟨kHash w x.1, x.2.1, x.2.2⟩
/-- the record of a dict with these keys and values -/
structure DRec (w : World) (o : Obj) (xs : List DX) : Prop where
  ex : o.ExactDict
  es : ∃ es ep, o.data = .dict es ep ∧ es.toList = xs.map (entX w)
  nd : (xs.map (·.1)).Nodup
  sz : xs.length ≤ sizeLine
/-- the object at a is o -/
abbrev PinO (a : Addr) (o : Obj) : HO := .ext fun h => h.get? a = some o
def KeyR (F : Hp) : KD → Value → Prop
  | .inl k, u => RelV (kV k) u
  | .inr ks, u => ∃ b, u = .ref b ∧ F b = some (.tup (ks.map kV))
abbrev dictD (kvs : List (KD × PyData)) : PyData := .dict (kvs.map fun kv => (kdD kv.1, kv.2))
/-- a tuple that is tracked, or one of the module's that begins with an int -/
def SqK (K : PySem.W.Frag) (F : Hp) (a : Addr) (xs : List V) : Prop := F a = some (.tup xs) ∨ ((∃ i r, xs = V.int i :: r) ∧ SqT K (fun _ => Option.none) a xs)
theorem SqK.of {K : PySem.W.Frag} {F : Hp} {a : Addr} {xs : List V} (h : F a = some (.tup xs)) : SqK K F a xs := .inl h

/-- a reference, as data -/
abbrev opD (a : Addr) : PyData := .dict [(.none, .int (a : Nat))]
mutual
inductive Rp (w : World) (K : PySem.W.Frag) (F : Hp) : V → PyData → Prop
  | non : Rp w K F .non .none
  | bl (b : Bool) : Rp w K F (.bl b) (.bool b)
  | int (i : Int) : Rp w K F (.int i) (.int i)
  | str (x : Str) : Rp w K F (.str x) (.str x)
  | lst {a : Addr} {xs : List V} {ds : List PyData} : SqL K F a xs → Rps w K F xs ds → Rp w K F (.ref a) (.list ds)
  | tup {a : Addr} {xs : List V} {ds : List PyData} : SqK K F a xs → Rps w K F xs ds → Rp w K F (.ref a) (.tuple ds)
  | dct {a : Addr} {o : Obj} {xs : List DX} {vs : List V} {kvs : List (KD × PyData)} : F a = some (PinO a o) → (a == sysModules) = false → DRec w o xs → (∀ x ∈ xs, KeyR F x.1 x.2.1) → xs.map (·.1) = kvs.map (·.1) → Vals vs (xs.map (·.2.2)) →
      Rps w K F vs (kvs.map (·.2)) → Rp w K F (.ref a) (.dict (kvs.map fun kv => (kdD kv.1, kv.2)))
  | cel (a : Addr) : Rp w K F (.cel a) (opD a)
inductive Rps (w : World) (K : PySem.W.Frag) (F : Hp) : List V → List PyData → Prop
  | nil : Rps w K F [] []
  | cons {v : V} {vs : List V} {d : PyData} {ds : List PyData} : Rp w K F v d → Rps w K F vs ds → Rps w K F (v :: vs) (d :: ds)
end

theorem opD_ne {a : Addr} {kvs : List (KD × PyData)} (h : dictD kvs = opD a) : False := by
  injection h with h
  match kvs, h with
  | kv :: r, h =>
    rw [List.map_cons] at h
    injection h with h _
    have h1 := congrArg Prod.fst h
    dsimp only at h1
    match kv.1, h1 with
    | .inl (.inl _), h1 => cases h1
    | .inl (.inr _), h1 => cases h1
    | .inr _, h1 => cases h1
section
variable {w : World} {K : PySem.W.Frag} {F F' H H' H₀ F₀ : Hp}
theorem Same.sqt {a : Addr} {xs : List V} (e : Same H H') (h : SqT K H a xs) : SqT K H' a xs := by
  rcases h with (h | ⟨o, h⟩) | h
  · exact .inl (.inl (e _ _ h))
  · exact .inl (.inr ⟨o, e _ _ h⟩)
  · exact .inr h
theorem SqK.sqt {a : Addr} {xs : List V} (h : SqK K F a xs) : SqT K F a xs := by
  rcases h with h | ⟨_, h | h⟩
  · exact .inl (.inl h)
  · rcases h with h | ⟨_, h⟩ <;> cases h
  · exact .inr h
theorem Same.sqk {a : Addr} {xs : List V} (e : Same H H') (h : SqK K H a xs) : SqK K H' a xs := by
  rcases h with h | h
  · exact .inl (e _ _ h)
  · exact .inr h
theorem KeyR.mono (e : Same F F') : ∀ {k : KD} {u : Value}, KeyR F k u → KeyR F' k u
  | .inl _, _, h => h
  | .inr _, _, ⟨b, h1, h2⟩ => ⟨b, h1, e _ _ h2⟩
mutual
theorem Rp.mono (e : Same F F') : ∀ {v : V} {d : PyData}, Rp w K F v d → Rp w K F' v d
  | _, _, .non => .non
  | _, _, .bl b => .bl b
  | _, _, .int i => .int i
  | _, _, .str x => .str x
  | _, _, .lst h hs => .lst (e.seq h) (Rps.mono e hs)
  | _, _, .tup h hs => .tup (e.sqk h) (Rps.mono e hs)
  | _, _, .dct h l r k q z hs => .dct (e _ _ h) l r (fun x hx => (k x hx).mono e) q z (Rps.mono e hs)
  | _, _, .cel a => .cel a
theorem Rps.mono (e : Same F F') : ∀ {vs : List V} {ds : List PyData}, Rps w K F vs ds → Rps w K F' vs ds
  | _, _, .nil => .nil
  | _, _, .cons h hs => .cons (Rp.mono e h) (Rps.mono e hs)
end
theorem Rps.length : ∀ {vs : List V} {ds : List PyData}, Rps w K F vs ds → vs.length = ds.length
  | _, _, .nil => rfl
  | _, _, .cons _ hs => by rw [List.length_cons, List.length_cons, Rps.length hs]
theorem Rps.get : ∀ {vs : List V} {ds : List PyData} {i : Nat} {d : PyData}, Rps w K F vs ds → ds[i]? = some d → ∃ v, vs[i]? = some v ∧ Rp w K F v d
  | _, _, _, _, .nil, e => by simp at e
  | _, _, 0, _, .cons h _, e => by simp at e; subst e; exact ⟨_, rfl, h⟩
  | _, _, i + 1, d, .cons _ hs, e => by
    obtain ⟨v, h1, h2⟩ := Rps.get (i := i) (d := d) hs (by simpa using e)
    exact ⟨v, by simpa using h1, h2⟩
theorem Rps.getV : ∀ {vs : List V} {ds : List PyData} {i : Nat} {v : V}, Rps w K F vs ds → vs[i]? = some v → ∃ d, ds[i]? = some d ∧ Rp w K F v d
  | _, _, _, _, .nil, e => by simp at e
  | _, _, 0, _, .cons h _, e => by simp at e; subst e; exact ⟨_, rfl, h⟩
  | _, _, i + 1, v, .cons _ hs, e => by
    obtain ⟨d, h1, h2⟩ := Rps.getV (i := i) (v := v) hs (by simpa using e)
    exact ⟨d, by simpa using h1, h2⟩
theorem Rps.append : ∀ {vs ws : List V} {ds es : List PyData}, Rps w K F vs ds → Rps w K F ws es → Rps w K F (vs ++ ws) (ds ++ es)
  | _, _, _, _, .nil, s => s
  | _, _, _, _, .cons r t, s => .cons r (Rps.append t s)
theorem Rps.take : ∀ {vs : List V} {ds : List PyData} (n : Nat), Rps w K F vs ds → Rps w K F (vs.take n) (ds.take n)
  | _, _, 0, _ => .nil
  | _, _, _ + 1, .nil => .nil
  | _, _, n + 1, .cons r t => .cons r (Rps.take n t)
theorem Rps.drop : ∀ {vs : List V} {ds : List PyData} (n : Nat), Rps w K F vs ds → Rps w K F (vs.drop n) (ds.drop n)
  | _, _, 0, r => r
  | _, _, _ + 1, .nil => .nil
  | _, _, n + 1, .cons _ t => Rps.drop n t
theorem Rps.set {v : V} {d : PyData} (r : Rp w K F v d) : ∀ {vs : List V} {ds : List PyData} (i : Nat), Rps w K F vs ds → Rps w K F (vs.set i v) (ds.set i d)
  | _, _, _, .nil => .nil
  | _, _, 0, .cons _ t => .cons r t
  | _, _, i + 1, .cons q t => .cons q (Rps.set r i t)
theorem Rps.reverse : ∀ {vs : List V} {ds : List PyData}, Rps w K F vs ds → Rps w K F vs.reverse ds.reverse
  | _, _, .nil => .nil
  | _, _, .cons r t => by rw [List.reverse_cons, List.reverse_cons]; exact (Rps.reverse t).append (.cons r .nil)

/-! ### growth -/
structure Gr (F H F' H' : Hp) : Prop where
  le : Same F' H'
  hh : Same H H'
  ff : Same F F'
  nw : ∀ b, F' b ≠ Option.none → F b ≠ Option.none ∨ H b = Option.none
theorem Gr.refl (h : Same F H) : Gr F H F H := ⟨h, Same.refl _, Same.refl _, fun _ z => .inl z⟩
theorem same_upd {p : Addr} {o : HO} (h : H p = Option.none) : Same H (upd H p o) := fun b u q => by rw [upd_ne (ne_of_none q h)]; exact q
theorem same_upd2 {p : Addr} {o : HO} (h : Same F H) : Same (upd F p o) (upd H p o) := fun b u q => by
  by_cases e : b = p
  · subst e; rw [upd_same] at q ⊢; exact q
  · rw [upd_ne e] at q ⊢; exact h b u q
/-- a new thing that is shared from the first -/
theorem Gr.new {p : Addr} {o : HO} (h : Same F H) (hp : H p = Option.none) : Gr F H (upd F p o) (upd H p o) :=
  ⟨same_upd2 h, same_upd hp, same_upd (h.free hp), fun b z => by
    by_cases e : b = p
    · subst e; exact .inr hp
    · rw [upd_ne e] at z; exact .inl z⟩
/-- a new thing that is owned -/
theorem Gr.newO {p : Addr} {o : HO} (h : Same F H) (hp : H p = Option.none) : Gr F H F (upd H p o) :=
  ⟨h.trans (same_upd hp), same_upd hp, Same.refl _, fun _ z => .inl z⟩
theorem Gr.trans {F1 H1 F2 H2 : Hp} (a : Gr F H F1 H1) (b : Gr F1 H1 F2 H2) : Gr F H F2 H2 :=
  ⟨b.le, a.hh.trans b.hh, a.ff.trans b.ff, fun c z => by
    rcases b.nw c z with q | q
    · exact a.nw c q
    · exact .inr (a.hh.free q)⟩

/-! ### what a name owns -/
inductive MV where
  | lst (ds : List PyData)
  | dct (kvs : List (KD × PyData))
def frz : MV → PyData
  | .lst ds => .list ds
  | .dct kvs => dictD kvs
def Ow (w : World) (K : PySem.W.Frag) (F H : Hp) (a : Addr) : MV → Prop
  | .lst ds => ∃ vs, H a = some (.lst vs) ∧ Rps w K F vs ds
  | .dct kvs => ∃ o xs vs, H a = some (PinO a o) ∧ (a == sysModules) = false ∧ DRec w o xs ∧ (∀ x ∈ xs, KeyR F x.1 x.2.1) ∧ xs.map (·.1) = kvs.map (·.1) ∧ Vals vs (xs.map (·.2.2)) ∧ Rps w K F vs (kvs.map (·.2))
theorem Ow.ofL {a : Addr} {vs : List V} {ds : List PyData} (h : H a = some (.lst vs)) (r : Rps w K F vs ds) : Ow w K F H a (.lst ds) := ⟨vs, h, r⟩
theorem Ow.there {a : Addr} {m : MV} (h : Ow w K F H a m) : ∃ o, H a = some o := by
  cases m with
  | lst ds => obtain ⟨vs, e, _⟩ := h; exact ⟨_, e⟩
  | dct kvs => obtain ⟨o, xs, vs, e, _⟩ := h; exact ⟨_, e⟩
theorem Ow.grow {a : Addr} {m : MV} (h : Ow w K F H a m) (f : Same F F') (g : Same H H') : Ow w K F' H' a m := by
  cases m with
  | lst ds => obtain ⟨vs, e, r⟩ := h; exact ⟨vs, g _ _ e, r.mono f⟩
  | dct kvs => obtain ⟨o, xs, vs, e, y, q, k, z, u, r⟩ := h; exact ⟨o, xs, vs, g _ _ e, y, q, fun x hx => (k x hx).mono f, z, u, r.mono f⟩
/-- another owned thing has changed -/
theorem Ow.elsewhere {a b : Addr} {o : HO} {m : MV} (h : Ow w K F H a m) (ne : a ≠ b) : Ow w K F (upd H b o) a m := by
  cases m with
  | lst ds => obtain ⟨vs, e, r⟩ := h; exact ⟨vs, by rw [upd_ne ne]; exact e, r⟩
  | dct kvs => obtain ⟨o, xs, vs, e, r⟩ := h; exact ⟨o, xs, vs, by rw [upd_ne ne]; exact e, r⟩
theorem Ow.frz {a : Addr} {m : MV} {o : HO} (h : Ow w K F H a m) (ha : H a = some o) (hf : F a = Option.none) : Rp w K (upd F a o) (.ref a) (frz m) := by
  cases m with
  | lst ds =>
    obtain ⟨vs, e, r⟩ := h
    rw [e] at ha; cases ha
    exact .lst (SqL.of upd_same) (r.mono (same_upd hf))
  | dct kvs =>
    obtain ⟨o, xs, vs, e, y, q, k, z, u, r⟩ := h
    rw [e] at ha; cases ha
    exact .dct upd_same y q (fun x hx => (k x hx).mono (same_upd hf)) z u (r.mono (same_upd hf))

inductive Sl where
  | unk | val (d : PyData) | own (m : MV) | exc (C : Addr) | cel (os : List (Addr × MV))
abbrev Ev := List Sl
/-- the base: what stands of the entry -/
structure RB (H₀ F₀ F H : Hp) : Prop where
  le : Same F H
  k0 : Same H₀ H
  f0 : Same F₀ F
  nw : ∀ b, F b ≠ Option.none → F₀ b ≠ Option.none ∨ H₀ b = Option.none
structure RS (w : World) (K : PySem.W.Frag) (H₀ F₀ F : Hp) (ev : Ev) (σ : St) (H : Hp) : Prop extends RB H₀ F₀ F H where
  len : ev.length = σ.length
  val : ∀ (i : Nat) (d : PyData), ev[i]? = some (.val d) → ∃ v, σ[i]? = some (some v) ∧ Rp w K F v d
  own : ∀ (i : Nat) (m : MV), ev[i]? = some (.own m) → ∃ a, σ[i]? = some (some (.ref a)) ∧ Ow w K F H a m ∧ F a = Option.none ∧ H₀ a = Option.none
  uni : ∀ (i j : Nat) (m m' : MV) (a : Addr), ev[i]? = some (.own m) → ev[j]? = some (.own m') → σ[i]? = some (some (.ref a)) → σ[j]? = some (some (.ref a)) → i = j
  exc : ∀ (i : Nat) (C : Addr), ev[i]? = some (.exc C) → ∃ ea, σ[i]? = some (some (.ref ea)) ∧ F ea = some (ExcO ea (.ref C))
  cel : ∀ (i : Nat) (os : List (Addr × MV)), ev[i]? = some (.cel os) → (os.map (·.1)).Nodup ∧ ∀ (a : Addr) (m : MV), (a, m) ∈ os → Ow w K F H a m ∧ F a = Option.none ∧ H₀ a = Option.none ∧ ∀ (j : Nat) (m' : MV), ev[j]? = some (.own m') → σ[j]? ≠ some (some (.ref a))
  uniC : ∀ (i j : Nat) (os os' : List (Addr × MV)), ev[i]? = some (.cel os) → ev[j]? = some (.cel os') → i = j
/-- no name owns it, and it is no cell -/
structure NB (ev : Ev) (σ : St) (a : Addr) : Prop where
  own : ∀ (j : Nat) (m' : MV), ev[j]? = some (.own m') → σ[j]? ≠ some (some (.ref a))
  cel : ∀ (j : Nat) (os : List (Addr × MV)), ev[j]? = some (.cel os) → ∀ m, (a, m) ∉ os
end
section
variable {w : World} {K : PySem.W.Frag} {F F' H H' H₀ F₀ : Hp} {ev : Ev} {σ : St}
theorem RB.grow (R : RB H₀ F₀ F H) (g : Gr F H F' H') : RB H₀ F₀ F' H' :=
  ⟨g.le, R.k0.trans g.hh, R.f0.trans g.ff, fun b z => by
    rcases g.nw b z with q | q
    · exact R.nw b q
    · exact .inr (R.k0.free q)⟩
theorem RS.grow (R : RS w K H₀ F₀ F ev σ H) (g : Gr F H F' H') : RS w K H₀ F₀ F' ev σ H' where
  toRB := R.toRB.grow g
  len := R.len
  val := fun i d e => by
    obtain ⟨v, h1, h2⟩ := R.val i d e
    exact ⟨v, h1, h2.mono g.ff⟩
  own := fun i m e => by
    obtain ⟨a, h1, h2, h3, h4⟩ := R.own i m e
    refine ⟨a, h1, h2.grow g.ff g.hh, ?_, h4⟩
    cases q : F' a with
    | none => rfl
    | some o =>
      obtain ⟨u, hu⟩ := h2.there
      rcases g.nw a (by rw [q]; intro z; cases z) with z | z
      · exact absurd h3 z
      · rw [hu] at z; cases z
  uni := R.uni
  exc := fun i C e => by
    obtain ⟨ea, h1, h2⟩ := R.exc i C e
    exact ⟨ea, h1, g.ff _ _ h2⟩
  cel := fun i os e => by
    obtain ⟨nd, k⟩ := R.cel i os e
    refine ⟨nd, fun a m hm => ?_⟩
    obtain ⟨h2, h3, h4, h5⟩ := k a m hm
    refine ⟨h2.grow g.ff g.hh, ?_, h4, h5⟩
    cases q : F' a with
    | none => rfl
    | some o =>
      obtain ⟨u, hu⟩ := h2.there
      rcases g.nw a (by rw [q]; intro z; cases z) with z | z
      · exact absurd h3 z
      · rw [hu] at z; cases z
  uniC := R.uniC
/-- from here on counted anew -/
theorem RS.rebase (R : RS w K H₀ F₀ F ev σ H) : RS w K H₀ F F ev σ H :=
  ⟨⟨R.le, R.k0, Same.refl _, fun _ z => .inl z⟩, R.len, R.val, R.own, R.uni, R.exc, R.cel, R.uniC⟩
theorem RB.unbase {F1 H1 : Hp} (R : RB H₀ F₀ F H) (R' : RB H₀ F F1 H1) : RB H₀ F₀ F1 H1 :=
  ⟨R'.le, R'.k0, R.f0.trans R'.f0, fun b z => by
    rcases R'.nw b z with q | q
    · exact R.nw b q
    · exact .inr q⟩
theorem RS.unbase {F1 H1 : Hp} {ev1 : Ev} {σ1 : St} (R : RB H₀ F₀ F H) (R' : RS w K H₀ F F1 ev1 σ1 H1) : RS w K H₀ F₀ F1 ev1 σ1 H1 :=
  ⟨R.unbase R'.toRB, R'.len, R'.val, R'.own, R'.uni, R'.exc, R'.cel, R'.uniC⟩
theorem get_set {α : Type} {l : List α} {i j : Nat} {x y : α} (h : (l.set i x)[j]? = some y) : (j = i ∧ x = y ∧ i < l.length) ∨ (j ≠ i ∧ l[j]? = some y) := by
  by_cases e : i = j
  · subst e
    rw [List.getElem?_set_self'] at h
    cases q : l[i]? with
    | none => rw [q] at h; cases h
    | some z =>
      rw [q] at h
      exact .inl ⟨rfl, Option.some.inj h, (List.getElem?_eq_some_iff.mp q).1⟩
  · rw [List.getElem?_set_ne e] at h
    exact .inr ⟨fun z => e z.symm, h⟩
theorem set_get {α : Type} {l : List α} {i : Nat} {x : α} (h : i < l.length) : (l.set i x)[i]? = some x := by
  rw [List.getElem?_set_self h]
/-- a name is bound to a shared value -/
theorem RS.setV (R : RS w K H₀ F₀ F ev σ H) {v : V} {d : PyData} (r : Rp w K F v d) (i : Nat) : RS w K H₀ F₀ F (ev.set i (.val d)) (σ.set i (some v)) H where
  toRB := R.toRB
  len := by rw [List.length_set, List.length_set]; exact R.len
  val := fun j d' e => by
    rcases get_set e with ⟨rfl, h1, h2⟩ | ⟨h1, h2⟩
    · cases h1
      exact ⟨v, set_get (by rw [← R.len]; exact h2), r⟩
    · obtain ⟨u, q1, q2⟩ := R.val j d' h2
      exact ⟨u, by rw [List.getElem?_set_ne (fun z => h1 z.symm)]; exact q1, q2⟩
  own := fun j m e => by
    rcases get_set e with ⟨rfl, h1, h2⟩ | ⟨h1, h2⟩
    · cases h1
    · obtain ⟨a, q1, q2⟩ := R.own j m h2
      exact ⟨a, by rw [List.getElem?_set_ne (fun z => h1 z.symm)]; exact q1, q2⟩
  uni := fun j k m m' a e1 e2 e3 e4 => by
    rcases get_set e1 with ⟨rfl, h1, _⟩ | ⟨h1, h2⟩
    · cases h1
    rcases get_set e2 with ⟨rfl, h3, _⟩ | ⟨h3, h4⟩
    · cases h3
    rw [List.getElem?_set_ne (fun z => h1 z.symm)] at e3
    rw [List.getElem?_set_ne (fun z => h3 z.symm)] at e4
    exact R.uni j k m m' a h2 h4 e3 e4
  exc := fun j C e => by
    rcases get_set e with ⟨rfl, h1, h2⟩ | ⟨h1, h2⟩
    · cases h1
    · obtain ⟨ea, q1, q2⟩ := R.exc j C h2
      exact ⟨ea, by rw [List.getElem?_set_ne (fun z => h1 z.symm)]; exact q1, q2⟩
  cel := fun j os e => by
    rcases get_set e with ⟨rfl, h1, h2⟩ | ⟨h1, h2⟩
    · cases h1
    obtain ⟨nd, k⟩ := R.cel j os h2
    refine ⟨nd, fun a m hm => ?_⟩
    obtain ⟨q2, q3, q4, q5⟩ := k a m hm
    refine ⟨q2, q3, q4, fun n m' e' => ?_⟩
    rcases get_set e' with ⟨rfl, z1, z2⟩ | ⟨z1, z2⟩
    · cases z1
    · rw [List.getElem?_set_ne (fun z => z1 z.symm)]; exact q5 n m' z2
  uniC := fun j k os os' e1 e2 => by
    rcases get_set e1 with ⟨rfl, h1, _⟩ | ⟨h1, h2⟩
    · cases h1
    rcases get_set e2 with ⟨rfl, h3, _⟩ | ⟨h3, h4⟩
    · cases h3
    exact R.uniC j k os os' h2 h4
/-- a name is bound to a thing that nothing else holds -/
theorem RS.setO (R : RS w K H₀ F₀ F ev σ H) {a : Addr} {m : MV} (r : Ow w K F H a m) (hf : F a = Option.none) (h0 : H₀ a = Option.none) (hu : NB ev σ a) (i : Nat) :
    RS w K H₀ F₀ F (ev.set i (.own m)) (σ.set i (some (.ref a))) H where
  toRB := R.toRB
  len := by rw [List.length_set, List.length_set]; exact R.len
  val := fun j d' e => by
    rcases get_set e with ⟨rfl, h1, h2⟩ | ⟨h1, h2⟩
    · cases h1
    · obtain ⟨u, q1, q2⟩ := R.val j d' h2
      exact ⟨u, by rw [List.getElem?_set_ne (fun z => h1 z.symm)]; exact q1, q2⟩
  own := fun j m' e => by
    rcases get_set e with ⟨rfl, h1, h2⟩ | ⟨h1, h2⟩
    · cases h1
      exact ⟨a, set_get (by rw [← R.len]; exact h2), r, hf, h0⟩
    · obtain ⟨a', q1, q2⟩ := R.own j m' h2
      exact ⟨a', by rw [List.getElem?_set_ne (fun z => h1 z.symm)]; exact q1, q2⟩
  uni := fun j k m1 m2 b e1 e2 e3 e4 => by
    rcases get_set e1 with ⟨rfl, _, l1⟩ | ⟨h1, h2⟩
    · rcases get_set e2 with ⟨rfl, _, _⟩ | ⟨h3, h4⟩
      · rfl
      · rw [set_get (by rw [← R.len]; exact l1)] at e3
        cases e3
        rw [List.getElem?_set_ne (fun z => h3 z.symm)] at e4
        exact absurd e4 (hu.own k _ h4)
    · rw [List.getElem?_set_ne (fun z => h1 z.symm)] at e3
      rcases get_set e2 with ⟨rfl, _, l1⟩ | ⟨h3, h4⟩
      · rw [set_get (by rw [← R.len]; exact l1)] at e4
        cases e4
        exact absurd e3 (hu.own j _ h2)
      · rw [List.getElem?_set_ne (fun z => h3 z.symm)] at e4
        exact R.uni j k m1 m2 b h2 h4 e3 e4
  exc := fun j C e => by
    rcases get_set e with ⟨rfl, h1, h2⟩ | ⟨h1, h2⟩
    · cases h1
    · obtain ⟨ea, q1, q2⟩ := R.exc j C h2
      exact ⟨ea, by rw [List.getElem?_set_ne (fun z => h1 z.symm)]; exact q1, q2⟩
  cel := fun j os e => by
    rcases get_set e with ⟨rfl, h1, h2⟩ | ⟨h1, h2⟩
    · cases h1
    obtain ⟨nd, k⟩ := R.cel j os h2
    refine ⟨nd, fun b m1 hm => ?_⟩
    obtain ⟨q2, q3, q4, q5⟩ := k b m1 hm
    refine ⟨q2, q3, q4, fun n m' e' => ?_⟩
    rcases get_set e' with ⟨rfl, z1, z2⟩ | ⟨z1, z2⟩
    · rw [set_get (by rw [← R.len]; exact z2)]
      intro z
      cases z
      exact hu.cel j os h2 m1 hm
    · rw [List.getElem?_set_ne (fun z => z1 z.symm)]; exact q5 n m' z2
  uniC := fun j k os os' e1 e2 => by
    rcases get_set e1 with ⟨rfl, h1, _⟩ | ⟨h1, h2⟩
    · cases h1
    rcases get_set e2 with ⟨rfl, h3, _⟩ | ⟨h3, h4⟩
    · cases h3
    exact R.uniC j k os os' h2 h4
/-- what a name owns has changed -/
theorem RS.change (R : RS w K H₀ F₀ F ev σ H) {a : Addr} {i : Nat} {m m' : MV} {o : HO} (hi : ev[i]? = some (.own m)) (hs : σ[i]? = some (some (.ref a))) (r : Ow w K F (upd H a o) a m') : RS w K H₀ F₀ F (ev.set i (.own m')) σ (upd H a o) := by
  obtain ⟨a', q1, q2, hf, h0⟩ := R.own i m hi
  rw [hs] at q1; cases q1
  have hl : i < ev.length := (List.getElem?_eq_some_iff.mp hi).1
  refine ⟨⟨fun b u q => ?_, fun b u q => ?_, R.f0, R.nw⟩, by rw [List.length_set]; exact R.len, fun j d' e => ?_, fun j m1 e => ?_, fun j k m1 m2 b e1 e2 e3 e4 => ?_, fun j C e => ?_, fun j os e => ?_, fun j k os os' e1 e2 => ?_⟩
  · rw [upd_ne (ne_of_none q hf)]; exact R.le b u q
  · rw [upd_ne (ne_of_none q h0)]; exact R.k0 b u q
  · rcases get_set e with ⟨rfl, h1, h2⟩ | ⟨h1, h2⟩
    · cases h1
    · exact R.val j d' h2
  · rcases get_set e with ⟨rfl, h1, h2⟩ | ⟨h1, h2⟩
    · cases h1
      exact ⟨a, hs, r, hf, h0⟩
    · obtain ⟨b, q3, q4, q5, q6⟩ := R.own j m1 h2
      refine ⟨b, q3, q4.elsewhere ?_, q5, q6⟩
      rintro rfl
      exact h1 (R.uni j i _ _ _ h2 hi q3 hs)
  · have back : ∀ (n : Nat) (mm : MV), (ev.set i (.own m'))[n]? = some (.own mm) → ∃ mm', ev[n]? = some (.own mm') := fun n mm z => by
      rcases get_set z with ⟨rfl, _, _⟩ | ⟨_, h⟩
      · exact ⟨m, hi⟩
      · exact ⟨mm, h⟩
    obtain ⟨x1, y1⟩ := back j m1 e1
    obtain ⟨x2, y2⟩ := back k m2 e2
    exact R.uni j k x1 x2 b y1 y2 e3 e4
  · rcases get_set e with ⟨rfl, h1, h2⟩ | ⟨h1, h2⟩
    · cases h1
    · exact R.exc j C h2
  · rcases get_set e with ⟨rfl, h1, h2⟩ | ⟨h1, h2⟩
    · cases h1
    obtain ⟨nd, k⟩ := R.cel j os h2
    refine ⟨nd, fun b m1 hm => ?_⟩
    obtain ⟨q2, q3, q4, q5⟩ := k b m1 hm
    refine ⟨q2.elsewhere fun z => q5 i m hi (by rw [z]; exact hs), q3, q4, fun n m' e' => ?_⟩
    rcases get_set e' with ⟨rfl, z1, z2⟩ | ⟨z1, z2⟩
    · exact q5 _ m hi
    · exact q5 n m' z2
  · rcases get_set e1 with ⟨rfl, h1, _⟩ | ⟨h1, h2⟩
    · cases h1
    rcases get_set e2 with ⟨rfl, h3, _⟩ | ⟨h3, h4⟩
    · cases h3
    exact R.uniC j k os os' h2 h4
/-- what a name owns is shared from here on -/
theorem RS.freeze (R : RS w K H₀ F₀ F ev σ H) {a : Addr} {i : Nat} {m : MV} {o : HO} (hi : ev[i]? = some (.own m)) (hs : σ[i]? = some (some (.ref a))) (ho : H a = some o) :
    RS w K H₀ F₀ (upd F a o) (ev.set i (.val (frz m))) σ H ∧ Rp w K (upd F a o) (.ref a) (frz m) ∧ Same F (upd F a o) := by
  obtain ⟨a', q1, q2, hf, h0⟩ := R.own i m hi
  rw [hs] at q1; cases q1
  have hl : i < ev.length := (List.getElem?_eq_some_iff.mp hi).1
  have sm : Same F (upd F a o) := same_upd hf
  have rp := q2.frz ho hf
  refine ⟨⟨⟨fun b u q => ?_, R.k0, R.f0.trans sm, fun b z => ?_⟩, by rw [List.length_set]; exact R.len, fun j d' e => ?_, fun j m1 e => ?_, fun j k m1 m2 b e1 e2 e3 e4 => ?_, fun j C e => ?_, fun j os e => ?_, fun j k os os' e1 e2 => ?_⟩, rp, sm⟩
  · by_cases e : b = a
    · subst e; rw [upd_same] at q; rw [ho]; exact q
    · rw [upd_ne e] at q; exact R.le b u q
  · by_cases e : b = a
    · subst e; exact .inr h0
    · rw [upd_ne e] at z; exact R.nw b z
  · rcases get_set e with ⟨rfl, h1, h2⟩ | ⟨h1, h2⟩
    · cases h1
      exact ⟨_, hs, rp⟩
    · obtain ⟨v, z1, z2⟩ := R.val j d' h2
      exact ⟨v, z1, z2.mono sm⟩
  · rcases get_set e with ⟨rfl, h1, h2⟩ | ⟨h1, h2⟩
    · cases h1
    · obtain ⟨b, q3, q4, q5, q6⟩ := R.own j m1 h2
      have ne : b ≠ a := by
        rintro rfl
        exact h1 (R.uni j i _ _ _ h2 hi q3 hs)
      exact ⟨b, q3, q4.grow sm (Same.refl _), by rw [upd_ne ne]; exact q5, q6⟩
  · rcases get_set e1 with ⟨rfl, h1, _⟩ | ⟨h1, h2⟩
    · cases h1
    rcases get_set e2 with ⟨rfl, h3, _⟩ | ⟨h3, h4⟩
    · cases h3
    exact R.uni j k m1 m2 b h2 h4 e3 e4
  · rcases get_set e with ⟨rfl, h1, h2⟩ | ⟨h1, h2⟩
    · cases h1
    · obtain ⟨ea, z1, z2⟩ := R.exc j C h2
      exact ⟨ea, z1, sm _ _ z2⟩
  · rcases get_set e with ⟨rfl, h1, h2⟩ | ⟨h1, h2⟩
    · cases h1
    obtain ⟨nd, k⟩ := R.cel j os h2
    refine ⟨nd, fun b m1 hm => ?_⟩
    obtain ⟨q2, q3, q4, q5⟩ := k b m1 hm
    have ne : b ≠ a := fun z => q5 i m hi (by rw [z]; exact hs)
    refine ⟨q2.grow sm (Same.refl _), by rw [upd_ne ne]; exact q3, q4, fun n m' e' => ?_⟩
    rcases get_set e' with ⟨rfl, z1, z2⟩ | ⟨z1, z2⟩
    · cases z1
    · exact q5 n m' z2
  · rcases get_set e1 with ⟨rfl, h1, _⟩ | ⟨h1, h2⟩
    · cases h1
    rcases get_set e2 with ⟨rfl, h3, _⟩ | ⟨h3, h4⟩
    · cases h3
    exact R.uniC j k os os' h2 h4
/-- a new thing that no name holds yet: it is nobody's own -/
theorem RS.nobody (R : RS w K H₀ F₀ F ev σ H) {p : Addr} (hp : H p = Option.none) : NB ev σ p where
  own := fun j m' e z => by
    obtain ⟨a, q1, q2, _, _⟩ := R.own j m' e
    rw [z] at q1; cases q1
    obtain ⟨o, ho⟩ := q2.there
    rw [hp] at ho; cases ho
  cel := fun j os e m hm => by
    obtain ⟨o, ho⟩ := ((R.cel j os e).2 p m hm).1.there
    rw [hp] at ho; cases ho
end

/-! ### judgements -/
abbrev TauE := Ev → (PyData → Ev → Prop) → Prop
abbrev TauA := Ev → (List PyData → Ev → Prop) → Prop
abbrev TauT := Ev → (Bool → Ev → Prop) → Prop
abbrev TauO := Ev → (MV → Ev → Prop) → Prop
def QE (X : Cx) (e : Expr) (τ : TauE) : Prop := ∃ t : TE, PE X e t ∧ ∀ (F₀ : Hp) (ev : Ev) (F : Hp) (σ : St) (H : Hp) (Q : VK) (C : PyData → Ev → Prop), RS X.w X.K X.H₀ F₀ F ev σ H → τ ev C →
  (∀ d ev' F' v H', RS X.w X.K X.H₀ F₀ F' ev' σ H' → Rp X.w X.K F' v d → Same F F' → C d ev' → Q v H') → t σ H Q
def QA (X : Cx) (es : List Expr) (τ : TauA) : Prop := ∃ t : TA, PA X es t ∧ ∀ (F₀ : Hp) (ev : Ev) (F : Hp) (σ : St) (H : Hp) (Q : List V → Hp → Prop) (C : List PyData → Ev → Prop), RS X.w X.K X.H₀ F₀ F ev σ H → τ ev C →
  (∀ d ev' F' v H', RS X.w X.K X.H₀ F₀ F' ev' σ H' → Rps X.w X.K F' v d → Same F F' → C d ev' → Q v H') → t σ H Q
def QT (X : Cx) (e : Expr) (τ : TauT) : Prop := ∃ t : TT, PT X e t ∧ ∀ (F₀ : Hp) (ev : Ev) (F : Hp) (σ : St) (H : Hp) (Q : Bool → Hp → Prop) (C : Bool → Ev → Prop), RS X.w X.K X.H₀ F₀ F ev σ H → τ ev C →
  (∀ b ev' F' H', RS X.w X.K X.H₀ F₀ F' ev' σ H' → Same F F' → C b ev' → Q b H') → t σ H Q
def QW (X : Cx) (e : Expr) (τ : TauT) : Prop := ∃ t : TT, PW X e t ∧ ∀ (F₀ : Hp) (ev : Ev) (F : Hp) (σ : St) (H : Hp) (Q : Bool → Hp → Prop) (C : Bool → Ev → Prop), RS X.w X.K X.H₀ F₀ F ev σ H → τ ev C →
  (∀ b ev' F' H', RS X.w X.K X.H₀ F₀ F' ev' σ H' → Same F F' → C b ev' → Q b H') → t σ H Q
/-- an expression whose value nothing else holds -/
def QO (X : Cx) (e : Expr) (τ : TauO) : Prop := ∃ t : TE, PE X e t ∧ ∀ (F₀ : Hp) (ev : Ev) (F : Hp) (σ : St) (H : Hp) (Q : VK) (C : MV → Ev → Prop), RS X.w X.K X.H₀ F₀ F ev σ H → τ ev C →
  (∀ m ev' F' a H', RS X.w X.K X.H₀ F₀ F' ev' σ H' → Ow X.w X.K F' H' a m → F' a = Option.none → X.H₀ a = Option.none → NB ev' σ a → Same F F' → C m ev' → Q (.ref a) H') → t σ H Q

/-- what comes back -/
inductive Rz where
  | val (d : PyData) | own (m : MV) | valc (d : PyData) (os : List (Addr × MV)) | ownc (m : MV) (os : List (Addr × MV))
/-- new cells -/
def CelN (w : World) (K : PySem.W.Frag) (F H₀ H : Hp) (os : List (Addr × MV)) : Prop := (os.map (·.1)).Nodup ∧ ∀ (a : Addr) (m : MV), (a, m) ∈ os → Ow w K F H a m ∧ F a = Option.none ∧ H₀ a = Option.none
def RR (w : World) (K : PySem.W.Frag) (F H₀ H : Hp) (v : V) : Rz → Prop
  | .val d => Rp w K F v d
  | .own m => ∃ a, v = .ref a ∧ Ow w K F H a m ∧ F a = Option.none ∧ H₀ a = Option.none
  | .valc d os => Rp w K F v d ∧ CelN w K F H₀ H os
  | .ownc m os => ∃ a, v = .ref a ∧ Ow w K F H a m ∧ F a = Option.none ∧ H₀ a = Option.none ∧ CelN w K F H₀ H os ∧ ∀ m', (a, m') ∉ os
structure PEn where
  nx : Ev → Prop
  rt : Rz → Prop
  bk : Ev → Prop := fun _ => False
  ct : Ev → Prop := fun _ => False
structure EndOk (w : World) (K : PySem.W.Frag) (H₀ F₀ : Hp) (D : Ends) (P : PEn) : Prop where
  nx : ∀ ev F σ H, RS w K H₀ F₀ F ev σ H → P.nx ev → D.nx σ H
  rt : ∀ r F v H, RB H₀ F₀ F H → RR w K F H₀ H v r → P.rt r → D.rt v H
  bk : ∀ ev F σ H, RS w K H₀ F₀ F ev σ H → P.bk ev → D.bk σ H
  ct : ∀ ev F σ H, RS w K H₀ F₀ F ev σ H → P.ct ev → D.ct σ H
abbrev TauS := PEn → Ev → Prop
def QS (X : Cx) (st : Stmt) (τ : TauS) : Prop := ∃ t : TS, PS X st t ∧ ∀ (F₀ : Hp) (D : Ends) (P : PEn) (ev : Ev) (F : Hp) (σ : St) (H : Hp), EndOk X.w X.K X.H₀ F₀ D P → RS X.w X.K X.H₀ F₀ F ev σ H → τ P ev → t D σ H
def QSs (X : Cx) (st : List Stmt) (τ : TauS) : Prop := ∃ t : TS, PSs X st t ∧ ∀ (F₀ : Hp) (D : Ends) (P : PEn) (ev : Ev) (F : Hp) (σ : St) (H : Hp), EndOk X.w X.K X.H₀ F₀ D P → RS X.w X.K X.H₀ F₀ F ev σ H → τ P ev → t D σ H
end L2

set_option Elab.async false
set_option linter.all false
set_option maxRecDepth 100000
set_option maxHeartbeats 1000000
/-! dicts whose keys are ints, texts, and tuples of these, mixed -/
namespace L2
open PySem PySem.Spec PyProof.Rows
section
variable {P : Program} {w : World} {A : Around} {E : Value → Shared → Prop} {s : Shared}
/-- u is the key k -/
def kIs (P : Program) (w : World) (h : Heap) : KD → Value → Prop
  | .inl k, u => keyIs k u = true
  | .inr ks, u => ∃ b, u = .ref b ∧ IsTupleKey (mixKind P w) h ks b
def kDraws : KD → Nat
  | .inl _ => 1
  | .inr ks => ks.length + 1
theorem kIs.inj {h : Heap} {u : Value} : ∀ {x y : KD}, kIs P w h x u → kIs P w h y u → x = y
  | .inl a, .inl b, p, q => congrArg Sum.inl ((mixKind P w).inj u a b p q)
  | .inr a, .inr b, ⟨c, e, p⟩, ⟨c', e', q⟩ => by
    subst e
    cases e'
    exact congrArg Sum.inr (p.inj q)
  | .inl a, .inr b, p, ⟨c, e, q⟩ => by
    subst e
    rcases keyIs_shape p with ⟨_, _, _, z⟩ | ⟨_, _, _, z⟩ <;> cases z
  | .inr b, .inl a, ⟨c, e, q⟩, p => by
    subst e
    rcases keyIs_shape p with ⟨_, _, _, z⟩ | ⟨_, _, _, z⟩ <;> cases z
theorem kIs.hash {k : KD} {u : Value} {Q : Int → Shared → Prop} (hr : A.units < cLine) (hk : kIs P w s.heap k u) (q : Q (kHash w k) { s with toks := s.toks + kDraws k }) : wpAny (model P w) A (pyHash u) Q E s := by
  cases k with
  | inl k => exact (mixKind P w).pyHash (k := k) hk q
  | inr ks =>
    obtain ⟨b, rfl, hb⟩ := hk
    exact wpAny_pyHash_tuple hr hb q
theorem dec_inl (a b : Key) : decide ((Sum.inl a : KD) = Sum.inl b) = decide (a = b) := decide_eq_decide.mpr ⟨Sum.inl.inj, congrArg _⟩
theorem dec_inr (a b : List Key) : decide ((Sum.inr a : KD) = Sum.inr b) = decide (a = b) := decide_eq_decide.mpr ⟨Sum.inr.inj, congrArg _⟩
theorem tupOf {h : Heap} {ks : List Key} {b : Addr} (t : IsTupleKey (mixKind P w) h ks b) : ∃ its, h.IsTuple b its := by
  obtain ⟨o, its, n, e1, e2, e3, _⟩ := t
  exact ⟨its, o, e1, e2, n, e3⟩
theorem kIs.eq {x y : KD} {u v : Value} {Q : Bool → Shared → Prop} (hr : A.units < cLine) (hx : kIs P w s.heap x u) (hy : kIs P w s.heap y v) (q : Q (decide (x = y)) s) : wpAny (model P w) A (eqBool u v) Q E s := by
  cases x with
  | inl a =>
    cases y with
    | inl b => rw [dec_inl] at q; exact (mixKind P w).eqBool (a := a) (b := b) hx hy q
    | inr ks =>
      rw [decide_eq_false (fun z => nomatch z)] at q
      obtain ⟨b, rfl, hb⟩ := hy
      obtain ⟨its, ht⟩ := tupOf hb
      rcases keyIs_shape hx with ⟨i, t, _, rfl⟩ | ⟨x, t, _, rfl⟩
      · exact SeqAt.EqAt.int_tuple i t ht hr _ _ _ _ q
      · exact SeqAt.EqAt.str_tuple x t ht hr _ _ _ _ q
  | inr ks =>
    obtain ⟨b, rfl, hb⟩ := hx
    cases y with
    | inl c =>
      rw [decide_eq_false (fun z => nomatch z)] at q
      obtain ⟨its, ht⟩ := tupOf hb
      rcases keyIs_shape hy with ⟨i, t, _, rfl⟩ | ⟨x, t, _, rfl⟩
      · exact SeqAt.EqAt.tuple_int i t ht hr _ _ _ _ q
      · exact SeqAt.EqAt.tuple_str x t ht hr _ _ _ _ q
    | inr js =>
      obtain ⟨c, rfl, hc⟩ := hy
      rw [dec_inr] at q
      exact wpAny_eqBool_tuple hr hb hc q
theorem kIs.quiet {k : KD} {u : Value} {Q : Bool → Shared → Prop} (hk : kIs P w s.heap k u) (q : Q true s) : wpAny (model P w) A (eqIsQuiet 8 u) Q E s := by
  cases k with
  | inl k =>
    rw [eqIsQuiet_byValue _ ((mixKind P w).byValue k u hk)]
    exact wpAny_pure q
  | inr ks =>
    obtain ⟨b, rfl, hb⟩ := hk
    exact wpAny_eqIsQuiet_tuple hb q
theorem tells_not {u : Value} {k : KD} {stored : List Value} {Q : Bool → Shared → Prop} (hk : kIs P w s.heap k u) (hs : ∀ v ∈ stored, ∃ k', kIs P w s.heap k' v) (q : Q false s) : wpAny (model P w) A (tableMayTell u stored) Q E s := by
  unfold tableMayTell
  split
  · exact wpAny_pure q
  refine wpAny_bind (hk.quiet ?_)
  rw [if_neg (by decide)]
  refine wpAny_bind (wpAny_forIn_list _ (fun rest r s' => s' = s ∧ r = (none, ()) ∧ ∀ v ∈ rest, ∃ k', kIs P w s.heap k' v) _ ?_ ?_ _ _ ⟨rfl, rfl, hs⟩)
  · rintro x rest r s' ⟨rfl, rfl, hr⟩
    obtain ⟨k', hb⟩ := hr x List.mem_cons_self
    refine wpAny_bind (hb.quiet ?_)
    rw [if_neg (by decide)]
    exact wpAny_pure ⟨rfl, rfl, fun v hv => hr v (List.mem_cons_of_mem _ hv)⟩
  · rintro r s' ⟨rfl, rfl, _⟩
    exact wpAny_pure q
/-- where the key stands -/
def ixK (xs : List DX) (k : KD) : Option Nat := xs.findIdx? fun x => decide (x.1 = k)
theorem ixK_some {xs : List DX} {k : KD} {j : Nat} (h : ixK xs k = some j) : ∃ p, xs[j]? = some (k, p) := by
  obtain ⟨hj, h1, _⟩ := List.findIdx?_eq_some_iff_getElem.mp h
  exact ⟨(xs[j]).2, by rw [List.getElem?_eq_getElem hj, ← of_decide_eq_true h1]⟩
theorem ixK_none {xs : List DX} {k : KD} (h : ixK xs k = none) : ∀ (j : Nat) (p : Value × Value), xs[j]? ≠ some (k, p) := fun j p e => by
  have := List.findIdx?_eq_none_iff.mp h _ (List.mem_of_getElem? e)
  simp at this
theorem ixK_uni {xs : List DX} (hn : (xs.map (·.1)).Nodup) {k : KD} {j i : Nat} {p q : Value × Value} (hj : xs[j]? = some (k, p)) (hi : xs[i]? = some (k, q)) : j = i := by
  have a : (xs.map (·.1))[j]? = some k := by rw [List.getElem?_map, hj]; rfl
  have b : (xs.map (·.1))[i]? = some k := by rw [List.getElem?_map, hi]; rfl
  exact (List.getElem?_inj (List.getElem?_eq_some_iff.mp a).1 hn).mp (a.trans b.symm)
theorem ixK_of {xs : List DX} (hn : (xs.map (·.1)).Nodup) {k : KD} {j : Nat} {p : Value × Value} (hj : xs[j]? = some (k, p)) : ixK xs k = some j := by
  cases e : ixK xs k with
  | none => exact absurd hj (ixK_none e j p)
  | some i =>
    obtain ⟨q, hi⟩ := ixK_some e
    rw [ixK_uni hn hj hi]
theorem ixK_no {xs : List DX} {k : KD} (h : ∀ (j : Nat) (p : Value × Value), xs[j]? ≠ some (k, p)) : ixK xs k = none := by
  cases e : ixK xs k with
  | none => rfl
  | some i =>
    obtain ⟨q, hi⟩ := ixK_some e
    exact absurd hi (h i q)
/-- the search -/
theorem find_k {d : Addr} {o : Obj} {es : Array DictEntry} {ep : Nat} {xs : List DX} {k : KD} {u : Value} {Q : Option Nat → Shared → Prop} (hr : A.units < cLine) (hk : kIs P w s.heap k u) (go : s.heap.get? d = some o) (gd : o.data = .dict es ep)
    (ge : es.toList = xs.map (entX w)) (gk : ∀ x ∈ xs, kIs P w s.heap x.1 x.2.1) (gn : (xs.map (·.1)).Nodup) (q : Q (ixK xs k) s) : wpAny (model P w) A (dictFind d u (kHash w k)) Q E s := by
  have gs : es.size = xs.length := by rw [← Array.length_toList, ge, List.length_map]
  have gat : ∀ j : Nat, es[j]? = (xs[j]?).map (entX w) := fun j => by rw [← Array.getElem?_toList, ge, List.getElem?_map]
  have gm : ∀ e ∈ es, ∃ x ∈ xs, e = entX w x := fun e he => by
    have z : e ∈ xs.map (entX w) := ge ▸ Array.mem_toList_iff.mpr he
    obtain ⟨x, hx, rfl⟩ := List.mem_map.mp z
    exact ⟨x, hx, rfl⟩
  have ghas : ∀ (j : Nat) (p : Value × Value), xs[j]? = some (k, p) → ((es[j]?.map (·.hash)) == some (kHash w k)) = true := fun j p hj => by
    rw [gat j, hj]
    simp [entX]
  have gst : ∀ v ∈ (placesWithHash es.size (fun i => es[i]?.map (·.hash)) (kHash w k)).filterMap (fun i => es[i]?.map (·.key)), ∃ k', kIs P w s.heap k' v := fun v hv => by
    obtain ⟨i, _, hi⟩ := List.mem_filterMap.mp hv
    cases hei : es[i]? with
    | none => rw [hei] at hi; cases hi
    | some e =>
      rw [hei] at hi
      cases hi
      obtain ⟨x, hx, rfl⟩ := gm e (Array.mem_of_getElem? hei)
      exact ⟨x.1, gk x hx⟩
  have gany : ¬ (es.any fun e => e.key == u && e.hash != kHash w k) = true := by
    rw [← Array.any_toList, List.any_eq_true]
    rintro ⟨e, he, hc⟩
    obtain ⟨x, hx, rfl⟩ := gm e (Array.mem_toList_iff.mp he)
    simp only [entX, Bool.and_eq_true, beq_iff_eq, bne_iff_ne, ne_eq] at hc
    obtain ⟨z1, z2⟩ := hc
    have z3 := gk x hx
    rw [z1] at z3
    exact z2 (by rw [z3.inj hk])
  -- no later place can be hit once all places are seen
  have gout : ∀ (i : Nat), (List.range' i (es.size - i)).filter (fun i => (es[i]?.map (·.hash)) == some (kHash w k)) = [] → (∀ (j : Nat) (p : Value × Value), j < i → xs[j]? ≠ some (k, p)) → ixK xs k = none := fun i hf hno => by
    refine ixK_no fun j p hj => ?_
    rcases Nat.lt_or_ge j i with z | z
    · exact hno j p z hj
    have hjl : j < es.size := by
      rw [gs]
      rcases Nat.lt_or_ge j xs.length with y | y
      · exact y
      · rw [List.getElem?_eq_none y] at hj; cases hj
    exact List.filter_eq_nil_iff.mp hf j (List.mem_range'_1.mpr ⟨z, by omega⟩) (ghas j p hj)
  have gstep : ∀ (i x : Nat) (rest : List Nat), (List.range' i (es.size - i)).filter (fun i => (es[i]?.map (·.hash)) == some (kHash w k)) = x :: rest → x < es.size ∧ i ≤ x ∧ rest = (List.range' (x + 1) (es.size - (x + 1))).filter (fun i => (es[i]?.map (·.hash)) == some (kHash w k)) ∧
      ((∀ (j : Nat) (p : Value × Value), j < i → xs[j]? ≠ some (k, p)) → ∀ (j : Nat) (p : Value × Value), j < x → xs[j]? ≠ some (k, p)) := fun i x rest hf => by
    obtain ⟨y1, y2, y3, y4, y5⟩ := filter_range'_cons _ _ _ _ _ hf
    have hlt : x < es.size := by omega
    refine ⟨hlt, y1, by rw [y5]; congr 2; omega, fun hno j p hjx hj => ?_⟩
    rcases Nat.lt_or_ge j i with z | z
    · exact hno j p z hj
    have := y4 j z hjx
    rw [ghas j p hj] at this
    cases this
  have main : ∀ (tl : Bool), tl = false → wpAny (model P w) A (do
      if tl && ((placesWithHash es.size (fun i => es[i]?.map (·.hash)) (kHash w k)).filterMap fun i => es[i]?.map (·.key)).length ≥ 2 then unsupported "dict.find:order-among-keys-of-one-hash"
      let mut hit : Option Nat := none
      for i in placesWithHash es.size (fun i => es[i]?.map (·.hash)) (kHash w k) do
        if let some e := es[i]? then
          if e.hash == kHash w k then
            let before ← dictEpoch d (keyPart u)
            let same ← eqBool e.key u
            if (← dictEpoch d (keyPart u)) != before then unsupported "dict.changed-during-lookup"
            if same then
              if hit.isSome then unsupported "dict.find:order-among-keys-of-one-hash"
              rule "dict.find.hit"
              if ((placesWithHash es.size (fun i => es[i]?.map (·.hash)) (kHash w k)).filterMap fun i => es[i]?.map (·.key)).length < 2 then return some i
              hit := some i
            else
              rule "dict.find.same-hash-other-key"
              if tl && !(0 ≤ kHash w k && kHash w k < 32) then unsupported "dict.find:asked-again-or-not-hangs-on-the-table"
      return hit) Q E s := by
    rintro _ rfl
    rw [if_neg (by simp)]
    refine wpAny_bind (wpAny_forIn_list _
      (fun rest b s' => s' = s ∧ ∃ i hit, b = (none, hit) ∧ rest = (List.range' i (es.size - i)).filter (fun i => (es[i]?.map (·.hash)) == some (kHash w k)) ∧ i ≤ es.size ∧
        ((hit = none ∧ ∀ (j : Nat) (p : Value × Value), j < i → xs[j]? ≠ some (k, p)) ∨ ∃ j p, hit = some j ∧ j < i ∧ xs[j]? = some (k, p))) _ ?_ ?_ _ _
      ⟨rfl, 0, none, rfl, by rw [placesWithHash, List.range_eq_range', Nat.sub_zero], Nat.zero_le _, .inl ⟨rfl, fun _ _ z => absurd z (Nat.not_lt_zero _)⟩⟩)
    · rintro x rest b s' ⟨rfl, i, hit, rfl, hf, hi, hH⟩
      obtain ⟨hlt, hix, hrest, hskip⟩ := gstep i x rest hf.symm
      obtain ⟨⟨k', u', v'⟩, hkv⟩ : ∃ y, xs[x]? = some y := ⟨xs[x]'(by rw [← gs]; exact hlt), List.getElem?_eq_getElem _⟩
      have hib : kIs P w s'.heap k' u' := gk _ (List.mem_of_getElem? hkv)
      have hex : es[x]? = some ⟨kHash w k', u', v'⟩ := by rw [gat x, hkv]; rfl
      have hHx : (hit = none ∧ ∀ (j : Nat) (p : Value × Value), j < x → xs[j]? ≠ some (k, p)) ∨ ∃ j p, hit = some j ∧ j < x ∧ xs[j]? = some (k, p) := by
        rcases hH with ⟨z, hno⟩ | ⟨j, p, z1, z2, z3⟩
        · exact .inl ⟨z, hskip hno⟩
        · exact .inr ⟨j, p, z1, by omega, z3⟩
      have hstay : ¬ k' = k → ((hit = none ∧ ∀ (j : Nat) (p : Value × Value), j < x + 1 → xs[j]? ≠ some (k, p)) ∨ ∃ j p, hit = some j ∧ j < x + 1 ∧ xs[j]? = some (k, p)) := fun hne => by
        rcases hHx with ⟨z, hno⟩ | ⟨j, p, z1, z2, z3⟩
        · refine .inl ⟨z, fun j p hjx hj => ?_⟩
          rcases Nat.lt_or_ge j x with y | y
          · exact hno j p y hj
          · have ejx : j = x := by omega
            subst ejx
            rw [hkv] at hj
            cases hj
            exact hne rfl
        · exact .inr ⟨j, p, z1, by omega, z3⟩
      rw [hex]
      dsimp only
      by_cases hh : (kHash w k' == kHash w k) = true
      · rw [if_pos hh]
        refine wpAny_bind (wpAny_dictEpoch go gd (wpAny_bind (kIs.eq hr hib hk (wpAny_bind (wpAny_dictEpoch go gd ?_)))))
        rw [if_neg (by simp)]
        by_cases hkk : k' = k
        · rw [decide_eq_true hkk]
          subst hkk
          rcases hHx with ⟨rfl, _⟩ | ⟨j, p, _, hjx, hj⟩
          · first | rw [if_pos rfl] | skip
            simp only [Option.isSome_none, Bool.false_eq_true, if_false]
            first | refine wpAny_bind (wpAny_pure ?_) | skip
            refine wpAny_bind (wpAny_rule ?_)
            split
            · refine wpAny_pure (wpAny_pure ?_)
              rw [ixK_of gn hkv] at q
              exact q
            · exact wpAny_pure ⟨rfl, x + 1, some x, rfl, hrest, hlt, .inr ⟨x, _, rfl, Nat.lt_succ_self x, hkv⟩⟩
          · exact absurd (ixK_uni gn hj hkv) (by omega)
        · rw [decide_eq_false hkk]
          simp only [Bool.false_eq_true, if_false]
          refine wpAny_bind (wpAny_rule ?_)
          first | rw [if_neg (by simp)] | skip
          first
            | exact wpAny_pure ⟨rfl, x + 1, hit, rfl, hrest, hlt, hstay hkk⟩
            | exact wpAny_bind (wpAny_pure (wpAny_pure ⟨rfl, x + 1, hit, rfl, hrest, hlt, hstay hkk⟩))
      · rw [if_neg hh]
        refine wpAny_pure ⟨rfl, x + 1, hit, rfl, hrest, hlt, hstay fun hkk => ?_⟩
        rw [hkk] at hh
        simp at hh
    · rintro b s' ⟨rfl, i, hit, rfl, hf, hi, hH⟩
      rcases hH with ⟨rfl, hno⟩ | ⟨j, p, rfl, _, hj⟩
      · rw [gout i hf.symm hno] at q
        exact wpAny_pure q
      · rw [ixK_of gn hj] at q
        exact wpAny_pure q
  have plain : wpAny (model P w) A (dictWalkPlain d u (kHash w k) es (placesWithHash es.size (fun i => es[i]?.map (·.hash)) (kHash w k))) Q E s := by
    refine wpAny_bind (wpAny_forIn_list _
      (fun rest b s' => s' = s ∧ b = (none, ()) ∧ ∃ i, rest = (List.range' i (es.size - i)).filter (fun i => (es[i]?.map (·.hash)) == some (kHash w k)) ∧ i ≤ es.size ∧ ∀ (j : Nat) (p : Value × Value), j < i → xs[j]? ≠ some (k, p)) _ ?_ ?_ _ _
      ⟨rfl, rfl, 0, by rw [placesWithHash, List.range_eq_range', Nat.sub_zero], Nat.zero_le _, fun _ _ z => absurd z (Nat.not_lt_zero _)⟩)
    · rintro x rest b s' ⟨rfl, rfl, i, hf, hi, hno⟩
      obtain ⟨hlt, hix, hrest, hskip⟩ := gstep i x rest hf.symm
      obtain ⟨⟨k', u', v'⟩, hkv⟩ : ∃ y, xs[x]? = some y := ⟨xs[x]'(by rw [← gs]; exact hlt), List.getElem?_eq_getElem _⟩
      have hib : kIs P w s'.heap k' u' := gk _ (List.mem_of_getElem? hkv)
      have hex : es[x]? = some ⟨kHash w k', u', v'⟩ := by rw [gat x, hkv]; rfl
      have hstay : ¬ k' = k → ∀ (j : Nat) (p : Value × Value), j < x + 1 → xs[j]? ≠ some (k, p) := fun hne j p hjx hj => by
        rcases Nat.lt_or_ge j x with y | y
        · exact hskip hno j p y hj
        · have ejx : j = x := by omega
          subst ejx
          rw [hkv] at hj
          cases hj
          exact hne rfl
      simp only [hex]
      by_cases hh : (kHash w k' == kHash w k) = true
      · rw [if_pos hh]
        refine wpAny_bind (wpAny_dictEpoch go gd (wpAny_bind (kIs.eq hr hib hk (wpAny_bind (wpAny_dictEpoch go gd ?_)))))
        rw [if_neg (by simp)]
        by_cases hkk : k' = k
        · rw [decide_eq_true hkk]
          subst hkk
          rw [ixK_of gn hkv] at q
          exact wpAny_bind (wpAny_rule (wpAny_pure (wpAny_pure q)))
        · rw [decide_eq_false hkk]
          exact wpAny_bind (wpAny_rule (wpAny_pure ⟨rfl, rfl, x + 1, hrest, hlt, hstay hkk⟩))
      · rw [if_neg hh]
        refine wpAny_pure ⟨rfl, rfl, x + 1, hrest, hlt, hstay fun hkk => ?_⟩
        rw [hkk] at hh
        simp at hh
    · rintro b s' ⟨rfl, rfl, i, hf, hi, hno⟩
      rw [gout i hf.symm hno] at q
      exact wpAny_pure q
  by_cases hall : (∃ k0, k = .inl k0) ∧ ∀ x ∈ xs, ∃ k', x.1 = Sum.inl k'
  · obtain ⟨⟨k0, rfl⟩, hx⟩ := hall
    refine wpAny_dictFind_of (knd := mixKind P w) (k := k0) hk go gd (fun e he => ?_) ?_
    · obtain ⟨x, h1, rfl⟩ := gm e he
      obtain ⟨k', e'⟩ := hx x h1
      have z := gk x h1
      rw [e'] at z
      exact ⟨k', z, by show kHash w x.1 = _; rw [e']; rfl⟩
    · have : (es.findIdx? fun e => (mixKind P w).is k0 e.key) = ixK xs (.inl k0) := by
        cases e : ixK xs (.inl k0) with
        | none =>
          refine Array.findIdx?_eq_none_iff.mpr fun en he => ?_
          obtain ⟨x, h1, rfl⟩ := gm en he
          obtain ⟨j, hj⟩ := List.mem_iff_getElem?.mp h1
          cases z : (mixKind P w).is k0 (entX w x).key with
          | false => rfl
          | true =>
            have z2 : kIs P w s.heap (.inl k0) x.2.1 := z
            have z3 := (gk x h1).inj z2
            exact absurd (by rw [hj, ← z3]) (ixK_none e j x.2)
        | some j =>
          obtain ⟨p, hj⟩ := ixK_some e
          have hl : j < es.size := by rw [gs]; exact (List.getElem?_eq_some_iff.mp hj).1
          have hat : ∀ (i : Nat) (hi : i < es.size), ∃ x, xs[i]? = some x ∧ es[i] = entX w x := fun i hi => by
            have h1 : i < xs.length := by rw [← gs]; exact hi
            have h2 := gat i
            rw [Array.getElem?_eq_getElem hi, List.getElem?_eq_getElem h1] at h2
            exact ⟨xs[i], List.getElem?_eq_getElem h1, Option.some.inj h2⟩
          refine Array.findIdx?_eq_some_iff_getElem.mpr ⟨hl, ?_, fun i hi => ?_⟩
          · obtain ⟨x, h1, h2⟩ := hat j hl
            rw [hj] at h1
            cases h1
            rw [h2]
            exact gk _ (List.mem_of_getElem? hj)
          · obtain ⟨x, h1, h2⟩ := hat i (by omega)
            rw [h2]
            cases z : (mixKind P w).is k0 (entX w x).key with
            | false => simp
            | true =>
              have z2 : kIs P w s.heap (.inl k0) x.2.1 := z
              have z3 := (gk x (List.mem_of_getElem? h1)).inj z2
              have z4 : xs[i]? = some (.inl k0, x.2) := by rw [h1, ← z3]
              exact absurd (ixK_uni gn hj z4) (by omega)
      rw [this]
      exact q
  unfold dictFind
  try with_reducible refine wpAny_holding ?_
  refine wpAny_bind (wpAny_dictEntries go gd ?_)
  cases k with
  | inr ks =>
    obtain ⟨b, rfl, hb⟩ := id hk
    dsimp only
    rw [if_neg (by simp [carriedByValue]), if_neg gany]
    by_cases hone : (((placesWithHash es.size (fun i => es[i]?.map (·.hash)) (kHash w (Sum.inr ks))).filterMap fun i => es[i]?.map (·.key)) == [Value.ref b]) = true
    · rw [if_pos hone]
      exact wpAny_bind (wpAny_pure (main false rfl))
    · rw [if_neg hone]
      exact wpAny_bind (tells_not hk gst (main false rfl))
  | inl k0 =>
    have hno : ¬ (es.all fun e => isExactStrKey e.key) = true := fun z => by
      refine hall ⟨⟨k0, rfl⟩, fun x hx => ?_⟩
      cases hx1 : x.1 with
      | inl k' => exact ⟨k', rfl⟩
      | inr ks =>
        have z1 := gk x hx
        rw [hx1] at z1
        obtain ⟨b, e, _⟩ := z1
        have hin : entX w x ∈ es := Array.mem_toList_iff.mp (ge ▸ List.mem_map_of_mem hx)
        have z2 := Array.all_eq_true'.mp z _ hin
        rw [show (entX w x).key = x.2.1 from rfl, e] at z2
        cases z2
    rcases keyIs_shape hk with ⟨i, t, rfl, rfl⟩ | ⟨y, t, rfl, rfl⟩
    · dsimp only
      by_cases hv : ((Value.int i t :: ((placesWithHash es.size (fun i => es[i]?.map (·.hash)) (kHash w (Sum.inl (Sum.inl i)))).filterMap fun i => es[i]?.map (·.key))).all carriedByValue) = true
      · rw [if_pos hv]
        exact plain
      rw [if_neg hv]
      by_cases hone : (((placesWithHash es.size (fun i => es[i]?.map (·.hash)) (kHash w (Sum.inl (Sum.inl i)))).filterMap fun i => es[i]?.map (·.key)) == [Value.int i t]) = true
      · rw [if_pos hone]
        exact wpAny_bind (wpAny_pure (main false rfl))
      · rw [if_neg hone]
        exact wpAny_bind (tells_not hk gst (main false rfl))
    · dsimp only
      rw [if_neg hno]
      by_cases hv : ((Value.str y t :: ((placesWithHash es.size (fun i => es[i]?.map (·.hash)) (kHash w (Sum.inl (Sum.inr y)))).filterMap fun i => es[i]?.map (·.key))).all carriedByValue) = true
      · rw [if_pos hv]
        exact plain
      rw [if_neg hv]
      by_cases hone : (((placesWithHash es.size (fun i => es[i]?.map (·.hash)) (kHash w (Sum.inl (Sum.inr y)))).filterMap fun i => es[i]?.map (·.key)) == [Value.str y t]) = true
      · rw [if_pos hone]
        exact wpAny_bind (wpAny_pure (main false rfl))
      · rw [if_neg hone]
        exact wpAny_bind (tells_not hk gst (main false rfl))
end
end L2

set_option Elab.async false
set_option linter.all false
set_option maxRecDepth 100000
set_option maxHeartbeats 1000000
namespace L2
open PySem PySem.Spec PyProof.Rows
section
variable {P : Program} {w : World} {A : Around} {E : Value → Shared → Prop} {s : Shared} {d : Addr} {o : Obj} {xs : List DX} {k : KD} {u v : Value}
def valX (xs : List DX) (k : KD) : Option Value := (xs.find? fun x => decide (x.1 = k)).map (·.2.2)
theorem valX_at (hn : (xs.map (·.1)).Nodup) {j : Nat} {p : Value × Value} (hj : xs[j]? = some (k, p)) : valX xs k = some p.2 := by
  unfold valX
  cases e : xs.find? fun x => decide (x.1 = k) with
  | none => exact absurd (List.find?_eq_none.mp e _ (List.mem_of_getElem? hj)) (by simp)
  | some x =>
    have h1 := List.find?_some e
    obtain ⟨i, hi⟩ := List.mem_iff_getElem?.mp (List.mem_of_find?_eq_some e)
    have h2 : x.1 = k := of_decide_eq_true h1
    have h3 : xs[i]? = some (k, x.2) := by rw [hi, ← h2]
    cases ixK_uni hn hj h3
    rw [hj] at h3
    cases h3
    rfl
theorem valX_no (h : ixK xs k = none) : valX xs k = none := by
  unfold valX
  rw [List.find?_eq_none.mpr fun x hx => by simpa using List.findIdx?_eq_none_iff.mp h x hx]
  rfl
/-- the store -/
def putX (xs : List DX) (k : KD) (u v : Value) : List DX := match ixK xs k with
  | some j => xs.modify j fun x => (x.1, x.2.1, v)
  | none => xs ++ [(k, u, v)]
theorem get_k {Q : Option Value → Shared → Prop} (hr : A.units < cLine) (hk : kIs P w s.heap k u) (go : s.heap.get? d = some o) (R : DRec w o xs) (gk : ∀ x ∈ xs, kIs P w s.heap x.1 x.2.1)
    (q : Q (valX xs k) { s with toks := s.toks + kDraws k }) : wpAny (model P w) A (dictGet d u) Q E s := by
  obtain ⟨es, ep, gd, ge⟩ := R.es
  unfold dictGet
  try with_reducible refine wpAny_holding ?_
  refine wpAny_bind (hk.hash hr (wpAny_bind (find_k (s := { s with toks := s.toks + kDraws k }) hr hk go gd ge gk R.nd ?_)))
  cases e : ixK xs k with
  | none =>
    rw [valX_no e] at q
    exact wpAny_pure q
  | some j =>
    obtain ⟨p, hj⟩ := ixK_some e
    rw [valX_at R.nd hj] at q
    refine wpAny_bind (wpAny_dictEntries (s := { s with toks := s.toks + kDraws k }) go gd ?_)
    rw [← Array.getElem?_toList, ge, List.getElem?_map, hj]
    exact wpAny_pure q
theorem kIs.other {h h' : Heap} {es : Array DictEntry} {ep : Nat} (hk : kIs P w h k u) (go : h.get? d = some o) (gd : o.data = .dict es ep) (hs : Heap.SameBut d h h') : kIs P w h' k u := by
  cases k with
  | inl k => exact hk
  | inr ks =>
    obtain ⟨b, e, hb⟩ := hk
    exact ⟨b, e, hb.keeps go gd hs⟩
theorem mem_putX {x : DX} (h : x ∈ putX xs k u v) : (∃ y ∈ xs, x.1 = y.1 ∧ x.2.1 = y.2.1) ∨ x = (k, u, v) := by
  unfold putX at h
  split at h
  · obtain ⟨i, hi⟩ := List.mem_iff_getElem?.mp h
    rw [List.getElem?_modify] at hi
    split at hi
    · cases e : xs[i]? with
      | none => rw [e] at hi; cases hi
      | some y => rw [e] at hi; cases hi; exact .inl ⟨y, List.mem_of_getElem? e, rfl, rfl⟩
    · cases e : xs[i]? with
      | none => rw [e] at hi; cases hi
      | some y => rw [e] at hi; cases hi; exact .inl ⟨_, List.mem_of_getElem? e, rfl, rfl⟩
  · rcases List.mem_append.mp h with h | h
    · exact .inl ⟨x, h, rfl, rfl⟩
    · exact .inr (List.mem_singleton.mp h)
theorem map_modify_key (l : List DX) (j : Nat) : (l.modify j fun x => (x.1, x.2.1, v)).map (·.1) = l.map (·.1) := by
  refine List.ext_getElem? fun i => ?_
  rw [List.getElem?_map, List.getElem?_map, List.getElem?_modify]
  cases l[i]? with
  | none => rfl
  | some y => simp; split <;> rfl
theorem putX_nd (hn : (xs.map (·.1)).Nodup) : ((putX xs k u v).map (·.1)).Nodup := by
  unfold putX
  cases e : ixK xs k with
  | some j => simp only; rw [map_modify_key]; exact hn
  | none =>
    simp only
    rw [List.map_append, List.nodup_append]
    refine ⟨hn, by simp, fun a ha b hb => ?_⟩
    simp only [List.map_cons, List.map_nil, List.mem_singleton] at hb
    subst hb
    rintro rfl
    obtain ⟨x, hx, rfl⟩ := List.mem_map.mp ha
    obtain ⟨j, hj⟩ := List.mem_iff_getElem?.mp hx
    exact ixK_none e j x.2 hj
theorem putX_len : (putX xs k u v).length ≤ xs.length + 1 := by
  unfold putX
  split
  · rw [List.length_modify]; omega
  · rw [List.length_append]; exact Nat.le_refl _
theorem set_k {Q : Unit → Shared → Prop} (hr : A.units < cLine) (hk : kIs P w s.heap k u) (go : s.heap.get? d = some o) (R : DRec w o xs) (gk : ∀ x ∈ xs, kIs P w s.heap x.1 x.2.1) (hz : xs.length < sizeLine)
    (q : ∀ h' o', h'.get? d = some o' → DRec w o' (putX xs k u v) → Heap.SameBut d s.heap h' → Q () { s with heap := h', toks := s.toks + kDraws k }) : wpAny (model P w) A (dictSet d u v) Q E s := by
  obtain ⟨es, ep, gd, ge⟩ := R.es
  have gs : es.size = xs.length := by rw [← Array.length_toList, ge, List.length_map]
  unfold dictSet
  try with_reducible refine wpAny_holding ?_
  refine wpAny_bind (hk.hash hr ?_)
  unfold dictSetHashed
  try with_reducible refine wpAny_holding ?_
  refine wpAny_bind (find_k (s := { s with toks := s.toks + kDraws k }) hr hk go gd ge gk R.nd ?_)
  have nd := putX_nd (k := k) (u := u) (v := v) R.nd
  have ln : (putX xs k u v).length ≤ sizeLine := Nat.le_trans putX_len hz
  cases e : ixK xs k with
  | none =>
    have ep' : putX xs k u v = xs ++ [(k, u, v)] := by unfold putX; rw [e]
    refine wpAny_bind (wpAny_rule (wpAny_updateDictKeys (hz := by omega) (s := { s with toks := s.toks + kDraws k }) go gd (q _ _ (Heap.get?_update_self _ go (Obj.isFreed_of_dict (Obj.data_mapDictKeys gd _))) ⟨R.ex.mapDictKeys _, ⟨_, _, Obj.data_mapDictKeys gd _, ?_⟩, nd, ln⟩ (Heap.SameBut.update ..))))
    rw [ep', List.map_append, Array.toList_push, ge]
    rfl
  | some j =>
    have ep' : putX xs k u v = xs.modify j fun x => (x.1, x.2.1, v) := by unfold putX; rw [e]
    refine wpAny_bind (wpAny_rule (wpAny_bind (wpAny_updateDict (s := { s with toks := s.toks + kDraws k }) go gd (wpAny_point (q _ _ (Heap.get?_update_self _ go (Obj.isFreed_of_dict (Obj.data_mapDict gd _))) ⟨R.ex.mapDict _, ⟨_, _, Obj.data_mapDict gd _, ?_⟩, nd, ln⟩ (Heap.SameBut.update ..))))))
    rw [ep', Array.toList_modify, ge]
    refine List.ext_getElem? fun i => ?_
    rw [List.getElem?_modify, List.getElem?_map, List.getElem?_map, List.getElem?_modify]
    cases xs[i]? with
    | none => rfl
    | some y => simp; split <;> rfl
/-! ### d[u], d[u] = v, u in d -/
theorem tyD_k (go : s.heap.get? d = some o) (R : DRec w o xs) : s.TypeIs (.ref d) "dict" := ⟨o, go, R.ex.1⟩
theorem getItem_k {Q : Value → Shared → Prop} (hr : A.units + 1 < cLine) (hk : kIs P w s.heap k u) (go : s.heap.get? d = some o) (R : DRec w o xs) (gk : ∀ x ∈ xs, kIs P w s.heap x.1 x.2.1) (hv : valX xs k = some v)
    (q : Q v { s with toks := s.toks + kDraws k }) : wpAny (model P w) A (getItem (.ref d) u) Q E s := by
  have ty := tyD_k (w := w) go R
  unfold getItem
  try with_reducible refine wpAny_holding ?_
  refine wpAny_bind (wpAny_sequenceKey ty (by decide) (wpAny_bind (wpAny_callSpecial?_slot (name := Str.ofString "__getitem__") ty slot_dict_getitem (wpAny_call_entry slot_dict_getitem ty entry_dict_getitem ?_ (args_dict_getitem _ _)))))
  show wpAny _ _ (dictGet d u >>= _) _ _ s
  refine wpAny_bind (get_k (A := A.in1) hr hk go R gk ?_)
  rw [hv]
  exact wpAny_pure ⟨v, rfl, wpAny_pure q⟩
theorem setItem_k {Q : Unit → Shared → Prop} (hr : A.units + 1 < cLine) (hk : kIs P w s.heap k u) (go : s.heap.get? d = some o) (R : DRec w o xs) (gk : ∀ x ∈ xs, kIs P w s.heap x.1 x.2.1) (hz : xs.length < sizeLine)
    (q : ∀ h' o', h'.get? d = some o' → DRec w o' (putX xs k u v) → Heap.SameBut d s.heap h' → Q () { s with heap := h', toks := s.toks + kDraws k }) : wpAny (model P w) A (setItem (.ref d) u v) Q E s := by
  have ty := tyD_k (w := w) go R
  unfold setItem
  try with_reducible refine wpAny_holding ?_
  refine wpAny_bind (wpAny_sequenceKey ty (by decide) (wpAny_bind (wpAny_callSpecial?_slot (name := Str.ofString "__setitem__") ty slot_dict_setitem (wpAny_call_entry slot_dict_setitem ty entry_dict_setitem ?_ (args_dict_setitem _ _ _)))))
  show wpAny _ _ (Builtin.Dict.notOrdered "__setitem__" ⟨[.ref d, u, v], []⟩ >>= _) _ _ s
  refine wpAny_bind (wpAny_notOrdered_dict ty ?_)
  show wpAny _ _ (dictSet d u v >>= _) _ _ s
  exact wpAny_bind (set_k (A := A.in1) hr hk go R gk hz fun h' o' a b c => wpAny_pure ⟨.none, rfl, wpAny_pure (q h' o' a b c)⟩)
theorem contains_k {Q : Bool → Shared → Prop} (hr : A.units + 1 < cLine) (hk : kIs P w s.heap k u) (hd : (d == sysModules) = false) (go : s.heap.get? d = some o) (R : DRec w o xs) (gk : ∀ x ∈ xs, kIs P w s.heap x.1 x.2.1)
    (q : Q (valX xs k).isSome { s with toks := s.toks + kDraws k }) : wpAny (model P w) A (contains (.ref d) u) Q E s := by
  have ty := tyD_k (w := w) go R
  unfold contains
  try with_reducible refine wpAny_holding ?_
  refine wpAny_bind (wpAny_specialOf ty slot_dict_contains.lookup ?_)
  rw [if_neg (by rw [beq_builtin_none]; exact Bool.false_ne_true)]
  refine wpAny_bind (wpAny_callSpecialUnlessNone?_slot (name := Str.ofString "__contains__") ty slot_dict_contains (wpAny_call_entry slot_dict_contains ty entry_dict_contains ?_ (args_dict_contains _ _)))
  show wpAny _ _ (dictGet d u >>= _) _ _ s
  refine wpAny_bind (get_k (A := A.in1) hr hk go R gk ?_)
  cases hf : valX xs k with
  | some p =>
    rw [hf] at q
    exact wpAny_pure ⟨_, rfl, wpAny_truthy_bool q⟩
  | none =>
    rw [hf] at q
    exact wpAny_bind (wpAny_pendingKey_other hd (wpAny_pure ⟨_, rfl, wpAny_truthy_bool q⟩))
theorem notIn_k {Q : Value → Shared → Prop} (hr : A.units + 1 < cLine) (hk : kIs P w s.heap k u) (hd : (d == sysModules) = false) (go : s.heap.get? d = some o) (R : DRec w o xs) (gk : ∀ x ∈ xs, kIs P w s.heap x.1 x.2.1)
    (q : Q (.bool (!(valX xs k).isSome)) { s with toks := s.toks + kDraws k }) : wpAny (model P w) A (compareOp .NotIn u (.ref d)) Q E s := by
  show wpAny _ _ (do return .bool (!(← contains (.ref d) u))) Q E s
  exact wpAny_bind (contains_k hr hk hd go R gk (wpAny_pure q))
/-! ### the walk -/
theorem iter_k {es : Array DictEntry} {ep : Nat} {Q : Value → Shared → Prop} (hd : (d == sysModules) = false) (go : s.heap.get? d = some o) (R : DRec w o xs) (gd : o.data = .dict es ep)
    (q : Q (.ref s.heap.objs.size) { s with heap := s.heap.push { cls := .type "dict_keyiterator", data := .fields #[.ref d, .int 0 0, .int es.size 0, .int ep 0] } }) : wpAny (model P w) A (pyIter (.ref d)) Q E s := by
  have ty := tyD_k (w := w) go R
  refine wpAny_pyIter_slot ty F.slot_dict_iter (wpAny_call_entry F.slot_dict_iter ty F.entry_dict_iter ?_ (F.args_dict_iter_1 _))
  unfold Builtin.«dict.__iter__» Builtin.Dict.dictSlotNone
  refine wpAny_bind (wpAny_bind (wpAny_notOrdered_dict ty (wpAny_pure ?_)))
  show wpAny _ _ (Builtin.Dict.showsAll d >>= _) _ _ s
  unfold Builtin.Dict.showsAll
  rw [if_neg (by rw [hd]; exact Bool.false_ne_true)]
  refine wpAny_bind (wpAny_pure (wpAny_bind (wpAny_dictEntries go gd (wpAny_bind (wpAny_dictEpoch go gd (wpAny_bind (wpAny_newObj_type (wpAny_pure ⟨_, rfl, "dict_keyiterator", _, ⟨_, Heap.get?_push_size _ rfl, rfl⟩, F.slot_dict_keyiterator_next.lookup, ?_⟩))))))))
  simpa [rawInt] using q
theorem next_k {it : Addr} {i ep : Nat} {es : Array DictEntry} {e : DictEntry} {Q : Option Value → Shared → Prop} (hit : s.heap.IsKeyIter it d i es.size ep) (go : s.heap.get? d = some o) (gd : o.data = .dict es ep) (he : es[i]? = some e)
    (q : ∀ h', h'.IsKeyIter it d (i + 1) es.size ep → Heap.SameBut it s.heap h' → Q (some e.key) { s with heap := h' }) : wpAny (model P w) A (pyNext (.ref it)) Q E s := by
  obtain ⟨oi, gi, ci, di⟩ := id hit
  unfold pyNext
  refine wpAny_bind (wpAny_attempt (wpAny_callSpecial?_slot (name := Str.ofString "__next__") hit.typeIs F.slot_dict_keyiterator_next (wpAny_call_entry F.slot_dict_keyiterator_next hit.typeIs F.entry_dict_keyiterator_next ?_ (F.args_dict_keyiterator_next_1 _))))
  refine wpAny_bind (wpAny_pure (wpAny_bind (wpAny_bind ?_)))
  first | refine wpAny_bind (wpAny_typeNameOfWhole_keyiter hit.typeIs (wpAny_pure (wpAny_bind (wpAny_fieldsOf gi di ?_)))) | refine wpAny_bind (wpAny_typeNameOf_keyiter hit.typeIs (wpAny_pure (wpAny_bind (wpAny_fieldsOf gi di ?_))))
  simp only [show Builtin.Dict_items.ownsTuple "dict_keyiterator" = false by decide, Bool.false_eq_true, if_false]
  show wpAny _ _ (if (Value.ref d == Value.none) = true then _ else _) _ _ s
  rw [if_neg (show ¬ (Value.ref d == Value.none) = true from Bool.false_ne_true)]
  refine wpAny_bind (wpAny_pure (wpAny_bind (wpAny_dictEntries go gd ?_)))
  rw [if_neg (by simp)]
  refine wpAny_bind (wpAny_pure (wpAny_bind (wpAny_dictEpoch go gd ?_)))
  rw [if_neg (by simp)]
  refine wpAny_pure ?_
  simp only [show ¬ ((i : Int) < 0) from by omega, if_false, Int.toNat_natCast, he]
  refine wpAny_bind ?_
  first | refine wpAny_bind (wpAny_typeNameOfWhole_keyiter hit.typeIs (wpAny_pure (wpAny_bind (wpAny_isOneOf_keyiter hit.typeIs ?_)))) | refine wpAny_bind (wpAny_typeNameOf_keyiter hit.typeIs (wpAny_pure (wpAny_bind (wpAny_isOneOf_keyiter hit.typeIs ?_))))
  show wpAny _ _ (setField (.ref it) 1 (rawInt ((i : Int) + 1)) >>= _) _ _ s
  refine wpAny_bind (wpAny_setField gi di (by simp) ?_)
  have hn : (s.heap.update it (Obj.mapFields (·.setIfInBounds 1 (rawInt ((i : Int) + 1))))).IsKeyIter it d (i + 1) es.size ep :=
    ⟨_, Heap.get?_update_self _ gi (Obj.isFreed_of_fields (Obj.data_mapFields di _)), (Obj.cls_mapFields ..).trans ci, by rw [Obj.data_mapFields di]; simp [rawInt]⟩
  refine wpAny_bind (wpAny_holding (wpAny_bind (wpAny_isOneOf_keyiter (s := { s with heap := s.heap.update it (Obj.mapFields (·.setIfInBounds 1 (rawInt ((i : Int) + 1)))) }) hn.typeIs ?_)))
  show wpAny _ _ (pure e.key) _ _ _
  exact wpAny_pure (wpAny_pure ⟨_, rfl, wpAny_pure (q _ hn (Heap.SameBut.update ..))⟩)
theorem stop_k {it : Addr} {i ep : Nat} {es : Array DictEntry} {Q : Option Value → Shared → Prop} (hh : A.handled = none) (hit : s.heap.IsKeyIter it d i es.size ep) (go : s.heap.get? d = some o) (gd : o.data = .dict es ep) (he : es.size ≤ i)
    (q : ∀ h', Heap.ExtBut it s.heap h' → Q none { s with heap := h' }) : wpAny (model P w) A (pyNext (.ref it)) Q E s := by
  obtain ⟨oi, gi, ci, di⟩ := id hit
  unfold pyNext
  refine wpAny_bind (wpAny_attempt (wpAny_callSpecial?_slot (name := Str.ofString "__next__") hit.typeIs F.slot_dict_keyiterator_next (wpAny_call_entry F.slot_dict_keyiterator_next hit.typeIs F.entry_dict_keyiterator_next ?_ (F.args_dict_keyiterator_next_1 _))))
  refine wpAny_bind (wpAny_pure (wpAny_bind (wpAny_bind ?_)))
  first | refine wpAny_bind (wpAny_typeNameOfWhole_keyiter hit.typeIs (wpAny_pure (wpAny_bind (wpAny_fieldsOf gi di ?_)))) | refine wpAny_bind (wpAny_typeNameOf_keyiter hit.typeIs (wpAny_pure (wpAny_bind (wpAny_fieldsOf gi di ?_))))
  simp only [show Builtin.Dict_items.ownsTuple "dict_keyiterator" = false by decide, Bool.false_eq_true, if_false]
  show wpAny _ _ (if (Value.ref d == Value.none) = true then _ else _) _ _ s
  rw [if_neg (show ¬ (Value.ref d == Value.none) = true from Bool.false_ne_true)]
  refine wpAny_bind (wpAny_pure (wpAny_bind (wpAny_dictEntries go gd ?_)))
  rw [if_neg (by simp)]
  refine wpAny_bind (wpAny_pure (wpAny_bind (wpAny_dictEpoch go gd ?_)))
  rw [if_neg (by simp)]
  refine wpAny_pure ?_
  simp only [show ¬ ((i : Int) < 0) from by omega, if_false, Int.toNat_natCast, Array.getElem?_eq_none he]
  refine wpAny_bind ?_
  first | refine wpAny_bind (wpAny_typeNameOfWhole_keyiter hit.typeIs (wpAny_pure ?_)) | refine wpAny_bind (wpAny_typeNameOf_keyiter hit.typeIs (wpAny_pure ?_))
  show wpAny _ _ (setField (.ref it) 0 .none >>= _) _ _ s
  refine wpAny_bind (wpAny_setField gi di (by simp) ?_)
  show wpAny _ _ (newExc (.type "StopIteration") [] >>= _) _ _ _
  refine wpAny_bind ?_
  simp only [newExc, newTuple]
  refine wpAny_bind (wpAny_newObj_type ?_ (by size_fits))
  refine wpAny_bind (m := firstArgMember _ _) (wpAny_of_eq (a := Value.none) (by first | rfl | (simp only [firstArgMember]; rfl)) (wpAny_newObj_type ?_ (by size_fits)))
  simp only [raiseNew]
  refine wpAny_bind (wpAny_handled ?_)
  rw [show A.in1.handled = none from hh]
  refine wpAny_bind (wpAny_pure (wpAny_throw ?_))
  refine wpAny_bind (wpAny_isInstance (T := "StopIteration") (b := true) ⟨_, Heap.get?_push_size _ rfl, rfl⟩ isSubtype_stop ?_)
  exact wpAny_pure (q _ (((Heap.SameBut.update ..).extBut.push _).push _))
end
end L2

set_option Elab.async false
set_option linter.all false
set_option maxRecDepth 100000
set_option maxHeartbeats 1000000
/-! == of dicts -/
namespace L2
open PySem PySem.Spec PyProof.Rows
section
variable {P : Program} {w : World} {A : Around} {E : Value → Shared → Prop} {s : Shared}
/-- one dict's pairs, looked up in the other -/
inductive HitsX (A : Around) (s : Shared) (ys : List DX) : List DX → Bool → Prop
  | nil : HitsX A s ys [] true
  | miss {x : DX} {r : List DX} : valX ys x.1 = none → HitsX A s ys (x :: r) false
  | hit {x : DX} {y : Value} {r : List DX} {e b : Bool} : valX ys x.1 = some y → SeqAt.EqAt A s x.2.2 y e → HitsX A s ys r b → HitsX A s ys (x :: r) (e && b)
theorem HitsX.inv {ys : List DX} {x : DX} {r : List DX} {b : Bool} (h : HitsX A s ys (x :: r) b) : (valX ys x.1 = none ∧ b = false) ∨ ∃ y e b', valX ys x.1 = some y ∧ SeqAt.EqAt A s x.2.2 y e ∧ HitsX A s ys r b' ∧ b = (e && b') := by
  cases h with
  | miss hn => exact .inl ⟨hn, rfl⟩
  | hit hy he hr => exact .inr ⟨_, _, _, hy, he, hr, rfl⟩
variable {a b : Addr} {oa ob : Obj} {xs ys : List DX} {r : Bool}
end
end L2

set_option Elab.async false
set_option linter.all false
set_option maxRecDepth 100000
set_option maxHeartbeats 1000000
/-! dicts under the invariant -/
namespace L2
open PySem PySem.Spec PyProof.Rows
/-! ### tables by key -/
def valD (kvs : List (KD × PyData)) (k : KD) : Option PyData := (kvs.find? fun kv => decide (kv.1 = k)).map (·.2)
def ixD (kvs : List (KD × PyData)) (k : KD) : Option Nat := kvs.findIdx? fun kv => decide (kv.1 = k)
def putD (kvs : List (KD × PyData)) (k : KD) (d : PyData) : List (KD × PyData) := match ixD kvs k with
  | some j => kvs.modify j fun kv => (kv.1, d)
  | none => kvs ++ [(k, d)]
theorem keyD_inj : ∀ {a b : Key}, keyD a = keyD b → a = b
  | .inl i, .inl j, e => by injection e with e; rw [e]
  | .inr i, .inr j, e => by injection e with e; rw [e]
  | .inl _, .inr _, e => by injection e
  | .inr _, .inl _, e => by injection e
theorem keysD_inj : ∀ {a b : List Key}, a.map keyD = b.map keyD → a = b
  | [], [], _ => rfl
  | [], _ :: _, e => by cases e
  | _ :: _, [], e => by cases e
  | x :: a, y :: b, e => by
    rw [List.map_cons, List.map_cons] at e
    injection e with e1 e2
    rw [keyD_inj e1, keysD_inj e2]
theorem kdD_inj : ∀ {a b : KD}, kdD a = kdD b → a = b
  | .inl a, .inl b, e => by rw [keyD_inj (a := a) (b := b) e]
  | .inr a, .inr b, e => by
    have e' : PyData.tuple (a.map keyD) = .tuple (b.map keyD) := e
    injection e' with e'
    rw [keysD_inj e']
  | .inl (.inl _), .inr _, e => by
    have e' : PyData.int _ = .tuple _ := e
    injection e'
  | .inl (.inr _), .inr _, e => by
    have e' : PyData.str _ = .tuple _ := e
    injection e'
  | .inr _, .inl (.inl _), e => by
    have e' : PyData.tuple _ = .int _ := e
    injection e'
  | .inr _, .inl (.inr _), e => by
    have e' : PyData.tuple _ = .str _ := e
    injection e'
theorem enc_inj : ∀ {a b : List (KD × PyData)}, a.map (fun kv => (kdD kv.1, kv.2)) = b.map (fun kv => (kdD kv.1, kv.2)) → a = b
  | [], [], _ => rfl
  | [], _ :: _, e => by cases e
  | _ :: _, [], e => by cases e
  | (k, d) :: a, (k', d') :: b, e => by
    rw [List.map_cons, List.map_cons] at e
    injection e with e1 e2
    injection e1 with e3 e4
    have e5 : k = k' := kdD_inj e3
    have e6 : d = d' := e4
    rw [enc_inj e2, e5, e6]
section
variable {w : World} {K : PySem.W.Frag} {F H : Hp}
theorem Rp.ow {v : V} {kvs : List (KD × PyData)} (h : Rp w K F v (dictD kvs)) : ∃ a, v = .ref a ∧ Ow w K F F a (.dct kvs) := by
  generalize e : dictD kvs = D at h
  cases h with
  | @dct a o xs vs kvs' h1 h2 h3 h4 h5 h6 h7 =>
    injection e with e
    cases enc_inj e
    exact ⟨a, rfl, o, xs, vs, h1, h2, h3, h4, h5, h6, h7⟩
  | cel c => exact (opD_ne e).elim
  | _ => cases e
theorem ixK_D {xs : List DX} {kvs : List (KD × PyData)} (e : xs.map (·.1) = kvs.map (·.1)) (k : KD) : ixK xs k = ixD kvs k := by
  have a : ixK xs k = (xs.map (·.1)).findIdx? (fun z => decide (z = k)) := by rw [List.findIdx?_map]; rfl
  have b : ixD kvs k = (kvs.map (·.1)).findIdx? (fun z => decide (z = k)) := by rw [List.findIdx?_map]; rfl
  rw [a, b, e]
theorem look_some {xs : List DX} {vs : List V} {kvs : List (KD × PyData)} {k : KD} {d : PyData} : xs.map (·.1) = kvs.map (·.1) → Vals vs (xs.map (·.2.2)) → Rps w K F vs (kvs.map (·.2)) → valD kvs k = some d → ∃ u v, valX xs k = some u ∧ RelV v u ∧ Rp w K F v d := by
  induction kvs generalizing xs vs with
  | nil => intro _ _ _ h; cases h
  | cons kv kvs ih =>
    intro e hv hr h
    cases xs with
    | nil => cases e
    | cons x xs =>
      rw [List.map_cons, List.map_cons] at e
      injection e with e1 e2
      rw [List.map_cons] at hv hr
      cases hr with
      | cons r1 r2 =>
        cases hv with
        | cons v1 v2 =>
          unfold valD valX at *
          by_cases hk : kv.1 = k
          · rw [List.find?_cons_of_pos (by simpa using hk)] at h
            rw [List.find?_cons_of_pos (by rw [e1]; simpa using hk)]
            cases h
            exact ⟨_, _, rfl, v1, r1⟩
          · rw [List.find?_cons_of_neg (by simpa using hk)] at h
            rw [List.find?_cons_of_neg (by rw [e1]; simpa using hk)]
            exact ih e2 v2 r2 h
theorem look_none {xs : List DX} {kvs : List (KD × PyData)} {k : KD} (e : xs.map (·.1) = kvs.map (·.1)) (h : valD kvs k = none) : valX xs k = none := by
  refine valX_no ?_
  rw [ixK_D e k]
  unfold valD at h
  cases q : kvs.find? fun kv => decide (kv.1 = k) with
  | none => exact List.findIdx?_eq_none_iff.mpr fun x hx => by simpa using List.find?_eq_none.mp q x hx
  | some y => rw [q] at h; cases h
/-- the store, seen by data -/
theorem Vals.set' {vs : List V} {us : List Value} {v : V} {u : Value} (h : Vals vs us) (r : RelV v u) (j : Nat) : Vals (vs.set j v) (us.set j u) := by
  induction h generalizing j with
  | nil => exact .nil
  | cons a t ih =>
    cases j with
    | zero => exact .cons r t
    | succ j => exact .cons a (ih j)
theorem Vals.snoc' {vs : List V} {us : List Value} {v : V} {u : Value} (h : Vals vs us) (r : RelV v u) : Vals (vs ++ [v]) (us ++ [u]) := by
  induction h with
  | nil => exact .cons r .nil
  | cons a t ih => exact .cons a ih
theorem map_modify {α β : Type} (f : α → β) (g : α → α) (b : β) (hg : ∀ a, f (g a) = b) : ∀ (l : List α) (j : Nat), (l.modify j g).map f = (l.map f).set j b
  | [], j => by cases j <;> rfl
  | a :: l, 0 => by simp [List.modify, hg]
  | a :: l, j + 1 => by
    have := map_modify f g b hg l j
    simp only [List.modify_succ_cons, List.map_cons, List.set_cons_succ, this]
theorem map_modify_id {α β : Type} (f : α → β) (g : α → α) (hg : ∀ a, f (g a) = f a) : ∀ (l : List α) (j : Nat), (l.modify j g).map f = l.map f
  | [], j => by cases j <;> rfl
  | a :: l, 0 => by simp [List.modify, hg]
  | a :: l, j + 1 => by
    have := map_modify_id f g hg l j
    simp only [List.modify_succ_cons, List.map_cons, this]
theorem put_parts {xs : List DX} {vs : List V} {kvs : List (KD × PyData)} {k : KD} {u u' : Value} {v : V} {d : PyData} (hk : ∀ x ∈ xs, KeyR F x.1 x.2.1) (ku : KeyR F k u)
    (e : xs.map (·.1) = kvs.map (·.1)) (hv : Vals vs (xs.map (·.2.2))) (hr : Rps w K F vs (kvs.map (·.2))) (rv : RelV v u') (rd : Rp w K F v d) :
    (∀ x ∈ putX xs k u u', KeyR F x.1 x.2.1) ∧ (putX xs k u u').map (·.1) = (putD kvs k d).map (·.1) ∧ ∃ vs', Vals vs' ((putX xs k u u').map (·.2.2)) ∧ Rps w K F vs' ((putD kvs k d).map (·.2)) := by
  refine ⟨fun x hx => ?_, ?_, (match ixD kvs k with | some j => vs.set j v | none => vs ++ [v]), ?_, ?_⟩
  · rcases mem_putX hx with ⟨y, h1, h2, h3⟩ | h1
    · rw [h2, h3]; exact hk y h1
    · rw [h1]; exact ku
  · unfold putX putD
    rw [ixK_D e k]
    cases q : ixD kvs k with
    | none => simp only; rw [List.map_append, List.map_append, e]; rfl
    | some j => simp only; rw [map_modify_id (fun x : DX => x.1) (fun x => (x.1, x.2.1, u')) (fun _ => rfl), map_modify_id (fun x : KD × PyData => x.1) (fun kv => (kv.1, d)) (fun _ => rfl), e]
  · unfold putX
    rw [ixK_D e k]
    cases q : ixD kvs k with
    | none => simp only; rw [List.map_append]; exact hv.snoc' rv
    | some j => simp only; rw [map_modify (fun x : DX => x.2.2) (fun x => (x.1, x.2.1, u')) u' (fun _ => rfl)]; exact hv.set' rv j
  · unfold putD
    cases q : ixD kvs k with
    | none => simp only; rw [List.map_append]; exact hr.append (.cons rd .nil)
    | some j => simp only; rw [map_modify (fun x : KD × PyData => x.2) (fun kv => (kv.1, d)) d (fun _ => rfl)]; exact hr.set rd j
theorem put_ow {a : Addr} {o' : Obj} {xs : List DX} {vs : List V} {kvs : List (KD × PyData)} {k : KD} {u u' : Value} {v : V} {d : PyData} (hz : (a == sysModules) = false) (R : DRec w o' (putX xs k u u')) (hk : ∀ x ∈ xs, KeyR F x.1 x.2.1) (ku : KeyR F k u)
    (e : xs.map (·.1) = kvs.map (·.1)) (hv : Vals vs (xs.map (·.2.2))) (hr : Rps w K F vs (kvs.map (·.2))) (rv : RelV v u') (rd : Rp w K F v d) : Ow w K F (upd H a (PinO a o')) a (.dct (putD kvs k d)) := by
  obtain ⟨h1, h2, vs', h3, h4⟩ := put_parts hk ku e hv hr rv rd
  exact ⟨o', putX xs k u u', vs', upd_same, hz, R, h1, h2, h3, h4⟩
end
section
variable {X : Cx} {pins : List (Addr × Obj)} {σ : St} {F H : Hp} {s : Shared}
theorem keyIs_rel {k : Key} {u : Value} (r : RelV (kV k) u) : keyIs k u = true := by
  cases k with
  | inl i => obtain ⟨t, rfl⟩ := r; exact keyIs_int i t
  | inr x => obtain ⟨t, rfl⟩ := r; exact keyIs_str x t
theorem items_k {P : Program} {w : World} : ∀ {ks : List Key} {us : List Value}, Vals (ks.map kV) us → ItemsAre (mixKind P w) ks us
  | [], _, r => by cases r; exact .nil
  | k :: ks, _, r => by
    cases r with
    | cons a t => exact .cons (keyIs_rel a) (items_k t)
theorem Inv.pinO {a : Addr} {o : Obj} (I : Inv X pins σ H s) (h : H a = some (PinO a o)) : s.heap.get? a = some o := (I.hok a _ h).1
theorem Inv.keyR (I : Inv X pins σ H s) (le : Same F H) : ∀ {k : KD} {u : Value}, KeyR F k u → kIs X.prog X.w s.heap k u
  | .inl k, u, h => keyIs_rel h
  | .inr ks, u, ⟨b, e, h⟩ => by
    obtain ⟨its, r, ⟨o, h1, h2, n, h3⟩, _⟩ := I.tuple (SqT.of (le _ _ h))
    exact ⟨b, e, o, its.toArray, n, h1, h2, h3, by simpa using items_k r⟩
theorem rps_keys {w : World} {K : PySem.W.Frag} : ∀ {ks : List Key} {vs : List V}, Rps w K F vs (ks.map keyD) → vs = ks.map kV
  | [], _, h => by cases h; rfl
  | k :: ks, _, h => by
    rw [List.map_cons] at h
    cases h with
    | cons a t =>
      rw [rps_keys t, List.map_cons]
      cases k <;> (generalize q : keyD _ = D at a; cases a <;> cases q; rfl)
theorem Inv.keyP (I : Inv X pins σ H s) (le : Same F H) {k : KD} {y : V} {u : Value} (r : Rp X.w X.K F y (kdD k)) (ry : RelV y u) : kIs X.prog X.w s.heap k u := by
  cases k with
  | inl k =>
    have : y = kV k := by cases k <;> (generalize q : kdD _ = D at r; cases r <;> cases q; rfl)
    subst this
    exact keyIs_rel ry
  | inr ks =>
    generalize q : kdD (.inr ks) = D at r
    cases r with
    | @tup b vs ds h hs =>
      have q' : PyData.tuple (ks.map keyD) = .tuple ds := q
      injection q' with q'
      subst q'
      cases rps_keys hs
      cases ry
      obtain ⟨its, r, ⟨o, h1, h2, n, h3⟩, _⟩ := I.tuple (le.sqt h.sqt)
      exact ⟨b, rfl, o, its.toArray, n, h1, h2, h3, by simpa using items_k r⟩
    | _ => cases q
/-- a key that may be stored: no tuple that begins with an int -/
def kOk : KD → Bool
  | .inr (.inl _ :: _) => false
  | _ => true
theorem Rp.keyR {w : World} {K : PySem.W.Frag} {k : KD} {y : V} {u : Value} (r : Rp w K F y (kdD k)) (ok : kOk k = true) (ry : RelV y u) : KeyR F k u := by
  cases k with
  | inl k =>
    have : y = kV k := by cases k <;> (generalize q : kdD _ = D at r; cases r <;> cases q; rfl)
    subst this
    exact ry
  | inr ks =>
    generalize q : kdD (.inr ks) = D at r
    cases r with
    | @tup b vs ds h hs =>
      have q' : PyData.tuple (ks.map keyD) = .tuple ds := q
      injection q' with q'
      subst q'
      cases rps_keys hs
      cases ry
      rcases h with h | ⟨⟨i, r, z⟩, _⟩
      · exact ⟨b, rfl, h⟩
      · cases ks with
        | nil => cases z
        | cons k1 ks =>
          cases k1 with
          | inl j => cases ok
          | inr x => rw [List.map_cons] at z; injection z with z _; cases z
    | _ => cases q
theorem Inv.dAt (I : Inv X pins σ H s) (le : Same F H) {xs : List DX} (h : ∀ x ∈ xs, KeyR F x.1 x.2.1) : ∀ x ∈ xs, kIs X.prog X.w s.heap x.1 x.2.1 := fun x hx => I.keyR le (h x hx)
/-- the dict at a is written -/
theorem Inv.dput {a : Addr} {o o' : Obj} {h' : Heap} {t' : Nat} (I : Inv X pins σ H s) (e : H a = some (PinO a o)) (g : h'.get? a = some o') (hs : Heap.SameBut a s.heap h') : Inv X pins σ (upd H a (PinO a o')) { s with heap := h', toks := t' } :=
  I.write (x := a) (e := a) (by rw [e]; trivial) (.inl rfl) (fun b u hb q => (hs.2 b hb).trans q) ⟨_, g⟩ ⟨g, ⟨_, g⟩, fun h1 h2 q k => k _ q⟩
/-! ### d[k] -/
def rDix (w : World) (K : PySem.W.Frag) : R2 := fun x y H Q => ∃ F a kvs k d, x = .ref a ∧ Same F H ∧ Ow w K F H a (.dct kvs) ∧ Rp w K F y (kdD k) ∧ valD kvs k = some d ∧ ∀ v, Rp w K F v d → Q v H
theorem ix_dct (hr : X.A.units + 1 < cLine) : IxR X (rDix X.w X.K) := by
  intro value slice pins s σ H x y v u Q I rx ry h hs
  obtain ⟨F, a, kvs, k, d, rfl, le, ⟨o, xs, vs, e, nz, R, hk, ek, hv, hrp⟩, rk, hd, q⟩ := h
  cases rx
  obtain ⟨u', v', e1, r1, r2⟩ := look_some ek hv hrp hd
  exact tail_any (tyD_k (w := X.w) (I.pinO e) R) slot_dict_getitem.lookup (getItem_k hr (I.keyP le rk ry) (I.pinO e) R (I.dAt le hk) e1 ⟨v', H, I.tok _, r1, q v' r2⟩) hs
/-! ### d[k] = v -/
def rSetD (w : World) (K : PySem.W.Frag) : V → V → V → Hp → (Hp → Prop) → Prop := fun o i v H Q => ∃ F a kvs k d, o = .ref a ∧ Same F H ∧ Ow w K F H a (.dct kvs) ∧ Rp w K F i (kdD k) ∧ kOk k = true ∧ Rp w K F v d ∧ kvs.length < sizeLine ∧ ∀ o', Ow w K F (upd H a (PinO a o')) a (.dct (putD kvs k d)) → Q (upd H a (PinO a o'))
theorem set_dct (hr : X.A.units + 1 < cLine) : PSet X (rSetD X.w X.K) := by
  intro pins s σ H o i v ov iv u Q I ro ri rv h
  obtain ⟨F, a, kvs, k, d, rfl, le, ⟨ob, xs, vs, e, nz, R, hk, ek, hv, hrp⟩, rk, ok, rd, hl, q⟩ := h
  cases ro
  have hlx : xs.length = kvs.length := by have := congrArg List.length ek; simpa using this
  refine setItem_k hr (I.keyP le rk ri) (I.pinO e) R (I.dAt le hk) (by rw [hlx]; exact hl) fun h' o' g R' hs => ⟨_, I.dput e g hs, q o' ?_⟩
  exact put_ow nz R' hk (rk.keyR ok ri) ek hv hrp rv rd
/-! ### in, not in -/
def rDin (w : World) (K : PySem.W.Frag) (neg : Bool) : R2 := fun x y H Q => ∃ F a kvs k, y = .ref a ∧ Same F H ∧ Ow w K F H a (.dct kvs) ∧ Rp w K F x (kdD k) ∧ Q (.bl (if neg then !(valD kvs k).isSome else (valD kvs k).isSome)) H
theorem look_is {w : World} {K : PySem.W.Frag} {xs : List DX} {vs : List V} {kvs : List (KD × PyData)} {k : KD} (e : xs.map (·.1) = kvs.map (·.1)) (hv : Vals vs (xs.map (·.2.2))) (hr : Rps w K F vs (kvs.map (·.2))) : (valX xs k).isSome = (valD kvs k).isSome := by
  cases h : valD kvs k with
  | none => rw [look_none e h]; rfl
  | some d =>
    obtain ⟨u, v, e1, _, _⟩ := look_some e hv hr h
    rw [e1]; rfl
theorem op_notInK (hr : X.A.units + 1 < cLine) : OpR X (compareOp .NotIn) (rDin X.w X.K true) := fun pins s σ H x y v u Q I rx ry h => by
  obtain ⟨F, a, kvs, k, rfl, le, ⟨o, xs, vs, e, nz, R, hk, ek, hv, hrp⟩, rk, q⟩ := h
  cases ry
  refine notIn_k hr (I.keyP le rk rx) nz (I.pinO e) R (I.dAt le hk) ⟨.bl _, H, I.tok _, rfl, ?_⟩
  rw [look_is ek hv hrp]
  exact q
/-! ### {} -/
theorem Inv.far (I : Inv X pins σ H s) : sysModules < s.heap.objs.size := Nat.lt_trans (by decide) ((I.mod.glob.keeps I.bk).lt : mainGlobals < s.heap.objs.size)
def tDNewX (w : World) : TE := fun _ H Q => ∀ p o, H p = none → (p == sysModules) = false → DRec w o [] → Q (.ref p) (upd H p (PinO p o))
theorem pe_dnewX {pos : Pos} : PE X (.Dict [] [] pos) (tDNewX X.w) := fun pins s σ H Q I h =>
  wpAny_Dict_empty ⟨.ref s.heap.objs.size, _, I.laid (a := s.heap.objs.size) (o := PinO s.heap.objs.size { cls := .type "dict", data := .dict #[] }) (t' := s.toks) (fun _ _ q => Heap.get?_push_of_some _ q) (Nat.le_refl _) ⟨Heap.get?_push_size _ rfl, ⟨_, Heap.get?_push_size _ rfl⟩, fun h1 h2 q k => k _ q⟩, rfl,
    h _ _ (I.hok.fresh (Nat.le_refl _)) (beq_eq_false_iff_ne.mpr (Ne.symm (Nat.ne_of_lt I.far))) ⟨⟨rfl, rfl, rfl⟩, ⟨_, _, rfl, rfl⟩, List.nodup_nil, Nat.zero_le _⟩⟩
end
end L2

set_option Elab.async false
set_option linter.all false
set_option maxRecDepth 100000
set_option maxHeartbeats 1000000
/-! walks over dicts, and by enumerate; == of dicts -/
namespace L2
open PySem PySem.Spec PyProof.Rows
section
variable {w : World} {K : PySem.W.Frag} {F H : Hp}
/-- a key as a value -/
def keyV : KD → Value → V
  | .inl k, _ => kV k
  | .inr _, .ref b => .ref b
  | .inr _, _ => .non
def keysV (xs : List DX) : List V := xs.map fun x => keyV x.1 x.2.1
end
/-- over the keys of the dict at a, whose record is o -/
def Itd (a : Addr) (o : Obj) (vs : List V) : It := ⟨fun i H => H a = some (PinO a o) ∧ i < vs.length, fun i H x H' => H' = H ∧ vs[i]? = some x, fun i H => H a = some (PinO a o) ∧ vs.length ≤ i⟩
section
variable {X : Cx} {tg : Expr}
def iDict (w : World) (tl : TE) : TI := fun σ H R => tl σ H fun x H1 => ∃ a o xs F, x = .ref a ∧ H1 a = some (PinO a o) ∧ (a == sysModules) = false ∧ DRec w o xs ∧ (∀ x ∈ xs, KeyR F x.1 x.2.1) ∧ R (Itd a o (keysV xs)) H1
/-! ### enumerate -/
/-- (0, x0), (1, x1), .. of the list at l -/
def Ite (K : PySem.W.Frag) (l : Addr) : It :=
  ⟨fun i H => ∃ xs x, SqL K H l xs ∧ xs[i]? = some x, fun i H x H' => ∃ p y, x = .ref p ∧ H p = none ∧ (∀ xs, SqL K H l xs → xs[i]? = some y) ∧ H' = upd H p (.tup [.int (i : Nat), y]), fun i H => ∃ xs, SqL K H l xs ∧ xs.length ≤ i⟩
end
end L2

set_option Elab.async false
set_option linter.all false
set_option maxRecDepth 100000
set_option maxHeartbeats 1000000
namespace L2
open PySem PySem.Spec PyProof.Rows
section
variable {X : Cx} {pos : Pos}
/-! ### constants and names -/
def zC (d : PyData) : TauE := fun ev C => C d ev
theorem q_int {i : Int} {j} : QE X (.Constant (.int i) j pos) (zC (.int i)) := ⟨_, pe_int, fun _ _ F _ H _ _ R h k => k _ _ F (.int i) H R (.int i) (Same.refl _) h⟩
theorem q_bl {b : Bool} {j} : QE X (.Constant (.bool b) j pos) (zC (.bool b)) := ⟨_, pe_bl, fun _ _ F _ H _ _ R h k => k _ _ F (.bl b) H R (.bl b) (Same.refl _) h⟩
theorem q_str {x : Str} {j} : QE X (.Constant (.str x) j pos) (zC (.str x)) := ⟨_, pe_str, fun _ _ F _ H _ _ R h k => k _ _ F (.str x) H R (.str x) (Same.refl _) h⟩
/-- a name that holds a shared value -/
def zV (i : Nat) : TauE := fun ev C => match ev[i]? with | some (.val d) => C d ev | _ => False
theorem q_v (i : Nat) {x : Str} (hN : X.N[i]? = some x := by rfl) (hv : Vis X.env.scope x := by first | exact Or.inl rfl | exact Or.inr (Or.inl rfl) | exact Or.inr (Or.inr rfl)) (hd : (x == ("__debug__" : Str)) = false := by decide)
    (hcd : (x == ("__classdict__" : Str)) = false := by decide) : QE X (.Name x pos) (zV i) := by
  refine ⟨_, pe_var hN hv hd hcd, fun F₀ ev F σ H Q C R h k => ?_⟩
  unfold zV at h
  split at h
  case h_1 d e =>
    obtain ⟨v, h1, h2⟩ := R.val i d e
    exact ⟨v, h1, k d ev F v H R h2 (Same.refl _) h⟩
  case h_2 => exact h.elim
/-- a name whose thing is shared from here on -/
def zF (i : Nat) : TauE := fun ev C => match ev[i]? with | some (.val d) => C d ev | some (.own m) => C (frz m) (ev.set i (.val (frz m))) | _ => False
theorem q_f (i : Nat) {x : Str} (hN : X.N[i]? = some x := by rfl) (hv : Vis X.env.scope x := by first | exact Or.inl rfl | exact Or.inr (Or.inl rfl) | exact Or.inr (Or.inr rfl)) (hd : (x == ("__debug__" : Str)) = false := by decide)
    (hcd : (x == ("__classdict__" : Str)) = false := by decide) : QE X (.Name x pos) (zF i) := by
  refine ⟨_, pe_var hN hv hd hcd, fun F₀ ev F σ H Q C R h k => ?_⟩
  unfold zF at h
  split at h
  case h_1 d e =>
    obtain ⟨v, h1, h2⟩ := R.val i d e
    exact ⟨v, h1, k d ev F v H R h2 (Same.refl _) h⟩
  case h_2 m e =>
    obtain ⟨a, h1, h2, h3, h4⟩ := R.own i m e
    obtain ⟨o, ho⟩ := h2.there
    obtain ⟨R', rp, sm⟩ := R.freeze e h1 ho
    exact ⟨.ref a, h1, k _ _ _ _ H R' rp sm h⟩
  case h_3 => exact h.elim
/-- a name's own thing, moved out of it -/
def zM (i : Nat) : TauO := fun ev C => match ev[i]? with | some (.own m) => C m (ev.set i .unk) | _ => False
theorem q_m (i : Nat) {x : Str} (hN : X.N[i]? = some x := by rfl) (hv : Vis X.env.scope x := by first | exact Or.inl rfl | exact Or.inr (Or.inl rfl) | exact Or.inr (Or.inr rfl)) (hd : (x == ("__debug__" : Str)) = false := by decide)
    (hcd : (x == ("__classdict__" : Str)) = false := by decide) : QO X (.Name x pos) (zM i) := by
  refine ⟨_, pe_var hN hv hd hcd, fun F₀ ev F σ H Q C R h k => ?_⟩
  unfold zM at h
  split at h
  case h_1 m e =>
    obtain ⟨a, h1, h2, h3, h4⟩ := R.own i m e
    have old : ∀ (j : Nat) (s : Sl), s ≠ .unk → (ev.set i .unk)[j]? = some s → j ≠ i ∧ ev[j]? = some s := fun j s ne z => by
      rcases get_set z with ⟨rfl, z1, _⟩ | ⟨z1, z2⟩
      · exact absurd z1.symm ne
      · exact ⟨z1, z2⟩
    refine ⟨.ref a, h1, k m _ F a H ⟨R.toRB, by rw [List.length_set]; exact R.len, fun j d z => R.val j d (old j _ (by intro q; cases q) z).2, fun j m' z => R.own j m' (old j _ (by intro q; cases q) z).2,
      fun j k m1 m2 b z1 z2 => R.uni j k m1 m2 b (old j _ (by intro q; cases q) z1).2 (old k _ (by intro q; cases q) z2).2, fun j C z => R.exc j C (old j _ (by intro q; cases q) z).2, fun j os z => by
        obtain ⟨nd, kk⟩ := R.cel j os (old j _ (by intro q; cases q) z).2
        refine ⟨nd, fun b m1 hm => ?_⟩
        obtain ⟨q2, q3, q4, q5⟩ := kk b m1 hm
        exact ⟨q2, q3, q4, fun n m' z' => q5 n m' (old n _ (by intro q; cases q) z').2⟩, fun j k os os' z1 z2 => R.uniC j k os os' (old j _ (by intro q; cases q) z1).2 (old k _ (by intro q; cases q) z2).2⟩ h2 h3 h4 ⟨fun j m' z q => ?_, fun j os z m1 hm => ?_⟩ (Same.refl _) h⟩
    · obtain ⟨ne, z'⟩ := old j _ (by intro q; cases q) z
      exact ne (R.uni j i m' m a z' e q h1)
    · exact ((R.cel j os (old j _ (by intro q; cases q) z).2).2 a m1 hm).2.2.2 i m e h1
  case h_2 => exact h.elim
/-- a thing that no name holds is shared from here on -/
theorem RS.freezeT {w : World} {K : PySem.W.Frag} {H₀ F₀ F : Hp} {ev : Ev} {σ : St} {H : Hp} (R : RS w K H₀ F₀ F ev σ H) {a : Addr} {m : MV} {o : HO} (wo : Ow w K F H a m) (hf : F a = Option.none) (h0 : H₀ a = Option.none) (hu : NB ev σ a)
    (ho : H a = some o) : RS w K H₀ F₀ (upd F a o) ev σ H ∧ Rp w K (upd F a o) (.ref a) (frz m) ∧ Same F (upd F a o) := by
  have sm : Same F (upd F a o) := same_upd hf
  refine ⟨⟨⟨fun b u q => ?_, R.k0, R.f0.trans sm, fun b z => ?_⟩, R.len, fun j d' e => ?_, fun j m1 e => ?_, R.uni, fun j C e => ?_, fun j os e => ?_, R.uniC⟩, wo.frz ho hf, sm⟩
  · by_cases e : b = a
    · subst e; rw [upd_same] at q; rw [ho]; exact q
    · rw [upd_ne e] at q; exact R.le b u q
  · by_cases e : b = a
    · subst e; exact .inr h0
    · rw [upd_ne e] at z; exact R.nw b z
  · obtain ⟨v, z1, z2⟩ := R.val j d' e
    exact ⟨v, z1, z2.mono sm⟩
  · obtain ⟨b, q3, q4, q5, q6⟩ := R.own j m1 e
    have ne : b ≠ a := by
      rintro rfl
      exact hu.own j m1 e q3
    exact ⟨b, q3, q4.grow sm (Same.refl _), by rw [upd_ne ne]; exact q5, q6⟩
  · obtain ⟨ea, z1, z2⟩ := R.exc j C e
    exact ⟨ea, z1, sm _ _ z2⟩
  · obtain ⟨nd, k⟩ := R.cel j os e
    refine ⟨nd, fun b m1 hm => ?_⟩
    obtain ⟨q2, q3, q4, q5⟩ := k b m1 hm
    have ne : b ≠ a := fun z => hu.cel j os e m1 (z ▸ hm)
    exact ⟨q2.grow sm (Same.refl _), by rw [upd_ne ne]; exact q3, q4, q5⟩
def zFr (τ : TauO) : TauE := fun ev C => τ ev fun m ev' => C (frz m) ev'
theorem QO.qe {e : Expr} {τ : TauO} (h : QO X e τ) : QE X e (zFr τ) := by
  obtain ⟨t, ht, k⟩ := h
  refine ⟨t, ht, fun F₀ ev F σ H Q C R h kk => k F₀ ev F σ H Q _ R h fun m ev' F' a H' R' w hf h0 hu sm c => ?_⟩
  obtain ⟨o, ho⟩ := w.there
  obtain ⟨R2, rp, sm2⟩ := R'.freezeT w hf h0 hu ho
  exact kk _ _ _ _ _ R2 rp (sm.trans sm2) c

/-! ### operations -/
abbrev Rho2 := PyData → PyData → (PyData → Prop) → Prop
def OpP (X : Cx) (f : Value → Value → Sem Value) (ρ : Rho2) : Prop := ∃ r : R2, OpR X f r ∧ ∀ (F H : Hp) (x y : V) (dx dy : PyData) (Q : VK) (C : PyData → Prop), Same F H → Rp X.w X.K F x dx → Rp X.w X.K F y dy → ρ dx dy C →
  (∀ d F' v H', Gr F H F' H' → Rp X.w X.K F' v d → C d → Q v H') → r x y H Q
def zOp (ρ : Rho2) (τa τb : TauE) : TauE := fun ev C => τa ev fun d1 ev1 => τb ev1 fun d2 ev2 => ρ d1 d2 fun d => C d ev2
theorem zop {ρ : Rho2} {r : R2} {τa τb : TauE} {ta tb : TE} (kr : ∀ (F H : Hp) (x y : V) (dx dy : PyData) (Q : VK) (C : PyData → Prop), Same F H → Rp X.w X.K F x dx → Rp X.w X.K F y dy → ρ dx dy C →
      (∀ d F' v H', Gr F H F' H' → Rp X.w X.K F' v d → C d → Q v H') → r x y H Q)
    (ka : ∀ (F₀ : Hp) (ev : Ev) (F : Hp) (σ : St) (H : Hp) (Q : VK) (C : PyData → Ev → Prop), RS X.w X.K X.H₀ F₀ F ev σ H → τa ev C → (∀ d ev' F' v H', RS X.w X.K X.H₀ F₀ F' ev' σ H' → Rp X.w X.K F' v d → Same F F' → C d ev' → Q v H') → ta σ H Q)
    (kb : ∀ (F₀ : Hp) (ev : Ev) (F : Hp) (σ : St) (H : Hp) (Q : VK) (C : PyData → Ev → Prop), RS X.w X.K X.H₀ F₀ F ev σ H → τb ev C → (∀ d ev' F' v H', RS X.w X.K X.H₀ F₀ F' ev' σ H' → Rp X.w X.K F' v d → Same F F' → C d ev' → Q v H') → tb σ H Q)
    (F₀ : Hp) (ev : Ev) (F : Hp) (σ : St) (H : Hp) (Q : VK) (C : PyData → Ev → Prop) (R : RS X.w X.K X.H₀ F₀ F ev σ H) (h : zOp ρ τa τb ev C) (k : ∀ d ev' F' v H', RS X.w X.K X.H₀ F₀ F' ev' σ H' → Rp X.w X.K F' v d → Same F F' → C d ev' → Q v H') : tOp r ta tb σ H Q :=
  ka F₀ ev F σ H _ _ R h fun d1 ev1 F1 x H1 R1 r1 s1 c1 => kb F₀ ev1 F1 σ H1 _ _ R1 c1 fun d2 ev2 F2 y H2 R2 r2 s2 c2 =>
    kr F2 H2 x y d1 d2 _ _ R2.le (r1.mono s2) r2 c2 fun d F3 v H3 g r3 c3 => k d ev2 F3 v H3 (R2.grow g) r3 ((s1.trans s2).trans g.ff) c3
theorem q_op {op : Operator} {ρ : Rho2} {a b : Expr} {τa τb : TauE} (ho : OpP X (binaryOp op) ρ) (ha : QE X a τa) (hb : QE X b τb) : QE X (.BinOp a op b pos) (zOp ρ τa τb) := by
  obtain ⟨r, hr, kr⟩ := ho
  obtain ⟨ta, ha, ka⟩ := ha
  obtain ⟨tb, hb, kb⟩ := hb
  exact ⟨_, pe_op hr ha hb, zop kr ka kb⟩
theorem q_cmp {op : CmpOp} {ρ : Rho2} {a b : Expr} {τa τb : TauE} (ho : OpP X (compareOp op) ρ) (ha : QE X a τa) (hb : QE X b τb) (hm : behindInMarks op b = false) : QE X (.Compare a [op] [b] pos) (zOp ρ τa τb) := by
  obtain ⟨r, hr, kr⟩ := ho
  obtain ⟨ta, ha, ka⟩ := ha
  obtain ⟨tb, hb, kb⟩ := hb
  exact ⟨_, pe_cmpR hr ha hb hm, zop kr ka kb⟩
/-- a value as a test -/
def zB (τ : TauE) : TauT := fun ev C => τ ev fun d ev' => match d with | .bool b => C b ev' | _ => False
theorem zb {τ : TauE} {t : TE} {t' : TT} (ht : ∀ σ H Q, (t σ H fun x H1 => ∃ c, x = .bl c ∧ Q c H1) → t' σ H Q)
    (ka : ∀ (F₀ : Hp) (ev : Ev) (F : Hp) (σ : St) (H : Hp) (Q : VK) (C : PyData → Ev → Prop), RS X.w X.K X.H₀ F₀ F ev σ H → τ ev C → (∀ d ev' F' v H', RS X.w X.K X.H₀ F₀ F' ev' σ H' → Rp X.w X.K F' v d → Same F F' → C d ev' → Q v H') → t σ H Q)
    (F₀ : Hp) (ev : Ev) (F : Hp) (σ : St) (H : Hp) (Q : Bool → Hp → Prop) (C : Bool → Ev → Prop) (R : RS X.w X.K X.H₀ F₀ F ev σ H) (h : zB τ ev C) (k : ∀ b ev' F' H', RS X.w X.K X.H₀ F₀ F' ev' σ H' → Same F F' → C b ev' → Q b H') : t' σ H Q := by
  refine ht σ H Q (ka F₀ ev F σ H _ _ R h fun d ev' F' v H' R' r s c => ?_)
  cases r with
  | bl b => exact ⟨b, rfl, k b ev' F' H' R' s c⟩
  | _ => exact False.elim c
theorem q_tval {e : Expr} {τ : TauE} (h : QE X e τ) (he : ∀ whole, isTrue e X.env whole = (do let v ← whole; standAt e.pos; holding [v] (truthy v)) := by intro _; rfl) : QT X e (zB τ) := by
  obtain ⟨t, ht, ka⟩ := h
  exact ⟨_, pt_val ht he, zb (fun _ _ _ z => z) ka⟩
theorem q_tcmp {op : CmpOp} {ρ : Rho2} {a b : Expr} {τa τb : TauE} (ho : OpP X (compareOp op) ρ) (ha : QE X a τa) (hb : QE X b τb) (hm : behindInMarks op b = false) : QT X (.Compare a [op] [b] pos) (zB (zOp ρ τa τb)) := by
  obtain ⟨r, hr, kr⟩ := ho
  obtain ⟨ta, ha, ka⟩ := ha
  obtain ⟨tb, hb, kb⟩ := hb
  exact ⟨_, pt_cmpR hr ha hb hm, zb (fun _ _ _ z => z) (zop kr ka kb)⟩
def zNot (τ : TauT) : TauT := fun ev C => τ ev fun b ev' => C (!b) ev'
theorem q_tnot {a : Expr} {τ : TauT} (h : QT X a τ) : QT X (.UnaryOp .Not a pos) (zNot τ) := by
  obtain ⟨t, ht, ka⟩ := h
  exact ⟨_, pt_not ht, fun F₀ ev F σ H Q C R h k => ka F₀ ev F σ H _ _ R h fun b ev' F' H' R' s c => k _ _ _ _ R' s c⟩
def zAnd (τ υ : TauT) : TauT := fun ev C => τ ev fun b ev' => if b = true then υ ev' C else C false ev'
def zOr (τ υ : TauT) : TauT := fun ev C => τ ev fun b ev' => if b = true then C true ev' else υ ev' C
theorem q_wor1 {a : Expr} {τ : TauT} (h : QT X a τ) : QW X (.BoolOp .Or [a] pos) τ := by
  obtain ⟨t, ht, ka⟩ := h
  exact ⟨t, pw_or1 ht, ka⟩
theorem q_wor {a b : Expr} {rest : List Expr} {τ υ : TauT} (h : QT X a τ) (g : QW X (.BoolOp .Or (b :: rest) pos) υ) : QW X (.BoolOp .Or (a :: b :: rest) pos) (zOr τ υ) := by
  obtain ⟨t, ht, ka⟩ := h
  obtain ⟨u, hu, kb⟩ := g
  refine ⟨_, pw_or ht hu, fun F₀ ev F σ H Q C R h k => ka F₀ ev F σ H _ _ R h fun b ev' F' H' R' s c => ?_⟩
  cases b with
  | true => exact k _ _ _ _ R' s c
  | false => exact kb F₀ ev' F' σ H' _ _ R' c fun b2 ev2 F2 H2 R2 s2 c2 => k _ _ _ _ R2 (s.trans s2) c2
theorem QW.qt {e : Expr} {τ : TauT} (h : QW X e τ) : QT X e τ := by
  obtain ⟨t, ht, ka⟩ := h
  exact ⟨t, ht.pt, ka⟩
/-! and, or, not, if as values -/
def zAndV (τ υ : TauE) : TauE := fun ev C => τ ev fun d ev' => match d with | .bool b => if b = true then υ ev' C else C (.bool false) ev' | _ => False
def zOrV (τ υ : TauE) : TauE := fun ev C => τ ev fun d ev' => match d with | .bool b => if b = true then C (.bool true) ev' else υ ev' C | _ => False
def zNotV (τ : TauE) : TauE := fun ev C => τ ev fun d ev' => match d with | .bool b => C (.bool !b) ev' | _ => False
def zIfE (τ : TauT) (τa τb : TauE) : TauE := fun ev C => τ ev fun b ev' => if b = true then τa ev' C else τb ev' C
/-! ### argument lists, displays -/
def zNil : TauA := fun ev C => C [] ev
def zCons (τ : TauE) (υ : TauA) : TauA := fun ev C => τ ev fun d ev1 => υ ev1 fun ds ev2 => C (d :: ds) ev2
theorem q_anil : QA X [] zNil := ⟨_, pa_nil, fun _ _ F _ H _ _ R h k => k _ _ F [] H R .nil (Same.refl _) h⟩
theorem q_acons {e : Expr} {es : List Expr} {τ : TauE} {υ : TauA} (h : QE X e τ) (g : QA X es υ) (hs : starEach (e :: es) X.env = (false, eval e X.env) :: starEach es X.env := by rfl) : QA X (e :: es) (zCons τ υ) := by
  obtain ⟨t, ht, ka⟩ := h
  obtain ⟨u, hu, kb⟩ := g
  exact ⟨_, pa_cons ht hu hs, fun F₀ ev F σ H Q C R h k => ka F₀ ev F σ H _ _ R h fun d ev' F' v H' R' r s c => kb F₀ ev' F' σ H' _ _ R' c fun d2 ev2 F2 v2 H2 R2 r2 s2 c2 => k _ _ _ _ _ R2 (.cons (r.mono s2) r2) (s.trans s2) c2⟩
def zTup (τ : TauA) : TauE := fun ev C => τ ev fun ds ev' => ds.length ≤ sizeLine ∧ C (.tuple ds) ev'
theorem q_tup {es : List Expr} {x1} {τ : TauA} (h : QA X es τ) : QE X (.Tuple es x1 pos) (zTup τ) := by
  obtain ⟨t, ht, ka⟩ := h
  refine ⟨_, pe_tup ht, fun F₀ ev F σ H Q C R h k => ka F₀ ev F σ H _ _ R h fun ds ev' F' vs H' R' r s c => ⟨by rw [r.length]; exact c.1, fun p hp => ?_⟩⟩
  have g : Gr F' H' (upd F' p (.tup vs)) (upd H' p (.tup vs)) := Gr.new R'.le hp
  exact k _ _ _ _ _ (R'.grow g) (.tup (SqK.of upd_same) (r.mono g.ff)) (s.trans g.ff) c.2
def zLst (τ : TauA) : TauO := fun ev C => τ ev fun ds ev' => ds.length ≤ sizeLine ∧ C (.lst ds) ev'
theorem q_lst {es : List Expr} {τ : TauA} (h : QA X es τ) : QO X (.List es pos) (zLst τ) := by
  obtain ⟨t, ht, ka⟩ := h
  refine ⟨_, pe_lst ht, fun F₀ ev F σ H Q C R h k => ka F₀ ev F σ H _ _ R h fun ds ev' F' vs H' R' r s c => ⟨by rw [r.length]; exact c.1, fun p hp => ?_⟩⟩
  have g : Gr F' H' F' (upd H' p (.lst vs)) := Gr.newO R'.le hp
  exact k _ _ _ _ _ (R'.grow g) (Ow.ofL upd_same r) (R'.le.free hp) (R'.k0.free hp) (R'.nobody hp) s c.2
end
end L2

set_option Elab.async false
set_option linter.all false
set_option maxRecDepth 100000
set_option maxHeartbeats 1000000
namespace L2
open PySem PySem.Spec PyProof.Rows
section
variable {X : Cx} {pos : Pos}
/-! ### ints -/
def rhI (C0 : Int → Int → Prop) (g : Int → Int → Int) : Rho2 := fun a b C => match a, b with | .int i, .int j => C0 i j ∧ C (.int (g i j)) | _, _ => False
def rhI0 (g : Int → Int → Int) : Rho2 := fun a b C => match a, b with | .int i, .int j => C (.int (g i j)) | _, _ => False
def rhB (g : Int → Int → Bool) : Rho2 := fun a b C => match a, b with | .int i, .int j => C (.bool (g i j)) | _, _ => False
theorem oI {f : Value → Value → Sem Value} {C0 : Int → Int → Prop} {g : Int → Int → Int} (h : OpR X f (rI C0 fun i j => .int (g i j))) : OpP X f (rhI C0 g) :=
  ⟨_, h, fun F H x y dx dy Q C le rx ry c k => by
    cases rx with
    | int i =>
      cases ry with
      | int j => exact ⟨i, j, rfl, rfl, c.1, k _ _ _ _ (Gr.refl le) (.int _) c.2⟩
      | _ => exact False.elim c
    | _ => exact False.elim c⟩
theorem oI0 {f : Value → Value → Sem Value} {g : Int → Int → Int} (h : OpR X f (rI0 fun i j => .int (g i j))) : OpP X f (rhI0 g) :=
  ⟨_, h, fun F H x y dx dy Q C le rx ry c k => by
    cases rx with
    | int i =>
      cases ry with
      | int j => exact ⟨i, j, rfl, rfl, k _ _ _ _ (Gr.refl le) (.int _) c⟩
      | _ => exact False.elim c
    | _ => exact False.elim c⟩
theorem oB {f : Value → Value → Sem Value} {g : Int → Int → Bool} (h : OpR X f (rI0 fun i j => .bl (g i j))) : OpP X f (rhB g) :=
  ⟨_, h, fun F H x y dx dy Q C le rx ry c k => by
    cases rx with
    | int i =>
      cases ry with
      | int j => exact ⟨i, j, rfl, rfl, k _ _ _ _ (Gr.refl le) (.bl _) c⟩
      | _ => exact False.elim c
    | _ => exact False.elim c⟩
def rhAdd : Rho2 := fun a b C => match a, b with | .int i, .int j => C (.int (i + j)) | _, _ => False
theorem o_add : OpP X (binaryOp .Add) rhAdd := oI0 op_add
def rhSub : Rho2 := fun a b C => match a, b with | .int i, .int j => C (.int (i - j)) | _, _ => False
theorem o_sub : OpP X (binaryOp .Sub) rhSub := oI0 op_sub
def CM (i j : Int) : Prop := CMul i j ∨ CMulS i j
theorem op_mulM : OpR X (binaryOp .Mult) (rI CM fun i j => .int (i * j)) := fun pins s σ H x y v u Q I rx ry h => by
  obtain ⟨i, j, e1, e2, c, q⟩ := h
  rcases c with c | c
  · exact op_mul pins s σ H x y v u Q I rx ry ⟨i, j, e1, e2, c, q⟩
  · exact op_mulS pins s σ H x y v u Q I rx ry ⟨i, j, e1, e2, c, q⟩
theorem CM.sz {i j : Int} {m n : Nat} (h : Sz m i) (g : Sz n j) (hl : m + n ≤ 134217728 := by decide) : CM i j := .inr ⟨m, n, h, g, hl⟩
theorem CM.l {i j : Int} (h : -(2 ^ 64) < i) (h' : i < 2 ^ 64) : CM i j := .inl (.inl ⟨h, h'⟩)
theorem CM.r {i j : Int} (h : -(2 ^ 64) < j) (h' : j < 2 ^ 64) : CM i j := .inl (.inr ⟨h, h'⟩)
def rhMul : Rho2 := fun a b C => match a, b with | .int i, .int j => CM i j ∧ C (.int (i * j)) | _, _ => False
theorem o_mul : OpP X (binaryOp .Mult) rhMul := oI op_mulM
def rhDiv : Rho2 := fun a b C => match a, b with | .int i, .int j => (j ≠ 0 ∧ Sz 9000 j) ∧ C (.int (i.fdiv j)) | _, _ => False
theorem o_div : OpP X (binaryOp .FloorDiv) rhDiv := oI op_fdivS
def rhMod : Rho2 := fun a b C => match a, b with | .int i, .int j => 0 < j ∧ C (.int (i % j)) | _, _ => False
theorem o_mod : OpP X (binaryOp .Mod) rhMod := oI op_mod
def rhPow : Rho2 := fun a b C => match a, b with | .int i, .int j => CPow i j ∧ C (.int (i ^ j.toNat)) | _, _ => False
theorem o_pow : OpP X (binaryOp .Pow) rhPow := oI op_pow
def rhLt : Rho2 := fun a b C => match a, b with | .int i, .int j => C (.bool (decide (i < j))) | _, _ => False
theorem o_lt : OpP X (compareOp .Lt) rhLt := oB op_lt
def rhLe : Rho2 := fun a b C => match a, b with | .int i, .int j => C (.bool (decide (i ≤ j))) | _, _ => False
def rhGt : Rho2 := fun a b C => match a, b with | .int i, .int j => C (.bool (decide (j < i))) | _, _ => False
def rhGe : Rho2 := fun a b C => match a, b with | .int i, .int j => C (.bool (decide (j ≤ i))) | _, _ => False
theorem o_ge : OpP X (compareOp .GtE) rhGe := oB op_ge
/-! ### == of ints, truths, texts, None -/
def rhEq : Rho2 := fun a b C => match a, b with
  | .int i, .int j => C (.bool (decide (i = j))) | .str x, .str y => C (.bool (decide (x = y))) | .bool x, .bool y => C (.bool (decide (x = y))) | .none, .none => C (.bool true) | _, _ => False
def rhNe : Rho2 := fun a b C => match a, b with
  | .int i, .int j => C (.bool (!decide (i = j))) | .str x, .str y => C (.bool (!decide (x = y))) | .bool x, .bool y => C (.bool (!decide (x = y))) | .none, .none => C (.bool false) | _, _ => False
theorem dI (i j : Int) : decide (V.int i = V.int j) = decide (i = j) := decide_eq_decide.mpr ⟨V.int.inj, congrArg _⟩
theorem dS (i j : Str) : decide (V.str i = V.str j) = decide (i = j) := decide_eq_decide.mpr ⟨V.str.inj, congrArg _⟩
theorem dB (i j : Bool) : decide (V.bl i = V.bl j) = decide (i = j) := decide_eq_decide.mpr ⟨V.bl.inj, congrArg _⟩
theorem o_eq : OpP X (compareOp .Eq) rhEq :=
  ⟨_, op_eq, fun F H x y dx dy Q C le rx ry c k => by
    cases rx with
    | int i =>
      cases ry with
      | int j => exact ⟨rfl, by rw [dI]; exact k _ _ _ _ (Gr.refl le) (.bl _) c⟩
      | _ => exact False.elim c
    | str i =>
      cases ry with
      | str j => exact ⟨rfl, by rw [dS]; exact k _ _ _ _ (Gr.refl le) (.bl _) c⟩
      | _ => exact False.elim c
    | bl i =>
      cases ry with
      | bl j => exact ⟨rfl, by rw [dB]; exact k _ _ _ _ (Gr.refl le) (.bl _) c⟩
      | _ => exact False.elim c
    | non =>
      cases ry with
      | non => exact ⟨rfl, by rw [decide_eq_true rfl]; exact k _ _ _ _ (Gr.refl le) (.bl _) c⟩
      | _ => exact False.elim c
    | _ => exact False.elim c⟩
theorem o_ne : OpP X (compareOp .NotEq) rhNe :=
  ⟨_, op_ne, fun F H x y dx dy Q C le rx ry c k => by
    cases rx with
    | int i =>
      cases ry with
      | int j => exact ⟨rfl, by rw [dI]; exact k _ _ _ _ (Gr.refl le) (.bl _) c⟩
      | _ => exact False.elim c
    | str i =>
      cases ry with
      | str j => exact ⟨rfl, by rw [dS]; exact k _ _ _ _ (Gr.refl le) (.bl _) c⟩
      | _ => exact False.elim c
    | bl i =>
      cases ry with
      | bl j => exact ⟨rfl, by rw [dB]; exact k _ _ _ _ (Gr.refl le) (.bl _) c⟩
      | _ => exact False.elim c
    | non =>
      cases ry with
      | non => exact ⟨rfl, by rw [decide_eq_true rfl]; exact k _ _ _ _ (Gr.refl le) (.bl _) c⟩
      | _ => exact False.elim c
    | _ => exact False.elim c⟩
/-! ### == of data -/
mutual
theorem Rp.rdD {w : World} {K : PySem.W.Frag} {F : Hp} : ∀ {v : V} {d : PyData}, Rp w K F v d → d.canLay0 = true → RdD K F v d
  | _, _, .non, _ => .non
  | _, _, .bl b, _ => .bl b
  | _, _, .int i, _ => .int i
  | _, _, .str x, _ => .str x
  | _, _, .lst h hs, c => .lst h (Rps.rdD hs (by simpa only [PyData.canLay0] using c))
  | _, _, .tup h hs, c => .tup h.sqt (Rps.rdD hs (by simpa only [PyData.canLay0] using c))
  | _, _, .dct _ _ _ _ _ _ _, c => by simp only [PyData.canLay0] at c; cases c
theorem Rps.rdD {w : World} {K : PySem.W.Frag} {F : Hp} : ∀ {vs : List V} {ds : List PyData}, Rps w K F vs ds → PyData.canLayAll0 ds = true → RdDs K F vs ds
  | _, _, .nil, _ => .nil
  | _, _, .cons h hs, c => by
    simp only [PyData.canLayAll0, Bool.and_eq_true] at c
    exact .cons (Rp.rdD h c.1) (Rps.rdD hs c.2)
end
def rhEqD : Rho2 := fun a b C => SeqAt.shaped a = true ∧ SeqAt.shaped b = true ∧ C (.bool (PyData.eqv a b))
def rhNeD : Rho2 := fun a b C => SeqAt.shaped a = true ∧ SeqAt.shaped b = true ∧ C (.bool (!PyData.eqv a b))
theorem o_eqD {k : Nat} (hr : Room k X.A) : OpP X (compareOp .Eq) rhEqD :=
  ⟨_, op_eqD hr.units, fun F H x y dx dy Q C le rx ry c k =>
    ⟨dx, dy, (rx.mono le).rdD (SeqAt.canLay_of_shaped c.1), (ry.mono le).rdD (SeqAt.canLay_of_shaped c.2.1), c.1, c.2.1, k _ _ _ _ (Gr.refl le) (.bl _) c.2.2⟩⟩
theorem o_neD {k : Nat} (hr : Room k X.A) : OpP X (compareOp .NotEq) rhNeD :=
  ⟨_, op_neD hr.units, fun F H x y dx dy Q C le rx ry c k =>
    ⟨dx, dy, (rx.mono le).rdD (SeqAt.canLay_of_shaped c.1), (ry.mono le).rdD (SeqAt.canLay_of_shaped c.2.1), c.1, c.2.1, k _ _ _ _ (Gr.refl le) (.bl _) c.2.2⟩⟩
def isNoneD : PyData → Bool | .none => true | _ => false
def rhIsN : Rho2 := fun a b C => match b with | .none => C (.bool (isNoneD a)) | _ => False
def rhNotN : Rho2 := fun a b C => match b with | .none => C (.bool (!isNoneD a)) | _ => False
/-! ### one-place operations -/
def zNeg (τ : TauE) : TauE := fun ev C => τ ev fun d ev' => match d with | .int i => C (.int (-i)) ev' | _ => False
/-! ### items -/
theorem Rps.atI {w : World} {K : PySem.W.Frag} {F : Hp} {vs : List V} {ds : List PyData} {i : Int} {d : PyData} (h : Rps w K F vs ds) (e : L2.atI ds i = some d) : ∃ v, L2.atI vs i = some v ∧ Rp w K F v d := by
  unfold L2.atI at e ⊢
  rw [h.length]
  cases q : ixN ds.length i with
  | none => rw [q] at e; cases e
  | some j => rw [q] at e; exact h.get e
/-- of a thing that is there -/
def optC {α : Type} (o : Option α) (C : α → Prop) : Prop := match o with | some d => C d | none => False
theorem optC_of {α : Type} {o : Option α} {d : α} {C : α → Prop} (e : o = some d) (h : C d) : optC o C := by
  rw [e]
  exact h
def rhIx : Rho2 := fun a b C => match a, b with
  | .list ds, .int i => optC (atI ds i) C
  | .tuple ds, .int i => optC (atI ds i) C
  | .str z, .int i => z.length ≤ sizeLine ∧ optC (atI z.cps.toList i) fun c => C (.str ⟨#[c]⟩)
  | _, _ => False
theorem ix_any {F H : Hp} {x y : V} {dx dy : PyData} {Q : VK} {C : PyData → Prop} (le : Same F H) (rx : Rp X.w X.K F x dx) (ry : Rp X.w X.K F y dy) (c : rhIx dx dy C) (k : ∀ d F' v H', Gr F H F' H' → Rp X.w X.K F' v d → C d → Q v H') : rIx X.K x y H Q := by
  cases rx with
  | @lst a vs ds h hs =>
    cases ry with
    | int i =>
      cases e : atI ds i with
      | none => unfold rhIx at c; simp only [e, optC] at c
      | some d =>
        unfold rhIx at c
        simp only [e, optC] at c
        obtain ⟨v, e', r⟩ := hs.atI e
        exact .inl ⟨_, _, i, v, rfl, rfl, le.seq h, e', k _ _ _ _ (Gr.refl le) r c⟩
    | _ => exact False.elim c
  | @tup a vs ds h hs =>
    cases ry with
    | int i =>
      cases e : atI ds i with
      | none => unfold rhIx at c; simp only [e, optC] at c
      | some d =>
        unfold rhIx at c
        simp only [e, optC] at c
        obtain ⟨v, e', r⟩ := hs.atI e
        exact .inr (.inl ⟨_, _, i, v, rfl, rfl, le.sqt h.sqt, e', k _ _ _ _ (Gr.refl le) r c⟩)
    | _ => exact False.elim c
  | str z =>
    cases ry with
    | int i =>
      cases e : atI z.cps.toList i with
      | none => unfold rhIx at c; simp only [e, optC] at c; exact False.elim c.2
      | some d =>
        unfold rhIx at c
        simp only [e, optC] at c
        exact .inr (.inr ⟨z, i, d, rfl, rfl, c.1, e, k _ _ _ _ (Gr.refl le) (.str _) c.2⟩)
    | _ => exact False.elim c
  | _ => exact False.elim c
theorem q_ix {a b : Expr} {τa τb : TauE} (ha : QE X a τa) (hb : QE X b τb) (hs : PlainIx b) : QE X (.Subscript a b pos) (zOp rhIx τa τb) := by
  obtain ⟨ta, ha, ka⟩ := ha
  obtain ⟨tb, hb, kb⟩ := hb
  exact ⟨_, pe_ix ix_seq ha hb hs, zop (fun F H x y dx dy Q C le rx ry c k => ix_any le rx ry c k) ka kb⟩
/-- what a slot holds, for a look -/
def peek : Option Sl → Option PyData
  | some (.val d) => some d
  | some (.own m) => some (frz m)
  | _ => none
/-- a look at a name's thing: valid at once -/
theorem RS.peek {w : World} {K : PySem.W.Frag} {H₀ F₀ F : Hp} {ev : Ev} {σ : St} {H : Hp} (R : RS w K H₀ F₀ F ev σ H) {i : Nat} {d : PyData} (e : L2.peek ev[i]? = some d) : ∃ v, σ[i]? = some (some v) ∧ Rp w K H v d := by
  unfold L2.peek at e
  split at e
  case h_1 d' q =>
    cases e
    obtain ⟨v, h1, h2⟩ := R.val i _ q
    exact ⟨v, h1, h2.mono R.le⟩
  case h_2 m q =>
    cases e
    obtain ⟨a, h1, h2, h3, h4⟩ := R.own i m q
    refine ⟨.ref a, h1, ?_⟩
    cases m with
    | lst ds =>
      obtain ⟨vs, z, r⟩ := h2
      exact .lst (SqL.of z) (r.mono R.le)
    | dct kvs =>
      obtain ⟨o, xs, vs, z, l, q, kk, e, u, r⟩ := h2
      exact .dct z l q (fun x hx => (kk x hx).mono R.le) e u (r.mono R.le)
  case h_3 => cases e
end
end L2

set_option Elab.async false
set_option linter.all false
set_option maxRecDepth 100000
set_option maxHeartbeats 1000000
namespace L2
open PySem PySem.Spec PyProof.Rows
section
variable {X : Cx} {pos : Pos}
/-! ### looks at a name's thing -/
theorem Rp.sizes {w : World} {K : PySem.W.Frag} {F : Hp} {v : V} {ds : List PyData} (h : Rp w K F v (.list ds)) : ∃ a vs, v = .ref a ∧ SqL K F a vs ∧ Rps w K F vs ds := by
  cases h with
  | lst h hs => exact ⟨_, _, rfl, h, hs⟩
theorem Rp.sizesT {w : World} {K : PySem.W.Frag} {F : Hp} {v : V} {ds : List PyData} (h : Rp w K F v (.tuple ds)) : ∃ a vs, v = .ref a ∧ SqT K F a vs ∧ Rps w K F vs ds := by
  cases h with
  | tup h hs => exact ⟨_, _, rfl, h.sqt, hs⟩
/-- an item of what a name owns: the item itself is shared -/
theorem RS.item {w : World} {K : PySem.W.Frag} {H₀ F₀ F : Hp} {ev : Ev} {σ : St} {H : Hp} (R : RS w K H₀ F₀ F ev σ H) {i : Nat} {ds : List PyData} (e : ev[i]? = some (.own (.lst ds))) : ∃ a vs, σ[i]? = some (some (.ref a)) ∧ H a = some (.lst vs) ∧ Rps w K F vs ds := by
  obtain ⟨a, h1, ⟨vs, h2, h3⟩, _⟩ := R.own i _ e
  exact ⟨a, vs, h1, h2, h3⟩
/-- x[e], x a name that owns a list -/
def zIxV (i : Nat) (τ : TauE) : TauE := fun ev C => τ ev fun d ev' => match ev'[i]?, d with
  | some (.own (.lst ds)), .int k => optC (atI ds k) fun q => C q ev'
  | _, _ => False
/-! ### slices -/
def cutD (ds : List PyData) (lo hi : Option Int) : List PyData := (ds.drop (HT.sIx ds.length 0 lo)).take (HT.sIx ds.length ds.length hi - HT.sIx ds.length 0 lo)
theorem Rps.cut {w : World} {K : PySem.W.Frag} {F : Hp} {vs : List V} {ds : List PyData} (h : Rps w K F vs ds) (lo hi : Option Int) : Rps w K F (cutV vs lo hi) (cutD ds lo hi) := by
  unfold cutV cutD
  rw [h.length]
  exact (h.drop _).take _
abbrev TauP := Ev → (Option Int → Ev → Prop) → Prop
def QP (X : Cx) (e : Option Expr) (τ : TauP) : Prop := ∃ t : TO, PO X e t ∧ ∀ (F₀ : Hp) (ev : Ev) (F : Hp) (σ : St) (H : Hp) (Q : Option Int → Hp → Prop) (C : Option Int → Ev → Prop), RS X.w X.K X.H₀ F₀ F ev σ H → τ ev C →
  (∀ b ev' F' H', RS X.w X.K X.H₀ F₀ F' ev' σ H' → Same F F' → C b ev' → Q b H') → t σ H Q
def zNo : TauP := fun ev C => C none ev
def zPart (τ : TauE) : TauP := fun ev C => τ ev fun d ev' => match d with | .int i => C (some i) ev' | _ => False
theorem q_pno : QP X none zNo := ⟨_, po_none, fun _ _ F _ H _ _ R h k => k _ _ F H R (Same.refl _) h⟩
theorem q_p {e : Expr} {τ : TauE} (h : QE X e τ) : QP X (some e) (zPart τ) := by
  obtain ⟨t, ht, ka⟩ := h
  refine ⟨_, po_some ht, fun F₀ ev F σ H Q C R h k => ka F₀ ev F σ H _ _ R h fun d ev' F' v H' R' r s c => ?_⟩
  cases r with
  | int i => exact ⟨i, rfl, k _ _ _ _ R' s c⟩
  | _ => exact False.elim c
/-- e[lo:hi] of a list -/
def zSl (τ : TauE) (τl τh : TauP) : TauO := fun ev C => τ ev fun d ev1 => τl ev1 fun l ev2 => τh ev2 fun u ev3 => match d with | .list ds => C (.lst (cutD ds l u)) ev3 | _ => False
theorem q_sl {e : Expr} {lo hi : Option Expr} {p2 : Pos} {τ : TauE} {τl τh : TauP} (h : QE X e τ) (hl : QP X lo τl) (hh : QP X hi τh) : QO X (.Subscript e (.Slice lo hi none p2) pos) (zSl τ τl τh) := by
  obtain ⟨t, ht, ka⟩ := h
  obtain ⟨tl, hl, kl⟩ := hl
  obtain ⟨th, hh, kh⟩ := hh
  refine ⟨_, pe_slice sl_list ht hl hh, fun F₀ ev F σ H Q C R h k => ka F₀ ev F σ H _ _ R h fun d ev1 F1 v H1 R1 r s1 c => kl F₀ ev1 F1 σ H1 _ _ R1 c fun l ev2 F2 H2 R2 s2 c => kh F₀ ev2 F2 σ H2 _ _ R2 c fun u ev3 F3 H3 R3 s3 c => ?_⟩
  cases r with
  | @lst a vs ds hq hs =>
    refine ⟨_, _, rfl, (s2.trans (s3.trans R3.le)).seq hq, fun p hp => ?_⟩
    have g := Gr.newO (o := .lst (cutV vs l u)) R3.le hp
    exact k _ _ _ _ _ (R3.grow g) (Ow.ofL upd_same ((hs.mono (s2.trans s3)).cut l u)) (R3.le.free hp) (R3.k0.free hp) (R3.nobody hp) ((s1.trans s2).trans s3) c
  | _ => exact False.elim c
/-- x[lo:hi] of a list that x owns -/
def zSlV (i : Nat) (τl τh : TauP) : TauO := fun ev C => τl ev fun l ev2 => τh ev2 fun u ev3 => match ev3[i]? with | some (.own (.lst ds)) => C (.lst (cutD ds l u)) ev3 | _ => False
/-! ### calls of built-in functions -/
abbrev Rho := List PyData → (PyData → Prop) → Prop
def CallP (X : Cx) (f : Value) (ρ : Rho) : Prop := ∃ r : List V → Hp → VK → Prop, CallR X f r ∧ ∀ (F H : Hp) (xs : List V) (ds : List PyData) (Q : VK) (C : PyData → Prop), Same F H → Rps X.w X.K F xs ds → ρ ds C →
  (∀ d F' v H', Gr F H F' H' → Rp X.w X.K F' v d → C d → Q v H') → r xs H Q
def zCB (ρ : Rho) (τ : TauA) : TauE := fun ev C => τ ev fun ds ev' => ρ ds fun d => C d ev'
theorem zcb {ρ : Rho} {r : List V → Hp → VK → Prop} {τ : TauA} {t : TA} (kr : ∀ (F H : Hp) (xs : List V) (ds : List PyData) (Q : VK) (C : PyData → Prop), Same F H → Rps X.w X.K F xs ds → ρ ds C → (∀ d F' v H', Gr F H F' H' → Rp X.w X.K F' v d → C d → Q v H') → r xs H Q)
    (ka : ∀ (F₀ : Hp) (ev : Ev) (F : Hp) (σ : St) (H : Hp) (Q : List V → Hp → Prop) (C : List PyData → Ev → Prop), RS X.w X.K X.H₀ F₀ F ev σ H → τ ev C → (∀ d ev' F' v H', RS X.w X.K X.H₀ F₀ F' ev' σ H' → Rps X.w X.K F' v d → Same F F' → C d ev' → Q v H') → t σ H Q)
    (F₀ : Hp) (ev : Ev) (F : Hp) (σ : St) (H : Hp) (Q : VK) (C : PyData → Ev → Prop) (R : RS X.w X.K X.H₀ F₀ F ev σ H) (h : zCB ρ τ ev C) (k : ∀ d ev' F' v H', RS X.w X.K X.H₀ F₀ F' ev' σ H' → Rp X.w X.K F' v d → Same F F' → C d ev' → Q v H') : tCB r t σ H Q :=
  ka F₀ ev F σ H _ _ R h fun ds ev' F' vs H' R' r s c => kr F' H' vs ds _ _ R'.le r c fun d F2 v H2 g r2 c2 => k d ev' F2 v H2 (R'.grow g) r2 (s.trans g.ff) c2
theorem q_callB {id : String} {x : Str} {p : Pos} {e : Expr} {es : List Expr} {ρ : Rho} {τ : TauA} (hc : CallP X (.builtin id) ρ) (hg : Gl X x) (hm : X.mg x = none) (hv : bootBuiltins x = some (.builtin id)) (ha : QA X (e :: es) τ) (hn : x ≠ "__name__" := by decide) (hdb : (x == ("__debug__" : Str)) = false := by decide)
    (he : starEach (e :: es) X.env = (false, eval e X.env) :: starEach es X.env := by rfl) (hpl : (backTo pos (starEach es X.env)).any (·.1) = false := by rfl) : QE X (.Call (.Name x p) (e :: es) [] pos) (zCB ρ τ) := by
  obtain ⟨r, hr, kr⟩ := hc
  obtain ⟨t, ht, ka⟩ := ha
  exact ⟨_, pe_callB hr hg hm hv ht hn hdb he hpl, zcb kr ka⟩
theorem q_callTy {T : String} {x : Str} {p : Pos} {e : Expr} {es : List Expr} {ρ : Rho} {τ : TauA} (hc : CallP X (.type T) ρ) (hg : Gl X x) (hm : X.mg x = none) (hv : bootBuiltins x = some (.type T)) (ha : QA X (e :: es) τ) (hn : x ≠ "__name__" := by decide) (hdb : (x == ("__debug__" : Str)) = false := by decide)
    (he : starEach (e :: es) X.env = (false, eval e X.env) :: starEach es X.env := by rfl) (hpl : (backTo pos (starEach es X.env)).any (·.1) = false := by rfl) : QE X (.Call (.Name x p) (e :: es) [] pos) (zCB ρ τ) := by
  obtain ⟨r, hr, kr⟩ := hc
  obtain ⟨t, ht, ka⟩ := ha
  exact ⟨_, pe_callTy hr hg hm hv ht hn hdb he hpl, zcb kr ka⟩
theorem Rps.one {w : World} {K : PySem.W.Frag} {F : Hp} {vs : List V} {d : PyData} (h : Rps w K F vs [d]) : ∃ v, vs = [v] ∧ Rp w K F v d := by
  cases h with
  | cons h1 h2 => cases h2; exact ⟨_, rfl, h1⟩
theorem Rps.two {w : World} {K : PySem.W.Frag} {F : Hp} {vs : List V} {d e : PyData} (h : Rps w K F vs [d, e]) : ∃ v u, vs = [v, u] ∧ Rp w K F v d ∧ Rp w K F u e := by
  cases h with
  | cons h1 h2 =>
    obtain ⟨w, rfl, h3⟩ := h2.one
    exact ⟨_, w, rfl, h1, h3⟩
def rhAbs : Rho := fun ds C => match ds with | [.int i] => C (.int (if i < 0 then -i else i)) | _ => False
theorem c_abs : CallP X (.builtin "abs") rhAbs := ⟨_, call_abs, fun F H xs ds Q C le r c k => by
  unfold rhAbs at c
  split at c
  case h_1 i =>
    obtain ⟨v, rfl, h⟩ := r.one
    cases h
    exact ⟨i, rfl, k _ _ _ _ (Gr.refl le) (.int _) c⟩
  case h_2 => exact False.elim c⟩
def rhMax : Rho := fun ds C => match ds with | [.int i, .int j] => C (.int (if j > i then j else i)) | _ => False
def lenD : PyData → Option Nat
  | .list ds => some ds.length
  | .tuple ds => some ds.length
  | _ => none
def rhLen : Rho := fun ds C => match ds with | [d] => (match lenD d with | some n => C (.int n) | none => False) | _ => False
theorem len_any {H : Hp} {v : V} {d : PyData} {n : Nat} (r : Rp X.w X.K H v d) (e : lenD d = some n) : ∃ p ys, v = .ref p ∧ (SqL X.K H p ys ∨ SqT X.K H p ys) ∧ ys.length = n := by
  cases r with
  | lst h hs => cases e; exact ⟨_, _, rfl, .inl h, hs.length⟩
  | tup h hs => cases e; exact ⟨_, _, rfl, .inr h.sqt, hs.length⟩
  | _ => cases e
theorem c_len : CallP X (.builtin "len") rhLen := ⟨_, call_len_seq, fun F H xs ds Q C le r c k => by
  unfold rhLen at c
  split at c
  case h_1 d =>
    split at c
    case h_1 n e =>
      obtain ⟨v, rfl, h⟩ := r.one
      obtain ⟨p, ys, rfl, hh, hl⟩ := len_any (h.mono le) e
      exact ⟨p, ys, rfl, hh, by rw [hl]; exact k _ _ _ _ (Gr.refl le) (.int _) c⟩
    case h_2 => exact False.elim c
  case h_2 => exact False.elim c⟩
/-- len(x) of what x owns, or holds -/
def zLenV (i : Nat) : TauE := fun ev C => match peek ev[i]? with | some d => (match lenD d with | some n => C (.int n) ev | none => False) | none => False
theorem q_lenV (i : Nat) {x : Str} {xp p : Pos} (hg : Gl X "len") (hm : X.mg "len" = none) (hN : X.N[i]? = some x := by rfl) (hv : Vis X.env.scope x := by first | exact Or.inl rfl | exact Or.inr (Or.inl rfl) | exact Or.inr (Or.inr rfl))
    (hd : (x == ("__debug__" : Str)) = false := by decide) (hcd : (x == ("__classdict__" : Str)) = false := by decide) (he : starEach [.Name x xp] X.env = [(false, eval (.Name x xp) X.env)] := by rfl) : QE X (.Call (.Name "len" p) [.Name x xp] [] pos) (zLenV i) := by
  refine ⟨_, pe_callB call_len_seq hg hm boot_len (pa_cons (pe_var hN hv hd hcd) pa_nil he) (by decide) (by decide) he rfl, fun F₀ ev F σ H Q C R h k => ?_⟩
  unfold zLenV at h
  split at h
  case h_1 d e =>
    split at h
    case h_1 n e2 =>
      obtain ⟨v, h1, r⟩ := R.peek e
      obtain ⟨p, ys, rfl, hh, hl⟩ := len_any r e2
      exact ⟨_, h1, p, ys, rfl, hh, by rw [hl]; exact k _ _ _ _ _ R (.int _) (Same.refl _) h⟩
    case h_2 => exact False.elim h
  case h_2 => exact False.elim h
/-! ### isinstance(e, C) -/
def tyD : PyData → Option String
  | .none => some "NoneType" | .bool _ => some "bool" | .int _ => some "int" | .str _ => some "str" | .list _ => some "list" | .tuple _ => some "tuple" | .dict ((.none, _) :: _) => none | .dict _ => some "dict"
theorem tyD_dict : ∀ kvs : List (KD × PyData), tyD (dictD kvs) = some "dict"
  | [] => rfl
  | (.inl (.inl _), _) :: _ => rfl
  | (.inl (.inr _), _) :: _ => rfl
  | (.inr _, _) :: _ => rfl
def kitD (K : PySem.W.Frag) (d : PyData) (c : Value) : Option Bool := (tyD d).bind fun n => PySem.W.kitOne K (.type n) c
theorem isinstD {pins : List (Addr × Obj)} {σ : St} {H : Hp} {s : Shared} {A : Around} {v : V} {u c : Value} {d : PyData} {b : Bool} {Q : Value → Shared → Prop} {E : Value → Shared → Prop} (I : Inv X pins σ H s) (rx : RelV v u) (r : Rp X.w X.K H v d)
    (e : kitD X.K d c = some b) (h : ∀ tk, Q (.bool b) { s with toks := tk }) : wpAny (model X.prog X.w) A (call (.builtin "isinstance") [u, c]) Q E s := by
  cases r with
  | non => exact isinst_ok I rx .non e h
  | bl b => exact isinst_ok I rx (.bl b) e h
  | int i => exact isinst_ok I rx (.int i) e h
  | str x => exact isinst_ok I rx (.str x) e h
  | @lst a vs ds hq hs =>
    cases (show u = Value.ref a from rx)
    obtain ⟨its, _, ⟨o, n, h1, h2, _⟩, _⟩ := I.list hq
    exact PySem.W.kia_one PySem.W.kitx_list I.kIn ⟨_, h1, h2⟩ e (fun z => nomatch z) h
  | @tup a vs ds hq hs =>
    cases (show u = Value.ref a from rx)
    obtain ⟨its, _, ⟨o, h1, h2, _⟩, _⟩ := I.tuple hq.sqt
    exact PySem.W.kia_one PySem.W.kitx_tuple I.kIn ⟨o, h1, h2⟩ e (fun z => nomatch z) h
  | @dct a o _ _ _ hq _ r1 =>
    cases (show u = Value.ref a from rx)
    unfold kitD at e
    rw [tyD_dict] at e
    exact PySem.W.kia_one PySem.W.kitx_dict I.kIn ⟨o, (I.hok a _ hq).1, r1.ex.1⟩ e (fun z => nomatch z) h
  | cel a => exact absurd (show (none : Option Bool) = some b from e) (fun z => nomatch z)
def rIsiD (w : World) (K : PySem.W.Frag) : List V → Hp → VK → Prop := fun xs H Q => ∃ x c d b, xs = [x, c] ∧ ((∃ n, c = .ty n) ∨ ∃ a, c = .ref a) ∧ Rp w K H x d ∧ kitD K d (toVal c) = some b ∧ Q (.bl b) H
theorem call_isiD : CallR X (.builtin "isinstance") (rIsiD X.w X.K) := fun pins s σ H xs us Q I r h => by
  obtain ⟨x, c, d, b, rfl, hc, rp, e, q⟩ := h
  obtain ⟨u, u', rfl, r1, r2⟩ := vals2 r
  rw [toVal_rel hc r2]
  exact isinstD I r1 rp e fun tk => ⟨.bl b, H, I.tok tk, rfl, q⟩
/-- isinstance(e, T) for a built-in class T: K's answer for the data's own class -/
def zIsi (K : PySem.W.Frag) (c : Value) (τ : TauE) : TauE := fun ev C => τ ev fun d ev' => ∃ b, kitD K d c = some b ∧ C (.bool b) ev'
theorem q_isi (K : PySem.W.Frag) {e : Expr} {x : Str} {n : String} {xp p : Pos} {τ : TauE} (h : QE X e τ) (hg : Gl X "isinstance") (hm : X.mg "isinstance" = none) (hgx : Gl X x) (hmx : X.mg x = none) (hvx : bootBuiltins x = some (.type n)) (hn : x ≠ "__name__" := by decide) (hd : (x == ("__debug__" : Str)) = false := by decide)
    (hK : X.K = K := by rfl) (hs : starEach [e, .Name x xp] X.env = (false, eval e X.env) :: starEach [.Name x xp] X.env := by rfl) (hs2 : starEach [.Name x xp] X.env = (false, eval (.Name x xp) X.env) :: starEach [] X.env := by rfl) :
    QE X (.Call (.Name "isinstance" p) [e, .Name x xp] [] pos) (zIsi K (.type n) τ) := by
  subst hK
  obtain ⟨t, ht, ka⟩ := h
  refine ⟨_, pe_callB call_isiD hg hm PyProof.Rows.Boot.«isinstance» (pa_cons ht (pa_cons (pe_ty hgx hmx hvx hn hd) pa_nil hs2) hs) (by decide) (by decide) hs (by rw [hs2]; rfl), fun F₀ ev F σ H Q C R h k => ka F₀ ev F σ H _ _ R h fun d ev' F' v H' R' r s c => ?_⟩
  obtain ⟨b, e, c⟩ := c
  exact ⟨v, .ty n, d, b, rfl, .inl ⟨n, rfl⟩, r.mono R'.le, e, k _ _ _ _ _ R' (.bl b) s c⟩

/-! ### calls of the text's defs -/
abbrev Phi := List PyData → (Rz → Prop) → (Addr → Prop) → Prop
def spP (w : World) (K : PySem.W.Frag) (φ : Phi) : Sp := fun vs H Q E => ∃ (F : Hp) (ds : List PyData) (C : Rz → Prop) (Z : Addr → Prop), Same F H ∧ Rps w K F vs ds ∧ φ ds C Z ∧ (∀ r F' v H', Gr F H F' H' → RR w K F' H H' v r → C r → Q v H') ∧ ∀ c H', Same H H' → Z c → E (.ref c) none H'
def rzD : Rz → PyData
  | .val d => d
  | .own m => frz m
  | .valc d _ => d
  | .ownc m _ => frz m
def noX : Addr → Prop := fun _ => False
def zCall (φ : Phi) (Z : Addr → Prop) (τ : TauA) : TauE := fun ev C => τ ev fun ds ev' => φ ds (fun r => C (rzD r) ev') Z
def zCallO (φ : Phi) (Z : Addr → Prop) (τ : TauA) : TauO := fun ev C => τ ev fun ds ev' => φ ds (fun r => match r with | .own m => C m ev' | _ => False) Z
def EZ (H₀ : Hp) (Z : Addr → Prop) : XK := fun cls _ H' => ∃ c, cls = .ref c ∧ Z c ∧ Same H₀ H'
/-- exceptions of the classes Z may leave -/
abbrev PassZ (X : Cx) (Z : Addr → Prop) : Prop := Passes (CXR X.prog X.w) X (EZ X.H₀ Z)
section
variable {k : Nat} {x : Str} {ps : List Str} {φ : Phi} {Z : Addr → Prop} {p : Pos} {e : Expr} {es : List Expr} {τ : TauA} {E : XK}
theorem call_val {t : TA} (hE : ∀ c H', Z c → Same X.H₀ H' → E (.ref c) none H')
    (ka : ∀ (F₀ : Hp) (ev : Ev) (F : Hp) (σ : St) (H : Hp) (Q : List V → Hp → Prop) (C : List PyData → Ev → Prop), RS X.w X.K X.H₀ F₀ F ev σ H → τ ev C → (∀ d ev' F' v H', RS X.w X.K X.H₀ F₀ F' ev' σ H' → Rps X.w X.K F' v d → Same F F' → C d ev' → Q v H') → t σ H Q)
    (F₀ : Hp) (ev : Ev) (F : Hp) (σ : St) (H : Hp) (Q : VK) (C : PyData → Ev → Prop) (R : RS X.w X.K X.H₀ F₀ F ev σ H) (h : zCall φ Z τ ev C) (k : ∀ d ev' F' v H', RS X.w X.K X.H₀ F₀ F' ev' σ H' → Rp X.w X.K F' v d → Same F F' → C d ev' → Q v H') : tCall (spP X.w X.K φ) [] E t σ H Q := by
  refine ka F₀ ev F σ H _ _ R h fun ds ev' F' vs H' R' r s c => ⟨F', ds, _, Z, R'.le, by rw [List.append_nil]; exact r, c, fun rz F2 v H2 g rr cc => ?_, fun c H2 sm z => hE c H2 z (R'.k0.trans sm)⟩
  cases rz with
  | val d => exact k _ _ _ _ _ (R'.grow g) rr (s.trans g.ff) cc
  | own m =>
    obtain ⟨a, rfl, w, hf, h0⟩ := rr
    obtain ⟨o, ho⟩ := w.there
    have R2 := R'.grow g
    obtain ⟨R3, rp, sm⟩ := R2.freezeT w hf (R'.k0.free h0) (R'.nobody h0) ho
    exact k _ _ _ _ _ R3 rp ((s.trans g.ff).trans sm) cc
  | valc d os => exact k _ _ _ _ _ (R'.grow g) rr.1 (s.trans g.ff) cc
  | ownc m os =>
    obtain ⟨a, rfl, w, hf, h0, _⟩ := rr
    obtain ⟨o, ho⟩ := w.there
    have R2 := R'.grow g
    obtain ⟨R3, rp, sm⟩ := R2.freezeT w hf (R'.k0.free h0) (R'.nobody h0) ho
    exact k _ _ _ _ _ R3 rp ((s.trans g.ff).trans sm) cc
theorem q_call (c : Cal X.prog X.w X.K X.mg X.base CX0 k x ps (spP X.w X.K φ)) (hr : Room k X.A) (ha : QA X (e :: es) τ) (hg : Gl X x := by rfl) (hdb : (x == ("__debug__" : Str)) = false := by decide)
    (he : starEach (e :: es) X.env = (false, eval e X.env) :: starEach es X.env := by rfl) (hpl : (backTo pos (starEach es X.env)).any (·.1) = false := by rfl) : QE X (.Call (.Name x p) (e :: es) [] pos) (zCall φ noX τ) := by
  obtain ⟨t, ht, ka⟩ := ha
  exact ⟨_, pe_cal c hr pass0 ht hg hdb he hpl, call_val (fun _ _ z => False.elim z) ka⟩
end
end
end L2

set_option Elab.async false
set_option linter.all false
set_option maxRecDepth 100000
set_option maxHeartbeats 1000000
namespace L2
open PySem PySem.Spec PyProof.Rows
section
variable {X : Cx} {pos : Pos}
/-! ### statements -/
def zNx : TauS := fun P ev => P.nx ev
def zSeq (τ υ : TauS) : TauS := fun P ev => τ { P with nx := fun ev' => υ P ev' } ev
theorem q_snil : QSs X [] zNx := ⟨_, pss_nil, fun F₀ D P ev F σ H E R h => E.nx ev F σ H R h⟩
theorem q_sone {st : Stmt} {τ : TauS} (h : QS X st τ) : QSs X [st] τ := by
  obtain ⟨t, ht, k⟩ := h
  exact ⟨t, pss_one ht, k⟩
theorem q_scons {st : Stmt} {rest : List Stmt} {τ υ : TauS} (h : QS X st τ) (g : QSs X rest υ) : QSs X (st :: rest) (zSeq τ υ) := by
  obtain ⟨t, ht, k⟩ := h
  obtain ⟨u, hu, k2⟩ := g
  exact ⟨_, pss_cons ht hu, fun F₀ D P ev F σ H E R h => k F₀ _ { P with nx := fun ev' => υ P ev' } ev F σ H ⟨fun ev' F' σ' H' R' z => k2 F₀ D P ev' F' σ' H' E R' z, E.rt, E.bk, E.ct⟩ R h⟩
def zBk : TauS := fun P ev => P.bk ev
def zCt : TauS := fun P ev => P.ct ev
def zNever : TauS := fun _ _ => False
def zExpr (τ : TauE) : TauS := fun P ev => τ ev fun _ ev' => P.nx ev'
def zRet (τ : TauE) : TauS := fun P ev => τ ev fun d _ => P.rt (.val d)
theorem q_ret {e : Expr} {τ : TauE} (h : QE X e τ) : QS X (.Return (some e) pos) (zRet τ) := by
  obtain ⟨t, ht, k⟩ := h
  exact ⟨_, ps_ret ht, fun F₀ D P ev F σ H E R h => k F₀ ev F σ H _ _ R h fun d ev' F' v H' R' r s c => E.rt (.val d) F' v H' R'.toRB r c⟩
def zRetO (τ : TauO) : TauS := fun P ev => τ ev fun m _ => P.rt (.own m)
theorem q_retO {e : Expr} {τ : TauO} (h : QO X e τ) : QS X (.Return (some e) pos) (zRetO τ) := by
  obtain ⟨t, ht, k⟩ := h
  exact ⟨_, ps_ret ht, fun F₀ D P ev F σ H E R h => k F₀ ev F σ H _ _ R h fun m ev' F' a H' R' w hf h0 hu s c => E.rt (.own m) F' _ H' R'.toRB ⟨a, rfl, w, hf, h0⟩ c⟩
def zRetN : TauS := fun P _ => P.rt (.val .none)
def zIf (τ : TauT) (υ ω : TauS) : TauS := fun P ev => τ ev fun b ev' => if b = true then υ P ev' else ω P ev'
theorem q_if {c : Expr} {a b : List Stmt} {τ : TauT} {υ ω : TauS} (hc : QT X c τ) (ha : QSs X a υ) (hb : QSs X b ω) : QS X (.If c a b pos) (zIf τ υ ω) := by
  obtain ⟨t, ht, kc⟩ := hc
  obtain ⟨ta, ha, ka⟩ := ha
  obtain ⟨tb, hb, kb⟩ := hb
  refine ⟨_, ps_if ht ha hb, fun F₀ D P ev F σ H E R h => kc F₀ ev F σ H _ _ R h fun b ev' F' H' R' s c => ?_⟩
  cases b with
  | true => exact ka F₀ D P ev' F' σ H' E R' c
  | false => exact kb F₀ D P ev' F' σ H' E R' c
/-- ways that meet again -/
def zMid (τ : TauS) : TauS := fun P ev => ∃ M : Ev → Prop, τ { P with nx := M } ev ∧ ∀ ev', M ev' → P.nx ev'
theorem q_mid {st : Stmt} {τ : TauS} (h : QS X st τ) : QS X st (zMid τ) := by
  obtain ⟨t, ht, k⟩ := h
  refine ⟨t, ht, fun F₀ D P ev F σ H E R h => ?_⟩
  obtain ⟨M, q, hm⟩ := h
  exact k F₀ D { P with nx := M } ev F σ H ⟨fun ev' F' σ' H' R' z => E.nx _ _ _ _ R' (hm _ z), E.rt, E.bk, E.ct⟩ R q
def zSet (i : Nat) (τ : TauE) : TauS := fun P ev => τ ev fun d ev' => P.nx (ev'.set i (.val d))
theorem q_set (i : Nat) {x : Str} {e : Expr} {pos' : Pos} {τ : TauE} (hN : X.N.Nodup) (h : QE X e τ) (hi : X.N[i]? = some x := by rfl) (hx : Loc X.env.scope x := by first | exact Or.inl rfl | exact Or.inr rfl) (hs : swapsWith e (some (.Name x pos')) pos.line X.env = pure false := by rfl)
    (hf : X.fn x = true ∨ X.env.scope.names.lookup x = some .local := by first | exact .inl rfl | exact .inr rfl) : QS X (.Assign [.Name x pos'] e pos) (zSet i τ) := by
  obtain ⟨t, ht, k⟩ := h
  exact ⟨_, ps_set hN hi hx ht hs hf, fun F₀ D P ev F σ H E R h => k F₀ ev F σ H _ _ R h fun d ev' F' v H' R' r s c => E.nx _ _ _ _ (R'.setV r i) c⟩
def zSetO (i : Nat) (τ : TauO) : TauS := fun P ev => τ ev fun m ev' => P.nx (ev'.set i (.own m))
theorem q_setO (i : Nat) {x : Str} {e : Expr} {pos' : Pos} {τ : TauO} (hN : X.N.Nodup) (h : QO X e τ) (hi : X.N[i]? = some x := by rfl) (hx : Loc X.env.scope x := by first | exact Or.inl rfl | exact Or.inr rfl) (hs : swapsWith e (some (.Name x pos')) pos.line X.env = pure false := by rfl)
    (hf : X.fn x = true ∨ X.env.scope.names.lookup x = some .local := by first | exact .inl rfl | exact .inr rfl) : QS X (.Assign [.Name x pos'] e pos) (zSetO i τ) := by
  obtain ⟨t, ht, k⟩ := h
  exact ⟨_, ps_set hN hi hx ht hs hf, fun F₀ D P ev F σ H E R h => k F₀ ev F σ H _ _ R h fun m ev' F' a H' R' w hf h0 hu s c => E.nx _ _ _ _ (R'.setO w hf h0 hu i) c⟩
/-! ### targets -/
abbrev TauG := PyData → Ev → (Ev → Prop) → Prop
def QG (X : Cx) (S : List Nat) (tg : Expr) (γ : TauG) : Prop := ∃ g : TG, PG X tg g ∧ ∀ (F₀ : Hp) (ev : Ev) (F : Hp) (σ : St) (H : Hp) (v : V) (d : PyData) (Q : St → Hp → Prop) (C : Ev → Prop), RS X.w X.K X.H₀ F₀ F ev σ H → Rp X.w X.K F v d → γ d ev C → (∀ ev' σ', RS X.w X.K X.H₀ F₀ F ev' σ' H → (∀ j, j ∉ S → σ'[j]? = σ[j]?) → C ev' → Q σ' H) → g v σ H Q
def zGn (i : Nat) : TauG := fun d ev C => C (ev.set i (.val d))
theorem q_gn (i : Nat) {x : Str} (hN : X.N.Nodup) (hi : X.N[i]? = some x := by rfl) (hx : Loc X.env.scope x := by first | exact Or.inl rfl | exact Or.inr rfl) (hf : X.fn x = true ∨ X.env.scope.names.lookup x = some .local := by first | exact .inl rfl | exact .inr rfl) : QG X [i] (.Name x pos) (zGn i) :=
  ⟨_, pg_name hN hi hx hf, fun F₀ ev F σ H v d Q C R r h k => k _ _ (R.setV r i) (fun j hj => List.getElem?_set_ne (fun z => hj (by rw [z]; exact List.mem_cons_self))) h⟩
abbrev TauGs := List PyData → Ev → (Ev → Prop) → Prop
def QGs (X : Cx) (S : List Nat) (tg : List Expr) (γ : TauGs) : Prop := ∃ g : TGs, PGs X tg g ∧ ∀ (F₀ : Hp) (ev : Ev) (F : Hp) (σ : St) (H : Hp) (v : List V) (d : List PyData) (Q : St → Hp → Prop) (C : Ev → Prop), RS X.w X.K X.H₀ F₀ F ev σ H → Rps X.w X.K F v d → γ d ev C → (∀ ev' σ', RS X.w X.K X.H₀ F₀ F ev' σ' H → (∀ j, j ∉ S → σ'[j]? = σ[j]?) → C ev' → Q σ' H) → g v σ H Q
def zGnil : TauGs := fun ds ev C => match ds with | [] => C ev | _ => False
def zGcons (γ : TauG) (δ : TauGs) : TauGs := fun ds ev C => match ds with | d :: r => γ d ev fun ev' => δ r ev' C | [] => False
theorem q_gnil : QGs X [] [] zGnil := ⟨_, pgs_nil, fun F₀ ev F σ H v d Q C R r h k => by
  cases r with
  | nil => exact ⟨rfl, k _ _ R (fun _ _ => rfl) h⟩
  | cons => exact False.elim h⟩
theorem q_gcons {e : Expr} {es : List Expr} {γ : TauG} {δ : TauGs} {S S' : List Nat} (h : QG X S e γ) (g : QGs X S' es δ) (hs : (assignEach (e :: es) X.env).map (·.2) = assign e X.env :: (assignEach es X.env).map (·.2) := by rfl) : QGs X (S ++ S') (e :: es) (zGcons γ δ) := by
  obtain ⟨t, ht, k⟩ := h
  obtain ⟨u, hu, k2⟩ := g
  refine ⟨_, pgs_cons ht hu hs, fun F₀ ev F σ H v d Q C R r h kk => ?_⟩
  cases r with
  | nil => exact False.elim h
  | cons r1 r2 => exact ⟨_, _, rfl, k F₀ ev F σ H _ _ _ _ R r1 h fun ev' σ' R' e1 c => k2 F₀ ev' F σ' H _ _ _ _ R' r2 c fun ev2 σ2 R2 e2 c2 => kk _ _ R2 (fun j hj => (e2 j (fun z => hj (List.mem_append_right _ z))).trans (e1 j (fun z => hj (List.mem_append_left _ z)))) c2⟩
def zGtup (n : Nat) (δ : TauGs) : TauG := fun d ev C => match d with | .tuple ds => ds.length = n ∧ δ ds ev C | _ => False
theorem q_gtup {es : List Expr} {kk : Nat} {n : Nat} {δ : TauGs} {S : List Nat} (hc : X.calm = true) (h : QGs X S es δ) (hn : (assignEach es X.env).length = n := by rfl) (hst : (assignEach es X.env).findIdx? (·.1) = none := by rfl) : QG X S (.Tuple es kk pos) (zGtup n δ) := by
  obtain ⟨t, ht, k⟩ := h
  refine ⟨_, pg_tup hc ht hn hst, fun F₀ ev F σ H v d Q C R r h kk => ?_⟩
  cases r with
  | tup hq hs => exact ⟨_, _, rfl, R.le.sqt hq.sqt, by rw [hs.length]; exact h.1, k F₀ ev F σ H _ _ _ _ R hs h.2 kk⟩
  | _ => exact False.elim h
def zAsg (τ : TauE) (γ : TauG) : TauS := fun P ev => τ ev fun d ev' => γ d ev' P.nx
theorem q_asg {tg e : Expr} {τ : TauE} {γ : TauG} {S : List Nat} (he : QE X e τ) (hg : QG X S tg γ) (hs : swapsWithSole [tg] e pos.line X.env = pure false := by rfl) (hw : swappedStores [tg] e X.env = pure none := by rfl)
    (h1 : (assignEach [tg] X.env).map (·.2) = [assign tg X.env] := by rfl) : QS X (.Assign [tg] e pos) (zAsg τ γ) := by
  obtain ⟨t, ht, k⟩ := he
  obtain ⟨g, hg, k2⟩ := hg
  exact ⟨_, ps_asg ht hg hs hw h1, fun F₀ D P ev F σ H E R h => k F₀ ev F σ H _ _ R h fun d ev' F' v H' R' r s c => k2 F₀ ev' F' σ H' v d _ _ R' r c fun ev2 σ2 R2 _ c2 => E.nx _ _ _ _ R2 c2⟩
/-! ### x.append(e), x[k] = e -/
def zApp (i : Nat) (τ : TauE) : TauS := fun P ev => (∃ ds, ev[i]? = some (.own (.lst ds))) ∧ τ ev fun d ev' => match ev'[i]? with | some (.own (.lst ds)) => ds.length < sizeLine ∧ P.nx (ev'.set i (.own (.lst (ds ++ [d])))) | _ => False
theorem q_app (i : Nat) {x : Str} {xp apos cpos : Pos} {e : Expr} {τ : TauE} (h : QE X e τ) (hN : X.N[i]? = some x := by rfl) (hv : Vis X.env.scope x := by first | exact Or.inl rfl | exact Or.inr (Or.inl rfl) | exact Or.inr (Or.inr rfl))
    (hd : (x == ("__debug__" : Str)) = false := by decide) (hcd : (x == ("__classdict__" : Str)) = false := by decide) (hs : swapsWith (.Call (.Attribute (.Name x xp) "append" apos) [e] [] cpos) none pos.line X.env = pure false := by rfl)
    (hst : starEach [e] X.env = [(false, eval e X.env)] := by rfl) (hbase : attributeBase (.Name x xp) "append" X.env (eval (.Name x xp) X.env) = eval (.Name x xp) X.env := by rfl) (hline : (apos.endLine == cpos.line) = true := by rfl)
    (hfew : ((backTo cpos (starEach [e] X.env)).all (fun x => !x.1) && (backToKw cpos (keywordEach [] X.env)).all (fun x => x.1.isSome) && decide (([e] : List Expr).length + ([] : List Keyword).length + (if ([] : List Keyword).isEmpty then 0 else 1) < 30)) = true := by rfl) :
    QS X (.Expr (.Call (.Attribute (.Name x xp) "append" apos) [e] [] cpos) pos) (zApp i τ) := by
  obtain ⟨t, ht, ka⟩ := h
  refine ⟨_, ps_expr (pe_bm PySem.F.plainAttrs_list PySem.F.slot_list_append PySem.F.type_list_append mt_append (pe_var hN hv hd hcd) (pa_cons ht pa_nil hst) hbase hfew hline hst (by rw [show starEach [] X.env = [] from rfl]; rfl)) hs, fun F₀ D P ev F σ H E R h => ?_⟩
  obtain ⟨⟨ds0, e0⟩, h⟩ := h
  obtain ⟨a, vs0, s0, g0, _⟩ := R.item e0
  refine ⟨.ref a, s0, .inl ⟨rfl, _, SqL.of g0⟩, ka F₀ ev F σ H _ _ R h fun d ev' F' v H' R' r s c => ?_⟩
  split at c
  case h_1 ds e1 =>
    obtain ⟨a', vs, s1, h1, h2⟩ := R'.item e1
    rw [s0] at s1; cases s1
    refine ⟨a, vs, v, rfl, rfl, h1, by rw [h2.length]; exact c.1, E.nx _ _ _ _ (R'.change e1 s0 (m' := .lst (ds ++ [d])) ?_) c.2⟩
    exact ⟨_, upd_same, h2.append (.cons r .nil)⟩
  case h_2 => exact False.elim c
def zPut (i : Nat) (τk τ : TauE) : TauS := fun P ev => (τ ev fun d ev1 => (∃ ds, ev1[i]? = some (.own (.lst ds))) ∧ τk ev1 fun k ev2 => match ev2[i]?, k with
  | some (.own (.lst ds)), .int kk => optC (ixN ds.length kk) fun j => P.nx (ev2.set i (.own (.lst (ds.set j d))))
  | _, _ => False)
/-! ### loops -/
def zWhile (τ : TauT) (υ : TauS) : TauS := fun P ev => ∃ W : Nat → Ev → Prop, (∃ m, W m ev) ∧ ∀ m ev, W m ev →
  τ ev fun b ev1 => if b = true then ∃ N : Ev → Prop, (∀ ev', N ev' → ∃ m', m' < m ∧ W m' ev') ∧ υ { P with nx := N, ct := N, bk := P.nx } ev1 else P.nx ev1
/-- over the items of a list or a tuple -/
def LoopD (ds : List PyData) (γ : TauG) (υ : TauS) : TauS := fun P ev => ∃ J : Nat → Ev → Prop, J 0 ev ∧ (∀ i x ev', ds[i]? = some x → J i ev' → γ x ev' fun ev2 => υ { P with nx := J (i + 1), ct := J (i + 1), bk := P.nx } ev2) ∧ ∀ ev', J ds.length ev' → P.nx ev'
def zForL (τ : TauE) (γ : TauG) (υ : TauS) : TauS := fun P ev => τ ev fun d ev1 => match d with | .list ds => LoopD ds γ υ P ev1 | _ => False
def zForT (τ : TauE) (γ : TauG) (υ : TauS) : TauS := fun P ev => τ ev fun d ev1 => match d with | .tuple ds => LoopD ds γ υ P ev1 | _ => False
theorem endLoop {w : World} {K : PySem.W.Frag} {H₀ F₀ F1 σ1H : Hp} {D : Ends} {P : PEn} {J : Ev → Prop} {Jv : St → Hp → Prop} (E : EndOk w K H₀ F₀ D P) (R1 : RB H₀ F₀ F1 σ1H) (hj : ∀ ev F σ H, RS w K H₀ F1 F ev σ H → J ev → Jv σ H) :
    EndOk w K H₀ F1 { D with nx := Jv, ct := Jv, bk := D.nx } { P with nx := J, ct := J, bk := P.nx } :=
  ⟨hj, fun r F v H b rr z => E.rt r F v H (R1.unbase b) rr z, fun ev F σ H R z => E.nx ev F σ H (RS.unbase R1 R) z, hj⟩
theorem q_forL {tg iter : Expr} {body : List Stmt} {τ : TauE} {γ : TauG} {υ : TauS} (hp : PassesOwn (model X.prog X.w) X.A X.env X.xe) (hc : X.calm = true) (hi : QE X iter τ) {S : List Nat} (hg : QG X S tg γ) (hb : QSs X body υ) (hs : ∀ x, foldedSetIterable iter X.env x = pure x := by intro _; rfl) :
    QS X (.For tg iter body [] pos) (zForL τ γ υ) := by
  obtain ⟨t, ht, ka⟩ := hi
  obtain ⟨g, hg, kg⟩ := hg
  obtain ⟨tb, hb, kb⟩ := hb
  refine ⟨_, ps_for hp hc (pi_list ht) hg hb hs, fun F₀ D P ev F σ H E R h => ka F₀ ev F σ H _ _ R h fun d ev1 F1 v H1 R1 r s c => ?_⟩
  cases r with
  | @lst a vs ds hq hr =>
    obtain ⟨J, j0, jt, je⟩ := c
    refine ⟨a, rfl, ⟨vs, R1.le.seq hq⟩, for_list (xs := vs) (fun i σ' H' => ∃ ev' F', RS X.w X.K X.H₀ F1 F' ev' σ' H' ∧ J i ev') ⟨ev1, F1, R1.rebase, j0⟩ (fun i σ' H' _ z => ?_) (fun i x σ' H' hx z => ?_) (fun σ' H' z => ?_)⟩
    · obtain ⟨ev', F', R', _⟩ := z
      exact (R'.f0.trans R'.le).seq hq
    · obtain ⟨ev', F', R', j'⟩ := z
      obtain ⟨d, hd, rd⟩ := hr.getV hx
      exact kg F1 ev' F' σ' H' x d _ _ R' (rd.mono R'.f0) (jt i d ev' hd j') fun ev2 σ2 R2 _ c2 => kb F1 _ _ ev2 F' σ2 H' (endLoop E R1.toRB fun ev F σ H R z => ⟨ev, F, R, z⟩) R2 c2
    · obtain ⟨ev', F', R', j'⟩ := z
      rw [hr.length] at j'
      exact E.nx _ _ _ _ (RS.unbase R1.toRB R') (je ev' j')
  | _ => exact False.elim c
/-- over a range -/
def LoopN (lo : Int) (n : Nat) (γ : TauG) (υ : TauS) : TauS := fun P ev => ∃ J : Nat → Ev → Prop, J 0 ev ∧ (∀ i ev', i < n → J i ev' → γ (.int (lo + i)) ev' fun ev2 => υ { P with nx := J (i + 1), ct := J (i + 1), bk := P.nx } ev2) ∧ ∀ ev', J n ev' → P.nx ev'
def zForR1 (τ : TauA) (γ : TauG) (υ : TauS) : TauS := fun P ev => τ ev fun ds ev1 => match ds with | [.int j] => (-(2 ^ 62) ≤ j ∧ j < 2 ^ 62) ∧ LoopN 0 j.toNat γ υ P ev1 | _ => False
def zForR2 (τ : TauA) (γ : TauG) (υ : TauS) : TauS := fun P ev => τ ev fun ds ev1 => match ds with | [.int i, .int j] => (-(2 ^ 62) ≤ i ∧ i < 2 ^ 62 ∧ -(2 ^ 62) ≤ j ∧ j < 2 ^ 62) ∧ LoopN i (j - i).toNat γ υ P ev1 | _ => False
theorem loopN {S : List Nat} {w : World} {K : PySem.W.Frag} {H₀ F₀ F1 H1 : Hp} {lo : Int} {n : Nat} {γ : TauG} {υ : TauS} {g : TG} {tb : TS} {D : Ends} {P : PEn} {ev1 : Ev} {σ : St} (E : EndOk w K H₀ F₀ D P) (R1 : RS w K H₀ F₀ F1 ev1 σ H1)
    (kg : ∀ (F₀ : Hp) (ev : Ev) (F : Hp) (σ : St) (H : Hp) (v : V) (d : PyData) (Q : St → Hp → Prop) (C : Ev → Prop), RS w K H₀ F₀ F ev σ H → Rp w K F v d → γ d ev C → (∀ ev' σ', RS w K H₀ F₀ F ev' σ' H → (∀ j, j ∉ S → σ'[j]? = σ[j]?) → C ev' → Q σ' H) → g v σ H Q)
    (kb : ∀ (F₀ : Hp) (D : Ends) (P : PEn) (ev : Ev) (F : Hp) (σ : St) (H : Hp), EndOk w K H₀ F₀ D P → RS w K H₀ F₀ F ev σ H → υ P ev → tb D σ H) (h : LoopN lo n γ υ P ev1) :
    ∃ W : Nat → Nat → St → Hp → Prop, (∃ m, W 0 m σ H1) ∧ ∀ i m σ H, W i m σ H →
      ((Itr lo n).stop i H ∧ D.nx σ H) ∨ ((Itr lo n).go i H ∧ ∃ N : St → Hp → Prop, (∀ σ' H', N σ' H' → ∃ m', m' < m ∧ W (i + 1) m' σ' H') ∧ ∀ x H', (Itr lo n).yld i H x H' → g x σ H' fun σ2 H2 => tb { D with nx := N, ct := N, bk := D.nx } σ2 H2) := by
  obtain ⟨J, j0, jt, je⟩ := h
  refine for_range (fun i σ' H' => ∃ ev' F', RS w K H₀ F1 F' ev' σ' H' ∧ J i ev') ⟨ev1, F1, R1.rebase, j0⟩ (fun i σ' H' hi z => ?_) (fun σ' H' z => ?_)
  · obtain ⟨ev', F', R', j'⟩ := z
    exact kg F1 ev' F' σ' H' _ _ _ _ R' (.int _) (jt i ev' hi j') fun ev2 σ2 R2 _ c2 => kb F1 _ _ ev2 F' σ2 H' (endLoop E R1.toRB fun ev F σ H R z => ⟨ev, F, R, z⟩) R2 c2
  · obtain ⟨ev', F', R', j'⟩ := z
    exact E.nx _ _ _ _ (RS.unbase R1.toRB R') (je ev' j')
theorem q_forR1 {tg a : Expr} {body : List Stmt} {p pp : Pos} {τ : TauA} {γ : TauG} {υ : TauS} (hp : PassesOwn (model X.prog X.w) X.A X.env X.xe) (hc : X.calm = true) (hgl : Gl X "range") (hm : X.mg "range" = none) (hi : QA X [a] τ) {S : List Nat} (hg : QG X S tg γ) (hb : QSs X body υ)
    (hst : starEach [a] X.env = [(false, eval a X.env)] := by rfl) (hs : ∀ x, foldedSetIterable (.Call (.Name "range" p) [a] [] pp) X.env x = pure x := by intro _; rfl) : QS X (.For tg (.Call (.Name "range" p) [a] [] pp) body [] pos) (zForR1 τ γ υ) := by
  obtain ⟨t, ht, ka⟩ := hi
  obtain ⟨g, hg, kg⟩ := hg
  obtain ⟨tb, hb, kb⟩ := hb
  refine ⟨_, ps_for hp hc (pi_range1 hgl hm ht hst) hg hb hs, fun F₀ D P ev F σ H E R h => ka F₀ ev F σ H _ _ R h fun ds ev1 F1 v H1 R1 r s c => ?_⟩
  split at c
  case h_1 j =>
    obtain ⟨w, rfl, h⟩ := r.one
    cases h
    exact ⟨j, rfl, c.1.1, c.1.2, loopN E R1 kg kb c.2⟩
  case h_2 => exact False.elim c
/-! ### raise -/
abbrev RaiseZ (X : Cx) (Z : Addr → Prop) : Prop := RaisesTo X (EZ X.H₀ Z)
def zRaise (C : Addr) (Z : Addr → Prop) (τ : TauA) : TauS := fun _ ev => τ ev fun ds _ => ds.length ≤ sizeLine ∧ Z C
end
/-! ### a def -/
section
variable {P : Program} {w : World} {K : PySem.W.Frag} {mg : Str → Option Value} {base : Heap}
def startE (N : List Str) (ds : List PyData) : Ev := ds.map Sl.val ++ List.replicate (N.length - ds.length) .unk
theorem start_rs {F H : Hp} {N : List Str} {vs : List V} {ds : List PyData} (le : Same F H) (r : Rps w K F vs ds) : RS w K H F F (startE N ds) (start N vs) H where
  le := le
  k0 := Same.refl _
  f0 := Same.refl _
  nw := fun _ z => .inl z
  len := by unfold startE start; simp only [List.length_append, List.length_map, List.length_replicate, r.length]
  val := fun i d e => by
    unfold startE at e
    by_cases hl : i < ds.length
    · rw [List.getElem?_append_left (by rw [List.length_map]; exact hl), List.getElem?_map] at e
      cases q : ds[i]? with
      | none => rw [q] at e; cases e
      | some d' =>
        rw [q] at e
        cases e
        obtain ⟨v, h1, h2⟩ := r.get q
        refine ⟨v, ?_, h2⟩
        unfold start
        rw [List.getElem?_append_left (by rw [List.length_map, r.length]; exact hl), List.getElem?_map, h1]
        rfl
    · rw [List.getElem?_append_right (by rw [List.length_map]; omega), List.getElem?_replicate] at e
      split at e <;> cases e
  own := fun i m e => by
    unfold startE at e
    by_cases hl : i < ds.length
    · rw [List.getElem?_append_left (by rw [List.length_map]; exact hl), List.getElem?_map] at e
      cases q : ds[i]? <;> (rw [q] at e; cases e)
    · rw [List.getElem?_append_right (by rw [List.length_map]; omega), List.getElem?_replicate] at e
      split at e <;> cases e
  uni := fun i j m m' a e => by
    unfold startE at e
    by_cases hl : i < ds.length
    · rw [List.getElem?_append_left (by rw [List.length_map]; exact hl), List.getElem?_map] at e
      cases q : ds[i]? <;> (rw [q] at e; cases e)
    · rw [List.getElem?_append_right (by rw [List.length_map]; omega), List.getElem?_replicate] at e
      split at e <;> cases e
  exc := fun i C e => by
    unfold startE at e
    by_cases hl : i < ds.length
    · rw [List.getElem?_append_left (by rw [List.length_map]; exact hl), List.getElem?_map] at e
      cases q : ds[i]? <;> (rw [q] at e; cases e)
    · rw [List.getElem?_append_right (by rw [List.length_map]; omega), List.getElem?_replicate] at e
      split at e <;> cases e
  cel := fun i os e => by
    unfold startE at e
    by_cases hl : i < ds.length
    · rw [List.getElem?_append_left (by rw [List.length_map]; exact hl), List.getElem?_map] at e
      cases q : ds[i]? <;> (rw [q] at e; cases e)
    · rw [List.getElem?_append_right (by rw [List.length_map]; omega), List.getElem?_replicate] at e
      split at e <;> cases e
  uniC := fun i j os os' e => by
    unfold startE at e
    by_cases hl : i < ds.length
    · rw [List.getElem?_append_left (by rw [List.length_map]; exact hl), List.getElem?_map] at e
      cases q : ds[i]? <;> (rw [q] at e; cases e)
    · rw [List.getElem?_append_right (by rw [List.length_map]; omega), List.getElem?_replicate] at e
      split at e <;> cases e
theorem end_def {F H : Hp} {Q : VK} {C : Rz → Prop} (k : ∀ r F' v H', Gr F H F' H' → RR w K F' H H' v r → C r → Q v H') : EndOk w K H F { nx := fun _ H' => Q .non H', rt := Q } { nx := fun _ => C (.val .none), rt := C } :=
  ⟨fun ev F' σ H' R z => k (.val .none) F' .non H' ⟨R.le, R.k0, R.f0, R.nw⟩ .non z, fun r F' v H' b rr z => k r F' v H' ⟨b.le, b.k0, b.f0, b.nw⟩ rr z, fun _ _ _ _ _ z => False.elim z, fun _ _ _ _ _ z => False.elim z⟩
/-- THE RULE for a def that raises nothing -/
theorem Fun.okP {x qual : Str} {st : Stmt} {f : Addr} {fd : FuncData} {N ps : List Str} {k : Nat} {φ : Phi} (F : Fun K x qual st f fd) (S : FnScope N ps (defScope st)) (len : ∀ ds C Z, φ ds C Z → ds.length = ps.length)
    (hbody : ∀ (cdv : Value) (A : Around) (outer : List Env) (s : Shared) (H : Hp) (E : XK), Room k (A.deeper (envOfC qual (defScope st) s.heap.objs.size f cdv)) →
      ∃ τ, QSs (cxOf CX0 P w K mg base N qual (defScope st) f cdv A outer s H E).nox (defBody st) τ ∧ ∀ ds C Z, φ ds C Z → τ { nx := fun _ => C (.val .none), rt := C } (startE N ds)) : FnOk P w K mg base CX0 (k + 1) f fd ps (spP w K φ) := by
  refine F.ok S (fun vs H Q E h => ?_) fun cdv A outer s H vs Q E hr h => ?_
  · obtain ⟨F', ds, C, Z, _, r, c, _⟩ := h
    rw [r.length]
    exact len ds C Z c
  · obtain ⟨F', ds, C, Z, le, r, c, kk, _⟩ := h
    obtain ⟨τ, ⟨t, ht, k2⟩, hτ⟩ := hbody cdv A outer s H E hr
    exact ⟨t, ht, k2 F' _ _ _ F' _ H (end_def kk) (start_rs le r) (hτ ds C Z c)⟩
end
end L2

set_option Elab.async false
set_option linter.all false
set_option maxRecDepth 100000
set_option maxHeartbeats 1000000
namespace L2
open PySem PySem.Spec PyProof.Rows
section
variable {w : World} {K : PySem.W.Frag} {H₀ F₀ F H : Hp} {ev : Ev} {σ : St}
def unkAll (ev : Ev) : Ev := ev.map fun _ => .unk
theorem RS.unkAll (R : RS w K H₀ F₀ F ev σ H) : RS w K H₀ F₀ F (L2.unkAll ev) (List.replicate σ.length none) H := by
  have no : ∀ (i : Nat) (s : Sl), s ≠ .unk → (L2.unkAll ev)[i]? ≠ some s := fun i s ne e => by
    unfold L2.unkAll at e
    rw [List.getElem?_map] at e
    cases q : ev[i]? with
    | none => rw [q] at e; cases e
    | some x => rw [q] at e; exact ne (Option.some.inj e).symm
  refine ⟨R.toRB, by unfold L2.unkAll; rw [List.length_map, List.length_replicate]; exact R.len, fun i d e => ?_, fun i m e => ?_, fun i j m m' a e => ?_, fun i C e => ?_, fun i os e => ?_, fun i j os os' e => ?_⟩
  · exact absurd e (no i _ (by intro z; cases z))
  · exact absurd e (no i _ (by intro z; cases z))
  · exact absurd e (no i _ (by intro z; cases z))
  · exact absurd e (no i _ (by intro z; cases z))
  · exact absurd e (no i _ (by intro z; cases z))
  · exact absurd e (no i _ (by intro z; cases z))
end
section
variable {X : Cx} {pos : Pos}
/-! ### try: f(..) and what follows; except D as n: suite -/
def hEnds (P : PEn) : PEn := { nx := fun ev => P.nx (unkAll ev), rt := P.rt, bk := fun ev => P.bk (unkAll ev), ct := fun ev => P.ct (unkAll ev) }
def zTry (K : PySem.W.Frag) (D : Addr) (i : Nat) (φ : Phi) (τ : TauA) (ω υ : TauS) : TauS := fun P ev => τ ev fun ds ev1 => ∃ Z : Addr → Prop, φ ds (fun _ => ω P ev1) Z ∧ ∀ C, Z C → ExcC K C ∧ PySem.W.mroIn K C (.ref D) = some true ∧ υ (hEnds P) (ev1.set i (.exc C))
/-- isinstance(n, C), n the exception that was caught -/
def zIsiX (K : PySem.W.Frag) (c : Value) (i : Nat) : TauE := fun ev C => match ev[i]? with | some (.exc E) => ExcK K E ∧ ExcC K E ∧ ∃ b, PySem.W.kitOne K (.ref E) c = some b ∧ C (.bool b) ev | _ => False
/-- isinstance(n, (C1, ..)) -/
def zIsiXs (K : PySem.W.Frag) (cs : List V) (i : Nat) : TauE := fun ev C => match ev[i]? with | some (.exc E) => ExcK K E ∧ ExcC K E ∧ ∃ b, PySem.W.kitAny K (.ref E) (cs.map toVal) = some b ∧ C (.bool b) ev | _ => False
end
end L2

set_option Elab.async false
set_option linter.all false
set_option maxRecDepth 100000
set_option maxHeartbeats 1000000
/-! list comprehensions over the pure layer -/
namespace L2
open PySem PySem.Spec PyProof.Rows

/-! ### the cells that a block is handed -/
def closOf (names : List (Str × NameKind)) (cells : List (Str × Addr)) (acc : List (Str × Addr)) : List (Str × Addr) :=
  names.foldl (fun cs y => if y.2 == .free then (match cells.lookup y.1 with | some a => (y.1, a) :: cs | none => cs) else cs) acc
theorem clos_loop {env : Env} : ∀ (names : List (Str × NameKind)) (acc : List (Str × Addr)), (names.all fun y => y.2 != .free || (env.cells.lookup y.1).isSome) = true →
    (forIn names acc fun (y : Str × NameKind) (r : List (Str × Addr)) => (do
      if y.2 == .free then
        let a ← cellOf env y.1
        pure PUnit.unit
        pure (ForInStep.yield ((y.1, a) :: r))
      else
        pure PUnit.unit
        pure (ForInStep.yield r) : Sem (ForInStep (List (Str × Addr))))) = pure (closOf names env.cells acc)
  | [], acc, _ => rfl
  | (n, k) :: r, acc, h => by
    rw [List.all_cons, Bool.and_eq_true] at h
    rw [List.forIn_cons]
    have ih := fun a => clos_loop (env := env) r a h.2
    cases hk : k == NameKind.free with
    | true =>
      have hs : (env.cells.lookup n).isSome = true := by
        have h1 := h.1
        simp only [bne, hk, Bool.not_true, Bool.false_or] at h1
        exact h1
      obtain ⟨a, ha⟩ := Option.isSome_iff_exists.mp hs
      have hc : cellOf env n = pure a := by unfold cellOf; rw [ha]
      simp only [hk, if_true, hc, pure_bind]
      rw [ih]
      unfold closOf
      simp only [List.foldl_cons, hk, if_true, ha]
    | false =>
      simp only [hk, Bool.false_eq_true, if_false, pure_bind]
      rw [ih]
      unfold closOf
      simp only [List.foldl_cons, hk, Bool.false_eq_true, if_false]
theorem clos_eq {scope : Scope} {env : Env} (h : (scope.names.all fun y => y.2 != .free || (env.cells.lookup y.1).isSome) = true) : closureFor scope env = pure (closOf scope.names env.cells []) := by
  have := clos_loop (env := env) scope.names [] h
  unfold closureFor
  simp only [bind_pure_comp] at this ⊢
  first
    | exact this
    | (rw [this]; rfl)
    | simpa using this
theorem closOf_sub {cells : List (Str × Addr)} : ∀ (names : List (Str × NameKind)) (acc : List (Str × Addr)), (∀ y c, acc.lookup y = some c → cells.lookup y = some c) → ∀ y c, (closOf names cells acc).lookup y = some c → cells.lookup y = some c
  | [], _, h => h
  | (n, k) :: r, acc, h => by
    unfold closOf
    rw [List.foldl_cons]
    refine closOf_sub r _ fun y c z => ?_
    dsimp only at z
    split at z
    · split at z
      · rename_i a ha
        rw [List.lookup_cons] at z
        split at z
        · rename_i e
          cases z
          have : y = n := by simpa using e
          rw [this]; exact ha
        · exact h y c z
      · exact h y c z
    · exact h y c z
theorem closOf_keeps {cells : List (Str × Addr)} : ∀ (names : List (Str × NameKind)) (acc : List (Str × Addr)) (y : Str), (∃ c, acc.lookup y = some c) → ∃ c, (closOf names cells acc).lookup y = some c
  | [], _, _, h => h
  | (n, k) :: r, acc, y, h => by
    unfold closOf
    rw [List.foldl_cons]
    refine closOf_keeps r _ y ?_
    dsimp only
    split
    · split
      · rw [List.lookup_cons]
        split
        · exact ⟨_, rfl⟩
        · exact h
      · exact h
    · exact h
theorem closOf_has {cells : List (Str × Addr)} : ∀ (names : List (Str × NameKind)) (acc : List (Str × Addr)), (names.all fun y => y.2 != .free || (cells.lookup y.1).isSome) = true → ∀ y, (y, NameKind.free) ∈ names → ∃ c, (closOf names cells acc).lookup y = some c
  | [], _, _, _, h => nomatch h
  | (n, k) :: r, acc, h, y, hm => by
    rw [List.all_cons, Bool.and_eq_true] at h
    rcases List.mem_cons.mp hm with z | z
    · have e1 : y = n := congrArg Prod.fst z
      have e2 : NameKind.free = k := congrArg Prod.snd z
      subst e1; subst e2
      have hs : (cells.lookup y).isSome = true := by simpa using h.1
      obtain ⟨a, ha⟩ := Option.isSome_iff_exists.mp hs
      unfold closOf
      rw [List.foldl_cons]
      refine closOf_keeps r _ y ?_
      simp only [beq_self_eq_true, if_true, ha]
      exact ⟨a, by rw [List.lookup_cons]; simp⟩
    · unfold closOf
      rw [List.foldl_cons]
      exact closOf_has r _ h.2 y z

/-! ### the block's context -/
/-- the slot of the list that grows: no name of the block -/
def accN : Str := Str.ofString ".acc"
abbrev Cx.blk (X : Cx) (N : List Str) (scope : Scope) (C : Addr) (s₀ : Shared) (H₀ : Hp) (fp : List Addr) (pn : List (Addr × Obj)) : Cx :=
  { prog := X.prog, w := X.w, K := X.K, mg := X.mg, base := X.base, A := X.A, N := N, s₀ := s₀, H₀ := H₀, env := compEnvC scope (closOf scope.names X.env.cells []) C X.env, outer := X.stack, stack := X.stack, ex := fp, fn := fun _ => false, calm := X.calm, pn := pn, xe := fun _ _ => False }
/-- what is to be seen of the scope: its own names cn, the names fr from around, standing in the slots js -/
structure BlkOk (X : Cx) (scope : Scope) (cn fr : List Str) (js : List Nat) : Prop where
  kind : scope.kind = .function
  nocell : ∀ y ∈ scope.names, y.2 ≠ .cell
  loc : ∀ y ∈ scope.names, y.2 = .local → scope.names.lookup y.1 = some .local
  all : (scope.names.all fun y => y.2 != .free || (X.env.cells.lookup y.1).isSome) = true
  slots : js.map (fun j => X.N[j]?) = fr.map some
  cells : ∀ x ∈ fr, X.env.kindOf x = some .cell ∨ X.env.kindOf x = some .free
  frl : ∀ x ∈ fr, (x, NameKind.local) ∉ scope.names
  frs : ∀ x ∈ fr, (x, NameKind.free) ∈ scope.names
def sigY (cn : List Str) (js : List Nat) (σ : St) (D : Addr) : St := List.replicate cn.length none ++ (js.map (fun j => (σ[j]?).getD none) ++ [some (.ref D)])

section
variable {X : Cx} {pins : List (Addr × Obj)} {σ : St} {H2 : Hp} {s2 : Shared} {scope : Scope} {cn fr : List Str} {js : List Nat} {N : List Str} {fp : List Addr} {C : Addr}
theorem relabel_mem {env : Env} : ∀ {names : List (Str × NameKind)} {x : Str} {k : NameKind}, (names.map fun (n, k) => if (k == NameKind.free && env.scope.kind == .function && env.kindOf n == some .cell) then (n, NameKind.cell) else (n, k)).lookup x = some k →
    (x, k) ∈ names ∨ (k = .cell ∧ (x, NameKind.free) ∈ names)
  | [], _, _, h => by simp at h
  | (n, k0) :: r, x, k, h => by
    rw [List.map_cons] at h
    by_cases hc : (k0 == NameKind.free && env.scope.kind == .function && env.kindOf n == some .cell) = true
    · simp only [hc, if_true] at h
      rw [List.lookup_cons] at h
      split at h
      · rename_i e
        cases h
        have e1 : x = n := by simpa using e
        have e2 : k0 = .free := by
          simp only [Bool.and_eq_true, beq_iff_eq] at hc
          exact hc.1.1
        subst e1 e2
        exact .inr ⟨rfl, List.mem_cons_self⟩
      · rcases relabel_mem h with z | z
        · exact .inl (List.mem_cons_of_mem _ z)
        · exact .inr ⟨z.1, List.mem_cons_of_mem _ z.2⟩
    · simp only [hc, Bool.false_eq_true, if_false] at h
      rw [List.lookup_cons] at h
      split at h
      · rename_i e
        cases h
        have e1 : x = n := by simpa using e
        subst e1
        exact .inl List.mem_cons_self
      · rcases relabel_mem h with z | z
        · exact .inl (List.mem_cons_of_mem _ z)
        · exact .inr ⟨z.1, List.mem_cons_of_mem _ z.2⟩
theorem BlkOk.sub (B : BlkOk X scope cn fr js) : ∀ y c, (closOf scope.names X.env.cells []).lookup y = some c → X.env.cells.lookup y = some c := closOf_sub _ _ (fun _ _ z => by simp at z)
theorem blk_ok (I : Inv X pins σ H2 s2) (B : BlkOk X scope cn fr js) (hfp : ∀ b ∈ fp, FpOk X pins H2 b) (hob : ∀ b ∈ fp, ∃ o, s2.heap.get? b = some o) (hC : s2.heap.objs.size ≤ C) : (X.blk N scope C s2 H2 fp (X.pn ++ pins)).Ok where
  mod := I.ok.mod
  kind := B.kind
  glob := I.ok.glob
  blt := I.ok.blt
  above := hC
  inj := fun x y c h1 h2 => I.ok.inj x y c (B.sub _ _ h1) (B.sub _ _ h2)
  has := fun x h => by
    have hm : (x, NameKind.free) ∈ scope.names := by
      rcases h with h | h
      · rcases relabel_mem h with z | z
        · exact absurd rfl (B.nocell _ z)
        · exact z.2
      · rcases relabel_mem h with z | z
        · exact z
        · cases z.1
    exact closOf_has _ _ B.all x hm
  cab := fun _ _ z => by cases z
  hd := I.ok.hd
  frames := I.ok.frames
  stk := .inl rfl
  exf := fun b hb => by
    obtain ⟨o, ho⟩ := hob b hb
    refine ⟨fun z => ?_, fun x c e => (hfp b hb).2.2.2.2.1 x c (B.sub _ _ e)⟩
    have h1 : b < s2.heap.objs.size := Heap.lt_size ho
    have z' : b = C := z
    exact absurd (Nat.lt_of_lt_of_le h1 hC) (by rw [z']; exact Nat.lt_irrefl _)
  bs := I.bs
  bsz := Nat.le_trans I.ok.bsz I.sz
  noex := fun b o e hb => by
    rcases (hfp b hb).2.2.2.1 with z | z
    · exact I.ok.noex b o e z
    · have h1 : b < X.base.objs.size := Heap.lt_size e
      exact absurd (Nat.lt_of_lt_of_le h1 (Nat.le_trans I.ok.bsz z)) (Nat.lt_irrefl _)
  exfs := fun b hb hs => by
    rcases List.mem_cons.mp (I.stkSub b hs) with z | z
    · exact (hfp b hb).2.1 z
    · exact (hfp b hb).2.2.1 z
  funs := I.stack
  frf := I.stkFree
theorem sigY_out {D : Addr} {i : Nat} {x : Str} {v : V} (hl : js.length = fr.length) (h1 : (cn ++ (fr ++ [accN]))[i]? = some x) (h2 : (sigY cn js σ D)[i]? = some (some v)) :
    (x = accN ∧ v = .ref D) ∨ ∃ (j n : Nat), fr[n]? = some x ∧ js[n]? = some j ∧ σ[j]? = some (some v) := by
  unfold sigY at h2
  by_cases hi : i < cn.length
  · rw [List.getElem?_append_left (by rw [List.length_replicate]; exact hi), List.getElem?_replicate] at h2
    split at h2 <;> cases h2
  · rw [List.getElem?_append_right (by rw [List.length_replicate]; omega), List.length_replicate] at h2
    rw [List.getElem?_append_right (by omega)] at h1
    generalize i - cn.length = n at h1 h2
    by_cases hn : n < fr.length
    · rw [List.getElem?_append_left hn] at h1
      rw [List.getElem?_append_left (by rw [List.length_map]; omega), List.getElem?_map] at h2
      cases q : js[n]? with
      | none => rw [q] at h2; cases h2
      | some j =>
        rw [q] at h2
        refine .inr ⟨j, n, h1, q, ?_⟩
        have h3 : (σ[j]?).getD none = some v := Option.some.inj h2
        cases z : σ[j]? with
        | none => rw [z] at h3; cases h3
        | some w => rw [z] at h3; exact congrArg some h3
    · rw [List.getElem?_append_right (by omega)] at h1
      rw [List.getElem?_append_right (by rw [List.length_map]; omega), List.length_map, hl] at h2
      cases e : n - fr.length with
      | zero =>
        rw [e] at h1 h2
        simp only [List.getElem?_cons_zero, Option.some.injEq] at h1 h2
        exact .inl ⟨h1.symm, h2.symm⟩
      | succ k => rw [e] at h1; simp at h1
theorem BlkOk.len (B : BlkOk X scope cn fr js) : js.length = fr.length := by
  have := congrArg List.length B.slots
  rw [List.length_map, List.length_map] at this
  exact this
theorem BlkOk.slot (B : BlkOk X scope cn fr js) {n j : Nat} {x : Str} (h1 : fr[n]? = some x) (h2 : js[n]? = some j) : X.N[j]? = some x := by
  have := congrArg (fun l => l[n]?) B.slots
  simp only [List.getElem?_map, h1, h2, Option.map_some] at this
  exact Option.some.inj this
/-- the block at its start -/
theorem blk_inv {s3 : Shared} {D : Addr} {m : Str → Option Value} (I : Inv X pins σ H2 s2) (B : BlkOk X scope cn fr js) (hfp : ∀ b ∈ fp, FpOk X pins H2 b) (hob : ∀ b ∈ fp, ∃ o, s2.heap.get? b = some o) (hC : s2.heap.objs.size ≤ C) (hD : s2.heap.objs.size ≤ D) (hDC : D ≠ C)
    (hacc : (accN, NameKind.free) ∉ scope.names) (hacc' : (accN, NameKind.local) ∉ scope.names)
    (old : ∀ b o, s2.heap.get? b = some o → s3.heap.get? b = some o) (hn : s3.heap.Ns C m) (hl : s3.heap.get? D = some { cls := .type "list", data := .seq #[] 0 }) (ho : s3.os = s2.os) (hg : s3.gens = s2.gens) :
    Inv (X.blk (cn ++ (fr ++ [accN])) scope C s2 H2 fp (X.pn ++ pins)) [] (sigY cn js σ D) (upd H2 D (.lst [])) s3 where
  ok := blk_ok I B hfp hob hC
  os := ho
  bare := by rw [hg]; exact I.bare
  base := Un.laid old hD (I.hok.fresh hD)
  loc := by
    obtain ⟨mX, hX, hlX⟩ := I.loc
    refine ⟨m, hn, fun i x v h1 h2 hv => ?_⟩
    rcases sigY_out B.len h1 h2 with ⟨rfl, rfl⟩ | ⟨j, n, e1, e2, e3⟩
    · exfalso
      rcases hv with z | z | z
      · rcases relabel_mem z with q | q
        · exact hacc' q
        · cases q.1
      · rcases relabel_mem z with q | q
        · exact B.nocell _ q rfl
        · exact hacc q.2
      · rcases relabel_mem z with q | q
        · exact hacc q
        · cases q.1
    · have hx : x ∈ fr := List.mem_of_getElem? e1
      have hk := B.cells x hx
      obtain ⟨u, r, l⟩ := hlX j x v (B.slot e1 e2) e3 (.inr hk)
      refine ⟨u, r, .inr ⟨?_, ?_⟩⟩
      · rcases hv with z | z | z
        · rcases relabel_mem z with q | q
          · exact absurd q (B.frl x hx)
          · cases q.1
        · exact .inl z
        · exact .inr z
      · obtain ⟨c, hc⟩ := closOf_has _ [] B.all x (B.frs x hx)
        refine ⟨c, hc, ?_⟩
        have hc' := B.sub _ _ hc
        rcases l with ⟨l1, _⟩ | ⟨_, c', l2, o, l3, l4⟩
        · rcases hk with z | z <;> (rw [z] at l1; cases l1)
        · rw [hc'] at l2; cases l2
          exact ⟨o, old _ _ l3, l4⟩
  cell := fun x c e => by
    obtain ⟨v, o, h1, h2⟩ := I.cell x c (B.sub _ _ e)
    exact ⟨v, o, old _ _ h1, h2⟩
  free := by
    show upd H2 D (.lst []) C = none
    rw [upd_ne (Ne.symm hDC)]
    exact I.hok.fresh hC
  freeC := fun x c e => by
    have h1 := I.freeC x c (B.sub _ _ e)
    obtain ⟨v, o, h2, _⟩ := I.cell x c (B.sub _ _ e)
    rw [upd_ne (Nat.ne_of_lt (Nat.lt_of_lt_of_le (Heap.lt_size h2) hD))]
    exact h1
  pin := fun p hp => by
    obtain ⟨h1, h2, h3, h4, h5⟩ := I.pin p (by simpa using hp)
    have lt : p.1 < s2.heap.objs.size := Heap.lt_size h1
    refine ⟨old _ _ h1, by rw [upd_ne (Nat.ne_of_lt (Nat.lt_of_lt_of_le lt hD))]; exact h2, Nat.ne_of_lt (Nat.lt_of_lt_of_le lt hC), fun z => ?_, h5⟩
    rcases List.mem_cons.mp (I.stkSub p.1 z) with q | q
    · exact h3 q
    · exact h4 q
  hok := I.hok.laid old hD ⟨Nat.zero_le _, [], 0, .nil, hl⟩
  len := by
    unfold sigY
    simp only [List.length_append, List.length_replicate, List.length_map, List.length_cons, List.length_nil, B.len]
/-- behind the block -/
theorem blk_end {pl : List (Addr × Obj)} {σ' : St} {H' : Hp} {s' : Shared} {h' : Heap} {t' : Nat} (I : Inv X pins σ H2 s2) (hfp : ∀ b ∈ fp, FpOk X pins H2 b) (hC : s2.heap.objs.size ≤ C) (J : Inv (X.blk N scope C s2 H2 fp (X.pn ++ pins)) pl σ' H' s') (hs : Heap.SameBut C s'.heap h') :
    Inv X pins σ H' { s' with heap := h', toks := t' } := by
  have ne : ∀ b o, s2.heap.get? b = some o → b ≠ C := fun b o e => Nat.ne_of_lt (Nat.lt_of_lt_of_le (Heap.lt_size e) hC)
  have B := J.base
  refine I.call' (s' := { s' with heap := h', toks := t' }) (ch := fp) J.os ⟨fun b o q n hb hx => ?_, fun b o q n hb hx => ?_, B.free, fun b o q hx => ?_, B.tups, B.frzs, B.tbls⟩ (fun b o e => ?_) J.bare fun b hb => ⟨(hfp b hb).2.2.2.1, (hfp b hb).2.1, (hfp b hb).2.2.2.2.1, (hfp b hb).2.2.2.2.2⟩
  · exact (hs.2 b (ne b o q)).trans (B.keep b o q n hb hx)
  · obtain ⟨sl, z⟩ := B.slot b o q n hb hx
    exact ⟨sl, (hs.2 b (ne b o q)).trans z⟩
  · obtain ⟨o', z⟩ := B.there b o q hx
    exact ⟨o', (hs.2 b (ne b o q)).trans z⟩
  · have fr : H' C = none := J.free
    refine (J.hok b o e).stay (fun c v hc q => (hs.2 c ?_).trans q) (fun _ q => q) fun _ _ q => q
    rintro rfl
    rcases hc with z | z
    · rw [z, e] at fr; cases fr
    · rw [z] at fr; cases fr
end
end L2

set_option Elab.async false
set_option linter.all false
set_option maxRecDepth 100000
set_option maxHeartbeats 1000000
namespace L2
open PySem PySem.Spec PyProof.Rows
section
variable {prog : Program} {w : World} {A : Around} {R : Result → Shared → Prop} {s : Shared}
theorem compLoop_own {elt target iter : Expr} {ifs : List Expr} {scope : Scope} {pos : Pos} {it acc : Value} {env : Env} (I : Nat → Shared → Prop)
    (turn : ∀ n s, I n s → wpAny (model prog w) A (pyNext it) (fun r s₁ => match r with
      | none => R (.ok .next) s₁
      | some v => wpAny (model prog w) A (letOwnedTupleGo target it v) (fun _ s₀ => wpAny (model prog w) A (assign target env v) (fun _ s₂ =>
          wpAny (model prog w) A (forIn ifs true fun c r => if r = true then do let ok ← isTrue c env (eval c env); pure (ForInStep.yield ok) else pure (ForInStep.yield r)) (fun ok s₃ =>
            if ok = true then wpAny (model prog w) A (eval elt env) (fun x s₄ =>
              wpAny (model prog w) A (call (.builtin "list.append") [acc, x]) (fun _ s₅ => ∃ m, m < n ∧ I m s₅) (notedBy (model prog w) A env fun e s' => R (.error e) s') s₄) (notedBy (model prog w) A env fun e s' => R (.error e) s') s₃
            else ∃ m, m < n ∧ I m s₃) (notedBy (model prog w) A env fun e s' => R (.error e) s') s₂) (notedBy (model prog w) A env fun e s' => R (.error e) s') s₀) (notedBy (model prog w) A env fun e s' => R (.error e) s') s₁) (notedBy (model prog w) A env fun e s' => R (.error e) s') s)
    (n : Nat) (h : I n s) :
    codeAny (model prog w) A (.compLoop (.ListComp elt [⟨target, iter, ifs, 0⟩] scope pos) 0 it acc env) R s := by
  refine codeAny_loop rfl I (fun n s hI => ?_) n h
  show wpAny _ A ((compTurn (.ListComp elt [⟨target, iter, ifs, 0⟩] scope pos) 0 it acc env).onRaise (fun x => do noteFrame x env; theTreesLotGoes x)) _ _ s
  refine wpAny_noted ?_
  rw [compTurn_list]
  refine wpAny_bind (wpAny_standAt (wpAny_bind (wpAny_mono (turn n s hI) (fun r s₁ h₁ => ?_) fun _ _ h' => h')))
  cases r with
  | none => exact wpAny_pure h₁
  | some v =>
    refine wpAny_bind (wpAny_mono h₁ (fun _ s₀ h₀ => ?_) fun _ _ h' => h')
    refine wpAny_bind (wpAny_mono h₀ (fun _ s₂ h₂ => wpAny_bind (wpAny_mono h₂ (fun ok s₃ h₃ => ?_) fun _ _ h' => h')) fun _ _ h' => h')
    cases ok with
    | false => exact wpAny_pure ⟨rfl, h₃⟩
    | true =>
      exact wpAny_bind (wpAny_bind (wpAny_mono h₃ (fun x s₄ h₄ => wpAny_bind (wpAny_mono h₄ (fun _ s₅ h₅ => wpAny_pure (wpAny_pure ⟨rfl, h₅⟩)) fun _ _ h' => h')) fun _ _ h' => h'))
end
/-! ### tests of a comprehension -/
def PIfs (X : Cx) (ifs : List Expr) (t : TT) : Prop := ∀ (pins : List (Addr × Obj)) (s : Shared) (σ : St) (H : Hp) (Q : Bool → Hp → Prop), Inv X pins σ H s → t σ H Q →
  wpAny (model X.prog X.w) X.A (forIn ifs true fun c r => if r = true then do let ok ← isTrue c X.env (eval c X.env); pure (ForInStep.yield ok) else pure (ForInStep.yield r)) (TP X pins σ Q) X.xe s
def QF (X : Cx) (ifs : List Expr) (τ : TauT) : Prop := ∃ t : TT, PIfs X ifs t ∧ ∀ (F₀ : Hp) (ev : Ev) (F : Hp) (σ : St) (H : Hp) (Q : Bool → Hp → Prop) (C : Bool → Ev → Prop), RS X.w X.K X.H₀ F₀ F ev σ H → τ ev C →
  (∀ b ev' F' H', RS X.w X.K X.H₀ F₀ F' ev' σ H' → Same F F' → C b ev' → Q b H') → t σ H Q
def zF0 : TauT := fun ev C => C true ev
theorem q_f0 {X : Cx} : QF X [] zF0 := ⟨fun _ H Q => Q true H, fun pins s σ H Q I h => by
  rw [List.forIn_nil]
  exact wpAny_pure ⟨H, I, h⟩, fun _ _ F _ H _ _ R h k => k _ _ F H R (Same.refl _) h⟩
/-! ### what a comprehension walks -/
structure ItOk (J : It) (F : Hp) (n : Nat) (vs : Nat → Option V) : Prop where
  go : ∀ i H, Same F H → i < n → J.go i H
  yld : ∀ i H x H', Same F H → i < n → J.yld i H x H' → H' = H ∧ vs i = some x
  stop : ∀ H, Same F H → J.stop n H
theorem itok_list {K : PySem.W.Frag} {F : Hp} {a : Addr} {xs : List V} (h : SqL K F a xs) : ItOk (Itl K a) F xs.length fun i => xs[i]? :=
  ⟨fun i H s hi => ⟨xs, xs[i], s.seq h, by simp [hi]⟩, fun i H x H' s hi y => ⟨y.1, y.2 xs (s.seq h)⟩, fun H s => ⟨xs, s.seq h, Nat.le_refl _⟩⟩
/-! ### the block, purely -/
def outS : Option Sl → Sl
  | some (.val d) => .val d
  | _ => .unk
def outY (js : List Nat) (ev : Ev) : List Sl := js.map fun j => outS ev[j]?
def evY (cn : Nat) (outer : List Sl) (acc : List PyData) : Ev := List.replicate cn .unk ++ (outer ++ [.own (.lst acc)])
def CpE (k : Nat) (acc : List PyData) (J : List PyData → Prop) : PyData → Ev → Prop := fun d ev => ev[k]? = some (.own (.lst acc)) ∧ acc.length < sizeLine ∧ J (acc ++ [d])
def CpT (k : Nat) (acc : List PyData) (τe : TauE) (J : List PyData → Prop) : Bool → Ev → Prop := fun b ev => if b = true then τe ev (CpE k acc J) else ev[k]? = some (.own (.lst acc)) ∧ J acc
def CpG (k : Nat) (acc : List PyData) (τt : TauT) (τe : TauE) (J : List PyData → Prop) : Ev → Prop := fun ev => τt ev (CpT k acc τe J)
def CompD (ds : List PyData) (cn : Nat) (outer : List Sl) (γ : TauG) (τt : TauT) (τe : TauE) (C : List PyData → Prop) : Prop :=
  ∃ J : Nat → List PyData → Prop, J 0 [] ∧ (∀ i x acc, ds[i]? = some x → J i acc → γ x (evY cn outer acc) (CpG (cn + outer.length) acc τt τe (J (i + 1)))) ∧ ∀ acc, J ds.length acc → C acc
section
variable {X : Cx} {pins : List (Addr × Obj)} {σ : St} {H2 F₀ F2 : Hp} {s2 : Shared} {ev : Ev} {scope : Scope} {cn fr : List Str} {js : List Nat} {fp : List Addr} {it : Addr}
theorem rsY {w : World} {K : PySem.W.Frag} {H₀ F' H' : Hp} {D : Addr} {acc : List PyData} (R2 : RS w K H₀ F₀ F2 ev σ H2) (rb : RB H2 F2 F' H') (wo : Ow w K F' H' D (.lst acc)) (hf : F' D = none) (h2 : H2 D = none) : RS w K H2 F2 F' (evY cn.length (outY js ev) acc) (sigY cn js σ D) H' := by
  have key : ∀ (i : Nat) (sl : Sl), (evY cn.length (outY js ev) acc)[i]? = some sl → sl = .unk ∨ (∃ (n j : Nat), i = cn.length + n ∧ js[n]? = some j ∧ sl = outS ev[j]?) ∨ (i = cn.length + js.length ∧ sl = .own (.lst acc)) := fun i sl e => by
    unfold evY outY at e
    by_cases hi : i < cn.length
    · rw [List.getElem?_append_left (by rw [List.length_replicate]; exact hi), List.getElem?_replicate, if_pos hi] at e
      exact .inl (Option.some.inj e).symm
    · rw [List.getElem?_append_right (by rw [List.length_replicate]; omega), List.length_replicate] at e
      by_cases hn : i - cn.length < js.length
      · rw [List.getElem?_append_left (by rw [List.length_map]; exact hn), List.getElem?_map] at e
        cases q : js[i - cn.length]? with
        | none => rw [q] at e; cases e
        | some j => rw [q] at e; exact .inr (.inl ⟨i - cn.length, j, by omega, q, (Option.some.inj e).symm⟩)
      · rw [List.getElem?_append_right (by rw [List.length_map]; omega), List.length_map] at e
        cases z : i - cn.length - js.length with
        | zero => rw [z] at e; exact .inr (.inr ⟨by omega, (Option.some.inj e).symm⟩)
        | succ k => rw [z] at e; simp at e
  have noC : ∀ (i : Nat) (os : List (Addr × MV)), (evY cn.length (outY js ev) acc)[i]? ≠ some (.cel os) := fun i os e => by
    rcases key i _ e with z | ⟨n, j, rfl, q, z⟩ | ⟨_, z⟩
    · cases z
    · unfold outS at z
      split at z <;> cases z
    · cases z
  have sg : ∀ (n j : Nat), js[n]? = some j → (sigY cn js σ D)[cn.length + n]? = some ((σ[j]?).getD none) := fun n j q => by
    unfold sigY
    have hn : n < js.length := (List.getElem?_eq_some_iff.mp q).1
    rw [List.getElem?_append_right (by rw [List.length_replicate]; omega), List.length_replicate, Nat.add_sub_cancel_left, List.getElem?_append_left (by rw [List.length_map]; exact hn), List.getElem?_map, q]
    rfl
  have sd : (sigY cn js σ D)[cn.length + js.length]? = some (some (.ref D)) := by
    unfold sigY
    rw [List.getElem?_append_right (by rw [List.length_replicate]; omega), List.length_replicate, Nat.add_sub_cancel_left, List.getElem?_append_right (by rw [List.length_map]; omega), List.length_map, Nat.sub_self]
    rfl
  refine ⟨rb, ?_, fun i d e => ?_, fun i m e => ?_, fun i j m m' a e1 e2 _ _ => ?_, fun i C e => ?_, fun i os e => absurd e (noC i os), fun i j os os' e _ => absurd e (noC i os)⟩
  · unfold evY outY sigY
    simp only [List.length_append, List.length_replicate, List.length_map, List.length_cons, List.length_nil]
  · rcases key i _ e with z | ⟨n, j, rfl, q, z⟩ | ⟨_, z⟩
    · cases z
    · unfold outS at z
      split at z
      case h_1 d' qe =>
        cases z
        obtain ⟨v, h1, h3⟩ := R2.val j _ qe
        exact ⟨v, by rw [sg n j q, h1]; rfl, h3.mono rb.f0⟩
      case h_2 => cases z
    · cases z
  · rcases key i _ e with z | ⟨n, j, rfl, q, z⟩ | ⟨rfl, z⟩
    · cases z
    · unfold outS at z
      split at z <;> cases z
    · cases z
      exact ⟨D, sd, wo, hf, h2⟩
  · have one : ∀ (k : Nat) (mm : MV), (evY cn.length (outY js ev) acc)[k]? = some (.own mm) → k = cn.length + js.length := fun k mm e => by
      rcases key k _ e with z | ⟨n, j, rfl, q, z⟩ | ⟨z, _⟩
      · cases z
      · unfold outS at z
        split at z <;> cases z
      · exact z
    rw [one i m e1, one j m' e2]
  · rcases key i _ e with z | ⟨n, j, rfl, q, z⟩ | ⟨_, z⟩
    · cases z
    · unfold outS at z
      split at z <;> cases z
    · cases z
end
end L2

set_option Elab.async false
set_option linter.all false
set_option maxRecDepth 100000
set_option maxHeartbeats 1000000
namespace L2
open PySem PySem.Spec PyProof.Rows
section
variable {X : Cx} {pins : List (Addr × Obj)} {σ : St} {H2 F₀ F2 : Hp} {s2 : Shared} {ev : Ev} {scope : Scope} {cn fr : List Str} {js : List Nat} {fp : List Addr} {it : Addr} {E : Value → Shared → Prop}
theorem comp_core {elt tg iter : Expr} {ifs : List Expr} {pos : Pos} {J : It} {tn : Nat → Heap → Prop} {n : Nat} {vs : Nat → Option V} {ds : List PyData} {γ : TauG} {τt : TauT} {τe : TauE} {S : List Nat} {Cc : List PyData → Prop} {RR' : Value → Addr → Result → Shared → Prop}
    (I2 : Inv X pins σ H2 s2) (T : Turn X.prog X.w X.K tg J fp it tn) (st2 : tn 0 s2.heap) (f2 : ∀ b ∈ fp, FpOk X pins H2 b) (hc : X.calm = true) (B : BlkOk X scope cn fr js) (hacc : (accN, NameKind.free) ∉ scope.names) (hacc' : (accN, NameKind.local) ∉ scope.names)
    (R2 : RS X.w X.K X.H₀ F₀ F2 ev σ H2) (O : ItOk J F2 n vs) (hv : ∀ i x, i < n → vs i = some x → ∃ d, ds[i]? = some d ∧ Rp X.w X.K F2 x d) (hn : n = ds.length) (hS : ∀ j ∈ S, j < cn.length)
    (hγ : ∀ C, QG (X.blk (cn ++ (fr ++ [accN])) scope C s2 H2 fp (X.pn ++ pins)) S tg γ) (hτt : ∀ C, QF (X.blk (cn ++ (fr ++ [accN])) scope C s2 H2 fp (X.pn ++ pins)) ifs τt) (hτe : ∀ C, QE (X.blk (cn ++ (fr ++ [accN])) scope C s2 H2 fp (X.pn ++ pins)) elt τe)
    (h : CompD ds cn.length (outY js ev) γ τt τe Cc)
    (hRR : ∀ D C H' s' F' acc m, s2.heap.objs.size ≤ C → D ≠ C → H2 D = none → Inv (X.blk (cn ++ (fr ++ [accN])) scope C s2 H2 fp (X.pn ++ pins)) [] (sigY cn js σ D) H' s' → s'.heap.Ns C m → RB H2 F2 F' H' → Ow X.w X.K F' H' D (.lst acc) → F' D = none → Cc acc → RR' (.ref D) C (.ok .next) s') :
    wpAny (model X.prog X.w) X.A (newList []) (fun acc s₃ => wpAny (model X.prog X.w) X.A (newFunctionEnv scope X.env.globals (closOf scope.names X.env.cells []) [] X.env.qual none .none (some X.env)) (fun cenv s₄ =>
      codeAny (model X.prog X.w) X.A (.compStart (.ListComp elt [⟨tg, iter, ifs, 0⟩] scope pos) 0 (.ref it) acc { cenv with scope := relabel scope X.env }) (RR' acc cenv.locals) s₄) E s₃) E s2 := by
  obtain ⟨Jv, j0, jt, je⟩ := h
  refine wpAny_newObj_type (wpAny_newFunctionEnv B.nocell (by intro y hy; simp at hy) (fun h₁ hns₁ hsb₁ => ?_) B.kind)
  dsimp only at hns₁ hsb₁ ⊢
  generalize hG : s2.heap.push { cls := .type "list", dict := none, data := .seq ([] : List Value).toArray } = G2 at hns₁ hsb₁ ⊢
  have hC : G2.objs.size = s2.heap.objs.size + 1 := by rw [← hG, Heap.size_push]
  have hDC : s2.heap.objs.size ≠ G2.objs.size := by rw [hC]; exact Nat.ne_of_lt (Nat.lt_succ_self _)
  have hCle : s2.heap.objs.size ≤ G2.objs.size := by rw [hC]; exact Nat.le_succ _
  have below : ∀ b, b < s2.heap.objs.size → b ≠ G2.objs.size := fun b hb => by rw [hC]; exact Nat.ne_of_lt (Nat.lt_succ_of_lt hb)
  have old : ∀ b o, s2.heap.get? b = some o → h₁.get? b = some o := fun b o e => hsb₁.extBut b o (below b (Heap.lt_size e)) (Heap.get?_push_of_some _ (hG ▸ Heap.get?_push_of_some _ e))
  have hl : h₁.get? s2.heap.objs.size = some { cls := .type "list", data := .seq #[] 0 } := hsb₁.extBut _ _ hDC (Heap.get?_push_of_some _ (hG ▸ Heap.get?_push_size _ rfl))
  have hob : ∀ b ∈ fp, ∃ o, s2.heap.get? b = some o := fun b hb => by
    obtain ⟨o, e, _⟩ := T.obj 0 _ st2 b hb
    exact ⟨o, e⟩
  have hD0 : H2 s2.heap.objs.size = none := I2.hok.fresh (Nat.le_refl _)
  generalize hD : s2.heap.objs.size = D at *
  generalize G2.objs.size = C at *
  obtain ⟨g, hgg, kg⟩ := hγ C
  obtain ⟨tt, htt, kt⟩ := hτt C
  obtain ⟨te, hte, ke⟩ := hτe C
  have IY : Inv (X.blk (cn ++ (fr ++ [accN])) scope C s2 H2 fp (X.pn ++ pins)) [] (sigY cn js σ D) (upd H2 D (.lst [])) { s2 with heap := h₁, toks := s2.toks + ([] : List (Str × Value)).length } :=
    blk_inv I2 B f2 hob (by rw [hD]; exact hCle) (by rw [hD]; exact Nat.le_refl _) hDC hacc hacc' old hns₁ hl rfl rfl
  have fpY : ∀ {H' : Hp} {pl : List (Addr × Obj)}, (∀ b ∈ fp, H' b = none) → (∀ p ∈ pl, p.1 ∉ fp) → ∀ b ∈ fp, FpOk (X.blk (cn ++ (fr ++ [accN])) scope C s2 H2 fp (X.pn ++ pins)) pl H' b := fun {H' pl} hn hp b hb => by
    refine ⟨hn b hb, (IY.ok.exf b hb).1, IY.ok.exfs b hb, .inl hb, (IY.ok.exf b hb).2, fun p hpm => ?_⟩
    rcases List.mem_append.mp hpm with z | z
    · exact (f2 b hb).2.2.2.2.2 p z
    · exact fun q => hp p z (by rw [q]; exact hb)
  have rb0 : RB H2 F2 F2 (upd H2 D (.lst [])) := ⟨R2.le.trans (same_upd hD0), same_upd hD0, Same.refl _, fun _ z => .inl z⟩
  have fr0 : F2 D = none := R2.le.free hD0
  have frD : ∀ b ∈ fp, upd H2 D (.lst []) b = none := fun b hb => by
    obtain ⟨o, e⟩ := hob b hb
    have lt := Heap.lt_size e
    rw [hD] at lt
    rw [upd_ne (Nat.ne_of_lt lt)]
    exact (f2 b hb).1
  have loop : ∀ (s₃ : Shared), s₃ = { s2 with heap := h₁, toks := s2.toks + ([] : List (Str × Value)).length } →
      codeAny (model X.prog X.w) X.A (.compLoop (.ListComp elt [⟨tg, iter, ifs, 0⟩] scope pos) 0 (.ref it) (.ref D) (compEnvC scope (closOf scope.names X.env.cells []) C X.env)) (RR' (.ref D) C) s₃ := by
    rintro s₃ rfl
    refine compLoop_own (fun k s' => ∃ i acc H' F', k = n - i ∧ i ≤ n ∧ Inv (X.blk (cn ++ (fr ++ [accN])) scope C s2 H2 fp (X.pn ++ pins)) [] (sigY cn js σ D) H' s' ∧ tn i s'.heap ∧ (∀ b ∈ fp, H' b = none) ∧ RB H2 F2 F' H' ∧ Ow X.w X.K F' H' D (.lst acc) ∧ F' D = none ∧ Jv i acc) ?_ n
      ⟨0, [], _, F2, rfl, Nat.zero_le _, IY, T.keep _ _ _ st2 fun b _ o e => old b o e, frD, rb0, ⟨[], upd_same, .nil⟩, fr0, j0⟩
    rintro k s' ⟨i, acc, H', F', rfl, hi, I', st', fr', rb', w', hf', j'⟩
    by_cases hlt : i < n
    · refine wpAny_mono (T.item (X.blk (cn ++ (fr ++ [accN])) scope C s2 H2 fp (X.pn ++ pins)) rfl rfl rfl hc i [] s' _ H' (fun _ _ => False) I' (fpY fr' (fun _ z => nomatch z)) st' (O.go i H' (rb'.f0.trans rb'.le) hlt)) (fun r s4 h4 => ?_) fun _ _ z => z.elim
      obtain ⟨u, rfl, h4⟩ := h4
      refine wpAny_mono h4 (fun _ s5 h5 => ?_) fun _ _ z => z.elim
      obtain ⟨x, H5, I5, r5, y5, st5, fr5⟩ := h5
      obtain ⟨rfl, hvx⟩ := O.yld i H' x H5 (rb'.f0.trans rb'.le) hlt y5
      obtain ⟨d, hd, rd⟩ := hv i x hlt hvx
      have I5' := I5.pinned (fpY fr5 (fun _ z => nomatch z)) (T.obj _ _ st5)
      have RY : RS X.w X.K H2 F2 F' (evY cn.length (outY js ev) acc) (sigY cn js σ D) H5 := rsY R2 rb' w' hf' hD0
      refine wpAny_mono (hgg _ s5 _ H5 x u _ I5' r5 (kg F2 _ F' _ H5 x d (fun σ6 H6 => ∃ ev6, RS X.w X.K H2 F2 F' ev6 σ6 H5 ∧ H6 = H5 ∧ (∀ j, j ∉ S → σ6[j]? = (sigY cn js σ D)[j]?) ∧ CpG (cn.length + (outY js ev).length) acc τt τe (Jv (i + 1)) ev6) _ RY (rd.mono rb'.f0) (jt i d acc hd j') fun ev6 σ6 R6 e6 c6 => ⟨ev6, R6, rfl, e6, c6⟩)) (fun _ s6 h6 => ?_) fun _ _ z => z.elim
      obtain ⟨σ6, H6, I6, ev6, R6, rfl, e6, c6⟩ := h6
      have back : ∀ {pl : List (Addr × Obj)} {H7 : Hp} {s7 : Shared}, Inv (X.blk (cn ++ (fr ++ [accN])) scope C s2 H2 fp (X.pn ++ pins)) pl σ6 H7 s7 → Inv (X.blk (cn ++ (fr ++ [accN])) scope C s2 H2 fp (X.pn ++ pins)) pl (sigY cn js σ D) H7 s7 := fun {pl H7 s7} I7 =>
        I7.weak (by rw [I7.len]; exact IY.len) fun j v q => by
          rw [e6 j (fun hj => ?_)]
          · exact q
          · have hjl := hS j hj
            unfold sigY at q
            rw [List.getElem?_append_left (by rw [List.length_replicate]; exact hjl), List.getElem?_replicate] at q
            split at q <;> cases q
      have sD : σ6[cn.length + (outY js ev).length]? = some (some (.ref D)) := by
        rw [e6 _ (fun hj => by have := hS _ hj; omega)]
        unfold sigY outY
        rw [List.getElem?_append_right (by rw [List.length_replicate]; omega), List.length_replicate, Nat.add_sub_cancel_left, List.getElem?_append_right (by rw [List.length_map, List.length_map]; omega), List.length_map, List.length_map, Nat.sub_self]
        rfl
      have fin : ∀ {H7 : Hp} {s7 : Shared} {F7 : Hp} {ev7 : Ev} {acc' : List PyData}, Inv (X.blk (cn ++ (fr ++ [accN])) scope C s2 H2 fp (X.pn ++ pins)) ([] ++ pinsAt fp s5.heap) σ6 H7 s7 → RS X.w X.K H2 F2 F7 ev7 σ6 H7 → ev7[cn.length + (outY js ev).length]? = some (.own (.lst acc')) → Jv (i + 1) acc' →
          ∃ m, m < n - i ∧ ∃ i acc H' F', m = n - i ∧ i ≤ n ∧ Inv (X.blk (cn ++ (fr ++ [accN])) scope C s2 H2 fp (X.pn ++ pins)) [] (sigY cn js σ D) H' s7 ∧ tn i s7.heap ∧ (∀ b ∈ fp, H' b = none) ∧ RB H2 F2 F' H' ∧ Ow X.w X.K F' H' D (.lst acc) ∧ F' D = none ∧ Jv i acc := fun {H7 s7 F7 ev7 acc'} I7 R7 e7 j7 => by
        obtain ⟨a, s1, w7, hf7, _⟩ := R7.own _ _ e7
        rw [sD] at s1; cases s1
        refine ⟨n - (i + 1), by omega, i + 1, acc', H7, F7, rfl, hlt, (back I7).unpinned, T.keep _ _ _ st5 fun b hb o e => (I7.pin (b, o) (List.mem_append_right _ (List.mem_append_right _ (mem_pinsAt hb e)))).1, fun b hb => ?_, R7.toRB, w7, hf7, j7⟩
        obtain ⟨o, e, d⟩ := T.obj _ _ st5 b hb
        exact (I7.pin (b, o) (List.mem_append_right _ (List.mem_append_right _ (mem_pinsAt hb e)))).2.1
      refine wpAny_mono (htt _ s6 σ6 H6 _ I6 (kt F2 ev6 F' σ6 H6 (fun b H7 => ∃ ev7 F7, RS X.w X.K H2 F2 F7 ev7 σ6 H7 ∧ CpT (cn.length + (outY js ev).length) acc τe (Jv (i + 1)) b ev7) _ R6 c6 fun b ev7 F7 H7 R7 s7 c7 => ⟨ev7, F7, R7, c7⟩)) (fun b s7 h7 => ?_) fun _ _ z => z.elim
      obtain ⟨H7, I7, ev7, F7, R7, c7⟩ := h7
      cases b with
      | false =>
        unfold CpT at c7
        rw [if_neg Bool.false_ne_true] at c7 ⊢
        exact fin I7 R7 c7.1 c7.2
      | true =>
        unfold CpT at c7
        rw [if_pos rfl] at c7 ⊢
        refine wpAny_mono (hte _ s7 σ6 H7 _ I7 (ke F2 ev7 F7 σ6 H7 (fun v H8 => ∃ d8 ev8 F8, RS X.w X.K H2 F2 F8 ev8 σ6 H8 ∧ Rp X.w X.K F8 v d8 ∧ CpE (cn.length + (outY js ev).length) acc (Jv (i + 1)) d8 ev8) _ R7 c7 fun d8 ev8 F8 v H8 R8 r8 s8 c8 => ⟨d8, ev8, F8, R8, r8, c8⟩)) (fun y s8 h8 => ?_) fun _ _ z => z.elim
        obtain ⟨v8, H8, I8, rv8, d8, ev8, F8, R8, r8, c8⟩ := h8
        obtain ⟨a, vs8, s1, h1, h3⟩ := R8.item c8.1
        rw [sD] at s1; cases s1
        refine wpAny_mono (mt_append (X := X.blk (cn ++ (fr ++ [accN])) scope C s2 H2 fp (X.pn ++ pins)) _ s8 σ6 H8 (.ref D) [v8] (.ref D) [y] (fun _ H9 => H9 = upd H8 D (.lst (vs8 ++ [v8]))) I8 rfl (.cons rv8 .nil) ⟨D, vs8, v8, rfl, rfl, h1, by rw [h3.length]; exact c8.2.1, rfl⟩) (fun _ s9 h9 => ?_) fun _ _ z => z.elim
        obtain ⟨_, H9, I9, _, rfl⟩ := h9
        exact fin I9 (R8.change c8.1 sD (m' := .lst (acc ++ [d8])) ⟨_, upd_same, h3.append (.cons r8 .nil)⟩) (by
          rw [List.getElem?_set_self (List.getElem?_eq_some_iff.mp c8.1).1]) c8.2.2
    · have e : i = n := by omega
      subst e
      refine wpAny_mono (T.done (X.blk (cn ++ (fr ++ [accN])) scope C s2 H2 fp (X.pn ++ pins)) rfl rfl rfl hc i [] s' _ H' (fun _ _ => False) I' (fpY fr' (fun _ z => nomatch z)) st' (O.stop H' (rb'.f0.trans rb'.le))) (fun r s4 h4 => ?_) fun _ _ z => z.elim
      obtain ⟨rfl, I4⟩ := h4
      obtain ⟨m, hm, _⟩ := I4.loc
      exact hRR D C H' s4 F' acc m hCle hDC hD0 I4 hm rb' w' hf' (je acc (by rw [← hn]; exact j'))
  exact codeAny_compStart_list (loop _ rfl) (T.self _ 0 _ _ _ (T.keep _ _ _ st2 fun b _ o e => old b o e) (loop _ rfl))
end
end L2

set_option Elab.async false
set_option linter.all false
set_option maxRecDepth 100000
set_option maxHeartbeats 1000000
namespace L2
open PySem PySem.Spec PyProof.Rows
def frz1 (ev : Ev) (j : Nat) : Ev := match ev[j]? with | some (.own m) => ev.set j (.val (frz m)) | _ => ev
def frzAll (js : List Nat) (ev : Ev) : Ev := js.foldl frz1 ev
theorem RS.frzAll {w : World} {K : PySem.W.Frag} {H₀ F₀ : Hp} {σ : St} {H : Hp} : ∀ (js : List Nat) {F : Hp} {ev : Ev}, RS w K H₀ F₀ F ev σ H → ∃ F', RS w K H₀ F₀ F' (L2.frzAll js ev) σ H ∧ Same F F'
  | [], F, ev, R => ⟨F, R, Same.refl _⟩
  | j :: r, F, ev, R => by
    have h : ∃ F', RS w K H₀ F₀ F' (frz1 ev j) σ H ∧ Same F F' := by
      unfold frz1
      split
      case h_1 m e =>
        obtain ⟨a, h1, h2, _⟩ := R.own j m e
        obtain ⟨o, ho⟩ := h2.there
        obtain ⟨R', _, sm⟩ := R.freeze e h1 ho
        exact ⟨_, R', sm⟩
      case h_2 => exact ⟨F, R, Same.refl _⟩
    obtain ⟨F1, R1, s1⟩ := h
    obtain ⟨F2, R2, s2⟩ := RS.frzAll r R1
    exact ⟨F2, R2, s1.trans s2⟩
theorem ItOk.mono {J : It} {F F' : Hp} {n : Nat} {vs : Nat → Option V} (O : ItOk J F n vs) (s : Same F F') : ItOk J F' n vs :=
  ⟨fun i H h => O.go i H (s.trans h), fun i H x H' h => O.yld i H x H' (s.trans h), fun H h => O.stop H (s.trans h)⟩
def rngD (lo : Int) (n : Nat) : List PyData := (List.range n).map fun i => .int (lo + (i : Nat))
section
variable {X : Cx} {elt tg iter : Expr} {ifs : List Expr} {scope : Scope} {pos : Pos} {cn fr : List Str} {js S : List Nat} {γ : TauG} {τt : TauT} {τe : TauE}
/-- what the source has brought -/
def Src (X : Cx) (F₀ F : Hp) (σ : St) (cn : List Str) (js : List Nat) (γ : TauG) (τt : TauT) (τe : TauE) (C : MV → Ev → Prop) (J : It) (H1 : Hp) : Prop :=
  ∃ (F1 : Hp) (ev1 : Ev) (n : Nat) (vs : Nat → Option V) (ds : List PyData), RS X.w X.K X.H₀ F₀ F1 ev1 σ H1 ∧ ItOk J F1 n vs ∧ (∀ i x, i < n → vs i = some x → ∃ d, ds[i]? = some d ∧ Rp X.w X.K F1 x d) ∧ n = ds.length ∧ Same F F1 ∧
    CompD ds cn.length (outY js (frzAll js ev1)) γ τt τe (fun acc => C (.lst acc) (frzAll js ev1))
theorem q_comp {wi : TI} {τs : Ev → (MV → Ev → Prop) → Prop} (hi : PI X tg iter wi) (hsrc : ∀ (F₀ : Hp) (ev : Ev) (F : Hp) (σ : St) (H : Hp) (C : MV → Ev → Prop), RS X.w X.K X.H₀ F₀ F ev σ H → τs ev C → wi σ H (Src X F₀ F σ cn js γ τt τe C))
    (hc : X.calm = true) (B : BlkOk X scope cn fr js) (hacc : (accN, NameKind.free) ∉ scope.names) (hacc' : (accN, NameKind.local) ∉ scope.names) (hS : ∀ j ∈ S, j < cn.length)
    (hγ : ∀ C s₀ H₀ fp pn, QG (X.blk (cn ++ (fr ++ [accN])) scope C s₀ H₀ fp pn) S tg γ) (hτt : ∀ C s₀ H₀ fp pn, QF (X.blk (cn ++ (fr ++ [accN])) scope C s₀ H₀ fp pn) ifs τt) (hτe : ∀ C s₀ H₀ fp pn, QE (X.blk (cn ++ (fr ++ [accN])) scope C s₀ H₀ fp pn) elt τe)
    (hs : ∀ x, foldedSetIterable iter X.env x = pure x := by intro _; rfl) : QO X (.ListComp elt [⟨tg, iter, ifs, 0⟩] scope pos) τs := by
  refine ⟨fun σ H Q => ∀ pins s, Inv X pins σ H s → wpAny (model X.prog X.w) X.A (eval (.ListComp elt [⟨tg, iter, ifs, 0⟩] scope pos) X.env) (EP X pins σ Q) X.xe s, fun pins s σ H Q I h => h pins s I, fun F₀ ev F σ H Q C R h k pins s I => ?_⟩
  rw [eval_ListComp]
  refine wpAny_comprehension_free (use := none) rfl hs (clos_eq B.all) B.kind B.loc ?_
  refine thn (hi pins s σ H _ I (hsrc F₀ ev F σ H C R h)) fun xv s1 h1 => thn h1 fun itv s2 h2 => ?_
  obtain ⟨it, fp, tn, J, H2, rfl, I2, T, st2, f2, F1, ev1, n, vs, ds, R1, O, hv, hn, sm, cd⟩ := h2
  obtain ⟨F2, R2, sm2⟩ := R1.frzAll js
  refine comp_core I2 T st2 f2 hc B hacc hacc' R2 (O.mono sm2) (fun i x hlt e => ?_) hn hS (fun C => hγ C _ _ _ _) (fun C => hτt C _ _ _ _) (fun C => hτe C _ _ _ _) cd (RR' := fun acc C => compPost (model X.prog X.w) X.A X.xe none (EP X pins σ Q) acc C) (fun D C' H' s' F' acc m hC hDC hD0 I' hm rb w hf cc => ⟨m, hm, fun h' hs' => ?_⟩)
  · obtain ⟨d, h3, h4⟩ := hv i x hlt e
    exact ⟨d, h3, h4.mono sm2⟩
  · exact ⟨.ref D, H', blk_end (t' := s'.toks) I2 f2 hC I' hs', rfl, k _ _ F' D H' (R2.grow ⟨rb.le, rb.k0, rb.f0, rb.nw⟩) w hf (R2.k0.free hD0) (R2.nobody hD0) ((sm.trans sm2).trans rb.f0) cc⟩
def zCompL (τ : TauE) (cn : Nat) (js : List Nat) (γ : TauG) (τt : TauT) (τe : TauE) : TauO := fun ev C => τ ev fun d ev1 => match d with | .list ds => CompD ds cn (outY js (frzAll js ev1)) γ τt τe (fun acc => C (.lst acc) (frzAll js ev1)) | _ => False
def zCompT (τ : TauE) (cn : Nat) (js : List Nat) (γ : TauG) (τt : TauT) (τe : TauE) : TauO := fun ev C => τ ev fun d ev1 => match d with | .tuple ds => CompD ds cn (outY js (frzAll js ev1)) γ τt τe (fun acc => C (.lst acc) (frzAll js ev1)) | _ => False
def zCompR (τ : TauA) (cn : Nat) (js : List Nat) (γ : TauG) (τt : TauT) (τe : TauE) : TauO := fun ev C => τ ev fun ds ev1 => match ds with | [.int j] => (-(2 ^ 62) ≤ j ∧ j < 2 ^ 62) ∧ CompD (rngD 0 j.toNat) cn (outY js (frzAll js ev1)) γ τt τe (fun acc => C (.lst acc) (frzAll js ev1)) | _ => False
theorem src_list {τ : TauE} {t : TE} (ks : ∀ (F₀ : Hp) (ev : Ev) (F : Hp) (σ : St) (H : Hp) (Q : VK) (C : PyData → Ev → Prop), RS X.w X.K X.H₀ F₀ F ev σ H → τ ev C → (∀ d ev' F' v H', RS X.w X.K X.H₀ F₀ F' ev' σ H' → Rp X.w X.K F' v d → Same F F' → C d ev' → Q v H') → t σ H Q)
    (F₀ : Hp) (ev : Ev) (F : Hp) (σ : St) (H : Hp) (C : MV → Ev → Prop) (R : RS X.w X.K X.H₀ F₀ F ev σ H) (h : zCompL τ cn.length js γ τt τe ev C) : iList X.K t σ H (Src X F₀ F σ cn js γ τt τe C) := by
  refine ks F₀ ev F σ H _ _ R h fun d ev1 F1 v H1 R1 r s c => ?_
  cases r with
  | @lst a vs ds hq hr => exact ⟨a, rfl, ⟨vs, R1.le.seq hq⟩, F1, ev1, vs.length, _, ds, R1, itok_list hq, fun i x hi e => hr.getV e, hr.length, s, c⟩
  | _ => exact False.elim c
theorem BlkOk.of (h1 : scope.kind = .function := by rfl) (h2 : (scope.names.all fun y => y.2 != .cell) = true := by first | rfl | decide +kernel) (h3 : (scope.names.all fun y => y.2 != .local || scope.names.lookup y.1 == some .local) = true := by first | rfl | decide +kernel)
    (h4 : (scope.names.all fun y => y.2 != .free || (X.env.cells.lookup y.1).isSome) = true := by rfl) (h5 : js.map (fun j => X.N[j]?) = fr.map some := by rfl) (h6 : (fr.all fun x => X.env.kindOf x == some .cell || X.env.kindOf x == some .free) = true := by rfl)
    (h7 : (fr.all fun x => !(scope.names.any fun y => y.1 == x && y.2 == .local)) = true := by first | rfl | decide +kernel) (h8 : (fr.all fun x => scope.names.any fun y => y.1 == x && y.2 == .free) = true := by first | rfl | decide +kernel) : BlkOk X scope cn fr js where
  kind := h1
  nocell := fun y hy z => by
    have := List.all_eq_true.mp h2 y hy
    rw [z] at this
    simp at this
  loc := fun y hy z => by
    have := List.all_eq_true.mp h3 y hy
    rw [z] at this
    simpa using this
  all := h4
  slots := h5
  cells := fun x hx => by
    have := List.all_eq_true.mp h6 x hx
    simpa using this
  frl := fun x hx hm => by
    have h := List.all_eq_true.mp h7 x hx
    have h' : (scope.names.any fun y => y.1 == x && y.2 == .local) = true := List.any_eq_true.mpr ⟨_, hm, by simp⟩
    rw [h'] at h
    cases h
  frs := fun x hx => by
    have h := List.all_eq_true.mp h8 x hx
    obtain ⟨y, hy, e⟩ := List.any_eq_true.mp h
    simp only [Bool.and_eq_true, beq_iff_eq] at e
    obtain ⟨e1, e2⟩ := e
    rw [← e1, ← e2]
    exact hy
section
variable {τ : TauE} {τa : TauA}
theorem q_compL (hsrc : QE X iter τ) (hc : X.calm = true) (B : BlkOk X scope cn fr js)
    (hγ : ∀ C s₀ H₀ fp pn, QG (X.blk (cn ++ (fr ++ [accN])) scope C s₀ H₀ fp pn) S tg γ) (hτt : ∀ C s₀ H₀ fp pn, QF (X.blk (cn ++ (fr ++ [accN])) scope C s₀ H₀ fp pn) ifs τt) (hτe : ∀ C s₀ H₀ fp pn, QE (X.blk (cn ++ (fr ++ [accN])) scope C s₀ H₀ fp pn) elt τe)
    (hacc : (accN, NameKind.free) ∉ scope.names := by decide +kernel) (hacc' : (accN, NameKind.local) ∉ scope.names := by decide +kernel) (hS : ∀ j ∈ S, j < cn.length := by decide) (hs : ∀ x, foldedSetIterable iter X.env x = pure x := by intro _; rfl) :
    QO X (.ListComp elt [⟨tg, iter, ifs, 0⟩] scope pos) (zCompL τ cn.length js γ τt τe) := by
  obtain ⟨t, ht, ks⟩ := hsrc
  exact q_comp (pi_list ht) (src_list ks) hc B hacc hacc' hS hγ hτt hτe hs
end
end
end L2
namespace L2
theorem iteNb {p : Prop} [Decidable p] {A B : Prop} (h1 : ¬ p → A) (h2 : p → B) : if (!decide p) = true then A else B := by
  by_cases h : p
  · rw [decide_eq_true h]
    exact iteF (h2 h)
  · rw [decide_eq_false h]
    exact iteT (h1 h)
end L2
namespace L2
open PySem
end L2
namespace L2
theorem iteBF {b : Bool} {A B : Prop} (h : b = false) (hB : B) : if b = true then A else B := by
  rw [h]
  exact iteF hB
end L2

set_option Elab.async false
set_option linter.all false
set_option maxRecDepth 100000
set_option maxHeartbeats 1000000
namespace L2
open PySem PySem.Spec PyProof.Rows
section
variable {X : Cx} {pos : Pos}
def rhTuple : Rho := fun ds C => match ds with | [.list xs] => C (.tuple xs) | [.tuple xs] => C (.tuple xs) | _ => False
theorem c_tuple : CallP X (.type "tuple") rhTuple := ⟨_, call_tuple_of, fun F H xs ds Q C le r c k => by
  unfold rhTuple at c
  split at c
  case h_1 ys =>
    obtain ⟨v, rfl, h⟩ := r.one
    obtain ⟨a, vs, rfl, hq, hs⟩ := h.sizes
    refine ⟨a, vs, rfl, .inl ⟨le.seq hq, fun l hl => ?_⟩⟩
    have g : Gr F H (upd F l (.tup vs)) (upd H l (.tup vs)) := Gr.new le hl
    exact k _ _ _ _ g (.tup (SqK.of upd_same) (hs.mono g.ff)) c
  case h_2 ys =>
    obtain ⟨v, rfl, h⟩ := r.one
    obtain ⟨a, vs, rfl, hq, hs⟩ := h.sizesT
    exact ⟨a, vs, rfl, .inr ⟨le.sqt hq, k _ _ _ _ (Gr.refl le) h c⟩⟩
  case h_3 => exact False.elim c⟩
/-! ### a value that the module holds -/
/-! ### list + list -/
def zCat (τ υ : TauE) : TauO := fun ev C => τ ev fun d1 ev1 => υ ev1 fun d2 ev2 => match d1, d2 with | .list xs, .list ys => xs.length + ys.length ≤ sizeLine ∧ C (.lst (xs ++ ys)) ev2 | _, _ => False
end
end L2

set_option Elab.async false
set_option linter.all false
set_option maxRecDepth 100000
set_option maxHeartbeats 1000000
namespace L2
open PySem PySem.Spec PyProof.Rows
/-! ### a, b, .. = a list -/
section
variable {prog : Program} {w : World} {A : Around} {E : Value → Shared → Prop} {s : Shared}
theorem draw_list {it l : Addr} {items : Array Value} (hne : l ≠ it) : ∀ (n i : Nat) (s : Shared) (Q : List Value → Shared → Prop), s.heap.IsListIter it l i → s.heap.IsList l items → i + n ≤ items.size →
    (∀ h', h'.IsListIter it l (i + n) → Heap.SameBut it s.heap h' → Q ((items.toList.drop i).take n) { s with heap := h' }) → wpAny (model prog w) A (draw (.ref it) n) Q E s
  | 0, i, s, Q, hit, _, _, hQ => by
    show wpAny _ _ (pure []) Q E s
    exact wpAny_pure (by simpa using hQ s.heap hit (Heap.SameBut.refl ..))
  | n + 1, i, s, Q, hit, ht, hle, hQ => by
    have hlt : i < items.size := by omega
    show wpAny _ _ (pyNext (.ref it) >>= _) Q E s
    refine wpAny_bind (wpAny_pyNext_list_item hit ht (x := items[i]) (by simp [hlt]) fun h₁ hit₁ hs₁ => ?_)
    refine wpAny_bind (wpAny_holding (draw_list hne n (i + 1) _ _ hit₁ (ht.extBut hs₁.extBut hne) (by omega) fun h₂ hit₂ hs₂ => wpAny_pure ?_))
    have hd : items.toList.drop i = items[i] :: items.toList.drop (i + 1) := by simp [List.drop_eq_getElem_cons, hlt]
    have := hQ h₂ (by rw [show i + (n + 1) = i + 1 + n by omega]; exact hit₂) (hs₁.trans hs₂)
    rw [hd, List.take_succ_cons] at this
    exact this
theorem unpackItems_list {t : Addr} {items : Array Value} {Q : List Value → Shared → Prop} (hh : A.handled = none) (ht : s.heap.IsList t items)
    (hQ : ∀ h', Heap.ExtBut s.heap.objs.size s.heap h' → Q items.toList { s with heap := h' }) : wpAny (model prog w) A (unpackItems (.ref t) items.size none) Q E s := by
  have hlt : t ≠ s.heap.objs.size := by obtain ⟨o, ho, _⟩ := ht; exact Nat.ne_of_lt (Heap.lt_size ho)
  unfold unpackItems
  refine wpAny_bind ?_
  · unfold notIterableAtAll
    refine wpAny_bind (wpAny_specialOf ht.typeIs slot_list_iter.lookup ?_)
    refine wpAny_pure ?_
    simp only [Bool.false_eq_true, if_false]
    refine wpAny_bind (wpAny_holding (wpAny_pyIter_list ht ?_))
    refine wpAny_bind (wpAny_holding (draw_list hlt items.size 0 _ _ ⟨_, Heap.get?_push_size _ rfl, rfl, rfl⟩ (ht.push _) (by omega) fun h₁ hit₁ hs₁ => ?_))
    have hall : List.take items.size (List.drop 0 items.toList) = items.toList := by
      rw [List.drop_zero]; exact List.take_of_length_le (by simp)
    rw [hall]
    rw [if_neg (by simp)]
    have ht₁ : h₁.IsList t items := (ht.push _).extBut hs₁.extBut hlt
    refine wpAny_bind (wpAny_holding (wpAny_pyNext_list_end hh hit₁ ht₁ (by simp) fun h₂ he₂ => ?_))
    simp only [Option.isSome_none, Bool.false_eq_true, if_false]
    refine wpAny_pure (hQ h₂ fun b o hb e => he₂ b o hb (hs₁.extBut b o hb (Heap.get?_push_of_some _ e)))
theorem unpack_list {t : Addr} {items : Array Value} {targets : List (Bool × (Value → Sem Unit))} {Q : Unit → Shared → Prop} (hh : A.handled = none) (ht : s.heap.IsList t items)
    (hn : targets.length = items.size) (hstar : targets.findIdx? (·.1) = none)
    (h : ∀ h', Heap.ExtBut s.heap.objs.size s.heap h' → wpAny (model prog w) A (assignInOrder (targets.map (·.2)) items.toList) Q E { s with heap := h' }) :
    wpAny (model prog w) A (unpack (.ref t) targets) Q E s := by
  unfold unpack
  rw [hn, hstar]
  exact wpAny_bind (wpAny_holding (unpackItems_list hh ht h))
end
section
variable {X : Cx} {pos : Pos}
def gLst (K : PySem.W.Frag) (n : Nat) (t : TGs) : TG := fun v σ H Q => ∃ a xs, v = .ref a ∧ SqL K H a xs ∧ xs.length = n ∧ t xs σ H Q
theorem pg_lst {es : List Expr} {k : Nat} {t : TGs} {n : Nat} (hc : X.calm = true) (h : PGs X es t)
    (hn : (assignEach es X.env).length = n := by rfl) (hst : (assignEach es X.env).findIdx? (·.1) = none := by rfl) : PG X (.Tuple es k pos) (gLst X.K n t) := by
  intro pins s σ H v u Q I r hw
  obtain ⟨a, xs, e1, hq, hl, hw⟩ := hw
  subst e1
  cases r
  obtain ⟨its, rv, ht, hz⟩ := I.list hq
  rw [assign_Tuple]
  refine wpAny_bind (wpAny_standAt (unpack_list (I.ok.hd hc) ht.isList (by simp [hn, ← hl, rv.length]) hst fun h' hx => ?_))
  have I1 : Inv X pins σ H { s with heap := h' } := I.kept (t' := s.toks) fun b o e => hx b o (Nat.ne_of_lt (Heap.lt_size e)) e
  exact h pins _ σ H xs _ Q I1 (by simpa using rv) hw
def zGlst (n : Nat) (δ : TauGs) : TauG := fun d ev C => match d with | .list ds => ds.length = n ∧ δ ds ev C | _ => False
theorem q_glst {es : List Expr} {kk : Nat} {n : Nat} {δ : TauGs} {S : List Nat} (hc : X.calm = true) (h : QGs X S es δ) (hn : (assignEach es X.env).length = n := by rfl) (hst : (assignEach es X.env).findIdx? (·.1) = none := by rfl) : QG X S (.Tuple es kk pos) (zGlst n δ) := by
  obtain ⟨t, ht, k⟩ := h
  refine ⟨_, pg_lst hc ht hn hst, fun F₀ ev F σ H v d Q C R r h kk => ?_⟩
  cases r with
  | lst hq hs => exact ⟨_, _, rfl, R.le.seq hq, by rw [hs.length]; exact h.1, k F₀ ev F σ H _ _ _ _ R hs h.2 kk⟩
  | _ => exact False.elim h
end
end L2
namespace L2
open PySem PySem.Spec PyProof.Rows
section
variable {X : Cx} {pos : Pos}
def rCatS (K : PySem.W.Frag) : R2 := fun x y H Q => ∃ l b xs zs, x = .ref l ∧ y = .ref b ∧ SqL K H l xs ∧ SqL K H b zs ∧ xs.length + zs.length ≤ sizeLine ∧ ∀ p, H p = none → Q (.ref p) (upd H p (.lst (xs ++ zs)))
theorem op_catS : OpR X (binaryOp .Add) (rCatS X.K) := by
  intro pins s σ H x y v u Q I rx ry h
  obtain ⟨l, b, xs, zs, rfl, rfl, hl, hb, hz, q⟩ := h
  cases rx
  cases ry
  obtain ⟨its, r, ⟨o, n, ho, hc, hdi, hd⟩, _⟩ := I.list hl
  obtain ⟨its2, r2, ⟨o2, n2, ho2, hc2, hdi2, hd2⟩, _⟩ := I.list hb
  obtain ⟨cls, dd, data, sl⟩ := o
  obtain ⟨cls2, dd2, data2, sl2⟩ := o2
  simp only at hc hd hdi hc2 hd2 hdi2
  subst hc hd hdi hc2 hd2 hdi2
  have hz' : its.toArray.size + its2.toArray.size ≤ sizeLine := by rw [List.size_toArray, List.size_toArray, ← r.length, ← r2.length]; exact hz
  refine concat_meets ⟨_, ho, rfl⟩ ⟨_, ho2, rfl⟩ noFill_list_add seq_list_add PySem.F.slot_list_add PySem.F.entry_list_add (PySem.F.args_list_add_2 _ _) (list_addW l b its.toArray its2.toArray n n2 _ _ sl sl2 hz') ⟨ho, ho2, ?_⟩
  have ea : its.toArray ++ its2.toArray = (its ++ its2).toArray := by simp
  rw [ea]
  exact ⟨.ref _, _, I.lnew (t' := s.toks) (r.append r2) (by rw [List.length_append]; omega), rfl, q _ I.fresh⟩
theorem q_cat {a b : Expr} {τ υ : TauE} (ha : QE X a τ) (hb : QE X b υ) : QO X (.BinOp a .Add b pos) (zCat τ υ) := by
  obtain ⟨ta, ha, ka⟩ := ha
  obtain ⟨tb, hb, kb⟩ := hb
  refine ⟨_, pe_op op_catS ha hb, fun F₀ ev F σ H Q C R h k => ka F₀ ev F σ H _ _ R h fun d1 ev1 F1 x H1 R1 r1 s1 c1 => kb F₀ ev1 F1 σ H1 _ _ R1 c1 fun d2 ev2 F2 y H2 R2 r2 s2 c2 => ?_⟩
  cases r1 with
  | @lst l vs ds hq hs =>
    cases r2 with
    | @lst b ws es hq2 hs2 =>
      refine ⟨l, b, vs, ws, rfl, rfl, (s2.trans R2.le).seq hq, R2.le.seq hq2, by rw [hs.length, hs2.length]; exact c2.1, fun p hp => ?_⟩
      have g := Gr.newO (o := .lst (vs ++ ws)) R2.le hp
      exact k _ _ _ _ _ (R2.grow g) (Ow.ofL upd_same ((hs.mono s2).append hs2)) (R2.le.free hp) (R2.k0.free hp) (R2.nobody hp) (s1.trans s2) c2.2
    | _ => exact False.elim c2
  | _ => exact False.elim c2
end
end L2

set_option Elab.async false
set_option linter.all false
set_option maxRecDepth 100000
set_option maxHeartbeats 1000000
/-! lending: what a name owns is shared for the time of one expression, and owned again behind it -/
namespace L2
open PySem PySem.Spec PyProof.Rows
/-- nothing that is followed stands where a constant of the text stands -/
structure Dj (K : PySem.W.Frag) (H : Hp) : Prop where
  kk : ∀ b o, K.lookup b = some o → H b = Option.none
  ok : ∃ (P : Program) (w : World) (H' : Hp) (h : Heap), Same H H' ∧ HOk P w H' h
theorem Dj.le {K : PySem.W.Frag} {F H : Hp} (s : Same F H) (h : Dj K H) : Dj K F :=
  ⟨fun b o e => s.free (h.kk b o e), let ⟨P, w, H', h', e, z⟩ := h.ok; ⟨P, w, H', h', s.trans e, z⟩⟩
theorem Dj.pin {K : PySem.W.Frag} {F : Hp} {a : Addr} {o o' : Obj} (dj : Dj K F) (h : F a = some (PinO a o)) (h' : F a = some (PinO a o')) : o = o' := by
  obtain ⟨P, w, H', hp, e, z⟩ := dj.ok
  have y : hp.get? a = some o := (z a _ (e _ _ h)).1
  have y' : hp.get? a = some o' := (z a _ (e _ _ h')).1
  rw [y] at y'
  exact Option.some.inj y'
section
variable {X : Cx}
theorem Inv.dj {pins : List (Addr × Obj)} {σ : St} {H : Hp} {s : Shared} (I : Inv X pins σ H s) : Dj X.K H := ⟨fun b o e => (I.bs b o (I.mod.kin b o e)).2, _, _, H, s.heap, Same.refl _, I.hok⟩
def tDj (t : TE) : TE := fun σ H Q => t σ H fun v H' => Dj X.K H' → Q v H'
def tDjT (t : TT) : TT := fun σ H Q => t σ H fun b H' => Dj X.K H' → Q b H'
theorem pt_dj {e : Expr} {t : TT} (h : PT X e t) : PT X e (tDjT (X := X) t) := fun pins s σ H Q I k => thn (h pins s σ H _ I k) fun u s' ⟨H', I', q⟩ => ⟨H', I', q I'.dj⟩
end
section
variable {w : World} {K : PySem.W.Frag} {F F' H H' H₀ F₀ : Hp}
theorem Rd.fn {a : Addr} {u u' : HO} (h : Rd F a u) (h' : Rd F a u') (n : ∀ o v, u ≠ .frz o v) (n' : ∀ o v, u' ≠ .frz o v) : u = u' := by
  rcases h with h | ⟨o, h⟩ <;> rcases h' with h' | ⟨o', h'⟩ <;> rw [h] at h' <;> cases h'
  · rfl
  · exact absurd rfl (n _ _)
  · exact absurd rfl (n' _ _)
  · rfl
theorem Rd.nd {a : Addr} {u : HO} {o : Obj} (h : Rd F a u) (dj : Dj K F) (e : K.lookup a = some o) : False := by
  have := dj.kk a o e
  rcases h with h | ⟨o, h⟩ <;> rw [h] at this <;> cases this
theorem Sq.lt {a : Addr} {xs ys : List V} (dj : Dj K F) (h : SqL K F a xs) (h' : SqT K F a ys) : False := by
  rcases h with h | ⟨o, its, n, h1, h2, h3, h4, h5, h6⟩ <;> rcases h' with h' | ⟨o', its', n', h1', h2', h4', h5', h6'⟩
  · have := Rd.fn h h' (fun _ _ z => by cases z) (fun _ _ z => by cases z)
    cases this
  · exact (h.nd dj h1').elim
  · exact (h'.nd dj h1).elim
  · rw [h1] at h1'; cases h1'
    rw [h2] at h2'
    exact absurd h2' (by decide)
theorem SqL.nod {a : Addr} {xs : List V} {o' : Obj} (dj : Dj K F) (h : SqL K F a xs) (h' : F a = some (PinO a o')) : False := by
  rcases h with h | ⟨o, its, n, h1, h2, h3, h4, h5, h6⟩
  · have := Rd.fn h (.inl h') (fun _ _ z => by cases z) (fun _ _ z => by cases z)
    cases this
  · have := dj.kk a o h1
    rw [h'] at this; cases this
theorem SqT.nod {a : Addr} {xs : List V} {o' : Obj} (dj : Dj K F) (h : SqT K F a xs) (h' : F a = some (PinO a o')) : False := by
  rcases h with h | ⟨o, its, n, h1, h2, h4, h5, h6⟩
  · have := Rd.fn h (.inl h') (fun _ _ z => by cases z) (fun _ _ z => by cases z)
    cases this
  · have := dj.kk a o h1
    rw [h'] at this; cases this
theorem kV_fn : ∀ {k k' : Key} {u : Value}, RelV (kV k) u → RelV (kV k') u → k = k'
  | .inl _, .inl _, _, ⟨_, e⟩, ⟨_, e'⟩ => by subst e; cases e'; rfl
  | .inr _, .inr _, _, ⟨_, e⟩, ⟨_, e'⟩ => by subst e; cases e'; rfl
  | .inl _, .inr _, _, ⟨_, e⟩, ⟨_, e'⟩ => by subst e; cases e'
  | .inr _, .inl _, _, ⟨_, e⟩, ⟨_, e'⟩ => by subst e; cases e'
theorem kVs_fn : ∀ {a b : List Key}, a.map kV = b.map kV → a = b
  | [], [], _ => rfl
  | [], _ :: _, e => by cases e
  | _ :: _, [], e => by cases e
  | x :: a, y :: b, e => by
    rw [List.map_cons, List.map_cons] at e
    injection e with e1 e2
    rw [kVs_fn e2]
    cases x <;> cases y <;> cases e1 <;> rfl
theorem KeyR.fn : ∀ {k k' : KD} {u : Value}, KeyR F k u → KeyR F k' u → k = k'
  | .inl a, .inl b, _, h, h' => by rw [kV_fn (k := a) (k' := b) h h']
  | .inr a, .inr b, _, ⟨c, e, h⟩, ⟨c', e', h'⟩ => by
    subst e
    cases e'
    rw [h] at h'
    injection h' with h'
    injection h' with h'
    rw [kVs_fn h']
  | .inl (.inl _), .inr _, _, ⟨_, e⟩, ⟨_, e', _⟩ => by subst e; cases e'
  | .inl (.inr _), .inr _, _, ⟨_, e⟩, ⟨_, e', _⟩ => by subst e; cases e'
  | .inr _, .inl (.inl _), _, ⟨_, e', _⟩, ⟨_, e⟩ => by subst e; cases e'
  | .inr _, .inl (.inr _), _, ⟨_, e', _⟩, ⟨_, e⟩ => by subst e; cases e'
theorem recs_fn : ∀ {xs ys : List DX}, xs.map (entX w) = ys.map (entX w) → (∀ x ∈ xs, KeyR F x.1 x.2.1) → (∀ x ∈ ys, KeyR F x.1 x.2.1) → xs = ys
  | [], [], _, _, _ => rfl
  | [], _ :: _, e, _, _ => by cases e
  | _ :: _, [], e, _, _ => by cases e
  | (k, u, v) :: xs, (k', u', v') :: ys, e, h, h' => by
    rw [List.map_cons, List.map_cons] at e
    injection e with e1 e2
    have ih := recs_fn e2 (fun x hx => h x (List.mem_cons_of_mem _ hx)) (fun x hx => h' x (List.mem_cons_of_mem _ hx))
    injection e1 with _ e3 e4
    have e3 : u = u' := e3
    have e4 : v = v' := e4
    subst e3 e4 ih
    have a := h _ List.mem_cons_self
    have b := h' _ List.mem_cons_self
    have : k = k' := KeyR.fn (u := u) a b
    rw [this]
theorem DRec.fn {o : Obj} {xs ys : List DX} (r : DRec w o xs) (r' : DRec w o ys) (h : ∀ x ∈ xs, KeyR F x.1 x.2.1) (h' : ∀ x ∈ ys, KeyR F x.1 x.2.1) : xs = ys := by
  obtain ⟨es, ep, e1, e2⟩ := r.es
  obtain ⟨es', ep', e1', e2'⟩ := r'.es
  rw [e1] at e1'
  cases e1'
  exact recs_fn (e2.symm.trans e2') h h'
/-- D is nowhere within -/
inductive Ap (D : PyData) : PyData → Prop
  | non : Ap D .none
  | bl (b : Bool) : Ap D (.bool b)
  | int (i : Int) : Ap D (.int i)
  | str (x : Str) : Ap D (.str x)
  | tup {ds : List PyData} : (∀ d ∈ ds, Ap D d) → Ap D (.tuple ds)
  | cel (a : Addr) : Ap D (opD a)
def del (F : Hp) (a : Addr) : Hp := fun b => if b = a then Option.none else F b
theorem del_ne {a b : Addr} (h : b ≠ a) : del F a b = F b := if_neg h
theorem del_same {a : Addr} : del F a a = Option.none := if_pos rfl
theorem Rd.del {a b : Addr} {u : HO} (ne : b ≠ a) (h : Rd F b u) : Rd (del F a) b u := by
  unfold Rd
  rw [del_ne ne]
  exact h
theorem KeyR.del {a : Addr} {D : PyData} (dj : Dj K F) (hD : Rp w K F (.ref a) D) (hn : ∀ ds, D ≠ .tuple ds) : ∀ {k : KD} {u : Value}, KeyR F k u → KeyR (L2.del F a) k u
  | .inl _, _, h => h
  | .inr ks, _, ⟨b, e, h⟩ => by
    refine ⟨b, e, ?_⟩
    rw [del_ne]
    · exact h
    · intro z
      subst z
      cases hD with
      | lst h' hs' => exact Sq.lt dj h' (.inl (.inl h))
      | tup h' hs' => exact hn _ rfl
      | dct h' => rw [h] at h'; cases h'
mutual
theorem Rp.del {a : Addr} {D : PyData} (dj : Dj K F) (hD : Rp w K F (.ref a) D) (hn : ∀ ds, D ≠ .tuple ds) : ∀ {v : V} {d : PyData}, Rp w K F v d → Ap D d → Rp w K (L2.del F a) v d
  | _, _, .non, _ => .non
  | _, _, .bl b, _ => .bl b
  | _, _, .int i, _ => .int i
  | _, _, .str x, _ => .str x
  | _, _, .lst (a := b) h hs, p => nomatch p
  | _, _, .tup (a := b) h hs, p => by
    cases p with
    | tup hp =>
      refine .tup ?_ (Rps.del dj hD hn hs hp)
      rcases h with h | h
      · refine .inl ?_
        rw [del_ne]
        · exact h
        · intro z
          subst z
          cases hD with
          | lst h' hs' => exact Sq.lt dj h' (.inl (.inl h))
          | tup h' hs' => exact hn _ rfl
          | dct h' => rw [h] at h'; cases h'
      · exact .inr h
  | _, _, .dct (a := b) (kvs := kvs) h l r1 k1 q1 z1 hs, p => by
    generalize hd : PyData.dict (kvs.map fun kv => (kdD kv.1, kv.2)) = dd at p
    cases p with
    | cel c => exact (opD_ne hd).elim
    | _ => cases hd
  | _, _, .cel a, _ => .cel a
theorem Rps.del {a : Addr} {D : PyData} (dj : Dj K F) (hD : Rp w K F (.ref a) D) (hn : ∀ ds, D ≠ .tuple ds) : ∀ {vs : List V} {ds : List PyData}, Rps w K F vs ds → (∀ d ∈ ds, Ap D d) → Rps w K (L2.del F a) vs ds
  | _, _, .nil, _ => .nil
  | _, _, .cons h hs, p => .cons (Rp.del dj hD hn h (p _ (by simp))) (Rps.del dj hD hn hs fun d hd => p d (by simp [hd]))
end
def ApM (D : PyData) : MV → Prop
  | .lst ds => ∀ d ∈ ds, Ap D d
  | .dct kvs => ∀ kv ∈ kvs, Ap D kv.2
theorem Ow.del {a b : Addr} {D : PyData} {m : MV} (dj : Dj K F) (hD : Rp w K F (.ref a) D) (hn : ∀ ds, D ≠ .tuple ds) (h : Ow w K F H b m) (p : ApM D m) : Ow w K (L2.del F a) H b m := by
  cases m with
  | lst ds => obtain ⟨vs, e, r⟩ := h; exact ⟨vs, e, Rps.del dj hD hn r p⟩
  | dct kvs =>
    obtain ⟨o, xs, vs, e, y, q, k, z, u, r⟩ := h
    exact ⟨o, xs, vs, e, y, q, fun x hx => KeyR.del dj hD hn (k x hx), z, u, Rps.del dj hD hn r fun d hd => by
      obtain ⟨kv, h1, rfl⟩ := List.mem_map.mp hd
      exact p kv h1⟩
def ApSl (D : PyData) : Sl → Prop
  | .own m => ApM D m
  | .cel os => ∀ am ∈ os, ApM D am.2
  | _ => True
def ApAll (D : PyData) : Ev → Prop
  | [] => True
  | s :: r => ApSl D s ∧ ApAll D r
/-- all that is owned beside i -/
def ApBut (D : PyData) : Nat → Ev → Prop
  | _, [] => True
  | 0, _ :: r => ApAll D r
  | i + 1, s :: r => ApSl D s ∧ ApBut D i r
theorem ApAll.get {D : PyData} : ∀ {ev : Ev} {j : Nat} {s : Sl}, ApAll D ev → ev[j]? = some s → ApSl D s
  | [], _, _, _, e => by simp at e
  | _ :: _, 0, _, h, e => by simp at e; subst e; exact h.1
  | _ :: _, j + 1, _, h, e => ApAll.get (j := j) h.2 (by simpa using e)
theorem ApBut.get {D : PyData} : ∀ {i : Nat} {ev : Ev} {j : Nat} {s : Sl}, ApBut D i ev → j ≠ i → ev[j]? = some s → ApSl D s
  | _, [], _, _, _, _, e => by simp at e
  | 0, _ :: _, 0, _, _, n, _ => absurd rfl n
  | 0, _ :: _, j + 1, _, h, _, e => ApAll.get (j := j) h (by simpa using e)
  | i + 1, _ :: _, 0, _, h, _, e => by simp at e; subst e; exact h.1
  | i + 1, _ :: _, j + 1, _, h, n, e => ApBut.get (i := i) (j := j) h.2 (fun z => n (by rw [z])) (by simpa using e)
theorem frz_nt (m : MV) : ∀ ds, frz m ≠ .tuple ds := fun ds z => by cases m <;> cases z
/-- owned again -/
theorem RS.thaw {F1 H1 : Hp} {ev : Ev} {σ : St} {i : Nat} {m : MV} {a : Addr} {o : HO} (dj : Dj K H1) (R : RS w K H₀ F₀ F ev σ H) (hi : ev[i]? = some (.own m)) (hs : σ[i]? = some (some (.ref a))) (ho : H a = some o)
    (R1 : RS w K H₀ F₀ F1 (ev.set i (.val (frz m))) σ H1) (s1 : Same (upd F a o) F1) (p : ApBut (frz m) i ev) :
    RS w K H₀ F₀ (del F1 a) ev σ H1 ∧ Rp w K F1 (.ref a) (frz m) ∧ Same F (del F1 a) := by
  obtain ⟨a', q1, q2, hf, h0⟩ := R.own i m hi
  rw [hs] at q1; cases q1
  have dj1 : Dj K F1 := dj.le R1.le
  have sF : Same F (upd F a o) := same_upd hf
  have hD : Rp w K F1 (.ref a) (frz m) := (q2.frz ho hf).mono s1
  have sm : Same F (del F1 a) := fun b u q => by
    rw [del_ne (ne_of_none q hf)]
    exact s1 _ _ (sF _ _ q)
  have ha1 : F1 a = some o := s1 _ _ upd_same
  have hn := frz_nt m
  refine ⟨⟨⟨fun b u q => ?_, R1.k0, R.f0.trans sm, fun b z => ?_⟩, R.len, fun j d e => ?_, fun j m' e => ?_, R.uni, fun j C e => ?_, fun j os e => ?_, R.uniC⟩, hD, sm⟩
  · by_cases e : b = a
    · subst e; rw [del_same] at q; cases q
    · rw [del_ne e] at q; exact R1.le b u q
  · by_cases e : b = a
    · subst e; exact absurd del_same z
    · rw [del_ne e] at z; exact R1.nw b z
  · obtain ⟨v, h1, h2⟩ := R.val j d e
    exact ⟨v, h1, h2.mono sm⟩
  · by_cases ej : j = i
    · subst ej
      rw [hi] at e; cases e
      refine ⟨a, hs, ?_, del_same, h0⟩
      cases m with
      | lst ds =>
        obtain ⟨vs, e, r⟩ := q2
        rw [e] at ho; cases ho
        exact ⟨vs, R1.le _ _ ha1, r.mono sm⟩
      | dct kvs =>
        obtain ⟨o, xs, vs, e, y, q, k, z, u, r⟩ := q2
        rw [e] at ho; cases ho
        exact ⟨o, xs, vs, R1.le _ _ ha1, y, q, fun x hx => (k x hx).mono sm, z, u, r.mono sm⟩
    · obtain ⟨b, h1, h2, h3, h4⟩ := R1.own j m' (by rw [List.getElem?_set_ne (fun z => ej z.symm)]; exact e)
      have ne : b ≠ a := by
        rintro rfl
        exact ej (R.uni j i m' m b e hi h1 hs)
      exact ⟨b, h1, h2.del dj1 hD hn (p.get ej e), by rw [del_ne ne]; exact h3, h4⟩
  · obtain ⟨ea, h1, h2⟩ := R.exc j C e
    exact ⟨ea, h1, sm _ _ h2⟩
  · have ej : j ≠ i := fun z => by rw [z, hi] at e; cases e
    obtain ⟨nd, k⟩ := R1.cel j os (by rw [List.getElem?_set_ne (fun z => ej z.symm)]; exact e)
    refine ⟨nd, fun b m1 hm => ?_⟩
    obtain ⟨q2, q3, q4, _⟩ := k b m1 hm
    have q5 := ((R.cel j os e).2 b m1 hm).2.2.2
    have ne : b ≠ a := fun z => q5 i m hi (by rw [z]; exact hs)
    exact ⟨q2.del dj1 hD hn (p.get ej e (b, m1) hm), by rw [del_ne ne]; exact q3, q4, q5⟩
end
section
variable {X : Cx} {e : Expr}
def zLend (i : Nat) (τ : TauE) : TauE := fun ev C => match ev[i]? with | some (.own m) => τ (ev.set i (.val (frz m))) fun d ev' => ev' = ev.set i (.val (frz m)) ∧ Ap (frz m) d ∧ ApBut (frz m) i ev ∧ C d ev | _ => False
def zLendT (i : Nat) (τ : TauT) : TauT := fun ev C => match ev[i]? with | some (.own m) => τ (ev.set i (.val (frz m))) fun b ev' => ev' = ev.set i (.val (frz m)) ∧ ApBut (frz m) i ev ∧ C b ev | _ => False
theorem q_lendT (i : Nat) {τ : TauT} (h : QT X e τ) : QT X e (zLendT i τ) := by
  obtain ⟨t, ht, k⟩ := h
  refine ⟨_, pt_dj ht, fun F₀ ev F σ H Q C R h kk => ?_⟩
  unfold zLendT at h
  split at h
  case h_1 m em =>
    obtain ⟨a, h1, h2, h3, h4⟩ := R.own i m em
    obtain ⟨o, ho⟩ := h2.there
    obtain ⟨R', rp, sm⟩ := R.freeze em h1 ho
    refine k F₀ _ _ σ H _ _ R' h fun b ev' F1 H1 R1 s1 c dj => ?_
    obtain ⟨rfl, ab, c⟩ := c
    obtain ⟨R2, hD, s2⟩ := R.thaw dj em h1 ho R1 s1 ab
    exact kk b ev _ H1 R2 s2 c
  case h_2 => exact h.elim
def zLendO (i : Nat) (τ : TauO) : TauO := fun ev C => match ev[i]? with | some (.own m) => τ (ev.set i (.val (frz m))) fun m' ev' => ev' = ev.set i (.val (frz m)) ∧ ApM (frz m) m' ∧ ApBut (frz m) i ev ∧ C m' ev | _ => False
end
end L2

set_option Elab.async false
set_option linter.all false
set_option maxRecDepth 100000
set_option maxHeartbeats 1000000
/-! texts: sorted, and what goes with it -/
namespace L2
open PySem PySem.Spec PyProof.Rows
section
variable {X : Cx} {pos : Pos}
theorem strsAre_of : ∀ {ss : List Str} {its : List Value}, Vals (ss.map .str) its → StrsAre its ss
  | [], _, r => by cases r; exact .nil
  | x :: ss, _, r => by
    cases r with
    | cons h t =>
      obtain ⟨t', rfl⟩ := h
      exact .cons x t' (strsAre_of t)
theorem vals_strs : ∀ {ss : List Str} {its : List Value}, StrsAre its ss → Vals (ss.map .str) its
  | _, _, .nil => .nil
  | _, _, .cons x t h => .cons ⟨t, rfl⟩ (vals_strs h)
/-- sorted of texts, fewer than 64 -/
def rSortS (K : PySem.W.Frag) : List V → Hp → VK → Prop := fun xs H Q => ∃ p ss, xs = [.ref p] ∧ SqL K H p (ss.map .str) ∧ ss.length < 64 ∧ ∀ l ss', H l = none → ss'.Perm ss → sortedS ss' = true → Q (.ref l) (upd H l (.lst (ss'.map .str)))
theorem call_sortedS : CallR X (.builtin "sorted") (rSortS X.K) := by
  intro pins s σ H xs us Q I r h
  obtain ⟨p, ss, rfl, hq, h64, q⟩ := h
  obtain ⟨u, rfl, rx⟩ := vals1 r
  cases rx
  obtain ⟨its, r', pl, hz⟩ := I.list hq
  have hlen := r'.length
  rw [List.length_map] at hlen
  refine sorted_strs pl.isList (strsAre_of r') (by omega) fun out ss' a1 a2 a3 => ?_
  obtain ⟨e, he⟩ := sortedAll_at s.heap its out
  have hl := a2.length_eq
  refine ⟨.ref (s.heap.objs.size + 1), _, I.laid (t' := s.toks) (fun _ _ => sortedAll_old) (Nat.le_succ _) (show ObjOk X.prog X.w _ _ _ (.lst (ss'.map .str)) from ⟨by rw [List.length_map, hl]; exact Nat.le_trans (Nat.le_of_lt h64) (by decide), out.toList, e, vals_strs a1, by simpa using he⟩), rfl, q _ ss' (I.hok.fresh (Nat.le_succ _)) a2 a3⟩
end
end L2

set_option Elab.async false
set_option linter.all false
set_option maxRecDepth 100000
set_option maxHeartbeats 1000000
namespace L2
open PySem PySem.Spec PyProof.Rows
section
variable {X : Cx} {pos : Pos}
/-! ### built-in calls that make a new list -/
abbrev RhoO := List PyData → (MV → Prop) → Prop
def CallO (X : Cx) (f : Value) (ρ : RhoO) : Prop := ∃ r : List V → Hp → VK → Prop, CallR X f r ∧ ∀ (F H : Hp) (xs : List V) (ds : List PyData) (Q : VK) (C : MV → Prop), Same F H → Rps X.w X.K F xs ds → ρ ds C →
  (∀ m a o, H a = Option.none → Ow X.w X.K F (upd H a o) a m → C m → Q (.ref a) (upd H a o)) → r xs H Q
def zCBO (ρ : RhoO) (τ : TauA) : TauO := fun ev C => τ ev fun ds ev' => ρ ds fun m => C m ev'
theorem zcbo {ρ : RhoO} {r : List V → Hp → VK → Prop} {τ : TauA} {t : TA} (kr : ∀ (F H : Hp) (xs : List V) (ds : List PyData) (Q : VK) (C : MV → Prop), Same F H → Rps X.w X.K F xs ds → ρ ds C → (∀ m a o, H a = Option.none → Ow X.w X.K F (upd H a o) a m → C m → Q (.ref a) (upd H a o)) → r xs H Q)
    (ka : ∀ (F₀ : Hp) (ev : Ev) (F : Hp) (σ : St) (H : Hp) (Q : List V → Hp → Prop) (C : List PyData → Ev → Prop), RS X.w X.K X.H₀ F₀ F ev σ H → τ ev C → (∀ d ev' F' v H', RS X.w X.K X.H₀ F₀ F' ev' σ H' → Rps X.w X.K F' v d → Same F F' → C d ev' → Q v H') → t σ H Q)
    (F₀ : Hp) (ev : Ev) (F : Hp) (σ : St) (H : Hp) (Q : VK) (C : MV → Ev → Prop) (R : RS X.w X.K X.H₀ F₀ F ev σ H) (h : zCBO ρ τ ev C)
    (k : ∀ m ev' F' a H', RS X.w X.K X.H₀ F₀ F' ev' σ H' → Ow X.w X.K F' H' a m → F' a = Option.none → X.H₀ a = Option.none → NB ev' σ a → Same F F' → C m ev' → Q (.ref a) H') : tCB r t σ H Q :=
  ka F₀ ev F σ H _ _ R h fun ds ev' F' vs H' R' r s c => kr F' H' vs ds _ _ R'.le r c fun m a o hp w c2 => k m ev' F' a _ (R'.grow (Gr.newO R'.le hp)) w (R'.le.free hp) (R'.k0.free hp) (R'.nobody hp) s c2
theorem q_callBO {id : String} {x : Str} {p : Pos} {e : Expr} {es : List Expr} {ρ : RhoO} {τ : TauA} (hc : CallO X (.builtin id) ρ) (hg : Gl X x) (hm : X.mg x = none) (hv : bootBuiltins x = some (.builtin id)) (ha : QA X (e :: es) τ) (hn : x ≠ "__name__" := by decide) (hdb : (x == ("__debug__" : Str)) = false := by decide)
    (he : starEach (e :: es) X.env = (false, eval e X.env) :: starEach es X.env := by rfl) (hpl : (backTo pos (starEach es X.env)).any (·.1) = false := by rfl) : QO X (.Call (.Name x p) (e :: es) [] pos) (zCBO ρ τ) := by
  obtain ⟨r, hr, kr⟩ := hc
  obtain ⟨t, ht, ka⟩ := ha
  exact ⟨_, pe_callB hr hg hm hv ht hn hdb he hpl, zcbo kr ka⟩
theorem q_callTyO {T : String} {x : Str} {p : Pos} {e : Expr} {es : List Expr} {ρ : RhoO} {τ : TauA} (hc : CallO X (.type T) ρ) (hg : Gl X x) (hm : X.mg x = none) (hv : bootBuiltins x = some (.type T)) (ha : QA X (e :: es) τ) (hn : x ≠ "__name__" := by decide) (hdb : (x == ("__debug__" : Str)) = false := by decide)
    (he : starEach (e :: es) X.env = (false, eval e X.env) :: starEach es X.env := by rfl) (hpl : (backTo pos (starEach es X.env)).any (·.1) = false := by rfl) : QO X (.Call (.Name x p) (e :: es) [] pos) (zCBO ρ τ) := by
  obtain ⟨r, hr, kr⟩ := hc
  obtain ⟨t, ht, ka⟩ := ha
  exact ⟨_, pe_callTy hr hg hm hv ht hn hdb he hpl, zcbo kr ka⟩
theorem Rps.strs {w : World} {K : PySem.W.Frag} {F : Hp} : ∀ {vs : List V} {ss : List Str}, Rps w K F vs (ss.map .str) → vs = ss.map .str
  | _, [], h => by cases h; rfl
  | _, x :: ss, h => by
    cases h with
    | cons h1 h2 =>
      cases h1
      rw [Rps.strs h2]
      rfl
theorem rps_strs {w : World} {K : PySem.W.Frag} {F : Hp} : ∀ (ss : List Str), Rps w K F (ss.map .str) (ss.map .str)
  | [] => .nil
  | x :: ss => .cons (.str x) (rps_strs ss)
def rhSortS : RhoO := fun ds C => match ds with | [.list xs] => ∃ ss : List Str, xs = ss.map .str ∧ ss.length < 64 ∧ ∀ ss', ss'.Perm ss → sortedS ss' = true → C (.lst (ss'.map .str)) | _ => False
theorem c_sortedS : CallO X (.builtin "sorted") rhSortS := ⟨_, call_sortedS, fun F H xs ds Q C le r c k => by
  unfold rhSortS at c
  split at c
  case h_1 ys =>
    obtain ⟨ss, rfl, h64, c⟩ := c
    obtain ⟨v, rfl, h⟩ := r.one
    obtain ⟨a, vs, rfl, hq, hs⟩ := h.sizes
    cases hs.strs
    exact ⟨a, ss, rfl, le.seq hq, h64, fun l ss' hl hp hs' => k _ _ _ hl (Ow.ofL upd_same (rps_strs ss')) (c ss' hp hs')⟩
  case h_2 => exact False.elim c⟩
def rhList : RhoO := fun ds C => match ds with | [.list xs] => C (.lst xs) | [.tuple xs] => C (.lst xs) | _ => False
theorem c_list : CallO X (.type "list") rhList := ⟨_, call_list_of, fun F H xs ds Q C le r c k => by
  unfold rhList at c
  split at c
  case h_1 ys =>
    obtain ⟨v, rfl, h⟩ := r.one
    obtain ⟨a, vs, rfl, hq, hs⟩ := h.sizes
    exact ⟨a, vs, rfl, .inl (le.seq hq), fun l hl => k _ _ _ hl (Ow.ofL upd_same hs) c⟩
  case h_2 ys =>
    obtain ⟨v, rfl, h⟩ := r.one
    obtain ⟨a, vs, rfl, hq, hs⟩ := h.sizesT
    exact ⟨a, vs, rfl, .inr (le.sqt hq), fun l hl => k _ _ _ hl (Ow.ofL upd_same hs) c⟩
  case h_3 => exact False.elim c⟩
/-! ### texts -/
def rhAddS : Rho2 := fun a b C => match a, b with | .str x, .str y => x.length + y.length ≤ sizeLine ∧ C (.str (x ++ y)) | _, _ => False
theorem o_addS : OpP X (binaryOp .Add) rhAddS := ⟨_, op_add_str, fun F H x y dx dy Q C le rx ry c k => by
  unfold rhAddS at c
  split at c
  case h_1 a b =>
    cases rx; cases ry
    exact ⟨a, b, rfl, rfl, c.1, k _ _ _ _ (Gr.refl le) (.str _) c.2⟩
  case h_2 => exact False.elim c⟩
def rhLtS : Rho2 := fun a b C => match a, b with | .str x, .str y => C (.bool (decide (x.cps.toList < y.cps.toList))) | _, _ => False
theorem inV_strs (x : Str) : ∀ ss : List Str, inV (.str x) (ss.map .str) = decide (x ∈ ss)
  | [] => rfl
  | y :: ss => by
    have ih := inV_strs x ss
    unfold inV at ih ⊢
    rw [List.map_cons, List.any_cons, ih]
    have : eqV (.str y) (.str x) = decide (x = y) := by
      unfold eqV
      by_cases e : x = y
      · subst e; simp
      · rw [decide_eq_false e]
        simpa using fun z => e z.symm
    rw [this]
    by_cases e : x = y <;> by_cases e2 : x ∈ ss <;> simp [e, e2]
theorem flat_strs : ∀ ss : List Str, (ss.map V.str).all flatV = true
  | [] => rfl
  | _ :: ss => by rw [List.map_cons, List.all_cons, flat_strs ss]; rfl
def seqD : PyData → Option (List PyData)
  | .list ds => some ds
  | .tuple ds => some ds
  | _ => none
theorem seq_any {w : World} {K : PySem.W.Frag} {H : Hp} {v : V} {d : PyData} {ds : List PyData} (r : Rp w K H v d) (e : seqD d = some ds) : ∃ p ys, v = .ref p ∧ (SqL K H p ys ∨ SqT K H p ys) ∧ Rps w K H ys ds := by
  cases r with
  | lst h hs => cases e; exact ⟨_, _, rfl, .inl h, hs⟩
  | tup h hs => cases e; exact ⟨_, _, rfl, .inr h.sqt, hs⟩
  | _ => cases e
/-- a text in a list or tuple of texts -/
def rhInS (neg : Bool) : Rho2 := fun a b C => ∃ (x : Str) (ss : List Str), a = .str x ∧ seqD b = some (ss.map .str) ∧ C (.bool (if neg then !decide (x ∈ ss) else decide (x ∈ ss)))
theorem o_notInS : OpP X (compareOp .NotIn) (rhInS true) := ⟨_, op_notIn_seq, fun F H x y dx dy Q C le rx ry c k => by
  obtain ⟨z, ss, rfl, e, c⟩ := c
  cases rx
  obtain ⟨p, ys, rfl, hq, hs⟩ := seq_any (ry.mono le) e
  cases hs.strs
  exact ⟨p, _, rfl, hq, rfl, flat_strs ss, by rw [inV_strs]; exact k _ _ _ _ (Gr.refl le) (.bl _) c⟩⟩
def rhInt : Rho := fun ds C => match ds with | [.int i] => C (.int i) | [.bool b] => C (.int (if b then 1 else 0)) | _ => False
def rhLenS : Rho := fun ds C => match ds with | [.str z] => z.length ≤ sizeLine ∧ C (.int z.length) | _ => False
end
end L2

set_option Elab.async false
set_option linter.all false
set_option maxRecDepth 100000
set_option maxHeartbeats 1000000
namespace L2
open PySem PySem.Spec PyProof.Rows
section
variable {X : Cx} {pos : Pos}
/-! ### x.clear(), x.reverse(), x.pop(e), where x owns a list -/
def zMut0 (i : Nat) (g : List PyData → List PyData) : TauS := fun P ev => match ev[i]? with | some (.own (.lst ds)) => P.nx (ev.set i (.own (.lst (g ds)))) | _ => False
def zPopAt (i : Nat) (τ : TauE) : TauE := fun ev C => (∃ ds, ev[i]? = some (.own (.lst ds))) ∧ τ ev fun k ev' => match ev'[i]?, k with
  | some (.own (.lst ds)), .int n => -(2 ^ 63) ≤ n ∧ n < 2 ^ 63 ∧ optC (seqIndex? n ds.length) fun j => optC ds[j]? fun d => C d (ev'.set i (.own (.lst (ds.eraseIdx j))))
  | _, _ => False
theorem Rps.eraseIdx {w : World} {K : PySem.W.Frag} {F : Hp} : ∀ {vs : List V} {ds : List PyData} (i : Nat), Rps w K F vs ds → Rps w K F (vs.eraseIdx i) (ds.eraseIdx i)
  | _, _, _, .nil => .nil
  | _, _, 0, .cons _ t => t
  | _, _, i + 1, .cons q t => .cons q (Rps.eraseIdx i t)
theorem q_popAt (i : Nat) {x : Str} {xp apos : Pos} {e : Expr} {τ : TauE} (h : QE X e τ) (hN : X.N[i]? = some x := by rfl) (hv : Vis X.env.scope x := by first | exact Or.inl rfl | exact Or.inr (Or.inl rfl) | exact Or.inr (Or.inr rfl))
    (hd : (x == ("__debug__" : Str)) = false := by decide) (hcd : (x == ("__classdict__" : Str)) = false := by decide)
    (hst : starEach [e] X.env = [(false, eval e X.env)] := by rfl) (hbase : attributeBase (.Name x xp) "pop" X.env (eval (.Name x xp) X.env) = eval (.Name x xp) X.env := by rfl) (hline : (apos.endLine == pos.line) = true := by rfl)
    (hfew : ((backTo pos (starEach [e] X.env)).all (fun x => !x.1) && (backToKw pos (keywordEach [] X.env)).all (fun x => x.1.isSome) && decide (([e] : List Expr).length + ([] : List Keyword).length + (if ([] : List Keyword).isEmpty then 0 else 1) < 30)) = true := by rfl) :
    QE X (.Call (.Attribute (.Name x xp) "pop" apos) [e] [] pos) (zPopAt i τ) := by
  obtain ⟨t, ht, ka⟩ := h
  refine ⟨_, pe_bm PySem.F.plainAttrs_list PySem.F.slot_list_pop PySem.F.type_list_pop mt_popAt (pe_var hN hv hd hcd) (pa_cons ht pa_nil hst) hbase hfew hline hst (by rw [show starEach [] X.env = [] from rfl]; rfl), fun F₀ ev F σ H Q C R h kk => ?_⟩
  obtain ⟨⟨ds0, e0⟩, h⟩ := h
  obtain ⟨a, vs0, s0, g0, _⟩ := R.item e0
  refine ⟨.ref a, s0, .inl ⟨rfl, _, SqL.of g0⟩, ka F₀ ev F σ H _ _ R h fun d ev' F' v H' R' r s c => ?_⟩
  split at c
  case h_1 ds n e1 =>
    cases r
    obtain ⟨a', vs, s1, h1, h2⟩ := R'.item e1
    rw [s0] at s1; cases s1
    obtain ⟨c1, c2, c⟩ := c
    cases ej : seqIndex? n ds.length with
    | none => rw [ej] at c; exact False.elim c
    | some j =>
      rw [ej] at c
      cases ed : ds[j]? with
      | none => simp only [optC, ed] at c
      | some d =>
        simp only [optC, ed] at c
        obtain ⟨y, hy, ry⟩ := h2.get ed
        exact ⟨a, vs, n, j, y, rfl, rfl, h1, c1, c2, by rw [h2.length]; exact ej, hy, kk _ _ _ _ _ (R'.change e1 s0 (m' := .lst (ds.eraseIdx j)) (Ow.ofL upd_same (h2.eraseIdx j))) ry s c⟩
  case h_2 => exact False.elim c
end
end L2

set_option Elab.async false
set_option linter.all false
set_option maxRecDepth 100000
set_option maxHeartbeats 1000000
/-! x in xs, for data of any shape -/
namespace L2
open PySem PySem.Spec PyProof.Rows
section
variable {X : Cx} {pos : Pos}
def rInD (K : PySem.W.Frag) (neg : Bool) : R2 := fun x y H Q => ∃ d e ds, RdD K H x d ∧ RdD K H y e ∧ seqD e = some ds ∧ SeqAt.shaped d = true ∧ SeqAt.shaped e = true ∧ Q (.bl (if neg then !ds.any (fun z => PyData.eqv z d) else ds.any fun z => PyData.eqv z d)) H
theorem roomIn {A : Around} {d : PyData} {n : Nat} (h : SeqAt.shaped d = true) (hu : A.units + 65 < cLine) : A.units + 1 + min n d.depth < cLine := by
  have h1 := SeqAt.depth_of_shaped h
  have h2 : min n d.depth ≤ d.depth := Nat.min_le_right _ _
  omega
theorem op_notInD (hu : X.A.units + 65 < cLine) : OpR X (compareOp .NotIn) (rInD X.K true) := fun pins s σ H x y v u Q I rx ry h => by
  obtain ⟨d, e, ds, h1, h2, he, s1, s2, q⟩ := h
  obtain ⟨as, r1⟩ := I.reads h1 rx
  obtain ⟨bs, r2⟩ := I.reads h2 ry
  cases e with
  | list xs =>
    cases he
    exact SeqAt.notIn_list_reads r2 r1 (by simpa [PyData.canLay0] using SeqAt.canLay_of_shaped s2) (SeqAt.canLay_of_shaped s1) (roomIn s1 hu) ⟨.bl _, H, I, rfl, q⟩
  | tuple xs =>
    cases he
    exact SeqAt.notIn_tuple_reads r2 r1 (by simpa [PyData.canLay0] using SeqAt.canLay_of_shaped s2) (SeqAt.canLay_of_shaped s1) (roomIn s1 hu) ⟨.bl _, H, I, rfl, q⟩
  | _ => cases he
def rhInD (neg : Bool) : Rho2 := fun a b C => match seqD b with | some ds => SeqAt.shaped a = true ∧ SeqAt.shaped b = true ∧ C (.bool (if neg then !ds.any (fun z => PyData.eqv z a) else ds.any fun z => PyData.eqv z a)) | none => False
theorem units1 {k : Nat} (hr : Room k X.A) : X.A.units + 65 < cLine := by
  have := hr.un
  omega
theorem o_notInD {k : Nat} (hr : Room k X.A) : OpP X (compareOp .NotIn) (rhInD true) := ⟨_, op_notInD (units1 hr), fun F H x y dx dy Q C le rx ry c k => by
  unfold rhInD at c
  split at c
  case h_1 ds e => exact ⟨dx, dy, ds, (rx.mono le).rdD (SeqAt.canLay_of_shaped c.1), (ry.mono le).rdD (SeqAt.canLay_of_shaped c.2.1), e, c.1, c.2.1, k _ _ _ _ (Gr.refl le) (.bl _) c.2.2⟩
  case h_2 => exact False.elim c⟩
end
end L2

set_option Elab.async false
set_option linter.all false
set_option maxRecDepth 100000
set_option maxHeartbeats 1000000
/-! x is True, x is not False: of truths -/
namespace L2
open PySem PySem.Spec PyProof.Rows
section
variable {X : Cx} {pos : Pos}
def rhIsB (neg : Bool) : Rho2 := fun a b C => match a, b with | .bool x, .bool y => C (.bool (if neg then !(x == y) else x == y)) | _, _ => False
end
end L2

set_option Elab.async false
set_option linter.all false
set_option maxRecDepth 100000
set_option maxHeartbeats 1000000
/-! texts: >, min, max, sorted of a tuple; count in a list -/
namespace L2
open PySem PySem.Spec PyProof.Rows
section
variable {P : Program} {w : World} {A : Around} {E : Value → Shared → Prop} {s : Shared}
def sOf : Value → List Nat
  | .str x _ => x.cps.toList
  | _ => []
def IsS : Value → Prop
  | .str _ _ => True
  | _ => False
theorem cmpS_gt (vs : Array Value) (hn : ∀ v ∈ vs, IsS v) : CmpOf P w A .Gt (fun i v => vs[i]? = some v) (fun i j => decide (sOf (vs.getD j .none) < sOf (vs.getD i .none))) := fun i j vi vj s Q E hi hj h => by
  have e1 : vs.getD i .none = vi := by simp [Array.getD_eq_getD_getElem?, hi]
  have e2 : vs.getD j .none = vj := by simp [Array.getD_eq_getD_getElem?, hj]
  simp only [e1, e2] at h
  have a := hn _ (Array.mem_of_getElem? hi)
  have b := hn _ (Array.mem_of_getElem? hj)
  cases vi <;> first | exact a.elim | skip
  cases vj <;> first | exact b.elim | skip
  exact PySem.P.gt_str h
theorem cmpS_lt (vs : Array Value) (hn : ∀ v ∈ vs, IsS v) : CmpOf P w A .Lt (fun i v => vs[i]? = some v) (fun i j => decide (sOf (vs.getD i .none) < sOf (vs.getD j .none))) := fun i j vi vj s Q E hi hj h => by
  have e1 : vs.getD i .none = vi := by simp [Array.getD_eq_getD_getElem?, hi]
  have e2 : vs.getD j .none = vj := by simp [Array.getD_eq_getD_getElem?, hj]
  simp only [e1, e2] at h
  have a := hn _ (Array.mem_of_getElem? hi)
  have b := hn _ (Array.mem_of_getElem? hj)
  cases vi <;> first | exact a.elim | skip
  cases vj <;> first | exact b.elim | skip
  exact lt_str h
theorem max_twoS {x y : Str} {t u : Tok} {Q : Value → Shared → Prop} (hh : A.handled = none) (h : ∀ h' tk, (∀ c o, s.heap.get? c = some o → h'.get? c = some o) → Q (if decide (x.cps.toList < y.cps.toList) then .str y u else .str x t) { s with heap := h', toks := tk }) :
    wpAny (model P w) A (call (.builtin "max") [.str x t, .str y u]) Q E s := by
  have hT : (s.heap.push { cls := .type "tuple", data := .seq #[.str x t, .str y u] }).IsTuple s.heap.objs.size #[.str x t, .str y u] := ⟨_, Heap.get?_push_size _ rfl, rfl, 0, rfl⟩
  have hz : (s.heap.push { cls := .type "tuple", data := .seq #[.str x t, .str y u] }).objs.size = s.heap.objs.size + 1 := Heap.size_push ..
  refine call_max_two (wpAny_pyIter_tuple hT ⟨_, [_, s.heap.objs.size], [_], _, _, _, _, rfl, Walks.tuple (A := A.in1) hh _ s.heap.objs.size (by rw [hz]; exact Nat.ne_of_lt (Nat.lt_succ_self _)) #[.str x t, .str y u],
    ⟨⟨_, Heap.get?_push_size _ rfl, rfl, rfl⟩, hT.push _⟩, fun c hc => ?_, by simp, cmpS_gt #[.str x t, .str y u] (by simp [IsS]), fun v h' tk hP hk => ?_⟩)
  · show c < ((s.heap.push _).push _).objs.size
    rw [Heap.size_push, hz]
    simp only [List.mem_cons, List.not_mem_nil, or_false] at hc
    rcases hc with rfl | rfl
    · rw [hz]; exact Nat.lt_succ_self _
    · exact Nat.lt_succ_of_lt (Nat.lt_succ_self _)
  · have old : ∀ c o, s.heap.get? c = some o → h'.get? c = some o := fun c o e => by
      refine hk c o (fun hm => ?_) (Heap.get?_push_of_some _ (Heap.get?_push_of_some _ e))
      simp only [List.mem_cons, List.not_mem_nil, or_false] at hm
      have := Heap.lt_size e
      rw [hm, hz] at this
      exact Nat.lt_irrefl _ (Nat.lt_of_succ_lt this)
    have hv : v = if decide (x.cps.toList < y.cps.toList) then .str y u else .str x t := by
      by_cases hc : x.cps < y.cps
      · have hc2 : x.cps.toList < y.cps.toList := by simpa using hc
        rw [if_pos (decide_eq_true hc2)]
        simp [argBest, sOf, hc] at hP
        exact hP.symm
      · have hc2 : ¬ x.cps.toList < y.cps.toList := by simpa using hc
        rw [if_neg (by simpa using hc2)]
        simp [argBest, sOf, hc] at hP
        exact hP.symm
    rw [hv]
    exact h h' tk old
theorem min_twoS {x y : Str} {t u : Tok} {Q : Value → Shared → Prop} (hh : A.handled = none) (h : ∀ h' tk, (∀ c o, s.heap.get? c = some o → h'.get? c = some o) → Q (if decide (y.cps.toList < x.cps.toList) then .str y u else .str x t) { s with heap := h', toks := tk }) :
    wpAny (model P w) A (call (.builtin "min") [.str x t, .str y u]) Q E s := by
  have hT : (s.heap.push { cls := .type "tuple", data := .seq #[.str x t, .str y u] }).IsTuple s.heap.objs.size #[.str x t, .str y u] := ⟨_, Heap.get?_push_size _ rfl, rfl, 0, rfl⟩
  have hz : (s.heap.push { cls := .type "tuple", data := .seq #[.str x t, .str y u] }).objs.size = s.heap.objs.size + 1 := Heap.size_push ..
  refine call_min_two (wpAny_pyIter_tuple hT ⟨_, [_, s.heap.objs.size], [_], _, _, _, _, rfl, Walks.tuple (A := A.in1) hh _ s.heap.objs.size (by rw [hz]; exact Nat.ne_of_lt (Nat.lt_succ_self _)) #[.str x t, .str y u],
    ⟨⟨_, Heap.get?_push_size _ rfl, rfl, rfl⟩, hT.push _⟩, fun c hc => ?_, by simp, cmpS_lt #[.str x t, .str y u] (by simp [IsS]), fun v h' tk hP hk => ?_⟩)
  · show c < ((s.heap.push _).push _).objs.size
    rw [Heap.size_push, hz]
    simp only [List.mem_cons, List.not_mem_nil, or_false] at hc
    rcases hc with rfl | rfl
    · rw [hz]; exact Nat.lt_succ_self _
    · exact Nat.lt_succ_of_lt (Nat.lt_succ_self _)
  · have old : ∀ c o, s.heap.get? c = some o → h'.get? c = some o := fun c o e => by
      refine hk c o (fun hm => ?_) (Heap.get?_push_of_some _ (Heap.get?_push_of_some _ e))
      simp only [List.mem_cons, List.not_mem_nil, or_false] at hm
      have := Heap.lt_size e
      rw [hm, hz] at this
      exact Nat.lt_irrefl _ (Nat.lt_of_succ_lt this)
    have hv : v = if decide (y.cps.toList < x.cps.toList) then .str y u else .str x t := by
      by_cases hc : y.cps < x.cps
      · have hc2 : y.cps.toList < x.cps.toList := by simpa using hc
        rw [if_pos (decide_eq_true hc2)]
        simp [argBest, sOf, hc] at hP
        exact hP.symm
      · have hc2 : ¬ y.cps.toList < x.cps.toList := by simpa using hc
        rw [if_neg (by simpa using hc2)]
        simp [argBest, sOf, hc] at hP
        exact hP.symm
    rw [hv]
    exact h h' tk old
end
section
variable {X : Cx} {pos : Pos}
theorem call_max2S (hc : X.calm = true) : CallR X (.builtin "max") (fun xs H Q => ∃ i j, xs = [.str i, .str j] ∧ Q (.str (if decide (i.cps.toList < j.cps.toList) then j else i)) H) := by
  intro pins s σ H xs us Q I r h
  obtain ⟨i, j, rfl, q⟩ := h
  obtain ⟨u, w', rfl, ⟨t, rfl⟩, ⟨t', rfl⟩⟩ := vals2 r
  refine max_twoS (I.ok.hd hc) fun h' tk k => ⟨_, H, I.kept k, ?_, q⟩
  cases decide (i.cps.toList < j.cps.toList)
  · exact ⟨_, rfl⟩
  · exact ⟨_, rfl⟩
theorem call_min2S (hc : X.calm = true) : CallR X (.builtin "min") (fun xs H Q => ∃ i j, xs = [.str i, .str j] ∧ Q (.str (if decide (j.cps.toList < i.cps.toList) then j else i)) H) := by
  intro pins s σ H xs us Q I r h
  obtain ⟨i, j, rfl, q⟩ := h
  obtain ⟨u, w', rfl, ⟨t, rfl⟩, ⟨t', rfl⟩⟩ := vals2 r
  refine min_twoS (I.ok.hd hc) fun h' tk k => ⟨_, H, I.kept k, ?_, q⟩
  cases decide (j.cps.toList < i.cps.toList)
  · exact ⟨_, rfl⟩
  · exact ⟨_, rfl⟩
/-! ### xs.count(k) -/
end
end L2

set_option Elab.async false
set_option linter.all false
set_option maxRecDepth 100000
set_option maxHeartbeats 1000000
/-! dict displays, d.get(k, v), any and all of truths -/
namespace L2
open PySem PySem.Spec PyProof.Rows
section
variable {P : Program} {w : World} {A : Around} {E : Value → Shared → Prop} {s : Shared} {d : Addr} {o : Obj} {xs : List DX} {k : KD} {u v : Value}
/-- the pairs of a display are stored one by one -/
def putsX (xs : List DX) : List (KD × Value × Value) → List DX
  | [] => xs
  | x :: r => putsX (putX xs x.1 x.2.1 x.2.2) r
end
section
variable {X : Cx} {pos : Pos}
/-! ### a method of a dict -/
variable {o e : Expr} {es : List Expr} {to : TE} {t : TA} {name : Str} {apos : Pos} {id : String} {r : V → List V → Hp → VK → Prop}
def tDM (r : V → List V → Hp → VK → Prop) (to : TE) (t : TA) : TE := fun σ H Q => to σ H fun x H1 => (∃ a o, x = .ref a ∧ H1 a = some (PinO a o) ∧ o.ExactDict) ∧ t σ H1 fun xs H2 => r x xs H2 Q
/-- d.get(k, v) -/
def rGet2 (w : World) (K : PySem.W.Frag) : V → List V → Hp → VK → Prop := fun x xs H Q => ∃ F a kvs k y z d, x = .ref a ∧ xs = [y, z] ∧ Same F H ∧ Ow w K F H a (.dct kvs) ∧ Rp w K F y (kdD k) ∧ Rp w K F z d ∧ ∀ v, Rp w K F v ((valD kvs k).getD d) → Q v H
/-! ### {k: v, ..} -/
abbrev TPr := St → Hp → (List (V × V) → Hp → Prop) → Prop
def PDs (X : Cx) (pos : Pos) (keys : List (Option Expr)) (values : List Expr) (t : TPr) : Prop :=
  ∀ (pins : List (Addr × Obj)) (s : Shared) (σ : St) (H : Hp) (Q : List (V × V) → Hp → Prop), Inv X pins σ H s → t σ H Q →
    wpAny (model X.prog X.w) X.A (evalPairs (pairTrees keys values X.env pos)) (fun vs s' => ∃ ps H', Inv X pins σ H' s' ∧ Paired (fun p q => RelV p.1 q.1 ∧ RelV p.2 q.2) ps vs ∧ Q ps H') X.xe s
def tPn : TPr := fun _ H Q => Q [] H
def tPc (tk tv : TE) (t : TPr) : TPr := fun σ H Q => tk σ H fun x H1 => tv σ H1 fun y H2 => t σ H2 fun ps H3 => Q ((x, y) :: ps) H3
def putsD (kvs : List (KD × PyData)) : List (KD × PyData) → List (KD × PyData)
  | [] => kvs
  | x :: r => putsD (putD kvs x.1 x.2) r
/-- what is stored, by data -/
inductive PsR (w : World) (K : PySem.W.Frag) (F : Hp) : List (V × V) → List (KD × PyData) → Prop
  | nil : PsR w K F [] []
  | cons {x y : V} {k : KD} {d : PyData} {ps : List (V × V)} {kvs : List (KD × PyData)} : Rp w K F x (kdD k) → kOk k = true → Rp w K F y d → PsR w K F ps kvs → PsR w K F ((x, y) :: ps) ((k, d) :: kvs)
theorem PsR.len {w : World} {K : PySem.W.Frag} {F : Hp} {ps : List (V × V)} {kvs : List (KD × PyData)} (h : PsR w K F ps kvs) : ps.length = kvs.length := by
  induction h with
  | nil => rfl
  | cons _ _ _ _ ih => rw [List.length_cons, List.length_cons, ih]
theorem puts_ow {w : World} {K : PySem.W.Frag} {F : Hp} : ∀ {ps : List (V × V)} {more : List (KD × PyData)} {vs : List (Value × Value)}, PsR w K F ps more → Paired (fun (p : V × V) (q : Value × Value) => RelV p.1 q.1 ∧ RelV p.2 q.2) ps vs →
    ∃ ys : List (KD × Value × Value), vs = ys.map (fun y => (y.2.1, y.2.2)) ∧ (∀ y ∈ ys, KeyR F y.1 y.2.1) ∧ ∀ (xs : List DX) (us : List V) (kvs : List (KD × PyData)), (∀ x ∈ xs, KeyR F x.1 x.2.1) → xs.map (·.1) = kvs.map (·.1) → Vals us (xs.map (·.2.2)) → Rps w K F us (kvs.map (·.2)) →
      (∀ x ∈ putsX xs ys, KeyR F x.1 x.2.1) ∧ (putsX xs ys).map (·.1) = (putsD kvs more).map (·.1) ∧ ∃ us', Vals us' ((putsX xs ys).map (·.2.2)) ∧ Rps w K F us' ((putsD kvs more).map (·.2))
  | _, _, _, .nil, r => by
    cases r
    exact ⟨[], rfl, (fun y hy => nomatch hy), fun xs us kvs h1 h2 h3 h4 => ⟨h1, h2, us, h3, h4⟩⟩
  | _, _, _, .cons (x := x) (y := y) (k := k) (d := d) a b c t, r => by
    cases r with
    | @cons p q ps qs h hr =>
      obtain ⟨ys, e, hk, st⟩ := puts_ow t hr
      refine ⟨(k, q.1, q.2) :: ys, by rw [List.map_cons, ← e], fun z hz => ?_, fun xs us kvs h1 h2 h3 h4 => ?_⟩
      · rcases List.mem_cons.mp hz with rfl | hz
        · exact a.keyR b h.1
        · exact hk z hz
      · obtain ⟨g1, g2, us', g3, g4⟩ := put_parts h1 (a.keyR b h.1) h2 h3 h4 h.2 c
        exact st _ us' _ g1 g2 g3 g4
/-- the new dict stands empty while the pairs are made -/
def tDispX (w : World) (K : PySem.W.Frag) (t : TPr) : TE := fun σ H Q => ∀ p o, H p = none → (p == sysModules) = false → DRec w o [] → t σ (upd H p (PinO p o)) fun ps H2 => ∃ F kvs, Same F H2 ∧ H2 p = some (PinO p o) ∧ PsR w K F ps kvs ∧ kvs.length ≤ 15 ∧
  ∀ o', Ow w K F (upd H2 p (PinO p o')) p (.dct (putsD [] kvs)) → Q (.ref p) (upd H2 p (PinO p o'))
end
end L2

set_option Elab.async false
set_option linter.all false
set_option maxRecDepth 100000
set_option maxHeartbeats 1000000
/-! dicts in the pure layer -/
namespace L2
open PySem PySem.Spec PyProof.Rows
section
variable {X : Cx} {pos : Pos}
theorem hu1 {k : Nat} (hr : Room k X.A) : X.A.units + 1 < cLine := hu_of hr
theorem Rp.owH {w : World} {K : PySem.W.Frag} {F H : Hp} (le : Same F H) {v : V} {kvs : List (KD × PyData)} (h : Rp w K F v (dictD kvs)) : ∃ a, v = .ref a ∧ Ow w K F H a (.dct kvs) := by
  obtain ⟨a, e, o⟩ := h.ow
  exact ⟨a, e, o.grow (Same.refl _) le⟩
/-! ### {} -/
def zDNew : TauO := fun ev C => C (.dct []) ev
theorem q_dnew : QO X (.Dict [] [] pos) zDNew :=
  ⟨_, pe_dnewX, fun F₀ ev F σ H Q C R h k p o hp hz R0 => k (.dct []) ev F p _ (R.grow (Gr.newO R.le hp)) ⟨o, [], [], upd_same, hz, R0, (fun x hx => nomatch hx), rfl, .nil, .nil⟩ (R.le.free hp) (R.k0.free hp) (R.nobody hp) (Same.refl _) h⟩
/-! ### x[k] = v, where x owns a dict -/
def zDPut (i : Nat) (τk τ : TauE) : TauS := fun P ev => (τ ev fun d ev1 => (∃ kvs, ev1[i]? = some (.own (.dct kvs))) ∧ τk ev1 fun dk ev2 => ∃ kvs k, ev2[i]? = some (.own (.dct kvs)) ∧ dk = kdD k ∧ kOk k = true ∧ kvs.length < sizeLine ∧ P.nx (ev2.set i (.own (.dct (putD kvs k d)))))
theorem RS.itemD {w : World} {K : PySem.W.Frag} {H₀ F₀ F : Hp} {ev : Ev} {σ : St} {H : Hp} (R : RS w K H₀ F₀ F ev σ H) {i : Nat} {kvs : List (KD × PyData)} (e : ev[i]? = some (.own (.dct kvs))) : ∃ a, σ[i]? = some (some (.ref a)) ∧ Ow w K F H a (.dct kvs) := by
  obtain ⟨a, h1, h2, _⟩ := R.own i _ e
  exact ⟨a, h1, h2⟩
theorem q_dput (i : Nat) {kr : Nat} (hr : Room kr X.A) {x : Str} {xp tp : Pos} {b e : Expr} {τk τ : TauE} (h : QE X e τ) (hk : QE X b τk) (hN : X.N[i]? = some x := by rfl) (hv : Vis X.env.scope x := by first | exact Or.inl rfl | exact Or.inr (Or.inl rfl) | exact Or.inr (Or.inr rfl))
    (hd : (x == ("__debug__" : Str)) = false := by decide) (hcd : (x == ("__classdict__" : Str)) = false := by decide)
    (ha : ∀ v, assign (.Subscript (.Name x xp) b tp) X.env v = (do
      let ov ← holding [v] (eval (.Name x xp) X.env)
      let iv ← holding [v, ov] (eval b X.env)
      standAt tp
      holding [v, ov, iv] (setItem ov iv v)
      release [v, ov, iv] []) := by intro _; rfl)
    (hs : swapsWithSole [.Subscript (.Name x xp) b tp] e pos.line X.env = pure false := by rfl) (hw : swappedStores [.Subscript (.Name x xp) b tp] e X.env = pure none := by rfl)
    (h1 : (assignEach [.Subscript (.Name x xp) b tp] X.env).map (·.2) = [assign (.Subscript (.Name x xp) b tp) X.env] := by rfl) : QS X (.Assign [.Subscript (.Name x xp) b tp] e pos) (zDPut i τk τ) := by
  obtain ⟨t, ht, ka⟩ := h
  obtain ⟨u, hu, kb⟩ := hk
  refine ⟨_, ps_asg ht (pg_sub (pe_var hN hv hd hcd) hu (set_dct (hu1 hr)) ha) hs hw h1, fun F₀ D P ev F σ H E R h => ka F₀ ev F σ H _ _ R h fun d ev1 F1 v H1 R1 r s c => ?_⟩
  obtain ⟨⟨kvs0, e0⟩, c⟩ := c
  obtain ⟨a, s0, _⟩ := R1.itemD e0
  refine ⟨.ref a, s0, kb F₀ ev1 F1 σ H1 _ _ R1 c fun dk ev2 F2 vk H2 R2 r2 s2 c2 => ?_⟩
  obtain ⟨kvs, k, e1, rfl, ok, hl, c3⟩ := c2
  obtain ⟨a', s1, o1⟩ := R2.itemD e1
  rw [s0] at s1; cases s1
  exact ⟨F2, a, kvs, k, d, rfl, R2.le, o1, r2, ok, r.mono s2, hl, fun o' w' => E.nx _ _ _ _ (R2.change e1 s0 (m' := .dct (putD kvs k d)) w') c3⟩
/-! ### d[k] -/
def rhDix : Rho2 := fun a b C => ∃ kvs k, a = dictD kvs ∧ b = kdD k ∧ optC (valD kvs k) C
theorem q_dix {kr : Nat} (hr : Room kr X.A) {a b : Expr} {τa τb : TauE} (ha : QE X a τa) (hb : QE X b τb) (hs : PlainIx b) : QE X (.Subscript a b pos) (zOp rhDix τa τb) := by
  obtain ⟨ta, ha, ka⟩ := ha
  obtain ⟨tb, hb, kb⟩ := hb
  refine ⟨_, pe_ix (ix_dct (hu1 hr)) ha hb hs, zop (fun F H x y dx dy Q C le rx ry c k => ?_) ka kb⟩
  obtain ⟨kvs, kk, rfl, rfl, c⟩ := c
  obtain ⟨a, rfl, o⟩ := rx.owH le
  cases e : valD kvs kk with
  | none => rw [e] at c; exact False.elim c
  | some d =>
    rw [e] at c
    exact ⟨F, a, kvs, kk, d, rfl, le, o, ry, e, fun v rv => k _ _ _ _ (Gr.refl le) rv c⟩
/-- x[k], where x owns the dict -/
def zDIxV (i : Nat) (τ : TauE) : TauE := fun ev C => (∃ kvs, ev[i]? = some (.own (.dct kvs))) ∧ τ ev fun dk ev' => ∃ kvs k, ev'[i]? = some (.own (.dct kvs)) ∧ dk = kdD k ∧ optC (valD kvs k) fun d => C d ev'
/-! ### k in d -/
def rhInK (neg : Bool) : Rho2 := fun a b C => ∃ kvs k, b = dictD kvs ∧ a = kdD k ∧ C (.bool (if neg then !(valD kvs k).isSome else (valD kvs k).isSome))
theorem o_notInK {kr : Nat} (hr : Room kr X.A) : OpP X (compareOp .NotIn) (rhInK true) := ⟨_, op_notInK (hu1 hr), fun F H x y dx dy Q C le rx ry c k => by
  obtain ⟨kvs, kk, rfl, rfl, c⟩ := c
  obtain ⟨a, rfl, o⟩ := ry.owH le
  exact ⟨F, a, kvs, kk, rfl, le, o, rx, k _ _ _ _ (Gr.refl le) (.bl _) c⟩⟩
/-! ### == -/
def hitB (es : List (KD × PyData)) (kv : KD × PyData) : Bool := match valD es kv.1 with | some d => PyData.eqv kv.2 d | none => false
def eqDD (a b : List (KD × PyData)) : Bool := a.length == b.length && a.all (hitB b)
def shD (a : List (KD × PyData)) : Prop := ∀ kv ∈ a, SeqAt.shaped kv.2 = true
def rEqK (w : World) (K : PySem.W.Frag) (neg : Bool) : R2 := fun x y H Q => ∃ F a b kvs es, x = .ref a ∧ y = .ref b ∧ Same F H ∧ Ow w K F H a (.dct kvs) ∧ Ow w K F H b (.dct es) ∧ shD kvs ∧ shD es ∧ Q (.bl (if neg then !eqDD kvs es else eqDD kvs es)) H
def rhEqK (neg : Bool) : Rho2 := fun a b C => ∃ kvs es, a = dictD kvs ∧ b = dictD es ∧ shD kvs ∧ shD es ∧ C (.bool (if neg then !eqDD kvs es else eqDD kvs es))
/-! ### for k in d; for i, x in enumerate(xs) -/
def zForD (τ : TauE) (γ : TauG) (υ : TauS) : TauS := fun P ev => τ ev fun d ev1 => ∃ kvs, d = dictD kvs ∧ LoopD (kvs.map fun kv => kdD kv.1) γ υ P ev1
def zForE (τ : TauE) (γ : TauG) (υ : TauS) : TauS := fun P ev => τ ev fun d ev1 => match d with
  | .list ds => ∃ J : Nat → Ev → Prop, J 0 ev1 ∧ (∀ i x ev', ds[i]? = some x → J i ev' → γ (.tuple [.int (i : Nat), x]) ev' fun ev2 => υ { P with nx := J (i + 1), ct := J (i + 1), bk := P.nx } ev2) ∧ ∀ ev', J ds.length ev' → P.nx ev'
  | _ => False
def iEnum (K : PySem.W.Frag) (ta : TA) : TI := fun σ H R => ta σ H fun vs H1 => ∃ l, vs = [.ref l] ∧ (∃ xs, SqL K H1 l xs) ∧ R (Ite K l) H1
end
end L2

set_option Elab.async false
set_option linter.all false
set_option maxRecDepth 100000
set_option maxHeartbeats 1000000
/-! texts and tuples: >, min, max, sorted of a tuple, slices and sums of tuples; count in a list -/
namespace L2
open PySem PySem.Spec PyProof.Rows
section
variable {X : Cx} {pos : Pos}
def rhGtS : Rho2 := fun a b C => match a, b with | .str x, .str y => C (.bool (decide (y.cps.toList < x.cps.toList))) | _, _ => False
def rhMaxS : Rho := fun ds C => match ds with | [.str i, .str j] => C (.str (if decide (i.cps.toList < j.cps.toList) then j else i)) | _ => False
theorem c_maxS (hc : X.calm = true) : CallP X (.builtin "max") rhMaxS := ⟨_, call_max2S hc, fun F H xs ds Q C le r c k => by
  unfold rhMaxS at c
  split at c
  case h_1 i j =>
    obtain ⟨v, u, rfl, h, h'⟩ := r.two
    cases h; cases h'
    exact ⟨i, j, rfl, k _ _ _ _ (Gr.refl le) (.str _) c⟩
  case h_2 => exact False.elim c⟩
def rhMinS : Rho := fun ds C => match ds with | [.str i, .str j] => C (.str (if decide (j.cps.toList < i.cps.toList) then j else i)) | _ => False
theorem c_minS (hc : X.calm = true) : CallP X (.builtin "min") rhMinS := ⟨_, call_min2S hc, fun F H xs ds Q C le r c k => by
  unfold rhMinS at c
  split at c
  case h_1 i j =>
    obtain ⟨v, u, rfl, h, h'⟩ := r.two
    cases h; cases h'
    exact ⟨i, j, rfl, k _ _ _ _ (Gr.refl le) (.str _) c⟩
  case h_2 => exact False.elim c⟩
def rhSortT : RhoO := fun ds C => match ds with | [.tuple xs] => ∃ ss : List Str, xs = ss.map .str ∧ ss.length < 64 ∧ ∀ ss', ss'.Perm ss → sortedS ss' = true → C (.lst (ss'.map .str)) | _ => False
/-- t + u, t not empty, u not empty -/
def rhCatT : Rho2 := fun a b C => match a, b with | .tuple xs, .tuple ys => xs ≠ [] ∧ ys ≠ [] ∧ xs.length + ys.length ≤ sizeLine ∧ C (.tuple (xs ++ ys)) | _, _ => False
/-- t[lo:hi], not the whole of it -/
def zSlT (τ : TauE) (τl τh : TauP) : TauE := fun ev C => τ ev fun d ev1 => τl ev1 fun l ev2 => τh ev2 fun u ev3 => match d with
  | .tuple ds => ¬ (HT.sIx ds.length 0 l = 0 ∧ HT.sIx ds.length ds.length u = ds.length) ∧ C (.tuple (cutD ds l u)) ev3 | _ => False
/-! ### xs.count(k) -/
theorem Rps.bools {w : World} {K : PySem.W.Frag} {F : Hp} : ∀ {vs : List V} {bs : List Bool}, Rps w K F vs (bs.map .bool) → vs = bs.map .bl
  | _, [], h => by cases h; rfl
  | _, x :: bs, h => by
    rw [List.map_cons] at h
    cases h with
    | cons h1 h2 =>
      cases h1
      rw [Rps.bools h2]
      rfl
theorem Rps.ints {w : World} {K : PySem.W.Frag} {F : Hp} : ∀ {vs : List V} {ns : List Int}, Rps w K F vs (ns.map .int) → vs = ns.map .int
  | _, [], h => by cases h; rfl
  | _, x :: ns, h => by
    rw [List.map_cons] at h
    cases h with
    | cons h1 h2 =>
      cases h1
      rw [Rps.ints h2]
      rfl
def zCntB (τ τk : TauE) : TauE := fun ev C => τ ev fun d ev1 => ∃ bs : List Bool, d = .list (bs.map .bool) ∧ τk ev1 fun dk ev2 => match dk with | .bool k => C (.int (bs.count k : Nat)) ev2 | _ => False
def zCntI (τ τk : TauE) : TauE := fun ev C => τ ev fun d ev1 => ∃ ns : List Int, d = .list (ns.map .int) ∧ τk ev1 fun dk ev2 => match dk with | .int k => C (.int (ns.count k : Nat)) ev2 | _ => False
end
end L2

set_option Elab.async false
set_option linter.all false
set_option maxRecDepth 100000
set_option maxHeartbeats 1000000
/-! dict displays, d.get(k, v), any, all, comprehensions over a dict -/
namespace L2
open PySem PySem.Spec PyProof.Rows
section
variable {w : World} {K : PySem.W.Frag} {F F' H H' H₀ F₀ : Hp} {ev : Ev} {σ : St}
theorem PsR.mono (e : Same F F') {ps : List (V × V)} {kvs : List (KD × PyData)} (h : PsR w K F ps kvs) : PsR w K F' ps kvs := by
  induction h with
  | nil => exact .nil
  | cons a b c _ ih => exact .cons (a.mono e) b (c.mono e) ih
theorem ap_kd (D : PyData) (k : KD) : Ap D (kdD k) := by
  have one : ∀ k : Key, Ap D (keyD k) := fun k => by cases k with | inl i => exact .int i | inr x => exact .str x
  cases k with
  | inl k => exact one k
  | inr ks =>
    refine .tup fun d hd => ?_
    obtain ⟨k, _, rfl⟩ := List.mem_map.mp hd
    exact one k
theorem PsR.del {a : Addr} {D : PyData} (dj : Dj K F) (hD : Rp w K F (.ref a) D) (hn : ∀ ds, D ≠ .tuple ds) {ps : List (V × V)} {kvs : List (KD × PyData)} (h : PsR w K F ps kvs) : (∀ kv ∈ kvs, Ap D kv.2) → PsR w K (L2.del F a) ps kvs := by
  induction h with
  | nil => exact fun _ => .nil
  | cons a b c _ ih => exact fun p => .cons (Rp.del dj hD hn a (ap_kd D _)) b (Rp.del dj hD hn c (p _ List.mem_cons_self)) (ih fun kv hkv => p kv (List.mem_cons_of_mem _ hkv))
end
section
variable {X : Cx} {pos : Pos}
/-! ### {k: v, ..} -/
abbrev TauD := Ev → (List (KD × PyData) → Ev → Prop) → Prop
def QD (X : Cx) (pos : Pos) (keys : List (Option Expr)) (values : List Expr) (τ : TauD) : Prop := ∃ t : TPr, PDs X pos keys values t ∧ ∀ (F₀ : Hp) (ev : Ev) (F : Hp) (σ : St) (H : Hp) (Q : List (V × V) → Hp → Prop) (C : List (KD × PyData) → Ev → Prop), RS X.w X.K X.H₀ F₀ F ev σ H → τ ev C →
  (∀ kvs ev' F' ps H', RS X.w X.K X.H₀ F₀ F' ev' σ H' → PsR X.w X.K F' ps kvs → Same F F' → C kvs ev' → Q ps H') → t σ H Q
def zDn : TauD := fun ev C => C [] ev
def zDc (τk τv : TauE) (δ : TauD) : TauD := fun ev C => τk ev fun dk ev1 => τv ev1 fun dv ev2 => δ ev2 fun kvs ev3 => ∃ k, dk = kdD k ∧ kOk k = true ∧ C ((k, dv) :: kvs) ev3
def tPdj (X : Cx) (t : TPr) : TPr := fun σ H Q => t σ H fun ps H' => Dj X.K H' → Q ps H'
def zDisp (δ : TauD) : TauO := fun ev C => δ ev fun kvs ev' => ev' = ev ∧ kvs.length ≤ 15 ∧ (∀ kv ∈ kvs, Ap (dictD []) kv.2) ∧ ApAll (dictD []) ev ∧ C (.dct (putsD [] kvs)) ev
/-! ### x, y = a, b -/
def zPar (i j : Nat) (τ : TauA) : TauS := fun P ev => τ ev fun ds ev' => match ds with | [d1, d2] => P.nx ((ev'.set i (.val d1)).set j (.val d2)) | _ => False
/-! ### d.get(k, v) -/
def zDGet2 (τ τk τv : TauE) : TauE := fun ev C => τ ev fun d ev1 => ∃ kvs, d = dictD kvs ∧ τk ev1 fun dk ev2 => τv ev2 fun dv ev3 => ∃ k, dk = kdD k ∧ C ((valD kvs k).getD dv) ev3
/-! ### any, all -/
def rhAny : Rho := fun ds C => match ds with | [.list xs] => ∃ bs : List Bool, xs = bs.map .bool ∧ C (.bool (bs.any id)) | _ => False
def rhAll : Rho := fun ds C => match ds with | [.list xs] => ∃ bs : List Bool, xs = bs.map .bool ∧ C (.bool (bs.all id)) | _ => False
end
section
variable {X : Cx} {pos : Pos} {elt tg iter : Expr} {ifs : List Expr} {scope : Scope} {cn fr : List Str} {js : List Nat} {γ : TauG} {τt : TauT} {τe : TauE} {S : List Nat} {τ : TauE}
def zCompD (τ : TauE) (cn : Nat) (js : List Nat) (γ : TauG) (τt : TauT) (τe : TauE) : TauO := fun ev C => τ ev fun d ev1 => ∃ kvs, d = dictD kvs ∧ CompD (kvs.map fun kv => kdD kv.1) cn (outY js (frzAll js ev1)) γ τt τe (fun acc => C (.lst acc) (frzAll js ev1))
end
end L2

set_option Elab.async false
set_option linter.all false
set_option maxRecDepth 100000
set_option maxHeartbeats 1000000
/-! sorting: runs, insertion, galloping, merging; any order, any size; the answers of the comparisons are known where they are asked -/
namespace L2.Srt
open PySem PyProof.Rows
abbrev Kd := Value × Value
def at_ (a : Array Kd) (i : Nat) : Kd := (a[i]?).getD (.none, .none)
theorem at_some {a : Array Kd} {i : Nat} (h : i < a.size) : a[i]? = some (at_ a i) := by unfold at_; rw [Array.getElem?_eq_getElem h]; rfl
theorem at_mem {a : Array Kd} {i : Nat} (h : i < a.size) : at_ a i ∈ a := by unfold at_; rw [Array.getElem?_eq_getElem h]; exact Array.getElem_mem h
theorem at_congr {a b : Array Kd} {i j : Nat} (h : a[i]? = b[j]?) : at_ a i = at_ b j := by unfold at_; rw [h]
/-- an order of pairs -/
structure Ord (lt : Kd → Kd → Bool) : Prop where
  as : ∀ x y, lt x y = true → lt y x = false
  tr : ∀ x y z, lt y x = false → lt z y = false → lt z x = false
section
variable {lt : Kd → Kd → Bool}
theorem Ord.rf (O : Ord lt) (x : Kd) : lt x x = false := by
  cases h : lt x x with
  | false => rfl
  | true => rw [O.as x x h] at h; cases h
theorem Ord.trL (O : Ord lt) {x y z : Kd} (h1 : lt x y = true) (h2 : lt z y = false) : lt x z = true := by
  cases h : lt x z with
  | true => rfl
  | false => rw [O.tr y z x h2 h] at h1; cases h1
theorem Ord.trR (O : Ord lt) {x y z : Kd} (h1 : lt y x = false) (h2 : lt y z = true) : lt x z = true := by
  cases h : lt x z with
  | true => rfl
  | false => rw [O.tr z x y h h1] at h2; cases h2
/-- in order from i up to j, j left out -/
def Up (lt : Kd → Kd → Bool) (a : Array Kd) (i j : Nat) : Prop := ∀ p q, i ≤ p → p ≤ q → q < j → lt (at_ a q) (at_ a p) = false
def Dn (lt : Kd → Kd → Bool) (a : Array Kd) (i j : Nat) : Prop := ∀ p q, i ≤ p → p ≤ q → q < j → lt (at_ a p) (at_ a q) = false
theorem Up.one (O : Ord lt) (a : Array Kd) (i : Nat) : Up lt a i (i + 1) := fun p q h1 h2 h3 => by
  have : p = q := by omega
  subst this; exact O.rf _
theorem Up.sub {a : Array Kd} {i j i' j' : Nat} (h : Up lt a i j) (h1 : i ≤ i') (h2 : j' ≤ j) : Up lt a i' j' := fun p q a1 a2 a3 => h p q (by omega) a2 (by omega)
theorem Up.more (O : Ord lt) {a : Array Kd} {i j : Nat} (h : Up lt a i j) (hij : i < j) (hl : lt (at_ a j) (at_ a (j - 1)) = false) : Up lt a i (j + 1) := fun p q h1 h2 h3 => by
  by_cases e : q < j
  · exact h p q h1 h2 e
  · have e2 : q = j := by omega
    subst e2
    by_cases e3 : p = q
    · subst e3; exact O.rf _
    · exact O.tr _ (at_ a (q - 1)) _ (h p (q - 1) h1 (by omega) (by omega)) hl
theorem Dn.more (O : Ord lt) {a : Array Kd} {i j : Nat} (h : Dn lt a i j) (hij : i < j) (hl : lt (at_ a (j - 1)) (at_ a j) = false) : Dn lt a i (j + 1) := fun p q h1 h2 h3 => by
  by_cases e : q < j
  · exact h p q h1 h2 e
  · have e2 : q = j := by omega
    subst e2
    by_cases e3 : p = q
    · subst e3; exact O.rf _
    · exact O.tr _ (at_ a (q - 1)) _ hl (h p (q - 1) h1 (by omega) (by omega))
/-- outside of i up to j nothing has changed -/
def Out (a b : Array Kd) (i j : Nat) : Prop := ∀ k, k < i ∨ j ≤ k → at_ b k = at_ a k
theorem Out.refl {a : Array Kd} {i j : Nat} : Out a a i j := fun _ _ => rfl
theorem Out.trans {a b c : Array Kd} {i j i' j' : Nat} (h1 : Out a b i j) (h2 : Out b c i' j') (hi : i' ≤ i) (hj : j ≤ j') : Out a c i' j' := fun k hk => (h2 k hk).trans (h1 k (by omega))
theorem Out.wide {a b : Array Kd} {i j i' j' : Nat} (h : Out a b i j) (hi : i' ≤ i) (hj : j ≤ j') : Out a b i' j' := fun k hk => h k (by omega)
theorem Up.out {a b : Array Kd} {i j p q : Nat} (h : Up lt a p q) (o : Out a b i j) (hd : q ≤ i ∨ j ≤ p) : Up lt b p q := fun x y h1 h2 h3 => by
  rw [o x (by omega), o y (by omega)]; exact h x y h1 h2 h3
theorem mir_at {a : Array Kd} {i j : Nat} (hj : j ≤ a.size) (k : Nat) : at_ (mirror a i j ((j - i) / 2)) k = if i ≤ k ∧ k < j then at_ a (i + j - 1 - k) else at_ a k := by
  have e := getElem?_mirror_all (i := i) hj k
  split
  · rename_i c; rw [if_pos c] at e; exact at_congr e
  · rename_i c; rw [if_neg c] at e; exact at_congr e
theorem mir_out {a : Array Kd} {i j : Nat} (hj : j ≤ a.size) : Out a (mirror a i j ((j - i) / 2)) i j := fun k hk => by
  rw [mir_at hj, if_neg (by omega)]
theorem mir_up {a : Array Kd} {i j : Nat} (hj : j ≤ a.size) (h : Dn lt a i j) : Up lt (mirror a i j ((j - i) / 2)) i j := fun p q h1 h2 h3 => by
  rw [mir_at hj, mir_at hj, if_pos (by omega), if_pos (by omega)]
  exact h _ _ (by omega) (by omega) (by omega)
/-- a row of like ones turned round -/
theorem mir_dn {a : Array Kd} {i m j : Nat} (hj : j ≤ a.size) (him : i ≤ m) (h : Dn lt a i j) (he : Up lt a m j) : Dn lt (mirror a m j ((j - m) / 2)) i j := fun p q h1 h2 h3 => by
  rw [mir_at hj, mir_at hj]
  by_cases c1 : m ≤ p
  · rw [if_pos (by omega), if_pos (by omega)]
    exact he _ _ (by omega) (by omega) (by omega)
  · rw [if_neg (by omega)]
    by_cases c2 : m ≤ q
    · rw [if_pos (by omega)]
      exact h _ _ (by omega) (by omega) (by omega)
    · rw [if_neg (by omega)]
      exact h _ _ h1 h2 (by omega)
end
/-! ### the state -/
structure SB (kd : SortKind) (a₀ : Array Kd) (st : SortSt) : Prop where
  perm : (arrOf st).Perm a₀
  kind : kindOf st = kd
  failed : failedOf st = none
theorem SB.size {kd : SortKind} {a₀ : Array Kd} {st : SortSt} (h : SB kd a₀ st) : (arrOf st).size = a₀.size := h.perm.size_eq
theorem SB.mem {kd : SortKind} {a₀ : Array Kd} {st : SortSt} (h : SB kd a₀ st) {i : Nat} (hi : i < a₀.size) : at_ (arrOf st) i ∈ a₀ := by
  have := at_mem (a := arrOf st) (i := i) (by rw [h.size]; exact hi)
  exact h.perm.mem_iff.mp this
theorem SB.set {kd : SortKind} {a₀ : Array Kd} {st : SortSt} (h : SB kd a₀ st) {xs : Array Kd} (hp : xs.Perm (arrOf st)) : SB kd a₀ (setArr st xs) := ⟨hp.trans h.perm, h.kind, h.failed⟩
/-- what the comparisons answer, at these pairs and in this state -/
def Ans (prog : Program) (w : World) (A : Around) (s : Shared) (kd : SortKind) (a₀ : Array Kd) (lt : Kd → Kd → Bool) : Prop :=
  ∀ (E : Value → Shared → Prop) (x y : Kd) {Q : Bool → Shared → Prop}, x ∈ a₀ → y ∈ a₀ → Q (lt x y) s → wpAny (model prog w) A (keyLt' kd x.1 y.1) Q E s
section
variable {prog : Program} {w : World} {A : Around} {E : Value → Shared → Prop} {s : Shared} {a₀ : Array Kd} {kd : SortKind} {lt : Kd → Kd → Bool}
theorem w_lt (hA : Ans prog w A s kd a₀ lt) {st : SortSt} (hB : SB kd a₀ st) {x y : Kd} (hx : x ∈ a₀) (hy : y ∈ a₀) {Q : Option Bool → SortSt → Prop} (h : Q (some (lt x y)) st) : wpS (model prog w) A E s (lt' x y) Q st := by
  rw [lt'_eq]
  refine wpS_bind (wpS_get (wpS_bind ?_))
  rw [hB.kind]
  exact wpS_lift (wpAny_attempt (hA _ x y hx hy ⟨rfl, wpS_pure h⟩))
theorem w_elem {st : SortSt} {a : Array Kd} {i : Nat} (hi : i < a.size) {Q : Kd → SortSt → Prop} (h : Q (at_ a i) st) : wpS (model prog w) A E s (elem' a i) Q st := by
  rw [elem'_eq, at_some hi]
  exact wpS_pure h
theorem w_ltAt (hA : Ans prog w A s kd a₀ lt) {st : SortSt} (hB : SB kd a₀ st) {i j : Nat} (hi : i < a₀.size) (hj : j < a₀.size) {Q : Option Bool → SortSt → Prop} (h : Q (some (lt (at_ (arrOf st) i) (at_ (arrOf st) j))) st) : wpS (model prog w) A E s (ltAt' i j) Q st := by
  rw [ltAt'_eq]
  exact wpS_bind (wpS_get (wpS_bind (w_elem (by rw [hB.size]; exact hi) (wpS_bind (w_elem (by rw [hB.size]; exact hj) (w_lt hA hB (hB.mem hi) (hB.mem hj) h))))))
theorem w_rev {st : SortSt} {i j : Nat} {Q : Unit → SortSt → Prop} (h : Q () (setArr st (mirror (arrOf st) i j ((j - i) / 2)))) : wpS (model prog w) A E s (reverseSlice' i j) Q st := by
  rw [reverseSlice'_eq]
  exact wpS_modify h
/-- insertion -/
theorem w_bin (hA : Ans prog w A s kd a₀ lt) (O : Ord lt) {st : SortSt} {lo n ok : Nat} {Q : Bool → SortSt → Prop} (hn : lo + n ≤ a₀.size) (hok : ok ≤ n) (hB : SB kd a₀ st) (hs : Up lt (arrOf st) lo (lo + ok))
    (h : ∀ xs, SB kd a₀ (setArr st xs) → Up lt xs lo (lo + n) → Out (arrOf st) xs lo (lo + n) → Q true (setArr st xs)) : wpS (model prog w) A E s (binarySort' lo n ok) Q st := by
  rw [binarySort'_eq]
  refine wpS_bind (wpS_mono (wpS_forRange (I := fun k c st' => c = (none, ()) ∧ ∃ xs, st' = setArr st xs ∧ SB kd a₀ st' ∧ Up lt xs lo (lo + min k n) ∧ Out (arrOf st) xs lo (lo + n)) (Q := fun c st' => c = (none, ()) ∧ ∃ xs, st' = setArr st xs ∧ SB kd a₀ st' ∧ Up lt xs lo (lo + n) ∧ Out (arrOf st) xs lo (lo + n)) ?step ?fin ?init) ?post)
  case post =>
    rintro c st' ⟨rfl, xs, rfl, b, u, o⟩
    exact wpS_pure (h xs b u o)
  case init =>
    refine ⟨rfl, arrOf st, rfl, hB, fun p q h1 h2 h3 => ?_, Out.refl⟩
    by_cases c : q < lo + ok
    · exact hs p q h1 h2 c
    · have : p = q := by omega
      subst this; exact O.rf _
  case fin =>
    rintro c st' ⟨e, xs, e2, b, u, o⟩
    refine ⟨e, xs, e2, b, ?_, o⟩
    rwa [show min (max (max ok 1) n) n = n by omega] at u
  case step =>
    rintro k c st' hak hkn ⟨rfl, xs, rfl, b, u, o⟩
    rw [show min k n = k by omega] at u
    refine wpS_bind (wpS_mono (wpS_forRange (I := fun x c st'' => st'' = setArr st xs ∧ ∃ l r, c = (none, l, r) ∧ l ≤ r ∧ r ≤ k ∧ r - l ≤ k - x ∧ (∀ i, i < l → lt (at_ xs (lo + k)) (at_ xs (lo + i)) = false) ∧ (∀ i, r ≤ i → i < k → lt (at_ xs (lo + k)) (at_ xs (lo + i)) = true))
      (Q := fun c st'' => st'' = setArr st xs ∧ ∃ l r, c = (none, l, r) ∧ l ≤ k ∧ (∀ i, i < l → lt (at_ xs (lo + k)) (at_ xs (lo + i)) = false) ∧ (∀ i, l ≤ i → i < k → lt (at_ xs (lo + k)) (at_ xs (lo + i)) = true)) ?istep ?ifin ?iinit) ?ipost)
    case iinit => exact ⟨rfl, 0, k, rfl, by omega, by omega, by omega, fun i hi => by omega, fun i h1 h2 => by omega⟩
    case ifin =>
      rintro c st'' ⟨e, l, r, rfl, h1, h2, h3, h4, h5⟩
      have : l = r := by omega
      subst this
      exact ⟨e, l, l, rfl, h2, h4, h5⟩
    case istep =>
      rintro x c st'' _ hxk ⟨rfl, l, r, rfl, h1, h2, h3, h4, h5⟩
      dsimp only
      by_cases hge : l ≥ r
      · rw [if_pos hge]
        have : l = r := by omega
        subst this
        exact wpS_pure ⟨rfl, l, l, rfl, h2, h4, h5⟩
      · rw [if_neg hge]
        refine wpS_bind (w_ltAt hA b (by omega) (by omega) ?_)
        cases hl : lt (at_ xs (lo + k)) (at_ xs (lo + (l + r) / 2)) with
        | true =>
          exact wpS_pure ⟨rfl, l, (l + r) / 2, rfl, by omega, by omega, by omega, h4, fun i g1 g2 => O.trL hl (u _ _ (by omega) (by omega) (by omega))⟩
        | false =>
          exact wpS_pure ⟨rfl, (l + r) / 2 + 1, r, rfl, by omega, by omega, by omega, fun i g1 => O.tr _ _ _ (u (lo + i) (lo + (l + r) / 2) (by omega) (by omega) (by omega)) hl, h5⟩
    case ipost =>
      rintro c st'' ⟨rfl, l, r, rfl, h1, h2, h3⟩
      refine wpS_bind (wpS_modify (wpS_pure ?_))
      have hk : lo + k < xs.size := by
        have := b.size
        have e : (arrOf (setArr st xs)).size = xs.size := rfl
        omega
      have ga : ∀ i, at_ (bubble xs (lo + k) (lo + k - (lo + l))) i = if i = lo + l then at_ xs (lo + k) else if lo + l < i ∧ i ≤ lo + k then at_ xs (i - 1) else at_ xs i := fun i => by
        have e := getElem?_bubble hk (lo + k - (lo + l)) (by omega) i
        rw [show lo + k - (lo + k - (lo + l)) = lo + l by omega] at e
        split
        · rename_i c; rw [if_pos c] at e; exact at_congr e
        · rename_i c
          rw [if_neg c] at e
          split
          · rename_i c2; rw [if_pos c2] at e; exact at_congr e
          · rename_i c2; rw [if_neg c2] at e; exact at_congr e
      refine ⟨rfl, bubble xs (lo + k) (lo + k - (lo + l)), rfl, b.set (bubble_perm _ _ _), ?_, ?_⟩
      · rw [show min (k + 1) n = k + 1 by omega]
        intro p q g1 g2 g3
        rw [ga, ga]
        repeat' split
        all_goals first
          | (exfalso; omega)
          | exact O.rf _
          | exact O.as _ _ (by rename_i a1 a2; have := h3 (q - 1 - lo) (by omega) (by omega); rwa [show lo + (q - 1 - lo) = q - 1 by omega] at this)
          | exact O.as _ _ (by have := h3 (q - 1 - lo) (by omega) (by omega); rwa [show lo + (q - 1 - lo) = q - 1 by omega] at this)
          | (have := h2 (p - lo) (by omega); rwa [show lo + (p - lo) = p by omega] at this)
          | exact u _ _ (by omega) (by omega) (by omega)
      · intro i hi
        rw [ga, if_neg (by omega), if_neg (by omega)]
        exact o i hi
/-- from n on as far as they rise -/
theorem w_asc (hA : Ans prog w A s kd a₀ lt) (O : Ord lt) {f : Nat → Option (Option Nat) × Nat → StateT SortSt Sem (ForInStep (Option (Option Nat) × Nat))} {st : SortSt} {lo n nrem : Nat} {Q : Option (Option Nat) × Nat → SortSt → Prop} (hn : lo + nrem ≤ a₀.size) (h1 : 1 ≤ n) (hnn : n ≤ nrem) (hB : SB kd a₀ st) (hs : Up lt (arrOf st) lo (lo + n))
    (hf : ∀ i m, f i (none, m) = (do match ← ltAt' (lo + m) (lo + m - 1) with
      | some b => if b = true then pure (.done (none, m)) else pure (.yield (none, m + 1))
      | _ => pure (.done (some none, m))))
    (h : ∀ m, n ≤ m → m ≤ nrem → Up lt (arrOf st) lo (lo + m) → (m = nrem ∨ lt (at_ (arrOf st) (lo + m)) (at_ (arrOf st) (lo + m - 1)) = true) → Q (none, m) st) : wpS (model prog w) A E s (forIn [n:nrem] (none, n) f) Q st := by
  refine wpS_forRange (I := fun x c st' => st' = st ∧ c = (none, x) ∧ Up lt (arrOf st) lo (lo + x)) ?_ ?_ ⟨rfl, rfl, hs⟩
  · rintro x c st' g1 g2 ⟨rfl, rfl, u⟩
    rw [hf]
    refine wpS_bind (w_ltAt hA hB (by omega) (by omega) ?_)
    cases hl : lt (at_ (arrOf st') (lo + x)) (at_ (arrOf st') (lo + x - 1)) with
    | true => exact wpS_pure (h x g1 (by omega) u (.inr hl))
    | false => exact wpS_pure ⟨rfl, rfl, u.more O (by omega) hl⟩
  · rintro c st' ⟨rfl, rfl, u⟩
    rw [show max n nrem = nrem by omega] at u ⊢
    exact h _ hnn (Nat.le_refl _) u (.inl rfl)
/-- the falling row is turned round, and goes on as far as it rises -/
theorem w_turned (hA : Ans prog w A s kd a₀ lt) (O : Ord lt) {f : Nat → Option (Option Nat) × Nat → StateT SortSt Sem (ForInStep (Option (Option Nat) × Nat))} {k : Option (Option Nat) × Nat → StateT SortSt Sem (Option Nat)} {st : SortSt} {lo n nrem : Nat} {Q : Option Nat → SortSt → Prop} (hn : lo + nrem ≤ a₀.size) (h1 : 1 ≤ n) (hnn : n ≤ nrem) (hB : SB kd a₀ st) (hs : Dn lt (arrOf st) lo (lo + n))
    (hf : ∀ i m, f i (none, m) = (do match ← ltAt' (lo + m) (lo + m - 1) with
      | some b => if b = true then pure (.done (none, m)) else pure (.yield (none, m + 1))
      | _ => pure (.done (some none, m)))) (hk : ∀ m, k (none, m) = pure (some m))
    (h : ∀ m xs, SB kd a₀ (setArr st xs) → 1 ≤ m → m ≤ nrem → Up lt xs lo (lo + m) → Out (arrOf st) xs lo (lo + nrem) → Q (some m) (setArr st xs)) : wpS (model prog w) A E s (reverseSlice' lo (lo + n) >>= fun _ => forIn [n:nrem] (none, n) f >>= k) Q st := by
  have hz : lo + n ≤ (arrOf st).size := by rw [hB.size]; omega
  have e : lo + n - lo = n := by omega
  have hB' := hB.set (mirror_perm (arrOf st) lo (lo + n) ((lo + n - lo) / 2))
  refine wpS_bind (w_rev (wpS_bind (w_asc hA O hn h1 hnn hB' (mir_up hz hs) hf fun m m1 m2 u _ => ?_)))
  rw [hk]
  exact wpS_pure (h m _ hB' (by omega) m2 u ((mir_out hz).trans Out.refl (Nat.le_refl _) (by omega)))
/-- the falling row -/
theorem w_fall (hA : Ans prog w A s kd a₀ lt) (O : Ord lt) {f : Nat → Option (Option Nat) × Nat × Nat → StateT SortSt Sem (ForInStep (Option (Option Nat) × Nat × Nat))} {k : Option (Option Nat) × Nat × Nat → StateT SortSt Sem (Option Nat)} {st : SortSt} {lo n nrem : Nat} {Q : Option Nat → SortSt → Prop} (hn : lo + nrem ≤ a₀.size) (h1 : 1 ≤ n) (hnn : n ≤ nrem) (hB : SB kd a₀ st) (hs : Dn lt (arrOf st) lo (lo + n))
    (hf : ∀ i m q, f i (none, m, q) = (do match ← ltAt' (lo + m) (lo + m - 1) with
      | some b => if b = true then (if q > 0 then (do reverseSlice' (lo + m - (q + 1)) (lo + m); pure (.yield (none, m + 1, 0))) else pure (.yield (none, m + 1, 0))) else (do match ← ltAt' (lo + m - 1) (lo + m) with
        | some b => if b = true then pure (.done (none, m, q)) else pure (.yield (none, m + 1, q + 1))
        | _ => pure (.done (some none, m, q)))
      | _ => pure (.done (some none, m, q))))
    (hk : ∀ m q xs, SB kd a₀ (setArr st xs) → n ≤ m → m ≤ nrem → Dn lt xs lo (lo + m) → q + 1 ≤ m → Up lt xs (lo + m - (q + 1)) (lo + m) → Out (arrOf st) xs lo (lo + nrem) → wpS (model prog w) A E s (k (none, m, q)) Q (setArr st xs)) :
    wpS (model prog w) A E s (forIn [n:nrem] (none, n, 0) f >>= k) Q st := by
  have one : ∀ (a : Array Kd) m, 1 ≤ m → Up lt a (lo + m - (0 + 1)) (lo + m) := fun a m hm p q g1 g2 g3 => by
    have : p = q := by omega
    subst this; exact O.rf _
  refine wpS_bind (wpS_forRange (I := fun x c st' => ∃ q xs, c = (none, x, q) ∧ st' = setArr st xs ∧ SB kd a₀ st' ∧ Dn lt xs lo (lo + x) ∧ q + 1 ≤ x ∧ Up lt xs (lo + x - (q + 1)) (lo + x) ∧ Out (arrOf st) xs lo (lo + nrem)) ?_ ?_ ⟨0, arrOf st, rfl, rfl, hB, hs, h1, one _ _ h1, Out.refl⟩)
  · rintro x c st' g1 g2 ⟨q, xs, rfl, rfl, b, d, l, u, o⟩
    have hz : lo + x ≤ xs.size := by have := b.size; have e : (arrOf (setArr st xs)).size = xs.size := rfl; omega
    rw [hf]
    refine wpS_bind (w_ltAt hA b (by omega) (by omega) ?_)
    cases hl : lt (at_ xs (lo + x)) (at_ xs (lo + x - 1)) with
    | true =>
      dsimp only
      rw [if_pos rfl]
      by_cases hq : q > 0
      · rw [if_pos hq]
        have e : lo + x - (lo + x - (q + 1)) = q + 1 := by omega
        have ml : lo ≤ lo + x - (q + 1) := by omega
        refine wpS_bind (w_rev (wpS_pure ⟨0, _, rfl, rfl, b.set (mirror_perm _ _ _ _), (mir_dn hz ml d u).more O (by omega) ?_, by omega, one _ _ (by omega), o.trans ((mir_out hz).wide (by omega) (by omega)) (Nat.le_refl _) (Nat.le_refl _)⟩))
        rw [mir_at hz, mir_at hz, if_pos (by omega), if_neg (by omega)]
        exact O.tr _ (at_ xs (lo + x - 1)) _ (O.as _ _ hl) (d _ _ (by omega) (by omega) (by omega))
      · rw [if_neg hq]
        exact wpS_pure ⟨0, xs, rfl, rfl, b, d.more O (by omega) (O.as _ _ hl), by omega, one _ _ (by omega), o⟩
    | false =>
      dsimp only
      rw [if_neg (by decide)]
      refine wpS_bind (w_ltAt hA b (by omega) (by omega) ?_)
      cases hg : lt (at_ xs (lo + x - 1)) (at_ xs (lo + x)) with
      | true =>
        exact wpS_pure (hk x q xs b g1 (by omega) d l u o)
      | false =>
        refine wpS_pure ⟨q + 1, xs, rfl, rfl, b, d.more O (by omega) hg, by omega, ?_, o⟩
        have := u.more O (by omega) hl
        rwa [show lo + x - (q + 1) = lo + (x + 1) - (q + 1 + 1) by omega] at this
  · rintro c st' ⟨q, xs, rfl, rfl, b, d, l, u, o⟩
    rw [show max n nrem = nrem by omega] at *
    exact hk _ q xs b hnn (Nat.le_refl _) d l u o
/-- the run that begins at lo -/
theorem w_run (hA : Ans prog w A s kd a₀ lt) (O : Ord lt) {st : SortSt} {lo nrem : Nat} {Q : Option Nat → SortSt → Prop} (hn : lo + nrem ≤ a₀.size) (h1 : 1 ≤ nrem) (hB : SB kd a₀ st)
    (h : ∀ m xs, SB kd a₀ (setArr st xs) → 1 ≤ m → m ≤ nrem → Up lt xs lo (lo + m) → Out (arrOf st) xs lo (lo + nrem) → Q (some m) (setArr st xs)) : wpS (model prog w) A E s (countRun' lo nrem) Q st := by
  rw [countRun'_eq]
  refine wpS_bind (w_asc hA O hn (Nat.le_refl 1) h1 hB (Up.one O _ _) (fun i m => rfl) fun n n1 n2 u c => ?_)
  dsimp only
  by_cases hnn : n = nrem
  · rw [if_pos (by simpa using hnn)]
    exact wpS_pure (h n (arrOf st) hB n1 n2 u Out.refl)
  rw [if_neg (by simpa using hnn)]
  have hlt := c.resolve_left hnn
  have hz : lo + n ≤ (arrOf st).size := by rw [hB.size]; omega
  have back : ∀ (ys : Array Kd), Out (arrOf st) ys lo (lo + nrem) → ∀ m xs, SB kd a₀ (setArr (setArr st ys) xs) → 1 ≤ m → m ≤ nrem → Up lt xs lo (lo + m) → Out ys xs lo (lo + nrem) → Q (some m) (setArr (setArr st ys) xs) := fun ys o m xs b m1 m2 u o2 => h m xs b m1 m2 u (o.trans o2 (Nat.le_refl _) (Nat.le_refl _))
  by_cases hgt : n > 1
  · rw [if_pos hgt]
    refine wpS_bind (w_ltAt hA hB (by omega) (by omega) ?_)
    cases hr : lt (at_ (arrOf st) lo) (at_ (arrOf st) (lo + n - 1)) with
    | true => exact wpS_pure (h n (arrOf st) hB n1 n2 u Out.refl)
    | false =>
      dsimp only
      rw [if_neg (by decide)]
      have d : Dn lt (arrOf st) lo (lo + n) := fun p q g1 g2 g3 => O.tr _ (at_ (arrOf st) lo) _ (O.tr _ (at_ (arrOf st) (lo + n - 1)) _ (u _ _ (by omega) (by omega) (by omega)) hr) (u _ _ (by omega) (by omega) (by omega))
      refine wpS_bind (w_rev (wpS_bind (wpS_lift (wpAny_rule ⟨rfl, ?_⟩))))
      have hB' := hB.set (mirror_perm (arrOf st) lo (lo + n) ((lo + n - lo) / 2))
      have d' : Dn lt (mirror (arrOf st) lo (lo + n) ((lo + n - lo) / 2)) lo (lo + (n + 1)) := by
        refine (mir_dn hz (Nat.le_refl _) d u).more O (by omega) ?_
        rw [mir_at hz, mir_at hz, if_pos (by omega), if_neg (by omega), show lo + (lo + n) - 1 - (lo + n - 1) = lo by omega]
        exact O.tr _ _ _ (O.as _ _ hlt) hr
      have o' : Out (arrOf st) (mirror (arrOf st) lo (lo + n) ((lo + n - lo) / 2)) lo (lo + nrem) := (mir_out hz).trans Out.refl (Nat.le_refl _) (by omega)
      refine w_fall hA O hn (by omega) (by omega) hB' d' (fun _ _ _ => rfl) fun m q xs b m1 m2 dd l uu o => ?_
      have o2 := o'.trans o (Nat.le_refl _) (Nat.le_refl _)
      dsimp only
      by_cases hq : q > 0
      · rw [if_pos hq]
        have hz' : lo + m ≤ xs.size := by have := b.size; have e : (arrOf (setArr (setArr st (mirror (arrOf st) lo (lo + n) ((lo + n - lo) / 2))) xs)).size = xs.size := rfl; omega
        exact wpS_bind (w_rev (w_turned hA O hn (by omega) m2 (b.set (mirror_perm _ _ _ _)) (mir_dn hz' (by omega) dd uu) (fun _ _ => rfl) (fun _ => rfl) (back _ (o2.trans ((mir_out hz').wide (by omega) (by omega)) (Nat.le_refl _) (Nat.le_refl _)))))
      · rw [if_neg hq]
        exact w_turned hA O hn (by omega) m2 b dd (fun _ _ => rfl) (fun _ => rfl) (back _ o2)
  · rw [if_neg hgt]
    have e1 : n = 1 := by omega
    subst e1
    refine wpS_bind (wpS_lift (wpAny_rule ⟨rfl, ?_⟩))
    have d' : Dn lt (arrOf st) lo (lo + (1 + 1)) := Dn.more O (fun p q g1 g2 g3 => by have : p = q := (by omega); subst this; exact O.rf _) (by omega) (O.as _ _ hlt)
    refine w_fall hA O hn (by omega) (by omega) hB d' (fun _ _ _ => rfl) fun m q xs b m1 m2 dd l uu o => ?_
    dsimp only
    by_cases hq : q > 0
    · rw [if_pos hq]
      have hz' : lo + m ≤ xs.size := by have := b.size; have e : (arrOf (setArr st xs)).size = xs.size := rfl; omega
      exact wpS_bind (w_rev (w_turned hA O hn (by omega) m2 (b.set (mirror_perm _ _ _ _)) (mir_dn hz' (by omega) dd uu) (fun _ _ => rfl) (fun _ => rfl) (back _ (o.trans ((mir_out hz').wide (by omega) (by omega)) (Nat.le_refl _) (Nat.le_refl _)))))
    · rw [if_neg hq]
      exact w_turned hA O hn (by omega) m2 b dd (fun _ _ => rfl) (fun _ => rfl) (back _ o)
end
end L2.Srt

set_option Elab.async false
set_option linter.all false
set_option maxRecDepth 100000
set_option maxHeartbeats 1000000
/-! sorting: galloping -/
namespace L2.Srt
open PySem PyProof.Rows
def gal : Bool → Kd → Array Kd → Nat → Nat → Nat → StateT SortSt Sem (Option Nat) := sortPriv% PySem.Builtin.gallop
section
variable {prog : Program} {w : World} {A : Around} {E : Value → Shared → Prop} {s : Shared} {a₀ : Array Kd} {kd : SortKind} {lt : Kd → Kd → Bool}
/-- whether the place sought lies beyond this one -/
def bey (lt : Kd → Kd → Bool) (left : Bool) (key : Kd) (arr : Array Kd) (base i : Nat) : Bool := if left then lt (at_ arr (base + i)) key else !lt key (at_ arr (base + i))
theorem bey_mono (O : Ord lt) {left : Bool} {key : Kd} {arr : Array Kd} {base n i j : Nat} (hU : Up lt arr base (base + n)) (hij : i ≤ j) (hj : j < n) (h : bey lt left key arr base j = true) : bey lt left key arr base i = true := by
  have u := hU (base + i) (base + j) (by omega) (by omega) (by omega)
  unfold bey at h ⊢
  cases left with
  | true => exact O.trR u h
  | false =>
    have h' : lt key (at_ arr (base + j)) = false := by simpa using h
    have : lt key (at_ arr (base + i)) = false := by
      cases hc : lt key (at_ arr (base + i)) with
      | false => rfl
      | true => rw [O.trL hc u] at h'; cases h'
    simpa using this
theorem w_gal (hA : Ans prog w A s kd a₀ lt) (O : Ord lt) {st : SortSt} {left : Bool} {key : Kd} {arr : Array Kd} {base n hint : Nat} {Q : Option Nat → SortSt → Prop} (hB : SB kd a₀ st) (hk : key ∈ a₀) (hz : base + n ≤ arr.size) (hm : ∀ i, i < n → at_ arr (base + i) ∈ a₀) (hh : hint < n) (hU : Up lt arr base (base + n))
    (h : ∀ k, k ≤ n → (∀ i, i < k → bey lt left key arr base i = true) → (∀ i, k ≤ i → i < n → bey lt left key arr base i = false) → Q (some k) st) : wpS (model prog w) A E s (gal left key arr base n hint) Q st := by
  have ask : ∀ (i : Nat) {R : Option Bool → SortSt → Prop}, i < n → R (some (bey lt left key arr base i)) st → wpS (model prog w) A E s (elem' arr (base + i) >>= fun x => if left then lt' x key else (do return (← lt' key x).map (!·))) R st := fun i R hi hR => by
    refine wpS_bind (w_elem (by omega) ?_)
    unfold bey at hR
    cases left with
    | true => exact w_lt hA hB (hm i hi) hk hR
    | false => exact wpS_bind (w_lt hA hB hk (hm i hi) (wpS_pure hR))
  have fin : ∀ (lo hi : Nat) {f : Nat → Option (Option Nat) × Nat × Nat → StateT SortSt Sem (ForInStep (Option (Option Nat) × Nat × Nat))} {k : Option (Option Nat) × Nat × Nat → StateT SortSt Sem (Option Nat)}, lo ≤ hi → hi ≤ n → (∀ i, i < lo → bey lt left key arr base i = true) → (∀ i, hi ≤ i → i < n → bey lt left key arr base i = false) →
      (∀ x a b, f x (none, a, b) = if a ≥ b then pure (.done (none, a, b)) else (do match ← (elem' arr (base + (a + (b - a) / 2)) >>= fun x => if left then lt' x key else (do return (← lt' key x).map (!·))) with
        | some more => if more = true then pure (.yield (none, a + (b - a) / 2 + 1, b)) else pure (.yield (none, a, a + (b - a) / 2))
        | _ => pure (.done (some none, a, b)))) → (∀ a b, k (none, a, b) = pure (some b)) →
      wpS (model prog w) A E s (forIn [0:n] (none, lo, hi) f >>= k) Q st := fun lo hi f k g1 g2 g3 g4 hf hk => by
    refine wpS_bind (wpS_forRange (I := fun x c st' => st' = st ∧ ∃ a b, c = (none, a, b) ∧ a ≤ b ∧ b ≤ n ∧ b - a ≤ n - x ∧ (∀ i, i < a → bey lt left key arr base i = true) ∧ (∀ i, b ≤ i → i < n → bey lt left key arr base i = false)) ?_ ?_ ⟨rfl, lo, hi, rfl, g1, g2, by omega, g3, g4⟩)
    · rintro x c st' _ hx ⟨rfl, a, b, rfl, e1, e2, e3, e4, e5⟩
      rw [hf]
      by_cases hge : a ≥ b
      · rw [if_pos hge]
        have : a = b := by omega
        subst this
        refine wpS_pure ?_
        dsimp only
        rw [hk]
        exact wpS_pure (h a e2 e4 e5)
      · rw [if_neg hge]
        refine wpS_bind (ask _ (by omega) ?_)
        cases hm : bey lt left key arr base (a + (b - a) / 2) with
        | true => exact wpS_pure ⟨rfl, _, _, rfl, by omega, e2, by omega, fun i hi => bey_mono O hU (by omega) (by omega) hm, e5⟩
        | false =>
          refine wpS_pure ⟨rfl, _, _, rfl, by omega, by omega, by omega, e4, fun i i1 i2 => ?_⟩
          cases hc : bey lt left key arr base i with
          | false => rfl
          | true => rw [bey_mono O hU i1 i2 hc] at hm; cases hm
    · rintro c st' ⟨rfl, a, b, rfl, e1, e2, e3, e4, e5⟩
      have : a = b := by omega
      subst this
      rw [hk]
      exact wpS_pure (h a e2 e4 e5)
  unfold gal
  refine wpS_bind (ask hint hh ?_)
  cases hr : bey lt left key arr base hint with
  | true =>
    dsimp only
    refine wpS_bind (wpS_forRange (I := fun x c st' => st' = st ∧ ∃ a b, c = (none, a, b) ∧ a < b ∧ hint + a < n ∧ x + 1 ≤ b ∧ bey lt left key arr base (hint + a) = true) ?_ ?_ ⟨rfl, 0, 1, rfl, by omega, by omega, by omega, hr⟩)
    · rintro x c st' _ hx ⟨rfl, a, b, rfl, e1, e2, e3, e4⟩
      dsimp only
      by_cases hge : b ≥ n - hint
      · rw [if_pos hge]
        exact wpS_pure (fin _ _ (by dsimp only; omega) (by dsimp only; omega) (fun i hi => bey_mono O hU (by dsimp only at hi; omega) e2 e4) (fun i i1 i2 => by dsimp only at i1; omega) (fun _ _ _ => rfl) (fun _ _ => rfl))
      · rw [if_neg hge]
        refine wpS_bind (ask _ (by omega) ?_)
        cases hm : bey lt left key arr base (hint + b) with
        | true => exact wpS_pure ⟨rfl, _, _, rfl, by omega, by omega, by omega, hm⟩
        | false =>
          refine wpS_pure (fin _ _ (by dsimp only; omega) (by dsimp only; omega) (fun i hi => bey_mono O hU (by dsimp only at hi; omega) e2 e4) (fun i i1 i2 => ?_) (fun _ _ _ => rfl) (fun _ _ => rfl))
          dsimp only at i1
          cases hc : bey lt left key arr base i with
          | false => rfl
          | true => rw [bey_mono O hU (i := hint + b) (by omega) i2 hc] at hm; cases hm
    · rintro c st' ⟨rfl, a, b, rfl, e1, e2, e3, e4⟩
      exact fin _ _ (by dsimp only; omega) (by dsimp only; omega) (fun i hi => bey_mono O hU (by dsimp only at hi; omega) e2 e4) (fun i i1 i2 => by dsimp only at i1; omega) (fun _ _ _ => rfl) (fun _ _ => rfl)
  | false =>
    dsimp only
    have no : ∀ j, j ≤ hint → bey lt left key arr base (hint - j) = false → ∀ i, hint - j ≤ i → i < n → bey lt left key arr base i = false := fun j hj hf i i1 i2 => by
      cases hc : bey lt left key arr base i with
      | false => rfl
      | true => rw [bey_mono O hU i1 i2 hc] at hf; cases hf
    refine wpS_bind (wpS_forRange (I := fun x c st' => st' = st ∧ ∃ a b, c = (none, a, b) ∧ a < b ∧ a ≤ hint ∧ x + 1 ≤ b ∧ bey lt left key arr base (hint - a) = false) ?_ ?_ ⟨rfl, 0, 1, rfl, by omega, by omega, by omega, hr⟩)
    · rintro x c st' _ hx ⟨rfl, a, b, rfl, e1, e2, e3, e4⟩
      dsimp only
      by_cases hge : b ≥ hint + 1
      · rw [if_pos hge]
        exact wpS_pure (fin _ _ (by dsimp only; omega) (by dsimp only; omega) (fun i hi => by dsimp only at hi; omega) (no a e2 e4) (fun _ _ _ => rfl) (fun _ _ => rfl))
      · rw [if_neg hge]
        refine wpS_bind (ask _ (by omega) ?_)
        cases hm : bey lt left key arr base (hint - b) with
        | true =>
          exact wpS_pure (fin _ _ (by dsimp only; omega) (by dsimp only; omega) (fun i hi => bey_mono O hU (j := hint - b) (by dsimp only at hi; omega) (by omega) hm) (no a e2 e4) (fun _ _ _ => rfl) (fun _ _ => rfl))
        | false => exact wpS_pure ⟨rfl, _, _, rfl, by omega, by omega, by omega, hm⟩
    · rintro c st' ⟨rfl, a, b, rfl, e1, e2, e3, e4⟩
      exact fin _ _ (by dsimp only; omega) (by dsimp only; omega) (fun i hi => by dsimp only at hi; omega) (no a e2 e4) (fun _ _ _ => rfl) (fun _ _ => rfl)
end
end L2.Srt

set_option Elab.async false
set_option linter.all false
set_option maxRecDepth 100000
set_option maxHeartbeats 1000000
/-! sorting: what a merge keeps -/
namespace L2.Srt
open PySem PyProof.Rows
section
variable {lt : Kd → Kd → Bool} {a b : Array Kd}
/-- in order, as a list -/
abbrev Ls (lt : Kd → Kd → Bool) (l : List Kd) : Prop := l.Pairwise fun x y => lt y x = false
/-- the lower part is out -/
structure Lo (lt : Kd → Kd → Bool) (a b out : Array Kd) (ia ib : Nat) : Prop where
  pm : out.toList.Perm (a.toList.take ia ++ b.toList.take ib)
  so : Ls lt out.toList
  la : ∀ x ∈ out.toList, ∀ i, ia ≤ i → i < a.size → lt (at_ a i) x = false
  lb : ∀ x ∈ out.toList, ∀ i, ib ≤ i → i < b.size → lt (at_ b i) x = false
theorem take_more {c : Array Kd} {i : Nat} (h : i < c.size) : c.toList.take (i + 1) = c.toList.take i ++ [at_ c i] := by
  have h' : i < c.toList.length := by simpa using h
  rw [List.take_succ_eq_append_getElem h']
  congr 2
  unfold at_
  rw [Array.getElem?_eq_getElem h]
  simp
theorem Lo.pushA {out : Array Kd} {ia ib : Nat} (L : Lo lt a b out ia ib) (hi : ia < a.size) (hU : Up lt a 0 a.size) (h : ∀ i, ib ≤ i → i < b.size → lt (at_ b i) (at_ a ia) = false) : Lo lt a b (out.push (at_ a ia)) (ia + 1) ib := by
  refine ⟨?_, ?_, fun x hx i h1 h2 => ?_, fun x hx i h1 h2 => ?_⟩
  · rw [Array.toList_push, take_more hi]
    refine (L.pm.append_right _).trans ?_
    rw [List.append_assoc, List.append_assoc]
    exact List.Perm.append_left _ List.perm_append_comm
  · rw [Array.toList_push]
    refine List.pairwise_append.mpr ⟨L.so, List.pairwise_singleton _ _, fun x hx y hy => ?_⟩
    rw [List.mem_singleton.mp hy]
    exact L.la x hx ia (Nat.le_refl _) hi
  · rw [Array.toList_push] at hx
    rcases List.mem_append.mp hx with hx | hx
    · exact L.la x hx i (by omega) h2
    · rw [List.mem_singleton.mp hx]; exact hU ia i (by omega) (by omega) h2
  · rw [Array.toList_push] at hx
    rcases List.mem_append.mp hx with hx | hx
    · exact L.lb x hx i h1 h2
    · rw [List.mem_singleton.mp hx]; exact h i h1 h2
theorem Lo.swap {out : Array Kd} {ia ib : Nat} (L : Lo lt a b out ia ib) : Lo lt b a out ib ia := ⟨L.pm.trans List.perm_append_comm, L.so, L.lb, L.la⟩
theorem Lo.pushB {out : Array Kd} {ia ib : Nat} (L : Lo lt a b out ia ib) (hi : ib < b.size) (hU : Up lt b 0 b.size) (h : ∀ i, ia ≤ i → i < a.size → lt (at_ a i) (at_ b ib) = false) : Lo lt a b (out.push (at_ b ib)) ia (ib + 1) := (L.swap.pushA hi hU h).swap
theorem ext_more {c : Array Kd} {i k : Nat} (h : i + k < c.size) : c.extract i (i + (k + 1)) = (c.extract i (i + k)).push (at_ c (i + k)) := by
  apply Array.toList_inj.mp
  rw [Array.toList_push, Array.toList_extract, Array.toList_extract, List.extract_eq_take_drop, List.extract_eq_take_drop]
  have e1 : i + (k + 1) - i = k + 1 := by omega
  have e2 : i + k - i = k := by omega
  rw [e1, e2]
  have h' : k < (c.toList.drop i).length := by rw [List.length_drop]; simp; omega
  rw [List.take_succ_eq_append_getElem h']
  congr 2
  unfold at_
  rw [Array.getElem?_eq_getElem h]
  simp
theorem Lo.appA {out : Array Kd} {ia ib : Nat} (L : Lo lt a b out ia ib) (hU : Up lt a 0 a.size) : ∀ k, ia + k ≤ a.size → (∀ j, ia ≤ j → j < ia + k → ∀ i, ib ≤ i → i < b.size → lt (at_ b i) (at_ a j) = false) → Lo lt a b (out ++ a.extract ia (ia + k)) (ia + k) ib
  | 0, _, _ => by
    have : out ++ a.extract ia (ia + 0) = out := by simp; omega
    rw [this]; exact L
  | k + 1, h1, h2 => by
    have r := (Lo.appA L hU k (by omega) (fun j j1 j2 => h2 j j1 (by omega))).pushA (by omega) hU (h2 _ (by omega) (by omega))
    rwa [← Array.append_push, ← ext_more (by omega)] at r
theorem Lo.appB {out : Array Kd} {ia ib : Nat} (L : Lo lt a b out ia ib) (hU : Up lt b 0 b.size) (k : Nat) (h1 : ib + k ≤ b.size) (h2 : ∀ j, ib ≤ j → j < ib + k → ∀ i, ia ≤ i → i < a.size → lt (at_ a i) (at_ b j) = false) : Lo lt a b (out ++ b.extract ib (ib + k)) ia (ib + k) := (L.swap.appA hU k h1 h2).swap
/-- the two in one -/
structure Mg (lt : Kd → Kd → Bool) (a b r : Array Kd) : Prop where
  pm : r.toList.Perm (a.toList ++ b.toList)
  so : Ls lt r.toList
theorem Lo.all {out : Array Kd} (L : Lo lt a b out a.size b.size) : Mg lt a b out := ⟨by have := L.pm; rwa [show a.size = a.toList.length by simp, show b.size = b.toList.length by simp, List.take_length, List.take_length] at this, L.so⟩
theorem ext_all {c : Array Kd} {i : Nat} (h : i ≤ c.size) : c.extract i = c.extract i (i + (c.size - i)) := by congr 1; omega
/-- the one that is left behind the other -/
theorem Lo.done {out : Array Kd} {ia ib : Nat} (L : Lo lt a b out ia ib) (hU : Up lt a 0 a.size) (hV : Up lt b 0 b.size) (h1 : ia ≤ a.size) (h2 : ib ≤ b.size) (h : ib = b.size ∨ ia = a.size) : Mg lt a b (out ++ a.extract ia ++ b.extract ib) := by
  have x := L.appA hU (a.size - ia) (by omega) (fun j j1 j2 i i1 i2 => by omega)
  rw [← ext_all h1, show ia + (a.size - ia) = a.size by omega] at x
  have y := x.appB hV (b.size - ib) (by omega) (fun j j1 j2 i i1 i2 => by omega)
  rw [← ext_all h2, show ib + (b.size - ib) = b.size by omega] at y
  exact y.all
theorem Lo.last {out : Array Kd} {ia ib : Nat} (L : Lo lt a b out ia ib) (hU : Up lt a 0 a.size) (hV : Up lt b 0 b.size) (h1 : ia + 1 = a.size) (h2 : ib ≤ b.size) (h : ∀ j, j < b.size → lt (at_ a (a.size - 1)) (at_ b j) = false) : Mg lt a b (out ++ b.extract ib ++ a.extract ia) := by
  have y := L.appB hV (b.size - ib) (by omega) (fun j j1 j2 i i1 i2 => by rw [show i = a.size - 1 by omega]; exact h j (by omega))
  rw [← ext_all h2, show ib + (b.size - ib) = b.size by omega] at y
  have x := y.appA hU (a.size - ia) (by omega) (fun j j1 j2 i i1 i2 => by omega)
  rw [← ext_all (by omega), show ia + (a.size - ia) = a.size by omega] at x
  exact x.all
theorem Lo.first (O : Ord lt) (ha : 0 < a.size) (hb : 0 < b.size) (hU : Up lt a 0 a.size) (hV : Up lt b 0 b.size) (h : lt (at_ a 0) (at_ b 0) = false) : Lo lt a b #[at_ b 0] 0 1 := by
  have L : Lo lt a b #[] 0 0 := ⟨List.Perm.refl _, List.Pairwise.nil, (fun x hx => nomatch hx), (fun x hx => nomatch hx)⟩
  exact L.pushB hb hV fun i i1 i2 => O.tr _ _ _ h (hU 0 i (by omega) (by omega) i2)
end
end L2.Srt

set_option Elab.async false
set_option linter.all false
set_option maxRecDepth 100000
set_option maxHeartbeats 1000000
/-! sorting: merging from below -/
namespace L2.Srt
open PySem PyProof.Rows
def mgLo : Array Kd → Array Kd → StateT SortSt Sem (Array Kd) := sortPriv% PySem.Builtin.mergeLo
/-- but for the gallop's number the state is the same -/
structure Sm (st st' : SortSt) : Prop where
  ar : arrOf st' = arrOf st
  pe : pendingOf st' = pendingOf st
  ki : kindOf st' = kindOf st
  fa : failedOf st' = failedOf st
theorem Sm.refl (st : SortSt) : Sm st st := ⟨rfl, rfl, rfl, rfl⟩
theorem Sm.trans {x y z : SortSt} (h : Sm x y) (g : Sm y z) : Sm x z := ⟨g.ar.trans h.ar, g.pe.trans h.pe, g.ki.trans h.ki, g.fa.trans h.fa⟩
theorem SB.sm {kd : SortKind} {a₀ : Array Kd} {st st' : SortSt} (h : SB kd a₀ st) (m : Sm st st') : SB kd a₀ st' := ⟨by rw [m.ar]; exact h.perm, m.ki.trans h.kind, m.fa.trans h.failed⟩
section
variable {prog : Program} {w : World} {A : Around} {E : Value → Shared → Prop} {s : Shared} {a₀ : Array Kd} {kd : SortKind} {lt : Kd → Kd → Bool}
abbrev Tl := Option (Array Kd) × Array Kd × Nat × Nat × Nat × Nat × Nat
abbrev pj2 (a b : Array Kd) (ja mg k k1 : Nat) (out : Array Kd) (jb : Nat) : StateT SortSt Sem (ForInStep Tl) := elem' a ja >>= fun p => if (ja + 1 + 1 == a.size) = true then pure (.done (some (out.push p ++ b.extract jb ++ a.extract (ja + 1)), out.push p, ja + 1, jb, mg, k, k1)) else if (decide (k < 7) && decide (k1 < 7)) = true then pure (.done (none, out.push p, ja + 1, jb, mg, k, k1)) else pure (.yield (none, out.push p, ja + 1, jb, mg, k, k1))
abbrev pj1 (a b : Array Kd) (jb mg k bc : Nat) (out : Array Kd) (ja : Nat) : StateT SortSt Sem (ForInStep Tl) := elem' b jb >>= fun p => if (jb + 1 == b.size) = true then pure (.done (some (out.push p ++ a.extract ja ++ b.extract (jb + 1)), out.push p, ja, jb + 1, mg, k, bc)) else elem' a ja >>= fun q => gal true q b (jb + 1) (b.size - (jb + 1)) 0 >>= fun r => match r with
  | some k1 => if k1 > 0 then (if (jb + 1 + k1 == b.size) = true then pure (.done (some (out.push p ++ b.extract (jb + 1) (jb + 1 + k1) ++ a.extract ja ++ b.extract (jb + 1 + k1)), out.push p ++ b.extract (jb + 1) (jb + 1 + k1), ja, jb + 1 + k1, mg, k, k1)) else pj2 a b ja mg k k1 (out.push p ++ b.extract (jb + 1) (jb + 1 + k1)) (jb + 1 + k1)) else pj2 a b ja mg k k1 (out.push p) (jb + 1)
  | _ => pure (.done (some (out.push p ++ a.extract ja ++ b.extract (jb + 1)), out.push p, ja, jb + 1, mg, k, bc))
/-- the last part of a turn of galloping -/
theorem w_j2 {st st' : SortSt} {a b out : Array Kd} {ja jb mg k k1 n : Nat} {R : ForInStep Tl → SortSt → Prop} (hU : Up lt a 0 a.size) (hV : Up lt b 0 b.size) (h9 : ∀ j, j < b.size → lt (at_ a (a.size - 1)) (at_ b j) = false) (hd : ∀ st' r q, Sm st st' → Mg lt a b r → R (.done (some r, q)) st')
    (hn : ∀ st' out ja jb mg ac bc, Sm st st' → Lo lt a b out ja jb → ja + 1 < a.size → jb < b.size → n ≤ ja + jb → R (.done (none, out, ja, jb, mg, ac, bc)) st' ∧ R (.yield (none, out, ja, jb, mg, ac, bc)) st')
    (sm : Sm st st') (L : Lo lt a b out ja jb) (l1 : ja + 1 < a.size) (l2 : jb < b.size) (l3 : n ≤ ja + jb + 1) (hp : ∀ i, jb ≤ i → i < b.size → lt (at_ b i) (at_ a ja) = false) :
    wpS (model prog w) A E s (pj2 a b ja mg k k1 out jb) R st' := by
  unfold pj2
  have L' := L.pushA (by omega) hU hp
  refine wpS_bind (w_elem (by omega) ?_)
  by_cases d1 : ja + 1 + 1 = a.size
  · rw [if_pos (by simpa using d1)]
    exact wpS_pure (hd _ _ _ sm (L'.last hU hV d1 (by omega) h9))
  rw [if_neg (by simpa using d1)]
  split
  · exact wpS_pure (hn st' _ _ _ _ _ _ sm L' (by omega) l2 (by omega)).1
  · exact wpS_pure (hn st' _ _ _ _ _ _ sm L' (by omega) l2 (by omega)).2
/-- the middle part -/
theorem w_j1 (hA : Ans prog w A s kd a₀ lt) (O : Ord lt) {st st' : SortSt} {a b out : Array Kd} {ja jb mg k bc n : Nat} {R : ForInStep Tl → SortSt → Prop} (hB : SB kd a₀ st) (ma : ∀ i, i < a.size → at_ a i ∈ a₀) (mb : ∀ i, i < b.size → at_ b i ∈ a₀) (hU : Up lt a 0 a.size) (hV : Up lt b 0 b.size) (h9 : ∀ j, j < b.size → lt (at_ a (a.size - 1)) (at_ b j) = false) (hd : ∀ st' r q, Sm st st' → Mg lt a b r → R (.done (some r, q)) st')
    (hn : ∀ st' out ja jb mg ac bc, Sm st st' → Lo lt a b out ja jb → ja + 1 < a.size → jb < b.size → n ≤ ja + jb → R (.done (none, out, ja, jb, mg, ac, bc)) st' ∧ R (.yield (none, out, ja, jb, mg, ac, bc)) st')
    (sm : Sm st st') (L : Lo lt a b out ja jb) (l1 : ja + 1 < a.size) (l2 : jb < b.size) (l3 : n ≤ ja + jb + 1) (hp : ∀ i, ja ≤ i → i < a.size → lt (at_ a i) (at_ b jb) = false) :
    wpS (model prog w) A E s (pj1 a b jb mg k bc out ja) R st' := by
  unfold pj1
  have L' := L.pushB l2 hV hp
  refine wpS_bind (w_elem l2 ?_)
  by_cases d1 : jb + 1 = b.size
  · rw [if_pos (by simpa using d1)]
    exact wpS_pure (hd _ _ _ sm (L'.done hU hV (by omega) (by omega) (.inl d1)))
  rw [if_neg (by simpa using d1)]
  refine wpS_bind (w_elem (by omega) (wpS_bind (w_gal hA O (hB.sm sm) (ma _ (by omega)) (by omega) (fun i hi => mb _ (by omega)) (by omega) (hV.sub (by omega) (by omega)) fun k1 g1 g2 g3 => ?_)))
  have b1 : ∀ j, jb + 1 ≤ j → j < jb + 1 + k1 → lt (at_ b j) (at_ a ja) = true := fun j j1 j2 => by
    have := g2 (j - (jb + 1)) (by omega)
    unfold bey at this
    rwa [if_pos rfl, show jb + 1 + (j - (jb + 1)) = j by omega] at this
  have b2 : ∀ j, jb + 1 + k1 ≤ j → j < b.size → lt (at_ b j) (at_ a ja) = false := fun j j1 j2 => by
    have := g3 (j - (jb + 1)) (by omega) (by omega)
    unfold bey at this
    rwa [if_pos rfl, show jb + 1 + (j - (jb + 1)) = j by omega] at this
  dsimp only
  by_cases hk : k1 > 0
  · rw [if_pos hk]
    have L2 := L'.appB hV k1 (by omega) (fun j j1 j2 i i1 i2 => O.tr _ _ _ (O.as _ _ (b1 j j1 j2)) (hU _ _ (by omega) i1 i2))
    by_cases d2 : jb + 1 + k1 = b.size
    · rw [if_pos (by simpa using d2)]
      exact wpS_pure (hd _ _ _ sm (L2.done hU hV (by omega) (by omega) (.inl d2)))
    rw [if_neg (by simpa using d2)]
    exact w_j2 hU hV h9 hd hn sm L2 l1 (by omega) (by omega) b2
  · rw [if_neg hk]
    exact w_j2 hU hV h9 hd hn sm L' l1 (by omega) (by omega) (fun i i1 i2 => b2 i (by omega) i2)
/-- where the first of the second run comes first, and the last of the first run last -/
theorem w_mgLo (hA : Ans prog w A s kd a₀ lt) (O : Ord lt) {st : SortSt} {a b : Array Kd} {Q : Array Kd → SortSt → Prop} (hB : SB kd a₀ st) (ha : 0 < a.size) (hb : 0 < b.size) (ma : ∀ i, i < a.size → at_ a i ∈ a₀) (mb : ∀ i, i < b.size → at_ b i ∈ a₀) (hU : Up lt a 0 a.size) (hV : Up lt b 0 b.size)
    (h0 : lt (at_ a 0) (at_ b 0) = false) (h9 : ∀ j, j < b.size → lt (at_ a (a.size - 1)) (at_ b j) = false)
    (h : ∀ r st', Mg lt a b r → Sm st st' → Q r st') : wpS (model prog w) A E s (mgLo a b) Q st := by
  have L0 := Lo.first O ha hb hU hV h0
  unfold mgLo
  refine wpS_bind (wpS_lift (wpAny_rule ⟨rfl, wpS_bind (w_elem hb ?_)⟩))
  dsimp only
  by_cases c1 : 1 = b.size
  · rw [if_pos (by simpa using c1)]
    exact wpS_pure (h _ _ (L0.done hU hV (by omega) (by omega) (.inl c1)) (Sm.refl _))
  rw [if_neg (by simpa using c1)]
  by_cases c2 : 0 + 1 = a.size
  · rw [if_pos (by simpa using c2)]
    exact wpS_pure (h _ _ (L0.last hU hV c2 (by omega) h9) (Sm.refl _))
  rw [if_neg (by simpa using c2)]
  refine wpS_bind (wpS_get (wpS_bind (wpS_mono (wpS_forRange (I := fun x c st' => Sm st st' ∧ ∃ out ia ib mg, c = (none, out, ia, ib, mg) ∧ Lo lt a b out ia ib ∧ ia + 1 < a.size ∧ ib < b.size ∧ x ≤ ia + ib) (Q := fun c st' => Sm st st' ∧ ∃ r q, c = (some r, q) ∧ Mg lt a b r) ?step ?fin ⟨Sm.refl _, _, _, _, _, rfl, L0, by omega, by omega, by omega⟩) ?post)))
  case post =>
    rintro c st' ⟨sm, r, q, rfl, g⟩
    exact wpS_pure (h r st' g sm)
  case fin =>
    rintro c st' ⟨sm, out, ia, ib, mg, rfl, L, l1, l2, l3⟩
    omega
  case step =>
    rintro x c st1 _ hx ⟨sm, out, ia, ib, mg, rfl, L, l1, l2, l3⟩
    dsimp only
    refine wpS_bind (wpS_mono (wpS_forRange (I := fun y c st' => st' = st1 ∧ ∃ out ia' ib' ac bc, c = (none, out, ia', ib', ac, bc) ∧ Lo lt a b out ia' ib' ∧ ia' + 1 < a.size ∧ ib' < b.size ∧ ia + ib + y ≤ ia' + ib') (Q := fun c st' => st' = st1 ∧ ((∃ r q, c = (some r, q) ∧ Mg lt a b r) ∨ ∃ out ia' ib' ac bc, c = (none, out, ia', ib', ac, bc) ∧ Lo lt a b out ia' ib' ∧ ia' + 1 < a.size ∧ ib' < b.size ∧ ia + ib + 1 ≤ ia' + ib')) ?s1 ?f1 ⟨rfl, _, _, _, _, _, rfl, L, l1, l2, by omega⟩) ?p1)
    case f1 =>
      rintro c st' ⟨rfl, out, ia', ib', ac, bc, rfl, L, l1, l2, l3⟩
      omega
    case s1 =>
      rintro y c st' _ hy ⟨rfl, out, ia', ib', ac, bc, rfl, L, l1, l2, l3⟩
      dsimp only
      refine wpS_bind (w_elem l2 (wpS_bind (w_elem (by omega) (wpS_bind (w_lt hA (hB.sm sm) (mb _ l2) (ma _ (by omega)) ?_)))))
      cases hl : lt (at_ b ib') (at_ a ia') with
      | true =>
        dsimp only
        rw [if_pos rfl]
        have L' := L.pushB l2 hV fun i i1 i2 => O.tr _ _ _ (O.as _ _ hl) (hU _ _ (by omega) i1 i2)
        refine wpS_bind (w_elem l2 ?_)
        by_cases d1 : ib' + 1 = b.size
        · rw [if_pos (by simpa using d1)]
          exact wpS_pure ⟨rfl, .inl ⟨_, _, rfl, L'.done hU hV (by omega) (by omega) (.inl d1)⟩⟩
        rw [if_neg (by simpa using d1)]
        split
        · exact wpS_pure ⟨rfl, .inr ⟨_, _, _, _, _, rfl, L', l1, by omega, by omega⟩⟩
        · exact wpS_pure ⟨rfl, _, _, _, _, _, rfl, L', l1, by omega, by omega⟩
      | false =>
        dsimp only
        rw [if_neg (by decide)]
        have L' := L.pushA (by omega) hU fun i i1 i2 => O.tr _ _ _ hl (hV _ _ (by omega) i1 i2)
        refine wpS_bind (w_elem (by omega) ?_)
        by_cases d1 : ia' + 1 + 1 = a.size
        · rw [if_pos (by simpa using d1)]
          exact wpS_pure ⟨rfl, .inl ⟨_, _, rfl, L'.last hU hV d1 (by omega) h9⟩⟩
        rw [if_neg (by simpa using d1)]
        split
        · exact wpS_pure ⟨rfl, .inr ⟨_, _, _, _, _, rfl, L', by omega, l2, by omega⟩⟩
        · exact wpS_pure ⟨rfl, _, _, _, _, _, rfl, L', by omega, l2, by omega⟩
    case p1 =>
      rintro c st' ⟨rfl, ⟨r, q, rfl, g⟩ | ⟨out, ia', ib', ac, bc, rfl, L, l1, l2, l3⟩⟩
      · exact wpS_pure ⟨sm, _, _, rfl, g⟩
      dsimp only
      refine wpS_bind (wpS_lift (wpAny_rule ⟨rfl, ?_⟩))
      refine wpS_bind (wpS_mono (wpS_forRange (I := fun y c st' => Sm st st' ∧ ∃ out ja jb mg ac bc, c = (none, out, ja, jb, mg, ac, bc) ∧ Lo lt a b out ja jb ∧ ja + 1 < a.size ∧ jb < b.size ∧ ia' + ib' + y ≤ ja + jb) (Q := fun c st' => Sm st st' ∧ ((∃ r q, c = (some r, q) ∧ Mg lt a b r) ∨ ∃ out ja jb mg ac bc, c = (none, out, ja, jb, mg, ac, bc) ∧ Lo lt a b out ja jb ∧ ja + 1 < a.size ∧ jb < b.size ∧ ia' + ib' + 1 ≤ ja + jb)) ?s2 ?f2 ⟨sm, _, _, _, _, _, _, rfl, L, l1, l2, by omega⟩) ?p2)
      case f2 =>
        rintro c st' ⟨sm, out, ja, jb, mg, ac, bc, rfl, L, l1, l2, l3⟩
        omega
      case s2 =>
        rintro y c st2 _ hy ⟨sm, out, ja, jb, mg, ac, bc, rfl, L, l1, l2, l3⟩
        have hd : ∀ st' r q, Sm st st' → Mg lt a b r → Sm st st' ∧ ((∃ r' q', ((some r, q) : Tl) = (some r', q') ∧ Mg lt a b r') ∨ ∃ out ja jb mg ac bc, ((some r, q) : Tl) = (none, out, ja, jb, mg, ac, bc) ∧ Lo lt a b out ja jb ∧ ja + 1 < a.size ∧ jb < b.size ∧ ia' + ib' + 1 ≤ ja + jb) := fun st' r q sm g => ⟨sm, .inl ⟨r, q, rfl, g⟩⟩
        dsimp only
        by_cases hm : mg > 1
        case' pos => rw [if_pos hm]
        case' neg => rw [if_neg hm]
        all_goals
          refine wpS_bind (wpS_modify ?_)
          refine (?_ : ∀ st', Sm st st' → wpS (model prog w) A E s _ _ st') _ (sm.trans ⟨rfl, rfl, rfl, rfl⟩)
          intro st' sm
          refine wpS_bind (w_elem l2 (wpS_bind (w_gal hA O (hB.sm sm) (mb _ l2) (by omega) (fun i hi => ma _ (by omega)) (by omega) (hU.sub (by omega) (by omega)) fun k g1 g2 g3 => ?_)))
          have b1 : ∀ j, ja ≤ j → j < ja + k → lt (at_ b jb) (at_ a j) = false := fun j j1 j2 => by
            have := g2 (j - ja) (by omega)
            unfold bey at this
            rw [if_neg (by decide), show ja + (j - ja) = j by omega] at this
            simpa using this
          have b2 : ∀ j, ja + k ≤ j → j < a.size → lt (at_ a j) (at_ b jb) = false := fun j j1 j2 => by
            have := g3 (j - ja) (by omega) (by omega)
            unfold bey at this
            rw [if_neg (by decide), show ja + (j - ja) = j by omega] at this
            exact O.as _ _ (by simpa using this)
          dsimp only
          by_cases hk : k > 0
          · rw [if_pos hk]
            have L2 := L.appA hU k (by omega) (fun j j1 j2 i i1 i2 => O.tr _ _ _ (b1 j j1 j2) (hV _ _ (by omega) i1 i2))
            by_cases d1 : ja + k + 1 = a.size
            · rw [if_pos (by simpa using d1)]
              exact wpS_pure (hd _ _ _ sm (L2.last hU hV d1 (by omega) h9))
            rw [if_neg (by simpa using d1)]
            by_cases d2 : ja + k = a.size
            · rw [if_pos (by simpa using d2)]
              exact wpS_pure (hd _ _ _ sm (L2.done hU hV (by omega) (by omega) (.inr d2)))
            rw [if_neg (by simpa using d2)]
            exact w_j1 hA O hB ma mb hU hV h9 hd (n := ia' + ib' + y + 1) (fun st' out ja jb mg ac bc sm L l1 l2 l3 => ⟨⟨sm, .inr ⟨_, _, _, _, _, _, rfl, L, l1, l2, by omega⟩⟩, sm, _, _, _, _, _, _, rfl, L, l1, l2, by omega⟩) sm L2 (by omega) l2 (by omega) b2
          · rw [if_neg hk]
            exact w_j1 hA O hB ma mb hU hV h9 hd (n := ia' + ib' + y + 1) (fun st' out ja jb mg ac bc sm L l1 l2 l3 => ⟨⟨sm, .inr ⟨_, _, _, _, _, _, rfl, L, l1, l2, by omega⟩⟩, sm, _, _, _, _, _, _, rfl, L, l1, l2, by omega⟩) sm L l1 l2 (by omega) (fun i i1 i2 => b2 i (by omega) i2)
      case p2 =>
        rintro c st' ⟨sm, ⟨r, q, rfl, g⟩ | ⟨out, ja, jb, mg, ac, bc, rfl, L, l1, l2, l3⟩⟩
        · exact wpS_pure ⟨sm, _, _, rfl, g⟩
        dsimp only
        exact wpS_bind (wpS_modify (wpS_pure ⟨sm.trans ⟨rfl, rfl, rfl, rfl⟩, _, _, _, _, rfl, L, l1, l2, by omega⟩))
end
end L2.Srt

set_option Elab.async false
set_option linter.all false
set_option maxRecDepth 100000
set_option maxHeartbeats 1000000
/-! sorting: merging from above -/
namespace L2.Srt
open PySem PyProof.Rows
def mgHi : Array Kd → Array Kd → StateT SortSt Sem (Array Kd) := sortPriv% PySem.Builtin.mergeHi
section
variable {lt : Kd → Kd → Bool} {a b : Array Kd}
/-- the upper part is out, the greatest first -/
structure Up2 (lt : Kd → Kd → Bool) (a b out : Array Kd) (na nb : Nat) : Prop where
  pm : out.toList.Perm (a.toList.drop na ++ b.toList.drop nb)
  so : out.toList.Pairwise fun x y => lt x y = false
  la : ∀ x ∈ out.toList, ∀ i, i < na → lt x (at_ a i) = false
  lb : ∀ x ∈ out.toList, ∀ i, i < nb → lt x (at_ b i) = false
theorem drop_more {c : Array Kd} {i : Nat} (h : i < c.size) : c.toList.drop i = at_ c i :: c.toList.drop (i + 1) := by
  have h' : i < c.toList.length := by simpa using h
  rw [List.drop_eq_getElem_cons h']
  congr 1
  unfold at_
  rw [Array.getElem?_eq_getElem h]
  simp
theorem Up2.pushA {out : Array Kd} {na nb : Nat} (L : Up2 lt a b out (na + 1) nb) (hi : na < a.size) (hU : Up lt a 0 a.size) (h : ∀ i, i < nb → lt (at_ a na) (at_ b i) = false) : Up2 lt a b (out.push (at_ a na)) na nb := by
  refine ⟨?_, ?_, fun x hx i h1 => ?_, fun x hx i h1 => ?_⟩
  · rw [Array.toList_push, drop_more hi]
    refine (L.pm.append_right _).trans ?_
    exact List.perm_append_comm
  · rw [Array.toList_push]
    refine List.pairwise_append.mpr ⟨L.so, List.pairwise_singleton _ _, fun x hx y hy => ?_⟩
    rw [List.mem_singleton.mp hy]
    exact L.la x hx na (by omega)
  · rw [Array.toList_push] at hx
    rcases List.mem_append.mp hx with hx | hx
    · exact L.la x hx i (by omega)
    · rw [List.mem_singleton.mp hx]; exact hU i na (by omega) (by omega) hi
  · rw [Array.toList_push] at hx
    rcases List.mem_append.mp hx with hx | hx
    · exact L.lb x hx i h1
    · rw [List.mem_singleton.mp hx]; exact h i h1
theorem Up2.swap {out : Array Kd} {na nb : Nat} (L : Up2 lt a b out na nb) : Up2 lt b a out nb na := ⟨L.pm.trans List.perm_append_comm, L.so, L.lb, L.la⟩
theorem Up2.pushB {out : Array Kd} {na nb : Nat} (L : Up2 lt a b out na (nb + 1)) (hi : nb < b.size) (hU : Up lt b 0 b.size) (h : ∀ i, i < na → lt (at_ b nb) (at_ a i) = false) : Up2 lt a b (out.push (at_ b nb)) na nb := (L.swap.pushA hi hU h).swap
theorem rev_more {c : Array Kd} {i k : Nat} (h : i + k < c.size) : (c.extract i (i + k + 1)).reverse = ((c.extract (i + 1) (i + k + 1)).reverse).push (at_ c i) := by
  apply Array.toList_inj.mp
  rw [Array.toList_push, Array.toList_reverse, Array.toList_reverse, Array.toList_extract, Array.toList_extract, List.extract_eq_take_drop, List.extract_eq_take_drop, drop_more (by omega), show i + k + 1 - i = k + 1 by omega, show i + k + 1 - (i + 1) = k by omega, List.take_succ_cons, List.reverse_cons]
theorem Up2.appA {nb : Nat} (hU : Up lt a 0 a.size) : ∀ (k : Nat) {out : Array Kd} {na : Nat}, Up2 lt a b out (na + k) nb → na + k ≤ a.size → (∀ j, na ≤ j → j < na + k → ∀ i, i < nb → lt (at_ a j) (at_ b i) = false) → Up2 lt a b (out ++ (a.extract na (na + k)).reverse) na nb
  | 0, out, na, L, _, _ => by
    have : out ++ (a.extract na (na + 0)).reverse = out := by simp; omega
    rw [this]; exact L
  | k + 1, out, na, L, h1, h2 => by
    have r := Up2.appA hU k (na := na + 1) (by rwa [show na + 1 + k = na + (k + 1) by omega]) (by omega) (fun j j1 j2 => h2 j (by omega) (by omega))
    have q := r.pushA (by omega) hU (h2 _ (by omega) (by omega))
    rw [← Array.append_push, show na + 1 + k = na + k + 1 by omega, ← rev_more (by omega)] at q
    exact q
theorem Up2.preA {out : Array Kd} {na nb : Nat} (L : Up2 lt a b out na nb) (h1 : 1 ≤ na) (hi : na ≤ a.size) (hU : Up lt a 0 a.size) (h : ∀ i, i < nb → lt (at_ a (na - 1)) (at_ b i) = false) : Up2 lt a b (out.push (at_ a (na - 1))) (na - 1) nb :=
  Up2.pushA (by rwa [show na - 1 + 1 = na by omega]) (by omega) hU h
theorem Up2.preB {out : Array Kd} {na nb : Nat} (L : Up2 lt a b out na nb) (h1 : 1 ≤ nb) (hi : nb ≤ b.size) (hV : Up lt b 0 b.size) (h : ∀ i, i < na → lt (at_ b (nb - 1)) (at_ a i) = false) : Up2 lt a b (out.push (at_ b (nb - 1))) na (nb - 1) := (L.swap.preA h1 hi hV h).swap
theorem Up2.runA {out : Array Kd} {na nb p : Nat} (L : Up2 lt a b out na nb) (hp : p ≤ na) (hi : na ≤ a.size) (hU : Up lt a 0 a.size) (h : ∀ j, p ≤ j → j < na → ∀ i, i < nb → lt (at_ a j) (at_ b i) = false) : Up2 lt a b (out ++ (a.extract p na).reverse) p nb := by
  have e : na = p + (na - p) := by omega
  rw [e] at L ⊢
  exact Up2.appA hU _ L (by omega) fun j j1 j2 => h j j1 (by omega)
theorem Up2.runB {out : Array Kd} {na nb p : Nat} (L : Up2 lt a b out na nb) (hp : p ≤ nb) (hi : nb ≤ b.size) (hV : Up lt b 0 b.size) (h : ∀ j, p ≤ j → j < nb → ∀ i, i < na → lt (at_ b j) (at_ a i) = false) : Up2 lt a b (out ++ (b.extract p nb).reverse) na p := (L.swap.runA hp hi hV h).swap
theorem mem_take {c : Array Kd} {n : Nat} {x : Kd} (h : x ∈ c.toList.take n) (hn : n ≤ c.size) : ∃ i, i < n ∧ x = at_ c i := by
  obtain ⟨i, hi, e⟩ := List.getElem_of_mem h
  rw [List.length_take] at hi
  have hi' : i < c.size := by simp at hi; omega
  refine ⟨i, by omega, ?_⟩
  unfold at_
  rw [Array.getElem?_eq_getElem hi', ← e]
  simp
theorem Up.ls {c : Array Kd} {n : Nat} (h : Up lt c 0 c.size) (hn : n ≤ c.size) : Ls lt (c.toList.take n) := by
  refine List.pairwise_iff_getElem.mpr fun i j hi hj hij => ?_
  rw [List.length_take] at hi hj
  have hi' : i < c.size := by simp at hi; omega
  have hj' : j < c.size := by simp at hj; omega
  have e := h i j (by omega) (by omega) hj'
  unfold at_ at e
  rw [Array.getElem?_eq_getElem hi', Array.getElem?_eq_getElem hj'] at e
  rw [List.getElem_take, List.getElem_take]
  simpa using e
theorem ext0 {c : Array Kd} {n : Nat} : (c.extract 0 n).toList = c.toList.take n := by
  rw [Array.toList_extract, List.extract_eq_take_drop, Nat.sub_zero, List.drop_zero]
theorem Up2.done {out : Array Kd} {na nb : Nat} (L : Up2 lt a b out na nb) (hU : Up lt a 0 a.size) (hV : Up lt b 0 b.size) (h1 : na ≤ a.size) (h2 : nb ≤ b.size) (h : ∀ i j, i < na → j < nb → lt (at_ b j) (at_ a i) = false) : Mg lt a b (a.extract 0 na ++ b.extract 0 nb ++ out.reverse) := by
  constructor
  · rw [Array.toList_append, Array.toList_append, Array.toList_reverse, ext0, ext0]
    refine (List.Perm.append_left _ ((List.reverse_perm _).trans L.pm)).trans ?_
    have e : a.toList ++ b.toList = (a.toList.take na ++ a.toList.drop na) ++ (b.toList.take nb ++ b.toList.drop nb) := by rw [List.take_append_drop, List.take_append_drop]
    rw [e, List.append_assoc, List.append_assoc]
    refine List.Perm.append_left _ ?_
    rw [← List.append_assoc, ← List.append_assoc]
    exact List.Perm.append_right _ List.perm_append_comm
  · rw [Array.toList_append, Array.toList_append, Array.toList_reverse, ext0, ext0]
    refine List.pairwise_append.mpr ⟨List.pairwise_append.mpr ⟨hU.ls h1, hV.ls h2, fun x hx y hy => ?_⟩, ?_, fun x hx y hy => ?_⟩
    · obtain ⟨i, i1, rfl⟩ := mem_take hx h1
      obtain ⟨j, j1, rfl⟩ := mem_take hy h2
      exact h i j i1 j1
    · rw [List.pairwise_reverse]; exact L.so
    · rw [List.mem_reverse] at hy
      rcases List.mem_append.mp hx with hx | hx
      · obtain ⟨i, i1, rfl⟩ := mem_take hx h1
        exact L.la y hy i i1
      · obtain ⟨j, j1, rfl⟩ := mem_take hx h2
        exact L.lb y hy j j1
theorem Mg.swap {r : Array Kd} (h : Mg lt a b r) : Mg lt b a r := ⟨h.pm.trans List.perm_append_comm, h.so⟩
theorem Up2.fst {out : Array Kd} {na nb : Nat} (L : Up2 lt a b out na nb) (hU : Up lt a 0 a.size) (hV : Up lt b 0 b.size) (h1 : na ≤ a.size) (h2 : nb = 1) (hb : 0 < b.size) (h : ∀ j, j < a.size → lt (at_ a j) (at_ b 0) = false) : Mg lt a b (b.extract 0 nb ++ a.extract 0 na ++ out.reverse) :=
  (L.swap.done hV hU (by omega) h1 fun i j i1 j1 => by rw [show i = 0 by omega]; exact h j (by omega)).swap
theorem Up2.first (O : Ord lt) (ha : 0 < a.size) (hb : 0 < b.size) (hU : Up lt a 0 a.size) (hV : Up lt b 0 b.size) (h : ∀ j, j < b.size → lt (at_ a (a.size - 1)) (at_ b j) = false) : Up2 lt a b #[at_ a (a.size - 1)] (a.size - 1) b.size := by
  have e : a.size - 1 + 1 = a.size := by omega
  have L : Up2 lt a b #[] (a.size - 1 + 1) b.size := ⟨by rw [e, show a.size = a.toList.length by simp, show b.size = b.toList.length by simp, List.drop_length, List.drop_length]; exact List.Perm.refl _, List.Pairwise.nil, (fun x hx => nomatch hx), (fun x hx => nomatch hx)⟩
  exact L.pushA (by omega) hU h
end
section
variable {prog : Program} {w : World} {A : Around} {E : Value → Shared → Prop} {s : Shared} {a₀ : Array Kd} {kd : SortKind} {lt : Kd → Kd → Bool}
abbrev Th := Option (Array Kd) × Nat × Nat × Array Kd × Nat × Nat × Nat
abbrev ph2 (a b : Array Kd) (ja mg k k1 : Nat) (out : Array Kd) (jb : Nat) : StateT SortSt Sem (ForInStep Th) := elem' a (ja - 1) >>= fun p => if (ja - 1 == 0) = true then pure (.done (some (a.extract 0 (ja - 1) ++ b.extract 0 jb ++ (out.push p).reverse), ja - 1, jb, out.push p, mg, k, k1)) else if (decide (k < 7) && decide (k1 < 7)) = true then pure (.done (none, ja - 1, jb, out.push p, mg, k, k1)) else pure (.yield (none, ja - 1, jb, out.push p, mg, k, k1))
abbrev ph1 (a b : Array Kd) (jb mg k bc : Nat) (out : Array Kd) (ja : Nat) : StateT SortSt Sem (ForInStep Th) := elem' b (jb - 1) >>= fun p => if (jb - 1 == 1) = true then pure (.done (some (b.extract 0 (jb - 1) ++ a.extract 0 ja ++ (out.push p).reverse), ja, jb - 1, out.push p, mg, k, bc)) else elem' a (ja - 1) >>= fun q => gal true q b 0 (jb - 1) (jb - 1 - 1) >>= fun r => match r with
  | some k1 => if jb - 1 - k1 > 0 then (if (k1 == 1) = true then pure (.done (some (b.extract 0 k1 ++ a.extract 0 ja ++ (out.push p ++ (b.extract k1 (jb - 1)).reverse).reverse), ja, k1, out.push p ++ (b.extract k1 (jb - 1)).reverse, mg, k, jb - 1 - k1)) else if (k1 == 0) = true then pure (.done (some (a.extract 0 ja ++ b.extract 0 k1 ++ (out.push p ++ (b.extract k1 (jb - 1)).reverse).reverse), ja, k1, out.push p ++ (b.extract k1 (jb - 1)).reverse, mg, k, jb - 1 - k1)) else ph2 a b ja mg k (jb - 1 - k1) (out.push p ++ (b.extract k1 (jb - 1)).reverse) k1) else ph2 a b ja mg k (jb - 1 - k1) (out.push p) (jb - 1)
  | _ => pure (.done (some (a.extract 0 ja ++ b.extract 0 (jb - 1) ++ (out.push p).reverse), ja, jb - 1, out.push p, mg, k, bc))
theorem w_h2 {st st' : SortSt} {a b out : Array Kd} {ja jb mg k k1 n y : Nat} {R : ForInStep Th → SortSt → Prop} (hU : Up lt a 0 a.size) (hV : Up lt b 0 b.size) (hd : ∀ st' r q, Sm st st' → Mg lt a b r → R (.done (some r, q)) st')
    (hn : ∀ st' ja jb out mg ac bc, Sm st st' → Up2 lt a b out ja jb → 1 ≤ ja → ja ≤ a.size → 2 ≤ jb → jb ≤ b.size → ja + jb + y + 1 ≤ n → R (.done (none, ja, jb, out, mg, ac, bc)) st' ∧ R (.yield (none, ja, jb, out, mg, ac, bc)) st')
    (sm : Sm st st') (L : Up2 lt a b out ja jb) (l1 : 1 ≤ ja) (l1' : ja ≤ a.size) (l2 : 2 ≤ jb) (l2' : jb ≤ b.size) (l3 : ja + jb + y ≤ n) (hp : ∀ i, i < jb → lt (at_ a (ja - 1)) (at_ b i) = false) :
    wpS (model prog w) A E s (ph2 a b ja mg k k1 out jb) R st' := by
  unfold ph2
  have L' := L.preA l1 l1' hU hp
  refine wpS_bind (w_elem (by omega) ?_)
  by_cases d1 : ja - 1 = 0
  · rw [if_pos (by simpa using d1)]
    exact wpS_pure (hd _ _ _ sm (L'.done hU hV (by omega) l2' (fun i j i1 j1 => by omega)))
  rw [if_neg (by simpa using d1)]
  split
  · exact wpS_pure (hn st' _ _ _ _ _ _ sm L' (by omega) (by omega) l2 l2' (by omega)).1
  · exact wpS_pure (hn st' _ _ _ _ _ _ sm L' (by omega) (by omega) l2 l2' (by omega)).2
theorem w_h1 (hA : Ans prog w A s kd a₀ lt) (O : Ord lt) {st st' : SortSt} {a b out : Array Kd} {ja jb mg k bc n y : Nat} {R : ForInStep Th → SortSt → Prop} (hB : SB kd a₀ st) (hb : 0 < b.size) (ma : ∀ i, i < a.size → at_ a i ∈ a₀) (mb : ∀ i, i < b.size → at_ b i ∈ a₀) (hU : Up lt a 0 a.size) (hV : Up lt b 0 b.size) (h0 : ∀ j, j < a.size → lt (at_ a j) (at_ b 0) = false) (hd : ∀ st' r q, Sm st st' → Mg lt a b r → R (.done (some r, q)) st')
    (hn : ∀ st' ja jb out mg ac bc, Sm st st' → Up2 lt a b out ja jb → 1 ≤ ja → ja ≤ a.size → 2 ≤ jb → jb ≤ b.size → ja + jb + y + 1 ≤ n → R (.done (none, ja, jb, out, mg, ac, bc)) st' ∧ R (.yield (none, ja, jb, out, mg, ac, bc)) st')
    (sm : Sm st st') (L : Up2 lt a b out ja jb) (l1 : 1 ≤ ja) (l1' : ja ≤ a.size) (l2 : 2 ≤ jb) (l2' : jb ≤ b.size) (l3 : ja + jb + y ≤ n) (hp : ∀ i, i < ja → lt (at_ b (jb - 1)) (at_ a i) = false) :
    wpS (model prog w) A E s (ph1 a b jb mg k bc out ja) R st' := by
  unfold ph1
  have L' := L.preB (by omega) l2' hV hp
  refine wpS_bind (w_elem (by omega) ?_)
  by_cases d1 : jb - 1 = 1
  · rw [if_pos (by simpa using d1)]
    exact wpS_pure (hd _ _ _ sm (L'.fst hU hV (by omega) d1 hb h0))
  rw [if_neg (by simpa using d1)]
  refine wpS_bind (w_elem (by omega) (wpS_bind (w_gal hA O (hB.sm sm) (ma _ (by omega)) (by omega) (fun i hi => mb _ (by omega)) (by omega) (hV.sub (by omega) (by omega)) fun k1 g1 g2 g3 => ?_)))
  have b1 : ∀ j, j < k1 → lt (at_ b j) (at_ a (ja - 1)) = true := fun j j1 => by
    have := g2 j j1
    unfold bey at this
    rwa [if_pos rfl, Nat.zero_add] at this
  have b2 : ∀ j, k1 ≤ j → j < jb - 1 → lt (at_ b j) (at_ a (ja - 1)) = false := fun j j1 j2 => by
    have := g3 j j1 j2
    unfold bey at this
    rwa [if_pos rfl, Nat.zero_add] at this
  dsimp only
  by_cases hk : jb - 1 - k1 > 0
  · rw [if_pos hk]
    have L2 := L'.runB g1 (by omega) hV (fun j j1 j2 i i1 => O.tr _ _ _ (hU i (ja - 1) (by omega) (by omega) (by omega)) (b2 j j1 j2))
    by_cases d2 : k1 = 1
    · rw [if_pos (by simpa using d2)]
      exact wpS_pure (hd _ _ _ sm (L2.fst hU hV (by omega) d2 hb h0))
    rw [if_neg (by simpa using d2)]
    by_cases d3 : k1 = 0
    · rw [if_pos (by simpa using d3)]
      exact wpS_pure (hd _ _ _ sm (L2.done hU hV (by omega) (by omega) (fun i j i1 j1 => by omega)))
    rw [if_neg (by simpa using d3)]
    exact w_h2 hU hV hd hn sm L2 l1 l1' (by omega) (by omega) (by omega) (fun i i1 => O.as _ _ (b1 i i1))
  · rw [if_neg hk]
    exact w_h2 hU hV hd hn sm L' l1 l1' (by omega) (by omega) (by omega) (fun i i1 => O.as _ _ (b1 i (by omega)))
theorem w_mgHi (hA : Ans prog w A s kd a₀ lt) (O : Ord lt) {st : SortSt} {a b : Array Kd} {Q : Array Kd → SortSt → Prop} (hB : SB kd a₀ st) (ha : 0 < a.size) (hb : 0 < b.size) (ma : ∀ i, i < a.size → at_ a i ∈ a₀) (mb : ∀ i, i < b.size → at_ b i ∈ a₀) (hU : Up lt a 0 a.size) (hV : Up lt b 0 b.size)
    (h0 : ∀ j, j < a.size → lt (at_ a j) (at_ b 0) = false) (h9 : ∀ j, j < b.size → lt (at_ a (a.size - 1)) (at_ b j) = false)
    (h : ∀ r st', Mg lt a b r → Sm st st' → Q r st') : wpS (model prog w) A E s (mgHi a b) Q st := by
  have L0 := Up2.first O ha hb hU hV h9
  unfold mgHi
  refine wpS_bind (wpS_lift (wpAny_rule ⟨rfl, wpS_bind (w_elem (by omega) ?_)⟩))
  dsimp only
  by_cases c1 : a.size - 1 = 0
  · rw [if_pos (by simpa using c1)]
    exact wpS_pure (h _ _ (L0.done hU hV (by omega) (by omega) (fun i j i1 j1 => by omega)) (Sm.refl _))
  rw [if_neg (by simpa using c1)]
  by_cases c2 : b.size = 1
  · rw [if_pos (by simpa using c2)]
    exact wpS_pure (h _ _ (L0.fst hU hV (by omega) c2 hb h0) (Sm.refl _))
  rw [if_neg (by simpa using c2)]
  refine wpS_bind (wpS_get (wpS_bind (wpS_mono (wpS_forRange (I := fun x c st' => Sm st st' ∧ ∃ na nb out mg, c = (none, na, nb, out, mg) ∧ Up2 lt a b out na nb ∧ 1 ≤ na ∧ na ≤ a.size ∧ 2 ≤ nb ∧ nb ≤ b.size ∧ na + nb + x ≤ a.size + b.size) (Q := fun c st' => Sm st st' ∧ ∃ r q, c = (some r, q) ∧ Mg lt a b r) ?step ?fin ⟨Sm.refl _, _, _, _, _, rfl, L0, by omega, by omega, by omega, by omega, by omega⟩) ?post)))
  case post =>
    rintro c st' ⟨sm, r, q, rfl, g⟩
    exact wpS_pure (h r st' g sm)
  case fin =>
    rintro c st' ⟨sm, na, nb, out, mg, rfl, L, l1, l1', l2, l2', l3⟩
    omega
  case step =>
    rintro x c st1 _ hx ⟨sm, na, nb, out, mg, rfl, L, l1, l1', l2, l2', l3⟩
    refine wpS_bind (wpS_mono (wpS_forRange (I := fun y c st' => st' = st1 ∧ ∃ ma nc out ac bc, c = (none, ma, nc, out, ac, bc) ∧ Up2 lt a b out ma nc ∧ 1 ≤ ma ∧ ma ≤ a.size ∧ 2 ≤ nc ∧ nc ≤ b.size ∧ ma + nc + y ≤ na + nb) (Q := fun c st' => st' = st1 ∧ ((∃ r q, c = (some r, q) ∧ Mg lt a b r) ∨ ∃ ma nc out ac bc, c = (none, ma, nc, out, ac, bc) ∧ Up2 lt a b out ma nc ∧ 1 ≤ ma ∧ ma ≤ a.size ∧ 2 ≤ nc ∧ nc ≤ b.size ∧ ma + nc + 1 ≤ na + nb)) ?s1 ?f1 ⟨rfl, _, _, _, _, _, rfl, L, l1, l1', l2, l2', by dsimp only; omega⟩) ?p1)
    case f1 =>
      rintro c st' ⟨rfl, na', nb', out, ac, bc, rfl, L, l1, l1', l2, l2', l3⟩
      omega
    case s1 =>
      rintro y c st' _ hy ⟨rfl, na', nb', out, ac, bc, rfl, L, l1, l1', l2, l2', l3⟩
      dsimp only
      refine wpS_bind (w_elem (by omega) (wpS_bind (w_elem (by omega) (wpS_bind (w_lt hA (hB.sm sm) (mb _ (by omega)) (ma _ (by omega)) ?_)))))
      cases hl : lt (at_ b (nb' - 1)) (at_ a (na' - 1)) with
      | true =>
        dsimp only
        rw [if_pos rfl]
        have L' := L.preA l1 l1' hU fun i i1 => O.tr _ _ _ (hV i (nb' - 1) (by omega) (by omega) (by omega)) (O.as _ _ hl)
        refine wpS_bind (w_elem (by omega) ?_)
        by_cases d1 : na' - 1 = 0
        · rw [if_pos (by simpa using d1)]
          exact wpS_pure ⟨rfl, .inl ⟨_, _, rfl, L'.done hU hV (by omega) (by omega) (fun i j i1 j1 => by omega)⟩⟩
        rw [if_neg (by simpa using d1)]
        split
        · exact wpS_pure ⟨rfl, .inr ⟨_, _, _, _, _, rfl, L', by omega, by omega, l2, l2', by omega⟩⟩
        · exact wpS_pure ⟨rfl, _, _, _, _, _, rfl, L', by omega, by omega, l2, l2', by omega⟩
      | false =>
        dsimp only
        rw [if_neg (by decide)]
        have L' := L.preB (by omega) l2' hV fun i i1 => O.tr _ _ _ (hU i (na' - 1) (by omega) (by omega) (by omega)) hl
        refine wpS_bind (w_elem (by omega) ?_)
        by_cases d1 : nb' - 1 = 1
        · rw [if_pos (by simpa using d1)]
          exact wpS_pure ⟨rfl, .inl ⟨_, _, rfl, L'.fst hU hV (by omega) d1 hb h0⟩⟩
        rw [if_neg (by simpa using d1)]
        split
        · exact wpS_pure ⟨rfl, .inr ⟨_, _, _, _, _, rfl, L', l1, l1', by omega, by omega, by omega⟩⟩
        · exact wpS_pure ⟨rfl, _, _, _, _, _, rfl, L', l1, l1', by omega, by omega, by omega⟩
    case p1 =>
      rintro c st' ⟨rfl, ⟨r, q, rfl, g⟩ | ⟨na', nb', out, ac, bc, rfl, L, l1, l1', l2, l2', l4⟩⟩
      · exact wpS_pure ⟨sm, _, _, rfl, g⟩
      dsimp only
      refine wpS_bind (wpS_lift (wpAny_rule ⟨rfl, ?_⟩))
      refine wpS_bind (wpS_mono (wpS_forRange (I := fun y c st' => Sm st st' ∧ ∃ ja jb out mg ac bc, c = (none, ja, jb, out, mg, ac, bc) ∧ Up2 lt a b out ja jb ∧ 1 ≤ ja ∧ ja ≤ a.size ∧ 2 ≤ jb ∧ jb ≤ b.size ∧ ja + jb + y ≤ na' + nb') (Q := fun c st' => Sm st st' ∧ ((∃ r q, c = (some r, q) ∧ Mg lt a b r) ∨ ∃ ja jb out mg ac bc, c = (none, ja, jb, out, mg, ac, bc) ∧ Up2 lt a b out ja jb ∧ 1 ≤ ja ∧ ja ≤ a.size ∧ 2 ≤ jb ∧ jb ≤ b.size ∧ ja + jb + 1 ≤ na' + nb')) ?s2 ?f2 ⟨sm, _, _, _, _, _, _, rfl, L, l1, l1', l2, l2', by omega⟩) ?p2)
      case f2 =>
        rintro c st' ⟨sm, ja, jb, out, mg, ac, bc, rfl, L, l1, l1', l2, l2', l3⟩
        omega
      case s2 =>
        rintro y c st2 _ hy ⟨sm, ja, jb, out, mg, ac, bc, rfl, L, l1, l1', l2, l2', l3⟩
        have hd : ∀ st' r q, Sm st st' → Mg lt a b r → Sm st st' ∧ ((∃ r' q', ((some r, q) : Th) = (some r', q') ∧ Mg lt a b r') ∨ ∃ ja jb out mg ac bc, ((some r, q) : Th) = (none, ja, jb, out, mg, ac, bc) ∧ Up2 lt a b out ja jb ∧ 1 ≤ ja ∧ ja ≤ a.size ∧ 2 ≤ jb ∧ jb ≤ b.size ∧ ja + jb + 1 ≤ na' + nb') := fun st' r q sm g => ⟨sm, .inl ⟨r, q, rfl, g⟩⟩
        dsimp only
        by_cases hm : mg > 1
        case' pos => rw [if_pos hm]
        case' neg => rw [if_neg hm]
        all_goals
          refine wpS_bind (wpS_modify ?_)
          refine (?_ : ∀ st', Sm st st' → wpS (model prog w) A E s _ _ st') _ (sm.trans ⟨rfl, rfl, rfl, rfl⟩)
          intro st' sm
          refine wpS_bind (w_elem (by omega) (wpS_bind (w_gal hA O (hB.sm sm) (mb _ (by omega)) (by omega) (fun i hi => ma _ (by omega)) (by omega) (hU.sub (by omega) (by omega)) fun k g1 g2 g3 => ?_)))
          have b1 : ∀ j, j < k → lt (at_ b (jb - 1)) (at_ a j) = false := fun j j1 => by
            have := g2 j j1
            unfold bey at this
            rw [if_neg (by decide), Nat.zero_add] at this
            simpa using this
          have b2 : ∀ j, k ≤ j → j < ja → lt (at_ b (jb - 1)) (at_ a j) = true := fun j j1 j2 => by
            have := g3 j j1 j2
            unfold bey at this
            rw [if_neg (by decide), Nat.zero_add] at this
            simpa using this
          dsimp only
          by_cases hk : ja - k > 0
          · rw [if_pos hk]
            have L2 := L.runA g1 l1' hU (fun j j1 j2 i i1 => O.tr _ _ _ (hV i (jb - 1) (by omega) (by omega) (by omega)) (O.as _ _ (b2 j j1 j2)))
            by_cases d1 : k = 0
            · rw [if_pos (by simpa using d1)]
              exact wpS_pure (hd _ _ _ sm (L2.done hU hV (by omega) (by omega) (fun i j i1 j1 => by omega)))
            rw [if_neg (by simpa using d1)]
            exact w_h1 hA O hB hb ma mb hU hV h0 hd (n := na' + nb') (y := y) (fun st' ja jb out mg ac bc sm L l1 l1' l2 l2' l3 => ⟨⟨sm, .inr ⟨_, _, _, _, _, _, rfl, L, l1, l1', l2, l2', by omega⟩⟩, sm, _, _, _, _, _, _, rfl, L, l1, l1', l2, l2', by omega⟩) sm L2 (by omega) (by omega) l2 l2' (by omega) b1
          · rw [if_neg hk]
            have ek : k = ja := by omega
            exact w_h1 hA O hB hb ma mb hU hV h0 hd (n := na' + nb') (y := y) (fun st' ja jb out mg ac bc sm L l1 l1' l2 l2' l3 => ⟨⟨sm, .inr ⟨_, _, _, _, _, _, rfl, L, l1, l1', l2, l2', by omega⟩⟩, sm, _, _, _, _, _, _, rfl, L, l1, l1', l2, l2', by omega⟩) sm L (by omega) (by omega) l2 l2' (by omega) (fun j j1 => b1 j (by omega))
      case p2 =>
        rintro c st' ⟨sm, ⟨r, q, rfl, g⟩ | ⟨ja, jb, out, mg, ac, bc, rfl, L, l1, l1', l2, l2', l3⟩⟩
        · exact wpS_pure ⟨sm, _, _, rfl, g⟩
        dsimp only
        exact wpS_bind (wpS_modify (wpS_pure ⟨sm.trans ⟨rfl, rfl, rfl, rfl⟩, _, _, _, _, rfl, L, l1, l1', l2, l2', by omega⟩))
end
end L2.Srt

set_option Elab.async false
set_option linter.all false
set_option maxRecDepth 100000
set_option maxHeartbeats 1000000
/-! sorting: two runs beside one another -/
namespace L2.Srt
open PySem PyProof.Rows
section
variable {lt : Kd → Kd → Bool} {a b : Array Kd}
/-- written over from n on -/
abbrev wr (a : Array Kd) (n : Nat) (l : List Kd) (m : Nat) : Array Kd := (l.zipIdx m).foldl (fun a (x : Kd × Nat) => a.setIfInBounds (n + x.2) x.1) a
theorem wr_size {n : Nat} : ∀ (l : List Kd) (m : Nat) (a : Array Kd), (wr a n l m).size = a.size
  | [], _, _ => rfl
  | x :: l, m, a => by
    show (wr (a.setIfInBounds (n + m) x) n l (m + 1)).size = _
    rw [wr_size l]; simp
theorem wr_at {n : Nat} : ∀ (l : List Kd) (m : Nat) (a : Array Kd), n + m + l.length ≤ a.size → ∀ k, at_ (wr a n l m) k = if n + m ≤ k ∧ k < n + m + l.length then (l[k - (n + m)]?).getD (.none, .none) else at_ a k
  | [], m, a, _, k => by rw [if_neg (by rw [List.length_nil]; omega)]; rfl
  | x :: l, m, a, h, k => by
    rw [List.length_cons] at h
    show at_ (wr (a.setIfInBounds (n + m) x) n l (m + 1)) k = _
    rw [wr_at l (m + 1) _ (by simp; omega) k, List.length_cons]
    by_cases c : n + (m + 1) ≤ k ∧ k < n + (m + 1) + l.length
    · rw [if_pos c, if_pos (by omega), show k - (n + m) = k - (n + (m + 1)) + 1 by omega, List.getElem?_cons_succ]
    · rw [if_neg c]
      by_cases c2 : k = n + m
      · rw [if_pos (by omega)]
        subst c2
        unfold at_
        rw [Array.getElem?_setIfInBounds_self_of_lt (by omega)]
        simp
      · rw [if_neg (by omega)]
        unfold at_
        rw [Array.getElem?_setIfInBounds_ne (by omega)]
theorem wr_perm {n : Nat} {l : List Kd} (h : n + l.length ≤ a.size) (hp : l.Perm ((a.toList.drop n).take l.length)) : (wr a n l 0).Perm a := by
  rw [Array.perm_iff_toList_perm]
  have e : (wr a n l 0).toList = a.toList.take n ++ (l ++ a.toList.drop (n + l.length)) := by
    apply List.ext_getElem
    · simp [wr_size]; omega
    · intro i h1 h2
      have h1' : i < a.size := by simpa [wr_size] using h1
      have w := wr_at l 0 a (by omega) i
      have e1 : (wr a n l 0).toList[i] = at_ (wr a n l 0) i := by unfold at_; rw [Array.getElem?_eq_getElem (by rw [wr_size]; exact h1')]; simp
      have e2 : ∀ j (hj : j < a.size), a.toList[j]'(by simpa using hj) = at_ a j := fun j hj => by unfold at_; rw [Array.getElem?_eq_getElem hj]; simp
      rw [e1, w]
      by_cases c1 : i < n
      · rw [if_neg (by omega), List.getElem_append_left (by simp; omega), List.getElem_take, e2 i h1']
      · rw [List.getElem_append_right (by simp; omega)]
        have el : (a.toList.take n).length = n := by simp; omega
        by_cases c2 : i < n + l.length
        · rw [if_pos (by omega), List.getElem_append_left (by rw [el]; omega)]
          have : i - (n + 0) < l.length := by omega
          rw [List.getElem?_eq_getElem this]
          simp only [el, Option.getD_some, Nat.add_zero]
        · rw [if_neg (by omega), List.getElem_append_right (by rw [el]; omega), List.getElem_drop, ← e2 i h1']
          congr 1
          rw [el]; omega
  rw [e]
  have e3 : a.toList = a.toList.take n ++ ((a.toList.drop n).take l.length ++ a.toList.drop (n + l.length)) := by
    rw [← List.drop_drop, List.take_append_drop, List.take_append_drop]
  refine List.Perm.trans ?_ (List.Perm.of_eq e3.symm)
  exact List.Perm.append_left _ (List.Perm.append_right _ hp)
theorem at_ext {p q i : Nat} (h : p + i < q) (hq : q ≤ a.size) : at_ (a.extract p q) i = at_ a (p + i) := by
  apply at_congr
  rw [Array.getElem?_extract, if_pos (by omega)]
theorem ls_at {l : List Kd} (h : Ls lt l) {i j : Nat} (hij : i ≤ j) (hj : j < l.length) (O : Ord lt) : lt ((l[j]?).getD (.none, .none)) ((l[i]?).getD (.none, .none)) = false := by
  rw [List.getElem?_eq_getElem hj, List.getElem?_eq_getElem (by omega)]
  by_cases e : i = j
  · subst e; exact O.rf _
  · exact List.pairwise_iff_getElem.mp h i j (by omega) hj (by omega)
end
section
variable {prog : Program} {w : World} {A : Around} {E : Value → Shared → Prop} {s : Shared} {a₀ : Array Kd} {kd : SortKind} {lt : Kd → Kd → Bool}
theorem w_set {σ α : Type} {M : Model} {st st' : σ} {Q : PUnit → σ → Prop} (h : Q ⟨⟩ st') : wpS M A E s (set st' : StateT σ Sem PUnit) Q st := by
  unfold wpS
  rw [StateT.run_set]
  exact wpAny_pure ⟨rfl, h⟩
theorem w_mergeAt (hA : Ans prog w A s kd a₀ lt) (O : Ord lt) {st : SortSt} {i sa na pw nb pb : Nat} {Q : Bool → SortSt → Prop} (hB : SB kd a₀ st) (p1 : (pendingOf st)[i]? = some (sa, na, pw)) (p2 : (pendingOf st)[i + 1]? = some (sa + na, nb, pb)) (ha : 1 ≤ na) (hb : 1 ≤ nb) (hz : sa + na + nb ≤ a₀.size) (hU : Up lt (arrOf st) sa (sa + na)) (hV : Up lt (arrOf st) (sa + na) (sa + na + nb))
    (h : ∀ st', SB kd a₀ st' → pendingOf st' = ((pendingOf st).setIfInBounds i (sa, na + nb, pw)).eraseIdxIfInBounds (i + 1) → Up lt (arrOf st') sa (sa + na + nb) → Out (arrOf st) (arrOf st') sa (sa + na + nb) → Q true st') : wpS (model prog w) A E s (mergeAt' i) Q st := by
  unfold mergeAt'
  refine wpS_bind (wpS_get ?_)
  have hsz := hB.size
  rw [show (pendingOf st)[i]? = _ from p1, show (pendingOf st)[i + 1]? = _ from p2]
  dsimp only
  refine wpS_bind (w_set (α := Unit) ?_)
  refine (?_ : ∀ st1, SB kd a₀ st1 → arrOf st1 = arrOf st → pendingOf st1 = ((pendingOf st).setIfInBounds i (sa, na + nb, pw)).eraseIdxIfInBounds (i + 1) → wpS (model prog w) A E s _ Q st1) _ ⟨hB.perm, hB.kind, hB.failed⟩ rfl rfl
  intro st1 hB1 ea ep
  refine wpS_bind (w_elem (a := arrOf st) (by omega) (wpS_bind (w_gal (arr := arrOf st) hA O hB1 (hB.mem (by omega)) (by omega) (fun j hj => hB.mem (by omega)) (by omega) hU fun k g1 g2 g3 => ?_)))
  have b1 : ∀ j, sa ≤ j → j < sa + k → lt (at_ (arrOf st) (sa + na)) (at_ (arrOf st) j) = false := fun j j1 j2 => by
    have := g2 (j - sa) (by omega)
    unfold bey at this
    rw [if_neg (by decide), show sa + (j - sa) = j by omega] at this
    simpa using this
  have b2 : ∀ j, sa + k ≤ j → j < sa + na → lt (at_ (arrOf st) j) (at_ (arrOf st) (sa + na)) = false := fun j j1 j2 => by
    have := g3 (j - sa) (by omega) (by omega)
    unfold bey at this
    rw [if_neg (by decide), show sa + (j - sa) = j by omega] at this
    exact O.as _ _ (by simpa using this)
  have F1 : ∀ p t, sa ≤ p → p < sa + k → sa + k ≤ t → t < sa + na + nb → lt (at_ (arrOf st) t) (at_ (arrOf st) p) = false := fun p t p1 p2 t1 t2 => by
    by_cases c : t < sa + na
    · exact hU p t p1 (by omega) c
    · exact O.tr _ _ _ (b1 p p1 p2) (hV _ t (Nat.le_refl _) (by omega) t2)
  dsimp only
  by_cases c1 : na - k = 0
  · rw [if_pos (by simpa using c1)]
    refine wpS_pure (h st1 hB1 ep ?_ (by rw [ea]; exact Out.refl))
    rw [ea]
    intro p q h1 h2 h3
    by_cases d1 : q < sa + na
    · exact hU p q h1 h2 d1
    · by_cases d2 : p < sa + na
      · exact F1 p q h1 (by omega) (by omega) h3
      · exact hV p q (by omega) h2 h3
  rw [if_neg (by simpa using c1)]
  refine wpS_bind (w_elem (a := arrOf st) (by omega) (wpS_bind (w_gal (arr := arrOf st) hA O hB1 (hB.mem (by omega)) (by omega) (fun j hj => hB.mem (by omega)) (by omega) hV fun n1 e1 e2 e3 => ?_)))
  rw [show sa + k + (na - k) - 1 = sa + na - 1 by omega] at e2 e3
  have b3 : ∀ j, sa + na ≤ j → j < sa + na + n1 → lt (at_ (arrOf st) j) (at_ (arrOf st) (sa + na - 1)) = true := fun j j1 j2 => by
    have := e2 (j - (sa + na)) (by omega)
    unfold bey at this
    rwa [if_pos rfl, show sa + na + (j - (sa + na)) = j by omega] at this
  have b4 : ∀ j, sa + na + n1 ≤ j → j < sa + na + nb → lt (at_ (arrOf st) j) (at_ (arrOf st) (sa + na - 1)) = false := fun j j1 j2 => by
    have := e3 (j - (sa + na)) (by omega) (by omega)
    unfold bey at this
    rwa [if_pos rfl, show sa + na + (j - (sa + na)) = j by omega] at this
  have F2 : ∀ t q, sa + k ≤ t → t < sa + na + n1 → sa + na + n1 ≤ q → q < sa + na + nb → lt (at_ (arrOf st) q) (at_ (arrOf st) t) = false := fun t q t1 t2 q1 q2 => by
    by_cases c : t < sa + na
    · exact O.tr _ _ _ (hU t (sa + na - 1) (by omega) (by omega) (by omega)) (b4 q q1 q2)
    · exact hV t q (by omega) (by omega) q2
  dsimp only
  by_cases c2 : n1 = 0
  · rw [if_pos (by simpa using c2)]
    refine wpS_pure (h st1 hB1 ep ?_ (by rw [ea]; exact Out.refl))
    rw [ea]
    intro p q h1 h2 h3
    by_cases d0 : p < sa + k
    · by_cases d1 : q < sa + k
      · exact hU p q h1 h2 (by omega)
      · exact F1 p q h1 d0 (by omega) h3
    · by_cases d1 : q < sa + na
      · exact hU p q h1 h2 d1
      · by_cases d2 : p < sa + na
        · exact F2 p q (by omega) (by omega) (by omega) h3
        · exact hV p q (by omega) h2 h3
  rw [if_neg (by simpa using c2)]
  -- what comes behind the merge
  have sx : ((arrOf st).extract (sa + k) (sa + na)).size = na - k := by rw [Array.size_extract]; omega
  have sy : ((arrOf st).extract (sa + na) (sa + na + n1)).size = n1 := by rw [Array.size_extract]; omega
  have exy : ((arrOf st).extract (sa + k) (sa + na)).toList ++ ((arrOf st).extract (sa + na) (sa + na + n1)).toList = ((arrOf st).toList.drop (sa + k)).take (na - k + n1) := by
    rw [Array.toList_extract, Array.toList_extract, List.extract_eq_take_drop, List.extract_eq_take_drop, List.take_add, List.drop_drop, show sa + na - (sa + k) = na - k by omega, show sa + na + n1 - (sa + na) = n1 by omega, show sa + k + (na - k) = sa + na by omega]
  have fin : ∀ (m : Array Kd) (st2 : SortSt), Mg lt ((arrOf st).extract (sa + k) (sa + na)) ((arrOf st).extract (sa + na) (sa + na + n1)) m → Sm st1 st2 → Q true (setArr st2 (wr (arrOf st2) (sa + k) m.toList 0)) := fun m st2 g sm => by
    have ea2 : arrOf st2 = arrOf st := sm.ar.trans ea
    have hm := g.pm
    rw [exy] at hm
    have hl : m.toList.length = na - k + n1 := by rw [hm.length_eq, List.length_take, List.length_drop]; simp; omega
    have me : ∀ i, i < m.toList.length → ∃ t, sa + k ≤ t ∧ t < sa + na + n1 ∧ (m.toList[i]?).getD (.none, .none) = at_ (arrOf st) t := fun i hi => by
      have : (m.toList[i]?).getD (.none, .none) ∈ m.toList := by rw [List.getElem?_eq_getElem hi]; exact List.getElem_mem hi
      have q := hm.mem_iff.mp this
      obtain ⟨j, hj, e⟩ := List.getElem_of_mem q
      rw [List.length_take, List.length_drop] at hj
      have hj' : j < na - k + n1 := by omega
      refine ⟨sa + k + j, by omega, by omega, ?_⟩
      rw [← e]
      unfold at_
      rw [Array.getElem?_eq_getElem (by omega)]
      simp
    have at' := wr_at m.toList 0 (arrOf st) (n := sa + k) (by omega)
    refine h _ ?_ (sm.pe.trans ep) ?_ ?_
    · refine (hB1.sm sm).set ?_
      rw [ea2]
      exact wr_perm (by omega) (by rw [hl]; exact hm)
    · show Up lt (wr (arrOf st2) (sa + k) m.toList 0) _ _
      rw [ea2]
      intro p q h1 h2 h3
      rw [at' p, at' q]
      by_cases d1 : p < sa + k
      · rw [if_neg (by omega) (c := sa + k + 0 ≤ p ∧ p < sa + k + 0 + m.toList.length)]
        by_cases d2 : sa + k + 0 ≤ q ∧ q < sa + k + 0 + m.toList.length
        · rw [if_pos d2]
          obtain ⟨t, t1, t2, et⟩ := me (q - (sa + k + 0)) (by omega)
          rw [et]
          exact F1 p t h1 d1 t1 (by omega)
        · rw [if_neg d2]
          by_cases d3 : q < sa + k
          · exact hU p q h1 h2 (by omega)
          · exact F1 p q h1 d1 (by omega) h3
      · by_cases d4 : p < sa + na + n1
        · rw [if_pos (by omega) (c := sa + k + 0 ≤ p ∧ p < sa + k + 0 + m.toList.length)]
          by_cases d2 : q < sa + na + n1
          · rw [if_pos (by omega)]
            exact ls_at g.so (by omega) (by omega) O
          · rw [if_neg (by omega)]
            obtain ⟨t, t1, t2, et⟩ := me (p - (sa + k + 0)) (by omega)
            rw [et]
            exact F2 t q t1 t2 (by omega) h3
        · rw [if_neg (by omega), if_neg (by omega)]
          exact hV p q (by omega) h2 h3
    · show Out (arrOf st) (wr (arrOf st2) (sa + k) m.toList 0) _ _
      rw [ea2]
      intro j hj
      rw [at' j, if_neg (by omega)]
  have mx : ∀ j, j < ((arrOf st).extract (sa + k) (sa + na)).size → at_ ((arrOf st).extract (sa + k) (sa + na)) j = at_ (arrOf st) (sa + k + j) := fun j hj => at_ext (by omega) (by omega)
  have my : ∀ j, j < ((arrOf st).extract (sa + na) (sa + na + n1)).size → at_ ((arrOf st).extract (sa + na) (sa + na + n1)) j = at_ (arrOf st) (sa + na + j) := fun j hj => at_ext (by omega) (by omega)
  have ux : Up lt ((arrOf st).extract (sa + k) (sa + na)) 0 ((arrOf st).extract (sa + k) (sa + na)).size := fun p q h1 h2 h3 => by rw [mx p (by omega), mx q h3]; exact hU _ _ (by omega) (by omega) (by omega)
  have uy : Up lt ((arrOf st).extract (sa + na) (sa + na + n1)) 0 ((arrOf st).extract (sa + na) (sa + na + n1)).size := fun p q h1 h2 h3 => by rw [my p (by omega), my q h3]; exact hV _ _ (by omega) (by omega) (by omega)
  have z0 : ∀ j, j < ((arrOf st).extract (sa + k) (sa + na)).size → lt (at_ ((arrOf st).extract (sa + k) (sa + na)) j) (at_ ((arrOf st).extract (sa + na) (sa + na + n1)) 0) = false := fun j hj => by rw [mx j hj, my 0 (by omega)]; exact b2 _ (by omega) (by omega)
  have z9 : ∀ j, j < ((arrOf st).extract (sa + na) (sa + na + n1)).size → lt (at_ ((arrOf st).extract (sa + k) (sa + na)) (((arrOf st).extract (sa + k) (sa + na)).size - 1)) (at_ ((arrOf st).extract (sa + na) (sa + na + n1)) j) = false := fun j hj => by
    rw [mx _ (by omega), my j hj, sx, show sa + k + (na - k - 1) = sa + na - 1 by omega]
    exact O.as _ _ (b3 _ (by omega) (by omega))
  have fa : ∀ st2, Sm st1 st2 → ∀ (m : Array Kd), (failedOf (setArr st2 (wr (arrOf st2) (sa + k) m.toList 0))).isNone = true := fun st2 sm m => by
    show (failedOf st2).isNone = true
    rw [sm.fa, hB1.failed]; rfl
  split
  · refine wpS_bind (w_mgLo (a := (arrOf st).extract (sa + k) (sa + na)) (b := (arrOf st).extract (sa + na) (sa + na + n1)) hA O hB1 (by omega) (by omega) (fun j hj => by rw [mx j hj]; exact hB.mem (by omega)) (fun j hj => by rw [my j hj]; exact hB.mem (by omega)) ux uy (z0 0 (by omega)) z9 fun m st2 g sm => ?_)
    refine wpS_bind (wpS_modify (wpS_bind (wpS_get (wpS_pure ?_))))
    have q := fin m st2 g sm
    rw [← fa st2 sm m] at q
    exact q
  · refine wpS_bind (w_mgHi (a := (arrOf st).extract (sa + k) (sa + na)) (b := (arrOf st).extract (sa + na) (sa + na + n1)) hA O hB1 (by omega) (by omega) (fun j hj => by rw [mx j hj]; exact hB.mem (by omega)) (fun j hj => by rw [my j hj]; exact hB.mem (by omega)) ux uy z0 z9 fun m st2 g sm => ?_)
    refine wpS_bind (wpS_modify (wpS_bind (wpS_get (wpS_pure ?_))))
    have q := fin m st2 g sm
    rw [← fa st2 sm m] at q
    exact q
end
end L2.Srt

set_option Elab.async false
set_option linter.all false
set_option maxRecDepth 100000
set_option maxHeartbeats 1000000
/-! sorting: all runs -/
namespace L2.Srt
open PySem PyProof.Rows
abbrev Rn := Nat × Nat × Nat
section
variable {lt : Kd → Kd → Bool} {a b : Array Kd}
/-- runs, one behind the other, from s to e -/
def Ch (lt : Kd → Kd → Bool) (a : Array Kd) : Nat → List Rn → Nat → Prop
  | s, [], e => s = e
  | s, (p, n, _) :: r, e => p = s ∧ 1 ≤ n ∧ Up lt a s (s + n) ∧ Ch lt a (s + n) r e
theorem Ch.len : ∀ {l : List Rn} {s e : Nat}, Ch lt a s l e → s + l.length ≤ e
  | [], s, e, h => by cases h; exact Nat.le_refl _
  | (p, n, _) :: r, s, e, h => by
    have := Ch.len h.2.2.2
    have h1 := h.2.1
    rw [List.length_cons]
    omega
theorem Ch.out {i j : Nat} (o : Out a b i j) : ∀ {l : List Rn} {s e : Nat}, Ch lt a s l e → (e ≤ i ∨ j ≤ s) → Ch lt b s l e
  | [], s, e, h, _ => h
  | (p, n, _) :: r, s, e, h, c => by
    have := Ch.len h.2.2.2
    exact ⟨h.1, h.2.1, h.2.2.1.out o (by omega), Ch.out o h.2.2.2 (by omega)⟩
theorem Ch.app : ∀ {l1 l2 : List Rn} {s m e : Nat}, Ch lt a s l1 m → Ch lt a m l2 e → Ch lt a s (l1 ++ l2) e
  | [], _, _, _, _, h1, h2 => by cases h1; exact h2
  | (_, _, _) :: _, _, _, _, _, h1, h2 => ⟨h1.1, h1.2.1, h1.2.2.1, Ch.app h1.2.2.2 h2⟩
theorem Ch.cut : ∀ {l1 l2 : List Rn} {s e : Nat}, Ch lt a s (l1 ++ l2) e → ∃ m, Ch lt a s l1 m ∧ Ch lt a m l2 e
  | [], _, s, _, h => ⟨s, rfl, h⟩
  | (_, n, _) :: _, _, s, _, h => by
    obtain ⟨m, h1, h2⟩ := Ch.cut h.2.2.2
    exact ⟨m, ⟨h.1, h.2.1, h.2.2.1, h1⟩, h2⟩
theorem Ch.pow {pw : Nat} : ∀ {l : List Rn} {s e : Nat}, Ch lt a s l e → ∀ k, Ch lt a s (l.modify k fun (x : Rn) => (x.1, x.2.1, pw)) e
  | [], _, _, h, _ => by simpa using h
  | (p, n, q) :: r, s, e, h, 0 => by
    rw [List.modify_zero_cons]
    exact h
  | (p, n, q) :: r, s, e, h, k + 1 => by
    rw [List.modify_succ_cons]
    exact ⟨h.1, h.2.1, h.2.2.1, Ch.pow h.2.2.2 k⟩
theorem two_at {α : Type} : ∀ {l : List α} {i : Nat} {x y : α}, l[i]? = some x → l[i + 1]? = some y → ∃ l1 l2, l = l1 ++ x :: y :: l2 ∧ l1.length = i
  | [], _, _, _, h, _ => by simp at h
  | a :: l, 0, x, y, h1, h2 => by
    cases l with
    | nil => simp at h2
    | cons b l => simp at h1 h2; subst h1; subst h2; exact ⟨[], l, rfl, rfl⟩
  | a :: l, i + 1, x, y, h1, h2 => by
    obtain ⟨l1, l2, e, el⟩ := two_at (l := l) (i := i) (by simpa using h1) (by simpa using h2)
    exact ⟨a :: l1, l2, by rw [e]; rfl, by rw [List.length_cons, el]⟩
theorem two_set {α : Type} {l1 l2 : List α} {x y z : α} : ((l1 ++ x :: y :: l2).set l1.length z).eraseIdx (l1.length + 1) = l1 ++ z :: l2 := by
  induction l1 with
  | nil => rfl
  | cons a l ih => simpa using ih
end
section
variable {prog : Program} {w : World} {A : Around} {E : Value → Shared → Prop} {s : Shared} {a₀ : Array Kd} {kd : SortKind} {lt : Kd → Kd → Bool}
/-- two neighbours of the chain are put together -/
theorem w_mergeCh (hA : Ans prog w A s kd a₀ lt) (O : Ord lt) {st : SortSt} {i e : Nat} {Q : Bool → SortSt → Prop} (hB : SB kd a₀ st) (hi : i + 1 < (pendingOf st).size) (hC : Ch lt (arrOf st) 0 (pendingOf st).toList e) (he : e ≤ a₀.size)
    (h : ∀ st', SB kd a₀ st' → Ch lt (arrOf st') 0 (pendingOf st').toList e → (pendingOf st').size + 1 = (pendingOf st).size → Out (arrOf st) (arrOf st') 0 e → Q true st') : wpS (model prog w) A E s (mergeAt' i) Q st := by
  obtain ⟨⟨sa, na, pw⟩, p1⟩ : ∃ x, (pendingOf st).toList[i]? = some x := ⟨_, List.getElem?_eq_getElem (by simp; omega)⟩
  obtain ⟨⟨sb, nb, pb⟩, p2⟩ : ∃ x, (pendingOf st).toList[i + 1]? = some x := ⟨_, List.getElem?_eq_getElem (by simp; omega)⟩
  obtain ⟨l1, l2, el, ei⟩ := two_at p1 p2
  rw [el] at hC
  obtain ⟨m, h1, h2⟩ := Ch.cut hC
  obtain ⟨rfl, na1, ua, rfl, nb1, ub, h3⟩ := h2
  have le := Ch.len h3
  have l0 := Ch.len h1
  refine w_mergeAt hA O hB (by simpa using p1) (by simpa using p2) na1 nb1 (by omega) ua ub fun st' b' e' u' o' => h st' b' ?_ ?_ (o'.wide (by omega) (by omega))
  · rw [e']
    have : (((pendingOf st).setIfInBounds i (sa, na + nb, pw)).eraseIdxIfInBounds (i + 1)).toList = l1 ++ (sa, na + nb, pw) :: l2 := by
      rw [Array.toList_eraseIdxIfInBounds, Array.toList_setIfInBounds, el, ← ei]
      exact two_set
    rw [this]
    refine (Ch.out o' h1 (.inl (by omega))).app ⟨rfl, by omega, by rw [← Nat.add_assoc]; exact u', ?_⟩
    rw [← Nat.add_assoc]
    exact Ch.out o' h3 (.inr (by omega))
  · rw [e', ← Array.length_toList, Array.toList_eraseIdxIfInBounds, Array.toList_setIfInBounds, List.length_eraseIdx, if_pos (by simp; omega), List.length_set, Array.length_toList]
    omega
theorem w_sort (hA : Ans prog w A s kd a₀ lt) (O : Ord lt) {st : SortSt} {Q : Unit → SortSt → Prop} (hB : SB kd a₀ st) (hp : pendingOf st = #[])
    (h : ∀ st', SB kd a₀ st' → Up lt (arrOf st') 0 a₀.size → Q () st') : wpS (model prog w) A E s sortRuns' Q st := by
  rw [sortRuns'_eq]
  refine wpS_bind (wpS_get ?_)
  have hsz := hB.size
  rw [hsz]
  dsimp only
  refine wpS_bind (wpS_mono (wpS_forRange (I := fun x c st' => ∃ lo, c = (none, lo) ∧ SB kd a₀ st' ∧ lo ≤ a₀.size ∧ x ≤ lo ∧ Ch lt (arrOf st') 0 (pendingOf st').toList lo) (Q := fun c st' => c = (none, a₀.size) ∧ SB kd a₀ st' ∧ Ch lt (arrOf st') 0 (pendingOf st').toList a₀.size) ?step ?fin ⟨0, rfl, hB, by omega, by omega, by rw [hp]; rfl⟩) ?post)
  case fin =>
    rintro c st' ⟨lo, rfl, b, l1, l2, ch⟩
    have : lo = a₀.size := by omega
    subst this
    exact ⟨rfl, b, ch⟩
  case step =>
    rintro x c st' _ hx ⟨lo, rfl, b, l1, l2, ch⟩
    dsimp only
    by_cases c1 : lo ≥ a₀.size
    · rw [if_pos c1]
      have : lo = a₀.size := by omega
      subst this
      exact wpS_pure ⟨rfl, b, ch⟩
    rw [if_neg c1]
    refine wpS_bind (w_run hA O (by omega) (by omega) b fun n xs b1 n1 n2 u o => ?_)
    dsimp only
    have ch1 : Ch lt xs 0 (pendingOf (setArr st' xs)).toList lo := Ch.out o ch (.inl (Nat.le_refl _))
    -- what comes behind: a run of m from lo on
    have go : ∀ (st1 : SortSt) (m : Nat), SB kd a₀ st1 → 1 ≤ m → lo + m ≤ a₀.size → Up lt (arrOf st1) lo (lo + m) → Ch lt (arrOf st1) 0 (pendingOf st1).toList lo → ∃ lo', (none, lo + m) = ((none, lo') : Option Unit × Nat) ∧ SB kd a₀ (setPending st1 ((pendingOf st1).push (lo, m, 0))) ∧ lo' ≤ a₀.size ∧ x + 1 ≤ lo' ∧ Ch lt (arrOf st1) 0 ((pendingOf st1).push (lo, m, 0)).toList lo' := fun st1 m b m1 m2 u ch => by
      refine ⟨lo + m, rfl, ⟨b.perm, b.kind, b.failed⟩, m2, by omega, ?_⟩
      rw [Array.toList_push]
      exact ch.app ⟨rfl, m1, u, rfl⟩
    by_cases cm : n < minRun' a₀.size a₀.size 0
    case' pos =>
      rw [if_pos cm]
      refine wpS_bind (wpS_lift (wpAny_rule ⟨rfl, ?_⟩))
      generalize hm : min (a₀.size - lo) (minRun' a₀.size a₀.size 0) = m
      have m1 : 1 ≤ m := by omega
      have m2 : lo + m ≤ a₀.size := by omega
      refine wpS_bind (w_bin hA O m2 (by omega) b1 u fun ys b2 u2 o2 => ?_)
      rw [if_neg (by decide)]
      refine (?_ : ∀ st1, SB kd a₀ st1 → Up lt (arrOf st1) lo (lo + m) → Ch lt (arrOf st1) 0 (pendingOf st1).toList lo → wpS (model prog w) A E s _ _ st1) _ b2 u2 (Ch.out o2 ch1 (.inl (Nat.le_refl _)))
      intro st1 b3 u3 ch3
    case' neg =>
      rw [if_neg cm]
      revert n
      intro m m1 m2' u2 cm
      have m2 : lo + m ≤ a₀.size := by omega
      refine (?_ : ∀ st1, SB kd a₀ st1 → Up lt (arrOf st1) lo (lo + m) → Ch lt (arrOf st1) 0 (pendingOf st1).toList lo → wpS (model prog w) A E s _ _ st1) _ b1 u2 ch1
      intro st1 b3 u3 ch3
    all_goals
      refine wpS_bind (wpS_get ?_)
      cases hb : (pendingOf st1).back? with
      | none =>
        dsimp only
        exact wpS_bind (wpS_modify (wpS_pure (go st1 m b3 m1 m2 u3 ch3)))
      | some q =>
        obtain ⟨s1, n1, z1⟩ := q
        dsimp only
        refine wpS_bind (wpS_mono (wpS_forRange (I := fun _ c st2 => c = (none, ()) ∧ SB kd a₀ st2 ∧ Up lt (arrOf st2) lo (lo + m) ∧ Ch lt (arrOf st2) 0 (pendingOf st2).toList lo) (Q := fun c st2 => c = (none, ()) ∧ SB kd a₀ st2 ∧ Up lt (arrOf st2) lo (lo + m) ∧ Ch lt (arrOf st2) 0 (pendingOf st2).toList lo) ?_ (fun _ _ z => z) ⟨rfl, b3, u3, ch3⟩) ?_)
        · rintro y c st2 _ _ ⟨rfl, b4, u4, ch4⟩
          refine wpS_bind (wpS_get ?_)
          split
          · split
            · exact wpS_pure ⟨rfl, b4, u4, ch4⟩
            · rename_i hsome _
              have h2 : (pendingOf st2).size > 1 := by
                by_cases c : (pendingOf st2).size > 1
                · exact c
                · rw [if_neg c] at hsome; cases hsome
              refine wpS_bind (w_mergeCh hA O b4 (by omega) ch4 l1 fun st5 b5 ch5 _ o5 => ?_)
              exact wpS_pure ⟨rfl, b5, u4.out o5 (.inr (Nat.le_refl _)), ch5⟩
          · exact wpS_pure ⟨rfl, b4, u4, ch4⟩
        · rintro c st2 ⟨rfl, b4, u4, ch4⟩
          dsimp only
          refine wpS_bind (wpS_modify (wpS_bind (wpS_modify (wpS_pure (go (setPending st2 ((pendingOf st2).modify ((pendingOf st2).size - 1) fun x => (x.1, x.2.1, _))) m ⟨b4.perm, b4.kind, b4.failed⟩ m1 m2 u4 ?_)))))
          rw [Array.toList_modify]
          exact ch4.pow _
  case post =>
    rintro c st' ⟨rfl, b, ch⟩
    dsimp only
    have l := Ch.len ch
    refine wpS_bind (wpS_mono (wpS_forRange (I := fun x c st' => c = (none, ()) ∧ SB kd a₀ st' ∧ Ch lt (arrOf st') 0 (pendingOf st').toList a₀.size ∧ ((pendingOf st').size ≤ 1 ∨ (pendingOf st').size + x ≤ a₀.size)) (Q := fun c st' => c = (none, ()) ∧ SB kd a₀ st' ∧ Ch lt (arrOf st') 0 (pendingOf st').toList a₀.size ∧ (pendingOf st').size ≤ 1) ?_ ?_ ⟨rfl, b, ch, .inr (by rw [Array.length_toList] at l; omega)⟩) ?_)
    · rintro x c st2 _ hx ⟨rfl, b2, ch2, hor⟩
      refine wpS_bind (wpS_get ?_)
      by_cases c1 : (pendingOf st2).size ≤ 1
      · rw [if_pos c1]
        exact wpS_pure ⟨rfl, b2, ch2, c1⟩
      rw [if_neg c1]
      refine wpS_bind (w_mergeCh hA O b2 ?_ ch2 (Nat.le_refl _) fun st5 b5 ch5 e5 _ => wpS_pure ⟨rfl, b5, ch5, ?_⟩)
      · split <;> split <;> omega
      · omega
    · rintro c st2 ⟨rfl, b2, ch2, hor⟩
      refine ⟨rfl, b2, ch2, ?_⟩
      rw [show max 0 a₀.size = a₀.size by omega] at hor
      omega
    · rintro c st2 ⟨rfl, b2, ch2, h1⟩
      refine wpS_pure (h st2 b2 ?_)
      match hl : (pendingOf st2).toList, ch2 with
      | [], c => intro p q q1 q2 q3; have e : 0 = a₀.size := c; omega
      | [(p, n, q)], c =>
        obtain ⟨rfl, _, u, e⟩ := c
        have e' : 0 + n = a₀.size := e
        rw [← e']; exact u
      | _ :: _ :: _, _ => 
        have := congrArg List.length hl
        simp at this
        omega
end
end L2.Srt

set_option Elab.async false
set_option linter.all false
set_option maxRecDepth 100000
set_option maxHeartbeats 1000000
/-! lists of ints: before and behind one another -/
namespace L2.Srt
open PySem PyProof.Rows
open PySem.SeqAt
open PySem.AutoSeq1 (wpAny_loadPart')
open PySem.MeetsSeq PySem.MeetsSeq2 PySem.MeetsSeq3
theorem IntsAre.at_ {vs : List Value} {ns : List Int} (h : IntsAre vs ns) : ∀ {i : Nat} {n : Int}, ns[i]? = some n → ∃ t, vs[i]? = some (.int n t) := by
  induction h with
  | nil => intro i n e; simp at e
  | cons m t h ih =>
    intro i n e
    cases i with
    | zero => simp at e; subst e; exact ⟨t, rfl⟩
    | succ i => simpa using ih (i := i) (by simpa using e)
section
variable {prog : Program} {w : World} {A : Around} {E : Value → Shared → Prop} {s : Shared}
end
end L2.Srt

set_option Elab.async false
set_option linter.all false
set_option maxRecDepth 100000
set_option maxHeartbeats 1000000
/-! sorted with a key of the text's own, whose answers are lists of ints -/
namespace L2.Srt
open PySem PySem.Spec PyProof.Rows L2
/-! ### lists that go together -/
theorem paired_perm {α β : Type} {R : α → β → Prop} : ∀ {l l' : List α}, l'.Perm l → ∀ {m : List β}, Paired R l m → ∃ m', m'.Perm m ∧ Paired R l' m' := by
  intro l l' h
  induction h with
  | nil => intro m p; exact ⟨m, .refl _, p⟩
  | cons x h ih =>
    intro m p
    cases p with
    | cons r t =>
      obtain ⟨m', q1, q2⟩ := ih t
      exact ⟨_ :: m', .cons _ q1, .cons r q2⟩
  | swap x y l =>
    intro m p
    cases p with
    | cons r t =>
      cases t with
      | cons r2 t2 => exact ⟨_ :: _ :: _, .swap _ _ _, .cons r2 (.cons r t2)⟩
  | trans h1 h2 ih1 ih2 =>
    intro m p
    obtain ⟨m1, q1, p1⟩ := ih2 p
    obtain ⟨m2, q2, p2⟩ := ih1 p1
    exact ⟨m2, q2.trans q1, p2⟩
theorem paired_mem {α β : Type} {R : α → β → Prop} : ∀ {l : List α} {m : List β}, Paired R l m → ∀ {x}, x ∈ l → ∃ y ∈ m, R x y
  | _, _, .nil, _, h => by simp at h
  | _, _, .cons r t, x, h => by
    rcases List.mem_cons.mp h with rfl | h
    · exact ⟨_, List.mem_cons_self, r⟩
    · obtain ⟨y, h1, h2⟩ := paired_mem t h
      exact ⟨y, List.mem_cons_of_mem _ h1, h2⟩
theorem paired_mem2 {α β : Type} {R : α → β → Prop} : ∀ {l : List α} {m : List β}, Paired R l m → ∀ {y}, y ∈ m → ∃ x ∈ l, R x y
  | _, _, .nil, _, h => by simp at h
  | _, _, .cons r t, x, h => by
    rcases List.mem_cons.mp h with rfl | h
    · exact ⟨_, List.mem_cons_self, r⟩
    · obtain ⟨y, h1, h2⟩ := paired_mem2 t h
      exact ⟨y, List.mem_cons_of_mem _ h1, h2⟩
theorem paired_pw {α β : Type} {R : α → β → Prop} {S : α → α → Prop} {T : β → β → Prop} (hh : ∀ a b c d, R a c → R b d → S a b → T c d) : ∀ {l : List α} {m : List β}, Paired R l m → l.Pairwise S → m.Pairwise T
  | _, _, .nil, _ => .nil
  | _, _, .cons r t, h => by
    cases h with
    | cons h1 h2 =>
      refine .cons (fun y hy => ?_) (paired_pw hh t h2)
      obtain ⟨x, hx, rx⟩ := paired_mem2 t hy
      exact hh _ _ _ _ r rx (h1 x hx)
section
variable {X : Cx} {pins : List (Addr × Obj)} {σ : St} {H : Hp} {s : Shared}
/-- a list whose record is known -/
theorem pin_new {a : Addr} {o : Obj} {h' : Heap} {t' : Nat} (I : Inv X pins σ H s) (k : ∀ b u, s.heap.get? b = some u → h'.get? b = some u) (hp : s.heap.objs.size ≤ a) (g : h'.get? a = some o) : Inv X pins σ (upd H a (PinO a o)) { s with heap := h', toks := t' } :=
  I.laid k hp ⟨g, ⟨_, g⟩, fun h1 h2 q k => k _ q⟩
theorem pin_lst {a : Addr} {its : List Value} {vs : List V} {n : Nat} (I : Inv X pins σ H s) (e : H a = some (PinO a (seqObj "list" its.toArray n))) (hv : Vals vs its) (hz : vs.length ≤ sizeLine) : Inv X pins σ (upd H a (.lst vs)) s :=
  I.write (x := a) (e := a) (h' := s.heap) (t' := s.toks) (by rw [e]; trivial) (.inl rfl) (fun b u _ q => q) ⟨_, I.pinO e⟩ ⟨hz, its, n, hv, I.pinO e⟩
/-- the ints behind a key -/
def kInts (H : Hp) : Value → List Int
  | .ref k => match H k with | some (.lst vs) => (vs.filterMap fun v => match v with | .int i => some i | _ => none) | _ => []
  | _ => []
/-- what is known of the keys that stand in the store -/
structure KAt (X : Cx) (pins : List (Addr × Obj)) (σ : St) (F H : Hp) (L T : Addr) (oL : Obj) (kf : PyData → List Int) (ds : List PyData) (i : Nat) (F' H' : Hp) (ks : List Addr) (n : Nat) (s' : Shared) : Prop where
  inv : Inv X pins σ H' s'
  gr : Gr F H F' H'
  hL : H' L = some (PinO L oL)
  hT : H' T = some (PinO T (seqObj "list" (ks.map Value.ref).toArray n))
  fL : F' L = Option.none
  fT : F' T = Option.none
  len : ks.length = i
  key : ∀ (j : Nat) k d, ks[j]? = some k → ds[j]? = some d → H' k = some (.lst ((kf d).map V.int)) ∧ F' k = Option.none
end
section
variable {X : Cx} {pins : List (Addr × Obj)} {σ : St} {F H : Hp} {L T : Addr} {oL : Obj} {kf : PyData → List Int} {ds : List PyData} {k : Nat} {f : Addr} {fd : FuncData} {par : Str} {φ : Phi}
end
end L2.Srt

set_option Elab.async false
set_option linter.all false
set_option maxRecDepth 100000
set_option maxHeartbeats 1000000
namespace L2.Srt
open PySem PySem.Spec PyProof.Rows L2
section
variable {X : Cx} {pins : List (Addr × Obj)} {σ : St} {F H : Hp} {L T : Addr} {kf : PyData → List Int} {ds : List PyData} {xs : List V} {us : List Value} {e1 k : Nat} {f : Addr} {fd : FuncData} {par : Str} {φ : Phi}
/-- a pair of the sort, and what it stands for -/
def KR (X : Cx) (F' H' : Hp) (kf : PyData → List Int) (p : Kd) (q : V × PyData) : Prop := ∃ a, p.1 = .ref a ∧ H' a = some (.lst ((kf q.2).map V.int)) ∧ RelV q.1 p.2 ∧ Rp X.w X.K F' q.1 q.2
end
end L2.Srt

set_option Elab.async false
set_option linter.all false
set_option maxRecDepth 100000
set_option maxHeartbeats 1000000
/-! sorted(xs, key = f), f a def of the text that tells a list of ints -/
namespace L2
open PySem PySem.Spec PyProof.Rows
section
variable {X : Cx} {pos p p2 kp : Pos} {e : Expr} {k : Nat} {y par : Str} {φ : Phi}
def tSortK (X : Cx) (φ : Phi) (t : TA) : TE := fun σ H Q => t σ H fun vs H1 => ∃ (p : Addr) (F : Hp) (xs : List V) (ds : List PyData) (kf : PyData → List Int), vs = [.ref p] ∧ Same F H1 ∧ SqL X.K H1 p xs ∧ Rps X.w X.K F xs ds ∧ (∀ d ∈ ds, ∀ R Z, R (.own (.lst ((kf d).map PyData.int))) → φ [d] R Z) ∧
  ∀ F' H' l vs ys, Gr F H1 F' H' → H1 l = Option.none → H' l = some (.lst vs) → F' l = Option.none → Rps X.w X.K F' vs ys → ys.Perm ds → ys.Pairwise (fun a b => HT.lexLt (kf b) (kf a) = false) → Q (.ref l) H'
def zSortK (φ : Phi) (τ : TauA) : TauO := fun ev C => τ ev fun ds ev' => ∃ (xs : List PyData) (kf : PyData → List Int), ds = [.list xs] ∧ (∀ d ∈ xs, ∀ R Z, R (.own (.lst ((kf d).map PyData.int))) → φ [d] R Z) ∧ ∀ ys, ys.Perm xs → ys.Pairwise (fun a b => HT.lexLt (kf b) (kf a) = false) → C (.lst ys) ev'
def rhGtL : Rho2 := fun a b C => ∃ ns ms : List Int, a = .list (ns.map .int) ∧ b = .list (ms.map .int) ∧ C (.bool (HT.lexLt ms ns))
end
end L2

set_option Elab.async false
set_option linter.all false
set_option maxRecDepth 100000
set_option maxHeartbeats 1000000
/-! texts: in, index, upper, cuts -/
namespace L2
open PySem PySem.Spec PyProof.Rows
section
variable {X : Cx} {pos : Pos} {o e : Expr} {apos : Pos} {τ υ : TauE}
/-- a text in a text -/
def rhInT : Rho2 := fun a b C => ∃ x y : Str, a = .str x ∧ b = .str y ∧ C (.bool (!(Builtin.Str.occurrences y x 0 y.length 1).isEmpty))
def zUpper (τ : TauE) : TauE := fun ev C => τ ev fun d ev' => ∃ z : Str, d = .str z ∧ Builtin.Str.tooLong (Txt.upper z).length = false ∧ C (.str (Txt.upper z)) ev'
def zIndex (τ : TauE) (υ : TauA) : TauE := fun ev C => τ ev fun d ev' => ∃ z : Str, d = .str z ∧ υ ev' fun ds ev2 => ∃ (y : Str) (i : Nat) (rest : List Nat), ds = [.str y] ∧ Builtin.Str.occurrences z y 0 z.length 1 = i :: rest ∧ C (.int i) ev2
def zSlS (τ : TauE) (τl τh : TauP) : TauE := fun ev C => τ ev fun d ev1 => τl ev1 fun l ev2 => τh ev2 fun u ev3 => match d with
  | .str z => z.length ≤ sizeLine ∧ C (.str (Txt.slice z l u)) ev3 | _ => False
end
end L2

set_option Elab.async false
set_option linter.all false
set_option maxRecDepth 100000
set_option maxHeartbeats 1000000
/-! a walk over a text; x.extend(e) -/
namespace L2
open PySem PySem.Spec PyProof.Rows
def chr1 (c : Nat) : Str := ⟨#[c]⟩
def Itx (x : Str) : It := ⟨fun i _ => i < x.length, fun i H v H' => H' = H ∧ ∃ c, x.cps[i]? = some c ∧ v = .str (chr1 c), fun i _ => x.length ≤ i⟩
section
variable {X : Cx} {tg : Expr}
def iStr (tl : TE) : TI := fun σ H R => tl σ H fun x H1 => ∃ z : Str, x = .str z ∧ z.cps.all (· < 128) = true ∧ R (Itx z) H1
end
def chrsD (z : Str) : List PyData := z.cps.toList.map fun c => .str (chr1 c)
section
variable {X : Cx} {elt tg iter : Expr} {ifs : List Expr} {scope : Scope} {pos : Pos} {cn fr : List Str} {js S : List Nat} {γ : TauG} {τt : TauT} {τe : TauE}
def zCompS (τ : TauE) (cn : Nat) (js : List Nat) (γ : TauG) (τt : TauT) (τe : TauE) : TauO := fun ev C => τ ev fun d ev1 => match d with | .str z => z.cps.all (· < 128) = true ∧ CompD (chrsD z) cn (outY js (frzAll js ev1)) γ τt τe (fun acc => C (.lst acc) (frzAll js ev1)) | _ => False
end
section
variable {X : Cx} {pos : Pos}
/-- x.extend(e), e a new list -/
def zExt (i : Nat) (τ : TauO) : TauS := fun P ev => (∃ ds, ev[i]? = some (.own (.lst ds))) ∧ τ ev fun m ev' => match m, ev'[i]? with | .lst ys, some (.own (.lst ds)) => ds.length + ys.length ≤ sizeLine ∧ P.nx (ev'.set i (.own (.lst (ds ++ ys)))) | _, _ => False
end
end L2

set_option Elab.async false
set_option linter.all false
set_option maxRecDepth 100000
set_option maxHeartbeats 1000000
/-! xs[::-1] -/
namespace L2
open PySem PySem.Spec PyProof.Rows
section
variable {X : Cx} {pos p2 : Pos} {e st : Expr} {te ts : TE}
def tRevL (K : PySem.W.Frag) (te ts : TE) : TE := fun σ H Q => te σ H fun x H1 => ts σ H1 fun y H2 => ∃ a xs, x = .ref a ∧ y = .int (-1) ∧ SqL K H2 a xs ∧ ∀ p, H2 p = none → Q (.ref p) (upd H2 p (.lst xs.reverse))
def zRevL (τ υ : TauE) : TauO := fun ev C => τ ev fun d ev1 => υ ev1 fun i ev2 => i = .int (-1) ∧ match d with | .list ds => C (.lst ds.reverse) ev2 | _ => False
/-! ### constants of a module -/
end
end L2

set_option Elab.async false
set_option linter.all false
set_option maxRecDepth 100000
set_option maxHeartbeats 1000000
/-! a comprehension whose block changes one list that a name around it owns -/
namespace L2
open PySem PySem.Spec PyProof.Rows
def hole (H : Hp) (P : Addr) : Hp := fun b => if b = P then Option.none else H b
theorem hole_ne {H : Hp} {P b : Addr} (h : b ≠ P) : hole H P b = H b := if_neg h
theorem hole_some {H : Hp} {P b : Addr} {o : HO} (h : hole H P b = some o) : b ≠ P ∧ H b = some o := by
  unfold hole at h; split at h
  · cases h
  · rename_i n; exact ⟨n, h⟩
theorem Un.hole {fs ex : List Addr} {H H' : Hp} {h h' : Heap} {P : Addr} (u : Un fs ex H H' h h') : Un fs (P :: ex) (hole H P) H' h h' where
  keep := fun b o q n hb hx => u.keep b o q (by rw [hole_ne (fun z => hx (by rw [z]; exact List.mem_cons_self))] at n; exact n) hb (fun z => hx (List.mem_cons_of_mem _ z))
  slot := fun b o q n hb hx => u.slot b o q (by rw [hole_ne (fun z => hx (by rw [z]; exact List.mem_cons_self))] at n; exact n) hb (fun z => hx (List.mem_cons_of_mem _ z))
  free := fun b o q n hx => u.free b o q (by rw [hole_ne (fun z => hx (by rw [z]; exact List.mem_cons_self))] at n; exact n) (fun z => hx (List.mem_cons_of_mem _ z))
  there := fun b o q hx => u.there b o q (fun z => hx (List.mem_cons_of_mem _ z))
  tups := fun b xs e => u.tups b xs (hole_some e).2
  frzs := fun b o xs e => u.frzs b o xs (hole_some e).2
  tbls := fun b ps e => u.tbls b ps (hole_some e).2
section
variable {X : Cx} {pins : List (Addr × Obj)} {σ : St} {H2 : Hp} {s2 : Shared} {scope : Scope} {cn fr : List Str} {js : List Nat} {N : List Str} {fp : List Addr} {C P : Addr} {vsP : List V}
end

/-! ### the pure side -/
def outP (js : List Nat) (jP : Nat) (l : List PyData) (ev : Ev) : List Sl := js.map fun j => if j = jP then .own (.lst l) else outS ev[j]?
def CpEP (k kp : Nat) (acc : List PyData) (J : List PyData → List PyData → Prop) : PyData → Ev → Prop := fun d ev => ev[k]? = some (.own (.lst acc)) ∧ acc.length < sizeLine ∧ ∃ l', ev[kp]? = some (.own (.lst l')) ∧ J (acc ++ [d]) l'
def CpTP (k kp : Nat) (acc : List PyData) (τe : TauE) (J : List PyData → List PyData → Prop) : Bool → Ev → Prop := fun b ev => if b = true then τe ev (CpEP k kp acc J) else ev[k]? = some (.own (.lst acc)) ∧ ∃ l', ev[kp]? = some (.own (.lst l')) ∧ J acc l'
def CpGP (k kp : Nat) (acc : List PyData) (τt : TauT) (τe : TauE) (J : List PyData → List PyData → Prop) : Ev → Prop := fun ev => τt ev (CpTP k kp acc τe J)
def CompDP (ds : List PyData) (cn k kp : Nat) (outer : List PyData → List Sl) (γ : TauG) (τt : TauT) (τe : TauE) (l0 : List PyData) (C : List PyData → List PyData → Prop) : Prop :=
  ∃ J : Nat → List PyData → List PyData → Prop, J 0 [] l0 ∧ (∀ i x acc l, ds[i]? = some x → J i acc l → γ x (evY cn (outer l) acc) (CpGP k kp acc τt τe (J (i + 1)))) ∧ ∀ acc l, J ds.length acc l → C acc l
theorem Ow.at {w : World} {K : PySem.W.Frag} {F F' H H' : Hp} {a : Addr} {m : MV} (h : Ow w K F H a m) (f : Same F F') (g : ∀ o, H a = some o → H' a = some o) : Ow w K F' H' a m := by
  cases m with
  | lst ds => obtain ⟨vs, e, r⟩ := h; exact ⟨vs, g _ e, r.mono f⟩
  | dct kvs => obtain ⟨o, xs, vs, e, y, q, k, z, u, r⟩ := h; exact ⟨o, xs, vs, g _ e, y, q, fun x hx => (k x hx).mono f, z, u, r.mono f⟩
section
variable {X : Cx} {pins : List (Addr × Obj)} {σ : St} {H2 F₀ F2 : Hp} {s2 : Shared} {ev : Ev} {scope : Scope} {cn fr : List Str} {js : List Nat} {fp : List Addr} {it : Addr} {E : Value → Shared → Prop}
end
end L2

set_option Elab.async false
set_option linter.all false
set_option maxRecDepth 100000
set_option maxHeartbeats 1000000
namespace L2
open PySem PySem.Spec PyProof.Rows
section
variable {X : Cx} {elt tg iter : Expr} {ifs : List Expr} {scope : Scope} {pos : Pos} {cn fr : List Str} {js kjs S : List Nat} {jP np : Nat} {γ : TauG} {τt : TauT} {τe : TauE}
/-- what the source has brought, and the list that stays owned -/
def SrcP (X : Cx) (F₀ F : Hp) (σ : St) (cn : List Str) (js kjs : List Nat) (jP np : Nat) (γ : TauG) (τt : TauT) (τe : TauE) (C : MV → Ev → Prop) (J : It) (H1 : Hp) : Prop :=
  ∃ (F1 : Hp) (ev1 : Ev) (n : Nat) (vs : Nat → Option V) (ds l0 : List PyData), RS X.w X.K X.H₀ F₀ F1 ev1 σ H1 ∧ ItOk J F1 n vs ∧ (∀ i x, i < n → vs i = some x → ∃ d, ds[i]? = some d ∧ Rp X.w X.K F1 x d) ∧ n = ds.length ∧ Same F F1 ∧
    (frzAll kjs ev1)[jP]? = some (.own (.lst l0)) ∧ CompDP ds cn.length (cn.length + js.length) (cn.length + np) (fun l => outP js jP l (frzAll kjs ev1)) γ τt τe l0 (fun acc l => C (.lst acc) ((frzAll kjs ev1).set jP (.own (.lst l))))
def zCompRP (τ : TauA) (cn : Nat) (js kjs : List Nat) (jP np : Nat) (γ : TauG) (τt : TauT) (τe : TauE) : TauO := fun ev C => τ ev fun ds ev1 => match ds with
  | [.int j] => (-(2 ^ 62) ≤ j ∧ j < 2 ^ 62) ∧ ∃ l0, (frzAll kjs ev1)[jP]? = some (.own (.lst l0)) ∧ CompDP (rngD 0 j.toNat) cn (cn + js.length) (cn + np) (fun l => outP js jP l (frzAll kjs ev1)) γ τt τe l0 (fun acc l => C (.lst acc) ((frzAll kjs ev1).set jP (.own (.lst l))))
  | _ => False
section
variable {τa : TauA}
end
end
end L2

set_option Elab.async false
set_option linter.all false
set_option maxRecDepth 100000
set_option maxHeartbeats 1000000
/-! cells: things that may change and that are held by reference -/
namespace L2
open PySem PySem.Spec PyProof.Rows
abbrev Cells := List (Addr × MV)
def celSet (os : Cells) (a : Addr) (m : MV) : Cells := os.map fun am => if am.1 = a then (a, m) else am
theorem celSet_keys (os : Cells) (a : Addr) (m : MV) : (celSet os a m).map (·.1) = os.map (·.1) := by
  unfold celSet
  rw [List.map_map]
  apply List.map_congr_left
  intro am _
  show (if am.1 = a then (a, m) else am).1 = am.1
  split
  · rename_i h; exact h.symm
  · rfl
theorem celSet_mem {os : Cells} {a b : Addr} {m m1 : MV} (h : (b, m1) ∈ celSet os a m) : (b = a ∧ m1 = m) ∨ (b ≠ a ∧ (b, m1) ∈ os) := by
  unfold celSet at h
  obtain ⟨am, h1, h2⟩ := List.mem_map.mp h
  by_cases e : am.1 = a
  · rw [if_pos e] at h2
    cases h2
    exact .inl ⟨rfl, rfl⟩
  · rw [if_neg e] at h2
    subst h2
    exact .inr ⟨e, h1⟩
theorem celSet_at {os : Cells} {a : Addr} {m m0 : MV} (h : (a, m0) ∈ os) : (a, m) ∈ celSet os a m := List.mem_map.mpr ⟨(a, m0), h, if_pos rfl⟩
theorem celSet_ne {os : Cells} {a b : Addr} {m m1 : MV} (h : (b, m1) ∈ os) (ne : b ≠ a) : (b, m1) ∈ celSet os a m := List.mem_map.mpr ⟨(b, m1), h, if_neg ne⟩
section
variable {w : World} {K : PySem.W.Frag} {F H H₀ F₀ : Hp} {ev : Ev} {σ : St} {g : Nat} {os : Cells}
/-- new cells -/
theorem RS.addC (R : RS w K H₀ F₀ F ev σ H) (hg : ev[g]? = some (.cel os)) {ns : Cells} (nd : (ns.map (·.1)).Nodup) (h : ∀ a m, (a, m) ∈ ns → Ow w K F H a m ∧ F a = Option.none ∧ H₀ a = Option.none ∧ NB ev σ a) : RS w K H₀ F₀ F (ev.set g (.cel (ns ++ os))) σ H := by
  have hl := (List.getElem?_eq_some_iff.mp hg).1
  obtain ⟨nd0, k0⟩ := R.cel g os hg
  have own : ∀ (j : Nat) (m' : MV), (ev.set g (.cel (ns ++ os)))[j]? = some (.own m') → ev[j]? = some (.own m') := fun j m' e => by
    rcases get_set e with ⟨_, z, _⟩ | ⟨_, z⟩
    · cases z
    · exact z
  refine ⟨R.toRB, by rw [List.length_set]; exact R.len, fun i d e => ?_, fun i m e => R.own i m (own i m e), fun i j m m' a e1 e2 => R.uni i j m m' a (own i m e1) (own j m' e2), fun i C e => ?_, fun i os' e => ?_, fun i j os1 os2 e1 e2 => ?_⟩
  · rcases get_set e with ⟨_, z, _⟩ | ⟨_, z⟩
    · cases z
    · exact R.val i d z
  · rcases get_set e with ⟨_, z, _⟩ | ⟨_, z⟩
    · cases z
    · exact R.exc i C z
  · rcases get_set e with ⟨rfl, z, _⟩ | ⟨z1, z⟩
    · cases z
      refine ⟨?_, fun a m hm => ?_⟩
      · rw [List.map_append, List.nodup_append]
        refine ⟨nd, nd0, fun a ha b hb e => ?_⟩
        subst e
        obtain ⟨⟨a1, m1⟩, h1, rfl⟩ := List.mem_map.mp ha
        obtain ⟨⟨a2, m2⟩, h2, e2⟩ := List.mem_map.mp hb
        have e2 : a2 = a1 := e2
        subst e2
        exact (h _ m1 h1).2.2.2.cel _ os hg m2 h2
      · rcases List.mem_append.mp hm with z | z
        · obtain ⟨q1, q2, q3, q4⟩ := h a m z
          exact ⟨q1, q2, q3, fun j m' e => q4.own j m' (own j m' e)⟩
        · obtain ⟨q1, q2, q3, q4⟩ := k0 a m z
          exact ⟨q1, q2, q3, fun j m' e => q4 j m' (own j m' e)⟩
    · exact absurd (R.uniC i g os' os z hg) z1
  · have back : ∀ (j : Nat) (os' : Cells), (ev.set g (.cel (ns ++ os)))[j]? = some (.cel os') → j = g := fun j os' e => by
      rcases get_set e with ⟨z, _, _⟩ | ⟨_, z⟩
      · exact z
      · exact R.uniC j g os' os z hg
    rw [back i os1 e1, back j os2 e2]
/-- a cell has changed -/
theorem RS.setC (R : RS w K H₀ F₀ F ev σ H) (hg : ev[g]? = some (.cel os)) {a : Addr} {m m' : MV} {o : HO} (ha : (a, m) ∈ os) (r : Ow w K F (upd H a o) a m') : RS w K H₀ F₀ F (ev.set g (.cel (celSet os a m'))) σ (upd H a o) := by
  obtain ⟨nd0, k0⟩ := R.cel g os hg
  obtain ⟨w0, hf, h0, hn⟩ := k0 a m ha
  have own : ∀ (j : Nat) (m1 : MV), (ev.set g (.cel (celSet os a m')))[j]? = some (.own m1) → ev[j]? = some (.own m1) := fun j m1 e => by
    rcases get_set e with ⟨_, z, _⟩ | ⟨_, z⟩
    · cases z
    · exact z
  refine ⟨⟨fun b u q => ?_, fun b u q => ?_, R.f0, R.nw⟩, by rw [List.length_set]; exact R.len, fun i d e => ?_, fun i m1 e => ?_, fun i j m1 m2 b e1 e2 => R.uni i j m1 m2 b (own i m1 e1) (own j m2 e2), fun i C e => ?_, fun i os' e => ?_, fun i j os1 os2 e1 e2 => ?_⟩
  · rw [upd_ne (ne_of_none q hf)]; exact R.le b u q
  · rw [upd_ne (ne_of_none q h0)]; exact R.k0 b u q
  · rcases get_set e with ⟨_, z, _⟩ | ⟨_, z⟩
    · cases z
    · exact R.val i d z
  · obtain ⟨b, q1, q2, q3, q4⟩ := R.own i m1 (own i m1 e)
    exact ⟨b, q1, q2.elsewhere (fun z => hn i m1 (own i m1 e) (by rw [q1, z])), q3, q4⟩
  · rcases get_set e with ⟨_, z, _⟩ | ⟨_, z⟩
    · cases z
    · exact R.exc i C z
  · rcases get_set e with ⟨rfl, z, _⟩ | ⟨z1, z⟩
    · cases z
      refine ⟨by rw [celSet_keys]; exact nd0, fun b m1 hm => ?_⟩
      rcases celSet_mem hm with ⟨rfl, rfl⟩ | ⟨ne, z⟩
      · exact ⟨r, hf, h0, fun j m1 e => hn j m1 (own j m1 e)⟩
      · obtain ⟨q1, q2, q3, q4⟩ := k0 b m1 z
        exact ⟨q1.elsewhere ne, q2, q3, fun j m1 e => q4 j m1 (own j m1 e)⟩
    · exact absurd (R.uniC i g os' os z hg) z1
  · have back : ∀ (j : Nat) (os' : Cells), (ev.set g (.cel (celSet os a m')))[j]? = some (.cel os') → j = g := fun j os' e => by
      rcases get_set e with ⟨z, _, _⟩ | ⟨_, z⟩
      · exact z
      · exact R.uniC j g os' os z hg
    rw [back i os1 e1, back j os2 e2]
/-- a def's slot for its cells -/
theorem RS.celS (R : RS w K H₀ F₀ F ev σ H) (hn : ∀ (j : Nat) (os : Cells), ev[j]? ≠ some (.cel os)) : RS w K H₀ F₀ F (ev.set g (.cel [])) σ H := by
  have own : ∀ (j : Nat) (m' : MV), (ev.set g (.cel []))[j]? = some (.own m') → ev[j]? = some (.own m') := fun j m' e => by
    rcases get_set e with ⟨_, z, _⟩ | ⟨_, z⟩
    · cases z
    · exact z
  have back : ∀ (j : Nat) (os' : Cells), (ev.set g (.cel []))[j]? = some (.cel os') → j = g ∧ os' = [] := fun j os' e => by
    rcases get_set e with ⟨z, z', _⟩ | ⟨_, z⟩
    · cases z'; exact ⟨z, rfl⟩
    · exact absurd z (hn j os')
  refine ⟨R.toRB, by rw [List.length_set]; exact R.len, fun i d e => ?_, fun i m e => R.own i m (own i m e), fun i j m m' a e1 e2 => R.uni i j m m' a (own i m e1) (own j m' e2), fun i C e => ?_, fun i os' e => ?_, fun i j os1 os2 e1 e2 => ?_⟩
  · rcases get_set e with ⟨_, z, _⟩ | ⟨_, z⟩
    · cases z
    · exact R.val i d z
  · rcases get_set e with ⟨_, z, _⟩ | ⟨_, z⟩
    · cases z
    · exact R.exc i C z
  · obtain ⟨_, rfl⟩ := back i os' e
    exact ⟨.nil, fun a m hm => nomatch hm⟩
  · rw [(back i os1 e1).1, (back j os2 e2).1]
end
/-! ### a reference, taken as one or the other -/
section
variable {X : Cx} {pos : Pos}
def tRC (t : TE) : TE := fun σ H Q => t σ H fun v H' => Q v H' ∨ ∃ a, v = .ref a ∧ Q (.cel a) H'
theorem pe_rc {e : Expr} {t : TE} (h : PE X e t) : PE X e (tRC t) := fun pins s σ H Q I k => thn (h pins s σ H _ I k) fun u s' ⟨v, H', I', r, q⟩ => by
  rcases q with q | ⟨a, rfl, q⟩
  · exact ⟨v, H', I', r, q⟩
  · exact ⟨.cel a, H', I', r, q⟩
def tCR (t : TE) : TE := fun σ H Q => t σ H fun v H' => Q v H' ∨ ∃ a, v = .cel a ∧ Q (.ref a) H'
theorem pe_cr {e : Expr} {t : TE} (h : PE X e t) : PE X e (tCR t) := fun pins s σ H Q I k => thn (h pins s σ H _ I k) fun u s' ⟨v, H', I', r, q⟩ => by
  rcases q with q | ⟨a, rfl, q⟩
  · exact ⟨v, H', I', r, q⟩
  · exact ⟨.ref a, H', I', r, q⟩
theorem Rp.op {w : World} {K : PySem.W.Frag} {F : Hp} {v : V} {a : Addr} (h : Rp w K F v (opD a)) : v = .cel a := by
  generalize e : opD a = d at h
  cases h with
  | cel b =>
    injection e with e
    injection e with e _
    have e2 := congrArg Prod.snd e
    have e3 : ((a : Nat) : Int) = ((b : Nat) : Int) := PyData.int.inj e2
    rw [show (a : Nat) = b from Int.ofNat_inj.mp e3]
  | dct => exact (opD_ne e.symm).elim
  | _ => cases e
/-- a new thing becomes a cell -/
def zCell (g : Nat) (τ : TauO) : TauE := fun ev C => τ ev fun m ev' => ∃ os, ev'[g]? = some (.cel os) ∧ ∀ a, (∀ m', (a, m') ∉ os) → C (opD a) (ev'.set g (.cel ((a, m) :: os)))
theorem q_cell (g : Nat) {e : Expr} {τ : TauO} (h : QO X e τ) : QE X e (zCell g τ) := by
  obtain ⟨t, ht, k⟩ := h
  refine ⟨_, pe_rc ht, fun F₀ ev F σ H Q C R h kk => k F₀ ev F σ H _ _ R h fun m ev' F' a H' R' w hf h0 hu sm c => ?_⟩
  obtain ⟨os, hg, c⟩ := c
  exact .inr ⟨a, rfl, kk _ _ F' _ H' (R'.addC hg (ns := [(a, m)]) (by simp) fun b m1 hm => by
    cases List.mem_singleton.mp hm
    exact ⟨w, hf, h0, hu⟩) (.cel a) sm (c a (hu.cel g os hg))⟩
/-- a def that tells cells with its value -/
def zCallC (g : Nat) (φ : Phi) (τ : TauA) : TauE := fun ev C => τ ev fun ds ev' => φ ds (fun r => match r with
  | .valc d ns => ∃ os, ev'[g]? = some (.cel os) ∧ ((∀ a m m', (a, m) ∈ ns → (a, m') ∉ os) → C d (ev'.set g (.cel (ns ++ os))))
  | .ownc m ns => ∃ os, ev'[g]? = some (.cel os) ∧ ∀ a, (∀ m', (a, m') ∉ ns) → (∀ m', (a, m') ∉ os) → (∀ a m m', (a, m) ∈ ns → (a, m') ∉ os) → C (opD a) (ev'.set g (.cel ((a, m) :: (ns ++ os))))
  | _ => False) noX
theorem q_callC (g : Nat) {k : Nat} {x : Str} {ps : List Str} {φ : Phi} {p : Pos} {e : Expr} {es : List Expr} {τ : TauA} (c : Cal X.prog X.w X.K X.mg X.base CX0 k x ps (spP X.w X.K φ)) (hr : Room k X.A) (ha : QA X (e :: es) τ) (hg : Gl X x := by rfl) (hdb : (x == ("__debug__" : Str)) = false := by decide)
    (he : starEach (e :: es) X.env = (false, eval e X.env) :: starEach es X.env := by rfl) (hpl : (backTo pos (starEach es X.env)).any (·.1) = false := by rfl) : QE X (.Call (.Name x p) (e :: es) [] pos) (zCallC g φ τ) := by
  obtain ⟨t, ht, ka⟩ := ha
  refine ⟨_, pe_rc (pe_cal c hr pass0 ht hg hdb he hpl), fun F₀ ev F σ H Q C R h k => ?_⟩
  refine ka F₀ ev F σ H _ _ R h fun ds ev' F' vs H' R' r s c => ⟨F', ds, _, noX, R'.le, by rw [List.append_nil]; exact r, c, fun rz F2 v H2 g2 rr cc => ?_, fun c H2 sm z => False.elim z⟩
  have R2 := R'.grow g2
  cases rz with
  | val d => exact False.elim cc
  | own m => exact False.elim cc
  | valc d ns =>
    obtain ⟨os, hg, cc⟩ := cc
    obtain ⟨rp, nd, kn⟩ := rr
    refine .inl (k _ _ _ _ _ (R2.addC hg nd fun a m hm => ?_) rp (s.trans g2.ff) (cc fun a m m' hm => ?_))
    · obtain ⟨q1, q2, q3⟩ := kn a m hm
      exact ⟨q1, q2, R'.k0.free q3, R'.nobody q3⟩
    · exact (R'.nobody (kn a m hm).2.2).cel g os hg m'
  | ownc m ns =>
    obtain ⟨os, hg, cc⟩ := cc
    obtain ⟨a, rfl, w, hf, h0, ⟨nd, kn⟩, hna⟩ := rr
    refine .inr ⟨a, rfl, k _ _ _ _ _ (R2.addC hg (ns := (a, m) :: ns) ?_ fun b m1 hm => ?_) (.cel a) (s.trans g2.ff) (cc a hna ((R'.nobody h0).cel g os hg) fun b m1 m' hm => (R'.nobody (kn b m1 hm).2.2).cel g os hg m')⟩
    · rw [List.map_cons, List.nodup_cons]
      refine ⟨fun z => ?_, nd⟩
      obtain ⟨⟨b, m1⟩, h1, e⟩ := List.mem_map.mp z
      have e : b = a := e
      subst e
      exact hna m1 h1
    · rcases List.mem_cons.mp hm with z | z
      · cases z
        exact ⟨w, hf, R'.k0.free h0, R'.nobody h0⟩
      · obtain ⟨q1, q2, q3⟩ := kn b m1 z
        exact ⟨q1, q2, R'.k0.free q3, R'.nobody q3⟩
/-- return a value, and cells with it -/
def zRetC (g : Nat) (τ : TauE) : TauS := fun P ev => τ ev fun d ev' => ∃ os, ev'[g]? = some (.cel os) ∧ P.rt (.valc d os)
theorem q_retC (g : Nat) {e : Expr} {τ : TauE} (h : QE X e τ) : QS X (.Return (some e) pos) (zRetC g τ) := by
  obtain ⟨t, ht, k⟩ := h
  refine ⟨_, ps_ret ht, fun F₀ D P ev F σ H E R h => k F₀ ev F σ H _ _ R h fun d ev' F' v H' R' r s c => ?_⟩
  obtain ⟨os, hg, c⟩ := c
  obtain ⟨nd, kn⟩ := R'.cel g os hg
  exact E.rt (.valc d os) F' v H' R'.toRB ⟨r, nd, fun a m hm => ⟨(kn a m hm).1, (kn a m hm).2.1, (kn a m hm).2.2.1⟩⟩ c
def zRetOC (g : Nat) (τ : TauO) : TauS := fun P ev => τ ev fun m ev' => ∃ os, ev'[g]? = some (.cel os) ∧ P.rt (.ownc m os)
theorem q_retOC (g : Nat) {e : Expr} {τ : TauO} (h : QO X e τ) : QS X (.Return (some e) pos) (zRetOC g τ) := by
  obtain ⟨t, ht, k⟩ := h
  refine ⟨_, ps_ret ht, fun F₀ D P ev F σ H E R h => k F₀ ev F σ H _ _ R h fun m ev' F' a H' R' w hf h0 hu s c => ?_⟩
  obtain ⟨os, hg, c⟩ := c
  obtain ⟨nd, kn⟩ := R'.cel g os hg
  exact E.rt (.ownc m os) F' _ H' R'.toRB ⟨a, rfl, w, hf, h0, ⟨nd, fun a m hm => ⟨(kn a m hm).1, (kn a m hm).2.1, (kn a m hm).2.2.1⟩⟩, hu.cel g os hg⟩ c
/-- c.append(e), c a reference to a cell -/
def zAppC (g : Nat) (τc τ : TauE) : TauS := fun P ev => τc ev fun dc ev1 => ∃ a, dc = opD a ∧ (∃ os ds, ev1[g]? = some (.cel os) ∧ (a, .lst ds) ∈ os) ∧ τ ev1 fun d ev2 => ∃ os ds, ev2[g]? = some (.cel os) ∧ (a, .lst ds) ∈ os ∧ ds.length < sizeLine ∧ P.nx (ev2.set g (.cel (celSet os a (.lst (ds ++ [d])))))
theorem q_appC (g : Nat) {c e : Expr} {apos cpos : Pos} {τc τ : TauE} (hc : QE X c τc) (h : QE X e τ) (hs : swapsWith (.Call (.Attribute c "append" apos) [e] [] cpos) none pos.line X.env = pure false := by rfl)
    (hst : starEach [e] X.env = [(false, eval e X.env)] := by rfl) (hbase : attributeBase c "append" X.env (eval c X.env) = eval c X.env := by rfl) (hline : (apos.endLine == cpos.line) = true := by rfl)
    (hfew : ((backTo cpos (starEach [e] X.env)).all (fun x => !x.1) && (backToKw cpos (keywordEach [] X.env)).all (fun x => x.1.isSome) && decide (([e] : List Expr).length + ([] : List Keyword).length + (if ([] : List Keyword).isEmpty then 0 else 1) < 30)) = true := by rfl) :
    QS X (.Expr (.Call (.Attribute c "append" apos) [e] [] cpos) pos) (zAppC g τc τ) := by
  obtain ⟨tc, htc, kc⟩ := hc
  obtain ⟨t, ht, ka⟩ := h
  refine ⟨_, ps_expr (pe_bm PySem.F.plainAttrs_list PySem.F.slot_list_append PySem.F.type_list_append mt_append (pe_cr htc) (pa_cons ht pa_nil hst) hbase hfew hline hst (by rw [show starEach [] X.env = [] from rfl]; rfl)) hs, fun F₀ D P ev F σ H E R h => ?_⟩
  refine kc F₀ ev F σ H _ _ R h fun dc ev1 F1 vc H1 R1 rc s1 c1 => ?_
  obtain ⟨a, rfl, ⟨os0, ds0, hg0, hm0⟩, c1⟩ := c1
  cases rc.op
  obtain ⟨⟨vs0, g0, _⟩, _⟩ := (R1.cel g os0 hg0).2 a _ hm0
  refine .inr ⟨a, rfl, .inl ⟨rfl, _, SqL.of g0⟩, ka F₀ ev1 F1 σ H1 _ _ R1 c1 fun d ev2 F2 v H2 R2 r s2 c2 => ?_⟩
  obtain ⟨os, ds, hg, hm, hz, c2⟩ := c2
  obtain ⟨⟨vs, h1, h2⟩, _⟩ := (R2.cel g os hg).2 a _ hm
  refine ⟨a, vs, v, rfl, rfl, h1, by rw [h2.length]; exact hz, E.nx _ _ _ _ (R2.setC hg hm (m' := .lst (ds ++ [d])) ?_) c2⟩
  exact ⟨_, upd_same, h2.append (.cons r .nil)⟩
/-- for x in c, c a reference to a cell that stays as it is -/
def zForC (g : Nat) (τ : TauE) (γ : TauG) (υ : TauS) : TauS := fun P ev => τ ev fun d ev1 => ∃ (a : Addr) (ds : List PyData) (J : Nat → Ev → Prop), d = opD a ∧ J 0 ev1 ∧ (∀ i ev', J i ev' → ∃ os, ev'[g]? = some (.cel os) ∧ (a, .lst ds) ∈ os) ∧
  (∀ i x ev', ds[i]? = some x → J i ev' → γ x ev' fun ev2 => υ { P with nx := J (i + 1), ct := J (i + 1), bk := P.nx } ev2) ∧ ∀ ev', J ds.length ev' → P.nx ev'
theorem q_forC (g : Nat) {tg iter : Expr} {body : List Stmt} {τ : TauE} {γ : TauG} {υ : TauS} (hp : PassesOwn (model X.prog X.w) X.A X.env X.xe) (hc : X.calm = true) (hi : QE X iter τ) {S : List Nat} (hg : QG X S tg γ) (hb : QSs X body υ) (hs : ∀ x, foldedSetIterable iter X.env x = pure x := by intro _; rfl) :
    QS X (.For tg iter body [] pos) (zForC g τ γ υ) := by
  obtain ⟨t, ht, ka⟩ := hi
  obtain ⟨gg, hgg, kg⟩ := hg
  obtain ⟨tb, hb, kb⟩ := hb
  refine ⟨_, ps_for hp hc (pi_list (pe_cr ht)) hgg hb hs, fun F₀ D P ev F σ H E R h => ka F₀ ev F σ H _ _ R h fun d ev1 F1 v H1 R1 r s c => ?_⟩
  obtain ⟨a, ds, J, rfl, j0, jc, jt, je⟩ := c
  cases r.op
  have at_ : ∀ {i : Nat} {ev' : Ev} {F' : Hp} {σ' : St} {H' : Hp}, RS X.w X.K X.H₀ F1 F' ev' σ' H' → J i ev' → ∃ vs, H' a = some (.lst vs) ∧ Rps X.w X.K F' vs ds := fun {i ev' F' σ' H'} R' j => by
    obtain ⟨os, hg, hm⟩ := jc i ev' j
    exact ((R'.cel g os hg).2 a _ hm).1
  obtain ⟨vs1, g1, _⟩ := at_ R1.rebase j0
  refine .inr ⟨a, rfl, a, rfl, ⟨vs1, SqL.of g1⟩, fun i m σ' H' => m = ds.length - i ∧ i ≤ ds.length ∧ ∃ ev' F', RS X.w X.K X.H₀ F1 F' ev' σ' H' ∧ J i ev', ⟨_, rfl, Nat.zero_le _, ev1, F1, R1.rebase, j0⟩, fun i m σ' H' z => ?_⟩
  obtain ⟨rfl, hi, ev', F', R', j'⟩ := z
  obtain ⟨vs, e, rs⟩ := at_ R' j'
  have ln := rs.length
  by_cases hlt : i < ds.length
  · refine .inr ⟨⟨vs, vs[i]'(by omega), SqL.of e, List.getElem?_eq_getElem _⟩, fun σ2 H2 => ∃ ev2 F2, RS X.w X.K X.H₀ F1 F2 ev2 σ2 H2 ∧ J (i + 1) ev2, fun σ2 H2 ⟨ev2, F2, R2, j2⟩ => ⟨ds.length - (i + 1), by omega, rfl, hlt, ev2, F2, R2, j2⟩, fun x H2 y => ?_⟩
    obtain ⟨rfl, y⟩ := y
    have hx := y vs (SqL.of e)
    obtain ⟨d, hd, rd⟩ := rs.getV hx
    exact kg F1 ev' F' σ' H2 x d _ _ R' rd (jt i d ev' hd j') fun ev2 σ2 R2 _ c2 => kb F1 _ _ ev2 F' σ2 H2 (endLoop E R1.toRB fun ev F σ H R z => ⟨ev, F, R, z⟩) R2 c2
  · have ei : i = ds.length := by omega
    subst ei
    exact .inl ⟨⟨vs, SqL.of e, by omega⟩, E.nx _ _ _ _ (RS.unbase R1.toRB R') (je ev' j')⟩
end
end L2

set_option Elab.async false
set_option linter.all false
set_option maxRecDepth 100000
set_option maxHeartbeats 1000000
namespace L2
open PySem PySem.Spec PyProof.Rows
theorem Ow.rp {w : World} {K : PySem.W.Frag} {F H : Hp} {a : Addr} {m : MV} (h : Ow w K F H a m) (le : Same F H) : Rp w K H (.ref a) (L2.frz m) := by
  cases m with
  | lst ds =>
    obtain ⟨vs, e, r⟩ := h
    exact .lst (SqL.of e) (r.mono le)
  | dct kvs =>
    obtain ⟨o, xs, vs, e, y, q, k, z, u, r⟩ := h
    exact .dct e y q (fun x hx => (k x hx).mono le) z u (r.mono le)
/-! ### what a datum stands for, its references followed -/
mutual
inductive Rsv (os : Cells) : PyData → PyData → Prop
  | non : Rsv os .none .none
  | bl (b : Bool) : Rsv os (.bool b) (.bool b)
  | int (i : Int) : Rsv os (.int i) (.int i)
  | str (x : Str) : Rsv os (.str x) (.str x)
  | lst {ds es : List PyData} : Rsvs os ds es → Rsv os (.list ds) (.list es)
  | tup {ds es : List PyData} : Rsvs os ds es → Rsv os (.tuple ds) (.tuple es)
  | cel {a : Addr} {ds es : List PyData} : (a, .lst ds) ∈ os → Rsvs os ds es → Rsv os (opD a) (.list es)
inductive Rsvs (os : Cells) : List PyData → List PyData → Prop
  | nil : Rsvs os [] []
  | cons {d e : PyData} {ds es : List PyData} : Rsv os d e → Rsvs os ds es → Rsvs os (d :: ds) (e :: es)
end
mutual
theorem Rsv.self (os : Cells) : ∀ {d : PyData}, d.canLay0 = true → Rsv os d d
  | .none, _ => .non
  | .bool b, _ => .bl b
  | .int i, _ => .int i
  | .str x, _ => .str x
  | .list ds, h => .lst (Rsvs.self os (by simpa only [PyData.canLay0] using h))
  | .tuple ds, h => .tup (Rsvs.self os (by simpa only [PyData.canLay0] using h))
  | .dict _, h => by simp only [PyData.canLay0] at h; cases h
theorem Rsvs.self (os : Cells) : ∀ {ds : List PyData}, PyData.canLayAll0 ds = true → Rsvs os ds ds
  | [], _ => .nil
  | d :: ds, h => by
    simp only [PyData.canLayAll0, Bool.and_eq_true] at h
    exact .cons (Rsv.self os h.1) (Rsvs.self os h.2)
end
section
variable {w : World} {K : PySem.W.Frag} {F H : Hp} {os : Cells}
mutual
theorem Rsv.rd (le : Same F H) (hc : ∀ a m, (a, m) ∈ os → Ow w K F H a m) : ∀ {d e : PyData} {v : V}, Rsv os d e → Rp w K F v d → RdD K H v e
  | _, _, _, .non, r => by cases r; exact .non
  | _, _, _, .bl b, r => by cases r; exact .bl b
  | _, _, _, .int i, r => by cases r; exact .int i
  | _, _, _, .str x, r => by cases r; exact .str x
  | _, _, _, .lst h, r => by
    cases r with
    | lst hq hs => exact .lst (le.seq hq) (Rsvs.rd le hc h hs)
  | _, _, _, .tup h, r => by
    cases r with
    | tup hq hs => exact .tup (le.sqt hq.sqt) (Rsvs.rd le hc h hs)
  | _, _, _, .cel (a := a) hm h, r => by
    cases r.op
    obtain ⟨vs, e, hs⟩ := hc a _ hm
    exact .cel (.lst (SqL.of e) (Rsvs.rd le hc h hs))
theorem Rsvs.rd (le : Same F H) (hc : ∀ a m, (a, m) ∈ os → Ow w K F H a m) : ∀ {ds es : List PyData} {vs : List V}, Rsvs os ds es → Rps w K F vs ds → RdDs K H vs es
  | _, _, _, .nil, r => by cases r; exact .nil
  | _, _, _, .cons h hs, r => by
    cases r with
    | cons r1 r2 => exact .cons (Rsv.rd le hc h r1) (Rsvs.rd le hc hs r2)
end
end
section
variable {X : Cx} {pos : Pos}
/-- x == y, x != y, references followed -/
def zEqC (g : Nat) (neg : Bool) (τa τb : TauE) : TauE := fun ev C => τa ev fun d1 ev1 => τb ev1 fun d2 ev2 => ∃ os e1 e2, ev2[g]? = some (.cel os) ∧ Rsv os d1 e1 ∧ Rsv os d2 e2 ∧ SeqAt.shaped e1 = true ∧ SeqAt.shaped e2 = true ∧ C (.bool (if neg then !PyData.eqv e1 e2 else PyData.eqv e1 e2)) ev2
theorem zeqc {g : Nat} {neg : Bool} {τa τb : TauE} {ta tb : TE} {r : R2} (hr : ∀ (x y : V) (d e : PyData) (H : Hp) (Q : VK), RdD X.K H x d → RdD X.K H y e → SeqAt.shaped d = true → SeqAt.shaped e = true → Q (.bl (if neg then !PyData.eqv d e else PyData.eqv d e)) H → r x y H Q)
    (ka : ∀ (F₀ : Hp) (ev : Ev) (F : Hp) (σ : St) (H : Hp) (Q : VK) (C : PyData → Ev → Prop), RS X.w X.K X.H₀ F₀ F ev σ H → τa ev C → (∀ d ev' F' v H', RS X.w X.K X.H₀ F₀ F' ev' σ H' → Rp X.w X.K F' v d → Same F F' → C d ev' → Q v H') → ta σ H Q)
    (kb : ∀ (F₀ : Hp) (ev : Ev) (F : Hp) (σ : St) (H : Hp) (Q : VK) (C : PyData → Ev → Prop), RS X.w X.K X.H₀ F₀ F ev σ H → τb ev C → (∀ d ev' F' v H', RS X.w X.K X.H₀ F₀ F' ev' σ H' → Rp X.w X.K F' v d → Same F F' → C d ev' → Q v H') → tb σ H Q)
    (F₀ : Hp) (ev : Ev) (F : Hp) (σ : St) (H : Hp) (Q : VK) (C : PyData → Ev → Prop) (R : RS X.w X.K X.H₀ F₀ F ev σ H) (h : zEqC g neg τa τb ev C) (k : ∀ d ev' F' v H', RS X.w X.K X.H₀ F₀ F' ev' σ H' → Rp X.w X.K F' v d → Same F F' → C d ev' → Q v H') : tOp r ta tb σ H Q := by
  refine ka F₀ ev F σ H _ _ R h fun d1 ev1 F1 v1 H1 R1 r1 s1 c1 => kb F₀ ev1 F1 σ H1 _ _ R1 c1 fun d2 ev2 F2 v2 H2 R2 r2 s2 c2 => ?_
  obtain ⟨os, e1, e2, hg, q1, q2, z1, z2, c2⟩ := c2
  have hc := fun a m hm => ((R2.cel g os hg).2 a m hm).1
  exact hr v1 v2 e1 e2 H2 _ (q1.rd R2.le hc (r1.mono s2)) (q2.rd R2.le hc r2) z1 z2 (k _ _ _ _ _ R2 (.bl _) (s1.trans s2) c2)
theorem q_tcmpCn (g : Nat) {k : Nat} {a b : Expr} {τa τb : TauE} (hr : Room k X.A) (ha : QE X a τa) (hb : QE X b τb) : QT X (.Compare a [.NotEq] [b] pos) (zB (zEqC g true τa τb)) := by
  obtain ⟨ta, ha, ka⟩ := ha
  obtain ⟨tb, hb, kb⟩ := hb
  exact ⟨_, pt_cmpR (op_neD hr.units) ha hb (nomark _), zb (fun _ _ _ z => z) (zeqc (fun x y d e H Q h1 h2 h3 h4 q => ⟨d, e, h1, h2, h3, h4, q⟩) ka kb)⟩
/-- isinstance(c, T), c a reference to a cell -/
def zIsiC (g : Nat) (K : PySem.W.Frag) (c : Value) (τ : TauE) : TauE := fun ev C => τ ev fun d ev' => ∃ a m b os, d = opD a ∧ ev'[g]? = some (.cel os) ∧ (a, m) ∈ os ∧ kitD K (frz m) c = some b ∧ C (.bool b) ev'
theorem q_isiC (g : Nat) (K : PySem.W.Frag) {e : Expr} {x : Str} {n : String} {xp p : Pos} {τ : TauE} (h : QE X e τ) (hg : Gl X "isinstance") (hm : X.mg "isinstance" = none) (hgx : Gl X x) (hmx : X.mg x = none) (hvx : bootBuiltins x = some (.type n)) (hn : x ≠ "__name__" := by decide) (hd : (x == ("__debug__" : Str)) = false := by decide)
    (hK : X.K = K := by rfl) (hs : starEach [e, .Name x xp] X.env = (false, eval e X.env) :: starEach [.Name x xp] X.env := by rfl) (hs2 : starEach [.Name x xp] X.env = (false, eval (.Name x xp) X.env) :: starEach [] X.env := by rfl) :
    QE X (.Call (.Name "isinstance" p) [e, .Name x xp] [] pos) (zIsiC g K (.type n) τ) := by
  subst hK
  obtain ⟨t, ht, ka⟩ := h
  refine ⟨_, pe_callB call_isiD hg hm PyProof.Rows.Boot.«isinstance» (pa_cons (pe_cr ht) (pa_cons (pe_ty hgx hmx hvx hn hd) pa_nil hs2) hs) (by decide) (by decide) hs (by rw [hs2]; rfl), fun F₀ ev F σ H Q C R h k => ka F₀ ev F σ H _ _ R h fun d ev' F' v H' R' r s c => ?_⟩
  obtain ⟨a, m, b, os, rfl, hg, hm, e, c⟩ := c
  cases r.op
  exact .inr ⟨a, rfl, .ref a, .ty n, frz m, b, rfl, .inl ⟨n, rfl⟩, (((R'.cel g os hg).2 a m hm).1).rp R'.le, e, k _ _ _ _ _ R' (.bl b) s c⟩
end
/-! ### a def with a slot for its cells -/
section
variable {P : Program} {w : World} {K : PySem.W.Frag} {mg : Str → Option Value} {base : Heap}
def startC (N : List Str) (ds : List PyData) : Ev := (startE N ds).set (N.length - 1) (.cel [])
theorem startE_noc {N : List Str} {ds : List PyData} (j : Nat) (os : Cells) : (startE N ds)[j]? ≠ some (.cel os) := fun e => by
  unfold startE at e
  by_cases hl : j < ds.length
  · rw [List.getElem?_append_left (by rw [List.length_map]; exact hl), List.getElem?_map] at e
    cases q : ds[j]? <;> (rw [q] at e; cases e)
  · rw [List.getElem?_append_right (by rw [List.length_map]; omega), List.getElem?_replicate] at e
    split at e <;> cases e
theorem Fun.okPC {x qual : Str} {st : Stmt} {f : Addr} {fd : FuncData} {N ps : List Str} {k : Nat} {φ : Phi} (F : Fun K x qual st f fd) (S : FnScope N ps (defScope st)) (len : ∀ ds C Z, φ ds C Z → ds.length = ps.length)
    (hbody : ∀ (cdv : Value) (A : Around) (outer : List Env) (s : Shared) (H : Hp) (E : XK), Room k (A.deeper (envOfC qual (defScope st) s.heap.objs.size f cdv)) →
      ∃ τ, QSs (cxOf CX0 P w K mg base N qual (defScope st) f cdv A outer s H E).nox (defBody st) τ ∧ ∀ ds C Z, φ ds C Z → τ { nx := fun _ => C (.val .none), rt := C } (startC N ds)) : FnOk P w K mg base CX0 (k + 1) f fd ps (spP w K φ) := by
  refine F.ok S (fun vs H Q E h => ?_) fun cdv A outer s H vs Q E hr h => ?_
  · obtain ⟨F', ds, C, Z, _, r, c, _⟩ := h
    rw [r.length]
    exact len ds C Z c
  · obtain ⟨F', ds, C, Z, le, r, c, kk, _⟩ := h
    obtain ⟨τ, ⟨t, ht, k2⟩, hτ⟩ := hbody cdv A outer s H E hr
    exact ⟨t, ht, k2 F' _ _ _ F' _ H (end_def kk) ((start_rs le r).celS startE_noc) (hτ ds C Z c)⟩
end
end L2

set_option Elab.async false
set_option linter.all false
set_option maxRecDepth 100000
set_option maxHeartbeats 1000000
/-! for x in range(a, b, -1) -/
namespace L2
open PySem PySem.Spec PyProof.Rows
def Itdn (lo : Int) (n : Nat) : It := ⟨fun i _ => i < n, fun i H x H' => H' = H ∧ x = .int (lo - i), fun i _ => n ≤ i⟩
section
variable {X : Cx} {tg : Expr}
def iRngD (ta : TA) : TI := fun σ H R => ta σ H fun vs H1 => ∃ i j : Int, vs = [.int i, .int j, .int (-1)] ∧ (-(2 ^ 62) ≤ i ∧ i < 2 ^ 62 ∧ -(2 ^ 62) ≤ j ∧ j < 2 ^ 62) ∧ R (Itdn i (i - j).toNat) H1
end
section
variable {X : Cx} {pos : Pos}
def LoopDn (hi : Int) (n : Nat) (γ : TauG) (υ : TauS) : TauS := fun P ev => ∃ J : Nat → Ev → Prop, J 0 ev ∧ (∀ i ev', i < n → J i ev' → γ (.int (hi - i)) ev' fun ev2 => υ { P with nx := J (i + 1), ct := J (i + 1), bk := P.nx } ev2) ∧ ∀ ev', J n ev' → P.nx ev'
def zForRD (τ : TauA) (γ : TauG) (υ : TauS) : TauS := fun P ev => τ ev fun ds ev1 => match ds with | [.int i, .int j, .int k] => k = -1 ∧ (-(2 ^ 62) ≤ i ∧ i < 2 ^ 62 ∧ -(2 ^ 62) ≤ j ∧ j < 2 ^ 62) ∧ LoopDn i (i - j).toNat γ υ P ev1 | _ => False
end
end L2

set_option Elab.async false
set_option linter.all false
set_option maxRecDepth 100000
set_option maxHeartbeats 1000000
/-! a dict's keys, gathered -/
namespace L2
open PySem PySem.Spec PyProof.Rows
section
variable {P : Program} {w : World} {A : Around} {E : Value → Shared → Prop} {s : Shared} {d : Addr} {o : Obj} {xs : List DX}
theorem walk_k {es : Array DictEntry} {ep : Nat} (hh : A.handled = none) (it d : Addr) (hne : d ≠ it) (gd : o.data = .dict es ep) (ge : es.toList = xs.map (entX w)) :
    Walks P w A it [it, d] [it] xs.length (fun i v => (xs.map (·.2.1))[i]? = some v) (fun i h => h.IsKeyIter it d i es.size ep ∧ h.get? d = some o) where
  sub := fun b hb => by simp at hb; simp [hb]
  frame := fun _ _ _ st hk => ⟨st.1.at fun o e => hk it (by simp) o e, hk d (by simp) o st.2⟩
  item := fun i s Q E hi st hQ => by
    have he : es[i]? = some (entX w xs[i]) := by rw [← Array.getElem?_toList, ge, List.getElem?_map, List.getElem?_eq_getElem hi]; rfl
    refine next_k (P := P) (w := w) st.1 st.2 gd he fun h' st' sb => ?_
    exact hQ _ h' s.toks (by rw [List.getElem?_map, List.getElem?_eq_getElem hi]; rfl) ⟨st', (sb.2 d hne).trans st.2⟩ fun b o hb e => (sb.2 b (fun h => hb (by simp [h]))).trans e
  done := fun s Q E st hQ => by
    have gs : es.size = xs.length := by rw [← Array.length_toList, ge, List.length_map]
    exact stop_k (P := P) (w := w) hh st.1 st.2 gd (by rw [gs]; exact Nat.le_refl _) fun h' he' => hQ h' s.toks fun b o hb e => he' b o (fun h => hb (by simp [h])) e
  self := fun _ _ _ _ st hQ => wpAny_pyIter_keyiter st.1 hQ
theorem gather_dict {Q : List Value → Shared → Prop} (hh : A.handled = none) (hd : (d == sysModules) = false) (go : s.heap.get? d = some o) (R : DRec w o xs)
    (q : ∀ h' tk, (∀ b u, s.heap.get? b = some u → h'.get? b = some u) → Q (xs.map (·.2.1)) { s with heap := h', toks := tk }) : wpAny (model P w) A (collect (.ref d)) Q E s := by
  obtain ⟨es, ep, gd, ge⟩ := R.es
  have lt : d < s.heap.objs.size := Heap.lt_size go
  unfold collect
  refine wpAny_bind (wpAny_runValue (codeAny_builtin F.entry_proto_collect ?_))
  rw [Around.under_plainId F.plain_proto_collect _]
  show wpAny _ A.in1 (newList [] >>= fun l => again (.builtin "list.__iadd__" ⟨[l, .ref d], []⟩)) _ _ s
  refine wpAny_bind (wpAny_newObj_type ?_)
  refine wpAny_pure ⟨plainId_quiet F.plain_list_iadd _, codeAny_builtin F.entry_list_iadd ?_⟩
  rw [Around.under_plainId F.plain_list_iadd _]
  have h1 : Builtin.List.listSameRef (.ref s.heap.objs.size) (.ref d) = false := by simp [Builtin.List.listSameRef, Nat.ne_of_gt lt]
  show wpAny _ A.in1 (Builtin.List.listExtendWith (.ref s.heap.objs.size) (.ref d) (.ref s.heap.objs.size)) _ _ _
  unfold Builtin.List.listExtendWith
  have go1 : (s.heap.push { cls := .type "list", data := .seq ([] : List Value).toArray }).get? d = some o := Heap.get?_push_of_some _ go
  refine wpAny_bind (wpAny_typeOf (T := "dict") ⟨o, go1, R.ex.1⟩ ?_)
  rw [if_neg (by rw [h1]; decide)]
  refine wpAny_bind (iter_k (P := P) (w := w) hd go1 R gd ?_)
  refine wpAny_bind (wpAny_holding ?_)
  have go2 : ((s.heap.push { cls := .type "list", data := .seq ([] : List Value).toArray }).push { cls := .type "dict_keyiterator", data := .fields #[.ref d, .int 0 0, .int es.size 0, .int ep 0] }).get? d = some o := Heap.get?_push_of_some _ go1
  unfold Builtin.List.listLengthHint
  refine wpAny_bind (wpAny_specialOf (T := "dict") ⟨o, go2, R.ex.1⟩ F.slot_dict_len.lookup ?_)
  generalize hid : ("dict.__len__" : String) = id0
  wp_delta
  rw [show splitId id0 = some ("dict", "__len__") from by subst hid; decide +kernel]
  subst hid
  refine wpAny_bind (wpAny_isInstance (T := "dict") (b := true) ⟨o, go2, R.ex.1⟩ (by rw [isSubtype_type]; kernel_rfl) ?_)
  rw [if_neg (by decide)]
  dsimp only
  rw [if_pos (by rfl)]
  refine wpAny_bind (wpAny_typeOf (T := "dict") ⟨o, go2, R.ex.1⟩ (wpAny_pure ?_))
  generalize hs2 : (s.heap.push { cls := .type "list", data := .seq ([] : List Value).toArray }).objs.size = it
  have hit : it = s.heap.objs.size + 1 := by rw [← hs2, Heap.size_push]
  show wpAny _ A.in1 (rule "list.extend.makes-room" >>= fun _ => Builtin.List.listTouch (.ref s.heap.objs.size) >>= fun _ => again (.builtin "list.extend.loop" ⟨[.ref s.heap.objs.size, .ref it, .ref s.heap.objs.size], []⟩)) _ _ _
  refine wpAny_bind (wpAny_rule ?_)
  unfold Builtin.List.listTouch
  have hS1 : ((s.heap.push { cls := .type "list", data := .seq ([] : List Value).toArray }).push { cls := .type "dict_keyiterator", data := .fields #[.ref d, .int 0 0, .int es.size 0, .int ep 0] }).get? s.heap.objs.size = some (seqObj "list" #[] 0) := Heap.get?_push_of_some _ (Heap.get?_push_size _ rfl)
  refine wpAny_bind (wpAny_bind (listUpdate_at hS1 rfl ?_ (Nat.zero_le _) (by show 1 ≤ sizeLine + 1; omega)))
  have hS2 := get?_update_seq hS1 (fun x => x.push Value.none)
  refine listUpdate_at hS2 rfl ?_ (by show 1 ≤ sizeLine; decide) (Nat.zero_le _)
  have hS3 := get?_update_seq hS2 (fun x => x.pop)
  have oth : ∀ b u, b ≠ s.heap.objs.size → ((s.heap.push { cls := .type "list", data := .seq ([] : List Value).toArray }).push { cls := .type "dict_keyiterator", data := .fields #[.ref d, .int 0 0, .int es.size 0, .int ep 0] }).get? b = some u →
      ((((s.heap.push { cls := .type "list", data := .seq ([] : List Value).toArray }).push { cls := .type "dict_keyiterator", data := .fields #[.ref d, .int 0 0, .int es.size 0, .int ep 0] }).update s.heap.objs.size (Obj.mapSeq fun x => x.push Value.none)).update s.heap.objs.size (Obj.mapSeq fun x => x.pop)).get? b = some u :=
    fun b u hb e => (Heap.get?_update_other _ _ (Ne.symm hb)).trans ((Heap.get?_update_other _ _ (Ne.symm hb)).trans e)
  have dit : d ≠ it := by rw [hit]; exact Nat.ne_of_lt (Nat.lt_succ_of_lt lt)
  have W := (walk_k (P := P) (w := w) (A := A.in1) (o := o) (xs := xs) hh it d dit gd ge).toS
  have hSf : s.heap.objs.size ∉ [it, d] := fun h => by
    simp only [List.mem_cons, List.not_mem_nil, or_false] at h
    rcases h with h | h
    · rw [hit] at h; exact absurd h (Nat.ne_of_lt (Nat.lt_succ_self _))
    · rw [← h] at lt; exact Nat.lt_irrefl _ lt
  have gi : ((s.heap.push { cls := .type "list", data := .seq ([] : List Value).toArray }).push { cls := .type "dict_keyiterator", data := .fields #[.ref d, .int 0 0, .int es.size 0, .int ep 0] }).get? it = some { cls := .type "dict_keyiterator", data := .fields #[.ref d, .int 0 0, .int es.size 0, .int ep 0] } := by
    rw [← hs2]; exact Heap.get?_push_size _ rfl
  have nit : it ≠ s.heap.objs.size := by rw [hit]; exact Nat.succ_ne_self _
  refine wpAny_pure ⟨plainId_quiet F.plain_extend_loop _, codeAny_extend_loopS W (by have := R.sz; exact this) _ hSf _ xs.length 0 _ _ _ rfl (Nat.zero_le _) ⟨⟨_, oth it _ nit gi, rfl, rfl⟩, oth d _ (Nat.ne_of_lt lt) go2⟩ hS3 (ItemsOf.nil _) fun s' acc' c' hm hS' hacc => ?_⟩
  show wpAny _ A (load s.heap.objs.size >>= _) _ _ s'
  refine wpAny_bind (wpAny_load hS' (wpAny_pure ?_))
  have e : acc'.toList = xs.map (·.2.1) := by
    apply List.ext_getElem?
    intro j
    by_cases hj : j < xs.length
    · have h1 : acc'[j]? = some (acc'[j]'(by rw [hacc.1]; exact hj)) := Array.getElem?_eq_getElem _
      rw [Array.getElem?_toList, h1]
      exact (hacc.2 j _ h1).symm
    · rw [List.getElem?_eq_none (by rw [Array.length_toList, hacc.1]; omega), List.getElem?_eq_none (by rw [List.length_map]; omega)]
  rw [e]
  have kp : ∀ b u, s.heap.get? b = some u → s'.heap.get? b = some u := fun b u eb => hm.heap b u (fun h => by
    have lb := Heap.lt_size eb
    simp only [List.mem_cons, List.not_mem_nil, or_false] at h
    rcases h with h | h
    · rw [h] at lb; exact Nat.lt_irrefl _ lb
    · rw [h, hit] at lb; exact absurd lb (Nat.not_lt.mpr (Nat.le_succ _))) (oth b u (Nat.ne_of_lt (Heap.lt_size eb)) (Heap.get?_push_of_some _ (Heap.get?_push_of_some _ eb)))
  have e1 := hm.gens
  have e2 := hm.drawn
  have e3 := hm.os
  obtain ⟨h', g', d', t', o'⟩ := s'
  dsimp only at e1 e2 e3
  subst e1 e2 e3
  exact q h' t' kp
end
end L2

set_option Elab.async false
set_option linter.all false
set_option maxRecDepth 100000
set_option maxHeartbeats 1000000
/-! sorted without a key, any size: the shell; tuples of texts -/
namespace L2.Srt
open PySem PySem.Spec PyProof.Rows L2
theorem upd_upd (H : Hp) (L : Addr) (a b : HO) : upd (upd H L a) L b = upd H L b := funext fun c => by
  by_cases h : c = L
  · subst h; rw [upd_same, upd_same]
  · rw [upd_ne h, upd_ne h, upd_ne h]
theorem pflip {α β : Type} {R : α → β → Prop} : ∀ {l : List α} {m : List β}, Paired R l m → Paired (fun b a => R a b) m l
  | _, _, .nil => .nil
  | _, _, .cons r t => .cons r (pflip t)
section
variable {X : Cx} {pins : List (Addr × Obj)} {σ : St} {H : Hp} {s : Shared} {u : Value} {us : List Value} {vs : List V} {kd : SortKind} {lt : Kd → Kd → Bool}
abbrev Kept (s s' : Shared) : Prop := ∀ b o, s.heap.get? b = some o → s'.heap.get? b = some o
theorem run_sort {Q : VK} (I : Inv X pins σ H s) (hu : X.A.in1.in1.units < cLine) (hv : Vals vs us) (hz : us.length ≤ sizeLine) (O : Ord lt)
    (hg : ∀ (E : Value → Shared → Prop) (Q : List Value → Shared → Prop), (∀ h' tk, (∀ b o, s.heap.get? b = some o → h'.get? b = some o) → Q us { s with heap := h', toks := tk }) → wpAny (model X.prog X.w) X.A.in1 (collect u) Q E s)
    (hk : ∀ (A : Around) (E : Value → Shared → Prop) (s' : Shared) (Q : SortKind → Shared → Prop), 2 ≤ us.length → Kept s s' → Q kd s' → wpAny (model X.prog X.w) A (keyKind' us.toArray) Q E s')
    (ha : ∀ (A : Around) (s' : Shared), A.units < cLine → Kept s s' → Ans X.prog X.w A s' kd (us.toArray.zip us.toArray) lt)
    (q : ∀ l vs' us', H l = Option.none → us'.Perm us → vs'.Perm vs → Vals vs' us' → us'.Pairwise (fun x y => lt (y, y) (x, x) = false) → Q (.ref l) (upd H l (.lst vs'))) :
    wpAny (model X.prog X.w) X.A (call (.builtin "sorted") [u]) (EP X pins σ Q) X.xe s := by
  refine Calls.call_function_entry kind_sorted plain_sorted entry_sorted (args_sorted1 _) ?_
  unfold Builtin.«sorted»
  refine wpAny_bind (m := checkCount "sorted" 1 1 _) (wpAny_pure (wpAny_bind (hg _ _ fun h0 tk keep0 => wpAny_bind (wpAny_newList ?_ hz))))
  show wpAny _ _ _ _ _ { s with heap := h0.push (seqObj "list" us.toArray 0), toks := tk }
  have ho : (h0.push (seqObj "list" us.toArray 0)).get? h0.objs.size = some (seqObj "list" us.toArray 0) := Heap.get?_push_size _ rfl
  have I0 := I.kept (t' := tk) keep0
  have nL : H h0.objs.size = Option.none := I0.hok.fresh (Nat.le_refl _)
  have keep1 : ∀ b o, s.heap.get? b = some o → (h0.push (seqObj "list" us.toArray 0)).get? b = some o := fun b o e => Heap.get?_push_of_some _ (keep0 b o e)
  have I1 := pin_new (t' := tk) (a := h0.objs.size) I0 (h' := h0.push (seqObj "list" us.toArray 0)) (fun b o e => Heap.get?_push_of_some _ e) (Nat.le_refl _) ho
  have nel : ∀ b o, s.heap.get? b = some o → b ≠ h0.objs.size := fun b o e => Nat.ne_of_lt (Heap.lt_size (keep0 b o e))
  generalize hh : h0.push (seqObj "list" us.toArray 0) = h1 at ho keep1 I1 ⊢
  generalize h0.objs.size = L at *
  refine wpAny_bind (wpAny_holding (wpAny_call_entry slot_list_sort ⟨_, ho, rfl⟩ entry_list_sort ?_ (args_list_sort _)))
  show wpAny (model X.prog X.w) X.A.in1.in1 (Builtin.«list.sort» ⟨[.ref L], []⟩) _ _ _
  rw [list_sort_plain]
  refine wpAny_bind (listItems_at ho rfl (wpAny_bind (listUpdate_at ho rfl ?_ (by simpa using hz) (Nat.zero_le _))))
  obtain ⟨e1, ho1⟩ : ∃ e1, (h1.update L (Obj.mapSeq fun _ => (#[] : Array Value))).get? L = some (seqObj "list" #[] e1) := ⟨_, get?_update_seq ho fun _ => #[]⟩
  have I2 := I1.dput (t' := tk) (a := L) upd_same ho1 (Heap.SameBut.update _ _ _)
  have keep2 : ∀ b o, s.heap.get? b = some o → (h1.update L (Obj.mapSeq fun _ => (#[] : Array Value))).get? b = some o := fun b o e => (Heap.SameBut.update h1 L _).extBut b o (nel b o e) (keep1 b o e)
  refine wpAny_bind (seqEpoch_at ho1 rfl (wpAny_bind (wpAny_newTuple (wpAny_bind (wpAny_newList (wpAny_holding ?_) (Nat.zero_le _))) (by simpa using hz))))
  generalize hh3 : ((h1.update L (Obj.mapSeq fun _ => (#[] : Array Value))).push (seqObj "tuple" us.toArray 0)).push (seqObj "list" #[] 0) = h3
  have push3 : ∀ b o, (h1.update L (Obj.mapSeq fun _ => (#[] : Array Value))).get? b = some o → h3.get? b = some o := fun b o e => by rw [← hh3]; exact Heap.get?_push_of_some _ (Heap.get?_push_of_some _ e)
  have I3 := I2.kept (t' := tk) (h' := h3) push3
  have keep3 : ∀ b o, s.heap.get? b = some o → h3.get? b = some o := fun b o e => push3 b o (keep2 b o e)
  have ho3 := push3 L _ ho1
  show wpAny _ _ _ _ _ { s with heap := h3, toks := tk }
  have z0 : (us.toArray.zip us.toArray).toList = us.zip us := by simp
  have zz : ∀ p : Kd, p ∈ us.zip us → p.1 = p.2 := fun p hp => by
    obtain ⟨i, hi, e⟩ := List.getElem_of_mem hp
    rw [← e, List.getElem_zip]
  -- behind the sort
  have tail : ∀ st : SortSt, (arrOf st).Perm (us.toArray.zip us.toArray) → Ls lt (arrOf st).toList → ∃ vs', (((arrOf st).map (·.2)).toList).Perm us ∧ vs'.Perm vs ∧ Vals vs' ((arrOf st).map (·.2)).toList ∧ ((arrOf st).map (·.2)).toList.Pairwise (fun x y => lt (y, y) (x, x) = false) := fun st hp hs => by
    have hp' := Array.perm_iff_toList_perm.mp hp
    rw [z0] at hp'
    have pm : (((arrOf st).map (·.2)).toList).Perm us := by
      rw [Array.toList_map]
      have := hp'.map (·.2)
      rwa [List.map_snd_zip (Nat.le_refl _)] at this
    obtain ⟨vs', pvm, pv⟩ := paired_perm pm (pflip hv)
    refine ⟨vs', pm, pvm, pflip pv, ?_⟩
    rw [Array.toList_map, List.pairwise_map]
    refine List.Pairwise.imp_of_mem (fun {x y} hx hy h => ?_) hs
    have ex := zz x (hp'.mem_iff.mp hx)
    have ey := zz y (hp'.mem_iff.mp hy)
    have h' : lt y x = false := h
    rw [show y = (y.2, y.2) from Prod.ext ey rfl, show x = (x.2, x.2) from Prod.ext ex rfl] at h'
    exact h'
  have after : ∀ (out : List Value) (vs' : List V), out.length = us.length → Vals vs' out → Inv X pins σ (upd H L (.lst vs')) { s with heap := h3.update L (Obj.mapSeq fun _ => out.toArray), toks := tk } := fun out vs' lo pv => by
    have g4 := get?_update_seq ho3 (fun _ => out.toArray)
    have I4 := I3.dput (t' := tk) (a := L) upd_same g4 (Heap.SameBut.update _ _ _)
    have I5 := pin_lst (a := L) (its := out) (vs := vs') I4 upd_same pv (by rw [pv.length, lo]; exact hz)
    rw [upd_upd, upd_upd, upd_upd] at I5
    exact I5
  have szo : ∀ st : SortSt, (arrOf st).Perm (us.toArray.zip us.toArray) → ((arrOf st).map (·.2)).size = us.length := fun st hp => by
    rw [Array.size_map, hp.size_eq]; simp
  by_cases h2 : us.toArray.size < 2
  · rw [if_pos h2, if_pos h2]
    refine wpAny_bind (wpAny_pure ?_)
    dsimp only
    rw [StateT.run_pure]
    refine wpAny_bind (wpAny_pure ?_)
    have hs0 : Ls lt (arrOf (SortSt.mk' general' (us.toArray.zip us.toArray) #[] 7 none)).toList := by
      show Ls lt (us.toArray.zip us.toArray).toList
      rw [z0]
      have l1 : (us.zip us).length ≤ 1 := by rw [List.length_zip]; simp at h2; omega
      match us.zip us, l1 with
      | [], _ => exact .nil
      | [_], _ => exact List.pairwise_singleton _ _
    obtain ⟨vs', pm, pvm, pv, so⟩ := tail _ (Array.Perm.refl _) hs0
    dsimp only
    refine wpAny_bind (seqEpoch_at ho3 rfl (wpAny_bind (listUpdate_at ho3 rfl ?_ (Nat.zero_le _) (Nat.le_trans (Nat.le_of_eq (szo _ (Array.Perm.refl _))) (Nat.le_succ_of_le hz)))))
    simp only [bne_self_eq_false, Bool.false_eq_true, if_false]
    exact wpAny_pure ⟨_, rfl, wpAny_pure ⟨_, rfl, .ref L, _, after _ vs' pm.length_eq pv, rfl, q L vs' _ nL pm pvm pv so⟩⟩
  · rw [if_neg h2, if_neg h2]
    have n2 : 2 ≤ us.length := by simpa using h2
    refine wpAny_bind (hk _ _ _ _ n2 keep3 ?_)
    dsimp only
    refine wpAny_bind (wpAny_mono (w_sort (a₀ := us.toArray.zip us.toArray) (kd := kd) (lt := lt) (st := SortSt.mk' kd (us.toArray.zip us.toArray) #[] 7 none)
      (Q := fun _ st' => SB kd (us.toArray.zip us.toArray) st' ∧ Up lt (arrOf st') 0 (us.toArray.zip us.toArray).size) (ha _ _ ?_ keep3) O ⟨Array.Perm.refl _, rfl, rfl⟩ rfl fun st' b u => ⟨b, u⟩) ?_ fun _ _ e => e)
    · exact hu
    rintro ⟨⟨⟩, st'⟩ s'' ⟨rfl, b, u⟩
    have hs : Ls lt (arrOf st').toList := by
      have := Up.ls (c := arrOf st') (n := (arrOf st').size) (by rw [b.size]; exact u) (Nat.le_refl _)
      rwa [← Array.length_toList, List.take_length] at this
    obtain ⟨vs', pm, pvm, pv, so⟩ := tail st' b.perm hs
    dsimp only
    refine wpAny_bind (seqEpoch_at ho3 rfl (wpAny_bind (listUpdate_at ho3 rfl ?_ (Nat.zero_le _) (Nat.le_trans (Nat.le_of_eq (szo _ b.perm)) (Nat.le_succ_of_le hz)))))
    rw [b.failed]
    simp only [bne_self_eq_false, Bool.false_eq_true, if_false]
    exact wpAny_pure ⟨_, rfl, wpAny_pure ⟨_, rfl, .ref L, _, after _ vs' pm.length_eq pv, rfl, q L vs' _ nL pm pvm pv so⟩⟩
end
/-! ### tuples of texts -/
def sLex : List Str → List Str → Bool
  | _, [] => false
  | [], _ :: _ => true
  | x :: xs, y :: ys => if x = y then sLex xs ys else decide (Nm.lt x y)
theorem sLex_as : ∀ x y, sLex x y = true → sLex y x = false
  | [], [], h => by cases h
  | _ :: _, [], h => by cases h
  | [], _ :: _, _ => rfl
  | x :: xs, y :: ys, h => by
    unfold sLex at h ⊢
    by_cases e : x = y
    · rw [if_pos e] at h
      rw [if_pos e.symm]
      exact sLex_as xs ys h
    · rw [if_neg e] at h
      rw [if_neg (fun z => e z.symm)]
      exact decide_eq_false (Nm.asym (of_decide_eq_true h))
theorem sLex_tr : ∀ x y z, sLex y x = false → sLex z y = false → sLex z x = false
  | [], _, z, _, _ => by cases z <;> rfl
  | _ :: _, [], _, h, _ => by cases h
  | _ :: _, _ :: _, [], _, h => by cases h
  | a :: x, b :: y, c :: z, h1, h2 => by
    unfold sLex at h1 h2 ⊢
    by_cases e1 : b = a
    · subst e1
      rw [if_pos rfl] at h1
      by_cases e2 : c = b
      · rw [if_pos e2] at h2 ⊢
        exact sLex_tr x y z h1 h2
      · rw [if_neg e2] at h2 ⊢
        exact h2
    · rw [if_neg e1] at h1
      have ab : Nm.lt a b := Nm.other e1 (of_decide_eq_false h1)
      by_cases e2 : c = b
      · subst e2
        rw [if_neg e1]
        exact h1
      · rw [if_neg e2] at h2
        have bc : Nm.lt b c := Nm.other e2 (of_decide_eq_false h2)
        have ac := Nm.tr ab bc
        rw [if_neg (fun e => by subst e; exact Nm.irr _ ac)]
        exact decide_eq_false (Nm.asym ac)
/-- the texts behind a value -/
def kStrs (H : Hp) : Value → List Str
  | .ref k => match H k with | some (.tup vs) => (vs.filterMap fun v => match v with | .str x => some x | _ => none) | _ => []
  | _ => []
theorem kStrs_of {H : Hp} {k : Addr} {ss : List Str} (h : H k = some (.tup (ss.map V.str))) : kStrs H (.ref k) = ss := by
  have e : ∀ ss : List Str, ((ss.map V.str).filterMap fun v => match v with | .str x => some x | _ => none) = ss := fun ss => by
    induction ss with
    | nil => rfl
    | cons n ss ih => rw [List.map_cons, List.filterMap_cons]; dsimp only; rw [ih]
  unfold kStrs
  dsimp only
  rw [h]
  exact e ss
section
variable {prog : Program} {w : World} {A : Around} {E : Value → Shared → Prop} {s : Shared}
theorem lex_strs {Q : Bool → Shared → Prop} : ∀ {xs ys : List Value} {ss ts : List Str} (i : Nat), StrsAre xs ss → StrsAre ys ts → Q (sLex ss ts) s → PySem.W.KatLex prog w A true (decide (xs.length < ys.length)) Q (xs.zip ys) i s := by
  have gen : ∀ {xs ys : List Value} {ss ts : List Str} (fin : Bool) (i : Nat), StrsAre xs ss → StrsAre ys ts → (fin = decide (xs.length < ys.length)) → Q (sLex ss ts) s → PySem.W.KatLex prog w A true fin Q (xs.zip ys) i s := by
    intro xs
    induction xs with
    | nil =>
      intro ys ss ts fin i h1 h2 hf q
      cases h1
      cases h2 with
      | nil => rw [List.zip_nil_left]; subst hf; exact PySem.W.kat_nil q
      | cons => rw [List.zip_nil_left]; subst hf; exact PySem.W.kat_nil (by simpa [sLex] using q)
    | cons x xs ih =>
      intro ys ss ts fin i h1 h2 hf q
      cases h1 with
      | cons a t h1 =>
        cases h2 with
        | nil => rw [List.zip_nil_right]; subst hf; exact PySem.W.kat_nil (by simpa [sLex] using q)
        | cons b u h2 =>
          rw [List.zip_cons_cons]
          refine PySem.W.kat_cons (eqBool_str ?_)
          unfold sLex at q
          by_cases e : a = b
          · rw [if_pos e] at q
            rw [show (a == b) = true by simp [e]]
            exact PySem.W.kat_yes (ih fin (i + 1) h1 h2 (by rw [hf]; simp) q)
          · rw [if_neg e] at q
            rw [show (a == b) = false by simp [e]]
            refine PySem.W.kat_no ?_
            cases hb : (true && i == 0) with
            | true => exact (PySem.W.kas_lt_str q : wpAny (model prog w) A (keyLt' oneType' (.str a t) (.str b u)) Q (fun _ _ => False) s)
            | false => exact PySem.W.kat_one _ _ (PySem.P.lt_str q)
  intro xs ys ss ts i h1 h2 q
  exact gen _ i h1 h2 rfl q
end
end L2.Srt

set_option Elab.async false
set_option linter.all false
set_option maxRecDepth 100000
set_option maxHeartbeats 1000000
/-! sorted of a list of tuples of texts, of a dict by such -/
namespace L2
open PySem PySem.Spec PyProof.Rows L2.Srt
theorem Room.units2 {k : Nat} {A : Around} (r : Room k A) : A.in1.in1.units < cLine := by have := r.un; show A.units + 1 + 1 < cLine; omega
def TupS (H : Hp) (v : V) (ss : List Str) : Prop := ∃ a, v = .ref a ∧ H a = some (.tup (ss.map V.str)) ∧ ss ≠ []
section
variable {X : Cx} {pins : List (Addr × Obj)} {σ : St} {H : Hp} {s : Shared}
theorem strsAre_rel : ∀ {ss : List Str} {us : List Value}, Vals (ss.map V.str) us → StrsAre us ss
  | [], _, h => by cases h; exact .nil
  | x :: ss, _, h => by
    cases h with
    | cons r t =>
      obtain ⟨t', rfl⟩ := r
      exact .cons x t' (strsAre_rel t)
theorem sort_tups {u : Value} {us : List Value} {vs : List V} {tss : List (List Str)} {Q : VK} {G : Hp} (le : Same G H) (I : Inv X pins σ H s) (hu : X.A.in1.in1.units < cLine) (hv : Vals vs us) (hz : us.length ≤ sizeLine) (hp : Paired (TupS G) vs tss)
    (hg : ∀ (E : Value → Shared → Prop) (Q : List Value → Shared → Prop), (∀ h' tk, (∀ b o, s.heap.get? b = some o → h'.get? b = some o) → Q us { s with heap := h', toks := tk }) → wpAny (model X.prog X.w) X.A.in1 (collect u) Q E s)
    (q : ∀ l vs' tss', H l = Option.none → Paired (TupS G) vs' tss' → tss'.Perm tss → tss'.Pairwise (fun a b => sLex b a = false) → Q (.ref l) (upd H l (.lst vs'))) :
    wpAny (model X.prog X.w) X.A (call (.builtin "sorted") [u]) (EP X pins σ Q) X.xe s := by
  -- what stands at a value
  have at_ : ∀ {a : Addr} {ss : List Str}, G a = some (.tup (ss.map V.str)) → ∃ its : List Value, StrsAre its ss ∧ ∃ o n, s.heap.get? a = some o ∧ o.cls = .type "tuple" ∧ o.data = .seq its.toArray n := fun {a ss} e => by
    obtain ⟨its, rv, ⟨o, ho, hc, n, hd⟩, _⟩ := I.tuple (SqT.of (le _ _ e))
    exact ⟨its, strsAre_rel rv, o, n, ho, hc, hd⟩
  have tu : Paired (fun (x : Value) ss => ∃ a, x = .ref a ∧ G a = some (.tup (ss.map V.str)) ∧ ss ≠ []) us tss := by
    clear hz hg q
    induction hv generalizing tss with
    | nil => cases hp; exact .nil
    | cons r t ih =>
      cases hp with
      | cons p ps =>
        obtain ⟨a, rfl, e, ne⟩ := p
        exact .cons ⟨a, r, e, ne⟩ (ih ps)
  refine run_sort (kd := tuples' true) (lt := fun x y => sLex (kStrs H x.1) (kStrs H y.1)) I hu hv hz ⟨fun x y => sLex_as _ _, fun x y z => sLex_tr _ _ _⟩ hg (fun A E s' Q h2 kp hQ => ?_) (fun A s' hA kp E x y Q hx hy hQ => ?_) fun l vs' us' nl pm pvm pv so => ?_
  · have : ∃ fs, PySem.W.KatTups s'.heap us fs ∧ (∀ f ∈ fs, ∃ x t, f = Value.str x t) ∧ fs.length = us.length := by
      clear hv hz hg hp h2 q
      induction tu with
      | nil => exact ⟨[], trivial, (fun _ h => nomatch h), rfl⟩
      | cons r t ih =>
        obtain ⟨a, rfl, e, ne⟩ := r
        obtain ⟨fs, k1, k2, k3⟩ := ih
        obtain ⟨its, hs, o, n, ho, hc, hd⟩ := at_ e
        cases hs with
        | nil => exact absurd rfl ne
        | cons x t' hs =>
          refine ⟨.str x t' :: fs, PySem.W.KatTups.cons (kp _ _ ho) hc hd (by simp) k1, fun f hf => ?_, by simp [k3]⟩
          rcases List.mem_cons.mp hf with rfl | hf
          · exact ⟨x, t', rfl⟩
          · exact k2 f hf
    obtain ⟨fs, k1, k2, k3⟩ := this
    refine PySem.W.kat_kind (T := .type "str") k1 (by omega) (fun f hf => ?_) rfl hQ
    obtain ⟨x, t, rfl⟩ := k2 f hf
    exact .now
  · have ask : ∀ z : Kd, z ∈ us.toArray.zip us.toArray → ∃ (a : Addr) (ss : List Str) (its : List Value) (o : Obj) (n : Nat), z.1 = .ref a ∧ kStrs H z.1 = ss ∧ StrsAre its ss ∧ s'.heap.get? a = some o ∧ o.data = .seq its.toArray n := fun z hz' => by
      have hm : z ∈ us.zip us := by
        have : z ∈ (us.toArray.zip us.toArray).toList := Array.mem_toList_iff.mpr hz'
        simpa using this
      have h1 : z.1 ∈ us := (List.of_mem_zip hm).1
      obtain ⟨ss, _, a, e1, e2, _⟩ := paired_mem tu h1
      obtain ⟨its, hs, o, n, ho, hc, hd⟩ := at_ e2
      exact ⟨a, ss, its, o, n, e1, by rw [e1, kStrs_of (le _ _ e2)], hs, kp _ _ ho, hd⟩
    obtain ⟨a, ss, its, o, n, x1, x2, x3, x4, x5⟩ := ask x hx
    obtain ⟨b, ts, jts, o2, n2, y1, y2, y3, y4, y5⟩ := ask y hy
    dsimp only at hQ
    rw [x2, y2] at hQ
    rw [x1, y1]
    refine PySem.W.kat_lt x4 x5 y4 y5 ?_
    have := lex_strs (prog := X.prog) (w := X.w) (A := A) (s := s') (Q := Q) 0 x3 y3 hQ
    simpa using this
  · obtain ⟨tss', tp, pt⟩ := paired_perm pm tu
    have key : ∀ {us' : List Value} {tss' : List (List Str)} {vs' : List V}, Paired (fun (x : Value) ss => ∃ a, x = .ref a ∧ G a = some (.tup (ss.map V.str)) ∧ ss ≠ []) us' tss' → Vals vs' us' → (∀ v ∈ vs', v ∈ vs) → Paired (TupS G) vs' tss' := by
      intro us' tss' vs' h1 h2 h3
      induction h2 generalizing tss' with
      | nil => cases h1; exact .nil
      | @cons v u' vr ur r t ih =>
        cases h1 with
        | cons p ps =>
          obtain ⟨a, rfl, e, ne⟩ := p
          obtain ⟨ss0, _, b, rfl, _, _⟩ := paired_mem hp (h3 v List.mem_cons_self)
          have : Value.ref a = Value.ref b := r
          cases this
          exact .cons ⟨_, rfl, e, ne⟩ (ih ps fun v hv => h3 v (List.mem_cons_of_mem _ hv))
    refine q l vs' tss' nl (key pt pv fun v hv => pvm.mem_iff.mp hv) tp ?_
    refine paired_pw (fun x y ss ts h1 h2 h => ?_) pt so
    obtain ⟨a, rfl, e, _⟩ := h1
    obtain ⟨b, rfl, e', _⟩ := h2
    dsimp only at h
    rw [kStrs_of (le _ _ e), kStrs_of (le _ _ e')] at h
    exact h
end
def tsD (ss : List Str) : PyData := .tuple (ss.map .str)
section
variable {w : World} {K : PySem.W.Frag} {F H : Hp}
theorem tups_rps : ∀ {tss : List (List Str)} {vs : List V}, Paired (TupS F) vs tss → Rps w K F vs (tss.map tsD)
  | _, _, .nil => .nil
  | _, _, .cons ⟨a, e, h, _⟩ t => by
    subst e
    exact .cons (.tup (SqK.of h) (rps_strs _)) (tups_rps t)
where rps_strs : ∀ ss : List Str, Rps w K F (ss.map V.str) (ss.map PyData.str)
  | [] => .nil
  | x :: r => .cons (.str x) (rps_strs r)
end
section
variable {X : Cx} {pos : Pos}
def rhSortTL : RhoO := fun ds C => ∃ tss : List (List Str), ds = [.list (tss.map tsD)] ∧ (∀ ss ∈ tss, ss ≠ []) ∧ ∀ tss' : List (List Str), tss'.Perm tss → tss'.Pairwise (fun a b => sLex b a = false) → C (.lst (tss'.map tsD))
/-! ### sorted(d), d a dict by tuples of texts -/
def kS (ss : List Str) : KD := .inr (ss.map Sum.inr)
theorem call_sortTD {k : Nat} (hc : X.calm = true) (hr : Room k X.A) : CallR X (.builtin "sorted") (fun xs H Q => ∃ F a kvs tss, xs = [.ref a] ∧ Same F H ∧ Ow X.w X.K F H a (.dct kvs) ∧ kvs.map (·.1) = tss.map kS ∧ (∀ ss ∈ tss, ss ≠ []) ∧ ∀ l vs' tss', H l = Option.none → Paired (TupS F) vs' tss' → tss'.Perm tss → tss'.Pairwise (fun a b => sLex b a = false) → Q (.ref l) (upd H l (.lst vs'))) := by
  intro pins s σ H xs us Q I r h
  obtain ⟨F, a, kvs, tss, rfl, le, ⟨o, ys, ws, e, hsm, R, hk, ek, hv, hr'⟩, et, hn, q⟩ := h
  obtain ⟨u, rfl, rx⟩ := vals1 r
  cases rx
  have key : ∀ {ys : List DX} {tss : List (List Str)}, ys.map (·.1) = tss.map kS → (∀ x ∈ ys, KeyR F x.1 x.2.1) → (∀ ss ∈ tss, ss ≠ []) → ∃ vs, Vals vs (ys.map (·.2.1)) ∧ Paired (TupS F) vs tss := by
    intro ys
    induction ys with
    | nil =>
      intro tss e _ _
      cases tss with
      | nil => exact ⟨[], .nil, .nil⟩
      | cons => cases e
    | cons y ys ih =>
      intro tss e hk hn
      cases tss with
      | nil => cases e
      | cons ss tss =>
        rw [List.map_cons, List.map_cons] at e
        injection e with e1 e2
        obtain ⟨vs, v1, v2⟩ := ih e2 (fun x hx => hk x (List.mem_cons_of_mem _ hx)) fun s hs => hn s (List.mem_cons_of_mem _ hs)
        have k1 := hk y List.mem_cons_self
        rw [e1] at k1
        obtain ⟨b, eb, hb⟩ := k1
        refine ⟨.ref b :: vs, .cons eb v1, .cons ⟨b, rfl, ?_, hn ss List.mem_cons_self⟩ v2⟩
        rw [hb, List.map_map]
        rfl
  obtain ⟨vs, v1, v2⟩ := key (ek.trans et) hk hn
  have go := I.pinO e
  exact sort_tups le I hr.units2 v1 (by rw [List.length_map]; exact R.sz) v2 (fun E Q qq => gather_dict (I.ok.hd hc) hsm go R qq) q
def rhSortTD : RhoO := fun ds C => ∃ (kvs : List (KD × PyData)) (tss : List (List Str)), ds = [dictD kvs] ∧ kvs.map (·.1) = tss.map kS ∧ (∀ ss ∈ tss, ss ≠ []) ∧ ∀ tss' : List (List Str), tss'.Perm tss → tss'.Pairwise (fun a b => sLex b a = false) → C (.lst (tss'.map tsD))
theorem c_sortTD {k : Nat} (hc : X.calm = true) (hr : Room k X.A) : CallO X (.builtin "sorted") rhSortTD := ⟨_, call_sortTD hc hr, fun F H xs ds Q C le r c k => by
  obtain ⟨kvs, tss, rfl, et, hn, c⟩ := c
  obtain ⟨v, rfl, rv⟩ := r.one
  obtain ⟨a, rfl, w⟩ := rv.ow
  exact ⟨F, a, kvs, tss, rfl, le, w.grow (Same.refl _) le, et, hn, fun l vs' tss' nl pt pm so => k (.lst (tss'.map tsD)) _ _ nl ⟨vs', upd_same, tups_rps pt⟩ (c tss' pm so)⟩⟩
end
end L2

set_option Elab.async false
set_option linter.all false
set_option maxRecDepth 100000
set_option maxHeartbeats 1000000
namespace L2
open PySem PySem.Spec PyProof.Rows
section
variable {X : Cx} {pos : Pos}
/-- the truth of a list that a name owns -/
def zTruO (i : Nat) : TauT := fun ev C => match ev[i]? with | some (.own (.lst ds)) => C (!ds.isEmpty) ev | _ => False
end
end L2

set_option Elab.async false
set_option linter.all false
set_option maxRecDepth 100000
set_option maxHeartbeats 1000000
/-! a comprehension whose items bring cells -/
namespace L2
open PySem PySem.Spec PyProof.Rows
def celN : Str := Str.ofString ".cel"
def sigC (cn : List Str) (js : List Nat) (σ : St) (D : Addr) : St := sigY cn js σ D ++ [none]
def evC (cn : Nat) (outer : List Sl) (acc : List PyData) (os : Cells) : Ev := evY cn outer acc ++ [.cel os]
def CpEC (k : Nat) (acc : List PyData) (J : List PyData → Cells → Prop) : PyData → Ev → Prop := fun d ev => ev[k]? = some (.own (.lst acc)) ∧ acc.length < sizeLine ∧ ∃ os, ev[k + 1]? = some (.cel os) ∧ J (acc ++ [d]) os
def CpTC (k : Nat) (acc : List PyData) (τe : TauE) (J : List PyData → Cells → Prop) : Bool → Ev → Prop := fun b ev => if b = true then τe ev (CpEC k acc J) else ev[k]? = some (.own (.lst acc)) ∧ ∃ os, ev[k + 1]? = some (.cel os) ∧ J acc os
def CpGC (k : Nat) (acc : List PyData) (τt : TauT) (τe : TauE) (J : List PyData → Cells → Prop) : Ev → Prop := fun ev => τt ev (CpTC k acc τe J)
def CompDC (ds : List PyData) (cn k : Nat) (outer : List Sl) (γ : TauG) (τt : TauT) (τe : TauE) (C : List PyData → Cells → Prop) : Prop :=
  ∃ J : Nat → List PyData → Cells → Prop, J 0 [] [] ∧ (∀ i x acc os, ds[i]? = some x → J i acc os → γ x (evC cn outer acc os) (CpGC k acc τt τe (J (i + 1)))) ∧ ∀ acc os, J ds.length acc os → C acc os
section
variable {X : Cx} {pins pl : List (Addr × Obj)} {σ : St} {H H2 F₀ F2 : Hp} {s s2 : Shared} {ev : Ev} {scope : Scope} {cn fr N : List Str} {js : List Nat} {fp : List Addr} {it : Addr} {E : Value → Shared → Prop} {C : Addr} {pn : List (Addr × Obj)} {s₀ : Shared} {H₀ : Hp}
theorem inv_more (I : Inv (X.blk (cn ++ (fr ++ [accN])) scope C s₀ H₀ fp pn) pl σ H s) : Inv (X.blk (cn ++ (fr ++ [accN, celN])) scope C s₀ H₀ fp pn) pl (σ ++ [none]) H s := by
  have hl : σ.length = (cn ++ (fr ++ [accN])).length := I.len
  have eN : cn ++ (fr ++ [accN, celN]) = (cn ++ (fr ++ [accN])) ++ [celN] := by simp
  have ok := I.ok
  refine ⟨⟨ok.mod, ok.kind, ok.glob, ok.blt, ok.above, ok.inj, ok.has, ok.cab, ok.hd, ok.frames, ok.stk, ok.exf, ok.bs, ok.bsz, ok.noex, ok.exfs, ok.funs, ok.frf⟩, I.os, I.bare, I.base, ?_, I.cell, I.free, I.freeC, I.pin, I.hok, ?_⟩
  · obtain ⟨m, hn, k⟩ := I.loc
    refine ⟨m, hn, fun i x v e1 e2 e3 => ?_⟩
    have e1' : (cn ++ (fr ++ [accN, celN]))[i]? = some x := e1
    by_cases hi : i < σ.length
    · rw [List.getElem?_append_left hi] at e2
      rw [eN, List.getElem?_append_left (by rw [← hl]; exact hi)] at e1'
      exact k i x v e1' e2 e3
    · rw [List.getElem?_append_right (by omega)] at e2
      cases z : i - σ.length with
      | zero => rw [z] at e2; cases e2
      | succ n => rw [z] at e2; simp at e2
  · show (σ ++ [none]).length = (cn ++ (fr ++ [accN, celN])).length
    rw [List.length_append, hl, eN, List.length_append (as := cn ++ (fr ++ [accN]))]
    rfl
theorem sigC_at {D : Addr} : (sigC cn js σ D)[cn.length + js.length]? = some (some (.ref D)) := by
  unfold sigC sigY
  rw [List.getElem?_append_left (by rw [List.length_append, List.length_replicate, List.length_append, List.length_map, List.length_singleton]; omega), List.getElem?_append_right (by rw [List.length_replicate]; omega), List.length_replicate, Nat.add_sub_cancel_left, List.getElem?_append_right (by rw [List.length_map]; omega), List.length_map, Nat.sub_self]
  rfl
theorem rsYC {w : World} {K : PySem.W.Frag} {H₀ F' H' : Hp} {D : Addr} {acc : List PyData} {os : Cells} (R2 : RS w K H₀ F₀ F2 ev σ H2) (rb : RB H2 F2 F' H') (wo : Ow w K F' H' D (.lst acc)) (hf : F' D = none) (h2 : H2 D = none) (wC : CelN w K F' H2 H' os) (hD : ∀ m, (D, m) ∉ os) :
    RS w K H2 F2 F' (evC cn.length (outY js ev) acc os) (sigC cn js σ D) H' := by
  have R := rsY (cn := cn) (js := js) R2 rb wo hf h2
  have hl := R.len
  -- a slot of the longer row
  have key : ∀ {i : Nat} {sl : Sl}, (evC cn.length (outY js ev) acc os)[i]? = some sl → (∀ o, sl ≠ .cel o) → (evY cn.length (outY js ev) acc)[i]? = some sl ∧ (sigC cn js σ D)[i]? = (sigY cn js σ D)[i]? := fun {i sl} e n => by
    unfold evC at e
    by_cases hi : i < (evY cn.length (outY js ev) acc).length
    · rw [List.getElem?_append_left hi] at e
      refine ⟨e, ?_⟩
      unfold sigC
      rw [List.getElem?_append_left (by rw [← hl]; exact hi)]
    · rw [List.getElem?_append_right (by omega)] at e
      cases z : i - (evY cn.length (outY js ev) acc).length with
      | zero => rw [z] at e; exact absurd (Option.some.inj e).symm (n os)
      | succ k => rw [z] at e; simp at e
  have cl : ∀ {i : Nat} {o : Cells}, (evC cn.length (outY js ev) acc os)[i]? = some (.cel o) → i = (evY cn.length (outY js ev) acc).length ∧ o = os := fun {i o} e => by
    unfold evC at e
    by_cases hi : i < (evY cn.length (outY js ev) acc).length
    · rw [List.getElem?_append_left hi] at e
      unfold evY outY at e
      exfalso
      rcases List.mem_append.mp (List.mem_of_getElem? e) with z | z
      · cases List.eq_of_mem_replicate z
      · rcases List.mem_append.mp z with z | z
        · obtain ⟨j, _, e⟩ := List.mem_map.mp z
          unfold outS at e
          split at e <;> cases e
        · cases List.mem_singleton.mp z
    · rw [List.getElem?_append_right (by omega)] at e
      cases z : i - (evY cn.length (outY js ev) acc).length with
      | zero =>
        rw [z] at e
        cases (Option.some.inj e)
        exact ⟨by omega, rfl⟩
      | succ k => rw [z] at e; simp at e
  refine ⟨R.toRB, ?_, fun i d e => ?_, fun i m e => ?_, fun i j m m' a e1 e2 q1 q2 => ?_, fun i C e => ?_, fun i o e => ?_, fun i j o o' e1 e2 => ?_⟩
  · unfold evC sigC
    rw [List.length_append, List.length_append, hl]
    rfl
  · obtain ⟨e1, e2⟩ := key e (fun o z => nomatch z)
    rw [e2]; exact R.val i d e1
  · obtain ⟨e1, e2⟩ := key e (fun o z => nomatch z)
    rw [e2]; exact R.own i m e1
  · obtain ⟨a1, a2⟩ := key e1 (fun o z => nomatch z)
    obtain ⟨b1, b2⟩ := key e2 (fun o z => nomatch z)
    rw [a2] at q1
    rw [b2] at q2
    exact R.uni i j m m' a a1 b1 q1 q2
  · obtain ⟨e1, e2⟩ := key e (fun o z => nomatch z)
    rw [e2]; exact R.exc i C e1
  · obtain ⟨_, rfl⟩ := cl e
    refine ⟨wC.1, fun a m hm => ?_⟩
    obtain ⟨q1, q2, q3⟩ := wC.2 a m hm
    refine ⟨q1, q2, q3, fun j m' ej z => ?_⟩
    obtain ⟨b1, b2⟩ := key ej (fun o z => nomatch z)
    rw [b2] at z
    obtain ⟨a', s1, _, _, h0⟩ := R.own j m' b1
    rw [z] at s1
    cases s1
    -- the only thing owned there is the growing list
    have : a = D := by
      have e3 : (evY cn.length (outY js ev) acc)[cn.length + js.length]? = some (.own (.lst acc)) := by
        unfold evY outY
        rw [List.getElem?_append_right (by rw [List.length_replicate]; omega), List.length_replicate, Nat.add_sub_cancel_left, List.getElem?_append_right (by rw [List.length_map]; omega), List.length_map, Nat.sub_self]
        rfl
      have only : j = cn.length + js.length := by
        unfold evY outY at b1
        by_cases hj : j < cn.length
        · rw [List.getElem?_append_left (by rw [List.length_replicate]; exact hj), List.getElem?_replicate, if_pos hj] at b1
          cases b1
        · rw [List.getElem?_append_right (by rw [List.length_replicate]; omega), List.length_replicate] at b1
          by_cases hn : j - cn.length < js.length
          · rw [List.getElem?_append_left (by rw [List.length_map]; exact hn), List.getElem?_map] at b1
            cases q : js[j - cn.length]? with
            | none => rw [q] at b1; cases b1
            | some x =>
              rw [q] at b1
              have b1 : outS ev[x]? = .own m' := Option.some.inj b1
              unfold outS at b1
              split at b1 <;> cases b1
          · rw [List.getElem?_append_right (by rw [List.length_map]; omega), List.length_map] at b1
            cases z : j - cn.length - js.length with
            | zero => omega
            | succ k => rw [z] at b1; simp at b1
      rw [only] at z
      have sD : (sigY cn js σ D)[cn.length + js.length]? = some (some (.ref D)) := by
        unfold sigY
        rw [List.getElem?_append_right (by rw [List.length_replicate]; omega), List.length_replicate, Nat.add_sub_cancel_left, List.getElem?_append_right (by rw [List.length_map]; omega), List.length_map, Nat.sub_self]
        rfl
      rw [sD] at z
      cases z
      rfl
    subst this
    exact hD m hm
  · rw [(cl e1).1, (cl e2).1]
theorem comp_coreC {elt tg iter : Expr} {ifs : List Expr} {pos : Pos} {J : It} {tn : Nat → Heap → Prop} {n : Nat} {vs : Nat → Option V} {ds : List PyData} {γ : TauG} {τt : TauT} {τe : TauE} {S : List Nat} {Cc : List PyData → Cells → Prop} {RR' : Value → Addr → Result → Shared → Prop}
    (I2 : Inv X pins σ H2 s2) (T : Turn X.prog X.w X.K tg J fp it tn) (st2 : tn 0 s2.heap) (f2 : ∀ b ∈ fp, FpOk X pins H2 b) (hc : X.calm = true) (B : BlkOk X scope cn fr js) (hacc : (accN, NameKind.free) ∉ scope.names) (hacc' : (accN, NameKind.local) ∉ scope.names)
    (R2 : RS X.w X.K X.H₀ F₀ F2 ev σ H2) (O : ItOk J F2 n vs) (hv : ∀ i x, i < n → vs i = some x → ∃ d, ds[i]? = some d ∧ Rp X.w X.K F2 x d) (hn : n = ds.length) (hS : ∀ j ∈ S, j < cn.length)
    (hγ : ∀ C, QG (X.blk (cn ++ (fr ++ [accN, celN])) scope C s2 H2 fp (X.pn ++ pins)) S tg γ) (hτt : ∀ C, QF (X.blk (cn ++ (fr ++ [accN, celN])) scope C s2 H2 fp (X.pn ++ pins)) ifs τt) (hτe : ∀ C, QE (X.blk (cn ++ (fr ++ [accN, celN])) scope C s2 H2 fp (X.pn ++ pins)) elt τe)
    (h : CompDC ds cn.length (cn.length + js.length) (outY js ev) γ τt τe Cc)
    (hRR : ∀ D C H' s' F' acc os m, s2.heap.objs.size ≤ C → D ≠ C → H2 D = none → Inv (X.blk (cn ++ (fr ++ [accN, celN])) scope C s2 H2 fp (X.pn ++ pins)) [] (sigC cn js σ D) H' s' → s'.heap.Ns C m → RB H2 F2 F' H' → Ow X.w X.K F' H' D (.lst acc) → F' D = none → CelN X.w X.K F' H2 H' os → (∀ m, (D, m) ∉ os) → Cc acc os → RR' (.ref D) C (.ok .next) s') :
    wpAny (model X.prog X.w) X.A (newList []) (fun acc s₃ => wpAny (model X.prog X.w) X.A (newFunctionEnv scope X.env.globals (closOf scope.names X.env.cells []) [] X.env.qual none .none (some X.env)) (fun cenv s₄ =>
      codeAny (model X.prog X.w) X.A (.compStart (.ListComp elt [⟨tg, iter, ifs, 0⟩] scope pos) 0 (.ref it) acc { cenv with scope := relabel scope X.env }) (RR' acc cenv.locals) s₄) E s₃) E s2 := by
  obtain ⟨Jv, j0, jt, je⟩ := h
  refine wpAny_newObj_type (wpAny_newFunctionEnv B.nocell (by intro y hy; simp at hy) (fun h₁ hns₁ hsb₁ => ?_) B.kind)
  dsimp only at hns₁ hsb₁ ⊢
  generalize hG : s2.heap.push { cls := .type "list", dict := none, data := .seq ([] : List Value).toArray } = G2 at hns₁ hsb₁ ⊢
  have hC : G2.objs.size = s2.heap.objs.size + 1 := by rw [← hG, Heap.size_push]
  have hDC : s2.heap.objs.size ≠ G2.objs.size := by rw [hC]; exact Nat.ne_of_lt (Nat.lt_succ_self _)
  have hCle : s2.heap.objs.size ≤ G2.objs.size := by rw [hC]; exact Nat.le_succ _
  have below : ∀ b, b < s2.heap.objs.size → b ≠ G2.objs.size := fun b hb => by rw [hC]; exact Nat.ne_of_lt (Nat.lt_succ_of_lt hb)
  have old : ∀ b o, s2.heap.get? b = some o → h₁.get? b = some o := fun b o e => hsb₁.extBut b o (below b (Heap.lt_size e)) (Heap.get?_push_of_some _ (hG ▸ Heap.get?_push_of_some _ e))
  have hl : h₁.get? s2.heap.objs.size = some { cls := .type "list", data := .seq #[] 0 } := hsb₁.extBut _ _ hDC (Heap.get?_push_of_some _ (hG ▸ Heap.get?_push_size _ rfl))
  have hob : ∀ b ∈ fp, ∃ o, s2.heap.get? b = some o := fun b hb => by
    obtain ⟨o, e, _⟩ := T.obj 0 _ st2 b hb
    exact ⟨o, e⟩
  have hD0 : H2 s2.heap.objs.size = none := I2.hok.fresh (Nat.le_refl _)
  generalize hD : s2.heap.objs.size = D at *
  generalize G2.objs.size = C at *
  obtain ⟨g, hgg, kg⟩ := hγ C
  obtain ⟨tt, htt, kt⟩ := hτt C
  obtain ⟨te, hte, ke⟩ := hτe C
  have IY : Inv (X.blk (cn ++ (fr ++ [accN, celN])) scope C s2 H2 fp (X.pn ++ pins)) [] (sigC cn js σ D) (upd H2 D (.lst [])) { s2 with heap := h₁, toks := s2.toks + ([] : List (Str × Value)).length } :=
    inv_more <| blk_inv I2 B f2 hob (by rw [hD]; exact hCle) (by rw [hD]; exact Nat.le_refl _) hDC hacc hacc' old hns₁ hl rfl rfl
  have fpY : ∀ {H' : Hp} {pl : List (Addr × Obj)}, (∀ b ∈ fp, H' b = none) → (∀ p ∈ pl, p.1 ∉ fp) → ∀ b ∈ fp, FpOk (X.blk (cn ++ (fr ++ [accN, celN])) scope C s2 H2 fp (X.pn ++ pins)) pl H' b := fun {H' pl} hn hp b hb => by
    refine ⟨hn b hb, (IY.ok.exf b hb).1, IY.ok.exfs b hb, .inl hb, (IY.ok.exf b hb).2, fun p hpm => ?_⟩
    rcases List.mem_append.mp hpm with z | z
    · exact (f2 b hb).2.2.2.2.2 p z
    · exact fun q => hp p z (by rw [q]; exact hb)
  have rb0 : RB H2 F2 F2 (upd H2 D (.lst [])) := ⟨R2.le.trans (same_upd hD0), same_upd hD0, Same.refl _, fun _ z => .inl z⟩
  have fr0 : F2 D = none := R2.le.free hD0
  have frD : ∀ b ∈ fp, upd H2 D (.lst []) b = none := fun b hb => by
    obtain ⟨o, e⟩ := hob b hb
    have lt := Heap.lt_size e
    rw [hD] at lt
    rw [upd_ne (Nat.ne_of_lt lt)]
    exact (f2 b hb).1
  have loop : ∀ (s₃ : Shared), s₃ = { s2 with heap := h₁, toks := s2.toks + ([] : List (Str × Value)).length } →
      codeAny (model X.prog X.w) X.A (.compLoop (.ListComp elt [⟨tg, iter, ifs, 0⟩] scope pos) 0 (.ref it) (.ref D) (compEnvC scope (closOf scope.names X.env.cells []) C X.env)) (RR' (.ref D) C) s₃ := by
    rintro s₃ rfl
    refine compLoop_own (fun k s' => ∃ i acc os H' F', k = n - i ∧ i ≤ n ∧ Inv (X.blk (cn ++ (fr ++ [accN, celN])) scope C s2 H2 fp (X.pn ++ pins)) [] (sigC cn js σ D) H' s' ∧ tn i s'.heap ∧ (∀ b ∈ fp, H' b = none) ∧ RB H2 F2 F' H' ∧ Ow X.w X.K F' H' D (.lst acc) ∧ F' D = none ∧ CelN X.w X.K F' H2 H' os ∧ (∀ m, (D, m) ∉ os) ∧ Jv i acc os) ?_ n
      ⟨0, [], [], _, F2, rfl, Nat.zero_le _, IY, T.keep _ _ _ st2 fun b _ o e => old b o e, frD, rb0, ⟨[], upd_same, .nil⟩, fr0, ⟨.nil, fun a m hm => nomatch hm⟩, (fun m hm => nomatch hm), j0⟩
    rintro k s' ⟨i, acc, os, H', F', rfl, hi, I', st', fr', rb', w', hf', wC', hDC', j'⟩
    by_cases hlt : i < n
    · refine wpAny_mono (T.item (X.blk (cn ++ (fr ++ [accN, celN])) scope C s2 H2 fp (X.pn ++ pins)) rfl rfl rfl hc i [] s' _ H' (fun _ _ => False) I' (fpY fr' (fun _ z => nomatch z)) st' (O.go i H' (rb'.f0.trans rb'.le) hlt)) (fun r s4 h4 => ?_) fun _ _ z => z.elim
      obtain ⟨u, rfl, h4⟩ := h4
      refine wpAny_mono h4 (fun _ s5 h5 => ?_) fun _ _ z => z.elim
      obtain ⟨x, H5, I5, r5, y5, st5, fr5⟩ := h5
      obtain ⟨rfl, hvx⟩ := O.yld i H' x H5 (rb'.f0.trans rb'.le) hlt y5
      obtain ⟨d, hd, rd⟩ := hv i x hlt hvx
      have I5' := I5.pinned (fpY fr5 (fun _ z => nomatch z)) (T.obj _ _ st5)
      have RY : RS X.w X.K H2 F2 F' (evC cn.length (outY js ev) acc os) (sigC cn js σ D) H5 := rsYC R2 rb' w' hf' hD0 wC' hDC'
      refine wpAny_mono (hgg _ s5 _ H5 x u _ I5' r5 (kg F2 _ F' _ H5 x d (fun σ6 H6 => ∃ ev6, RS X.w X.K H2 F2 F' ev6 σ6 H5 ∧ H6 = H5 ∧ (∀ j, j ∉ S → σ6[j]? = (sigC cn js σ D)[j]?) ∧ CpGC (cn.length + js.length) acc τt τe (Jv (i + 1)) ev6) _ RY (rd.mono rb'.f0) (jt i d acc os hd j') fun ev6 σ6 R6 e6 c6 => ⟨ev6, R6, rfl, e6, c6⟩)) (fun _ s6 h6 => ?_) fun _ _ z => z.elim
      obtain ⟨σ6, H6, I6, ev6, R6, rfl, e6, c6⟩ := h6
      have back : ∀ {pl : List (Addr × Obj)} {H7 : Hp} {s7 : Shared}, Inv (X.blk (cn ++ (fr ++ [accN, celN])) scope C s2 H2 fp (X.pn ++ pins)) pl σ6 H7 s7 → Inv (X.blk (cn ++ (fr ++ [accN, celN])) scope C s2 H2 fp (X.pn ++ pins)) pl (sigC cn js σ D) H7 s7 := fun {pl H7 s7} I7 =>
        I7.weak (by rw [I7.len]; exact IY.len) fun j v q => by
          rw [e6 j (fun hj => ?_)]
          · exact q
          · have hjl := hS j hj
            unfold sigC sigY at q
            rw [List.getElem?_append_left (by rw [List.length_append, List.length_replicate]; omega), List.getElem?_append_left (by rw [List.length_replicate]; exact hjl), List.getElem?_replicate] at q
            split at q <;> cases q
      have sD : σ6[cn.length + js.length]? = some (some (.ref D)) := by
        rw [e6 _ (fun hj => by have := hS _ hj; omega)]
        exact sigC_at
      have fin : ∀ {H7 : Hp} {s7 : Shared} {F7 : Hp} {ev7 : Ev} {acc' : List PyData} {os' : Cells}, Inv (X.blk (cn ++ (fr ++ [accN, celN])) scope C s2 H2 fp (X.pn ++ pins)) ([] ++ pinsAt fp s5.heap) σ6 H7 s7 → RS X.w X.K H2 F2 F7 ev7 σ6 H7 → ev7[cn.length + js.length]? = some (.own (.lst acc')) → ev7[cn.length + js.length + 1]? = some (.cel os') → Jv (i + 1) acc' os' →
          ∃ m, m < n - i ∧ ∃ i acc os H' F', m = n - i ∧ i ≤ n ∧ Inv (X.blk (cn ++ (fr ++ [accN, celN])) scope C s2 H2 fp (X.pn ++ pins)) [] (sigC cn js σ D) H' s7 ∧ tn i s7.heap ∧ (∀ b ∈ fp, H' b = none) ∧ RB H2 F2 F' H' ∧ Ow X.w X.K F' H' D (.lst acc) ∧ F' D = none ∧ CelN X.w X.K F' H2 H' os ∧ (∀ m, (D, m) ∉ os) ∧ Jv i acc os := fun {H7 s7 F7 ev7 acc' os'} I7 R7 e7 e7C j7 => by
        obtain ⟨a, s1, w7, hf7, _⟩ := R7.own _ _ e7
        rw [sD] at s1; cases s1
        obtain ⟨ndC, kC⟩ := R7.cel _ _ e7C
        refine ⟨n - (i + 1), by omega, i + 1, acc', os', H7, F7, rfl, hlt, (back I7).unpinned, T.keep _ _ _ st5 fun b hb o e => (I7.pin (b, o) (List.mem_append_right _ (List.mem_append_right _ (mem_pinsAt hb e)))).1, fun b hb => ?_, R7.toRB, w7, hf7, ⟨ndC, fun a m hm => ⟨(kC a m hm).1, (kC a m hm).2.1, (kC a m hm).2.2.1⟩⟩, (fun m hm => (kC _ m hm).2.2.2 _ _ e7 sD), j7⟩
        obtain ⟨o, e, d⟩ := T.obj _ _ st5 b hb
        exact (I7.pin (b, o) (List.mem_append_right _ (List.mem_append_right _ (mem_pinsAt hb e)))).2.1
      refine wpAny_mono (htt _ s6 σ6 H6 _ I6 (kt F2 ev6 F' σ6 H6 (fun b H7 => ∃ ev7 F7, RS X.w X.K H2 F2 F7 ev7 σ6 H7 ∧ CpTC (cn.length + js.length) acc τe (Jv (i + 1)) b ev7) _ R6 c6 fun b ev7 F7 H7 R7 s7 c7 => ⟨ev7, F7, R7, c7⟩)) (fun b s7 h7 => ?_) fun _ _ z => z.elim
      obtain ⟨H7, I7, ev7, F7, R7, c7⟩ := h7
      cases b with
      | false =>
        unfold CpTC at c7
        rw [if_neg Bool.false_ne_true] at c7 ⊢
        obtain ⟨os', c7C, c7J⟩ := c7.2
        exact fin I7 R7 c7.1 c7C c7J
      | true =>
        unfold CpTC at c7
        rw [if_pos rfl] at c7 ⊢
        refine wpAny_mono (hte _ s7 σ6 H7 _ I7 (ke F2 ev7 F7 σ6 H7 (fun v H8 => ∃ d8 ev8 F8, RS X.w X.K H2 F2 F8 ev8 σ6 H8 ∧ Rp X.w X.K F8 v d8 ∧ CpEC (cn.length + js.length) acc (Jv (i + 1)) d8 ev8) _ R7 c7 fun d8 ev8 F8 v H8 R8 r8 s8 c8 => ⟨d8, ev8, F8, R8, r8, c8⟩)) (fun y s8 h8 => ?_) fun _ _ z => z.elim
        obtain ⟨v8, H8, I8, rv8, d8, ev8, F8, R8, r8, c8⟩ := h8
        obtain ⟨os', c8C, c8J⟩ := c8.2.2
        obtain ⟨a, vs8, s1, h1, h3⟩ := R8.item c8.1
        rw [sD] at s1; cases s1
        refine wpAny_mono (mt_append (X := X.blk (cn ++ (fr ++ [accN, celN])) scope C s2 H2 fp (X.pn ++ pins)) _ s8 σ6 H8 (.ref D) [v8] (.ref D) [y] (fun _ H9 => H9 = upd H8 D (.lst (vs8 ++ [v8]))) I8 rfl (.cons rv8 .nil) ⟨D, vs8, v8, rfl, rfl, h1, by rw [h3.length]; exact c8.2.1, rfl⟩) (fun _ s9 h9 => ?_) fun _ _ z => z.elim
        obtain ⟨_, H9, I9, _, rfl⟩ := h9
        exact fin I9 (R8.change c8.1 sD (m' := .lst (acc ++ [d8])) ⟨_, upd_same, h3.append (.cons r8 .nil)⟩) (by
          rw [List.getElem?_set_self (List.getElem?_eq_some_iff.mp c8.1).1]) (by
          rw [List.getElem?_set_ne (by omega)]; exact c8C) c8J
    · have e : i = n := by omega
      subst e
      refine wpAny_mono (T.done (X.blk (cn ++ (fr ++ [accN, celN])) scope C s2 H2 fp (X.pn ++ pins)) rfl rfl rfl hc i [] s' _ H' (fun _ _ => False) I' (fpY fr' (fun _ z => nomatch z)) st' (O.stop H' (rb'.f0.trans rb'.le))) (fun r s4 h4 => ?_) fun _ _ z => z.elim
      obtain ⟨rfl, I4⟩ := h4
      obtain ⟨m, hm, _⟩ := I4.loc
      exact hRR D C H' s4 F' acc os m hCle hDC hD0 I4 hm rb' w' hf' wC' hDC' (je acc os (by rw [← hn]; exact j'))
  exact codeAny_compStart_list (loop _ rfl) (T.self _ 0 _ _ _ (T.keep _ _ _ st2 fun b _ o e => old b o e) (loop _ rfl))
end
end L2

set_option Elab.async false
set_option linter.all false
set_option maxRecDepth 100000
set_option maxHeartbeats 1000000
namespace L2
open PySem PySem.Spec PyProof.Rows
section
variable {X : Cx} {elt tg iter : Expr} {ifs : List Expr} {scope : Scope} {pos : Pos} {cn fr : List Str} {js S : List Nat} {g : Nat} {γ : TauG} {τt : TauT} {τe : TauE}
/-- what the source has brought -/
def SrcC (X : Cx) (F₀ F : Hp) (σ : St) (cn : List Str) (js : List Nat) (g : Nat) (γ : TauG) (τt : TauT) (τe : TauE) (C : MV → Ev → Prop) (J : It) (H1 : Hp) : Prop :=
  ∃ (F1 : Hp) (ev1 : Ev) (n : Nat) (vs : Nat → Option V) (ds : List PyData) (os0 : Cells), RS X.w X.K X.H₀ F₀ F1 ev1 σ H1 ∧ ItOk J F1 n vs ∧ (∀ i x, i < n → vs i = some x → ∃ d, ds[i]? = some d ∧ Rp X.w X.K F1 x d) ∧ n = ds.length ∧ Same F F1 ∧
    (frzAll js ev1)[g]? = some (.cel os0) ∧ CompDC ds cn.length (cn.length + js.length) (outY js (frzAll js ev1)) γ τt τe (fun acc os => (∀ a m m', (a, m) ∈ os → (a, m') ∉ os0) → C (.lst acc) ((frzAll js ev1).set g (.cel (os ++ os0))))
/-- name = [..], stored within the block's leaving -/
theorem q_setCompC (i : Nat) {y : Str} {py spos : Pos} {wi : TI} {τs : Ev → (MV → Ev → Prop) → Prop} (hN : X.N.Nodup) (hi : PI X tg iter wi) (hsrc : ∀ (F₀ : Hp) (ev : Ev) (F : Hp) (σ : St) (H : Hp) (C : MV → Ev → Prop), RS X.w X.K X.H₀ F₀ F ev σ H → τs ev C → wi σ H (SrcC X F₀ F σ cn js g γ τt τe C))
    (hc : X.calm = true) (B : BlkOk X scope cn fr js) (hacc : (accN, NameKind.free) ∉ scope.names) (hacc' : (accN, NameKind.local) ∉ scope.names) (hS : ∀ j ∈ S, j < cn.length)
    (hγ : ∀ C s₀ H₀ fp pn, QG (X.blk (cn ++ (fr ++ [accN, celN])) scope C s₀ H₀ fp pn) S tg γ) (hτt : ∀ C s₀ H₀ fp pn, QF (X.blk (cn ++ (fr ++ [accN, celN])) scope C s₀ H₀ fp pn) ifs τt) (hτe : ∀ C s₀ H₀ fp pn, QE (X.blk (cn ++ (fr ++ [accN, celN])) scope C s₀ H₀ fp pn) elt τe)
    (hsw : swapsWith (.ListComp elt [⟨tg, iter, ifs, 0⟩] scope pos) (some (.Name y py)) spos.line X.env = pure true := by rfl) (hiN : X.N[i]? = some y := by rfl) (hx : Loc X.env.scope y := by first | exact Or.inl rfl | exact Or.inr rfl)
    (hf : X.fn y = true ∨ X.env.scope.names.lookup y = some .local := by first | exact .inl rfl | exact .inr rfl)
    (hs : ∀ x, foldedSetIterable iter X.env x = pure x := by intro _; rfl) : QS X (.Assign [.Name y py] (.ListComp elt [⟨tg, iter, ifs, 0⟩] scope pos) spos) (zSetO i τs) := by
  refine ⟨fun D σ H => ∀ pins s, Inv X pins σ H s → wpAny (model X.prog X.w) X.A (exec (.Assign [.Name y py] (.ListComp elt [⟨tg, iter, ifs, 0⟩] scope pos) spos) X.env) (SP X pins D) X.xe s, fun pins s σ H D I h => h pins s I, fun F₀ De P0 ev F σ H E R h pins s I => ?_⟩
  rw [exec_Assign_Name_used _ _ _ _ hsw]
  refine wpAny_bind (wpAny_standAt (wpAny_bind ?_))
  show wpAny _ X.A (do let _ ← comprehension (.ListComp elt [⟨tg, iter, ifs, 0⟩] scope pos) scope X.env _ (newList []) false (eval iter X.env) (some (assign (.Name y py) X.env))) _ _ s
  refine wpAny_bind (wpAny_mono (wpAny_comprehension_free (use := some (assign (.Name y py) X.env)) (Q := fun _ s' => SP X pins De .next s') rfl hs (clos_eq B.all) B.kind B.loc ?_) (fun _ s' hq => wpAny_pure (wpAny_pure hq)) fun _ _ e => e)
  refine thn (hi pins s σ H _ I (hsrc F₀ ev F σ H _ R h)) fun xv s1 h1 => thn h1 fun itv s2 h2 => ?_
  obtain ⟨it, fp, tn, J, H2, rfl, I2, T, st2, f2, F1, ev1, n, vs, ds, os0, R1, O, hv, hn, sm, hcel, cd⟩ := h2
  obtain ⟨F2, R2, sm2⟩ := R1.frzAll js
  have add : ∀ {F' H' : Hp} {os : Cells}, RB H2 F2 F' H' → CelN X.w X.K F' H2 H' os → RS X.w X.K X.H₀ F₀ F' ((frzAll js ev1).set g (.cel (os ++ os0))) σ H' := fun {F' H' os} rb wC => (R2.grow ⟨rb.le, rb.k0, rb.f0, rb.nw⟩).addC hcel wC.1 fun a m hm => by
    obtain ⟨q1, q2, q3⟩ := wC.2 a m hm
    exact ⟨q1, q2, R2.k0.free q3, R2.nobody q3⟩
  have nbD : ∀ {D : Addr} {os : Cells}, H2 D = none → (∀ m, (D, m) ∉ os) → NB ((frzAll js ev1).set g (.cel (os ++ os0))) σ D := fun {D os} hD0 hD => ⟨fun j m' e => by
    rcases get_set e with ⟨_, z, _⟩ | ⟨_, z⟩
    · cases z
    · exact (R2.nobody hD0).own j m' z, fun j o e m hm => by
    rcases get_set e with ⟨rfl, z, _⟩ | ⟨ne, z⟩
    · cases z
      rcases List.mem_append.mp hm with y | y
      · exact hD m y
      · exact (R2.nobody hD0).cel _ os0 hcel m y
    · exact ne (R2.uniC j g o os0 z hcel)⟩
  have dis : ∀ {F' H' : Hp} {os : Cells}, CelN X.w X.K F' H2 H' os → ∀ a m m', (a, m) ∈ os → (a, m') ∉ os0 := fun {F' H' os} wC a m m' hm => (R2.nobody (wC.2 a m hm).2.2).cel g os0 hcel m'
  refine comp_coreC I2 T st2 f2 hc B hacc hacc' R2 (O.mono sm2) (fun i x hlt e => ?_) hn hS (fun C => hγ C _ _ _ _) (fun C => hτt C _ _ _ _) (fun C => hτe C _ _ _ _) cd (RR' := fun acc C => compPost (model X.prog X.w) X.A X.xe (some (assign (.Name y py) X.env)) (fun _ s' => SP X pins De .next s') acc C) (fun D C' H' s' F' acc os m hC hDC hD0 I' hm rb w hf' wC hDos cc => ?_)
  · obtain ⟨d, h3, h4⟩ := hv i x hlt e
    exact ⟨d, h3, h4.mono sm2⟩
  · have IX : Inv X pins σ H' s' := blk_end (t' := s'.toks) I2 f2 hC I' (Heap.SameBut.refl _ _)
    obtain ⟨oC, es, ep, hoC, hrC⟩ := id hm
    have neL : C' ≠ X.env.locals := Nat.ne_of_gt (Nat.lt_of_lt_of_le I2.lt hC)
    have nfs : C' ∉ X.fs := I2.nofs hC
    have hCn : H' C' = none := I'.free
    have IP : Inv X (pins ++ [(C', oC)]) σ H' s' := IX.pins_of fun p hp => by
      rcases List.mem_append.mp hp with z | z
      · exact IX.pin p (List.mem_append_right _ z)
      · rw [List.mem_singleton.mp z]
        exact ⟨hoC, hCn, neL, nfs, fun v z => by rw [hrC.1] at z; cases z⟩
    show wpAny _ X.A (assign (.Name y py) X.env (.ref D)) _ _ s'
    refine wpAny_mono (pg_name hN hiN hx hf (pins ++ [(C', oC)]) s' σ H' (.ref D) (.ref D) (fun σ2 H3 => σ2 = σ.set i (some (.ref D)) ∧ H3 = H') IP rfl ⟨rfl, rfl⟩) (fun _ s3 h3 => ?_) fun _ _ z => z
    obtain ⟨σ2, H3, I3, rfl, rfl⟩ := h3
    obtain ⟨hoC3, _⟩ := I3.pin (C', oC) (List.mem_append_right _ (List.mem_append_right _ List.mem_cons_self))
    refine ⟨m, ⟨oC, es, ep, hoC3, hrC⟩, fun h' hs' => ?_⟩
    have I4 : Inv X pins (σ.set i (some (.ref D))) H3 { s3 with heap := h', toks := s3.toks } := I3.unpinned.turned (it := C') (fun b o ne e => (hs'.2 b ne).trans e) hCn neL (.inr (Nat.le_trans I2.sz hC)) (fun x c e z => by
      obtain ⟨v, q⟩ := I2.cell x c e
      exact absurd (Nat.lt_of_lt_of_le q.lt hC) (by rw [z]; exact Nat.lt_irrefl _)) (fun p hp z => by
      exact absurd (Nat.lt_of_lt_of_le (Heap.lt_size (I2.pin p hp).1) hC) (by rw [z]; exact Nat.lt_irrefl _))
    exact ⟨_, H3, I4, E.nx _ _ _ _ ((add rb wC).setO w hf' (R2.k0.free hD0) (nbD hD0 hDos) i) (cc (dis wC))⟩
def zCompLC (τ : TauE) (cn : Nat) (js : List Nat) (g : Nat) (γ : TauG) (τt : TauT) (τe : TauE) : TauO := fun ev C => τ ev fun d ev1 => match d with
  | .list ds => ∃ os0, (frzAll js ev1)[g]? = some (.cel os0) ∧ CompDC ds cn (cn + js.length) (outY js (frzAll js ev1)) γ τt τe (fun acc os => (∀ a m m', (a, m) ∈ os → (a, m') ∉ os0) → C (.lst acc) ((frzAll js ev1).set g (.cel (os ++ os0))))
  | _ => False
theorem src_listC {τ : TauE} {t : TE} (ks : ∀ (F₀ : Hp) (ev : Ev) (F : Hp) (σ : St) (H : Hp) (Q : VK) (C : PyData → Ev → Prop), RS X.w X.K X.H₀ F₀ F ev σ H → τ ev C → (∀ d ev' F' v H', RS X.w X.K X.H₀ F₀ F' ev' σ H' → Rp X.w X.K F' v d → Same F F' → C d ev' → Q v H') → t σ H Q)
    (F₀ : Hp) (ev : Ev) (F : Hp) (σ : St) (H : Hp) (C : MV → Ev → Prop) (R : RS X.w X.K X.H₀ F₀ F ev σ H) (h : zCompLC τ cn.length js g γ τt τe ev C) : iList X.K t σ H (SrcC X F₀ F σ cn js g γ τt τe C) := by
  refine ks F₀ ev F σ H _ _ R h fun d ev1 F1 v H1 R1 r s c => ?_
  cases r with
  | @lst a vs ds hq hr =>
    obtain ⟨os0, hc, c⟩ := c
    exact ⟨a, rfl, ⟨vs, R1.le.seq hq⟩, F1, ev1, vs.length, _, ds, os0, R1, itok_list hq, fun i x hi e => hr.getV e, hr.length, s, hc, c⟩
  | _ => exact False.elim c
section
variable {τ : TauE}
theorem q_setCompLC (i : Nat) {y : Str} {py spos : Pos} (hN : X.N.Nodup) (hsrc : QE X iter τ) (hc : X.calm = true) (B : BlkOk X scope cn fr js)
    (hγ : ∀ C s₀ H₀ fp pn, QG (X.blk (cn ++ (fr ++ [accN, celN])) scope C s₀ H₀ fp pn) S tg γ) (hτt : ∀ C s₀ H₀ fp pn, QF (X.blk (cn ++ (fr ++ [accN, celN])) scope C s₀ H₀ fp pn) ifs τt) (hτe : ∀ C s₀ H₀ fp pn, QE (X.blk (cn ++ (fr ++ [accN, celN])) scope C s₀ H₀ fp pn) elt τe)
    (hacc : (accN, NameKind.free) ∉ scope.names := by decide +kernel) (hacc' : (accN, NameKind.local) ∉ scope.names := by decide +kernel) (hS : ∀ j ∈ S, j < cn.length := by decide)
    (hsw : swapsWith (.ListComp elt [⟨tg, iter, ifs, 0⟩] scope pos) (some (.Name y py)) spos.line X.env = pure true := by rfl) (hiN : X.N[i]? = some y := by rfl) (hx : Loc X.env.scope y := by first | exact Or.inl rfl | exact Or.inr rfl)
    (hf : X.fn y = true ∨ X.env.scope.names.lookup y = some .local := by first | exact .inl rfl | exact .inr rfl) (hs : ∀ x, foldedSetIterable iter X.env x = pure x := by intro _; rfl) :
    QS X (.Assign [.Name y py] (.ListComp elt [⟨tg, iter, ifs, 0⟩] scope pos) spos) (zSetO i (zCompLC τ cn.length js g γ τt τe)) := by
  obtain ⟨t, ht, ks⟩ := hsrc
  exact q_setCompC i hN (pi_list ht) (src_listC ks) hc B hacc hacc' hS hγ hτt hτe hsw hiN hx hf hs
end
end
end L2

set_option Elab.async false
set_option linter.all false
set_option maxRecDepth 100000
set_option maxHeartbeats 1000000
/-! dict(xs), xs a list of pairs -/
namespace L2
open PySem PySem.Spec PyProof.Rows
section
variable {prog : Program} {w : World} {A : Around} {E : Value → Shared → Prop} {s : Shared}
theorem keys_miss : typeLookup (.type "list") (Str.ofString "keys") = pure none := am_miss_of_fast (by decide +kernel)
theorem nokeys_list {a : Addr} {o : Obj} {xs : Array Value} {k : Nat} {Q : Option Value → Shared → Prop} (hx : s.heap.get? a = some o) (hc : o.cls = .type "list") (hdat : o.data = .seq xs k) (hd : o.dict = none) (hA : A.handled = none)
    (h : ∀ h' tk, (∀ b u, s.heap.get? b = some u → h'.get? b = some u) → Q none { s with heap := h', toks := tk }) : wpAny (model prog w) A (getAttr? (.ref a) (Str.ofString "keys")) Q E s := by
  obtain ⟨c, dct, dat, sl⟩ := o
  simp only at hc hdat hd
  subst hc hdat hd
  obtain ⟨hp, g, d, tk, os⟩ := s
  have hT : ∀ tk', (⟨hp, g, d, tk', os⟩ : Shared).TypeIs (.ref a) "list" := fun _ => ⟨_, hx, rfl⟩
  have f1 := sub_AttributeError
  have f3 := F.slot_list_getattribute.lookup
  have f4 := F.slot_list_getattribute.bind (.ref a)
  have f5 := am_list_getattr_none
  unfold getAttr? getAttrBy? getAttrBy
  repeat (any_goals (first | assumption | exact hT _ | ((with_reducible show wpAny _ _ (call (Value.builtin "list.__getattribute__") _ _) _ _ _); refine call_meets F.slot_list_getattribute (hT _) am_entry_list_getattribute (F.args_list_getattribute_2 _ _) (meets_getattribute_miss_list a xs k sl _ _ keys_miss (by decide +kernel) (by decide +kernel)) ⟨hx, hA, fun h' tk' e hx' => ?_⟩) | wp_step))
  obtain ⟨t', u', he⟩ := hx'.there
  show wpAny _ _ (getattributeRaised _ _ _ _ _ _ _) _ _ _
  unfold getattributeRaised
  repeat (any_goals (first | assumption | wp_step))
  exact h h' tk' hx'.keeps
end
theorem entry_upd_loop : entryFor table "dict.update.loop" = some Builtin.«dict.update.loop» := entryFor_of_tree (by kernel_rfl)
theorem plain_upd_loop : plainId "dict.update.loop" = true := by decide +kernel
theorem putsX_app : ∀ (ys : List (KD × Value × Value)) (xs : List DX) (y : KD × Value × Value), putsX xs (ys ++ [y]) = putX (putsX xs ys) y.1 y.2.1 y.2.2
  | [], _, _ => rfl
  | z :: ys, xs, y => by
    show putsX (putX xs z.1 z.2.1 z.2.2) (ys ++ [y]) = _
    rw [putsX_app ys]
    rfl
theorem putsX_len : ∀ (ys : List (KD × Value × Value)) (xs : List DX), (putsX xs ys).length ≤ xs.length + ys.length
  | [], _ => Nat.le_refl _
  | z :: ys, xs => by
    show (putsX (putX xs z.1 z.2.1 z.2.2) ys).length ≤ _
    have h1 := putsX_len ys (putX xs z.1 z.2.1 z.2.2)
    have h2 := putX_len (xs := xs) (k := z.1) (u := z.2.1) (v := z.2.2)
    rw [List.length_cons]
    omega
/-- an item that is a pair -/
def PairAt (P : Program) (w : World) (h : Heap) (u : Value) (p : KD × Value × Value) : Prop := ∃ t o n, u = .ref t ∧ h.get? t = some o ∧ o.cls = .type "tuple" ∧ o.data = .seq #[p.2.1, p.2.2] n ∧ kIs P w h p.1 p.2.1
theorem kIs.mono {P : Program} {w : World} {h h' : Heap} {k : KD} {u : Value} (hk : kIs P w h k u) (e : ∀ b o, h.get? b = some o → h'.get? b = some o) : kIs P w h' k u := by
  cases k with
  | inl k => exact hk
  | inr ks =>
    obtain ⟨b, eb, o, its, n, ho, r⟩ := hk
    exact ⟨b, eb, o, its, n, e b o ho, r⟩
section
variable {P : Program} {w : World} {A : Around} {E : Value → Shared → Prop}
theorem upd_loop {h0 : Heap} {D it l : Addr} {us : List Value} {ps : List (KD × Value × Value)} {R : Result → Shared → Prop} (hh : A.handled = none) (hr : A.in1.units < cLine) (hlen : us.length = ps.length) (hz : ps.length ≤ sizeLine) (nDi : D ≠ it)
    (oD : h0.get? D = none) (oi : h0.get? it = none) (hl : h0.IsList l us.toArray) (hp : ∀ (j : Nat) u p, us[j]? = some u → ps[j]? = some p → PairAt P w h0 u p) :
    ∀ (n i : Nat) (s1 : Shared) (o : Obj), us.length - i = n → i ≤ us.length → s1.heap.IsListIter it l i → (∀ b o, h0.get? b = some o → s1.heap.get? b = some o) → s1.heap.get? D = some o → DRec w o (putsX [] (ps.take i)) → (∀ x ∈ putsX [] (ps.take i), kIs P w h0 x.1 x.2.1) →
      (∀ h' tk o', h'.get? D = some o' → DRec w o' (putsX [] ps) → (∀ b o, h0.get? b = some o → h'.get? b = some o) → R (.ok (.ret .none)) { s1 with heap := h', toks := tk }) →
      codeAny (model P w) A (.builtin "dict.update.loop" ⟨[.ref D, .ref it, rawInt i, .none], []⟩) R s1 := by
  have nb : ∀ b o, h0.get? b = some o → b ≠ D ∧ b ≠ it := by
    intro b o e
    refine ⟨fun h => ?_, fun h => ?_⟩
    · rw [h, oD] at e; cases e
    · rw [h, oi] at e; cases e
  intro n
  induction n with
  | zero =>
    intro i s1 o hn hi hit ex hD hR hk q
    have ei : i = us.length := by omega
    subst ei
    have hl1 : s1.heap.IsList l us.toArray := hl.at fun o e => ex l o e
    refine codeAny_builtin entry_upd_loop ?_
    rw [Around.under_plainId plain_upd_loop _]
    show wpAny _ A.in1 (pyNext (.ref it) >>= _) _ _ s1
    refine wpAny_bind (wpAny_pyNext_list_end hh hit hl1 (by simp) fun h' eb => ?_)
    rw [hlen, List.take_length] at hR
    show wpAny _ A.in1 (Builtin.Dict.addKeywords D [] >>= fun _ => ret Value.none) _ _ _
    refine wpAny_bind (wpAny_pure (wpAny_pure ?_))
    exact q h' s1.toks o (eb D o nDi hD) hR (fun b o e => eb b o (nb b o e).2 (ex b o e))
  | succ n ih =>
    intro i s1 o hn hi hit ex hD hR hk q
    have hlt : i < us.length := by omega
    have hlt' : i < ps.length := by omega
    have hl1 : s1.heap.IsList l us.toArray := hl.at fun o e => ex l o e
    refine codeAny_builtin entry_upd_loop ?_
    rw [Around.under_plainId plain_upd_loop _]
    show wpAny _ A.in1 (pyNext (.ref it) >>= _) _ _ s1
    obtain ⟨t, ot, nt, eu, ht, hc, hdt, hki⟩ := hp i _ _ (List.getElem?_eq_getElem hlt) (List.getElem?_eq_getElem hlt')
    refine wpAny_bind (wpAny_pyNext_list_item hit hl1 (x := us[i]) (by simp [hlt]) fun h' st' sb => ?_)
    have ex' : ∀ b o, h0.get? b = some o → h'.get? b = some o := fun b o e => (sb.2 b (nb b o e).2).trans (ex b o e)
    have ht' : h'.get? t = some ot := ex' t ot ht
    have hD' : h'.get? D = some o := (sb.2 D nDi).trans hD
    show wpAny _ A.in1 (holding [us[i]] _ >>= fun _ => again (.builtin "dict.update.loop" ⟨[.ref D, .ref it, rawInt (i + 1), .none], []⟩)) _ _ _
    refine wpAny_bind (wpAny_holding ?_)
    refine wpAny_bind (wpAny_tryCatch ?_)
    rw [eu]
    unfold Builtin.Dict.pairItems
    refine wpAny_bind (wpAny_typeOf (T := "tuple") ⟨ot, ht', hc⟩ ?_)
    rw [if_pos (by decide)]
    unfold seqItems?
    refine wpAny_bind (wpAny_bind (wpAny_load ht' ?_))
    rw [hdt]
    refine wpAny_pure (wpAny_pure ?_)
    show wpAny _ A.in1 (holding [ps[i].2.1, ps[i].2.2] (dictSet D ps[i].2.1 ps[i].2.2)) _ _ _
    refine wpAny_holding ?_
    have hlx : (putsX [] (ps.take i)).length < sizeLine := by
      have h1 := putsX_len (ps.take i) []
      rw [List.length_take] at h1
      have h2 : min i ps.length ≤ i := Nat.min_le_left _ _
      have h3 : ([] : List DX).length = 0 := rfl
      omega
    refine set_k (s := { s1 with heap := h' }) hr (hki.mono ex') hD' hR (fun x hx => (hk x hx).mono ex') hlx fun h2 o2 hD2 hR2 sb2 => ?_
    have et : ps.take (i + 1) = ps.take i ++ [ps[i]] := by rw [List.take_succ, List.getElem?_eq_getElem hlt']; rfl
    refine wpAny_pure ⟨plainId_quiet plain_upd_loop _, ?_⟩
    refine ih (i + 1) _ o2 (by omega) hlt (st'.at fun o e => (sb2.2 it nDi.symm).trans e) (fun b o e => (sb2.2 b (nb b o e).1).trans (ex' b o e)) hD2 (by rw [et, putsX_app]; exact hR2) (fun x hx => ?_) fun h3 tk3 o3 e1 e2 e3 => q h3 tk3 o3 e1 e2 e3
    rw [et, putsX_app] at hx
    rcases mem_putX hx with ⟨y, hy, e1, e2⟩ | e
    · rw [e1, e2]; exact hk y hy
    · rw [e]; exact hki
theorem call_dictP {s : Shared} {l : Addr} {us : List Value} {ps : List (KD × Value × Value)} {ol : Obj} {nl : Nat} {Q : Value → Shared → Prop} (hh : A.handled = none) (hr : A.in1.in1.units < cLine) (hlen : us.length = ps.length) (hz : ps.length ≤ sizeLine)
    (hg : s.heap.get? l = some ol) (hcl : ol.cls = .type "list") (hda : ol.data = .seq us.toArray nl) (hdi : ol.dict = none) (hp : ∀ (j : Nat) u p, us[j]? = some u → ps[j]? = some p → PairAt P w s.heap u p)
    (h : ∀ h' tk o', h'.get? s.heap.objs.size = some o' → DRec w o' (putsX [] ps) → (∀ b o, s.heap.get? b = some o → h'.get? b = some o) → Q (.ref s.heap.objs.size) { s with heap := h', toks := tk }) :
    wpAny (model P w) A (call (.type "dict") [.ref l]) Q E s := by
  refine callType_codes (Q₁ := fun obj s₁ => obj = .ref s.heap.objs.size ∧ s₁ = { s with heap := s.heap.push { cls := .type "dict", data := .dict #[] } }) F.kt_called_dict (F.kt_typeCall_dict_1 _) F.entry_dict_init (kt_code_dict_new _ ⟨rfl, rfl⟩) ?_
  rintro obj s₁ ⟨rfl, rfl⟩
  have hD0 : (s.heap.push { cls := .type "dict", data := .dict #[] }).get? s.heap.objs.size = some { cls := .type "dict", data := .dict #[] } := Heap.get?_push_size _ rfl
  have gl : (s.heap.push { cls := .type "dict", data := .dict #[] }).get? l = some ol := Heap.get?_push_of_some _ hg
  refine ⟨⟨_, hD0, rfl⟩, F.args_dict_init_2 _ _, ?_⟩
  unfold Builtin.«dict.__init__»
  refine wpAny_bind ?_
  unfold Builtin.Dict.selfAndRest
  refine wpAny_bind (wpAny_notOrdered_dict ⟨_, hD0, rfl⟩ ?_)
  show wpAny _ _ (pure (s.heap.objs.size, [Value.ref l])) _ _ _
  refine wpAny_pure ?_
  show wpAny _ _ (Builtin.Dict.updateFrom "dict.__init__" s.heap.objs.size (.ref l) [] .none) _ _ _
  unfold Builtin.Dict.updateFrom
  refine wpAny_bind (wpAny_typeOf (T := "list") ⟨ol, gl, hcl⟩ ?_)
  rw [if_pos (by decide)]
  refine wpAny_bind (nokeys_list gl hcl hda hdi hh fun h1 tk1 e1 => ?_)
  rw [if_pos (by rfl)]
  refine wpAny_bind (wpAny_rule ?_)
  have gl1 : h1.IsList l us.toArray := ⟨ol, e1 l ol gl, hcl, nl, hda⟩
  refine wpAny_bind (wpAny_pyIter_list gl1 ?_)
  have ex1 : ∀ b o, s.heap.get? b = some o → h1.get? b = some o := fun b o e => e1 b o (Heap.get?_push_of_some _ e)
  have no : ∀ b : Addr, (∀ o, s.heap.get? b ≠ some o) → s.heap.get? b = none := fun b hb => Option.eq_none_iff_forall_ne_some.mpr hb
  have hD1 := e1 _ _ hD0
  have lD : s.heap.objs.size < h1.objs.size := Heap.lt_size hD1
  have hit : (h1.push { cls := .type "list_iterator", data := .fields #[.ref l, .int 0 0] }).IsListIter h1.objs.size l 0 := ⟨_, Heap.get?_push_size _ rfl, rfl, rfl⟩
  refine wpAny_pure ⟨plainId_quiet plain_upd_loop _, ?_⟩
  refine upd_loop (h0 := s.heap) (A := A.in1) (us := us) (ps := ps) hh hr hlen hz (Nat.ne_of_lt lD) (no _ fun o e => Nat.lt_irrefl _ (Heap.lt_size e)) (no _ fun o e => Nat.lt_irrefl _ (Heap.lt_size (ex1 _ _ e))) ⟨ol, hg, hcl, nl, hda⟩ hp us.length 0 _ _ rfl (Nat.zero_le _) hit (fun b o e => Heap.get?_push_of_some _ (ex1 b o e)) (Heap.get?_push_of_some _ hD1) ?_ (fun x hx => nomatch hx) fun h' tk o' a1 a2 a3 => ⟨rfl, h h' tk o' a1 a2 a3⟩
  exact ⟨⟨rfl, rfl, rfl⟩, ⟨_, _, rfl, rfl⟩, List.nodup_nil, Nat.zero_le _⟩
end
end L2

set_option Elab.async false
set_option linter.all false
set_option maxRecDepth 100000
set_option maxHeartbeats 1000000
/-! dict(xs), xs a list of pairs, over data -/
namespace L2
open PySem PySem.Spec PyProof.Rows
def pairD (p : KD × PyData) : PyData := .tuple [kdD p.1, p.2]
section
variable {X : Cx} {pos : Pos} {pins : List (Addr × Obj)} {s : Shared} {σ : St} {H F : Hp}
theorem pairs_at (I : Inv X pins σ H s) (le : Same F H) : ∀ {kvs : List (KD × PyData)} {vs : List V} {us : List Value}, Rps X.w X.K F vs (kvs.map pairD) → (∀ y ∈ kvs, kOk y.1 = true) → Vals vs us →
    ∃ (ps : List (V × V)) (ws : List (Value × Value)), PsR X.w X.K F ps kvs ∧ Paired (fun (p : V × V) (q : Value × Value) => RelV p.1 q.1 ∧ RelV p.2 q.2) ps ws ∧ us.length = ws.length ∧
      ∀ (j : Nat) u q, us[j]? = some u → ws[j]? = some q → ∃ t o n, u = .ref t ∧ s.heap.get? t = some o ∧ o.cls = .type "tuple" ∧ o.data = .seq #[q.1, q.2] n
  | [], _, _, r, _, v => by
    cases r
    cases v
    exact ⟨[], [], .nil, .nil, rfl, fun j u q h => by simp at h⟩
  | (k, d) :: kvs, _, _, r, ok, v => by
    rw [List.map_cons] at r
    cases r with
    | cons r1 r2 =>
      cases v with
      | cons v1 v2 =>
        obtain ⟨ps, ws, a1, a2, a3, a4⟩ := pairs_at I le r2 (fun y hy => ok y (List.mem_cons_of_mem _ hy)) v2
        have r1' : Rp X.w X.K F _ (.tuple [kdD k, d]) := r1
        cases r1' with
        | tup hq hs =>
          cases hs with
          | cons h1 hs =>
            cases hs with
            | cons h2 hs =>
              cases hs
              · obtain ⟨its, rv, ⟨o, ho, hc, n, hd⟩, _⟩ := I.tuple (le.sqt hq.sqt)
                cases rv with
                | cons w1 rv =>
                  cases rv with
                  | cons w2 rv =>
                    cases rv
                    refine ⟨_ :: ps, (_, _) :: ws, .cons h1 (ok (k, d) List.mem_cons_self) h2 a1, .cons ⟨w1, w2⟩ a2, by rw [List.length_cons, List.length_cons, a3], fun j u q hu hq' => ?_⟩
                    cases j with
                    | zero =>
                      simp only [List.getElem?_cons_zero, Option.some.injEq] at hu hq'
                      subst hu hq'
                      exact ⟨_, o, n, v1, ho, hc, hd⟩
                    | succ j => exact a4 j u q (by simpa using hu) (by simpa using hq')
theorem call_dictL {k : Nat} (hc : X.calm = true) (hr : Room k X.A) : CallR X (.type "dict") (fun xs H Q => ∃ p vs F kvs, xs = [.ref p] ∧ Same F H ∧ SqL X.K H p vs ∧ Rps X.w X.K F vs (kvs.map pairD) ∧ (∀ y ∈ kvs, kOk y.1 = true) ∧ ∀ l o, H l = Option.none → Ow X.w X.K F (upd H l (PinO l o)) l (.dct (putsD [] kvs)) → Q (.ref l) (upd H l (PinO l o))) := by
  intro pins s σ H xs us Q I r h
  obtain ⟨p, vs, F, kvs, rfl, le, hq, hs, ok, q⟩ := h
  obtain ⟨u, rfl, rx⟩ := vals1 r
  cases rx
  obtain ⟨its, rv, ⟨ol, nl, hg, hcl, hdi, hda⟩, hz⟩ := I.list hq
  obtain ⟨ps, ws, b1, b2, b3, b4⟩ := pairs_at I le hs ok rv
  obtain ⟨ys, rfl, ky, st⟩ := puts_ow b1 b2
  rw [List.length_map] at b3
  have lz : ys.length ≤ sizeLine := by rw [← b3, ← rv.length]; exact hz
  refine call_dictP (us := its) (ps := ys) (I.ok.hd hc) hr.units2 b3 lz hg hcl hda hdi (fun j u y hu hy => ?_) fun h' tk o' e1 R' e3 => ?_
  · obtain ⟨t, o, n, eu, ho, hc', hd⟩ := b4 j u (y.2.1, y.2.2) hu (by rw [List.getElem?_map, hy]; rfl)
    exact ⟨t, o, n, eu, ho, hc', hd, I.keyR le (ky y (List.mem_of_getElem? hy))⟩
  · have hn := I.hok.fresh (Nat.le_refl s.heap.objs.size)
    have hsm : (s.heap.objs.size == sysModules) = false := beq_eq_false_iff_ne.mpr (Ne.symm (Nat.ne_of_lt I.far))
    obtain ⟨g1, g2, us', g3, g4⟩ := st [] [] [] (fun x hx => nomatch hx) rfl .nil .nil
    have I1 := I.laid (a := s.heap.objs.size) (o := PinO s.heap.objs.size o') (h' := h') (t' := tk) e3 (Nat.le_refl _) ⟨e1, ⟨_, e1⟩, fun h1 h2 q k => k _ q⟩
    exact ⟨.ref s.heap.objs.size, _, I1, rfl, q _ o' hn ⟨o', _, us', upd_same, hsm, R', g1, g2, g3, g4⟩⟩
def rhDictL : RhoO := fun ds C => ∃ kvs : List (KD × PyData), ds = [.list (kvs.map pairD)] ∧ (∀ y ∈ kvs, kOk y.1 = true) ∧ C (.dct (putsD [] kvs))
theorem c_dictL {k : Nat} (hc : X.calm = true) (hr : Room k X.A) : CallO X (.type "dict") rhDictL := ⟨_, call_dictL hc hr, fun F H xs ds Q C le r c k => by
  obtain ⟨kvs, rfl, ok, c⟩ := c
  obtain ⟨v, rfl, rv⟩ := r.one
  obtain ⟨a, vs, rfl, hq, hs⟩ := rv.sizes
  exact ⟨a, vs, F, kvs, rfl, le, le.seq hq, hs, ok, fun l o nl ow => k (.dct (putsD [] kvs)) _ _ nl ow c⟩⟩
end
end L2

set_option maxHeartbeats 4000000
namespace Lk
open PySem L2
def top (i : Nat) : Stmt := PySem.Challenge.pw_linesaid_k45_joined.main.body.getD i (.Pass ⟨0, 0, 0, 0⟩)
abbrev s__law_word_by : Stmt := top 6
theorem sc__law_word_by : FnScope ["_law_cell", "_law_letters", "_law_word", "_law_rest", "_law_k"] ["_law_cell"] (defScope s__law_word_by) := ⟨rfl, rfl, rfl, by decide +kernel, rfl, by decide +kernel, by decide +kernel⟩
abbrev s__law_cell_at : Stmt := top 4
theorem sc__law_cell_at : FnScope ["_law_script", "_law_k"] ["_law_script", "_law_k"] (defScope s__law_cell_at) := ⟨rfl, rfl, rfl, by decide +kernel, rfl, by decide +kernel, by decide +kernel⟩
abbrev s__law_number : Stmt := top 5
theorem sc__law_number : FnScope ["_law_script", "_law_k", "_law_x", "_law_total", "_law_j"] ["_law_script", "_law_k"] (defScope s__law_number) := ⟨rfl, rfl, rfl, by decide +kernel, rfl, by decide +kernel, by decide +kernel⟩
abbrev s__law_names : Stmt := top 7
theorem sc__law_names : FnScope ["_law_script", "_law_at", "_law_many", "_law_names_here", "_law_k", "_law_word"] ["_law_script", "_law_at", "_law_many"] (defScope s__law_names) := ⟨rfl, rfl, rfl, by decide +kernel, rfl, by decide +kernel, by decide +kernel⟩
abbrev s__law_exchange_by : Stmt := top 13
theorem sc__law_exchange_by : FnScope ["_law_cell", "_law_names_here", "_law_left", "_law_some", "_law_k", "_law_a", "_law_b", "_law_c", "_law_d", "_law_e"] ["_law_cell", "_law_names_here"] (defScope s__law_exchange_by) := ⟨rfl, rfl, rfl, by decide +kernel, rfl, by decide +kernel, by decide +kernel⟩
abbrev s__law_triple : Stmt := top 8
theorem sc__law_triple : FnScope ["_law_one", "_law_other", "_law_third"] ["_law_one", "_law_other", "_law_third"] (defScope s__law_triple) := ⟨rfl, rfl, rfl, by decide +kernel, rfl, by decide +kernel, by decide +kernel⟩
abbrev s__law_parts_by : Stmt := top 14
theorem sc__law_parts_by : FnScope ["_law_cell", "_law_names_here", "_law_some", "_law_rest", "_law_k", "_law_many"] ["_law_cell", "_law_names_here"] (defScope s__law_parts_by) := ⟨rfl, rfl, rfl, by decide +kernel, rfl, by decide +kernel, by decide +kernel⟩
abbrev s__law_ground_by : Stmt := top 15
theorem sc__law_ground_by : FnScope ["_law_script", "_law_at", "_law_names_here", "_law_most", "_law_ground", "_law_k", "_law_cell", "_law_target", "_law_claim"] ["_law_script", "_law_at", "_law_names_here", "_law_most"] (defScope s__law_ground_by) := ⟨rfl, rfl, rfl, by decide +kernel, rfl, by decide +kernel, by decide +kernel⟩
abbrev s__law_copied : Stmt := top 16
theorem sc__law_copied : FnScope ["_law_ground"] ["_law_ground"] (defScope s__law_copied) := ⟨rfl, rfl, rfl, by decide +kernel, rfl, by decide +kernel, by decide +kernel⟩
abbrev s_copied : Stmt := top 2
theorem sc_copied : FnScope ["step", ".cel"] ["step"] (defScope s_copied) := ⟨rfl, rfl, rfl, by decide +kernel, rfl, by decide +kernel, by decide +kernel⟩
abbrev s_joined : Stmt := top 1
theorem sc_joined : FnScope ["one", "other", "found", "claims", "step", ".cel"] ["one", "other"] (defScope s_joined) := ⟨rfl, rfl, rfl, by decide +kernel, rfl, by decide +kernel, by decide +kernel⟩
abbrev s__law_due : Stmt := top 17
theorem sc__law_due : FnScope ["_law_one", "_law_other", "_law_found", "_law_step"] ["_law_one", "_law_other"] (defScope s__law_due) := ⟨rfl, rfl, rfl, by decide +kernel, rfl, by decide +kernel, by decide +kernel⟩
abbrev s_law : Stmt := top 18
theorem sc_law : FnScope ["_law_script", "_law_names_here", "_law_one", "_law_other", "_law_handed", "_law_k", "_law_found", "_law_step", ".cel"] ["_law_script"] (defScope s_law) := ⟨rfl, rfl, rfl, by decide +kernel, rfl, by decide +kernel, by decide +kernel⟩
/-! the laws' own helpers that draw numbers, words and names -/
section
variable {P : Program} {w : World} {K : PySem.W.Frag} {mg : Str → Option Value} {base : Heap} {f : Addr} {fd : FuncData}
def intsD (ns : List Int) : List PyData := ns.map PyData.int
theorem len_intsD (ns : List Int) : (intsD ns).length = ns.length := List.length_map _
def strsD (ss : List Str) : List PyData := ss.map PyData.str
theorem len_strsD (ss : List Str) : (strsD ss).length = ss.length := List.length_map _
theorem sz9 {i : Int} (h : i.natAbs < 2 ^ 64) : Sz 9000 i := Sz.mono (m := 64) h (by decide)
def phLaw : Phi := fun ds R _ => ∃ ns : List Int, ds = [.list (intsD ns)] ∧ ns.length ≤ 63 ∧ R (.val (.bool true))
def phCell : Phi := fun ds R _ => ∃ (ns : List Int) (k : Int), ds = [.list (intsD ns), .int k] ∧ 0 ≤ k ∧ ∀ v : Int, R (.val (.int v))
theorem ok__law_cell_at (F : Fun K "_law_cell_at" "_law_cell_at" s__law_cell_at f fd) (T : Bl mg)   :
    FnOk P w K mg base CX0 1 f fd ["_law_script", "_law_k"] (spP w K (phCell)) := by
  have sc := sc__law_cell_at
  refine F.okP sc__law_cell_at (fun ds C Z h => ?_) (fun cdv A outer s H E hr => ?_)
  · unfold phCell at h; first | (split at h <;> first | rfl | exact False.elim h) | (obtain ⟨rfl, _⟩ := h; rfl) | (obtain ⟨_, rfl, _⟩ := h; rfl) | (obtain ⟨_, _, rfl, _⟩ := h; rfl) | (obtain ⟨_, _, _, rfl, _⟩ := h; rfl) | (obtain ⟨_, _, _, _, rfl, _⟩ := h; rfl) | (obtain ⟨_, _, _, _, _, rfl, _⟩ := h; rfl) | (obtain ⟨_, _, _, _, _, _, rfl, _⟩ := h; rfl) | (obtain ⟨_, _, _, _, _, _, _, rfl, _⟩ := h; rfl) | (obtain ⟨_, _, _, _, _, _, _, _, rfl, _⟩ := h; rfl)
  refine ⟨_, (q_scons (q_if (q_tcmp o_lt (q_v 1) (q_callB c_len (by rfl) T.b_len PyProof.Rows.Boot.«len» (q_acons (q_v 0) q_anil)) (nomark _))
      (q_sone (q_ret (q_ix (q_v 0) (q_v 1) (fun _ _ => rfl))))
      q_snil)
    (q_sone (q_ret q_int))), fun ds C Z h => ?_⟩
  obtain ⟨ns, k, rfl, hk, q⟩ := h
  refine iteLt (fun c => ?_) (fun c => q 0)
  rw [len_intsD] at c
  have hk' : k.toNat < ns.length := by omega
  have e : k = ((k.toNat : Nat) : Int) := by omega
  obtain ⟨v, g⟩ : ∃ v : Int, atI (intsD ns) k = some (.int v) := by
    rw [e]
    exact ⟨ns[k.toNat], atI_nat (by unfold intsD; rw [List.getElem?_map, List.getElem?_eq_getElem hk'] <;> rfl)⟩
  exact optC_of g (q _)
def phNum : Phi := fun ds R _ => ∃ (ns : List Int) (k : Int), ds = [.list (intsD ns), .int k] ∧ 0 ≤ k ∧ ∀ v : Int, R (.val (.int v))
theorem ok__law_number (F : Fun K "_law_number" "_law_number" s__law_number f fd) (T : Bl mg)  (c__law_cell_at : Cal P w K mg base CX0 1 "_law_cell_at" ["_law_script", "_law_k"] (spP w K (phCell))) :
    FnOk P w K mg base CX0 2 f fd ["_law_script", "_law_k"] (spP w K (phNum)) := by
  have sc := sc__law_number
  refine F.okP sc__law_number (fun ds C Z h => ?_) (fun cdv A outer s H E hr => ?_)
  · unfold phNum at h; first | (split at h <;> first | rfl | exact False.elim h) | (obtain ⟨rfl, _⟩ := h; rfl) | (obtain ⟨_, rfl, _⟩ := h; rfl) | (obtain ⟨_, _, rfl, _⟩ := h; rfl) | (obtain ⟨_, _, _, rfl, _⟩ := h; rfl) | (obtain ⟨_, _, _, _, rfl, _⟩ := h; rfl) | (obtain ⟨_, _, _, _, _, rfl, _⟩ := h; rfl) | (obtain ⟨_, _, _, _, _, _, rfl, _⟩ := h; rfl) | (obtain ⟨_, _, _, _, _, _, _, rfl, _⟩ := h; rfl) | (obtain ⟨_, _, _, _, _, _, _, _, rfl, _⟩ := h; rfl)
  refine ⟨_, (q_scons (q_if (q_tcmp o_ge (q_callB c_abs (by rfl) T.b_abs PyProof.Rows.Boot.«abs» (q_acons (q_call c__law_cell_at (hr.mono (by decide)) (q_acons (q_v 0) (q_acons (q_v 1) q_anil))) q_anil)) (q_op o_pow q_int q_int) (nomark _))
      (q_sone (q_ret (q_call c__law_cell_at (hr.mono (by decide)) (q_acons (q_v 0) (q_acons (q_v 1) q_anil)))))
      q_snil)
    (q_scons (q_set 2 sc.nd (q_op o_add (q_op o_add (q_call c__law_cell_at (hr.mono (by decide)) (q_acons (q_v 0) (q_acons q_int q_anil))) (q_op o_mul q_int (q_v 1))) (q_op o_mul q_int (q_call c__law_cell_at (hr.mono (by decide)) (q_acons (q_v 0) (q_acons (q_v 1) q_anil))))))
    (q_scons (q_set 2 sc.nd (q_op o_add (q_op o_mod (q_v 2) q_int) q_int))
    (q_scons (q_set 3 sc.nd q_int)
    (q_scons (q_forR1 PassesOwn.never rfl (by rfl) T.b_range (q_acons q_int q_anil) (q_gn 4 sc.nd)
      (q_scons (q_set 2 sc.nd (q_op o_mod (q_op o_add (q_op o_add (q_op o_add (q_op o_mul (q_v 2) q_int) (q_op o_div (q_v 2) q_int)) (q_op o_mul (q_op o_mul q_int (q_v 4)) (q_v 4))) q_int) q_int))
    (q_sone (q_set 3 sc.nd (q_op o_add (q_op o_mul (q_v 3) q_int) (q_op o_mod (q_op o_mul (q_v 2) q_int) q_int))))))
    (q_sone (q_ret (q_v 3)))))))), fun ds C Z h => ?_⟩
  obtain ⟨ns, k, rfl, hk, q⟩ := h
  have pw : CPow 10 18 := ⟨by decide, by decide, by decide⟩
  refine ⟨ns, k, rfl, hk, fun v => ⟨pw, ?_⟩⟩
  refine iteLt (fun _ => ⟨ns, k, rfl, hk, fun v => q v⟩) (fun _ => ?_)
  refine ⟨ns, 0, rfl, by omega, fun v0 => ⟨CM.l (by decide) (by decide), ns, k, rfl, hk, fun v1 => ⟨CM.l (by decide) (by decide), ?_⟩⟩⟩
  refine ⟨(by decide), ?_⟩
  generalize (v0 + 6007 * k + 37 * v1) % 2147483563 + 29 = x0
  refine ⟨⟨by decide, by decide⟩, ?_⟩
  refine ⟨fun _ ev => ∃ (x t : Int) (s : Sl), ev = [.val (.list (intsD ns)), .val (.int k), .val (.int x), .val (.int t), s], ⟨_, _, _, rfl⟩, ?_, ?_⟩
  · rintro i ev hi ⟨x, t, s, rfl⟩
    have hi' : i < 9 := hi
    refine ⟨CM.r (by decide) (by decide), ⟨by decide, sz9 (by decide)⟩, CM.l (by decide) (by decide), CM.r (by omega) (by omega), (by decide), CM.r (by decide) (by decide), CM.r (by decide) (by decide), (by decide), ?_⟩
    exact ⟨_, _, _, rfl⟩
  · rintro ev ⟨x, t, s, rfl⟩
    exact q t
/-- a word: one to eight signs -/
def Wd (x : Str) : Prop := 1 ≤ x.length ∧ x.length ≤ 8 ∧ ∀ c ∈ x.cps.toList, 97 ≤ c ∧ c ≤ 122
def abc : Str := "abcdefghijklmnopqrstuvwxyz"
theorem abc_len : abc.length = 26 := by decide +kernel
theorem abc_in : ∀ c ∈ abc.cps.toList, 97 ≤ c ∧ c ≤ 122 := by decide +kernel
theorem abc_at {i : Int} (h0 : 0 ≤ i) (h1 : i < 26) : ∃ c, atI abc.cps.toList i = some c ∧ 97 ≤ c ∧ c ≤ 122 := by
  have e : i = ((i.toNat : Nat) : Int) := by omega
  have hl : i.toNat < abc.cps.toList.length := by
    rw [Array.length_toList]
    show i.toNat < abc.length
    rw [abc_len]
    omega
  rw [e]
  exact ⟨_, atI_nat (List.getElem?_eq_getElem hl), abc_in _ (List.getElem_mem hl)⟩
theorem str_app_len (x y : Str) : (x ++ y).length = x.length + y.length := by
  show (x.cps ++ y.cps).size = x.cps.size + y.cps.size
  exact Array.size_append
def phWord : Phi := fun ds R _ => ∃ c : Int, ds = [.int c] ∧ ∀ x : Str, Wd x → R (.val (.str x))
theorem ok__law_word_by (F : Fun K "_law_word_by" "_law_word_by" s__law_word_by f fd) (T : Bl mg)   :
    FnOk P w K mg base CX0 1 f fd ["_law_cell"] (spP w K (phWord)) := by
  have sc := sc__law_word_by
  refine F.okP sc__law_word_by (fun ds C Z h => ?_) (fun cdv A outer s H E hr => ?_)
  · unfold phWord at h; first | (split at h <;> first | rfl | exact False.elim h) | (obtain ⟨rfl, _⟩ := h; rfl) | (obtain ⟨_, rfl, _⟩ := h; rfl) | (obtain ⟨_, _, rfl, _⟩ := h; rfl) | (obtain ⟨_, _, _, rfl, _⟩ := h; rfl) | (obtain ⟨_, _, _, _, rfl, _⟩ := h; rfl) | (obtain ⟨_, _, _, _, _, rfl, _⟩ := h; rfl) | (obtain ⟨_, _, _, _, _, _, rfl, _⟩ := h; rfl) | (obtain ⟨_, _, _, _, _, _, _, rfl, _⟩ := h; rfl) | (obtain ⟨_, _, _, _, _, _, _, _, rfl, _⟩ := h; rfl)
  refine ⟨_, (q_scons (q_set 1 sc.nd q_str)
    (q_scons (q_set 2 sc.nd q_str)
    (q_scons (q_set 3 sc.nd (q_op o_div (q_v 0) q_int))
    (q_scons (q_forR1 PassesOwn.never rfl (by rfl) T.b_range (q_acons (q_op o_add q_int (q_op o_mod (q_v 0) q_int)) q_anil) (q_gn 4 sc.nd)
      (q_scons (q_set 2 sc.nd (q_op o_addS (q_v 2) (q_ix (q_v 1) (q_op o_mod (q_v 3) q_int) (fun _ _ => rfl))))
    (q_sone (q_set 3 sc.nd (q_op o_div (q_v 3) q_int)))))
    (q_sone (q_ret (q_v 2))))))), fun ds C Z h => ?_⟩
  obtain ⟨c, rfl, q⟩ := h
  refine ⟨⟨by decide, sz9 (by decide)⟩, (by decide), ⟨⟨by omega, by omega⟩, ?_⟩⟩
  refine ⟨fun i ev => ∃ (x : Str) (r : Int) (s : Sl), ev = [.val (.int c), .val (.str abc), .val (.str x), .val (.int r), s] ∧ x.length = i ∧ ∀ c ∈ x.cps.toList, 97 ≤ c ∧ c ≤ 122, ⟨_, _, _, rfl, rfl, fun c hc => nomatch hc⟩, ?_, ?_⟩
  · rintro i ev hi ⟨x, r, s, rfl, hx, hl⟩
    obtain ⟨ch, hc, hc1⟩ := abc_at (Int.emod_nonneg r (by decide)) (Int.emod_lt_of_pos r (by decide : (0 : Int) < 26))
    refine ⟨(by decide), ⟨by rw [abc_len]; decide, optC_of hc ⟨?_, ⟨by decide, sz9 (by decide)⟩, ?_⟩⟩⟩
    · rw [hx]
      show i + 1 ≤ sizeLine
      exact small1000 (by omega)
    · refine ⟨_, _, _, rfl, by rw [str_app_len, hx]; rfl, fun y hy => ?_⟩
      have hy' : y ∈ x.cps.toList ++ [ch] := by simpa using (show y ∈ (x.cps ++ #[ch]).toList from hy)
      rcases List.mem_append.mp hy' with z | z
      · exact hl y z
      · rw [List.mem_singleton.mp z]; exact hc1
  · rintro ev ⟨x, r, s, rfl, hx, hl⟩
    exact q x ⟨by omega, by omega, hl⟩
def phNames : Phi := fun ds R _ => ∃ (ns : List Int) (k : Int) (n : Nat), ds = [.list (intsD ns), .int k, .int (n : Nat)] ∧ 0 ≤ k ∧ n ≤ 20 ∧ ∀ ss : List Str, ss.Nodup → ss.length ≤ n → (∀ x ∈ ss, Wd x) → R (.own (.lst (strsD ss)))
theorem ok__law_names (F : Fun K "_law_names" "_law_names" s__law_names f fd) (T : Bl mg)  (c__law_word_by : Cal P w K mg base CX0 1 "_law_word_by" ["_law_cell"] (spP w K (phWord))) (c__law_number : Cal P w K mg base CX0 2 "_law_number" ["_law_script", "_law_k"] (spP w K (phNum))) :
    FnOk P w K mg base CX0 3 f fd ["_law_script", "_law_at", "_law_many"] (spP w K (phNames)) := by
  have sc := sc__law_names
  refine F.okP sc__law_names (fun ds C Z h => ?_) (fun cdv A outer s H E hr => ?_)
  · unfold phNames at h; first | (split at h <;> first | rfl | exact False.elim h) | (obtain ⟨rfl, _⟩ := h; rfl) | (obtain ⟨_, rfl, _⟩ := h; rfl) | (obtain ⟨_, _, rfl, _⟩ := h; rfl) | (obtain ⟨_, _, _, rfl, _⟩ := h; rfl) | (obtain ⟨_, _, _, _, rfl, _⟩ := h; rfl) | (obtain ⟨_, _, _, _, _, rfl, _⟩ := h; rfl) | (obtain ⟨_, _, _, _, _, _, rfl, _⟩ := h; rfl) | (obtain ⟨_, _, _, _, _, _, _, rfl, _⟩ := h; rfl) | (obtain ⟨_, _, _, _, _, _, _, _, rfl, _⟩ := h; rfl)
  refine ⟨_, (q_scons (q_setO 3 sc.nd (q_lst q_anil))
    (q_scons (q_forR1 PassesOwn.never rfl (by rfl) T.b_range (q_acons (q_v 2) q_anil) (q_gn 4 sc.nd)
      (q_scons (q_set 5 sc.nd (q_call c__law_word_by (hr.mono (by decide)) (q_acons (q_call c__law_number (hr.mono (by decide)) (q_acons (q_v 0) (q_acons (q_op o_add (q_v 1) (q_v 4)) q_anil))) q_anil)))
    (q_sone (q_if (q_lendT 3 (q_tcmp o_notInS (q_v 5) (q_v 3) (by rfl)))
      (q_sone (q_app 3 (q_v 5)))
      q_snil))))
    (q_sone (q_retO (q_m 3))))), fun ds C Z h => ?_⟩
  obtain ⟨ns, k, n, rfl, hk, hn, q⟩ := h
  refine ⟨(by show 0 ≤ sizeLine; decide), ⟨⟨by omega, by omega⟩, ?_⟩⟩
  refine ⟨fun i ev => ∃ (ss : List Str) (s s' : Sl), ev = [.val (.list (intsD ns)), .val (.int k), .val (.int (n : Nat)), .own (.lst (strsD ss)), s, s'] ∧ ss.Nodup ∧ ss.length ≤ i ∧ ∀ x ∈ ss, Wd x, ?_, ?_, ?_⟩
  · exact ⟨[], _, _, rfl, List.nodup_nil, Nat.le_refl _, fun x hx => nomatch hx⟩
  · rintro i ev hi ⟨ss, s, s', rfl, h1, h2, h3⟩
    refine ⟨ns, k + (0 + (i : Int)), rfl, by omega, fun v => ⟨v, rfl, fun x hx => ?_⟩⟩
    refine ⟨x, ss, rfl, rfl, rfl, ⟨trivial, trivial, trivial, trivial, trivial, trivial⟩, ?_⟩
    show if (!decide (x ∈ ss)) = true then _ else _
    refine iteNb (fun c => ?_) (fun c => ?_)
    · refine ⟨⟨_, rfl⟩, ?_, ?_⟩
      · rw [len_strsD]
        exact small1000 (by omega)
      · refine ⟨ss ++ [x], _, _, by rw [strsD, strsD, List.map_append]; rfl, ?_, by rw [List.length_append]; exact Nat.succ_le_succ h2, fun y hy => ?_⟩
        · rw [List.nodup_append]
          refine ⟨h1, by simp, fun a ha b hb => ?_⟩
          rw [List.mem_singleton.mp hb]
          rintro rfl
          exact c ha
        · rcases List.mem_append.mp hy with z | z
          · exact h3 y z
          · rw [List.mem_singleton.mp z]; exact hx
    · exact ⟨ss, _, _, rfl, h1, Nat.le_succ_of_le h2, h3⟩
  · rintro ev ⟨ss, s, s', rfl, h1, h2, h3⟩
    exact q ss h1 (by simpa using h2) h3
end

/-! triples, turns, needs, vectors: the law's own -/
section
theorem Wd.ok {x : Str} (h : Wd x) : PyData.strOk x = true := by
  unfold PyData.strOk
  rw [← Array.all_toList, List.all_eq_true]
  intro c hc
  have := h.2.2 c hc
  exact decide_eq_true (by omega)
theorem canLay_strs : ∀ {ss : List Str}, (∀ x ∈ ss, Wd x) → PyData.canLayAll0 (strsD ss) = true
  | [], _ => rfl
  | x :: ss, h => by
    show (PyData.canLay0 (.str x) && PyData.canLayAll0 (strsD ss)) = true
    rw [canLay_strs fun y hy => h y (List.mem_cons_of_mem _ hy), Bool.and_true]
    exact (h x List.mem_cons_self).ok
theorem depth_strs : ∀ ss : List Str, PyData.depthAll (strsD ss) = 0
  | [] => rfl
  | x :: ss => by
    show max (PyData.depth (.str x)) (PyData.depthAll (strsD ss)) = 0
    rw [depth_strs ss]
    rfl
/-- the key of a triple -/
def sK (ss : List Str) : List Key := ss.map Sum.inr
theorem kd_sK (ss : List Str) : kdD (.inr (sK ss)) = .tuple (strsD ss) := by
  show PyData.tuple ((ss.map Sum.inr).map keyD) = _
  rw [List.map_map]
  rfl
theorem sK_inj {a b : List Str} (h : sK a = sK b) : a = b := by
  unfold sK at h
  exact List.map_inj_right (fun x y e => Sum.inr.inj e) |>.mp h
theorem sK_ok (ss : List Str) : kOk (.inr (sK ss)) = true := by cases ss <;> rfl
def tK (x y z : Str) : List Str := Nm.srt [x, y, z]
theorem tK_len (x y z : Str) : (tK x y z).length = 3 := Nm.srt_len _
theorem tK_mem {x y z m : Str} (h : m ∈ tK x y z) : m ∈ [x, y, z] := (Nm.srt_perm _).mem_iff.mp h
/-- tables from triples (texts) to ints -/
abbrev Tab := List (List Str × Int)
def tabD (t : Tab) : List (KD × PyData) := t.map fun p => (Sum.inr (sK p.1), PyData.int p.2)
theorem tab_app (t : Tab) (p : List Str × Int) : tabD (t ++ [p]) = tabD t ++ [(Sum.inr (sK p.1), PyData.int p.2)] := by
  unfold tabD
  rw [List.map_append]
  rfl
theorem inr_sK {a b : List Str} (h : (Sum.inr (sK a) : KD) = Sum.inr (sK b)) : a = b := sK_inj (Sum.inr.inj h)
theorem ixD_no {t : Tab} {k : List Str} (h : ∀ p ∈ t, p.1 ≠ k) : ixD (tabD t) (.inr (sK k)) = none := by
  refine List.findIdx?_eq_none_iff.mpr fun kv hkv => ?_
  obtain ⟨p, hp, rfl⟩ := List.mem_map.mp hkv
  exact decide_eq_false fun e => h p hp (inr_sK e)
theorem put_new {t : Tab} {k : List Str} (v : Int) (h : ∀ p ∈ t, p.1 ≠ k) : putD (tabD t) (.inr (sK k)) (.int v) = tabD (t ++ [(k, v)]) := by
  unfold putD
  rw [ixD_no h, tab_app]
theorem val_tab {t : Tab} {k : List Str} {v : Int} (hn : (t.map (·.1)).Nodup) (h : (k, v) ∈ t) : valD (tabD t) (.inr (sK k)) = some (.int v) := by
  induction t with
  | nil => cases h
  | cons p t ih =>
    rw [List.map_cons, List.nodup_cons] at hn
    unfold valD tabD
    rw [List.map_cons]
    by_cases e : p.1 = k
    · rw [List.find?_cons_of_pos (by rw [e]; simp)]
      rcases List.mem_cons.mp h with z | z
      · rw [← z]; rfl
      · exact absurd (List.mem_map.mpr ⟨_, z, rfl⟩) (by rw [← e] at *; exact hn.1)
    · rw [List.find?_cons_of_neg (by simpa using fun z => e (inr_sK z))]
      rcases List.mem_cons.mp h with z | z
      · exact absurd (by rw [← z]) e
      · exact ih hn.2 z
end
section
variable {P : Program} {w : World} {K : PySem.W.Frag} {mg : Str → Option Value} {base : Heap} {f : Addr} {fd : FuncData}
def phTri : Phi := fun ds R _ => ∃ a b c : Str, ds = [.str a, .str b, .str c] ∧ R (.val (.tuple (strsD (tK a b c))))
theorem ok__law_triple (F : Fun K "_law_triple" "_law_triple" s__law_triple f fd) (T : Bl mg)   :
    FnOk P w K mg base CX0 1 f fd ["_law_one", "_law_other", "_law_third"] (spP w K (phTri)) := by
  have sc := sc__law_triple
  refine F.okP sc__law_triple (fun ds C Z h => ?_) (fun cdv A outer s H E hr => ?_)
  · unfold phTri at h; first | (split at h <;> first | rfl | exact False.elim h) | (obtain ⟨rfl, _⟩ := h; rfl) | (obtain ⟨_, rfl, _⟩ := h; rfl) | (obtain ⟨_, _, rfl, _⟩ := h; rfl) | (obtain ⟨_, _, _, rfl, _⟩ := h; rfl) | (obtain ⟨_, _, _, _, rfl, _⟩ := h; rfl) | (obtain ⟨_, _, _, _, _, rfl, _⟩ := h; rfl) | (obtain ⟨_, _, _, _, _, _, rfl, _⟩ := h; rfl) | (obtain ⟨_, _, _, _, _, _, _, rfl, _⟩ := h; rfl) | (obtain ⟨_, _, _, _, _, _, _, _, rfl, _⟩ := h; rfl)
  refine ⟨_, (q_sone (q_ret (q_callTy c_tuple (by rfl) T.b_tuple PyProof.Rows.Boot.«tuple» (q_acons (QO.qe (q_callBO c_sortedS (by rfl) T.b_sorted PyProof.Rows.Boot.«sorted» (q_acons (QO.qe (q_lst (q_acons (q_v 0) (q_acons (q_v 1) (q_acons (q_v 2) q_anil))))) q_anil))) q_anil)))), fun ds C Z h => ?_⟩
  obtain ⟨a, b, c, rfl, q⟩ := h
  refine ⟨(by show 3 ≤ sizeLine; decide), ⟨[a, b, c], rfl, (by show 3 < 64; decide), fun ss' hp hs => ?_⟩⟩
  rw [Nm.sorted_srt hp hs]
  exact q
end

/-! grounds: steps of a claim, a target, parts -/
section
variable {P : Program} {w : World} {K : PySem.W.Frag} {mg : Str → Option Value} {base : Heap} {f : Addr} {fd : FuncData}
abbrev Prt := Int × List Str
abbrev Stp := List Str × List Str × List Prt
def partD (p : Prt) : PyData := .tuple [.int p.1, tsD p.2]
def stepD (s : Stp) : PyData := .tuple [tsD s.1, tsD s.2.1, .list (s.2.2.map partD)]
/-- five words -/
def Ex5 (x : List Str) : Prop := x.length = 5 ∧ ∀ y ∈ x, Wd y
def rest (x : List Str) : List Str := tK (x.getD 0 "") (x.getD 1 "") (x.getD 2 "")
structure StpOk (s : Stp) : Prop where
  cl : s.1.length = 3
  cw : ∀ y ∈ s.1, Wd y
  tg : Ex5 s.2.1
  pl : s.2.2.length ≤ 4
  ps : ∀ p ∈ s.2.2, Ex5 p.2
theorem ex5 {x : List Str} (h : Ex5 x) : ∃ a b c d e, x = [a, b, c, d, e] := by
  match x, h.1 with
  | [a, b, c, d, e], _ => exact ⟨a, b, c, d, e, rfl⟩
def phExch : Phi := fun ds R _ => ∃ (c : Int) (ss : List Str), ds = [.int c, .list (strsD ss)] ∧ 5 ≤ ss.length ∧ ss.length ≤ 20 ∧ (∀ x ∈ ss, Wd x) ∧ ∀ x, Ex5 x → R (.val (tsD x))
theorem erase_strs : ∀ (ls : List Str) (j : Nat), (strsD ls).eraseIdx j = strsD (ls.eraseIdx j)
  | [], _ => rfl
  | _ :: _, 0 => rfl
  | x :: r, j + 1 => by
    show PyData.str x :: (strsD r).eraseIdx j = PyData.str x :: strsD (r.eraseIdx j)
    rw [erase_strs r j]
theorem ok__law_exchange_by (F : Fun K "_law_exchange_by" "_law_exchange_by" s__law_exchange_by f fd) (T : Bl mg)   :
    FnOk P w K mg base CX0 1 f fd ["_law_cell", "_law_names_here"] (spP w K (phExch)) := by
  have sc := sc__law_exchange_by
  refine F.okP sc__law_exchange_by (fun ds C Z h => ?_) (fun cdv A outer s H E hr => ?_)
  · unfold phExch at h; first | (split at h <;> first | rfl | exact False.elim h) | (obtain ⟨rfl, _⟩ := h; rfl) | (obtain ⟨_, rfl, _⟩ := h; rfl) | (obtain ⟨_, _, rfl, _⟩ := h; rfl) | (obtain ⟨_, _, _, rfl, _⟩ := h; rfl) | (obtain ⟨_, _, _, _, rfl, _⟩ := h; rfl) | (obtain ⟨_, _, _, _, _, rfl, _⟩ := h; rfl) | (obtain ⟨_, _, _, _, _, _, rfl, _⟩ := h; rfl) | (obtain ⟨_, _, _, _, _, _, _, rfl, _⟩ := h; rfl) | (obtain ⟨_, _, _, _, _, _, _, _, rfl, _⟩ := h; rfl)
  refine ⟨_, (q_scons (q_setO 2 sc.nd (q_callTyO c_list (by rfl) T.b_list PyProof.Rows.Boot.«list» (q_acons (q_v 1) q_anil)))
    (q_scons (q_setO 3 sc.nd (q_lst q_anil))
    (q_scons (q_forR1 PassesOwn.never rfl (by rfl) T.b_range (q_acons q_int q_anil) (q_gn 4 sc.nd)
      (q_scons (q_app 3 (q_popAt 2 (q_op o_mod (q_v 0) (q_lenV 2 (by rfl) T.b_len))))
    (q_sone (q_set 0 sc.nd (q_op o_div (q_v 0) (q_op o_add (q_lenV 2 (by rfl) T.b_len) q_int))))))
    (q_scons (q_asg (q_f 3) (q_glst (n := 5) rfl (q_gcons (q_gn 5 sc.nd) (q_gcons (q_gn 6 sc.nd) (q_gcons (q_gn 7 sc.nd) (q_gcons (q_gn 8 sc.nd) (q_gcons (q_gn 9 sc.nd) q_gnil)))))))
    (q_sone (q_ret (q_tup (q_acons (q_v 5) (q_acons (q_callB (c_minS rfl) (by rfl) T.b_min PyProof.Rows.Boot.«min» (q_acons (q_v 6) (q_acons (q_v 7) q_anil))) (q_acons (q_callB (c_maxS rfl) (by rfl) T.b_max PyProof.Rows.Boot.«max» (q_acons (q_v 6) (q_acons (q_v 7) q_anil))) (q_acons (q_callB (c_minS rfl) (by rfl) T.b_min PyProof.Rows.Boot.«min» (q_acons (q_v 8) (q_acons (q_v 9) q_anil))) (q_acons (q_callB (c_maxS rfl) (by rfl) T.b_max PyProof.Rows.Boot.«max» (q_acons (q_v 8) (q_acons (q_v 9) q_anil))) q_anil)))))))))))), fun ds C Z h => ?_⟩
  obtain ⟨c, ss, rfl, h5, h20, hw, q⟩ := h
  refine ⟨(by show 0 ≤ sizeLine; decide), ⟨⟨by decide, by decide⟩, ?_⟩⟩
  refine ⟨fun i ev => ∃ (c : Int) (as ls : List Str) (s : Sl), ev = [.val (.int c), .val (.list (strsD ss)), .own (.lst (strsD ls)), .own (.lst (strsD as)), s, .unk, .unk, .unk, .unk, .unk] ∧ as.length = i ∧ ls.length + i = ss.length ∧ (∀ x ∈ as, Wd x) ∧ ∀ x ∈ ls, Wd x, ⟨c, [], ss, _, rfl, rfl, rfl, (fun _ z => nomatch z), hw⟩, ?_, ?_⟩
  · rintro i ev hi ⟨c, as, ls, s, rfl, ha, hl, wa, wl⟩
    have hi' : i < 5 := hi
    have lp : 0 < ls.length := by omega
    have hln : (strsD ls).length = ls.length := len_strsD ls
    have n0 := Int.emod_nonneg c (show ((ls.length : Nat) : Int) ≠ 0 by omega)
    have n1 := Int.emod_lt_of_pos c (show (0 : Int) < ((ls.length : Nat) : Int) by omega)
    obtain ⟨j, hj⟩ : ∃ j : Nat, c % ((ls.length : Nat) : Int) = (j : Int) := ⟨(c % ((ls.length : Nat) : Int)).toNat, by omega⟩
    have hjl : j < ls.length := by omega
    refine ⟨⟨_, rfl⟩, ⟨_, rfl⟩, ?_⟩
    show (0 < (((strsD ls).length : Nat) : Int)) ∧ _
    rw [hln]
    refine ⟨by omega, ?_⟩
    show -(2 ^ 63) ≤ c % ((ls.length : Nat) : Int) ∧ c % ((ls.length : Nat) : Int) < 2 ^ 63 ∧ optC (seqIndex? (c % ((ls.length : Nat) : Int)) (strsD ls).length) _
    rw [hln, hj]
    refine ⟨by omega, by omega, optC_of (PySem.StrLaws.seqIndex_nonneg (by omega) (by omega)) ?_⟩
    rw [Int.toNat_natCast]
    refine optC_of (d := .str ls[j]) (by unfold strsD; rw [List.getElem?_map, List.getElem?_eq_getElem hjl]; rfl) ?_
    refine ⟨small1000 (by rw [len_strsD]; omega), ?_⟩
    have hl2 : (strsD (ls.eraseIdx j)).length + 1 = ls.length := by rw [len_strsD, List.length_eraseIdx_of_lt hjl]; omega
    rw [erase_strs]
    show ((((strsD (ls.eraseIdx j)).length : Nat) : Int) + 1 ≠ 0 ∧ Sz 9000 ((((strsD (ls.eraseIdx j)).length : Nat) : Int) + 1)) ∧ _
    rw [show (((strsD (ls.eraseIdx j)).length : Nat) : Int) + 1 = ((ls.length : Nat) : Int) by omega]
    refine ⟨⟨by omega, sz9 (by omega)⟩, _, as ++ [ls[j]], ls.eraseIdx j, _, by unfold strsD; rw [List.map_append]; rfl, by rw [List.length_append, ha]; rfl, by rw [List.length_eraseIdx_of_lt hjl]; omega, fun x hx => ?_, fun x hx => wl x (List.mem_of_mem_eraseIdx hx)⟩
    rcases List.mem_append.mp hx with z | z
    · exact wa x z
    · rw [List.mem_singleton.mp z]; exact wl _ (List.getElem_mem hjl)
  · rintro ev ⟨c, as, ls, s, rfl, ha, hl, wa, wl⟩
    have ha5 : as.length = 5 := ha
    obtain ⟨x1, x2, x3, x4, x5, rfl⟩ : ∃ a b c d e, as = [a, b, c, d, e] := by
      match as, ha5 with
      | [a, b, c, d, e], _ => exact ⟨a, b, c, d, e, rfl⟩
    refine ⟨rfl, (by show 5 ≤ sizeLine; decide), ?_⟩
    refine q [x1, _, _, _, _] ⟨rfl, fun y hy => ?_⟩
    have w : ∀ y ∈ [x1, x2, x3, x4, x5], Wd y := wa
    have p : ∀ {p : Prop} [Decidable p] {a b : Str}, Wd a → Wd b → Wd (if decide p = true then a else b) := fun {p} _ {a b} ha hb => by split <;> assumption
    simp only [List.mem_cons, List.not_mem_nil, or_false] at hy
    rcases hy with rfl | rfl | rfl | rfl | rfl
    · exact w _ (by simp)
    · exact p (w _ (by simp)) (w _ (by simp))
    · exact p (w _ (by simp)) (w _ (by simp))
    · exact p (w _ (by simp)) (w _ (by simp))
    · exact p (w _ (by simp)) (w _ (by simp))
/-- tables by five names -/
theorem put_keys (t : Tab) (k : List Str) (v : Int) : ∃ t', putD (tabD t) (.inr (sK k)) (.int v) = tabD t' ∧ (∀ p ∈ t', p.1 = k ∨ ∃ q ∈ t, q.1 = p.1) ∧ ((t.map (·.1)).Nodup → (t'.map (·.1)).Nodup) ∧ t'.length ≤ t.length + 1 := by
  by_cases h : ∃ q ∈ t, q.1 = k
  · obtain ⟨j, hj⟩ : ∃ j, ixD (tabD t) (.inr (sK k)) = some j := by
      cases e : ixD (tabD t) (.inr (sK k)) with
      | some j => exact ⟨j, rfl⟩
      | none =>
        obtain ⟨q, hq, e2⟩ := h
        have := List.findIdx?_eq_none_iff.mp e (Sum.inr (sK q.1), PyData.int q.2) (List.mem_map.mpr ⟨q, hq, rfl⟩)
        rw [e2] at this
        simp at this
    refine ⟨t.modify j fun p => (p.1, v), ?_, fun p hp => ?_, fun hn => ?_, by rw [List.length_modify]; omega⟩
    · unfold putD
      rw [hj]
      unfold tabD
      exact modify_map t j v
    · obtain ⟨q, hq, e⟩ := mem_modify hp
      exact .inr ⟨q, hq, e⟩
    · rw [map_modify]; exact hn
  · refine ⟨t ++ [(k, v)], put_new v (fun p hp e => h ⟨p, hp, e⟩), fun p hp => ?_, fun hn => ?_, by simp⟩
    · rcases List.mem_append.mp hp with z | z
      · exact .inr ⟨p, z, rfl⟩
      · rw [List.mem_singleton.mp z]; exact .inl rfl
    · rw [List.map_append, List.nodup_append]
      refine ⟨hn, by simp, fun a ha b hb e => ?_⟩
      obtain ⟨q, hq, rfl⟩ := List.mem_map.mp ha
      have : b = k := by simpa using hb
      exact h ⟨q, hq, e.trans this⟩
where
  modify_map : ∀ (t : Tab) (j : Nat) (v : Int), (t.map fun p => ((Sum.inr (sK p.1) : KD), PyData.int p.2)).modify j (fun kv => (kv.1, PyData.int v)) = (t.modify j fun p => (p.1, v)).map fun p => ((Sum.inr (sK p.1) : KD), PyData.int p.2)
    | [], _, _ => by simp
    | _ :: _, 0, _ => rfl
    | p :: t, j + 1, v => by rw [List.map_cons, List.modify_succ_cons, List.modify_succ_cons, List.map_cons, modify_map t j v]
  mem_modify : ∀ {t : Tab} {j : Nat} {v : Int} {p : List Str × Int}, p ∈ (t.modify j fun p => (p.1, v)) → ∃ q ∈ t, q.1 = p.1
    | [], _, _, _, h => by simp at h
    | x :: t, 0, v, p, h => by
      rw [List.modify_zero_cons] at h
      rcases List.mem_cons.mp h with rfl | h
      · exact ⟨x, List.mem_cons_self, rfl⟩
      · exact ⟨p, List.mem_cons_of_mem _ h, rfl⟩
    | x :: t, j + 1, v, p, h => by
      rw [List.modify_succ_cons] at h
      rcases List.mem_cons.mp h with rfl | h
      · exact ⟨p, List.mem_cons_self, rfl⟩
      · obtain ⟨q, h1, h2⟩ := mem_modify h
        exact ⟨q, List.mem_cons_of_mem _ h1, h2⟩
  map_modify : ∀ {t : Tab} {j : Nat} {v : Int}, ((t.modify j fun p => (p.1, v)).map (·.1)) = t.map (·.1)
    | [], _, _ => by simp
    | _ :: _, 0, _ => rfl
    | p :: t, j + 1, v => by rw [List.modify_succ_cons, List.map_cons, List.map_cons, map_modify]
def phParts : Phi := fun ds R _ => ∃ (c : Int) (ss : List Str), ds = [.int c, .list (strsD ss)] ∧ 5 ≤ ss.length ∧ ss.length ≤ 20 ∧ (∀ x ∈ ss, Wd x) ∧ ∀ ps : List Prt, ps.length ≤ 4 → (∀ p ∈ ps, Ex5 p.2) → R (.own (.lst (ps.map partD)))
theorem ok__law_parts_by (F : Fun K "_law_parts_by" "_law_parts_by" s__law_parts_by f fd) (T : Bl mg)  (c__law_exchange_by : Cal P w K mg base CX0 1 "_law_exchange_by" ["_law_cell", "_law_names_here"] (spP w K (phExch))) :
    FnOk P w K mg base CX0 2 f fd ["_law_cell", "_law_names_here"] (spP w K (phParts)) := by
  have sc := sc__law_parts_by
  refine F.okP sc__law_parts_by (fun ds C Z h => ?_) (fun cdv A outer s H E hr => ?_)
  · unfold phParts at h; first | (split at h <;> first | rfl | exact False.elim h) | (obtain ⟨rfl, _⟩ := h; rfl) | (obtain ⟨_, rfl, _⟩ := h; rfl) | (obtain ⟨_, _, rfl, _⟩ := h; rfl) | (obtain ⟨_, _, _, rfl, _⟩ := h; rfl) | (obtain ⟨_, _, _, _, rfl, _⟩ := h; rfl) | (obtain ⟨_, _, _, _, _, rfl, _⟩ := h; rfl) | (obtain ⟨_, _, _, _, _, _, rfl, _⟩ := h; rfl) | (obtain ⟨_, _, _, _, _, _, _, rfl, _⟩ := h; rfl) | (obtain ⟨_, _, _, _, _, _, _, _, rfl, _⟩ := h; rfl)
  refine ⟨_, (q_scons (q_setO 2 sc.nd q_dnew)
    (q_scons (q_set 3 sc.nd (q_op o_div (q_v 0) q_int))
    (q_scons (q_forR1 PassesOwn.never rfl (by rfl) T.b_range (q_acons (q_op o_mod (q_v 0) q_int) q_anil) (q_gn 4 sc.nd)
      (q_scons (q_set 5 sc.nd (q_op o_sub (q_op o_mod (q_v 3) q_int) q_int))
    (q_scons (q_set 3 sc.nd (q_op o_div (q_v 3) q_int))
    (q_scons (q_if (q_tcmp o_ne (q_v 5) q_int (nomark _))
      (q_sone (q_dput 2 hr (q_v 5) (q_call c__law_exchange_by (hr.mono (by decide)) (q_acons (q_op o_mod (q_v 3) (q_op o_pow q_int q_int)) (q_acons (q_v 1) q_anil)))))
      q_snil)
    (q_sone (q_set 3 sc.nd (q_op o_div (q_v 3) (q_op o_pow q_int q_int))))))))
    (q_sone (q_retO (q_compL (cn := ["_law_one"]) (fr := ["_law_some"]) (js := [2]) (QO.qe (q_callBO (c_sortTD rfl hr) (by rfl) T.b_sorted PyProof.Rows.Boot.«sorted» (q_acons (q_f 2) q_anil))) rfl BlkOk.of
        (fun _ _ _ _ _ => (q_gn 0 (show ((["_law_one"] : List Str) ++ ((["_law_some"] : List Str) ++ [accN])).Nodup by decide +kernel))) (fun _ _ _ _ _ => q_f0) (fun _ _ _ _ _ => (q_tup (q_acons (q_dix hr (q_v 1) (q_v 0) (fun _ _ => rfl)) (q_acons (q_v 0) q_anil)))))))))), fun ds C Z h => ?_⟩
  obtain ⟨c, ss, rfl, h5, h20, hw, q⟩ := h
  have pw : CPow 10 6 := ⟨by decide, by decide, by decide⟩
  have m0 := Int.emod_nonneg c (by decide : (5 : Int) ≠ 0)
  have m1 := Int.emod_lt_of_pos c (by decide : (0 : Int) < 5)
  refine ⟨⟨by decide, sz9 (by decide)⟩, (by decide), ⟨by omega, by omega⟩, ?_⟩
  refine ⟨fun i ev => ∃ (t : Tab) (r : Int) (s4 s5 : Sl), ev = [.val (.int c), .val (.list (strsD ss)), .own (.dct (tabD t)), .val (.int r), s4, s5] ∧ t.length ≤ i ∧ (t.map (·.1)).Nodup ∧ ∀ p ∈ t, Ex5 p.1, ⟨[], _, _, _, rfl, Nat.le_refl _, .nil, (fun _ z => nomatch z)⟩, ?_, ?_⟩
  · rintro i ev hi ⟨t, r, s4, s5, rfl, hl, hn, hx⟩
    have hi' : i < (c % 5).toNat := hi
    refine ⟨(by decide), ⟨by decide, sz9 (by decide)⟩, ?_⟩
    show if (!decide (r % 9 - 4 = 0)) = true then _ else _
    refine iteNb (fun _ => ?_) (fun _ => ?_)
    · refine ⟨⟨_, rfl⟩, pw, (by decide), _, ss, rfl, h5, h20, hw, fun x hx5 => ?_⟩
      obtain ⟨t', e1, e2, e3, e4⟩ := put_keys t x (r % 9 - 4)
      refine ⟨_, .inr (sK x), rfl, (kd_sK x).symm, sK_ok x, small1000 (by unfold tabD; rw [List.length_map]; omega), pw, ⟨by decide, sz9 (by decide)⟩, t', _, _, _, by rw [← e1]; rfl, by omega, e3 hn, fun p hp => ?_⟩
      rcases e2 p hp with z | ⟨q', z1, z2⟩
      · rw [z]; exact hx5
      · rw [← z2]; exact hx q' z1
    · exact ⟨pw, ⟨by decide, sz9 (by decide)⟩, t, _, _, _, rfl, by omega, hn, hx⟩
  · rintro ev ⟨t, r, s4, s5, rfl, hl, hn, hx⟩
    refine ⟨tabD t, t.map (·.1), rfl, by unfold tabD kS; rw [List.map_map, List.map_map]; rfl, fun s hs e => ?_, fun tss' hp hs => ?_⟩
    · obtain ⟨p, hp, rfl⟩ := List.mem_map.mp hs
      have := (hx p hp).1
      rw [e] at this
      cases this
    refine ⟨fun i acc => ∃ ps : List Prt, acc = ps.map partD ∧ ps.length = i ∧ ∀ p ∈ ps, Ex5 p.2, ⟨[], rfl, rfl, (fun _ z => nomatch z)⟩, ?_, ?_⟩
    · rintro i x acc hi ⟨ps, rfl, hpl, hpx⟩
      rw [List.getElem?_map] at hi
      obtain ⟨s, hs1, rfl⟩ := Option.map_eq_some_iff.mp hi
      have hm : s ∈ t.map (·.1) := hp.mem_iff.mp (List.mem_of_getElem? hs1)
      obtain ⟨p, hp1, rfl⟩ := List.mem_map.mp hm
      have il : i < tss'.length := (List.getElem?_eq_some_iff.mp hs1).1
      have tl : tss'.length = t.length := by rw [hp.length_eq, List.length_map]
      have h4 : t.length ≤ 4 := by omega
      refine ⟨tabD t, .inr (sK p.1), rfl, (kd_sK p.1).symm, optC_of (val_tab hn hp1) ⟨(by show 2 ≤ sizeLine; decide), rfl, small1000 (by rw [List.length_map]; omega), ps ++ [(p.2, p.1)], by rw [List.map_append]; rfl, by rw [List.length_append, hpl]; rfl, fun y hy => ?_⟩⟩
      rcases List.mem_append.mp hy with z | z
      · exact hpx y z
      · rw [List.mem_singleton.mp z]; exact hx p hp1
    · rintro acc ⟨ps, rfl, hpl, hpx⟩
      have tl : tss'.length = t.length := by rw [hp.length_eq, List.length_map]
      exact q ps (by rw [hpl, List.length_map]; omega) hpx
def phGround : Phi := fun ds R _ => ∃ (ns : List Int) (k : Int) (ss : List Str) (m : Nat), ds = [.list (intsD ns), .int k, .list (strsD ss), .int (m : Nat)] ∧ 0 ≤ k ∧ 5 ≤ ss.length ∧ ss.length ≤ 20 ∧ (∀ x ∈ ss, Wd x) ∧ m ≤ 20 ∧ ∀ g : List Stp, g.length ≤ m → (∀ s ∈ g, StpOk s) → R (.own (.lst (g.map stepD)))
theorem tK_wd {a b c : Str} (ha : Wd a) (hb : Wd b) (hc : Wd c) : ∀ y ∈ tK a b c, Wd y := fun y hy => by
  have := tK_mem hy
  simp only [List.mem_cons, List.not_mem_nil, or_false] at this
  rcases this with rfl | rfl | rfl
  · exact ha
  · exact hb
  · exact hc
theorem ok__law_ground_by (F : Fun K "_law_ground_by" "_law_ground_by" s__law_ground_by f fd) (T : Bl mg)  (c__law_number : Cal P w K mg base CX0 2 "_law_number" ["_law_script", "_law_k"] (spP w K (phNum))) (c__law_exchange_by : Cal P w K mg base CX0 1 "_law_exchange_by" ["_law_cell", "_law_names_here"] (spP w K (phExch))) (c__law_triple : Cal P w K mg base CX0 1 "_law_triple" ["_law_one", "_law_other", "_law_third"] (spP w K (phTri))) (c__law_parts_by : Cal P w K mg base CX0 2 "_law_parts_by" ["_law_cell", "_law_names_here"] (spP w K (phParts))) :
    FnOk P w K mg base CX0 3 f fd ["_law_script", "_law_at", "_law_names_here", "_law_most"] (spP w K (phGround)) := by
  have sc := sc__law_ground_by
  refine F.okP sc__law_ground_by (fun ds C Z h => ?_) (fun cdv A outer s H E hr => ?_)
  · unfold phGround at h; first | (split at h <;> first | rfl | exact False.elim h) | (obtain ⟨rfl, _⟩ := h; rfl) | (obtain ⟨_, rfl, _⟩ := h; rfl) | (obtain ⟨_, _, rfl, _⟩ := h; rfl) | (obtain ⟨_, _, _, rfl, _⟩ := h; rfl) | (obtain ⟨_, _, _, _, rfl, _⟩ := h; rfl) | (obtain ⟨_, _, _, _, _, rfl, _⟩ := h; rfl) | (obtain ⟨_, _, _, _, _, _, rfl, _⟩ := h; rfl) | (obtain ⟨_, _, _, _, _, _, _, rfl, _⟩ := h; rfl) | (obtain ⟨_, _, _, _, _, _, _, _, rfl, _⟩ := h; rfl)
  refine ⟨_, (q_scons (q_setO 4 sc.nd (q_lst q_anil))
    (q_scons (q_forR1 PassesOwn.never rfl (by rfl) T.b_range (q_acons (q_op o_mod (q_call c__law_number (hr.mono (by decide)) (q_acons (q_v 0) (q_acons (q_v 1) q_anil))) (q_op o_add (q_v 3) q_int)) q_anil) (q_gn 5 sc.nd)
      (q_scons (q_set 6 sc.nd (q_call c__law_number (hr.mono (by decide)) (q_acons (q_v 0) (q_acons (q_op o_add (q_op o_add (q_v 1) q_int) (q_v 5)) q_anil))))
    (q_scons (q_set 7 sc.nd (q_call c__law_exchange_by (hr.mono (by decide)) (q_acons (q_op o_mod (q_v 6) (q_op o_pow q_int q_int)) (q_acons (q_v 2) q_anil))))
    (q_scons (q_set 8 sc.nd (q_call c__law_triple (hr.mono (by decide)) (q_acons (q_ix (q_v 7) q_int (fun _ _ => rfl)) (q_acons (q_ix (q_v 7) q_int (fun _ _ => rfl)) (q_acons (q_ix (q_v 7) q_int (fun _ _ => rfl)) q_anil)))))
    (q_sone (q_app 4 (q_tup (q_acons (q_v 8) (q_acons (q_v 7) (q_acons (q_call c__law_parts_by (hr.mono (by decide)) (q_acons (q_op o_div (q_v 6) (q_op o_pow q_int q_int)) (q_acons (q_v 2) q_anil))) q_anil))))))))))
    (q_sone (q_retO (q_m 4))))), fun ds C Z h => ?_⟩
  obtain ⟨ns, k, ss, m, rfl, hk, h5, h20, hw, hm, q⟩ := h
  have pw : CPow 10 6 := ⟨by decide, by decide, by decide⟩
  refine ⟨(by show 0 ≤ sizeLine; decide), ns, k, rfl, hk, fun v => ?_⟩
  have m0 := Int.emod_nonneg v (show ((m : Nat) : Int) + 1 ≠ 0 by omega)
  have m1 := Int.emod_lt_of_pos v (show (0 : Int) < ((m : Nat) : Int) + 1 by omega)
  refine ⟨(by show (0 : Int) < ((m : Nat) : Int) + 1; omega), ⟨by show -(2 ^ 62) ≤ v % (((m : Nat) : Int) + 1); omega, by show v % (((m : Nat) : Int) + 1) < 2 ^ 62; omega⟩, ?_⟩
  refine ⟨fun i ev => ∃ (g : List Stp) (s5 s6 s7 s8 : Sl), ev = [.val (.list (intsD ns)), .val (.int k), .val (.list (strsD ss)), .val (.int (m : Nat)), .own (.lst (g.map stepD)), s5, s6, s7, s8] ∧ g.length = i ∧ ∀ s ∈ g, StpOk s, ⟨[], _, _, _, _, rfl, rfl, (fun _ z => nomatch z)⟩, ?_, ?_⟩
  · rintro i ev hi ⟨g, s5, s6, s7, s8, rfl, hg, hs⟩
    have hi' : i < (v % (((m : Nat) : Int) + 1)).toNat := hi
    refine ⟨ns, _, rfl, by omega, fun u => ⟨pw, (by decide), _, ss, rfl, h5, h20, hw, fun x hx => ?_⟩⟩
    obtain ⟨a, b, c, d, e, rfl⟩ := ex5 hx
    refine ⟨a, b, c, rfl, ⟨_, rfl⟩, pw, ⟨by decide, sz9 (by decide)⟩, _, ss, rfl, h5, h20, hw, fun ps hl hp => ⟨(by show 3 ≤ sizeLine; decide), small1000 (by rw [List.length_map]; omega), g ++ [(tK a b c, [a, b, c, d, e], ps)], _, _, _, _, by rw [List.map_append]; rfl, by rw [List.length_append, hg]; rfl, fun y hy => ?_⟩⟩
    rcases List.mem_append.mp hy with z | z
    · exact hs y z
    · rw [List.mem_singleton.mp z]
      exact ⟨tK_len _ _ _, tK_wd (hx.2 _ (by simp)) (hx.2 _ (by simp)) (hx.2 _ (by simp)), hx, hl, hp⟩
  · rintro ev ⟨g, s5, s6, s7, s8, rfl, hg, hs⟩
    have hg' : g.length = (v % (((m : Nat) : Int) + 1)).toNat := hg
    exact q g (by omega) hs
def phCopied : Phi := fun ds R _ => ∃ g : List Stp, ds = [.list (g.map stepD)] ∧ g.length ≤ 100 ∧ R (.own (.lst (g.map stepD)))
theorem ok__law_copied (F : Fun K "_law_copied" "_law_copied" s__law_copied f fd) (T : Bl mg)   :
    FnOk P w K mg base CX0 1 f fd ["_law_ground"] (spP w K (phCopied)) := by
  have sc := sc__law_copied
  refine F.okP sc__law_copied (fun ds C Z h => ?_) (fun cdv A outer s H E hr => ?_)
  · unfold phCopied at h; first | (split at h <;> first | rfl | exact False.elim h) | (obtain ⟨rfl, _⟩ := h; rfl) | (obtain ⟨_, rfl, _⟩ := h; rfl) | (obtain ⟨_, _, rfl, _⟩ := h; rfl) | (obtain ⟨_, _, _, rfl, _⟩ := h; rfl) | (obtain ⟨_, _, _, _, rfl, _⟩ := h; rfl) | (obtain ⟨_, _, _, _, _, rfl, _⟩ := h; rfl) | (obtain ⟨_, _, _, _, _, _, rfl, _⟩ := h; rfl) | (obtain ⟨_, _, _, _, _, _, _, rfl, _⟩ := h; rfl) | (obtain ⟨_, _, _, _, _, _, _, _, rfl, _⟩ := h; rfl)
  refine ⟨_, (q_sone (q_retO (q_compL (cn := ["_law_claim", "_law_target", "_law_parts"]) (fr := []) (js := []) (q_v 0) rfl BlkOk.of
        (fun _ _ _ _ _ => (q_gtup (n := 3) rfl (q_gcons (q_gn 0 (show ((["_law_claim", "_law_target", "_law_parts"] : List Str) ++ (([] : List Str) ++ [accN])).Nodup by decide +kernel)) (q_gcons (q_gn 1 (show ((["_law_claim", "_law_target", "_law_parts"] : List Str) ++ (([] : List Str) ++ [accN])).Nodup by decide +kernel)) (q_gcons (q_gn 2 (show ((["_law_claim", "_law_target", "_law_parts"] : List Str) ++ (([] : List Str) ++ [accN])).Nodup by decide +kernel)) q_gnil))))) (fun _ _ _ _ _ => q_f0) (fun _ _ _ _ _ => (q_tup (q_acons (q_v 0) (q_acons (q_v 1) (q_acons (QO.qe (q_callTyO c_list (by rfl) T.b_list PyProof.Rows.Boot.«list» (q_acons (q_v 2) q_anil))) q_anil)))))))), fun ds C Z h => ?_⟩
  obtain ⟨g, rfl, hg, q⟩ := h
  refine ⟨fun i acc => acc = (g.take i).map stepD, rfl, ?_, ?_⟩
  · rintro i x acc hi rfl
    rw [List.getElem?_map] at hi
    obtain ⟨s, hs, rfl⟩ := Option.map_eq_some_iff.mp hi
    refine ⟨rfl, (by show 3 ≤ sizeLine; decide), rfl, small1000 (by rw [List.length_map, List.length_take]; omega), ?_⟩
    show List.map stepD (List.take i g) ++ [stepD s] = List.map stepD (List.take (i + 1) g)
    rw [List.take_add_one, hs, List.map_append]
    rfl
  · rintro acc rfl
    rw [List.length_map, List.take_length]
    exact q
end

section
variable {P : Program} {w : World} {K : PySem.W.Frag} {mg : Str → Option Value} {base : Heap} {f : Addr} {fd : FuncData}
theorem lay_ts {x : List Str} (h : ∀ y ∈ x, Wd y) : (tsD x).canLay0 = true := by
  show PyData.canLay0 (.tuple (strsD x)) = true
  rw [show PyData.canLay0 (.tuple (strsD x)) = PyData.canLayAll0 (strsD x) by simp only [PyData.canLay0]]
  exact canLay_strs h
theorem dep_ts (x : List Str) : (tsD x).depth = 1 := by
  show PyData.depthAll (strsD x) + 1 = 1
  rw [depth_strs]
theorem lay_all {α : Type} (f : α → PyData) : ∀ {l : List α}, (∀ x ∈ l, (f x).canLay0 = true) → PyData.canLayAll0 (l.map f) = true
  | [], _ => rfl
  | x :: r, h => by
    show (PyData.canLay0 (f x) && PyData.canLayAll0 (r.map f)) = true
    rw [h x List.mem_cons_self, lay_all f fun y hy => h y (List.mem_cons_of_mem _ hy)]
    rfl
theorem dep_all {α : Type} (f : α → PyData) (n : Nat) : ∀ {l : List α}, (∀ x ∈ l, (f x).depth ≤ n) → PyData.depthAll (l.map f) ≤ n
  | [], _ => Nat.zero_le _
  | x :: r, h => by
    show max (PyData.depth (f x)) (PyData.depthAll (r.map f)) ≤ n
    have h1 := h x List.mem_cons_self
    have h2 := dep_all f n fun y hy => h y (List.mem_cons_of_mem _ hy)
    omega
theorem lay_part {p : Prt} (h : Ex5 p.2) : (partD p).canLay0 = true := by
  show PyData.canLay0 (.tuple [.int p.1, tsD p.2]) = true
  simp only [PyData.canLay0, PyData.canLayAll0]
  rw [lay_ts h.2]
  rfl
theorem dep_part (p : Prt) : (partD p).depth ≤ 2 := by
  show max 0 (max ((tsD p.2).depth) 0) + 1 ≤ 2
  rw [dep_ts]
  decide
theorem lay_parts {ps : List Prt} (h : ∀ p ∈ ps, Ex5 p.2) : PyData.canLayAll0 (ps.map partD) = true := lay_all partD fun p hp => lay_part (h p hp)
theorem lay_step {s : Stp} (h : StpOk s) : (stepD s).canLay0 = true := by
  show PyData.canLay0 (.tuple [tsD s.1, tsD s.2.1, .list (s.2.2.map partD)]) = true
  simp only [PyData.canLay0, PyData.canLayAll0]
  rw [lay_ts h.cw, lay_ts h.tg.2, lay_parts h.ps]
  rfl
theorem dep_step (s : Stp) : (stepD s).depth ≤ 4 := by
  show max (tsD s.1).depth (max (tsD s.2.1).depth (max (PyData.depthAll (s.2.2.map partD) + 1) 0)) + 1 ≤ 4
  have := dep_all partD 2 (l := s.2.2) fun p _ => dep_part p
  rw [dep_ts, dep_ts]
  omega
theorem sh_steps {g : List Stp} (h : ∀ s ∈ g, StpOk s) : SeqAt.shaped (.list (g.map stepD)) = true := by
  show (PyData.canLay0 (.list (g.map stepD)) && decide (PyData.depth (.list (g.map stepD)) ≤ 64)) = true
  rw [show PyData.canLay0 (.list (g.map stepD)) = PyData.canLayAll0 (g.map stepD) by simp only [PyData.canLay0], lay_all stepD fun s hs => lay_step (h s hs), Bool.true_and]
  refine decide_eq_true ?_
  show PyData.depthAll (g.map stepD) + 1 ≤ 64
  have := dep_all stepD 4 (l := g) fun s _ => dep_step s
  omega
theorem sh_tss {l : List (List Str)} (h : ∀ x ∈ l, ∀ y ∈ x, Wd y) : SeqAt.shaped (.list (l.map tsD)) = true := by
  show (PyData.canLay0 (.list (l.map tsD)) && decide (PyData.depth (.list (l.map tsD)) ≤ 64)) = true
  rw [show PyData.canLay0 (.list (l.map tsD)) = PyData.canLayAll0 (l.map tsD) by simp only [PyData.canLay0], lay_all tsD fun s hs => lay_ts (h s hs), Bool.true_and]
  refine decide_eq_true ?_
  show PyData.depthAll (l.map tsD) + 1 ≤ 64
  have := dep_all tsD 1 (l := l) fun s _ => by rw [dep_ts]; exact Nat.le_refl _
  omega
theorem eqv_all {α : Type} (f : α → PyData) : ∀ {l : List α}, (∀ x ∈ l, PyData.eqv (f x) (f x) = true) → PyData.eqvAll (l.map f) (l.map f) = true
  | [], _ => rfl
  | x :: r, h => by
    show (PyData.eqv (f x) (f x) && PyData.eqvAll (r.map f) (r.map f)) = true
    rw [h x List.mem_cons_self, eqv_all f fun y hy => h y (List.mem_cons_of_mem _ hy)]
    rfl
theorem eqv_str (x y : Str) : PyData.eqv (.str x) (.str y) = decide (x = y) := by
  show (x == y) = _
  exact Bool.beq_eq_decide_eq x y
theorem eqv_strs2 : ∀ x y : List Str, PyData.eqvAll (strsD x) (strsD y) = decide (x = y)
  | [], [] => rfl
  | [], _ :: _ => rfl
  | _ :: _, [] => rfl
  | a :: x, b :: y => by
    show (PyData.eqv (.str a) (.str b) && PyData.eqvAll (strsD x) (strsD y)) = _
    rw [eqv_str, eqv_strs2 x y]
    by_cases h : a = b <;> by_cases h' : x = y <;> simp [h, h']
theorem eqv_ts (x y : List Str) : PyData.eqv (tsD x) (tsD y) = decide (x = y) := by
  show PyData.eqv (.tuple (strsD x)) (.tuple (strsD y)) = _
  simp only [PyData.eqv]
  exact eqv_strs2 x y
theorem eqv_part (p : Prt) : PyData.eqv (partD p) (partD p) = true := by
  show PyData.eqv (.tuple [.int p.1, tsD p.2]) (.tuple [.int p.1, tsD p.2]) = true
  simp only [PyData.eqv, PyData.eqvAll]
  rw [eqv_ts]
  simp
theorem eqv_step (s : Stp) : PyData.eqv (stepD s) (stepD s) = true := by
  show PyData.eqv (.tuple [tsD s.1, tsD s.2.1, .list (s.2.2.map partD)]) (.tuple [tsD s.1, tsD s.2.1, .list (s.2.2.map partD)]) = true
  simp only [PyData.eqv, PyData.eqvAll]
  rw [eqv_ts, eqv_ts, eqv_all partD fun p _ => eqv_part p]
  simp
theorem eqv_steps (g : List Stp) : PyData.eqv (.list (g.map stepD)) (.list (g.map stepD)) = true := by
  simp only [PyData.eqv]
  exact eqv_all stepD fun s _ => eqv_step s
theorem any_ts (l : List (List Str)) (x : List Str) : ((l.map tsD).any fun z => PyData.eqv z (tsD x)) = decide (x ∈ l) := by
  induction l with
  | nil => rfl
  | cons a l ih =>
    rw [List.map_cons, List.any_cons, ih, eqv_ts]
    by_cases h : a = x
    · subst h; simp
    · by_cases h' : x ∈ l <;> simp [h, h', Ne.symm h]
theorem lay_shape {s : Stp} (h : StpOk s) : SeqAt.shaped (tsD s.1) = true := by
  show (PyData.canLay0 (tsD s.1) && decide (PyData.depth (tsD s.1) ≤ 64)) = true
  rw [lay_ts h.cw, dep_ts]
  rfl
/-! ### the law's own way -/
/-- the one, and of the other what is not claimed ahead -/
def add (g : List Stp) (s : Stp) : List Stp := if s.1 ∈ g.map (·.1) then g else g ++ [s]
def jn (g h : List Stp) : List Stp := h.foldl add g
theorem jn_step {g h : List Stp} {i : Nat} {s : Stp} (e : h[i]? = some s) : jn g (h.take (i + 1)) = add (jn g (h.take i)) s := by
  unfold jn
  rw [List.take_add_one, e, List.foldl_append]
  rfl
theorem add_len (g : List Stp) (s : Stp) : (add g s).length ≤ g.length + 1 := by
  unfold add
  split
  · omega
  · rw [List.length_append]; exact Nat.le_refl _
theorem jn_len : ∀ (h g : List Stp), (jn g h).length ≤ g.length + h.length
  | [], g => Nat.le_refl _
  | s :: h, g => by
    have a := jn_len h (add g s)
    have b := add_len g s
    show (jn (add g s) h).length ≤ g.length + (h.length + 1)
    omega
theorem jn_ok : ∀ (h g : List Stp), (∀ s ∈ g, StpOk s) → (∀ s ∈ h, StpOk s) → ∀ s ∈ jn g h, StpOk s
  | [], g, hg, _ => hg
  | s :: h, g, hg, hh => jn_ok h (add g s) (fun x hx => by
      unfold add at hx
      split at hx
      · exact hg x hx
      · rcases List.mem_append.mp hx with z | z
        · exact hg x z
        · rw [List.mem_singleton.mp z]; exact hh s List.mem_cons_self) fun x hx => hh x (List.mem_cons_of_mem _ hx)
def phDue : Phi := fun ds R _ => ∃ g h : List Stp, ds = [.list (g.map stepD), .list (h.map stepD)] ∧ g.length ≤ 100 ∧ h.length ≤ 100 ∧ (∀ s ∈ g, StpOk s) ∧ (∀ s ∈ h, StpOk s) ∧ R (.own (.lst ((jn g h).map stepD)))
theorem ok__law_due (F : Fun K "_law_due" "_law_due" s__law_due f fd) (T : Bl mg)   :
    FnOk P w K mg base CX0 1 f fd ["_law_one", "_law_other"] (spP w K (phDue)) := by
  have sc := sc__law_due
  refine F.okP sc__law_due (fun ds C Z h => ?_) (fun cdv A outer s H E hr => ?_)
  · unfold phDue at h; first | (split at h <;> first | rfl | exact False.elim h) | (obtain ⟨rfl, _⟩ := h; rfl) | (obtain ⟨_, rfl, _⟩ := h; rfl) | (obtain ⟨_, _, rfl, _⟩ := h; rfl) | (obtain ⟨_, _, _, rfl, _⟩ := h; rfl) | (obtain ⟨_, _, _, _, rfl, _⟩ := h; rfl) | (obtain ⟨_, _, _, _, _, rfl, _⟩ := h; rfl) | (obtain ⟨_, _, _, _, _, _, rfl, _⟩ := h; rfl) | (obtain ⟨_, _, _, _, _, _, _, rfl, _⟩ := h; rfl) | (obtain ⟨_, _, _, _, _, _, _, _, rfl, _⟩ := h; rfl)
  refine ⟨_, (q_scons (q_setO 2 sc.nd (q_callTyO c_list (by rfl) T.b_list PyProof.Rows.Boot.«list» (q_acons (q_v 0) q_anil)))
    (q_scons (q_forL PassesOwn.never rfl (q_v 1) (q_gn 3 sc.nd)
      (q_sone (q_if (q_lendT 2 (q_tcmp (o_notInD hr) (q_ix (q_v 3) q_int (fun _ _ => rfl)) (QO.qe (q_compL (cn := ["_law_ahead"]) (fr := []) (js := []) (q_v 2) rfl BlkOk.of
        (fun _ _ _ _ _ => (q_gn 0 (show ((["_law_ahead"] : List Str) ++ (([] : List Str) ++ [accN])).Nodup by decide +kernel))) (fun _ _ _ _ _ => q_f0) (fun _ _ _ _ _ => (q_ix (q_v 0) q_int (fun _ _ => rfl))))) (by rfl)))
      (q_sone (q_app 2 (q_v 3)))
      q_snil)))
    (q_sone (q_retO (q_m 2))))), fun ds C Z h => ?_⟩
  obtain ⟨g, h, rfl, lg, lh, og, oh, q⟩ := h
  refine ⟨fun i ev => ∃ s3 : Sl, ev = [.val (.list (g.map stepD)), .val (.list (h.map stepD)), .own (.lst ((jn g (h.take i)).map stepD)), s3], ⟨_, rfl⟩, ?_, ?_⟩
  · rintro i x ev hi ⟨s3, rfl⟩
    rw [List.getElem?_map] at hi
    obtain ⟨s, hs, rfl⟩ := Option.map_eq_some_iff.mp hi
    have il : i < h.length := (List.getElem?_eq_some_iff.mp hs).1
    have so := oh s (List.mem_of_getElem? hs)
    have kl := jn_len (h.take i) g
    rw [List.length_take] at kl
    have ko := jn_ok (h.take i) g og fun x hx => oh x (List.mem_of_mem_take hx)
    generalize hk : jn g (h.take i) = k at *
    refine ⟨fun j acc => acc = ((k.take j).map (·.1)).map tsD, rfl, ?_, ?_⟩
    · rintro j x acc hj rfl
      rw [List.getElem?_map] at hj
      obtain ⟨t, ht, rfl⟩ := Option.map_eq_some_iff.mp hj
      refine ⟨rfl, small1000 (by rw [List.length_map, List.length_map, List.length_take]; omega), ?_⟩
      show _ ++ [tsD t.1] = _
      rw [List.take_add_one, ht, List.map_append, List.map_append]
      rfl
    · rintro acc rfl
      rw [List.length_map, List.take_length]
      refine ⟨lay_shape so, sh_tss (fun x hx => ?_), rfl, ⟨trivial, trivial, trivial, trivial⟩, ?_⟩
      · obtain ⟨t, ht, rfl⟩ := List.mem_map.mp hx
        exact (ko t ht).cw
      · show if (!(((k.map (·.1)).map tsD).any fun z => PyData.eqv z (tsD s.1))) = true then _ else _
        rw [any_ts]
        by_cases hm : s.1 ∈ k.map (·.1)
        · rw [if_neg (by rw [decide_eq_true hm]; decide)]
          refine ⟨.val (stepD s), ?_⟩
          rw [jn_step hs, hk]
          unfold add
          rw [if_pos hm]
          rfl
        · rw [if_pos (by rw [decide_eq_false hm]; decide)]
          refine ⟨⟨_, rfl⟩, small1000 (by rw [List.length_map]; omega), .val (stepD s), ?_⟩
          rw [jn_step hs, hk]
          unfold add
          rw [if_neg hm, List.map_append]
          rfl
  · rintro ev ⟨s3, rfl⟩
    rw [List.length_map, List.take_length]
    exact q
/-! ### the program's way: cells -/
def stepC (s : Stp) (l : Addr) : PyData := .tuple [tsD s.1, tsD s.2.1, opD l]
def cellC (s : Stp) (l : Addr) : Addr × MV := (l, .lst (s.2.2.map partD))
def zc (k : List Stp) (ls : List Addr) : List PyData := List.zipWith stepC k ls
def zo (k : List Stp) (ls : List Addr) : Cells := List.zipWith cellC k ls
theorem zo_at : ∀ {k : List Stp} {ls : List Addr} {l : Addr}, ls.length = k.length → l ∈ ls → ∃ m, (l, m) ∈ zo k ls
  | [], [], _, _, h => by cases h
  | s :: k, l' :: ls, l, e, h => by
    rcases List.mem_cons.mp h with z | z
    · rw [z]; exact ⟨_, List.mem_cons_self⟩
    · obtain ⟨m, hm⟩ := zo_at (k := k) (by simpa using e) z
      exact ⟨m, List.mem_cons_of_mem _ hm⟩
  | [], _ :: _, _, e, _ => by cases e
  | _ :: _, [], _, e, _ => by cases e
def phCop : Phi := fun ds R _ => ∃ s : Stp, ds = [stepD s] ∧ ∀ l : Addr, R (.valc (stepC s l) [cellC s l])
theorem ok_copied (F : Fun K "copied" "copied" s_copied f fd) (T : Bl mg)   :
    FnOk P w K mg base CX0 1 f fd ["step"] (spP w K (phCop)) := by
  have sc := sc_copied
  refine F.okPC sc_copied (fun ds C Z h => ?_) (fun cdv A outer s H E hr => ?_)
  · unfold phCop at h; first | (split at h <;> first | rfl | exact False.elim h) | (obtain ⟨rfl, _⟩ := h; rfl) | (obtain ⟨_, rfl, _⟩ := h; rfl) | (obtain ⟨_, _, rfl, _⟩ := h; rfl) | (obtain ⟨_, _, _, rfl, _⟩ := h; rfl) | (obtain ⟨_, _, _, _, rfl, _⟩ := h; rfl) | (obtain ⟨_, _, _, _, _, rfl, _⟩ := h; rfl) | (obtain ⟨_, _, _, _, _, _, rfl, _⟩ := h; rfl) | (obtain ⟨_, _, _, _, _, _, _, rfl, _⟩ := h; rfl) | (obtain ⟨_, _, _, _, _, _, _, _, rfl, _⟩ := h; rfl)
  refine ⟨_, (q_sone (q_retC 1 (q_tup (q_acons (q_ix (q_v 0) q_int (fun _ _ => rfl)) (q_acons (q_ix (q_v 0) q_int (fun _ _ => rfl)) (q_acons (q_cell 1 (q_callTyO c_list (by rfl) T.b_list PyProof.Rows.Boot.«list» (q_acons (q_ix (q_v 0) q_int (fun _ _ => rfl)) q_anil))) q_anil)))))), fun ds C Z h => ?_⟩
  obtain ⟨s, rfl, q⟩ := h
  exact ⟨[], rfl, fun a _ => ⟨(by show 3 ≤ sizeLine; decide), [cellC s a], rfl, q a⟩⟩
/-- what is noted of rests -/
def setD (ks : List (List Str)) : List (KD × PyData) := ks.map fun c => (Sum.inr (sK c), PyData.bool true)
theorem val_set (ks : List (List Str)) (c : List Str) : (valD (setD ks) (.inr (sK c))).isSome = decide (c ∈ ks) := by
  induction ks with
  | nil => rfl
  | cons a ks ih =>
    unfold valD setD at ih ⊢
    rw [List.map_cons]
    by_cases h : a = c
    · rw [List.find?_cons_of_pos (by rw [h]; simp), h]
      simp
    · rw [List.find?_cons_of_neg (by simpa using fun z => h (inr_sK z)), ih]
      by_cases h' : c ∈ ks <;> simp [h', Ne.symm h]
theorem put_set (ks : List (List Str)) (c : List Str) : ∃ ks', putD (setD ks) (.inr (sK c)) (.bool true) = setD ks' ∧ (∀ x, x ∈ ks' ↔ x ∈ ks ∨ x = c) ∧ ks'.length ≤ ks.length + 1 := by
  by_cases h : c ∈ ks
  · refine ⟨ks, ?_, fun x => ⟨.inl, fun z => z.elim id fun z => z ▸ h⟩, by omega⟩
    unfold putD
    cases e : ixD (setD ks) (.inr (sK c)) with
    | none =>
      have := List.findIdx?_eq_none_iff.mp e (Sum.inr (sK c), PyData.bool true) (List.mem_map.mpr ⟨c, h, rfl⟩)
      simp at this
    | some j =>
      show (setD ks).modify j (fun kv => (kv.1, PyData.bool true)) = setD ks
      unfold setD
      exact same ks j
  · refine ⟨ks ++ [c], ?_, fun x => by simp, by simp⟩
    unfold putD
    rw [show ixD (setD ks) (.inr (sK c)) = none from List.findIdx?_eq_none_iff.mpr fun kv hkv => by
      obtain ⟨x, hx, rfl⟩ := List.mem_map.mp hkv
      exact decide_eq_false fun e => h (inr_sK e ▸ hx)]
    show setD ks ++ [(Sum.inr (sK c), PyData.bool true)] = setD (ks ++ [c])
    unfold setD
    rw [List.map_append]
    rfl
where
  same : ∀ (ks : List (List Str)) (j : Nat), (ks.map fun c => ((Sum.inr (sK c) : KD), PyData.bool true)).modify j (fun kv => (kv.1, PyData.bool true)) = ks.map fun c => ((Sum.inr (sK c) : KD), PyData.bool true)
    | [], _ => by simp
    | _ :: _, 0 => rfl
    | k :: ks, j + 1 => by rw [List.map_cons, List.modify_succ_cons, same ks j]
theorem ap_ts (D : PyData) (x : List Str) : Ap D (tsD x) := .tup fun d hd => by
  obtain ⟨y, _, rfl⟩ := List.mem_map.mp hd
  exact .str y
theorem ap_part (D : PyData) (p : Prt) : Ap D (partD p) := .tup fun d hd => by
  simp only [List.mem_cons, List.not_mem_nil, or_false] at hd
  rcases hd with rfl | rfl
  · exact .int _
  · exact ap_ts D _
theorem ap_stepC (D : PyData) (s : Stp) (l : Addr) : Ap D (stepC s l) := .tup fun d hd => by
  simp only [List.mem_cons, List.not_mem_nil, or_false] at hd
  rcases hd with rfl | rfl | rfl
  · exact ap_ts D _
  · exact ap_ts D _
  · exact .cel l
theorem ap_zc (D : PyData) : ∀ (k : List Stp) (ls : List Addr), ∀ d ∈ zc k ls, Ap D d
  | [], _, _, h => by cases h
  | _ :: _, [], _, h => by cases h
  | s :: k, l :: ls, d, h => by
    rcases List.mem_cons.mp h with z | z
    · rw [z]; exact ap_stepC D s l
    · exact ap_zc D k ls d z
theorem ap_zo (D : PyData) : ∀ (k : List Stp) (ls : List Addr), ∀ am ∈ zo k ls, ApM D am.2
  | [], _, _, h => by cases h
  | _ :: _, [], _, h => by cases h
  | s :: k, l :: ls, am, h => by
    rcases List.mem_cons.mp h with z | z
    · rw [z]
      intro d hd
      obtain ⟨p, _, rfl⟩ := List.mem_map.mp hd
      exact ap_part D p
    · exact ap_zo D k ls am z
theorem zc_snoc : ∀ {k : List Stp} {ls : List Addr} (s : Stp) (l : Addr), ls.length = k.length → zc (k ++ [s]) (ls ++ [l]) = zc k ls ++ [stepC s l]
  | [], [], s, l, _ => rfl
  | x :: k, y :: ls, s, l, e => by
    show stepC x y :: zc (k ++ [s]) (ls ++ [l]) = stepC x y :: (zc k ls ++ [stepC s l])
    rw [zc_snoc (k := k) (ls := ls) s l (by simpa using e)]
  | [], _ :: _, _, _, e => by cases e
  | _ :: _, [], _, _, e => by cases e
theorem zo_snoc : ∀ {k : List Stp} {ls : List Addr} (s : Stp) (l : Addr), ls.length = k.length → (zo (k ++ [s]) (ls ++ [l])).reverse = cellC s l :: (zo k ls).reverse
  | [], [], s, l, _ => rfl
  | x :: k, y :: ls, s, l, e => by
    show (cellC x y :: zo (k ++ [s]) (ls ++ [l])).reverse = cellC s l :: (cellC x y :: zo k ls).reverse
    rw [List.reverse_cons, List.reverse_cons, zo_snoc (k := k) (ls := ls) s l (by simpa using e)]
    rfl
  | [], _ :: _, _, _, e => by cases e
  | _ :: _, [], _, _, e => by cases e
def trueD (l : List (List Str)) : List (KD × PyData) := l.map fun c => ((Sum.inr (sK c) : KD), PyData.bool true)
theorem puts_set : ∀ (l ks : List (List Str)), ∃ ks', putsD (setD ks) (trueD l) = setD ks' ∧ (∀ x, x ∈ ks' ↔ x ∈ ks ∨ x ∈ l) ∧ ks'.length ≤ ks.length + l.length
  | [], ks => ⟨ks, rfl, fun x => by simp, Nat.le_refl _⟩
  | c :: l, ks => by
    obtain ⟨k1, e1, e2, e3⟩ := put_set ks c
    obtain ⟨k2, f1, f2, f3⟩ := puts_set l k1
    refine ⟨k2, ?_, fun x => ?_, by rw [List.length_cons]; omega⟩
    · show putsD (putD (setD ks) (.inr (sK c)) (.bool true)) (trueD l) = _
      rw [e1, f1]
    · rw [f2, e2, List.mem_cons, or_assoc]
theorem pair_true (l : List Stp) : (trueD (l.map (·.1))).map pairD = l.map fun s => PyData.tuple [tsD s.1, .bool true] := by
  unfold trueD
  rw [List.map_map, List.map_map]
  refine List.map_congr_left fun s _ => ?_
  show PyData.tuple [kdD (.inr (sK s.1)), .bool true] = _
  rw [kd_sK]
  rfl
def phJoin : Phi := fun ds R _ => ∃ g h : List Stp, ds = [.list (g.map stepD), .list (h.map stepD)] ∧ g.length ≤ 100 ∧ h.length ≤ 100 ∧ (∀ s ∈ g, StpOk s) ∧ (∀ s ∈ h, StpOk s) ∧ ∀ ls : List Addr, ls.length = (jn g h).length → ls.Nodup → R (.ownc (.lst (zc (jn g h) ls)) (zo (jn g h) ls).reverse)
def JnJ (g h k : List Stp) (i : Nat) (ev : Ev) : Prop := ∃ (ls : List Addr) (ks : List (List Str)) (s4 : Sl), ev = [.val (.list (g.map stepD)), .val (.list (h.map stepD)), .own (.lst (zc k ls)), .own (.dct (setD ks)), s4, .cel (zo k ls).reverse] ∧ ls.length = k.length ∧ ls.Nodup ∧ (∀ c, c ∈ ks ↔ c ∈ k.map (·.1)) ∧ ks.length ≤ 100 + i
theorem ok_joined (F : Fun K "joined" "joined" s_joined f fd) (T : Bl mg)  (c_copied : Cal P w K mg base CX0 1 "copied" ["step"] (spP w K (phCop))) :
    FnOk P w K mg base CX0 2 f fd ["one", "other"] (spP w K (phJoin)) := by
  have sc := sc_joined
  refine F.okPC sc_joined (fun ds C Z h => ?_) (fun cdv A outer s H E hr => ?_)
  · unfold phJoin at h; first | (split at h <;> first | rfl | exact False.elim h) | (obtain ⟨rfl, _⟩ := h; rfl) | (obtain ⟨_, rfl, _⟩ := h; rfl) | (obtain ⟨_, _, rfl, _⟩ := h; rfl) | (obtain ⟨_, _, _, rfl, _⟩ := h; rfl) | (obtain ⟨_, _, _, _, rfl, _⟩ := h; rfl) | (obtain ⟨_, _, _, _, _, rfl, _⟩ := h; rfl) | (obtain ⟨_, _, _, _, _, _, rfl, _⟩ := h; rfl) | (obtain ⟨_, _, _, _, _, _, _, rfl, _⟩ := h; rfl) | (obtain ⟨_, _, _, _, _, _, _, _, rfl, _⟩ := h; rfl)
  refine ⟨_, (q_scons (q_setCompLC 2 sc.nd (cn := ["step"]) (fr := []) (js := []) (g := 5) (q_v 0) rfl BlkOk.of
        (fun _ _ _ _ _ => (q_gn 0 (show ((["step"] : List Str) ++ (([] : List Str) ++ [accN, celN])).Nodup by decide +kernel))) (fun _ _ _ _ _ => q_f0) (fun _ _ _ _ _ => (q_callC 2 c_copied (hr.mono (by decide)) (q_acons (q_v 0) q_anil))))
    (q_scons (q_setO 3 sc.nd (q_callTyO (c_dictL rfl hr) (by rfl) T.b_dict PyProof.Rows.Boot.«dict» (q_acons (QO.qe (q_compL (cn := ["step"]) (fr := []) (js := []) (q_v 0) rfl BlkOk.of
        (fun _ _ _ _ _ => (q_gn 0 (show ((["step"] : List Str) ++ (([] : List Str) ++ [accN])).Nodup by decide +kernel))) (fun _ _ _ _ _ => q_f0) (fun _ _ _ _ _ => (q_tup (q_acons (q_ix (q_v 0) q_int (fun _ _ => rfl)) (q_acons q_bl q_anil)))))) q_anil)))
    (q_scons (q_forL PassesOwn.never rfl (q_v 1) (q_gn 4 sc.nd)
      (q_sone (q_if (q_lendT 3 (q_tcmp (o_notInK hr) (q_ix (q_v 4) q_int (fun _ _ => rfl)) (q_v 3) (by rfl)))
      (q_scons (q_app 2 (q_callC 5 c_copied (hr.mono (by decide)) (q_acons (q_v 4) q_anil)))
    (q_sone (q_dput 3 hr q_bl (q_ix (q_v 4) q_int (fun _ _ => rfl)))))
      q_snil)))
    (q_sone (q_retOC 5 (q_m 2)))))), fun ds C Z h => ?_⟩
  obtain ⟨g, h, rfl, lg, lh, og, oh, q⟩ := h
  refine ⟨[], rfl, fun i acc os => ∃ ls : List Addr, acc = zc (g.take i) ls ∧ os = (zo (g.take i) ls).reverse ∧ ls.length = (g.take i).length ∧ ls.Nodup, ⟨[], rfl, rfl, rfl, .nil⟩, ?_, ?_⟩
  · rintro i x acc os hi ⟨ls, rfl, rfl, hl, hn⟩
    rw [List.getElem?_map] at hi
    obtain ⟨s, hs, rfl⟩ := Option.map_eq_some_iff.mp hi
    have et : g.take (i + 1) = g.take i ++ [s] := by rw [List.take_add_one, hs]; rfl
    have tl : (g.take i).length ≤ 100 := by rw [List.length_take]; omega
    refine ⟨s, rfl, fun l => ⟨_, rfl, fun fr => ?_⟩⟩
    have lf : l ∉ ls := fun z => by
      obtain ⟨m, hm⟩ := zo_at hl z
      exact fr l _ m List.mem_cons_self (List.mem_reverse.mpr hm)
    refine ⟨rfl, small1000 (by unfold zc; rw [List.length_zipWith]; omega), _, rfl, ls ++ [l], ?_, ?_, ?_, ?_⟩
    · rw [et, zc_snoc s l hl]
    · rw [et, zo_snoc s l hl]; rfl
    · rw [et, List.length_append, List.length_append, hl]; rfl
    · rw [List.nodup_append]
      exact ⟨hn, by simp, fun a ha b hb e => lf (by rw [← List.mem_singleton.mp hb, ← e]; exact ha)⟩
  rintro acc os ⟨ls, rfl, rfl, hl, hn⟩ _
  rw [List.length_map, List.take_length] at hl ⊢
  refine ⟨fun i acc => acc = (g.take i).map fun s => PyData.tuple [tsD s.1, .bool true], rfl, ?_, ?_⟩
  · rintro i x acc hi rfl
    rw [List.getElem?_map] at hi
    obtain ⟨s, hs, rfl⟩ := Option.map_eq_some_iff.mp hi
    refine ⟨(by show 2 ≤ sizeLine; decide), rfl, small1000 (by rw [List.length_map, List.length_take]; omega), ?_⟩
    show _ ++ [PyData.tuple [tsD s.1, .bool true]] = _
    rw [List.take_add_one, hs, List.map_append]
    rfl
  rintro acc rfl
  rw [List.length_map, List.take_length]
  refine ⟨trueD (g.map (·.1)), by rw [pair_true]; rfl, fun y hy => ?_, ?_⟩
  · obtain ⟨c, _, rfl⟩ := List.mem_map.mp hy
    exact sK_ok c
  obtain ⟨ks, e1, e2, e3⟩ := puts_set (g.map (·.1)) []
  rw [show putsD [] (trueD (g.map (·.1))) = setD ks from e1]
  refine ⟨fun i ev => JnJ g h (jn g (h.take i)) i ev, ⟨ls, ks, .unk, ?_, hl, hn, fun c => by rw [e2]; simp [jn], by rw [List.length_map] at e3; simp at e3; omega⟩, ?_, ?_⟩
  · show [Sl.val _, _, _, _, _, Sl.cel (_ ++ [])] = _
    rw [List.append_nil]
    rfl
  · rintro i x ev hi ⟨ls, ks, s4, rfl, hl, hn, hk, lk⟩
    rw [List.getElem?_map] at hi
    obtain ⟨s, hs, rfl⟩ := Option.map_eq_some_iff.mp hi
    have il : i < h.length := (List.getElem?_eq_some_iff.mp hs).1
    have kl := jn_len (h.take i) g
    rw [List.length_take] at kl
    have ej := jn_step (g := g) hs
    generalize hkk : jn g (h.take i) = k at *
    refine ⟨setD ks, .inr (sK s.1), rfl, (kd_sK s.1).symm, rfl, ⟨trivial, trivial, ap_zc _ _ _, trivial, (fun am ha => ap_zo _ _ _ am (List.mem_reverse.mp ha)), trivial⟩, ?_⟩
    show if (!(valD (setD ks) (.inr (sK s.1))).isSome) = true then _ else _
    rw [val_set]
    by_cases hm : s.1 ∈ ks
    · rw [if_neg (by rw [decide_eq_true hm]; decide)]
      show JnJ g h (jn g (h.take (i + 1))) (i + 1) _
      rw [ej]
      unfold add
      rw [if_pos ((hk _).mp hm)]
      exact ⟨ls, ks, _, rfl, hl, hn, hk, by omega⟩
    · rw [if_pos (by rw [decide_eq_false hm]; decide)]
      refine ⟨⟨_, rfl⟩, s, rfl, fun l => ⟨_, rfl, fun fr => ?_⟩⟩
      have lf : l ∉ ls := fun z => by
        obtain ⟨m, hm⟩ := zo_at hl z
        exact fr l _ m List.mem_cons_self (List.mem_reverse.mpr hm)
      refine ⟨small1000 (by unfold zc; rw [List.length_zipWith]; omega), ?_⟩
      obtain ⟨ks2, f1, f2, f3⟩ := put_set ks s.1
      refine ⟨⟨_, rfl⟩, _, .inr (sK s.1), rfl, (kd_sK _).symm, sK_ok _, small1000 (by unfold setD; rw [List.length_map]; omega), ?_⟩
      show JnJ g h (jn g (h.take (i + 1))) (i + 1) _
      rw [ej]
      unfold add
      rw [if_neg (fun z => hm ((hk _).mpr z))]
      refine ⟨ls ++ [l], ks2, .val (stepD s), ?_, by rw [List.length_append, List.length_append, hl]; rfl, ?_, fun c => ?_, by omega⟩
      · rw [zc_snoc s l hl, zo_snoc s l hl, ← f1]
        rfl
      · rw [List.nodup_append]
        exact ⟨hn, by simp, fun a ha b hb e => lf (by rw [← List.mem_singleton.mp hb, ← e]; exact ha)⟩
      · rw [f2, hk, List.map_append, List.mem_append]
        simp
  · rintro ev ⟨ls, ks, s4, rfl, hl, hn, hk, lk⟩
    rw [List.length_map, List.take_length] at hl ⊢
    exact ⟨_, rfl, q ls hl hn⟩
end

section
variable {P : Program} {w : World} {K : PySem.W.Frag} {mg : Str → Option Value} {base : Heap} {f : Addr} {fd : FuncData}
theorem rsv_parts (os : Cells) {ps : List Prt} (h : ∀ p ∈ ps, Ex5 p.2) : Rsvs os (ps.map partD) (ps.map partD) := Rsvs.self os (lay_parts h)
theorem rsv_zc {os : Cells} : ∀ {k : List Stp} {ls : List Addr}, ls.length = k.length → (∀ s ∈ k, StpOk s) → (∀ am ∈ zo k ls, am ∈ os) → Rsvs os (zc k ls) (k.map stepD)
  | [], [], _, _, _ => .nil
  | s :: k, l :: ls, e, h, hm => by
    have sok := h s List.mem_cons_self
    refine .cons (.tup (.cons (Rsv.self os (lay_ts sok.cw)) (.cons (Rsv.self os (lay_ts sok.tg.2)) (.cons (.cel (hm (cellC s l) List.mem_cons_self) (rsv_parts os sok.ps)) .nil)))) (rsv_zc (by simpa using e) (fun x hx => h x (List.mem_cons_of_mem _ hx)) fun am ha => hm am (List.mem_cons_of_mem _ ha))
  | [], _ :: _, e, _, _ => by cases e
  | _ :: _, [], e, _, _ => by cases e
theorem zc_at : ∀ {k : List Stp} {ls : List Addr} {i : Nat} {x : PyData}, (zc k ls)[i]? = some x → ∃ s l, x = stepC s l ∧ l ∈ ls
  | [], _, _, _, h => by simp [zc] at h
  | _ :: _, [], _, _, h => by simp [zc] at h
  | s :: k, l :: ls, 0, x, h => ⟨s, l, (Option.some.inj h).symm, List.mem_cons_self⟩
  | s :: k, l :: ls, i + 1, x, h => by
    obtain ⟨s', l', e, hm⟩ := zc_at (k := k) (ls := ls) (i := i) (x := x) h
    exact ⟨s', l', e, List.mem_cons_of_mem _ hm⟩
theorem zo_parts : ∀ {k : List Stp} {ls : List Addr} {l : Addr}, ls.length = k.length → (∀ s ∈ k, StpOk s) → l ∈ ls → ∃ ds, (l, MV.lst ds) ∈ zo k ls ∧ ds.length ≤ 4
  | [], [], _, _, _, h => by cases h
  | s :: k, l' :: ls, l, e, ho, h => by
    rcases List.mem_cons.mp h with z | z
    · rw [z]; exact ⟨_, List.mem_cons_self, by rw [List.length_map]; exact (ho s List.mem_cons_self).pl⟩
    · obtain ⟨m, hm, hl⟩ := zo_parts (k := k) (by simpa using e) (fun x hx => ho x (List.mem_cons_of_mem _ hx)) z
      exact ⟨m, List.mem_cons_of_mem _ hm, hl⟩
  | [], _ :: _, _, e, _, _ => by cases e
  | _ :: _, [], _, e, _, _ => by cases e
theorem sh_two {g h : List Stp} (hg : ∀ s ∈ g, StpOk s) (hh : ∀ s ∈ h, StpOk s) : SeqAt.shaped (.tuple [.list (g.map stepD), .list (h.map stepD)]) = true := by
  have a := sh_steps hg
  have b := sh_steps hh
  unfold SeqAt.shaped at a b ⊢
  simp only [Bool.and_eq_true, decide_eq_true_eq] at a b ⊢
  refine ⟨?_, ?_⟩
  · show (PyData.canLay0 (.list (g.map stepD)) && (PyData.canLay0 (.list (h.map stepD)) && true)) = true
    rw [a.1, b.1]; rfl
  · have d : ∀ k : List Stp, (PyData.list (k.map stepD)).depth ≤ 5 := fun k => Nat.succ_le_succ (dep_all stepD 4 fun s _ => dep_step s)
    show max (PyData.depth (.list (g.map stepD))) (max (PyData.depth (.list (h.map stepD))) 0) + 1 ≤ 64
    have := d g
    have := d h
    omega
theorem eqv_two (g h : List Stp) : PyData.eqv (.tuple [.list (g.map stepD), .list (h.map stepD)]) (.tuple [.list (g.map stepD), .list (h.map stepD)]) = true := by
  show (PyData.eqv (.list (g.map stepD)) (.list (g.map stepD)) && (PyData.eqv (.list (h.map stepD)) (.list (h.map stepD)) && true)) = true
  rw [eqv_steps, eqv_steps]
  rfl
theorem cut_steps (g : List Stp) (a b : Option Int) : ∃ g' : List Stp, cutD (g.map stepD) a b = g'.map stepD ∧ g'.length ≤ g.length ∧ ∀ s ∈ g', s ∈ g := by
  unfold cutD
  refine ⟨(g.drop _).take _, by rw [List.map_take, List.map_drop], by rw [List.length_take, List.length_drop]; omega, fun s hs => List.mem_of_mem_drop (List.mem_of_mem_take hs)⟩
theorem ok_law (F : Fun K "law" "law" s_law f fd) (T : Bl mg)  (c__law_names : Cal P w K mg base CX0 3 "_law_names" ["_law_script", "_law_at", "_law_many"] (spP w K (phNames))) (c__law_ground_by : Cal P w K mg base CX0 3 "_law_ground_by" ["_law_script", "_law_at", "_law_names_here", "_law_most"] (spP w K (phGround))) (c__law_copied : Cal P w K mg base CX0 1 "_law_copied" ["_law_ground"] (spP w K (phCopied))) (c_joined : Cal P w K mg base CX0 2 "joined" ["one", "other"] (spP w K (phJoin))) (c__law_number : Cal P w K mg base CX0 2 "_law_number" ["_law_script", "_law_k"] (spP w K (phNum))) (c__law_due : Cal P w K mg base CX0 1 "_law_due" ["_law_one", "_law_other"] (spP w K (phDue))) :
    FnOk P w K mg base CX0 4 f fd ["_law_script"] (spP w K (phLaw)) := by
  have sc := sc_law
  refine F.okPC sc_law (fun ds C Z h => ?_) (fun cdv A outer s H E hr => ?_)
  · unfold phLaw at h; first | (split at h <;> first | rfl | exact False.elim h) | (obtain ⟨rfl, _⟩ := h; rfl) | (obtain ⟨_, rfl, _⟩ := h; rfl) | (obtain ⟨_, _, rfl, _⟩ := h; rfl) | (obtain ⟨_, _, _, rfl, _⟩ := h; rfl) | (obtain ⟨_, _, _, _, rfl, _⟩ := h; rfl) | (obtain ⟨_, _, _, _, _, rfl, _⟩ := h; rfl) | (obtain ⟨_, _, _, _, _, _, rfl, _⟩ := h; rfl) | (obtain ⟨_, _, _, _, _, _, _, rfl, _⟩ := h; rfl) | (obtain ⟨_, _, _, _, _, _, _, _, rfl, _⟩ := h; rfl)
  refine ⟨_, (q_scons (q_set 1 sc.nd (q_call c__law_names (hr.mono (by decide)) (q_acons (q_v 0) (q_acons q_int (q_acons q_int q_anil)))))
    (q_scons (q_mid (q_if (q_tcmp o_lt (q_callB c_len (by rfl) T.b_len PyProof.Rows.Boot.«len» (q_acons (q_v 1) q_anil)) q_int (nomark _))
      (q_sone (q_set 1 sc.nd (QO.qe (q_lst (q_acons q_str (q_acons q_str (q_acons q_str (q_acons q_str (q_acons q_str q_anil)))))))))
      q_snil))
    (q_scons (q_set 2 sc.nd (q_call c__law_ground_by (hr.mono (by decide)) (q_acons (q_v 0) (q_acons q_int (q_acons (q_v 1) (q_acons q_int q_anil))))))
    (q_scons (q_set 3 sc.nd (q_call c__law_ground_by (hr.mono (by decide)) (q_acons (q_v 0) (q_acons q_int (q_acons (q_v 1) (q_acons q_int q_anil))))))
    (q_scons (q_mid (q_if (q_tcmp o_eq (q_op o_mod (q_call c__law_number (hr.mono (by decide)) (q_acons (q_v 0) (q_acons q_int q_anil))) q_int) q_int (nomark _))
      (q_sone (q_set 3 sc.nd (QO.qe (q_cat (QO.qe (q_sl (q_v 2) (q_p (q_op o_mod (q_op o_div (q_call c__law_number (hr.mono (by decide)) (q_acons (q_v 0) (q_acons q_int q_anil))) q_int) q_int)) q_pno)) (q_v 3)))))
      q_snil))
    (q_scons (q_set 4 sc.nd (q_tup (q_acons (q_call c__law_copied (hr.mono (by decide)) (q_acons (q_v 2) q_anil)) (q_acons (q_call c__law_copied (hr.mono (by decide)) (q_acons (q_v 3) q_anil)) q_anil))))
    (q_scons (q_forR1 PassesOwn.never rfl (by rfl) T.b_range (q_acons q_int q_anil) (q_gn 5 sc.nd)
      (q_scons (q_set 6 sc.nd (q_callC 8 c_joined (hr.mono (by decide)) (q_acons (q_ix (q_v 4) q_int (fun _ _ => rfl)) (q_acons (q_ix (q_v 4) q_int (fun _ _ => rfl)) q_anil))))
    (q_scons (q_if (QW.qt (q_wor (q_tnot (q_tval (q_isiC 8 K (q_v 6) (by rfl) T.b_isinstance (by rfl) T.b_list PyProof.Rows.Boot.«list»))) (q_wor (q_tcmpCn 8 hr (q_v 6) (q_call c__law_due (hr.mono (by decide)) (q_acons (q_v 2) (q_acons (q_v 3) q_anil)))) (q_wor1 (q_tcmp (o_neD hr) (q_v 4) (q_tup (q_acons (q_v 2) (q_acons (q_v 3) q_anil))) (nomark _))))))
      (q_sone (q_ret q_bl))
      q_snil)
    (q_scons (q_forC 8 PassesOwn.never rfl (q_v 6) (q_gn 7 sc.nd)
      (q_scons (q_if (QW.qt (q_wor (q_tnot (q_tval (q_isi K (q_v 7) (by rfl) T.b_isinstance (by rfl) T.b_tuple PyProof.Rows.Boot.«tuple»))) (q_wor1 (q_tnot (q_tval (q_isiC 8 K (q_ix (q_v 7) q_int (fun _ _ => rfl)) (by rfl) T.b_isinstance (by rfl) T.b_list PyProof.Rows.Boot.«list»))))))
      (q_sone (q_ret q_bl))
      q_snil)
    (q_sone (q_appC 8 (q_ix (q_v 7) q_int (fun _ _ => rfl)) q_int))))
    (q_sone (q_appC 8 (q_v 6) q_int))))))
    (q_sone (q_ret (q_cmp (o_eqD hr) (q_v 4) (q_tup (q_acons (q_v 2) (q_acons (q_v 3) q_anil))) (nomark _))))))))))), fun ds C Z h => ?_⟩
  obtain ⟨ns, rfl, hl, q⟩ := h
  refine ⟨ns, 1, 7, rfl, by decide, by decide, fun ss nd hsl hw => ?_⟩
  refine ⟨fun ev => ∃ ss : List Str, ev = [.val (.list (intsD ns)), .val (.list (strsD ss)), .unk, .unk, .unk, .unk, .unk, .unk, .cel []] ∧ 5 ≤ ss.length ∧ ss.length ≤ 20 ∧ ∀ x ∈ ss, Wd x, ?_, ?_⟩
  · refine iteLt (fun c => ?_) (fun c => ?_)
    · refine ⟨(by show 5 ≤ sizeLine; decide), ["b", "ab", "a", "zz", "c"], rfl, by decide, by decide, ?_⟩
      unfold Wd
      decide +kernel
    · rw [len_strsD] at c
      exact ⟨ss, rfl, by omega, by omega, hw⟩
  clear hw hsl nd ss
  rintro ev ⟨ss, rfl, h5, h20, hw⟩
  refine ⟨ns, 10, ss, 6, rfl, by decide, h5, h20, hw, by decide, fun g hg og => ?_⟩
  refine ⟨ns, 20, ss, 6, rfl, by decide, h5, h20, hw, by decide, fun h0 hh0 oh0 => ?_⟩
  refine ⟨fun ev => ∃ h : List Stp, ev = [.val (.list (intsD ns)), .val (.list (strsD ss)), .val (.list (g.map stepD)), .val (.list (h.map stepD)), .unk, .unk, .unk, .unk, .cel []] ∧ h.length ≤ 12 ∧ ∀ s ∈ h, StpOk s, ?_, ?_⟩
  · refine ⟨ns, 9, rfl, by decide, fun v => ⟨(by decide), ?_⟩⟩
    refine iteLt (fun c => ?_) (fun c => ?_)
    · refine ⟨ns, 9, rfl, by decide, fun v2 => ⟨⟨by decide, sz9 (by decide)⟩, (by decide), ?_⟩⟩
      obtain ⟨g', e1, e2, e3⟩ := cut_steps g (some (Int.fdiv v2 3 % 3)) none
      show (cutD (g.map stepD) (some (Int.fdiv v2 3 % 3)) none).length + (h0.map stepD).length ≤ sizeLine ∧ _
      refine ⟨Nat.le_of_lt (small1000 (by rw [e1, List.length_map, List.length_map]; omega)), g' ++ h0, ?_, by rw [List.length_append]; omega, fun x hx => ?_⟩
      · rw [List.map_append, ← e1]
        rfl
      · rcases List.mem_append.mp hx with z | z
        · exact og x (e3 x z)
        · exact oh0 x z
    · exact ⟨h0, rfl, by omega, oh0⟩
  clear oh0 hh0 h0
  rintro ev ⟨h, rfl, hh, oh⟩
  refine ⟨g, rfl, by omega, h, rfl, by omega, ?_⟩
  refine ⟨(by show 2 ≤ sizeLine; decide), ⟨by decide, by decide⟩, ?_⟩
  have kb := jn_len h g
  have kok := jn_ok h g og oh
  refine ⟨fun i ev => ∃ (s4 s5 s6 : Sl) (os : Cells), ev = [.val (.list (intsD ns)), .val (.list (strsD ss)), .val (.list (g.map stepD)), .val (.list (h.map stepD)), .val (.tuple [.list (g.map stepD), .list (h.map stepD)]), s4, s5, s6, .cel os], ⟨_, _, _, _, rfl⟩, ?_, ?_⟩
  · rintro i ev hi ⟨s4, s5, s6, os, rfl⟩
    refine ⟨g, h, rfl, by omega, by omega, og, oh, fun ls ll ln => ⟨os, rfl, fun a ha1 ha2 ha3 => ?_⟩⟩
    refine ⟨a, _, true, _, rfl, rfl, List.mem_cons_self, rfl, ?_⟩
    refine ⟨g, h, rfl, by omega, by omega, og, oh, ?_⟩
    refine ⟨_, .list ((jn g h).map stepD), .list ((jn g h).map stepD), rfl, .cel List.mem_cons_self (rsv_zc ll kok fun am h => List.mem_cons_of_mem _ (List.mem_append_left _ (List.mem_reverse.mpr h))), .lst (Rsvs.self _ (lay_all stepD fun s h => lay_step (kok s h))), sh_steps kok, sh_steps kok, ?_⟩
    refine iteBF (by show (!PyData.eqv (.list ((jn g h).map stepD)) (.list ((jn g h).map stepD))) = false; rw [eqv_steps]; rfl) ?_
    refine ⟨(by show 2 ≤ sizeLine; decide), sh_two og oh, sh_two og oh, ?_⟩
    refine iteBF (by show (!PyData.eqv (.tuple [.list (g.map stepD), .list (h.map stepD)]) (.tuple [.list (g.map stepD), .list (h.map stepD)])) = false; rw [eqv_two]; rfl) ?_
    have al : a ∉ ls := fun z => by
      obtain ⟨m, hm⟩ := zo_at ll z
      exact ha1 m (List.mem_reverse.mpr hm)
    refine ⟨a, zc (jn g h) ls, fun j ev => ∃ (s6 : Sl) (os : Cells), ev = [.val (.list (intsD ns)), .val (.list (strsD ss)), .val (.list (g.map stepD)), .val (.list (h.map stepD)), .val (.tuple [.list (g.map stepD), .list (h.map stepD)]), .val (.int (0 + (i : Int))), .val (opD a), s6, .cel os] ∧ (a, .lst (zc (jn g h) ls)) ∈ os ∧ ∀ l ∈ ls, ∃ ds, (l, .lst ds) ∈ os ∧ ds.length ≤ 4 + j, rfl, ⟨_, _, rfl, List.mem_cons_self, fun l h => ?_⟩, ?_, ?_, ?_⟩
    · obtain ⟨ds, h1, h2⟩ := zo_parts ll kok h
      exact ⟨ds, List.mem_cons_of_mem _ (List.mem_append_left _ (List.mem_reverse.mpr h1)), h2⟩
    · rintro j ev ⟨s6, os, rfl, hm, _⟩
      exact ⟨os, rfl, hm⟩
    · rintro j x ev hj ⟨s6, os, rfl, hm, hls⟩
      have jl := (List.getElem?_eq_some_iff.mp hj).1
      have jl' : j < 20 := by unfold zc at jl; rw [List.length_zipWith] at jl; omega
      obtain ⟨s, l, rfl, lm⟩ := zc_at hj
      obtain ⟨ds, hd, dl⟩ := hls l lm
      have nl : a ≠ l := fun z => al (z ▸ lm)
      refine ⟨true, rfl, l, .lst ds, true, os, rfl, rfl, hd, rfl, ?_⟩
      refine ⟨l, rfl, ⟨os, ds, rfl, hd⟩, os, ds, rfl, hd, small1000 (by omega), _, _, rfl, celSet_ne hm nl, fun l' hl' => ?_⟩
      by_cases e : l' = l
      · subst e
        exact ⟨_, celSet_at hd, by rw [List.length_append]; show ds.length + 1 ≤ _; omega⟩
      · obtain ⟨ds', h1, h2⟩ := hls l' hl'
        exact ⟨ds', celSet_ne h1 e, by omega⟩
    · rintro ev ⟨s6, os, rfl, hm, hls⟩
      exact ⟨a, rfl, ⟨os, _, rfl, hm⟩, os, _, rfl, hm, small1000 (by unfold zc; rw [List.length_zipWith]; omega), _, _, _, _, rfl⟩
  · rintro ev ⟨s4, s5, s6, os, rfl⟩
    refine ⟨(by show 2 ≤ sizeLine; decide), sh_two og oh, sh_two og oh, ?_⟩
    show C (Rz.val (PyData.bool (PyData.eqv (.tuple [.list (g.map stepD), .list (h.map stepD)]) (.tuple [.list (g.map stepD), .list (h.map stepD)]))))
    rw [eqv_two]
    exact q
end

section
variable {P : Program} {w : World} {K : PySem.W.Frag} {mg : Str → Option Value} {base : Heap} {f : Addr} {fd : FuncData}
theorem rps_ints {F : Hp} : ∀ ns : List Int, Rps w K F (ns.map V.int) (intsD ns)
  | [] => .nil
  | n :: r => .cons (.int n) (rps_ints r)
def spLaw (K : PySem.W.Frag) : Sp := fun vs H Q _ => ∃ (a : Addr) (ns : List Int), vs = [.ref a] ∧ SqL K H a (ns.map V.int) ∧ ns.length ≤ 63 ∧ ∀ H', Q (.bl true) H'
theorem law_imp {k : Nat} {ps : List Str} (F : FnOk P w K mg base CX0 k f fd ps (spP w K phLaw)) : FnOk P w K mg base CX0 k f fd ps (spLaw K) := F.imp fun vs H Q E h => by
  obtain ⟨a, ns, rfl, hS, h63, q⟩ := h
  exact ⟨H, [.list (intsD ns)], fun r => r = .val (.bool true), noX, Same.refl _, .cons (.lst hS (rps_ints ns)) .nil, ⟨ns, rfl, h63, rfl⟩, (fun r F' v H' g rr z => by
    subst z
    cases rr
    exact q H'), fun _ _ _ z => False.elim z⟩
end

theorem all_mk {l : PySem.W.OpenLaw} {w : World} {K : PySem.W.Frag} {h : Heap} {mg : Str → Option Value} {fa f1 f2 f3 f4 f5 f6 f7 f8 f9 f10 f11 f12 f13 : Addr} (X : K.In h) (G : h.Ns mainGlobals mg) (hfa : mg "law" = some (.ref fa))
    {od1 an1 od2 an2 od3 an3 od4 an4 od5 an5 od6 an6 od7 an7 od8 an8 od9 an9 od10 an10 od11 an11 od12 an12 od13 an13 : Option Addr} {sl1 sl2 sl3 sl4 sl5 sl6 sl7 sl8 sl9 sl10 sl11 sl12 sl13 : Array (Option Value)} {oc1 kV1 dc1 pm1 cd1 ct1 oc2 kV2 dc2 pm2 cd2 ct2 oc3 kV3 dc3 pm3 cd3 ct3 oc4 kV4 dc4 pm4 cd4 ct4 oc5 kV5 dc5 pm5 cd5 ct5 oc6 kV6 dc6 pm6 cd6 ct6 oc7 kV7 dc7 pm7 cd7 ct7 oc8 kV8 dc8 pm8 cd8 ct8 oc9 kV9 dc9 pm9 cd9 ct9 oc10 kV10 dc10 pm10 cd10 ct10 oc11 kV11 dc11 pm11 cd11 ct11 oc12 kV12 dc12 pm12 cd12 ct12 oc13 kV13 dc13 pm13 cd13 ct13 : Value}
    (a1 : PySem.W.nsIn K mainGlobals "_law_word_by" = some (some (.ref f1))) (l1 : K.lookup f1 = some ⟨oc1, od1, .func (PySem.W.fnOf "_law_word_by" "_law_word_by" (defArgs s__law_word_by) (defBody s__law_word_by) (defScope s__law_word_by) .none kV1 dc1 pm1 an1 cd1 ct1), sl1⟩) (c1 : PySem.W.codeIn K cd1 "_law_word_by" = true) (k1 : PySem.W.keepIn K (.ref f1) = true)
    (a2 : PySem.W.nsIn K mainGlobals "_law_cell_at" = some (some (.ref f2))) (l2 : K.lookup f2 = some ⟨oc2, od2, .func (PySem.W.fnOf "_law_cell_at" "_law_cell_at" (defArgs s__law_cell_at) (defBody s__law_cell_at) (defScope s__law_cell_at) .none kV2 dc2 pm2 an2 cd2 ct2), sl2⟩) (c2 : PySem.W.codeIn K cd2 "_law_cell_at" = true) (k2 : PySem.W.keepIn K (.ref f2) = true)
    (a3 : PySem.W.nsIn K mainGlobals "_law_number" = some (some (.ref f3))) (l3 : K.lookup f3 = some ⟨oc3, od3, .func (PySem.W.fnOf "_law_number" "_law_number" (defArgs s__law_number) (defBody s__law_number) (defScope s__law_number) .none kV3 dc3 pm3 an3 cd3 ct3), sl3⟩) (c3 : PySem.W.codeIn K cd3 "_law_number" = true) (k3 : PySem.W.keepIn K (.ref f3) = true)
    (a4 : PySem.W.nsIn K mainGlobals "_law_names" = some (some (.ref f4))) (l4 : K.lookup f4 = some ⟨oc4, od4, .func (PySem.W.fnOf "_law_names" "_law_names" (defArgs s__law_names) (defBody s__law_names) (defScope s__law_names) .none kV4 dc4 pm4 an4 cd4 ct4), sl4⟩) (c4 : PySem.W.codeIn K cd4 "_law_names" = true) (k4 : PySem.W.keepIn K (.ref f4) = true)
    (a5 : PySem.W.nsIn K mainGlobals "_law_exchange_by" = some (some (.ref f5))) (l5 : K.lookup f5 = some ⟨oc5, od5, .func (PySem.W.fnOf "_law_exchange_by" "_law_exchange_by" (defArgs s__law_exchange_by) (defBody s__law_exchange_by) (defScope s__law_exchange_by) .none kV5 dc5 pm5 an5 cd5 ct5), sl5⟩) (c5 : PySem.W.codeIn K cd5 "_law_exchange_by" = true) (k5 : PySem.W.keepIn K (.ref f5) = true)
    (a6 : PySem.W.nsIn K mainGlobals "_law_triple" = some (some (.ref f6))) (l6 : K.lookup f6 = some ⟨oc6, od6, .func (PySem.W.fnOf "_law_triple" "_law_triple" (defArgs s__law_triple) (defBody s__law_triple) (defScope s__law_triple) .none kV6 dc6 pm6 an6 cd6 ct6), sl6⟩) (c6 : PySem.W.codeIn K cd6 "_law_triple" = true) (k6 : PySem.W.keepIn K (.ref f6) = true)
    (a7 : PySem.W.nsIn K mainGlobals "_law_parts_by" = some (some (.ref f7))) (l7 : K.lookup f7 = some ⟨oc7, od7, .func (PySem.W.fnOf "_law_parts_by" "_law_parts_by" (defArgs s__law_parts_by) (defBody s__law_parts_by) (defScope s__law_parts_by) .none kV7 dc7 pm7 an7 cd7 ct7), sl7⟩) (c7 : PySem.W.codeIn K cd7 "_law_parts_by" = true) (k7 : PySem.W.keepIn K (.ref f7) = true)
    (a8 : PySem.W.nsIn K mainGlobals "_law_ground_by" = some (some (.ref f8))) (l8 : K.lookup f8 = some ⟨oc8, od8, .func (PySem.W.fnOf "_law_ground_by" "_law_ground_by" (defArgs s__law_ground_by) (defBody s__law_ground_by) (defScope s__law_ground_by) .none kV8 dc8 pm8 an8 cd8 ct8), sl8⟩) (c8 : PySem.W.codeIn K cd8 "_law_ground_by" = true) (k8 : PySem.W.keepIn K (.ref f8) = true)
    (a9 : PySem.W.nsIn K mainGlobals "_law_copied" = some (some (.ref f9))) (l9 : K.lookup f9 = some ⟨oc9, od9, .func (PySem.W.fnOf "_law_copied" "_law_copied" (defArgs s__law_copied) (defBody s__law_copied) (defScope s__law_copied) .none kV9 dc9 pm9 an9 cd9 ct9), sl9⟩) (c9 : PySem.W.codeIn K cd9 "_law_copied" = true) (k9 : PySem.W.keepIn K (.ref f9) = true)
    (a10 : PySem.W.nsIn K mainGlobals "copied" = some (some (.ref f10))) (l10 : K.lookup f10 = some ⟨oc10, od10, .func (PySem.W.fnOf "copied" "copied" (defArgs s_copied) (defBody s_copied) (defScope s_copied) .none kV10 dc10 pm10 an10 cd10 ct10), sl10⟩) (c10 : PySem.W.codeIn K cd10 "copied" = true) (k10 : PySem.W.keepIn K (.ref f10) = true)
    (a11 : PySem.W.nsIn K mainGlobals "joined" = some (some (.ref f11))) (l11 : K.lookup f11 = some ⟨oc11, od11, .func (PySem.W.fnOf "joined" "joined" (defArgs s_joined) (defBody s_joined) (defScope s_joined) .none kV11 dc11 pm11 an11 cd11 ct11), sl11⟩) (c11 : PySem.W.codeIn K cd11 "joined" = true) (k11 : PySem.W.keepIn K (.ref f11) = true)
    (a12 : PySem.W.nsIn K mainGlobals "_law_due" = some (some (.ref f12))) (l12 : K.lookup f12 = some ⟨oc12, od12, .func (PySem.W.fnOf "_law_due" "_law_due" (defArgs s__law_due) (defBody s__law_due) (defScope s__law_due) .none kV12 dc12 pm12 an12 cd12 ct12), sl12⟩) (c12 : PySem.W.codeIn K cd12 "_law_due" = true) (k12 : PySem.W.keepIn K (.ref f12) = true)
    (a13 : PySem.W.nsIn K mainGlobals "law" = some (some (.ref f13))) (l13 : K.lookup f13 = some ⟨oc13, od13, .func (PySem.W.fnOf "law" "law" (defArgs s_law) (defBody s_law) (defScope s_law) .none kV13 dc13 pm13 an13 cd13 ct13), sl13⟩) (c13 : PySem.W.codeIn K cd13 "law" = true) (k13 : PySem.W.keepIn K (.ref f13) = true)
    (z_isinstance : PySem.W.nsIn K mainGlobals "isinstance" = some none)
    (z_int : PySem.W.nsIn K mainGlobals "int" = some none)
    (z_bool : PySem.W.nsIn K mainGlobals "bool" = some none)
    (z_abs : PySem.W.nsIn K mainGlobals "abs" = some none)
    (z_len : PySem.W.nsIn K mainGlobals "len" = some none)
    (z_range : PySem.W.nsIn K mainGlobals "range" = some none)
    (z_max : PySem.W.nsIn K mainGlobals "max" = some none)
    (z_tuple : PySem.W.nsIn K mainGlobals "tuple" = some none)
    (z_min : PySem.W.nsIn K mainGlobals "min" = some none)
    (z_sorted : PySem.W.nsIn K mainGlobals "sorted" = some none)
    (z_enumerate : PySem.W.nsIn K mainGlobals "enumerate" = some none)
    (z_list : PySem.W.nsIn K mainGlobals "list" = some none)
    (z_dict : PySem.W.nsIn K mainGlobals "dict" = some none)
    (z_str : PySem.W.nsIn K mainGlobals "str" = some none)
    (z_any : PySem.W.nsIn K mainGlobals "any" = some none)
    (z_all : PySem.W.nsIn K mainGlobals "all" = some none)
    (z_sum : PySem.W.nsIn K mainGlobals "sum" = some none)
    (z_zip : PySem.W.nsIn K mainGlobals "zip" = some none)
    (z_set : PySem.W.nsIn K mainGlobals "set" = some none)
    (z_reversed : PySem.W.nsIn K mainGlobals "reversed" = some none)
    : ∃ fd : FuncData, (∀ (s : Shared) (v : Value), BindsTo s fd ⟨[v], []⟩ [("_law_script", v)]) ∧ ∀ base : Heap, K.In base → base.Ns mainGlobals mg → FnOk l.prog w K mg base CX0 4 fa fd ["_law_script"] (spLaw K) := by
  have e := hfa.symm.trans (PySem.W.mg_of X G a13)
  cases e
  have F__law_word_by := fun_mk (st := s__law_word_by) l1 c1 k1
  have b__law_word_by := F__law_word_by.binds (ps := ["_law_cell"]) fun _ _ _ _ _ _ us hl => match us, hl with | [_], _ => rfl
  have m__law_word_by := PySem.W.mg_of X G a1
  have F__law_cell_at := fun_mk (st := s__law_cell_at) l2 c2 k2
  have b__law_cell_at := F__law_cell_at.binds (ps := ["_law_script", "_law_k"]) fun _ _ _ _ _ _ us hl => match us, hl with | [_, _], _ => rfl
  have m__law_cell_at := PySem.W.mg_of X G a2
  have F__law_number := fun_mk (st := s__law_number) l3 c3 k3
  have b__law_number := F__law_number.binds (ps := ["_law_script", "_law_k"]) fun _ _ _ _ _ _ us hl => match us, hl with | [_, _], _ => rfl
  have m__law_number := PySem.W.mg_of X G a3
  have F__law_names := fun_mk (st := s__law_names) l4 c4 k4
  have b__law_names := F__law_names.binds (ps := ["_law_script", "_law_at", "_law_many"]) fun _ _ _ _ _ _ us hl => match us, hl with | [_, _, _], _ => rfl
  have m__law_names := PySem.W.mg_of X G a4
  have F__law_exchange_by := fun_mk (st := s__law_exchange_by) l5 c5 k5
  have b__law_exchange_by := F__law_exchange_by.binds (ps := ["_law_cell", "_law_names_here"]) fun _ _ _ _ _ _ us hl => match us, hl with | [_, _], _ => rfl
  have m__law_exchange_by := PySem.W.mg_of X G a5
  have F__law_triple := fun_mk (st := s__law_triple) l6 c6 k6
  have b__law_triple := F__law_triple.binds (ps := ["_law_one", "_law_other", "_law_third"]) fun _ _ _ _ _ _ us hl => match us, hl with | [_, _, _], _ => rfl
  have m__law_triple := PySem.W.mg_of X G a6
  have F__law_parts_by := fun_mk (st := s__law_parts_by) l7 c7 k7
  have b__law_parts_by := F__law_parts_by.binds (ps := ["_law_cell", "_law_names_here"]) fun _ _ _ _ _ _ us hl => match us, hl with | [_, _], _ => rfl
  have m__law_parts_by := PySem.W.mg_of X G a7
  have F__law_ground_by := fun_mk (st := s__law_ground_by) l8 c8 k8
  have b__law_ground_by := F__law_ground_by.binds (ps := ["_law_script", "_law_at", "_law_names_here", "_law_most"]) fun _ _ _ _ _ _ us hl => match us, hl with | [_, _, _, _], _ => rfl
  have m__law_ground_by := PySem.W.mg_of X G a8
  have F__law_copied := fun_mk (st := s__law_copied) l9 c9 k9
  have b__law_copied := F__law_copied.binds (ps := ["_law_ground"]) fun _ _ _ _ _ _ us hl => match us, hl with | [_], _ => rfl
  have m__law_copied := PySem.W.mg_of X G a9
  have F_copied := fun_mk (st := s_copied) l10 c10 k10
  have b_copied := F_copied.binds (ps := ["step"]) fun _ _ _ _ _ _ us hl => match us, hl with | [_], _ => rfl
  have m_copied := PySem.W.mg_of X G a10
  have F_joined := fun_mk (st := s_joined) l11 c11 k11
  have b_joined := F_joined.binds (ps := ["one", "other"]) fun _ _ _ _ _ _ us hl => match us, hl with | [_, _], _ => rfl
  have m_joined := PySem.W.mg_of X G a11
  have F__law_due := fun_mk (st := s__law_due) l12 c12 k12
  have b__law_due := F__law_due.binds (ps := ["_law_one", "_law_other"]) fun _ _ _ _ _ _ us hl => match us, hl with | [_, _], _ => rfl
  have m__law_due := PySem.W.mg_of X G a12
  have F_law := fun_mk (st := s_law) l13 c13 k13
  have b_law := F_law.binds (ps := ["_law_script"]) fun _ _ _ _ _ _ us hl => match us, hl with | [_], _ => rfl
  have m_law := PySem.W.mg_of X G a13
  have n_isinstance := PySem.W.mg_none_of X G z_isinstance
  have n_int := PySem.W.mg_none_of X G z_int
  have n_bool := PySem.W.mg_none_of X G z_bool
  have n_abs := PySem.W.mg_none_of X G z_abs
  have n_len := PySem.W.mg_none_of X G z_len
  have n_range := PySem.W.mg_none_of X G z_range
  have n_max := PySem.W.mg_none_of X G z_max
  have n_tuple := PySem.W.mg_none_of X G z_tuple
  have n_min := PySem.W.mg_none_of X G z_min
  have n_sorted := PySem.W.mg_none_of X G z_sorted
  have n_enumerate := PySem.W.mg_none_of X G z_enumerate
  have n_list := PySem.W.mg_none_of X G z_list
  have n_dict := PySem.W.mg_none_of X G z_dict
  have n_str := PySem.W.mg_none_of X G z_str
  have n_any := PySem.W.mg_none_of X G z_any
  have n_all := PySem.W.mg_none_of X G z_all
  have n_sum := PySem.W.mg_none_of X G z_sum
  have n_zip := PySem.W.mg_none_of X G z_zip
  have n_set := PySem.W.mg_none_of X G z_set
  have n_reversed := PySem.W.mg_none_of X G z_reversed
  refine ⟨PySem.W.fnOf "law" "law" (defArgs s_law) (defBody s_law) (defScope s_law) .none kV13 dc13 pm13 an13 cd13 ct13, fun s v => .of_eq rfl, fun base _ _ => ?_⟩
  have T : Bl mg := ⟨n_isinstance, n_int, n_bool, n_abs, n_len, n_range, n_max, n_tuple, n_min, n_sorted, n_enumerate, n_list, n_dict, n_str, n_any, n_all, n_sum, n_zip, n_set, n_reversed⟩
  have c__law_word_by : Cal l.prog w K mg base CX0 1 "_law_word_by" ["_law_cell"] (spP w K (phWord)) := ⟨_, _, ok__law_word_by F__law_word_by T , b__law_word_by, F__law_word_by.kp, m__law_word_by⟩
  have c__law_cell_at : Cal l.prog w K mg base CX0 1 "_law_cell_at" ["_law_script", "_law_k"] (spP w K (phCell)) := ⟨_, _, ok__law_cell_at F__law_cell_at T , b__law_cell_at, F__law_cell_at.kp, m__law_cell_at⟩
  have c__law_number : Cal l.prog w K mg base CX0 2 "_law_number" ["_law_script", "_law_k"] (spP w K (phNum)) := ⟨_, _, ok__law_number F__law_number T  c__law_cell_at, b__law_number, F__law_number.kp, m__law_number⟩
  have c__law_names : Cal l.prog w K mg base CX0 3 "_law_names" ["_law_script", "_law_at", "_law_many"] (spP w K (phNames)) := ⟨_, _, ok__law_names F__law_names T  c__law_word_by c__law_number, b__law_names, F__law_names.kp, m__law_names⟩
  have c__law_exchange_by : Cal l.prog w K mg base CX0 1 "_law_exchange_by" ["_law_cell", "_law_names_here"] (spP w K (phExch)) := ⟨_, _, ok__law_exchange_by F__law_exchange_by T , b__law_exchange_by, F__law_exchange_by.kp, m__law_exchange_by⟩
  have c__law_triple : Cal l.prog w K mg base CX0 1 "_law_triple" ["_law_one", "_law_other", "_law_third"] (spP w K (phTri)) := ⟨_, _, ok__law_triple F__law_triple T , b__law_triple, F__law_triple.kp, m__law_triple⟩
  have c__law_parts_by : Cal l.prog w K mg base CX0 2 "_law_parts_by" ["_law_cell", "_law_names_here"] (spP w K (phParts)) := ⟨_, _, ok__law_parts_by F__law_parts_by T  c__law_exchange_by, b__law_parts_by, F__law_parts_by.kp, m__law_parts_by⟩
  have c__law_ground_by : Cal l.prog w K mg base CX0 3 "_law_ground_by" ["_law_script", "_law_at", "_law_names_here", "_law_most"] (spP w K (phGround)) := ⟨_, _, ok__law_ground_by F__law_ground_by T  c__law_number c__law_exchange_by c__law_triple c__law_parts_by, b__law_ground_by, F__law_ground_by.kp, m__law_ground_by⟩
  have c__law_copied : Cal l.prog w K mg base CX0 1 "_law_copied" ["_law_ground"] (spP w K (phCopied)) := ⟨_, _, ok__law_copied F__law_copied T , b__law_copied, F__law_copied.kp, m__law_copied⟩
  have c_copied : Cal l.prog w K mg base CX0 1 "copied" ["step"] (spP w K (phCop)) := ⟨_, _, ok_copied F_copied T , b_copied, F_copied.kp, m_copied⟩
  have c_joined : Cal l.prog w K mg base CX0 2 "joined" ["one", "other"] (spP w K (phJoin)) := ⟨_, _, ok_joined F_joined T  c_copied, b_joined, F_joined.kp, m_joined⟩
  have c__law_due : Cal l.prog w K mg base CX0 1 "_law_due" ["_law_one", "_law_other"] (spP w K (phDue)) := ⟨_, _, ok__law_due F__law_due T , b__law_due, F__law_due.kp, m__law_due⟩
  exact law_imp (ok_law F_law T  c__law_names c__law_ground_by c__law_copied c_joined c__law_number c__law_due)
theorem walk {l : PySem.W.OpenLaw} {q : Program} {loose : List Str} {XP : (Str → Option Value) → Heap → Prop} {YP : World → Heap → Prop} {d : DefRec} {K : Params → PySem.W.Frag} (hn : l.most = some 63) (hdf : d.params.defaults = [])
    (hY : ∀ (w : World) (h : Heap), YP w h → (K w.params).In h)
    (F : ∀ (w : World) (mg : Str → Option Value) (fa : Addr) (h : Heap), (K w.params).In h → h.Ns mainGlobals mg → mg d.name = some (.ref fa) →
      ∃ fd : FuncData, (∀ (s : Shared) (u : Value), BindsTo s fd ⟨[u], []⟩ [("_law_script", u)]) ∧ ∀ base : Heap, (K w.params).In base → base.Ns mainGlobals mg → FnOk l.prog w (K w.params) mg base CX0 4 fa fd ["_law_script"] (spLaw (K w.params))) :
    PySem.W.WalkO q loose XP YP l.row.toRowW d [] (fun f vs => PySem.call f vs) :=
  L2.walk_of (n := 63) (k := 4) (x := "_law_script") (CX := fun _ => CX0) (sp := fun w => spLaw (K w.params)) hn (by decide) hdf ⟨rfl, by decide, by decide⟩ hY F (fun _ _ a ns hl _ hS => ⟨a, ns, rfl, hS, hl, fun _ => rfl⟩) fun _ _ _ _ _ z => z
end Lk
open PySem PySem.W PyProof.Rows
set_option maxRecDepth 100000 in
set_option maxHeartbeats 0 in
theorem PySem.Challenge.cw_linesaid_k45_joined_holds : PySem.Challenge.rw_linesaid_k45_joined.Holds := by
  w_on; o_law; k_head; (case hw => w_witness2)
  k_fill
  refine Lk.walk (l := PySem.Challenge.rw_linesaid_k45_joined) rfl rfl (fun w h Y => PySem.W.kIn_of Y) ?F
  case F =>
    intro w mg fa h KX G hmg
    refine' Lk.all_mk KX G hmg ?a1 ?l1 ?c1 ?k1 ?a2 ?l2 ?c2 ?k2 ?a3 ?l3 ?c3 ?k3 ?a4 ?l4 ?c4 ?k4 ?a5 ?l5 ?c5 ?k5 ?a6 ?l6 ?c6 ?k6 ?a7 ?l7 ?c7 ?k7 ?a8 ?l8 ?c8 ?k8 ?a9 ?l9 ?c9 ?k9 ?a10 ?l10 ?c10 ?k10 ?a11 ?l11 ?c11 ?k11 ?a12 ?l12 ?c12 ?k12 ?a13 ?l13 ?c13 ?k13 ?z_isinstance ?z_int ?z_bool ?z_abs ?z_len ?z_range ?z_max ?z_tuple ?z_min ?z_sorted ?z_enumerate ?z_list ?z_dict ?z_str ?z_any ?z_all ?z_sum ?z_zip ?z_set ?z_reversed
    (case a1 => k_is)
    (case l1 => k_is)
    (case c1 => k_is)
    (case k1 => k_is)
    (case a2 => k_is)
    (case l2 => k_is)
    (case c2 => k_is)
    (case k2 => k_is)
    (case a3 => k_is)
    (case l3 => k_is)
    (case c3 => k_is)
    (case k3 => k_is)
    (case a4 => k_is)
    (case l4 => k_is)
    (case c4 => k_is)
    (case k4 => k_is)
    (case a5 => k_is)
    (case l5 => k_is)
    (case c5 => k_is)
    (case k5 => k_is)
    (case a6 => k_is)
    (case l6 => k_is)
    (case c6 => k_is)
    (case k6 => k_is)
    (case a7 => k_is)
    (case l7 => k_is)
    (case c7 => k_is)
    (case k7 => k_is)
    (case a8 => k_is)
    (case l8 => k_is)
    (case c8 => k_is)
    (case k8 => k_is)
    (case a9 => k_is)
    (case l9 => k_is)
    (case c9 => k_is)
    (case k9 => k_is)
    (case a10 => k_is)
    (case l10 => k_is)
    (case c10 => k_is)
    (case k10 => k_is)
    (case a11 => k_is)
    (case l11 => k_is)
    (case c11 => k_is)
    (case k11 => k_is)
    (case a12 => k_is)
    (case l12 => k_is)
    (case c12 => k_is)
    (case k12 => k_is)
    (case a13 => k_is)
    (case l13 => k_is)
    (case c13 => k_is)
    (case k13 => k_is)
    (case z_isinstance => k_is)
    (case z_int => k_is)
    (case z_bool => k_is)
    (case z_abs => k_is)
    (case z_len => k_is)
    (case z_range => k_is)
    (case z_max => k_is)
    (case z_tuple => k_is)
    (case z_min => k_is)
    (case z_sorted => k_is)
    (case z_enumerate => k_is)
    (case z_list => k_is)
    (case z_dict => k_is)
    (case z_str => k_is)
    (case z_any => k_is)
    (case z_all => k_is)
    (case z_sum => k_is)
    (case z_zip => k_is)
    (case z_set => k_is)
    (case z_reversed => k_is)
