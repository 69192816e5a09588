import PyProof.Rows.All
import Wide.All
import OpenK.AllK
import Wide.FinOn
import Lean
import PyProof.EqAt
import PyProof.EqKinds
import PyProof.TupleCall
import PyProof.Rows.SortStr
import PyProof.DictRoadsH
import PyProof.DictIter
import PyProof.RaisesDict
import PyProof.WalksEnum
import PyProof.EnumMake
import PyProof.P3In
import PyProof.FString5
import PyProof.MinMaxWalk
import PyProof.Rows.SeqMore
import PyProof.Rows.CountFlat
import PyProof.Rows.TupDisplay
import PyProof.DictTable
import PyProof.ConsumeWalk
import PySem.Challenge.RW_linesaid_k20_an_exchanges_vector
set_option Elab.async false
set_option linter.all false
set_option maxRecDepth 100000
/-! THE HAND LAYER, for ints, bools, texts, own classes, LISTS and tuples (index, slices, in, append, pop ..), calls, loops. Paste it whole ahead of your own text; what your proof does not reach may be deleted. -/
namespace L2
open PySem PySem.Spec PyProof.Rows

/-- a key: an int or a str -/
abbrev Key := Sum Int Str
def keyIs : Key → Value → Bool
  | .inl k, v => Value.isInt k v
  | .inr x, v => Value.isStrOf x v
def keyH (w : World) : Key → Int
  | .inl k => hashInt k
  | .inr x => hashStr w x
theorem keyIs_shape : ∀ {k : Key} {v : Value}, keyIs k v = true → (∃ i t, k = Sum.inl i ∧ v = Value.int i t) ∨ (∃ x t, k = Sum.inr x ∧ v = Value.str x t)
  | .inl i, v, h => by
    obtain ⟨t, e⟩ := Value.isInt_shape (k := i) (v := v) h
    exact .inl ⟨i, t, rfl, e⟩
  | .inr x, v, h => by
    obtain ⟨t, e⟩ := Value.isStrOf_shape (x := x) (v := v) h
    exact .inr ⟨x, t, rfl, e⟩
theorem keyIs_int (i : Int) (t : Tok) : keyIs (.inl i) (.int i t) = true := by simp [keyIs, Value.isInt]
theorem keyIs_str (x : Str) (t : Tok) : keyIs (.inr x) (.str x t) = true := by simp [keyIs, Value.isStrOf]
theorem key_ll (a b : Int) : decide ((Sum.inl a : Key) = Sum.inl b) = (a == b) := by
  by_cases e : a = b
  · subst e; simp
  · have h : ¬ (Sum.inl a : Key) = Sum.inl b := fun q => e (Sum.inl.inj q)
    rw [decide_eq_false h]
    exact (beq_eq_false_iff_ne.mpr e).symm
theorem key_rr (a b : Str) : decide ((Sum.inr a : Key) = Sum.inr b) = decide (a = b) := by
  by_cases e : a = b
  · subst e; simp
  · have h : ¬ (Sum.inr a : Key) = Sum.inr b := fun q => e (Sum.inr.inj q)
    rw [decide_eq_false h, decide_eq_false e]
theorem key_lr (a : Int) (b : Str) : decide ((Sum.inl a : Key) = Sum.inr b) = false := decide_eq_false (fun q => nomatch q)
theorem key_rl (a : Str) (b : Int) : decide ((Sum.inr a : Key) = Sum.inl b) = false := decide_eq_false (fun q => nomatch q)

def mixKind (prog : Program) (w : World) : PySem.KeyKind prog w Key where
  is := keyIs
  hash := keyH w
  inj := fun v a b ha hb => by
    rcases keyIs_shape ha with ⟨i, t, rfl, rfl⟩ | ⟨x, t, rfl, rfl⟩
    · rcases keyIs_shape hb with ⟨j, u, rfl, e⟩ | ⟨y, u, rfl, e⟩
      · injection e with e1 _; rw [e1]
      · exact nomatch e
    · rcases keyIs_shape hb with ⟨j, u, rfl, e⟩ | ⟨y, u, rfl, e⟩
      · exact nomatch e
      · injection e with e1 _; rw [e1]
  byValue := fun k v h => by
    rcases keyIs_shape h with ⟨i, t, rfl, rfl⟩ | ⟨x, t, rfl, rfl⟩ <;> rfl
  pyHash := fun hv h => by
    rcases keyIs_shape hv with ⟨i, t, rfl, rfl⟩ | ⟨x, t, rfl, rfl⟩
    · exact wpAny_pyHash_int h
    · exact wpAny_pyHash_str h
  eqBool := fun hu hv h => by
    rcases keyIs_shape hu with ⟨i, t, rfl, rfl⟩ | ⟨x, t, rfl, rfl⟩
    · rcases keyIs_shape hv with ⟨j, u, rfl, rfl⟩ | ⟨y, u, rfl, rfl⟩
      · rw [key_ll] at h; exact wpAny_eqBool_int h
      · rw [key_lr] at h; exact SeqAt.EqAt.int_str i t y u _ _ _ _ h
    · rcases keyIs_shape hv with ⟨j, u, rfl, rfl⟩ | ⟨y, u, rfl, rfl⟩
      · rw [key_rl] at h; exact SeqAt.EqAt.str_int x t j u _ _ _ _ h
      · rw [key_rr] at h; exact wpAny_eqBool_str h
  «strs» := fun k x t v h => by
    rcases keyIs_shape h with ⟨i, u, rfl, e⟩ | ⟨y, u, rfl, e⟩
    · exact nomatch e
    · injection e with e1 _
      subst e1
      cases v <;> rfl

theorem mixKind_is (prog : Program) (w : World) (k : Key) (v : Value) : (mixKind prog w).is k v = keyIs k v := rfl
theorem mixKind_int (prog : Program) (w : World) (i : Int) (t : Tok) : (mixKind prog w).is (.inl i) (.int i t) = true := keyIs_int i t
theorem mixKind_str (prog : Program) (w : World) (x : Str) (t : Tok) : (mixKind prog w).is (.inr x) (.str x t) = true := keyIs_str x t
end L2

namespace L2
open PySem PySem.Spec PyProof.Rows

/-- a value, without the heap -/
inductive V where
  | non | bl (b : Bool) | int (i : Int) | str (x : Str) | byt (b : Array UInt8) | flt (b : UInt64) | ref (a : Addr) | ty (n : String)
  deriving DecidableEq

def RelV : V → Value → Prop
  | .non, u => u = Value.none
  | .bl b, u => u = Value.bool b
  | .int i, u => ∃ t, u = Value.int i t
  | .str x, u => ∃ t, u = Value.str x t
  | .byt b, u => ∃ t, u = Value.bytes b t
  | .flt b, u => ∃ t, u = Value.float b t
  | .ref a, u => u = Value.ref a
  | .ty n, u => u = Value.type n

abbrev Vals : List V → List Value → Prop := Paired RelV
theorem Vals.length {xs : List V} {us : List Value} (r : Vals xs us) : xs.length = us.length := Paired.length r
theorem Vals.get : ∀ {xs : List V} {us : List Value} {i : Nat} {x : V}, Vals xs us → xs[i]? = some x → ∃ u, us[i]? = some u ∧ RelV x u
  | _, _, _, _, .nil, e => by simp at e
  | _, _, 0, _, .cons r _, e => by simp at e; subst e; exact ⟨_, rfl, r⟩
  | _, _, i + 1, x, .cons _ t, e => by
    obtain ⟨u, h1, h2⟩ := Vals.get (i := i) (x := x) t (by simpa using e)
    exact ⟨u, by simpa using h1, h2⟩
theorem Vals.set {x : V} {u : Value} (r : RelV x u) : ∀ {xs : List V} {us : List Value} (i : Nat), Vals xs us → Vals (xs.set i x) (us.set i u)
  | _, _, _, .nil => .nil
  | _, _, 0, .cons _ t => .cons r t
  | _, _, i + 1, .cons q t => .cons q (Vals.set r i t)
theorem Vals.append : ∀ {xs ys : List V} {us ws : List Value}, Vals xs us → Vals ys ws → Vals (xs ++ ys) (us ++ ws)
  | _, _, _, _, .nil, s => s
  | _, _, _, _, .cons r t, s => .cons r (Vals.append t s)
theorem Vals.take : ∀ {xs : List V} {us : List Value} (n : Nat), Vals xs us → Vals (xs.take n) (us.take n)
  | _, _, 0, _ => .nil
  | _, _, _ + 1, .nil => .nil
  | _, _, n + 1, .cons r t => .cons r (Vals.take n t)
theorem Vals.drop : ∀ {xs : List V} {us : List Value} (n : Nat), Vals xs us → Vals (xs.drop n) (us.drop n)
  | _, _, 0, r => r
  | _, _, _ + 1, .nil => .nil
  | _, _, n + 1, .cons _ t => Vals.drop n t
theorem Vals.none_of : ∀ {xs : List V} {us : List Value} {i : Nat}, Vals xs us → xs[i]? = none → us[i]? = none := fun {xs us i} r e => by
  have h1 := r.length
  have h2 : xs.length ≤ i := List.getElem?_eq_none_iff.mp e
  exact List.getElem?_eq_none_iff.mpr (by omega)

def RelO : Option V → Option Value → Prop
  | some v, some u => RelV v u
  | none, none => True
  | _, _ => False
def KV {κ : Type} : List (κ × V) → List (κ × Value) → Prop := Paired fun (p : κ × V) (q : κ × Value) => p.1 = q.1 ∧ RelV p.2 q.2

/-- a key of a dict (00_mix): an int or a text -/
def kV : Key → V
  | .inl i => .int i
  | .inr x => .str x

/-- what stands at a tracked address -/
inductive HO where
  /-- a list -/
  | lst (xs : List V)
  /-- a tuple (never changes) -/
  | tup (xs : List V)
  /-- a dict whose keys are ints and texts; one whose keys are tuples of ints and texts (the empty one is both) -/
  | dK (kvs : List (Key × V)) | dT (kvs : List (List Key × V))
  /-- a set of ints: its members, its size -/
  | set (S : Int → Bool) (n : Nat)
  /-- an instance of the class at C, its dict at dx, its attributes -/
  | ins (C dx : Addr) (fs : List (Str × V))
  /-- the dict of the instance at x -/
  | own (x : Addr)
  /-- the dict of an exception -/
  | xd (fs : List (Str × V))
  /-- a bound method, f of x -/
  | met (f x : Addr)
  /-- a range object lo, lo + 1, .. below hi -/
  | rng (lo hi : Int)
  /-- a thing that is known to the object (the script; a dict while a loop walks it): read, never written while it is so -/
  | frz (o : Obj) (u : HO)
  /-- a code object's table -/
  | tbl (ps : Array Value)
  /-- any other thing, by what is true of its one object (a def of one's own: SetO a S n := HO.ext fun h => ..) -/
  | ext (φ : Heap → Prop)

abbrev Hp := Addr → Option HO
def upd (H : Hp) (a : Addr) (o : HO) : Hp := fun b => if b = a then some o else H b
theorem upd_same {H : Hp} {a : Addr} {o : HO} : upd H a o a = some o := by unfold upd; rw [if_pos rfl]
theorem upd_ne {H : Hp} {a b : Addr} {o : HO} (h : b ≠ a) : upd H a o b = H b := by unfold upd; rw [if_neg h]
theorem upd_upd {H : Hp} {a : Addr} {o u : HO} : upd (upd H a o) a u = upd H a u := by
  funext b; unfold upd; split <;> rfl
/-- two objects of different content stand apart -/
theorem ne_of {H : Hp} {a b : Addr} {o u : HO} (h : H a = some o) (h' : H b = some u) (d : o ≠ u) : a ≠ b := by
  intro e; subst e; rw [h] at h'; exact d (Option.some.inj h')
theorem ne_of_none {H : Hp} {a b : Addr} {o : HO} (h : H a = some o) (h' : H b = none) : a ≠ b := by
  intro e; subst e; rw [h] at h'; cases h'

section
variable (P : Program) (w : World)
def ObjOk (H : Hp) (h : Heap) (a : Addr) : HO → Prop
  | .lst xs => xs.length ≤ sizeLine ∧ ∃ (its : List Value) (n : Nat), Vals xs its ∧ h.get? a = some { cls := .type "list", data := .seq its.toArray n }
  | .tup xs => xs.length ≤ sizeLine ∧ ∃ its : List Value, Vals xs its ∧ IsTup h a its.toArray
  | .dK kvs => kvs.length ≤ sizeLine ∧ (a == sysModules) = false ∧ ∃ vs, KV kvs vs ∧ h.DictOf (mixKind P w) a vs
  | .dT kvs => kvs.length ≤ sizeLine ∧ (a == sysModules) = false ∧ ∃ xs : List (List Key × Addr × Value),
      Paired (fun (p : List Key × V) (q : List Key × Addr × Value) => p.1 = q.1 ∧ H q.2.1 = some (.tup (p.1.map kV)) ∧ RelV p.2 q.2.2) kvs xs ∧
      ∃ o es ep, h.get? a = some o ∧ o.ExactDict ∧ o.data = .dict es ep ∧ es.toList = xs.map (entryOfKey (tupleKind (mixKind P w))) ∧ (xs.map (·.1)).Nodup
  | .set S n => h.SetOf (intKind P w) a S n
  | .ins C dx fs => H dx = some (.own a) ∧ fs.length ≤ 1000 ∧ dx ≠ a ∧ h.get? a = some (PySem.W.instObj C dx) ∧
      ∃ mA, h.Ns1 dx mA ∧ (∀ f, RelO (fs.lookup f) (mA f)) ∧ PySem.Within mA (fs.map (·.1))
  | .own _ => ∃ o, h.get? a = some o
  | .xd fs => ∃ mA, h.Ns1 a mA ∧ ∀ f, RelO (fs.lookup f) (mA f)
  | .rng lo hi => ∃ t u v, h.get? a = some { cls := .type "range", data := .fields #[.int lo t, .int hi u, .int 1 v] }
  | .frz o u => h.get? a = some o ∧ ObjOk H h a u
  | .tbl ps => h.get? a = some { cls := .none, data := .fields ps }
  | .met f x => h.get? a = some (PySem.W.methodObj (.ref f) (.ref x))
  | .ext φ => φ h ∧ (∃ o, h.get? a = some o) ∧ ∀ h1 h2 : Heap, φ h1 → (∀ o, h1.get? a = some o → h2.get? a = some o) → φ h2
/-- the abstract heap is held -/
def HOk (H : Hp) (h : Heap) : Prop := ∀ a o, H a = some o → ObjOk P w H h a o
end

section
variable {P : Program} {w : World} {H H' : Hp} {h h' : Heap} {a : Addr} {o : HO}
theorem ObjOk.lt (x : ObjOk P w H h a o) : a < h.objs.size := by
  cases o with
  | lst xs => obtain ⟨_, _, _, _, e⟩ := x; exact Heap.lt_size e
  | tup xs => obtain ⟨_, _, _, p⟩ := x; exact p.lt
  | dK kvs => obtain ⟨_, _, _, _, o, _, _, e, _⟩ := x; exact Heap.lt_size e
  | dT kvs => obtain ⟨_, _, _, _, o, _, _, e, _⟩ := x; exact Heap.lt_size e
  | set S n => obtain ⟨o, _, _, _, e, _⟩ := x; exact Heap.lt_size e
  | ins C dx fs => obtain ⟨_, _, _, e, _⟩ := x; exact Heap.lt_size e
  | own y => obtain ⟨_, e⟩ := x; exact Heap.lt_size e
  | xd fs => obtain ⟨_, ⟨_, _, _, e, _⟩, _⟩ := x; exact Heap.lt_size e
  | rng lo hi => obtain ⟨_, _, _, e⟩ := x; exact Heap.lt_size e
  | frz ob u => obtain ⟨e, _⟩ := x; exact Heap.lt_size e
  | tbl ps => exact Heap.lt_size (show h.get? a = some _ from x)
  | met f y => exact Heap.lt_size (show h.get? a = some _ from x)
  | ext φ => obtain ⟨_, ⟨_, e⟩, _⟩ := x; exact Heap.lt_size e
theorem Paired.mapP {α β : Type} {F G : α → β → Prop} : ∀ {l₁ : List α} {l₂ : List β}, Paired F l₁ l₂ → (∀ a b, F a b → G a b) → Paired G l₁ l₂
  | _, _, .nil, _ => .nil
  | _, _, .cons r t, f => .cons (f _ _ r) (Paired.mapP t f)
theorem Paired.imp' {α β : Type} {F G : α → β → Prop} (f : ∀ a b, F a b → G a b) {l₁ : List α} {l₂ : List β} (r : Paired F l₁ l₂) : Paired G l₁ l₂ := Paired.mapP r f
/-- what an object's description leans on: its own object, its own dict, the tuples -/
theorem ObjOk.stay (x : ObjOk P w H h a o) (k : ∀ b u, (b = a ∨ H b = some (.own a)) → h.get? b = some u → h'.get? b = some u)
    (ho : ∀ b, H b = some (.own a) → H' b = some (.own a)) (ht : ∀ b xs, H b = some (.tup xs) → H' b = some (.tup xs)) : ObjOk P w H' h' a o := by
  induction o with
  | lst xs => obtain ⟨z, its, n, r, e⟩ := x; exact ⟨z, its, n, r, k _ _ (.inl rfl) e⟩
  | tup xs => obtain ⟨z, its, r, ob, e, c⟩ := x; exact ⟨z, its, r, ob, k _ _ (.inl rfl) e, c⟩
  | dK kvs => obtain ⟨z, y, vs, r, ob, es, ep, e, c⟩ := x; exact ⟨z, y, vs, r, ob, es, ep, k _ _ (.inl rfl) e, c⟩
  | dT kvs =>
    obtain ⟨z, y, xs, r, ob, es, ep, e, c⟩ := x
    exact ⟨z, y, xs, Paired.mapP r fun p q z => ⟨z.1, ht _ _ z.2.1, z.2.2⟩, ob, es, ep, k _ _ (.inl rfl) e, c⟩
  | set S n => obtain ⟨ob, es, ep, t, e, c⟩ := x; exact ⟨ob, es, ep, t, k _ _ (.inl rfl) e, c⟩
  | ins C dx fs =>
    obtain ⟨d, z, ne, e, mA, ⟨od, es, ep, e2, c⟩, r⟩ := x
    exact ⟨ho _ d, z, ne, k _ _ (.inl rfl) e, mA, ⟨od, es, ep, k _ _ (.inr d) e2, c⟩, r⟩
  | own y => obtain ⟨ob, e⟩ := x; exact ⟨ob, k _ _ (.inl rfl) e⟩
  | xd fs => obtain ⟨mA, ⟨od, es, ep, e, c⟩, r⟩ := x; exact ⟨mA, ⟨od, es, ep, k _ _ (.inl rfl) e, c⟩, r⟩
  | rng lo hi => obtain ⟨t, u, v, e⟩ := x; exact ⟨t, u, v, k _ _ (.inl rfl) e⟩
  | frz ob u ih => obtain ⟨e, q⟩ := x; exact ⟨k _ _ (.inl rfl) e, ih q⟩
  | tbl ps =>
    have e : h.get? a = some { cls := .none, data := .fields ps } := x
    show h'.get? a = some { cls := .none, data := .fields ps }
    exact k a _ (.inl rfl) e
  | met f y =>
    have e : h.get? a = some (PySem.W.methodObj (.ref f) (.ref y)) := x
    show h'.get? a = some (PySem.W.methodObj (.ref f) (.ref y))
    exact k a _ (.inl rfl) e
  | ext φ => obtain ⟨p, ⟨o, e⟩, st⟩ := x; exact ⟨st _ _ p fun o q => k _ _ (.inl rfl) q, ⟨o, k _ _ (.inl rfl) e⟩, st⟩
theorem HOk.lt (x : HOk P w H h) (e : H a = some o) : a < h.objs.size := (x a o e).lt
theorem HOk.fresh (x : HOk P w H h) (e : h.objs.size ≤ a) : H a = none := by
  cases q : H a with
  | none => rfl
  | some u => exact absurd (Nat.lt_of_lt_of_le (x.lt q) e) (Nat.lt_irrefl _)
/-- every object of the heap is kept -/
theorem HOk.kept (x : HOk P w H h) (k : ∀ b u, h.get? b = some u → h'.get? b = some u) : HOk P w H h' := fun a o e =>
  (x a o e).stay (fun b u _ q => k b u q) (fun _ q => q) fun _ _ q => q
/-- a new object is laid and tracked -/
theorem HOk.laid (x : HOk P w H h) (k : ∀ b u, h.get? b = some u → h'.get? b = some u) (hp : h.objs.size ≤ a) (new : ObjOk P w (upd H a o) h' a o) : HOk P w (upd H a o) h' := fun b u e => by
  have hn := x.fresh hp
  by_cases hb : b = a
  · subst hb; rw [upd_same] at e; cases e; exact new
  · rw [upd_ne hb] at e
    exact (x b u e).stay (fun c v _ q => k c v q) (fun c q => by rw [upd_ne (ne_of_none q hn)]; exact q) fun c xs q => by rw [upd_ne (ne_of_none q hn)]; exact q
end

/-- what may be read as u: it is u, or a known u -/
def Rd (H : Hp) (a : Addr) (u : HO) : Prop := H a = some u ∨ ∃ o, H a = some (.frz o u)
theorem Rd.of {H : Hp} {a : Addr} {u : HO} (h : H a = some u) : Rd H a u := .inl h
theorem Rd.ok {P : Program} {w : World} {H : Hp} {h : Heap} {a : Addr} {u : HO} (r : Rd H a u) (x : HOk P w H h) : ObjOk P w H h a u := by
  rcases r with r | ⟨o, r⟩
  · exact x a u r
  · obtain ⟨_, q⟩ := x a _ r
    exact q
/-- what may be written -/
def Mut : Option HO → Prop
  | some (.lst _) => True
  | some (.dK _) => True
  | some (.dT _) => True
  | some (.set _ _) => True
  | some (.ins _ _ _) => True
  | some (.ext _) => True
  | _ => False
section
variable {P : Program} {w : World} {H : Hp} {h h' : Heap} {x e : Addr} {o' : HO}
/-- the object at e is changed: x itself, or the dict of the instance x -/
theorem HOk.write (ok : HOk P w H h) (mu : Mut (H x)) (he : e = x ∨ H e = some (.own x)) (k : ∀ b u, b ≠ e → h.get? b = some u → h'.get? b = some u) (heo : ∃ u, h'.get? e = some u)
    (new : ObjOk P w (upd H x o') h' x o') : HOk P w (upd H x o') h' := fun b u q => by
  have nown : ∀ c y, H c = some (.own y) → c ≠ x := fun c y r z => by subst z; rw [r] at mu; exact mu
  have ntup : ∀ c xs, H c = some (.tup xs) → c ≠ x := fun c xs r z => by subst z; rw [r] at mu; exact mu
  by_cases hb : b = x
  · subst hb; rw [upd_same] at q; cases q; exact new
  · rw [upd_ne hb] at q
    by_cases hbe : b = e
    · have q' : H b = some (.own x) := by
        rcases he with z | z
        · exact absurd (hbe.trans z) hb
        · rw [hbe]; exact z
      rw [q] at q'; cases q'
      obtain ⟨v, hv⟩ := heo
      exact ⟨v, by rw [hbe]; exact hv⟩
    · refine (ok b u q).stay (fun c v hc r => k c v ?_ r) (fun c r => by rw [upd_ne (nown c b r)]; exact r) fun c xs r => by rw [upd_ne (ntup c xs r)]; exact r
      rcases hc with rfl | hc
      · exact hbe
      · rintro rfl
        rcases he with z | z
        · exact nown c b hc z
        · rw [hc] at z; cases z; exact hb rfl
end

/-! ### kept unless tracked; of the frames at fs (the callers') the slots may change (an exception that passes writes there); of the records at ex (iterators) nothing is said -/
structure Un (fs ex : List Addr) (H H' : Hp) (h h' : Heap) : Prop where
  keep : ∀ b o, h.get? b = some o → H b = none → b ∉ fs → b ∉ ex → h'.get? b = some o
  slot : ∀ b o, h.get? b = some o → H b = none → b ∈ fs → b ∉ ex → ∃ sl, h'.get? b = some { o with slots := sl }
  free : ∀ b o, h.get? b = some o → H b = none → b ∉ ex → H' b = none
  there : ∀ b o, h.get? b = some o → b ∉ ex → ∃ o', h'.get? b = some o'
  tups : ∀ b xs, H b = some (.tup xs) → H' b = some (.tup xs)
  frzs : ∀ b o u, H b = some (.frz o u) → H' b = some (.frz o u)
  tbls : ∀ b ps, H b = some (.tbl ps) → ∃ more, H' b = some (.tbl (ps ++ more))
section
variable {fs fs' ex ex' : List Addr} {H H1 H2 : Hp} {h h1 h2 h' : Heap} {a x e : Addr} {o : HO}
theorem Un.any (u : Un fs ex H H1 h h1) {b : Addr} {ob : Obj} (q : h.get? b = some ob) (n : H b = none) (hx : b ∉ ex) : ∃ sl, h1.get? b = some { ob with slots := sl } := by
  by_cases hb : b ∈ fs
  · exact u.slot b ob q n hb hx
  · exact ⟨ob.slots, u.keep b ob q n hb hx⟩
theorem Un.trans (a : Un fs ex H H1 h h1) (b : Un fs ex H1 H2 h1 h2) : Un fs ex H H2 h h2 where
  keep := fun c ob q n hc hx => b.keep c ob (a.keep c ob q n hc hx) (a.free c ob q n hx) hc hx
  slot := fun c ob q n hc hx => by
    obtain ⟨sl, e1⟩ := a.slot c ob q n hc hx
    obtain ⟨sl', e2⟩ := b.slot c _ e1 (a.free c ob q n hx) hc hx
    exact ⟨sl', e2⟩
  free := fun c ob q n hx => by
    obtain ⟨o', e1⟩ := a.there c ob q hx
    exact b.free c o' e1 (a.free c ob q n hx) hx
  there := fun c ob q hx => by
    obtain ⟨o', e1⟩ := a.there c ob q hx
    exact b.there c o' e1 hx
  tups := fun c xs q => b.tups c xs (a.tups c xs q)
  frzs := fun c ob xs q => b.frzs c ob xs (a.frzs c ob xs q)
  tbls := fun c ps q => by
    obtain ⟨m1, e1⟩ := a.tbls c ps q
    obtain ⟨m2, e2⟩ := b.tbls c _ e1
    exact ⟨m1 ++ m2, by rw [e2, Array.append_assoc]⟩
theorem Un.kept (k : ∀ b u, h.get? b = some u → h'.get? b = some u) : Un fs ex H H h h' :=
  ⟨fun b ob q _ _ _ => k b ob q, fun b ob q _ _ _ => ⟨ob.slots, k b ob q⟩, fun _ _ _ n _ => n, fun b ob q _ => ⟨ob, k b ob q⟩, fun _ _ q => q, fun _ _ _ q => q, fun _ ps q => ⟨#[], by rw [q]; simp⟩⟩
theorem Un.refl : Un fs ex H H h h := Un.kept fun _ _ q => q
theorem Un.laid (k : ∀ b u, h.get? b = some u → h'.get? b = some u) (hp : h.objs.size ≤ a) (hn : H a = none) : Un fs ex H (upd H a o) h h' where
  keep := fun b u q _ _ _ => k b u q
  slot := fun b u q _ _ _ => ⟨u.slots, k b u q⟩
  free := fun b u q n _ => by rw [upd_ne (Nat.ne_of_lt (Nat.lt_of_lt_of_le (Heap.lt_size q) hp))]; exact n
  there := fun b u q _ => ⟨u, k b u q⟩
  tups := fun b xs q => by rw [upd_ne (ne_of_none q hn)]; exact q
  frzs := fun b u xs q => by rw [upd_ne (ne_of_none q hn)]; exact q
  tbls := fun b ps q => ⟨#[], by rw [upd_ne (ne_of_none q hn), q]; simp⟩
theorem Un.write (mu : Mut (H x)) (he : e = x ∨ H e = some (.own x)) (k : ∀ b u, b ≠ e → h.get? b = some u → h'.get? b = some u) (heo : ∃ u, h'.get? e = some u) : Un fs ex H (upd H x o) h h' := by
  have hx : ∀ b, H b = none → b ≠ x := fun b n z => by subst z; rw [n] at mu; exact mu
  have hb : ∀ b, H b = none → b ≠ e := fun b n z => by
    subst z
    rcases he with r | r
    · exact hx b n r
    · rw [n] at r; cases r
  have hm : ∀ b u, H b = some u → ¬ Mut (some u) → b ≠ x := fun b u q nm z => by subst z; rw [q] at mu; exact nm mu
  refine ⟨fun b u q n _ _ => k b u (hb b n) q, fun b u q n _ _ => ⟨u.slots, k b u (hb b n) q⟩, fun b u q n _ => by rw [upd_ne (hx b n)]; exact n, fun b u q _ => ?_,
    fun b xs q => by rw [upd_ne (hm b _ q fun z => z)]; exact q, fun b u xs q => by rw [upd_ne (hm b _ q fun z => z)]; exact q, fun b ps q => ⟨#[], by rw [upd_ne (hm b _ q fun z => z), q]; simp⟩⟩
  by_cases hbe : b = e
  · subst hbe; exact heo
  · exact ⟨u, k b u hbe q⟩
theorem Un.mono (u : Un fs ex H H1 h h1) (hs : ∀ b ∈ fs, b ∈ fs') (hx : ∀ b ∈ ex, b ∈ ex') : Un fs' ex' H H1 h h1 :=
  ⟨fun b ob q n hb he => u.keep b ob q n (fun z => hb (hs b z)) fun z => he (hx b z), fun _ _ q n _ he => u.any q n fun z => he (hx _ z), fun b ob q n he => u.free b ob q n fun z => he (hx b z), fun b ob q he => u.there b ob q fun z => he (hx b z), u.tups, u.frzs, u.tbls⟩
end

/-! ### the heap without what is tracked -/
def trk (h : Heap) (H : Hp) : List Addr := (List.range h.objs.size).filter fun a => (H a).isSome
def hidT (h : Heap) (H : Hp) : Heap := PySem.W.hideAll h (trk h H)
theorem hidT_size (h : Heap) (H : Hp) : (hidT h H).objs.size = h.objs.size := PySem.W.hideAll_size _ _
theorem hidT_get {h : Heap} {H : Hp} {b : Addr} {o : Obj} (e : h.get? b = some o) (n : H b = none) : (hidT h H).get? b = some o :=
  PySem.W.hideAll_get _ e fun hm => by
    have q : (H b).isSome = true := (List.mem_filter.mp hm).2
    rw [n] at q; simp at q
theorem of_hidT {h : Heap} {H : Hp} {b : Addr} {o : Obj} (e : (hidT h H).get? b = some o) : h.get? b = some o ∧ H b = none := by
  have e' : h.get? b = some o := PySem.W.of_hideAll (trk h H) e
  refine ⟨e', ?_⟩
  cases q : H b with
  | none => rfl
  | some x =>
    have hm : b ∈ trk h H := List.mem_filter.mpr ⟨List.mem_range.mpr (Heap.lt_size e'), by simp [q]⟩
    have z : (hidT h H).get? b = none := PySem.W.hideAll_none (trk h H) hm
    rw [z] at e; cases e

/-! ### OpenK's ledger, filled with every new object but one -/
def allNews (g h : Heap) (L : Addr) : List (Addr × Obj) := (List.range h.objs.size).filterMap fun a => if a = L ∨ (g.get? a).isSome = true then none else (h.get? a).map fun o => (a, o)
theorem mem_allNews {g h : Heap} {L a : Addr} {o : Obj} (h1 : a ≠ L) (h2 : g.get? a = none) (h3 : h.get? a = some o) : (a, o) ∈ allNews g h L :=
  List.mem_filterMap.mpr ⟨a, List.mem_range.mpr (Heap.lt_size h3), by simp [h1, h2, h3]⟩
theorem of_mem_allNews {g h : Heap} {L : Addr} {p : Addr × Obj} (hp : p ∈ allNews g h L) : p.1 ≠ L ∧ g.get? p.1 = none ∧ h.get? p.1 = some p.2 := by
  obtain ⟨b, _, e⟩ := List.mem_filterMap.mp hp
  split at e
  · cases e
  · rename_i hn
    cases q : h.get? b with
    | none => rw [q] at e; simp at e
    | some u =>
      rw [q] at e
      simp only [Option.map_some, Option.some.injEq] at e
      subst e
      refine ⟨fun z => hn (.inl z), ?_, q⟩
      show g.get? b = none
      cases r : g.get? b with
      | none => rfl
      | some v => exact (hn (.inr (by simp [r]))).elim
def rest (g h : Heap) (L d : Addr) : List (Addr × Obj) := (allNews g h L).filter fun p => decide (p.1 ≠ d)
theorem rest_ne {g h : Heap} {L d : Addr} : ∀ p ∈ rest g h L d, p.1 ≠ d := fun p hp => of_decide_eq_true (List.mem_filter.mp hp).2
theorem mem_rest {g h : Heap} {L d a : Addr} {o : Obj} (h1 : a ≠ L) (h2 : g.get? a = none) (h3 : h.get? a = some o) (h4 : a ≠ d) : (a, o) ∈ rest g h L d :=
  List.mem_filter.mpr ⟨mem_allNews h1 h2 h3, decide_eq_true h4⟩
theorem news_all {g h : Heap} {L : Addr} : News g L h (allNews g h L) := fun p hp => let ⟨a, b, c⟩ := of_mem_allNews hp; ⟨c, a, b⟩
theorem news_at {g h : Heap} {L d : Addr} {o : Obj} (h1 : d ≠ L) (h2 : g.get? d = none) (h3 : h.get? d = some o) : News g L h ((d, o) :: rest g h L d) := fun p hp => by
  rcases List.mem_cons.mp hp with rfl | hp
  · exact ⟨h3, h1, h2⟩
  · exact news_all p (List.mem_filter.mp hp).1
/-- behind a rule that changed d alone: all else but the frame is kept -/
theorem kept_of_news {g h h' : Heap} {L d : Addr} {m : Str → Option Value} (k : ∀ b o, g.get? b = some o → h.get? b = some o) (F : Fr g L h' m) (N : News g L h' (rest g h L d)) :
    ∀ b o, b ≠ L → b ≠ d → h.get? b = some o → h'.get? b = some o := fun b o h1 h2 e => by
  cases q : g.get? b with
  | some u =>
    have := k b u q
    rw [e] at this; cases this
    exact F.keep b _ q
  | none => exact (N (b, o) (mem_rest h1 q e h2)).1
end L2

namespace L2
open PySem PySem.Spec PyProof.Rows

/-- the module's facts, over the base: the heap at the law's entry without what is tracked there -/
structure Mod (K : PySem.W.Frag) (mg : Str → Option Value) (base : Heap) : Prop where
  kin : K.In base
  glob : base.Ns mainGlobals mg
  blt : ∃ mb, base.Ns builtinsNs mb ∧ ∀ x : Str, x ≠ "__name__" → mb x = bootBuiltins x
  nolimit : base.NoLimit

/-- the context: a def's body (or a comprehension's block) running. base: fixed through the whole law; s₀, H₀: the entry; outer: the frames whose slots others may change (a def's callers); stack: all frames that run;
   ex: iterators that were made ahead of the entry and are walked here (a comprehension's); fn: the names whose cells were made at the entry (a def: all; a comprehension's block: its own); calm: not within an except suite; pn: pins that every state bears; xe: what is wanted of an exception that leaves the code -/
structure Cx where
  prog : Program
  w : World
  K : PySem.W.Frag
  mg : Str → Option Value
  base : Heap
  A : Around
  N : List Str
  s₀ : Shared
  H₀ : Hp
  env : Env
  outer : List Env
  stack : List Env
  ex : List Addr
  fn : Str → Bool
  calm : Bool
  pn : List (Addr × Obj)
  xe : Value → Shared → Prop
/-- the callers' frames -/
def frs (l : List Env) : List Addr := l.filterMap (·.frame)
abbrev Cx.fs (X : Cx) : List Addr := frs X.outer

def Vis (sc : Scope) (x : Str) : Prop := sc.names.lookup x = some .local ∨ sc.names.lookup x = some .cell ∨ sc.names.lookup x = some .free
def Loc (sc : Scope) (x : Str) : Prop := sc.names.lookup x = some .local ∨ sc.names.lookup x = some .cell
def Look (env : Env) (h : Heap) (m : Str → Option Value) (x : Str) (u : Value) : Prop :=
  (env.kindOf x = some .local ∧ m x = some u) ∨ ((env.kindOf x = some .cell ∨ env.kindOf x = some .free) ∧ ∃ c, env.cells.lookup x = some c ∧ h.IsCell c (some u))

structure Cx.Ok (X : Cx) : Prop where
  mod : Mod X.K X.mg X.base
  kind : X.env.scope.kind = .function
  glob : X.env.globals = mainGlobals
  blt : X.env.builtins = builtinsNs
  above : X.s₀.heap.objs.size ≤ X.env.locals
  inj : ∀ x y c, X.env.cells.lookup x = some c → X.env.cells.lookup y = some c → x = y
  has : ∀ x, (X.env.kindOf x = some .cell ∨ X.env.kindOf x = some .free) → ∃ c, X.env.cells.lookup x = some c
  cab : ∀ x c, X.fn x = true → X.env.cells.lookup x = some c → X.s₀.heap.objs.size ≤ c
  hd : X.calm = true → X.A.handled = none
  frames : X.A.frames = some X.stack
  stk : X.stack = X.outer ∨ (X.stack = X.env :: X.outer ∧ X.env.frame = some X.env.locals)
  exf : ∀ b ∈ X.ex, b ≠ X.env.locals ∧ ∀ x c, X.env.cells.lookup x = some c → c ≠ b
  bs : ∀ b o, X.base.get? b = some o → X.s₀.heap.get? b = some o ∧ X.H₀ b = none
  bsz : X.base.objs.size ≤ X.s₀.heap.objs.size
  noex : ∀ b o, X.base.get? b = some o → b ∉ X.ex
  exfs : ∀ b ∈ X.ex, b ∉ X.fs
  funs : X.s₀.heap.FunFrames X.base X.outer
  frf : ∀ b ∈ X.fs, X.H₀ b = none

structure Inv (X : Cx) (pins : List (Addr × Obj)) (σ : List (Option V)) (H : Hp) (s : Shared) : Prop where
  ok : X.Ok
  os : s.os = X.s₀.os
  bare : AllBare s.gens
  base : Un X.fs X.ex X.H₀ H X.s₀.heap s.heap
  loc : ∃ m, s.heap.Ns X.env.locals m ∧ ∀ (i : Nat) (x : Str) (v : V), X.N[i]? = some x → σ[i]? = some (some v) → Vis X.env.scope x → ∃ u, RelV v u ∧ Look X.env s.heap m x u
  cell : ∀ x c, X.env.cells.lookup x = some c → ∃ v, s.heap.IsCell c v
  free : H X.env.locals = none
  freeC : ∀ x c, X.env.cells.lookup x = some c → H c = none
  pin : ∀ p ∈ X.pn ++ pins, s.heap.get? p.1 = some p.2 ∧ H p.1 = none ∧ p.1 ≠ X.env.locals ∧ p.1 ∉ X.fs ∧ ∀ v, p.2.data ≠ .cell v
  hok : HOk X.prog X.w H s.heap
  len : σ.length = X.N.length

section
variable {X : Cx} {pins : List (Addr × Obj)} {σ : List (Option V)} {H H' : Hp} {s : Shared} {h' : Heap}

theorem Cx.Ok.nofr (ok : X.Ok) {b : Addr} {o : Obj} (e : X.base.get? b = some o) : b ∉ X.fs := fun hb => by
  have := (ok.funs.mem hb).1
  rw [e] at this; cases this
theorem Inv.bs (I : Inv X pins σ H s) : ∀ b o, X.base.get? b = some o → s.heap.get? b = some o ∧ H b = none := fun b o e =>
  ⟨I.base.keep b o (I.ok.bs b o e).1 (I.ok.bs b o e).2 (I.ok.nofr e) (I.ok.noex b o e), I.base.free b o (I.ok.bs b o e).1 (I.ok.bs b o e).2 (I.ok.noex b o e)⟩
theorem Inv.bk (I : Inv X pins σ H s) : ∀ b o, X.base.get? b = some o → s.heap.get? b = some o := fun b o e => (I.bs b o e).1
theorem Inv.mod (I : Inv X pins σ H s) : Mod X.K X.mg X.base := I.ok.mod
theorem Inv.kIn (I : Inv X pins σ H s) : X.K.In s.heap := I.ok.mod.kin.keeps I.bk
theorem Inv.nolimit (I : Inv X pins σ H s) : s.heap.NoLimit := I.ok.mod.nolimit.keeps I.bk
/-- the frame over the base: for OpenK's rules (K.In X.base is I.mod.kin) -/
theorem Inv.fr (I : Inv X pins σ H s) : ∃ m, Fr X.base X.env.locals s.heap m :=
  let ⟨m, hn, _⟩ := I.loc
  ⟨m, hn, I.bk, Nat.le_trans I.ok.bsz I.ok.above⟩
theorem Inv.lt (I : Inv X pins σ H s) : X.env.locals < s.heap.objs.size := let ⟨_, hn, _⟩ := I.loc; hn.lt
theorem Inv.sz (I : Inv X pins σ H s) : X.s₀.heap.objs.size ≤ s.heap.objs.size := Nat.le_trans I.ok.above (Nat.le_of_lt I.lt)
theorem Inv.nofs (I : Inv X pins σ H s) {a : Addr} (h : s.heap.objs.size ≤ a) : a ∉ X.fs := fun hb => by
  obtain ⟨_, o, ho, _⟩ := I.ok.funs.mem hb
  exact absurd (Nat.lt_of_lt_of_le (Heap.lt_size ho) (Nat.le_trans I.sz h)) (Nat.lt_irrefl _)
theorem Inv.cne (I : Inv X pins σ H s) : ∀ x c, X.env.cells.lookup x = some c → c ≠ X.env.locals := fun x c e z => by
  obtain ⟨v, o, ho, hd⟩ := I.cell x c e
  obtain ⟨m, ⟨o', es, ep, ho', hd', _⟩, _⟩ := I.loc
  rw [z, ho'] at ho; cases ho; rw [hd'] at hd; cases hd
theorem Inv.funs (I : Inv X pins σ H s) : s.heap.FunFrames X.base X.outer := by
  have all : ∀ (l : List Env), (∀ b ∈ frs l, b ∈ X.fs) → X.s₀.heap.FunFrames X.base l → s.heap.FunFrames X.base l := by
    intro l
    induction l with
    | nil => intro _ _; trivial
    | cons env r ih =>
      intro hs hl
      obtain ⟨hk, ⟨L, o, hf, hn, ho, hd⟩, hr⟩ := hl
      have hL : L ∈ X.fs := hs L (by unfold frs; rw [List.filterMap_cons, hf]; exact List.mem_cons_self)
      obtain ⟨sl, e⟩ := I.base.slot L o ho (I.ok.frf L hL) hL fun z => I.ok.exfs L z hL
      exact ⟨hk, ⟨L, _, hf, hn, e, hd⟩, ih (fun b hb => hs b (by unfold frs; rw [List.filterMap_cons, hf]; exact List.mem_cons_of_mem _ hb)) hr⟩
  exact all X.outer (fun _ hb => hb) I.ok.funs

/-- the frames that run, for a call -/
theorem Inv.stack (I : Inv X pins σ H s) : s.heap.FunFrames X.base X.stack := by
  rcases I.ok.stk with e | ⟨e, hf⟩
  · rw [e]; exact I.funs
  · rw [e]
    obtain ⟨m, hn, _⟩ := I.loc
    refine .cons (by rw [I.ok.kind]; decide) hf hn ?_ I.funs
    exact Heap.get?_none_of_le (Nat.le_trans I.ok.bsz I.ok.above)
theorem Inv.stkSub (I : Inv X pins σ H s) : ∀ b ∈ frs X.stack, b ∈ X.env.locals :: X.fs := fun b hb => by
  rcases I.ok.stk with e | ⟨e, hf⟩
  · rw [e] at hb; exact List.mem_cons_of_mem _ hb
  · rw [e] at hb
    unfold frs at hb
    rw [List.filterMap_cons, hf] at hb
    exact hb
theorem Inv.stkFree (I : Inv X pins σ H s) : ∀ b ∈ frs X.stack, H b = none := fun b hb => by
  rcases List.mem_cons.mp (I.stkSub b hb) with e | hb
  · rw [e]; exact I.free
  · obtain ⟨_, o, ho, _⟩ := I.ok.funs.mem hb
    exact I.base.free b o ho (I.ok.frf b hb) fun z => I.ok.exfs b z hb

/-- THE STEP: the untracked objects but the frame and the records at ch are kept (the callers' frames up to slots), the frame's map is kept, the new abstract heap is held -/
theorem Inv.step {g' : Array GenState} {t' : Nat} {d' : Drawn} {ch : List Addr} (I : Inv X pins σ H s)
    (hch : ∀ b ∈ ch, (b ∈ X.ex ∨ X.s₀.heap.objs.size ≤ b) ∧ b ≠ X.env.locals ∧ (∀ x c, X.env.cells.lookup x = some c → c ≠ b) ∧ ∀ p ∈ X.pn ++ pins, p.1 ≠ b)
    (keep : ∀ b o, b ≠ X.env.locals → b ∉ X.fs → b ∉ ch → s.heap.get? b = some o → H b = none → h'.get? b = some o)
    (slot : ∀ b o, b ≠ X.env.locals → b ∈ X.fs → b ∉ ch → s.heap.get? b = some o → H b = none → ∃ sl, h'.get? b = some { o with slots := sl }) (free : ∀ b o, b ∉ ch → s.heap.get? b = some o → H b = none → H' b = none)
    (there : ∀ b o, b ∉ ch → s.heap.get? b = some o → ∃ o', h'.get? b = some o')
    (tups : ∀ b xs, H b = some (.tup xs) → H' b = some (.tup xs)) (frzs : ∀ b o u, H b = some (.frz o u) → H' b = some (.frz o u)) (tbls : ∀ b ps, H b = some (.tbl ps) → ∃ more, H' b = some (.tbl (ps ++ more)))
    (ns : ∀ m, s.heap.Ns X.env.locals m → h'.Ns X.env.locals m) (hok : HOk X.prog X.w H' h') (hg : AllBare g') :
    Inv X pins σ H' { s with heap := h', gens := g', drawn := d', toks := t' } := by
  have neL : ∀ b o, X.s₀.heap.get? b = some o → b ≠ X.env.locals := fun b o e => Nat.ne_of_lt (Nat.lt_of_lt_of_le (Heap.lt_size e) I.ok.above)
  have neC : ∀ b o, X.s₀.heap.get? b = some o → b ∉ X.ex → b ∉ ch := fun b o e hx hb => by
    rcases (hch b hb).1 with z | z
    · exact hx z
    · exact absurd (Nat.lt_of_lt_of_le (Heap.lt_size e) z) (Nat.lt_irrefl _)
  have cellK : ∀ x c, X.env.cells.lookup x = some c → ∀ v, s.heap.IsCell c v → h'.IsCell c v := fun x c e v ⟨o, ho, hd⟩ => by
    have nch : c ∉ ch := fun z => (hch c z).2.2.1 x c e rfl
    by_cases hc : c ∈ X.fs
    · obtain ⟨sl, q⟩ := slot c o (I.cne x c e) hc nch ho (I.freeC x c e)
      exact ⟨_, q, hd⟩
    · exact ⟨o, keep c o (I.cne x c e) hc nch ho (I.freeC x c e), hd⟩
  refine ⟨I.ok, I.os, hg, ⟨fun b o e n hb hx => ?_, fun b o e n hb hx => ?_, fun b o e n hx => ?_, fun b o e hx => ?_, fun b xs e => tups b xs (I.base.tups b xs e), fun b o xs e => frzs b o xs (I.base.frzs b o xs e), fun b ps e => ?_⟩, ?_, fun x c e => ?_, ?_, fun x c e => ?_, fun p hp => ?_, hok, I.len⟩
  · exact keep b o (neL b o e) hb (neC b o e hx) (I.base.keep b o e n hb hx) (I.base.free b o e n hx)
  · obtain ⟨sl, e1⟩ := I.base.slot b o e n hb hx
    obtain ⟨sl', e2⟩ := slot b _ (neL b o e) hb (neC b o e hx) e1 (I.base.free b o e n hx)
    exact ⟨sl', e2⟩
  · obtain ⟨o', e1⟩ := I.base.there b o e hx
    exact free b o' (neC b o e hx) e1 (I.base.free b o e n hx)
  · obtain ⟨o', e1⟩ := I.base.there b o e hx
    exact there b o' (neC b o e hx) e1
  · obtain ⟨m1, e1⟩ := I.base.tbls b ps e
    obtain ⟨m2, e2⟩ := tbls b _ e1
    exact ⟨m1 ++ m2, by rw [e2, Array.append_assoc]⟩
  · obtain ⟨m, hn, hl⟩ := I.loc
    refine ⟨m, ns m hn, fun i x v e1 e2 e3 => ?_⟩
    obtain ⟨u, r, l⟩ := hl i x v e1 e2 e3
    refine ⟨u, r, ?_⟩
    rcases l with l | ⟨k, c, e, z⟩
    · exact .inl l
    · exact .inr ⟨k, c, e, cellK x c e _ z⟩
  · obtain ⟨v, z⟩ := I.cell x c e
    exact ⟨v, cellK x c e v z⟩
  · obtain ⟨m, ⟨o, _, _, ho, _⟩, _⟩ := I.loc
    exact free _ o (fun z => (hch _ z).2.1 rfl) ho I.free
  · obtain ⟨v, o, ho, hd⟩ := I.cell x c e
    exact free c o (fun z => (hch c z).2.2.1 x c e rfl) ho (I.freeC x c e)
  · obtain ⟨e, n, ne, nf, d⟩ := I.pin p hp
    have nch : p.1 ∉ ch := fun z => (hch p.1 z).2.2.2 p hp rfl
    exact ⟨keep p.1 p.2 ne nf nch e n, free p.1 p.2 nch e n, ne, nf, d⟩
/-- .. where the frame's own object is kept too -/
theorem Inv.un {t' : Nat} (I : Inv X pins σ H s) (u : Un X.fs [] H H' s.heap h') (hok : HOk X.prog X.w H' h') : Inv X pins σ H' { s with heap := h', toks := t' } := by
  obtain ⟨m, ⟨o, es, ep, ho, r⟩, _⟩ := id I.loc
  obtain ⟨sl, hL⟩ := u.any ho I.free (by simp)
  exact I.step (g' := s.gens) (d' := s.drawn) (ch := []) (fun _ z => nomatch z) (fun b o _ hb _ e n => u.keep b o e n hb (by simp)) (fun b o _ hb _ e n => u.slot b o e n hb (by simp)) (fun b o _ e n => u.free b o e n (by simp)) (fun b o _ e => u.there b o e (by simp)) u.tups u.frzs u.tbls (fun m' hm => by
    obtain ⟨o', es', ep', ho', r'⟩ := hm
    rw [ho] at ho'; cases ho'
    exact ⟨_, es', ep', hL, r'⟩) hok I.bare
/-- behind a call (or a comprehension's block): the slots of this frame may have changed too, the records at ch may have turned -/
theorem Inv.call {g' : Array GenState} {t' : Nat} {d' : Drawn} {ch : List Addr} (I : Inv X pins σ H s) (u : Un (frs X.stack) ch H H' s.heap h') (hok : HOk X.prog X.w H' h') (hg : AllBare g')
    (hch : ∀ b ∈ ch, (b ∈ X.ex ∨ X.s₀.heap.objs.size ≤ b) ∧ b ≠ X.env.locals ∧ (∀ x c, X.env.cells.lookup x = some c → c ≠ b) ∧ ∀ p ∈ X.pn ++ pins, p.1 ≠ b) :
    Inv X pins σ H' { s with heap := h', gens := g', drawn := d', toks := t' } := by
  obtain ⟨m, ⟨o, es, ep, ho, r⟩, _⟩ := id I.loc
  obtain ⟨sl, hL⟩ := u.any ho I.free fun z => (hch _ z).2.1 rfl
  exact I.step (ch := ch) hch (fun b o hL hb hc e n => u.keep b o e n (fun z => (List.mem_cons.mp (I.stkSub b z)).elim hL hb) hc) (fun b o _ _ hc e n => u.any e n hc) (fun b o hc e n => u.free b o e n hc) (fun b o hc e => u.there b o e hc) u.tups u.frzs u.tbls (fun m' hm => by
    obtain ⟨o', es', ep', ho', r'⟩ := hm
    rw [ho] at ho'; cases ho'
    exact ⟨_, es', ep', hL, r'⟩) hok hg
/-- an untracked record of ours (an iterator) has turned -/
theorem Inv.turned {t' : Nat} {it : Addr} (I : Inv X pins σ H s) (k : ∀ b o, b ≠ it → s.heap.get? b = some o → h'.get? b = some o) (hn : H it = none) (hL : it ≠ X.env.locals)
    (h1 : it ∈ X.ex ∨ X.s₀.heap.objs.size ≤ it) (h2 : ∀ x c, X.env.cells.lookup x = some c → c ≠ it) (h3 : ∀ p ∈ X.pn ++ pins, p.1 ≠ it) : Inv X pins σ H { s with heap := h', toks := t' } := by
  have nit : ∀ b u, H b = some u → b ≠ it := fun b u e z => by rw [z, hn] at e; cases e
  refine I.step (g' := s.gens) (d' := s.drawn) (ch := [it]) (fun b hb => ?_) (fun b o _ _ hc e _ => k b o (fun z => hc (by simp [z])) e) (fun b o _ _ hc e _ => ⟨o.slots, k b o (fun z => hc (by simp [z])) e⟩) (fun _ _ _ _ n => n)
    (fun b o hc e => ⟨o, k b o (fun z => hc (by simp [z])) e⟩) (fun _ _ e => e) (fun _ _ _ e => e) (fun b ps e => ⟨#[], by rw [e]; simp⟩) (fun m hm => ?_) (fun b u e => ?_) I.bare
  · have e : b = it := by simpa using hb
    subst e
    exact ⟨h1, hL, h2, h3⟩
  · obtain ⟨o, es, ep, ho, r⟩ := hm
    exact ⟨o, es, ep, k _ o (Ne.symm hL) ho, r⟩
  · refine (I.hok b u e).stay (fun c v hc q => k c v ?_ q) (fun _ q => q) fun _ _ q => q
    rcases hc with z | z
    · rw [z]; exact nit b u e
    · exact nit c _ z
theorem Inv.tok (I : Inv X pins σ H s) (t : Nat) : Inv X pins σ H { s with toks := t } := I.un (h' := s.heap) (t' := t) Un.refl I.hok
/-- all objects kept -/
theorem Inv.kept {t' : Nat} (I : Inv X pins σ H s) (k : ∀ b u, s.heap.get? b = some u → h'.get? b = some u) : Inv X pins σ H { s with heap := h', toks := t' } := I.un (Un.kept k) (I.hok.kept k)
/-- a new object laid and tracked -/
theorem Inv.laid {a : Addr} {o : HO} {t' : Nat} (I : Inv X pins σ H s) (k : ∀ b u, s.heap.get? b = some u → h'.get? b = some u) (hp : s.heap.objs.size ≤ a) (new : ObjOk X.prog X.w (upd H a o) h' a o) :
    Inv X pins σ (upd H a o) { s with heap := h', toks := t' } := I.un (Un.laid k hp (I.hok.fresh hp)) (I.hok.laid k hp new)
/-- an object written -/
theorem Inv.write {x e : Addr} {o : HO} {t' : Nat} (I : Inv X pins σ H s) (mu : Mut (H x)) (he : e = x ∨ H e = some (.own x)) (k : ∀ b u, b ≠ e → s.heap.get? b = some u → h'.get? b = some u) (heo : ∃ u, h'.get? e = some u)
    (new : ObjOk X.prog X.w (upd H x o) h' x o) : Inv X pins σ (upd H x o) { s with heap := h', toks := t' } := I.un (Un.write mu he k heo) (I.hok.write mu he k heo new)
/-- forgetting slots, pins -/
theorem Inv.weak {σ' : List (Option V)} (I : Inv X pins σ H s) (hl : σ'.length = σ.length) (w : ∀ (i : Nat) v, σ'[i]? = some (some v) → σ[i]? = some (some v)) : Inv X pins σ' H s :=
  ⟨I.ok, I.os, I.bare, I.base, let ⟨m, hn, hl'⟩ := I.loc; ⟨m, hn, fun i x v e1 e2 e3 => hl' i x v e1 (w i v e2) e3⟩, I.cell, I.free, I.freeC, I.pin, I.hok, hl.trans I.len⟩
theorem Inv.pins_of {pins' : List (Addr × Obj)} (I : Inv X pins σ H s) (h : ∀ p ∈ pins', s.heap.get? p.1 = some p.2 ∧ H p.1 = none ∧ p.1 ≠ X.env.locals ∧ p.1 ∉ X.fs ∧ ∀ v, p.2.data ≠ .cell v) : Inv X pins' σ H s :=
  ⟨I.ok, I.os, I.bare, I.base, I.loc, I.cell, I.free, I.freeC, fun p hp => (List.mem_append.mp hp).elim (fun z => I.pin p (List.mem_append_left _ z)) (h p), I.hok, I.len⟩

theorem nodup_ix {N : List Str} (hN : N.Nodup) {i j : Nat} {x : Str} (a : N[i]? = some x) (b : N[j]? = some x) : i = j := by
  obtain ⟨h1, e1⟩ := List.getElem?_eq_some_iff.mp a
  obtain ⟨h2, e2⟩ := List.getElem?_eq_some_iff.mp b
  exact (List.getElem_inj hN).mp (e1.trans e2.symm)

/-- a name is stored; what changed -/
theorem store_ok2 {M : Model} {A : Around} {E : Value → Shared → Prop} {i : Nat} {x : Str} {v : V} {u : Value} {Q : Unit → Shared → Prop} (I : Inv X pins σ H s) (hN : X.N.Nodup) (hi : X.N[i]? = some x) (hx : Loc X.env.scope x) (r : RelV v u)
    (h : ∀ s', Inv X pins (σ.set i (some v)) H s' → (∃ a, Heap.SameBut a s.heap s'.heap ∧ (a = X.env.locals ∨ X.env.cells.lookup x = some a)) → Q () s') (hf : X.fn x = true ∨ X.env.scope.names.lookup x = some .local := by first | exact .inl rfl | exact .inr rfl | assumption) : wpAny M A (storeName X.env x u) Q E s := by
  obtain ⟨m, hn, hl⟩ := id I.loc
  have hcls : (X.env.scope.kind == .class || (X.env.scope.kind == .module && X.env.locals != X.env.globals)) = false := by rw [I.ok.kind]; rfl
  have hiσ : i < σ.length := by rw [I.len]; exact (List.getElem?_eq_some_iff.mp hi).1
  have cne := I.cne
  have tracked : ∀ {a : Addr} {h' : Heap}, (∃ o, s.heap.get? a = some o ∧ H a = none) → Heap.SameBut a s.heap h' → HOk X.prog X.w H h' := fun {a h'} ha hs b ob e => by
    obtain ⟨_, _, hfree⟩ := ha
    refine (I.hok b ob e).stay (fun c w' hc q => (hs.2 c ?_).trans q) (fun _ q => q) fun _ _ q => q
    rintro rfl
    rcases hc with rfl | hc
    · rw [hfree] at e; cases e
    · rw [hfree] at hc; cases hc
  rcases hx with hk | hk
  · refine wpAny_storeName_local hk hn (fun h' hn' hs => ?_) hcls
    obtain ⟨oL, _, _, hoL, _⟩ := id hn
    refine h _ ⟨I.ok, I.os, I.bare, ⟨fun b o e n hb hx => ?_, fun b o e n hb hx => ?_, I.base.free, fun b o e hx => ?_, I.base.tups, I.base.frzs, I.base.tbls⟩, ⟨_, hn', fun j y v' e1 e2 e3 => ?_⟩, fun y c e => ?_, I.free, I.freeC, fun p hp => ?_, tracked ⟨oL, hoL, I.free⟩ hs, by simpa using I.len⟩ ⟨_, hs, .inl rfl⟩
    · exact (hs.2 b (Nat.ne_of_lt (Nat.lt_of_lt_of_le (Heap.lt_size e) I.ok.above))).trans (I.base.keep b o e n hb hx)
    · obtain ⟨sl, e1⟩ := I.base.slot b o e n hb hx
      exact ⟨sl, (hs.2 b (Nat.ne_of_lt (Nat.lt_of_lt_of_le (Heap.lt_size e) I.ok.above))).trans e1⟩
    · obtain ⟨o', e1⟩ := I.base.there b o e hx
      exact ⟨o', (hs.2 b (Nat.ne_of_lt (Nat.lt_of_lt_of_le (Heap.lt_size e) I.ok.above))).trans e1⟩
    · by_cases hj : j = i
      · subst hj
        rw [hi] at e1; cases e1
        rw [List.getElem?_set_self hiσ] at e2
        cases e2
        exact ⟨u, r, .inl ⟨hk, by simp⟩⟩
      · rw [List.getElem?_set_ne (Ne.symm hj)] at e2
        obtain ⟨u', r', q⟩ := hl j y v' e1 e2 e3
        refine ⟨u', r', ?_⟩
        rcases q with ⟨k, e⟩ | ⟨k, c, e, z⟩
        · refine .inl ⟨k, ?_⟩
          have : y ≠ x := fun e => hj (nodup_ix hN e1 (e ▸ hi))
          simp [this, e]
        · exact .inr ⟨k, c, e, z.sameBut hs (cne y c e)⟩
    · obtain ⟨w', z⟩ := I.cell y c e
      exact ⟨w', z.sameBut hs (cne y c e)⟩
    · obtain ⟨e, n, ne, nf, d⟩ := I.pin p hp
      exact ⟨(hs.2 p.1 ne).trans e, n, ne, nf, d⟩
  · have hfn : X.fn x = true := by
      rcases hf with z | z
      · exact z
      · rw [z] at hk; cases hk
    obtain ⟨c, hc⟩ := I.ok.has x (.inl hk)
    obtain ⟨w', z⟩ := I.cell x c hc
    refine wpAny_storeName_cell I.ok.kind hk hc z (fun h' hc' hs => ?_)
    obtain ⟨oc, hoc, hocd⟩ := id z
    refine h { s with heap := h' } ⟨I.ok, I.os, I.bare, ⟨fun b o e n hb hx => ?_, fun b o e n hb hx => ?_, I.base.free, fun b o e hx => ?_, I.base.tups, I.base.frzs, I.base.tbls⟩, ⟨m, hn.sameBut hs (Ne.symm (cne x c hc)), fun j y v' e1 e2 e3 => ?_⟩, fun y c' e => ?_, I.free, I.freeC, fun p hp => ?_, tracked ⟨oc, hoc, I.freeC x c hc⟩ hs, by simpa using I.len⟩ ⟨c, hs, .inr hc⟩
    · exact (hs.2 b (Nat.ne_of_lt (Nat.lt_of_lt_of_le (Heap.lt_size e) (I.ok.cab x c hfn hc)))).trans (I.base.keep b o e n hb hx)
    · obtain ⟨sl, e1⟩ := I.base.slot b o e n hb hx
      exact ⟨sl, (hs.2 b (Nat.ne_of_lt (Nat.lt_of_lt_of_le (Heap.lt_size e) (I.ok.cab x c hfn hc)))).trans e1⟩
    · obtain ⟨o', e1⟩ := I.base.there b o e hx
      exact ⟨o', (hs.2 b (Nat.ne_of_lt (Nat.lt_of_lt_of_le (Heap.lt_size e) (I.ok.cab x c hfn hc)))).trans e1⟩
    · by_cases hj : j = i
      · subst hj
        rw [hi] at e1; cases e1
        rw [List.getElem?_set_self hiσ] at e2
        cases e2
        exact ⟨u, r, .inr ⟨.inl hk, c, hc, hc'⟩⟩
      · rw [List.getElem?_set_ne (Ne.symm hj)] at e2
        obtain ⟨u', r', q⟩ := hl j y v' e1 e2 e3
        refine ⟨u', r', ?_⟩
        rcases q with q | ⟨k, c', e, z'⟩
        · exact .inl q
        · refine .inr ⟨k, c', e, z'.sameBut hs ?_⟩
          rintro rfl
          exact hj (nodup_ix hN e1 (I.ok.inj _ _ _ e hc ▸ hi))
    · by_cases hcc : c' = c
      · subst hcc; exact ⟨_, hc'⟩
      · obtain ⟨w2, z2⟩ := I.cell y c' e
        exact ⟨w2, z2.sameBut hs hcc⟩
    · obtain ⟨e, n, ne, nf, d⟩ := I.pin p hp
      refine ⟨(hs.2 p.1 ?_).trans e, n, ne, nf, d⟩
      intro q
      rw [q, hoc] at e
      have q' : oc = p.2 := Option.some.inj e
      exact d w' (by rw [← q']; exact hocd)
theorem store_ok {M : Model} {A : Around} {E : Value → Shared → Prop} {i : Nat} {x : Str} {v : V} {u : Value} {Q : Unit → Shared → Prop} (I : Inv X pins σ H s) (hN : X.N.Nodup) (hi : X.N[i]? = some x) (hx : Loc X.env.scope x) (r : RelV v u)
    (h : ∀ s', Inv X pins (σ.set i (some v)) H s' → Q () s') (hf : X.fn x = true ∨ X.env.scope.names.lookup x = some .local := by first | exact .inl rfl | exact .inr rfl | assumption) : wpAny M A (storeName X.env x u) Q E s :=
  store_ok2 I hN hi hx r (fun s' I' _ => h s' I') hf
/-- behind a call or a block, the state as it is -/
theorem Inv.call' {s' : Shared} {ch : List Addr} (I : Inv X pins σ H s) (ho : s'.os = s.os) (u : Un (frs X.stack) ch H H' s.heap s'.heap) (hok : HOk X.prog X.w H' s'.heap) (hg : AllBare s'.gens)
    (hch : ∀ b ∈ ch, (b ∈ X.ex ∨ X.s₀.heap.objs.size ≤ b) ∧ b ≠ X.env.locals ∧ (∀ x c, X.env.cells.lookup x = some c → c ≠ b) ∧ ∀ p ∈ X.pn ++ pins, p.1 ≠ b) : Inv X pins σ H' s' := by
  obtain ⟨h', g', d', t', o'⟩ := s'
  have e : o' = s.os := ho
  subst e
  exact I.call (g' := g') (t' := t') (d' := d') u hok hg hch
end

/-! ### the judgements -/
/-- an exception: its class, its own dict's address (where it has one), the abstract heap behind it -/
abbrev XK := Value → Option Addr → Hp → Prop
abbrev St := List (Option V)
abbrev VK := V → Hp → Prop
/-- an expression's reading; a test's; an argument list's -/
abbrev TE := St → Hp → VK → Prop
abbrev TT := St → Hp → (Bool → Hp → Prop) → Prop
abbrev TA := St → Hp → (List V → Hp → Prop) → Prop
/-- what is wanted behind a statement -/
structure Ends where
  nx : St → Hp → Prop
  rt : VK
  bk : St → Hp → Prop := fun _ _ => False
  ct : St → Hp → Prop := fun _ _ => False
abbrev TS := Ends → St → Hp → Prop

def EP (X : Cx) (pins : List (Addr × Obj)) (σ : St) (Q : VK) (u : Value) (s' : Shared) : Prop := ∃ v H', Inv X pins σ H' s' ∧ RelV v u ∧ Q v H'
def TP (X : Cx) (pins : List (Addr × Obj)) (σ : St) (Q : Bool → Hp → Prop) (b : Bool) (s' : Shared) : Prop := ∃ H', Inv X pins σ H' s' ∧ Q b H'
def AP (X : Cx) (pins : List (Addr × Obj)) (σ : St) (Q : List V → Hp → Prop) (us : List Value) (s' : Shared) : Prop := ∃ vs H', Inv X pins σ H' s' ∧ Vals vs us ∧ Q vs H'
def SP (X : Cx) (pins : List (Addr × Obj)) (D : Ends) (f : Flow) (s' : Shared) : Prop :=
  match f with
  | .next => ∃ σ' H', Inv X pins σ' H' s' ∧ D.nx σ' H'
  | .brk => ∃ σ' H', Inv X pins σ' H' s' ∧ D.bk σ' H'
  | .cont => ∃ σ' H', Inv X pins σ' H' s' ∧ D.ct σ' H'
  | .ret u => ∃ v σ' H', Inv X pins σ' H' s' ∧ RelV v u ∧ D.rt v H'

def PE (X : Cx) (e : Expr) (t : TE) : Prop :=
  ∀ (pins : List (Addr × Obj)) (s : Shared) (σ : St) (H : Hp) (Q : VK), Inv X pins σ H s → t σ H Q → wpAny (model X.prog X.w) X.A (eval e X.env) (EP X pins σ Q) X.xe s
def PT (X : Cx) (e : Expr) (t : TT) : Prop :=
  ∀ (pins : List (Addr × Obj)) (s : Shared) (σ : St) (H : Hp) (Q : Bool → Hp → Prop), Inv X pins σ H s → t σ H Q → wpAny (model X.prog X.w) X.A (isTrue e X.env (eval e X.env)) (TP X pins σ Q) X.xe s
/-- a test whatever its 'whole' is (and, or) -/
def PW (X : Cx) (e : Expr) (t : TT) : Prop :=
  ∀ (whole : Sem Value) (pins : List (Addr × Obj)) (s : Shared) (σ : St) (H : Hp) (Q : Bool → Hp → Prop), Inv X pins σ H s → t σ H Q → wpAny (model X.prog X.w) X.A (isTrue e X.env whole) (TP X pins σ Q) X.xe s
theorem PW.pt {X : Cx} {e : Expr} {t : TT} (h : PW X e t) : PT X e t := h _
/-- an argument list (no star), from the left -/
def PA (X : Cx) (es : List Expr) (t : TA) : Prop :=
  ∀ (pos : Pos) (pins : List (Addr × Obj)) (s : Shared) (σ : St) (H : Hp) (Q : List V → Hp → Prop), Inv X pins σ H s → t σ H Q → wpAny (model X.prog X.w) X.A (spliced (backTo pos (starEach es X.env))) (AP X pins σ Q) X.xe s
def PS (X : Cx) (st : Stmt) (t : TS) : Prop :=
  ∀ (pins : List (Addr × Obj)) (s : Shared) (σ : St) (H : Hp) (D : Ends), Inv X pins σ H s → t D σ H → wpAny (model X.prog X.w) X.A (exec st X.env) (SP X pins D) X.xe s
def PSs (X : Cx) (st : List Stmt) (t : TS) : Prop :=
  ∀ (pins : List (Addr × Obj)) (s : Shared) (σ : St) (H : Hp) (D : Ends), Inv X pins σ H s → t D σ H → wpAny (model X.prog X.w) X.A (execs st X.env) (SP X pins D) X.xe s
/-- weaken the end -/
theorem thn {α : Type} {t : Sem α} {Q Q' : α → Shared → Prop} {M : Model} {A : Around} {E : Value → Shared → Prop} {s : Shared} (h : wpAny M A t Q E s) (hQ : ∀ a s, Q a s → Q' a s) : wpAny M A t Q' E s := wpAny_mono h hQ fun _ _ x => x
end L2

namespace L2
open PySem PySem.Spec PyProof.Rows
section
variable {X : Cx}

/-- two expressions in a row -/
theorem bin {a b : Expr} {ta tb : TE} (ha : PE X a ta) (hb : PE X b tb) {pins : List (Addr × Obj)} {s : Shared} {σ : St} {H : Hp} {R : V → V → Hp → Prop} (I : Inv X pins σ H s) (h : ta σ H fun x H1 => tb σ H1 fun y H2 => R x y H2)
    {α : Type} {Q : α → Shared → Prop} {f : Value → Value → Sem α}
    (hf : ∀ v u s2 x y H2, Inv X pins σ H2 s2 → RelV x v → RelV y u → R x y H2 → wpAny (model X.prog X.w) X.A (f v u) Q X.xe s2) :
    wpAny (model X.prog X.w) X.A (eval a X.env) (fun v s₁ => wpAny (model X.prog X.w) X.A (eval b X.env) (fun u s₂ => wpAny (model X.prog X.w) X.A (f v u) Q X.xe s₂) X.xe s₁) X.xe s := by
  refine thn (ha pins s σ H _ I h) fun v s1 ⟨x, H1, I1, r1, q1⟩ => ?_
  refine thn (hb pins s1 σ H1 _ I1 q1) fun u s2 ⟨y, H2, I2, r2, q2⟩ => ?_
  exact hf v u s2 x y H2 I2 r1 r2 q2

/-! ### names and constants -/
def tVar (i : Nat) : TE := fun σ H Q => ∃ v, σ[i]? = some (some v) ∧ Q v H
def tC (v : V) : TE := fun _ H Q => Q v H
theorem pe_var {i : Nat} {x : Str} {pos : Pos} (hN : X.N[i]? = some x) (hv : Vis X.env.scope x) (hd : (x == ("__debug__" : Str)) = false := by decide) (hcd : (x == ("__classdict__" : Str)) = false := by decide) : PE X (.Name x pos) (tVar i) := by
  intro pins s σ H Q I h
  obtain ⟨v, e, h⟩ := h
  obtain ⟨m, hn, hl⟩ := I.loc
  obtain ⟨u, r, l⟩ := hl i x v hN e hv
  have fin : EP X pins σ Q u s := ⟨v, H, I, r, h⟩
  rcases l with ⟨hk, hm⟩ | ⟨hk, c, hc, hcell⟩
  · exact wpAny_Name (wpAny_loadName_local I.ok.kind hk hn hm fin) hd
  · rcases hk with hk | hk
    · exact wpAny_Name (wpAny_loadName_cell I.ok.kind hk hc hcell fin) hd
    · exact wpAny_Name (wpAny_loadName_free I.ok.kind hk hc hcell fin hcd) hd
theorem pe_int {i j pos} : PE X (.Constant (.int i) j pos) (tC (.int i)) := fun _ _ _ H _ I h => wpAny_Constant_int ⟨.int i, H, I.tok _, ⟨_, rfl⟩, h⟩
theorem pe_bl {b j pos} : PE X (.Constant (.bool b) j pos) (tC (.bl b)) := fun _ _ _ H _ I h => Constant_bool ⟨.bl b, H, I, rfl, h⟩
theorem pe_non {j pos} : PE X (.Constant .none j pos) (tC .non) := fun _ _ _ H _ I h => Constant_none ⟨.non, H, I, rfl, h⟩
theorem pe_str {x j pos} : PE X (.Constant (.str x) j pos) (tC (.str x)) := fun _ _ _ H _ I h => Calls.Constant_str ⟨.str x, H, I.tok _, ⟨_, rfl⟩, h⟩

/-- a global name of the def -/
def Gl (X : Cx) (x : Str) : Prop := X.env.kindOf x = some .globalImplicit
theorem ld_glob {E : Value → Shared → Prop} {pins : List (Addr × Obj)} {s : Shared} {σ : St} {H : Hp} {x : Str} {u : Value} {pos : Pos} {Q : Value → Shared → Prop} (I : Inv X pins σ H s) (hg : Gl X x) (hm : X.mg x = some u) (h : Q u s)
    (hd : (x == ("__debug__" : Str)) = false := by decide) : wpAny (model X.prog X.w) X.A (eval (.Name x pos) X.env) Q E s :=
  Calls.Name_function_global I.ok.kind hg (Calls.loadGlobal_global (by rw [I.ok.glob]; exact I.mod.glob.keeps I.bk) hm h) hd
theorem ld_blt {E : Value → Shared → Prop} {pins : List (Addr × Obj)} {s : Shared} {σ : St} {H : Hp} {x : Str} {u : Value} {pos : Pos} {Q : Value → Shared → Prop} (I : Inv X pins σ H s) (hg : Gl X x) (hm : X.mg x = none) (hv : bootBuiltins x = some u) (h : Q u s)
    (hn : x ≠ "__name__" := by decide) (hd : (x == ("__debug__" : Str)) = false := by decide) : wpAny (model X.prog X.w) X.A (eval (.Name x pos) X.env) Q E s := by
  obtain ⟨mb, h1, h2⟩ := I.mod.blt
  exact Calls.Name_function_global I.ok.kind hg (Calls.loadGlobal_builtin (by rw [I.ok.glob]; exact I.mod.glob.keeps I.bk) hm (by rw [I.ok.blt]; exact h1.keeps I.bk) ((h2 x hn).trans hv) h) hd
/-- a module's constant, a class, a function, as a value -/
theorem pe_glob {x : Str} {v : V} {u : Value} {pos : Pos} (hg : Gl X x) (hm : X.mg x = some u) (r : RelV v u) (hd : (x == ("__debug__" : Str)) = false := by decide) : PE X (.Name x pos) (tC v) :=
  fun _ _ _ H _ I h => ld_glob I hg hm ⟨v, H, I, r, h⟩ hd
theorem pe_bltn {x : Str} {v : V} {u : Value} {pos : Pos} (hg : Gl X x) (hm : X.mg x = none) (hv : bootBuiltins x = some u) (r : RelV v u) (hn : x ≠ "__name__" := by decide) (hd : (x == ("__debug__" : Str)) = false := by decide) : PE X (.Name x pos) (tC v) :=
  fun _ _ _ H _ I h => ld_blt I hg hm hv ⟨v, H, I, r, h⟩ hn hd

/-! ### arithmetic -/
/-- two ints -/
def t2I (ta tb : TE) (k : Int → Int → Hp → Prop) : St → Hp → Prop := fun σ H => ta σ H fun x H1 => tb σ H1 fun y H2 => ∃ i j, x = .int i ∧ y = .int j ∧ k i j H2
def tAdd (ta tb : TE) : TE := fun σ H Q => t2I ta tb (fun i j H2 => Q (.int (i + j)) H2) σ H
def tSub (ta tb : TE) : TE := fun σ H Q => t2I ta tb (fun i j H2 => Q (.int (i - j)) H2) σ H
/-- the left factor below 2^64 -/
def tMul (ta tb : TE) : TE := fun σ H Q => t2I ta tb (fun i j H2 => (-(2 ^ 64) < i ∧ i < 2 ^ 64) ∧ Q (.int (i * j)) H2) σ H
variable {a b : Expr} {ta tb : TE} {pos : Pos}
theorem pe_add (ha : PE X a ta) (hb : PE X b tb) : PE X (.BinOp a .Add b pos) (tAdd ta tb) := by
  intro pins s σ H Q I h
  refine wpAny_BinOp (bin ha hb I h fun v u s2 x y H2 I2 rx ry q => ?_)
  obtain ⟨i, j, rfl, rfl, q⟩ := q
  obtain ⟨t, rfl⟩ := rx
  obtain ⟨t', rfl⟩ := ry
  exact add_int ⟨.int _, H2, I2.tok _, ⟨_, rfl⟩, q⟩
theorem pe_sub (ha : PE X a ta) (hb : PE X b tb) : PE X (.BinOp a .Sub b pos) (tSub ta tb) := by
  intro pins s σ H Q I h
  refine wpAny_BinOp (bin ha hb I h fun v u s2 x y H2 I2 rx ry q => ?_)
  obtain ⟨i, j, rfl, rfl, q⟩ := q
  obtain ⟨t, rfl⟩ := rx
  obtain ⟨t', rfl⟩ := ry
  exact sub_int ⟨.int _, H2, I2.tok _, ⟨_, rfl⟩, q⟩
theorem pe_mul (ha : PE X a ta) (hb : PE X b tb) : PE X (.BinOp a .Mult b pos) (tMul ta tb) := by
  intro pins s σ H Q I h
  refine wpAny_BinOp (bin ha hb I h fun v u s2 x y H2 I2 rx ry q => ?_)
  obtain ⟨i, j, rfl, rfl, ⟨q1, q2⟩, q⟩ := q
  obtain ⟨t, rfl⟩ := rx
  obtain ⟨t', rfl⟩ := ry
  exact mul_int ⟨.int _, H2, I2.tok _, ⟨_, rfl⟩, q⟩ (.of_left (intBits_le_64 q1 q2))

/-! ### comparisons -/
def PC (X : Cx) (op : CmpOp) (a b : Expr) (t : TE) : Prop :=
  ∀ (pins : List (Addr × Obj)) (s : Shared) (σ : St) (H : Hp) (Q : VK), Inv X pins σ H s → t σ H Q →
    wpAny (model X.prog X.w) X.A (eval a X.env) (fun v s₁ => wpAny (model X.prog X.w) X.A (eval b X.env) (fun u s₂ => wpAny (model X.prog X.w) X.A (compareOp op v u) (EP X pins σ Q) X.xe s₂) X.xe s₁) X.xe s
theorem nobehind (b : Expr) {op : CmpOp} (h : op ≠ .In) (h2 : op ≠ .NotIn) : behindInMarks op b = false := by
  have e1 : (op == CmpOp.In) = false := by cases op <;> first | rfl | exact absurd rfl h
  have e2 : (op == CmpOp.NotIn) = false := by cases op <;> first | rfl | exact absurd rfl h2
  cases b <;> simp [behindInMarks, e1, e2]
def tCmp (p : Int → Int → Bool) (ta tb : TE) : TE := fun σ H Q => t2I ta tb (fun i j H2 => Q (.bl (p i j)) H2) σ H
abbrev tLt : TE → TE → TE := tCmp fun i j => decide (i < j)
abbrev tLe : TE → TE → TE := tCmp fun i j => decide (i ≤ j)
abbrev tGt : TE → TE → TE := tCmp fun i j => decide (j < i)
abbrev tGe : TE → TE → TE := tCmp fun i j => decide (j ≤ i)
abbrev tEqI : TE → TE → TE := tCmp fun i j => decide (i = j)
abbrev tNeI : TE → TE → TE := tCmp fun i j => !decide (i = j)
/-- a comparison of two ints, by its rule -/
theorem pc_int {op : CmpOp} {p : Int → Int → Bool} (ha : PE X a ta) (hb : PE X b tb)
    (rule : ∀ (i j : Int) (t u : Tok) (Q : Value → Shared → Prop) (s : Shared), Q (.bool (p i j)) s → wpAny (model X.prog X.w) X.A (compareOp op (.int i t) (.int j u)) Q X.xe s) : PC X op a b (tCmp p ta tb) := by
  intro pins s σ H Q I h
  refine bin ha hb I h fun v u s2 x y H2 I2 rx ry q => ?_
  obtain ⟨i, j, rfl, rfl, q⟩ := q
  obtain ⟨t, rfl⟩ := rx
  obtain ⟨t', rfl⟩ := ry
  exact rule i j t t' _ s2 ⟨.bl _, H2, I2, rfl, q⟩
theorem pc_lt (ha : PE X a ta) (hb : PE X b tb) : PC X .Lt a b (tLt ta tb) := pc_int ha hb fun _ _ _ _ _ _ h => lt_int h
theorem pc_le (ha : PE X a ta) (hb : PE X b tb) : PC X .LtE a b (tLe ta tb) := pc_int ha hb fun _ _ _ _ _ _ h => le_int h
theorem pc_gt (ha : PE X a ta) (hb : PE X b tb) : PC X .Gt a b (tGt ta tb) := pc_int ha hb fun _ _ _ _ _ _ h => gt_int h
theorem pc_ge (ha : PE X a ta) (hb : PE X b tb) : PC X .GtE a b (tGe ta tb) := pc_int ha hb fun _ _ _ _ _ _ h => ge_int h
theorem pc_eqI (ha : PE X a ta) (hb : PE X b tb) : PC X .Eq a b (tEqI ta tb) := pc_int ha hb fun _ _ _ _ _ _ h => eq_int (by rw [Bool.beq_eq_decide_eq]; exact h)
theorem pc_neI (ha : PE X a ta) (hb : PE X b tb) : PC X .NotEq a b (tNeI ta tb) := pc_int ha hb fun _ _ _ _ _ _ h => ne_int (by rw [bne, Bool.beq_eq_decide_eq]; exact h)
/-- is None -/
def tIsN (ta : TE) : TE := fun σ H Q => ta σ H fun x H1 => Q (.bl (decide (x = .non))) H1
def tNotN (ta : TE) : TE := fun σ H Q => ta σ H fun x H1 => Q (.bl (!decide (x = .non))) H1
theorem RelV.none_iff {x : V} {v : Value} (r : RelV x v) : (v == Value.none) = decide (x = .non) := by
  cases x with
  | non => cases r; rfl
  | bl _ => cases r; rfl
  | int _ => obtain ⟨t, rfl⟩ := r; rfl
  | str _ => obtain ⟨t, rfl⟩ := r; rfl
  | byt _ => obtain ⟨t, rfl⟩ := r; rfl
  | flt _ => obtain ⟨t, rfl⟩ := r; rfl
  | ref _ => cases r; rfl
  | ty _ => cases r; rfl
theorem pc_isN {j pos'} (ha : PE X a ta) : PC X .Is a (.Constant .none j pos') (tIsN ta) := by
  intro pins s σ H Q I h
  refine thn (ha pins s σ H _ I h) fun v s1 ⟨x, H1, I1, r1, q1⟩ => ?_
  exact Constant_none (is_none_gen ⟨.bl _, H1, I1, by rw [r1.none_iff]; rfl, q1⟩)
theorem pc_notN {j pos'} (ha : PE X a ta) : PC X .IsNot a (.Constant .none j pos') (tNotN ta) := by
  intro pins s σ H Q I h
  refine thn (ha pins s σ H _ I h) fun v s1 ⟨x, H1, I1, r1, q1⟩ => ?_
  exact Constant_none (isnot_none_gen ⟨.bl _, H1, I1, by rw [r1.none_iff]; rfl, q1⟩)
/-- a comparison as a value, as a test -/
def tB (t : TE) : TT := fun σ H Q => t σ H fun x H1 => ∃ c, x = .bl c ∧ Q c H1
theorem pe_cmp {op : CmpOp} {t : TE} (h : PC X op a b t) (h1 : behindInMarks op b = false := by first | exact nobehind _ (by decide) (by decide) | rfl) : PE X (.Compare a [op] [b] pos) t := fun pins s σ H Q I hw => wpAny_Compare1 (h pins s σ H Q I hw) h1
theorem pt_cmp {op : CmpOp} {t : TE} (h : PC X op a b t) (h1 : behindInMarks op b = false := by first | exact nobehind _ (by decide) (by decide) | rfl) : PT X (.Compare a [op] [b] pos) (tB t) := by
  intro pins s σ H Q I hw
  refine wpAny_isTrue_Compare1 (thn (h pins s σ H _ I hw) fun v s1 h1 => thn h1 fun u s2 h2 => thn h2 fun c s3 ⟨x, H1, I1, r1, q1⟩ => ?_) h1
  obtain ⟨d, rfl, q⟩ := q1
  cases r1
  exact wpAny_truthy_bool ⟨H1, I1, q⟩
/-- an expression whose value is a bool, as a test -/
theorem pt_val {e : Expr} {t : TE} (h : PE X e t) (he : ∀ whole, isTrue e X.env whole = (do let v ← whole; standAt e.pos; holding [v] (truthy v)) := by intro _; rfl) : PT X e (tB t) := by
  intro pins s σ H Q I hw
  refine isTrue_plain (thn (h pins s σ H _ I hw) fun v s1 ⟨x, H1, I1, r1, q1⟩ => ?_) (he _)
  obtain ⟨d, rfl, q⟩ := q1
  cases r1
  exact wpAny_truthy_bool ⟨H1, I1, q⟩

/-! ### and, or, not -/
variable {tA tB' : TT} {rest : List Expr}
def tAnd (t u : TT) : TT := fun σ H Q => t σ H fun c H1 => if c = true then u σ H1 Q else Q false H1
def tOr (t u : TT) : TT := fun σ H Q => t σ H fun c H1 => if c = true then Q true H1 else u σ H1 Q
def tNot (t : TT) : TT := fun σ H Q => t σ H fun c H1 => Q (!c) H1
theorem pw_and1 (ha : PT X a tA) : PW X (.BoolOp .And [a] pos) tA := by
  intro wh pins s σ H Q I h
  refine isTrue_and (thn (ha pins s σ H Q I h) fun c s1 e => ?_)
  cases c with
  | true => exact isTrue_and_nil e
  | false => exact e
theorem pw_or1 (ha : PT X a tA) : PW X (.BoolOp .Or [a] pos) tA := by
  intro wh pins s σ H Q I h
  refine isTrue_or (thn (ha pins s σ H Q I h) fun c s1 e => ?_)
  cases c with
  | false => exact isTrue_or_nil e
  | true => exact e
theorem pw_and (ha : PT X a tA) (hb : PW X (.BoolOp .And (b :: rest) pos) tB') : PW X (.BoolOp .And (a :: b :: rest) pos) (tAnd tA tB') := by
  intro wh pins s σ H Q I h
  refine isTrue_and (thn (ha pins s σ H _ I h) fun c s1 ⟨H1, I1, q1⟩ => ?_)
  cases c with
  | true => exact hb wh pins s1 σ H1 Q I1 q1
  | false => exact ⟨H1, I1, q1⟩
theorem pw_or (ha : PT X a tA) (hb : PW X (.BoolOp .Or (b :: rest) pos) tB') : PW X (.BoolOp .Or (a :: b :: rest) pos) (tOr tA tB') := by
  intro wh pins s σ H Q I h
  refine isTrue_or (thn (ha pins s σ H _ I h) fun c s1 ⟨H1, I1, q1⟩ => ?_)
  cases c with
  | true => exact ⟨H1, I1, q1⟩
  | false => exact hb wh pins s1 σ H1 Q I1 q1
theorem pt_not (ha : PT X a tA) : PT X (.UnaryOp .Not a pos) (tNot tA) := by
  intro pins s σ H Q I h
  exact isTrue_not (ha pins s σ H (fun c H1 => Q (!c) H1) I h)
/-- .. as values (bools) -/
def tAndV (ta tb : TE) : TE := fun σ H Q => ta σ H fun x H1 => ∃ c, x = .bl c ∧ if c = true then tb σ H1 Q else Q (.bl false) H1
def tOrV (ta tb : TE) : TE := fun σ H Q => ta σ H fun x H1 => ∃ c, x = .bl c ∧ if c = true then Q (.bl true) H1 else tb σ H1 Q
def tNotV (ta : TE) : TE := fun σ H Q => ta σ H fun x H1 => ∃ c, x = .bl c ∧ Q (.bl (!c)) H1
theorem pe_one {op} {t : TE} (h : PE X a t) : PE X (.BoolOp op [a] pos) t := fun pins s σ H Q I hw => BoolOp_one (h pins s σ H Q I hw)
theorem pe_and (ha : PE X a ta) (hb : PE X (.BoolOp .And (b :: rest) pos) tb) : PE X (.BoolOp .And (a :: b :: rest) pos) (tAndV ta tb) := by
  intro pins s σ H Q I h
  refine BoolOp_and (thn (ha pins s σ H _ I h) fun v s1 ⟨x, H1, I1, r1, q1⟩ => ?_)
  obtain ⟨c, rfl, q1⟩ := q1
  cases r1
  refine wpAny_truthy_bool ?_
  cases c with
  | true => exact hb pins s1 σ H1 Q I1 q1
  | false => exact ⟨.bl false, H1, I1, rfl, q1⟩
theorem pe_or (ha : PE X a ta) (hb : PE X (.BoolOp .Or (b :: rest) pos) tb) : PE X (.BoolOp .Or (a :: b :: rest) pos) (tOrV ta tb) := by
  intro pins s σ H Q I h
  refine BoolOp_or (thn (ha pins s σ H _ I h) fun v s1 ⟨x, H1, I1, r1, q1⟩ => ?_)
  obtain ⟨c, rfl, q1⟩ := q1
  cases r1
  refine wpAny_truthy_bool ?_
  cases c with
  | false => exact hb pins s1 σ H1 Q I1 q1
  | true => exact ⟨.bl true, H1, I1, rfl, q1⟩
theorem pe_not (ha : PE X a ta) : PE X (.UnaryOp .Not a pos) (tNotV ta) := by
  intro pins s σ H Q I h
  refine UnaryOp_ (thn (ha pins s σ H _ I h) fun v s1 ⟨x, H1, I1, r1, q1⟩ => ?_)
  obtain ⟨c, rfl, q1⟩ := q1
  cases r1
  exact not_of (wpAny_truthy_bool ⟨.bl (!c), H1, I1, rfl, q1⟩)
/-- a if t else b -/
def tIf (t : TT) (ta tb : TE) : TE := fun σ H Q => t σ H fun c H1 => if c = true then ta σ H1 Q else tb σ H1 Q
theorem pe_ifExp {c : Expr} (hc : PT X c tA) (ha : PE X a ta) (hb : PE X b tb) : PE X (.IfExp c a b pos) (tIf tA ta tb) := by
  intro pins s σ H Q I h
  refine wpAny_IfExp (thn (hc pins s σ H _ I h) fun d s1 ⟨H1, I1, q1⟩ => ?_)
  cases d with
  | true => exact ha pins s1 σ H1 Q I1 q1
  | false => exact hb pins s1 σ H1 Q I1 q1
end
end L2

namespace L2
open PySem PySem.Spec PyProof.Rows

/-! ### a list, a tuple that is read: tracked, frozen, or an object of the module -/
def SqL (K : PySem.W.Frag) (H : Hp) (a : Addr) (xs : List V) : Prop :=
  Rd H a (.lst xs) ∨
    ∃ (o : Obj) (its : Array Value) (n : Nat), K.lookup a = some o ∧ o.cls = .type "list" ∧ o.dict = none ∧ o.data = .seq its n ∧ its.size ≤ sizeLine ∧ Vals xs its.toList
def SqT (K : PySem.W.Frag) (H : Hp) (a : Addr) (xs : List V) : Prop :=
  Rd H a (.tup xs) ∨
    ∃ (o : Obj) (its : Array Value) (n : Nat), K.lookup a = some o ∧ o.cls = .type "tuple" ∧ o.data = .seq its n ∧ its.size ≤ sizeLine ∧ Vals xs its.toList
def absV : Value → Option V
  | .none => some .non
  | .bool b => some (.bl b)
  | .int i _ => some (.int i)
  | .str x _ => some (.str x)
  | .bytes b _ => some (.byt b)
  | .float b _ => some (.flt b)
  | .ref a => some (.ref a)
  | .type n => some (.ty n)
  | _ => none
theorem RelV.abs {x : V} {u : Value} (r : RelV x u) : absV u = some x := by
  cases x with
  | non => cases r; rfl
  | bl _ => cases r; rfl
  | int _ => obtain ⟨t, rfl⟩ := r; rfl
  | str _ => obtain ⟨t, rfl⟩ := r; rfl
  | byt _ => obtain ⟨t, rfl⟩ := r; rfl
  | flt _ => obtain ⟨t, rfl⟩ := r; rfl
  | ref _ => cases r; rfl
  | ty _ => cases r; rfl
theorem RelV.inj {x y : V} {u : Value} (r : RelV x u) (q : RelV y u) : x = y := Option.some.inj (r.abs.symm.trans q.abs)
theorem Vals.inj : ∀ {xs ys : List V} {us : List Value}, Vals xs us → Vals ys us → xs = ys
  | _, _, _, .nil, .nil => rfl
  | _, _, _, .cons r t, .cons r' t' => by rw [r.inj r', Vals.inj t t']
section
variable {X : Cx} {pins : List (Addr × Obj)} {σ : St} {H : Hp} {s : Shared} {a : Addr} {xs ys : List V}
theorem SqL.of {K : PySem.W.Frag} (h : H a = some (.lst xs)) : SqL K H a xs := .inl (.inl h)
theorem SqT.of {K : PySem.W.Frag} (h : H a = some (.tup xs)) : SqT K H a xs := .inl (.inl h)
theorem Inv.list (I : Inv X pins σ H s) (h : SqL X.K H a xs) : ∃ its : List Value, Vals xs its ∧ PlainL s.heap a its.toArray ∧ xs.length ≤ sizeLine := by
  rcases h with h | ⟨o, its, n, hk, hc, hd, hs, hz, r⟩
  · obtain ⟨z, its, n, r, e⟩ := h.ok I.hok
    exact ⟨its, r, ⟨_, n, e, rfl, rfl, rfl⟩, z⟩
  · refine ⟨its.toList, r, ⟨o, n, I.kIn a o hk, hc, hd, by simpa using hs⟩, ?_⟩
    have e := r.length
    simp only [Array.length_toList] at e
    omega
theorem Inv.tuple (I : Inv X pins σ H s) (h : SqT X.K H a xs) : ∃ its : List Value, Vals xs its ∧ IsTup s.heap a its.toArray ∧ xs.length ≤ sizeLine := by
  rcases h with h | ⟨o, its, n, hk, hc, hs, hz, r⟩
  · obtain ⟨z, its, r, p⟩ := h.ok I.hok
    exact ⟨its, r, p, z⟩
  · refine ⟨its.toList, r, ⟨o, I.kIn a o hk, hc, n, by simpa using hs⟩, ?_⟩
    have e := r.length
    simp only [Array.length_toList] at e
    omega
theorem Inv.list_inj (I : Inv X pins σ H s) (h : SqL X.K H a xs) (h' : SqL X.K H a ys) : xs = ys := by
  obtain ⟨its, r, ⟨o, n, e, _, _, d⟩, _⟩ := I.list h
  obtain ⟨its', r', ⟨o', n', e', _, _, d'⟩, _⟩ := I.list h'
  rw [e] at e'; cases e'
  rw [d] at d'
  injection d' with d1 _
  have : its = its' := by simpa using congrArg Array.toList d1
  subst this
  exact r.inj r'
theorem Inv.tuple_inj (I : Inv X pins σ H s) (h : SqT X.K H a xs) (h' : SqT X.K H a ys) : xs = ys := by
  obtain ⟨its, r, ⟨o, e, _, n, d⟩, _⟩ := I.tuple h
  obtain ⟨its', r', ⟨o', e', _, n', d'⟩, _⟩ := I.tuple h'
  rw [e] at e'; cases e'
  rw [d] at d'
  injection d' with d1 _
  have : its = its' := by simpa using congrArg Array.toList d1
  subst this
  exact r.inj r'
end

/-! ### another wish about exceptions -/
abbrev Cx.wish (X : Cx) (E : Value → Shared → Prop) : Cx := { X with xe := E }
/-- no exception leaves -/
abbrev Cx.nox (X : Cx) : Cx := X.wish fun _ _ => False
theorem Cx.Ok.wish {X : Cx} (ok : X.Ok) (E : Value → Shared → Prop) : (X.wish E).Ok :=
  ⟨ok.mod, ok.kind, ok.glob, ok.blt, ok.above, ok.inj, ok.has, ok.cab, ok.hd, ok.frames, ok.stk, ok.exf, ok.bs, ok.bsz, ok.noex, ok.exfs, ok.funs, ok.frf⟩
theorem Cx.Ok.unwish {X : Cx} {E : Value → Shared → Prop} (ok : (X.wish E).Ok) : X.Ok :=
  ⟨ok.mod, ok.kind, ok.glob, ok.blt, ok.above, ok.inj, ok.has, ok.cab, ok.hd, ok.frames, ok.stk, ok.exf, ok.bs, ok.bsz, ok.noex, ok.exfs, ok.funs, ok.frf⟩
section
variable {X : Cx} {pins : List (Addr × Obj)} {σ : St} {H : Hp} {s : Shared} {E : Value → Shared → Prop}
theorem Inv.wish (I : Inv X pins σ H s) (E : Value → Shared → Prop) : Inv (X.wish E) pins σ H s := ⟨I.ok.wish E, I.os, I.bare, I.base, I.loc, I.cell, I.free, I.freeC, I.pin, I.hok, I.len⟩
theorem Inv.unwish (I : Inv (X.wish E) pins σ H s) : Inv X pins σ H s := ⟨I.ok.unwish, I.os, I.bare, I.base, I.loc, I.cell, I.free, I.freeC, I.pin, I.hok, I.len⟩
theorem SP.unwish {D : Ends} {f : Flow} {s' : Shared} (h : SP (X.wish E) pins D f s') : SP X pins D f s' := by
  cases f with
  | next => obtain ⟨σ', H', I, q⟩ := h; exact ⟨σ', H', I.unwish, q⟩
  | brk => obtain ⟨σ', H', I, q⟩ := h; exact ⟨σ', H', I.unwish, q⟩
  | cont => obtain ⟨σ', H', I, q⟩ := h; exact ⟨σ', H', I.unwish, q⟩
  | ret u => obtain ⟨v, σ', H', I, r, q⟩ := h; exact ⟨v, σ', H', I.unwish, r, q⟩
theorem PE.nox {e : Expr} {t : TE} (h : PE X.nox e t) : PE X e t := fun pins s σ H Q I hw =>
  wpAny_mono (h pins s σ H Q (I.wish _) hw) (fun _ _ ⟨v, H', I', r, q⟩ => ⟨v, H', I'.unwish, r, q⟩) fun _ _ z => False.elim z
theorem PT.nox {e : Expr} {t : TT} (h : PT X.nox e t) : PT X e t := fun pins s σ H Q I hw =>
  wpAny_mono (h pins s σ H Q (I.wish _) hw) (fun _ _ ⟨H', I', q⟩ => ⟨H', I'.unwish, q⟩) fun _ _ z => False.elim z
theorem PSs.nox {st : List Stmt} {t : TS} (h : PSs X.nox st t) : PSs X st t := fun pins s σ H D I hw =>
  wpAny_mono (h pins s σ H D (I.wish _) hw) (fun _ _ q => q.unwish) fun _ _ z => False.elim z
end

/-! ### blocks and small statements -/
section
variable {X : Cx} {st : Stmt} {rest : List Stmt} {t u : TS} {e : Expr} {te : TE} {pos : Pos}
def tNext : TS := fun D σ H => D.nx σ H
def tSeq (t u : TS) : TS := fun D σ H => t { D with nx := u D } σ H
theorem pss_nil : PSs X [] tNext := fun _ _ σ H _ I h => wpAny_execs_nil ⟨σ, H, I, h⟩
theorem pss_cons (h1 : PS X st t) (h2 : PSs X rest u) : PSs X (st :: rest) (tSeq t u) := by
  intro pins s σ H D I h
  refine wpAny_execs_cons (thn (h1 pins s σ H { D with nx := u D } I h) fun f s1 q => ?_)
  cases f with
  | next =>
    obtain ⟨σ', H', I', q⟩ := q
    exact h2 pins s1 σ' H' D I' q
  | ret v => exact q
  | brk => exact q
  | cont => exact q
theorem pss_one (h1 : PS X st t) : PSs X [st] t := by
  intro pins s σ H D I h
  refine wpAny_execs_cons (thn (h1 pins s σ H D I h) fun f s1 q => ?_)
  cases f with
  | next => exact wpAny_execs_nil q
  | ret v => exact q
  | brk => exact q
  | cont => exact q
def tBreak : TS := fun D σ H => D.bk σ H
def tCont : TS := fun D σ H => D.ct σ H
theorem ps_pass : PS X (.Pass pos) tNext := fun _ _ σ H _ I h => wpAny_Pass ⟨σ, H, I, h⟩
theorem ps_break : PS X (.Break pos) tBreak := fun _ _ σ H _ I h => wpAny_Break ⟨σ, H, I, h⟩
theorem ps_continue : PS X (.Continue pos) tCont := fun _ _ σ H _ I h => wpAny_Continue ⟨σ, H, I, h⟩
/-- in a def's body nothing is shown -/
theorem Inv.quiet {pins : List (Addr × Obj)} {σ : St} {H : Hp} {s : Shared} (I : Inv X pins σ H s) : interactive X.env = false := by simp [interactive, I.ok.kind]
/-- a docstring -/
theorem ps_doc {x j pos pos'} : PS X (.Expr (.Constant (.str x) j pos) pos') tNext := fun _ s σ H _ I h => wpAny_Expr (Calls.Constant_str (show SP X _ _ .next { s with toks := s.toks + 1 } from ⟨σ, H, I.tok _, h⟩)) I.quiet
/-- an expression whose value is dropped -/
def tDrop (te : TE) : TS := fun D σ H => te σ H fun _ H1 => D.nx σ H1
theorem ps_expr (he : PE X e te) (hs : swapsWith e none pos.line X.env = pure false := by rfl) : PS X (.Expr e pos) (tDrop te) := by
  intro pins s σ H D I h
  exact wpAny_Expr_any (thn (he pins s σ H _ I h) fun v s1 ⟨x, H1, I1, r1, q1⟩ => ⟨σ, H1, I1, q1⟩) I.quiet hs
def tRet (te : TE) : TS := fun D σ H => te σ H D.rt
theorem ps_ret (he : PE X e te) : PS X (.Return (some e) pos) (tRet te) := by
  intro pins s σ H D I h
  exact wpAny_Return_some (thn (he pins s σ H _ I h) fun v s1 ⟨x, H1, I1, r1, q1⟩ => ⟨x, σ, H1, I1, r1, q1⟩)
def tRetN : TS := fun D _ H => D.rt .non H
theorem ps_retN : PS X (.Return none pos) tRetN := fun _ _ σ H _ I h => wpAny_Return_none ⟨.non, σ, H, I, rfl, h⟩
def tIfS (c : TT) (t u : TS) : TS := fun D σ H => c σ H fun b H1 => if b = true then t D σ H1 else u D σ H1
theorem ps_if {c : Expr} {a b : List Stmt} {tc : TT} (hc : PT X c tc) (ha : PSs X a t) (hb : PSs X b u) : PS X (.If c a b pos) (tIfS tc t u) := by
  intro pins s σ H D I h
  refine wpAny_If (thn (hc pins s σ H _ I h) fun d s1 ⟨H1, I1, q1⟩ => ?_)
  cases d with
  | true => exact ha pins s1 σ H1 D I1 q1
  | false => exact hb pins s1 σ H1 D I1 q1
/-- code that the proof never comes to -/
def tNever : TS := fun _ _ _ => False
theorem ps_never : PS X st tNever := fun _ _ _ _ _ _ h => h.elim
theorem pss_never {sts : List Stmt} : PSs X sts tNever := fun _ _ _ _ _ _ h => h.elim
end

/-! ### targets -/
abbrev TG := V → St → Hp → (St → Hp → Prop) → Prop
abbrev TGs := List V → St → Hp → (St → Hp → Prop) → Prop
def PG (X : Cx) (target : Expr) (t : TG) : Prop :=
  ∀ (pins : List (Addr × Obj)) (s : Shared) (σ : St) (H : Hp) (v : V) (u : Value) (Q : St → Hp → Prop), Inv X pins σ H s → RelV v u → t v σ H Q →
    wpAny (model X.prog X.w) X.A (assign target X.env u) (fun _ s' => ∃ σ' H', Inv X pins σ' H' s' ∧ Q σ' H') X.xe s
/-- several targets, one after another -/
def PGs (X : Cx) (ts : List Expr) (t : TGs) : Prop :=
  ∀ (pins : List (Addr × Obj)) (s : Shared) (σ : St) (H : Hp) (vs : List V) (us : List Value) (Q : St → Hp → Prop), Inv X pins σ H s → Vals vs us → t vs σ H Q →
    wpAny (model X.prog X.w) X.A (assignInOrder ((assignEach ts X.env).map (·.2)) us) (fun _ s' => ∃ σ' H', Inv X pins σ' H' s' ∧ Q σ' H') X.xe s
/-- o[i] = v, by values -/
abbrev TSet := V → V → V → Hp → (Hp → Prop) → Prop
def PSet (X : Cx) (t : TSet) : Prop :=
  ∀ (pins : List (Addr × Obj)) (s : Shared) (σ : St) (H : Hp) (o i v : V) (ov iv u : Value) (Q : Hp → Prop), Inv X pins σ H s → RelV o ov → RelV i iv → RelV v u → t o i v H Q →
    wpAny (model X.prog X.w) X.A (setItem ov iv u) (fun _ s' => ∃ H', Inv X pins σ H' s' ∧ Q H') X.xe s
/-- a op= b, by values -/
abbrev TIp := V → V → Hp → VK → Prop
def PIp (X : Cx) (op : Operator) (t : TIp) : Prop :=
  ∀ (pins : List (Addr × Obj)) (s : Shared) (σ : St) (H : Hp) (x y : V) (v u : Value) (Q : VK), Inv X pins σ H s → RelV x v → RelV y u → t x y H Q →
    wpAny (model X.prog X.w) X.A (inplaceOp op v u) (EP X pins σ Q) X.xe s
section
variable {X : Cx} {pos : Pos}
def gName (i : Nat) : TG := fun v σ H Q => Q (σ.set i (some v)) H
theorem pg_name {i : Nat} {x : Str} (hN : X.N.Nodup) (hi : X.N[i]? = some x) (hx : Loc X.env.scope x) (hf : X.fn x = true ∨ X.env.scope.names.lookup x = some .local := by first | exact .inl rfl | exact .inr rfl | assumption) : PG X (.Name x pos) (gName i) := by
  intro pins s σ H v u Q I r h
  exact wpAny_assign_Name (store_ok I hN hi hx r (fun s' I' => ⟨_, H, I', h⟩) hf)
def gNil : TGs := fun vs σ H Q => vs = [] ∧ Q σ H
def gCons (t : TG) (u : TGs) : TGs := fun vs σ H Q => ∃ v r, vs = v :: r ∧ t v σ H fun σ' H' => u r σ' H' Q
theorem pgs_nil : PGs X [] gNil := by
  intro pins s σ H vs us Q I r h
  obtain ⟨e, h⟩ := h
  subst e
  cases r
  exact assignInOrder_nil ⟨σ, H, I, h⟩
theorem pgs_cons {e : Expr} {es : List Expr} {t : TG} {u : TGs} (h1 : PG X e t) (h2 : PGs X es u)
    (hs : (assignEach (e :: es) X.env).map (·.2) = assign e X.env :: (assignEach es X.env).map (·.2) := by rfl) : PGs X (e :: es) (gCons t u) := by
  intro pins s σ H vs us Q I r h
  obtain ⟨v, vr, e1, h⟩ := h
  subst e1
  cases r with
  | cons r rr =>
    rw [hs]
    refine assignInOrder_cons (thn (h1 pins s σ H _ _ _ I r h) fun _ s1 ⟨σ1, H1, I1, q1⟩ => ?_)
    exact h2 pins s1 σ1 H1 _ _ Q I1 rr q1
/-- (a, b, ..) = a tuple of that length -/
def gTup (K : PySem.W.Frag) (n : Nat) (t : TGs) : TG := fun v σ H Q => ∃ a xs, v = .ref a ∧ SqT K H a xs ∧ xs.length = n ∧ t xs σ H Q
theorem pg_tup {es : List Expr} {k : Nat} {t : TGs} {n : Nat} (hc : X.calm = true) (h : PGs X es t)
    (hn : (assignEach es X.env).length = n := by rfl) (hst : (assignEach es X.env).findIdx? (·.1) = none := by rfl) : PG X (.Tuple es k pos) (gTup X.K n t) := by
  intro pins s σ H v u Q I r hw
  obtain ⟨a, xs, e1, hq, hl, hw⟩ := hw
  subst e1
  cases r
  obtain ⟨its, rv, ht, hz⟩ := I.tuple hq
  refine assign_Tuple_tuple (I.ok.hd hc) ht (by simp [hn, ← hl, rv.length]) hst fun h' hx => ?_
  have I1 : Inv X pins σ H { s with heap := h' } := I.kept (t' := s.toks) fun b o e => hx b o (Nat.ne_of_lt (Heap.lt_size e)) e
  exact h pins _ σ H xs _ Q I1 (by simpa using rv) hw
/-- o[i] = .. -/
def gSub (to ti : TE) (t : TSet) : TG := fun v σ H Q => to σ H fun o H1 => ti σ H1 fun i H2 => t o i v H2 fun H3 => Q σ H3
theorem pg_sub {o i : Expr} {to ti : TE} {t : TSet} (ho : PE X o to) (hi : PE X i ti) (hs : PSet X t)
    (ha : ∀ v, assign (.Subscript o i pos) X.env v = (do
      let ov ← holding [v] (eval o X.env)
      let iv ← holding [v, ov] (eval i X.env)
      standAt pos
      holding [v, ov, iv] (setItem ov iv v)
      release [v, ov, iv] []) := by intro _; rfl) : PG X (.Subscript o i pos) (gSub to ti t) := by
  intro pins s σ H v u Q I r h
  rw [ha]
  refine wpAny_bind (wpAny_holding (thn (ho pins s σ H _ I h) fun ov s1 ⟨x, H1, I1, r1, q1⟩ => ?_))
  refine wpAny_bind (wpAny_holding (thn (hi pins s1 σ H1 _ I1 q1) fun iv s2 ⟨y, H2, I2, r2, q2⟩ => ?_))
  refine wpAny_bind (wpAny_standAt (wpAny_bind (wpAny_holding (thn (hs pins s2 σ H2 x y v ov iv u _ I2 r1 r2 r q2) fun _ s3 ⟨H3, I3, q3⟩ => ?_))))
  exact wpAny_release ⟨σ, H3, I3, q3⟩
/-- target = value -/
def tAsg (te : TE) (g : TG) : TS := fun D σ H => te σ H fun x H1 => g x σ H1 D.nx
theorem ps_asg {tg e : Expr} {te : TE} {g : TG} (he : PE X e te) (hg : PG X tg g) (hs : swapsWithSole [tg] e pos.line X.env = pure false := by rfl) (hw : swappedStores [tg] e X.env = pure none := by rfl)
    (h1 : (assignEach [tg] X.env).map (·.2) = [assign tg X.env] := by rfl) : PS X (.Assign [tg] e pos) (tAsg te g) := by
  intro pins s σ H D I h
  refine wpAny_Assign_stores (thn (he pins s σ H _ I h) fun v s1 ⟨x, H1, I1, r1, q1⟩ => ?_) hs hw
  rw [h1]
  exact thn (hg pins s1 σ H1 x v _ I1 r1 q1) fun _ s2 q => q
/-- name = value -/
theorem ps_set {i : Nat} {x : Str} {e : Expr} {te : TE} {pos' : Pos} (hN : X.N.Nodup) (hi : X.N[i]? = some x) (hx : Loc X.env.scope x) (he : PE X e te) (hs : swapsWith e (some (.Name x pos')) pos.line X.env = pure false := by rfl) (hf : X.fn x = true ∨ X.env.scope.names.lookup x = some .local := by first | exact .inl rfl | exact .inr rfl | assumption) :
    PS X (.Assign [.Name x pos'] e pos) (tAsg te (gName i)) := by
  intro pins s σ H D I h
  refine wpAny_Assign_Name (thn (he pins s σ H _ I h) fun v s1 ⟨y, H1, I1, r1, q1⟩ => ?_) hs
  exact store_ok I1 hN hi hx r1 (fun s2 I2 => ⟨_, H1, I2, q1⟩) hf
/-- a, b = x, y with plain local names: stored from the right; the pair itself is not tracked (the opening rows as in PyProof/Rows/TupAssign.lean:23) -/
def tPar (i j : Nat) (ta : TA) : TS := fun D σ H => ta σ H fun vs H1 => ∃ v w, vs = [v, w] ∧ D.nx ((σ.set i (some v)).set j (some w)) H1
theorem ps_par {i j : Nat} {x y : Str} {a b : Expr} {ta : TA} {px py pt : Pos} {kt k2 pt2} (hc : X.calm = true) (hN : X.N.Nodup) (hi : X.N[i]? = some x) (hj : X.N[j]? = some y) (hij : i ≠ j)
    (hx : X.env.scope.names.lookup x = some .local) (hy : X.env.scope.names.lookup y = some .local) (ha : PA X [a, b] ta)
    (hw : swappedStores [.Tuple [.Name x px, .Name y py] kt pt] (.Tuple [a, b] k2 pt2) X.env = pure (some [x, y]))
    (hs : swapsWithSole [.Tuple [.Name x px, .Name y py] kt pt] (.Tuple [a, b] k2 pt2) pos.line X.env = pure false := by rfl) :
    PS X (.Assign [.Tuple [.Name x px, .Name y py] kt pt] (.Tuple [a, b] k2 pt2) pos) (tPar i j ta) := by
  intro pins s σ H D I h
  rw [exec_Assign_arm]
  refine wpAny_bind (wpAny_standAt ?_)
  rw [hs]
  refine wpAny_bind (wpAny_pure ?_)
  rw [if_neg (by decide)]
  refine wpAny_bind (Tuple_ (thn (ha _ pins s σ H _ I h) fun us s1 ⟨vs, H1, I1, r1, q1⟩ => ?_))
  obtain ⟨v, w, e1, q1⟩ := q1
  subst e1
  obtain ⟨u1, u2, rfl, rv, rw'⟩ : ∃ u1 u2, us = [u1, u2] ∧ RelV v u1 ∧ RelV w u2 := by
    cases r1 with
    | cons p q =>
      cases q with
      | cons p' q' =>
        cases q'
        exact ⟨_, _, rfl, p, p'⟩
  refine wpAny_newObj_type ?_ (by show 2 ≤ sizeLine; decide)
  have I2 : Inv X pins σ H1 { s1 with heap := s1.heap.push { cls := .type "tuple", data := .seq [u1, u2].toArray } } := I1.kept (t' := s1.toks) fun b o e => Heap.get?_push_of_some _ e
  rw [hw]
  refine wpAny_bind (wpAny_pure ?_)
  show wpAny (model X.prog X.w) X.A (do rule "assign.swapped-stores"; let items ← unpackItems (.ref s1.heap.objs.size) 2 none; assignInOrder [fun v => bindName X.env y v, fun v => bindName X.env x v] items.reverse; pure Flow.next) _ _ _
  refine wpAny_bind (wpAny_rule (wpAny_bind (unpackItems_tuple (items := #[u1, u2]) (I.ok.hd hc) (IsTup.new s1.heap _) fun h' hx' => ?_)))
  have I3 := I2.kept (h' := h') (t' := s1.toks) fun b o e => hx' b o (Nat.ne_of_lt (Heap.lt_size e)) e
  show wpAny _ _ (assignInOrder [fun v => bindName X.env y v, fun v => bindName X.env x v] [u2, u1] >>= fun _ => pure Flow.next) _ _ _
  refine wpAny_bind (assignInOrder_cons (wpAny_bindName (store_ok I3 hN hj (.inl hy) rw' (fun s2 I4 => ?_) (.inr hy))))
  refine assignInOrder_cons (wpAny_bindName (store_ok I4 hN hi (.inl hx) rv (fun s3 I5 => assignInOrder_nil (wpAny_pure ?_)) (.inr hx)))
  rw [List.set_comm _ _ (Ne.symm hij)] at I5
  exact ⟨_, H1, I5, q1⟩
/-- name op= e -/
def tAug (i : Nat) (te : TE) (ti : TIp) : TS := fun D σ H => ∃ x, σ[i]? = some (some x) ∧ te σ H fun y H1 => ti x y H1 fun z H2 => D.nx (σ.set i (some z)) H2
theorem ps_aug {i : Nat} {x : Str} {e : Expr} {te : TE} {op : Operator} {ti : TIp} {pos' : Pos} (hN : X.N.Nodup) (hi : X.N[i]? = some x) (hx : Loc X.env.scope x) (he : PE X e te) (ho : PIp X op ti) (hf : X.fn x = true ∨ X.env.scope.names.lookup x = some .local := by first | exact .inl rfl | exact .inr rfl | assumption) :
    PS X (.AugAssign (.Name x pos') op e pos) (tAug i te ti) := by
  intro pins s σ H D I h
  obtain ⟨v, e1, h⟩ := h
  obtain ⟨m, hn, hl⟩ := I.loc
  have vis : Vis X.env.scope x := by rcases hx with k | k; exact .inl k; exact .inr (.inl k)
  obtain ⟨u, r, l⟩ := hl i x v hi e1 vis
  refine wpAny_AugAssign_Name ?_
  have go : wpAny (model X.prog X.w) X.A (eval e X.env) (fun w s₂ => wpAny (model X.prog X.w) X.A (inplaceOp op u w) (fun r s₃ => wpAny (model X.prog X.w) X.A (storeName X.env x r) (fun _ => SP X pins D .next) X.xe s₃) X.xe s₂) X.xe s := by
    refine thn (he pins s σ H _ I h) fun w s1 ⟨y, H1, I1, r1, q1⟩ => ?_
    refine thn (ho pins s1 σ H1 v y u w _ I1 r r1 q1) fun z s2 ⟨zv, H2, I2, r2, q2⟩ => ?_
    exact store_ok I2 hN hi hx r2 (fun s3 I3 => ⟨_, H2, I3, q2⟩) hf
  rcases l with ⟨hk, hm⟩ | ⟨hk, c, hc, hcell⟩
  · exact wpAny_loadName_local I.ok.kind hk hn hm go
  · rcases hk with hk | hk
    · exact wpAny_loadName_cell I.ok.kind hk hc hcell go
    · rcases hx with k | k
      · have : X.env.scope.names.lookup x = some .free := hk
        rw [k] at this; cases this
      · have : X.env.scope.names.lookup x = some .free := hk
        rw [k] at this; cases this
/-- o[i] op= e -/
def tAugS (to ti te : TE) (tget : V → V → Hp → VK → Prop) (tip : TIp) (tset : TSet) : TS := fun D σ H => to σ H fun o H1 => ti σ H1 fun i H2 => tget o i H2 fun x H3 => te σ H3 fun y H4 => tip x y H4 fun z H5 => tset o i z H5 fun H6 => D.nx σ H6
/-- o[i], by values -/
def PGet (X : Cx) (t : V → V → Hp → VK → Prop) : Prop :=
  ∀ (pins : List (Addr × Obj)) (s : Shared) (σ : St) (H : Hp) (o i : V) (ov iv : Value) (Q : VK), Inv X pins σ H s → RelV o ov → RelV i iv → t o i H Q →
    wpAny (model X.prog X.w) X.A (getItem ov iv) (EP X pins σ Q) X.xe s
theorem ps_augS {o i e : Expr} {to ti te : TE} {tget : V → V → Hp → VK → Prop} {tip : TIp} {tset : TSet} {op : Operator} {tpos : Pos} (ho : PE X o to) (hi : PE X i ti) (hg : PGet X tget) (he : PE X e te) (hp : PIp X op tip) (hs : PSet X tset)
    (ha : ∀ ov iv new, augStore i ov iv new = (do holding [new, ov, iv] (setItem ov iv new); release [new, ov, iv] []; pure .next) := by intros; rfl) : PS X (.AugAssign (.Subscript o i tpos) op e pos) (tAugS to ti te tget tip tset) := by
  intro pins s σ H D I h
  refine wpAny_AugAssign_SubscriptAny (thn (ho pins s σ H _ I h) fun ov s1 ⟨x1, H1, I1, r1, q1⟩ => ?_) ha
  refine thn (hi pins s1 σ H1 _ I1 q1) fun iv s2 ⟨x2, H2, I2, r2, q2⟩ => ?_
  refine thn (hg pins s2 σ H2 x1 x2 ov iv _ I2 r1 r2 q2) fun old s3 ⟨x3, H3, I3, r3, q3⟩ => ?_
  refine thn (he pins s3 σ H3 _ I3 q3) fun v s4 ⟨x4, H4, I4, r4, q4⟩ => ?_
  refine thn (hp pins s4 σ H4 x3 x4 old v _ I4 r3 r4 q4) fun new s5 ⟨x5, H5, I5, r5, q5⟩ => ?_
  exact thn (hs pins s5 σ H5 x1 x2 x5 ov iv new _ I5 r1 r2 r5 q5) fun _ s6 ⟨H6, I6, q6⟩ => ⟨σ, H6, I6, q6⟩
/-- ints -/
def ipI (f : Int → Int → Int) : TIp := fun x y H Q => ∃ i j, x = .int i ∧ y = .int j ∧ Q (.int (f i j)) H
theorem ip_add : PIp X .Add (ipI fun i j => i + j) := by
  intro pins s σ H x y v u Q I r1 r2 h
  obtain ⟨i, j, e1, e2, q⟩ := h
  subst e1; subst e2
  obtain ⟨t, rfl⟩ := r1
  obtain ⟨t', rfl⟩ := r2
  exact iadd_int ⟨.int _, H, I.tok _, ⟨_, rfl⟩, q⟩
theorem ip_sub : PIp X .Sub (ipI fun i j => i - j) := by
  intro pins s σ H x y v u Q I r1 r2 h
  obtain ⟨i, j, e1, e2, q⟩ := h
  subst e1; subst e2
  obtain ⟨t, rfl⟩ := r1
  obtain ⟨t', rfl⟩ := r2
  exact isub_int ⟨.int _, H, I.tok _, ⟨_, rfl⟩, q⟩
end

/-! ### while -/
section
variable {X : Cx} {pos : Pos}
/-- the invariant W with its measure -/
def tWhile (c : TT) (tb : TS) : TS := fun D σ H => ∃ W : Nat → St → Hp → Prop, (∃ m, W m σ H) ∧ ∀ m σ H, W m σ H →
  c σ H fun b H1 => if b = true then ∃ N : St → Hp → Prop, (∀ σ' H', N σ' H' → ∃ m', m' < m ∧ W m' σ' H') ∧ tb { D with nx := N, ct := N, bk := D.nx } σ H1 else D.nx σ H1
theorem ps_while {c : Expr} {body : List Stmt} {tc : TT} {tb : TS} (hp : PassesOwn (model X.prog X.w) X.A X.env X.xe) (hc : PT X c tc) (hb : PSs X body tb) : PS X (.While c body [] pos) (tWhile tc tb) := by
  intro pins s σ H D I h
  obtain ⟨W, ⟨m0, w0⟩, turn⟩ := h
  refine wpAny_While (codeAny_whileLoop (fun n s' => ∃ σ' H', Inv X pins σ' H' s' ∧ W n σ' H') ?_ m0 ⟨σ, H, I, w0⟩)
  rintro n s1 ⟨σ1, H1, I1, w1⟩
  refine wpAny_passesOwn hp (thn (hc pins s1 σ1 H1 _ I1 (turn n σ1 H1 w1)) fun b s2 ⟨H2, I2, q2⟩ => ?_)
  cases b with
  | true =>
    obtain ⟨N, hN, q2⟩ := q2
    rw [if_pos rfl]
    refine wpAny_passesOwn hp (thn (hb pins s2 σ1 H2 _ I2 q2) fun f s3 q3 => ?_)
    cases f with
    | next =>
      obtain ⟨σ3, H3, I3, n3⟩ := q3
      obtain ⟨m', hm, w3⟩ := hN σ3 H3 n3
      exact ⟨m', hm, σ3, H3, I3, w3⟩
    | cont =>
      obtain ⟨σ3, H3, I3, n3⟩ := q3
      obtain ⟨m', hm, w3⟩ := hN σ3 H3 n3
      exact ⟨m', hm, σ3, H3, I3, w3⟩
    | brk => exact q3
    | ret v => exact q3
  | false =>
    rw [if_neg Bool.false_ne_true]
    exact wpAny_execs_nil ⟨σ1, H2, I2, q2⟩
end

/-! ### what a loop or a comprehension walks -/
/-- at turn i: it yields x (the heap may grow), or it stops -/
structure It where
  go : Nat → Hp → Prop
  yld : Nat → Hp → V → Hp → Prop
  stop : Nat → Hp → Prop
/-- the iterator's own objects may turn: they are not the frame's, not pinned, younger than the entry (or a comprehension's own) -/
def FpOk (X : Cx) (pins : List (Addr × Obj)) (H : Hp) (b : Addr) : Prop :=
  H b = none ∧ b ≠ X.env.locals ∧ b ∉ X.fs ∧ (b ∈ X.ex ∨ X.s₀.heap.objs.size ≤ b) ∧ (∀ x c, X.env.cells.lookup x = some c → c ≠ b) ∧ ∀ p ∈ X.pn ++ pins, p.1 ≠ b
theorem Inv.fpOk {X : Cx} {pins : List (Addr × Obj)} {σ : St} {H H' : Hp} {s : Shared} {b : Addr} (I : Inv X pins σ H s) (hb : s.heap.objs.size ≤ b) (hn : H' b = none) : FpOk X pins H' b := by
  refine ⟨hn, Nat.ne_of_gt (Nat.lt_of_lt_of_le I.lt hb), I.nofs hb, .inr (Nat.le_trans I.sz hb), fun x c e z => ?_, fun p hp z => ?_⟩
  · obtain ⟨v, q⟩ := I.cell x c e
    exact absurd (Nat.lt_of_lt_of_le q.lt (by rw [z]; exact hb)) (Nat.lt_irrefl _)
  · exact absurd (Nat.lt_of_lt_of_le (Heap.lt_size (I.pin p hp).1) (by rw [z]; exact hb)) (Nat.lt_irrefl _)
structure Turn (P : Program) (w : World) (K : PySem.W.Frag) (tg : Expr) (J : It) (fp : List Addr) (it : Addr) (tn : Nat → Heap → Prop) : Prop where
  mem : it ∈ fp
  obj : ∀ i h, tn i h → ∀ b ∈ fp, ∃ o, h.get? b = some o ∧ ∀ v, o.data ≠ .cell v
  keep : ∀ i h h', tn i h → (∀ b ∈ fp, ∀ o, h.get? b = some o → h'.get? b = some o) → tn i h'
  item : ∀ (X : Cx), X.prog = P → X.w = w → X.K = K → X.calm = true → ∀ (i : Nat) (pins : List (Addr × Obj)) (s : Shared) (σ : St) (H : Hp) (E : Value → Shared → Prop), Inv X pins σ H s → (∀ b ∈ fp, FpOk X pins H b) → tn i s.heap → J.go i H →
    wpAny (model P w) X.A (pyNext (.ref it)) (fun r s1 => ∃ u, r = some u ∧
      wpAny (model P w) X.A (letOwnedTupleGo tg (.ref it) u) (fun _ s2 => ∃ x H', Inv X pins σ H' s2 ∧ RelV x u ∧ J.yld i H x H' ∧ tn (i + 1) s2.heap ∧ ∀ b ∈ fp, H' b = none) E s1) E s
  done : ∀ (X : Cx), X.prog = P → X.w = w → X.K = K → X.calm = true → ∀ (i : Nat) (pins : List (Addr × Obj)) (s : Shared) (σ : St) (H : Hp) (E : Value → Shared → Prop), Inv X pins σ H s → (∀ b ∈ fp, FpOk X pins H b) → tn i s.heap → J.stop i H →
    wpAny (model P w) X.A (pyNext (.ref it)) (fun r s1 => r = none ∧ Inv X pins σ H s1) E s
  self : ∀ (A : Around) (i : Nat) (s : Shared) (Q : Value → Shared → Prop) (E : Value → Shared → Prop), tn i s.heap → Q (.ref it) s → wpAny (model P w) A (pyIter (.ref it)) Q E s
abbrev TI := St → Hp → (It → Hp → Prop) → Prop
/-- an iterator has come -/
def PIE (X : Cx) (pins : List (Addr × Obj)) (σ : St) (tg : Expr) (R : It → Hp → Prop) (itv : Value) (s2 : Shared) : Prop :=
  ∃ (it : Addr) (fp : List Addr) (tn : Nat → Heap → Prop) (J : It) (H' : Hp), itv = .ref it ∧ Inv X pins σ H' s2 ∧ Turn X.prog X.w X.K tg J fp it tn ∧ tn 0 s2.heap ∧ (∀ b ∈ fp, FpOk X pins H' b) ∧ R J H'
def PI (X : Cx) (tg iter : Expr) (wi : TI) : Prop :=
  ∀ (pins : List (Addr × Obj)) (s : Shared) (σ : St) (H : Hp) (R : It → Hp → Prop), Inv X pins σ H s → wi σ H R →
    wpAny (model X.prog X.w) X.A (eval iter X.env) (fun v s1 => wpAny (model X.prog X.w) X.A (pyIter v) (PIE X pins σ tg R) X.xe s1) X.xe s

/-- the step ahead of the store is nothing for an iterator that keeps no tuple -/
theorem go_of {M : Model} {A : Around} {E : Value → Shared → Prop} {s : Shared} {tg : Expr} {it : Addr} {u : Value} {o : Obj} {n : String} {vs : Array Value} {Q : Unit → Shared → Prop} (ho : s.heap.get? it = some o) (hc : o.cls = .type n) (hd : o.data = .fields vs)
    (hn : ["enumerate", "zip", "dict_itemiterator", "dict_reverseitemiterator", "odict_iterator", "itertools.zip_longest", "itertools.pairwise"].contains n = false) (hQ : Q () s) : wpAny M A (letOwnedTupleGo tg (.ref it) u) Q E s := by
  unfold letOwnedTupleGo
  cases tg <;> first
    | exact wpAny_pure hQ
    | (cases u <;> first
        | exact wpAny_pure hQ
        | (refine wpAny_bind (wpAny_load ho ?_)
           rw [hc, hd]
           show wpAny M A (if (["enumerate", "zip", "dict_itemiterator", "dict_reverseitemiterator", "odict_iterator", "itertools.zip_longest", "itertools.pairwise"].contains n && vs[0]? == some (rawInt _)) = true then _ else _) Q E s
           rw [if_neg (by intro h; rw [hn, Bool.false_and] at h; cases h)]
           exact wpAny_pure hQ))

/-- the list at a, as it stands at each turn (a loop may append to it) -/
def Itl (K : PySem.W.Frag) (a : Addr) : It :=
  ⟨fun i H => ∃ xs x, SqL K H a xs ∧ xs[i]? = some x, fun i H x H' => H' = H ∧ ∀ xs, SqL K H a xs → xs[i]? = some x, fun i H => ∃ xs, SqL K H a xs ∧ xs.length ≤ i⟩
def Itt (K : PySem.W.Frag) (a : Addr) : It :=
  ⟨fun i H => ∃ xs x, SqT K H a xs ∧ xs[i]? = some x, fun i H x H' => H' = H ∧ ∀ xs, SqT K H a xs → xs[i]? = some x, fun i H => ∃ xs, SqT K H a xs ∧ xs.length ≤ i⟩
/-- lo, lo + 1, .. (n of them) -/
def Itr (lo : Int) (n : Nat) : It := ⟨fun i _ => i < n, fun i H x H' => H' = H ∧ x = .int (lo + i), fun i _ => n ≤ i⟩
theorem turn_list {P : Program} {w : World} {K : PySem.W.Frag} {tg : Expr} (a it : Addr) : Turn P w K tg (Itl K a) [it] it (fun i h => h.IsListIter it a i) where
  mem := by simp
  obj := fun i h st b hb => by
    have e : b = it := by simpa using hb
    subst e
    obtain ⟨o, e, c, d⟩ := st
    exact ⟨o, e, fun v z => by rw [d] at z; cases z⟩
  keep := fun i h h' st k => st.at fun o e => k it (by simp) o e
  item := by
    intro X hP hw hK hc i pins s σ H E I hf st hg
    subst hP hw hK
    obtain ⟨xs, x, hq, hx⟩ := hg
    obtain ⟨its, rv, p, hz⟩ := I.list hq
    obtain ⟨u, hu, ru⟩ := rv.get hx
    obtain ⟨f0, f1, f2, f3, f4, f5⟩ := hf it (by simp)
    refine wpAny_pyNext_list_item st p.isList (x := u) (by simpa using hu) fun h' st' sb => ?_
    have I1 : Inv X pins σ H { s with heap := h' } := I.turned (t' := s.toks) (fun b o hb e => (sb.2 b hb).trans e) f0 f1 f3 f4 f5
    obtain ⟨o, e, c, d⟩ := id st'
    exact ⟨u, rfl, go_of (s := { s with heap := h' }) e c d (by decide) ⟨x, H, I1, ru, ⟨rfl, fun ys hy => by rw [I.list_inj hy hq]; exact hx⟩, st', fun b hb => (hf b hb).1⟩⟩
  done := by
    intro X hP hw hK hc i pins s σ H E I hf st hg
    subst hP hw hK
    obtain ⟨xs, hq, hx⟩ := hg
    obtain ⟨its, rv, p, hz⟩ := I.list hq
    obtain ⟨f0, f1, f2, f3, f4, f5⟩ := hf it (by simp)
    have hl := rv.length
    exact wpAny_pyNext_list_end (I.ok.hd hc) st p.isList (by simp; omega) fun h' eb => ⟨rfl, I.turned (t' := s.toks) (fun b o hb e => eb b o hb e) f0 f1 f3 f4 f5⟩
  self := fun _ _ _ _ _ st h => wpAny_pyIter_listiter st h
theorem turn_tuple {P : Program} {w : World} {K : PySem.W.Frag} {tg : Expr} (a it : Addr) : Turn P w K tg (Itt K a) [it] it (fun i h => h.IsTupleIter it a i) where
  mem := by simp
  obj := fun i h st b hb => by
    have e : b = it := by simpa using hb
    subst e
    obtain ⟨o, e, c, d⟩ := st
    exact ⟨o, e, fun v z => by rw [d] at z; cases z⟩
  keep := fun i h h' st k => st.at fun o e => k it (by simp) o e
  item := by
    intro X hP hw hK hc i pins s σ H E I hf st hg
    subst hP hw hK
    obtain ⟨xs, x, hq, hx⟩ := hg
    obtain ⟨its, rv, p, hz⟩ := I.tuple hq
    obtain ⟨u, hu, ru⟩ := rv.get hx
    obtain ⟨f0, f1, f2, f3, f4, f5⟩ := hf it (by simp)
    refine wpAny_pyNext_tuple_item st (show s.heap.IsTuple a its.toArray from p) (x := u) (by simpa using hu) fun h' st' sb => ?_
    have I1 : Inv X pins σ H { s with heap := h' } := I.turned (t' := s.toks) (fun b o hb e => (sb.2 b hb).trans e) f0 f1 f3 f4 f5
    obtain ⟨o, e, c, d⟩ := id st'
    exact ⟨u, rfl, go_of (s := { s with heap := h' }) e c d (by decide) ⟨x, H, I1, ru, ⟨rfl, fun ys hy => by rw [I.tuple_inj hy hq]; exact hx⟩, st', fun b hb => (hf b hb).1⟩⟩
  done := by
    intro X hP hw hK hc i pins s σ H E I hf st hg
    subst hP hw hK
    obtain ⟨xs, hq, hx⟩ := hg
    obtain ⟨its, rv, p, hz⟩ := I.tuple hq
    obtain ⟨f0, f1, f2, f3, f4, f5⟩ := hf it (by simp)
    have hl := rv.length
    exact wpAny_pyNext_tuple_end (I.ok.hd hc) st (show s.heap.IsTuple a its.toArray from p) (by simp; omega) fun h' eb => ⟨rfl, I.turned (t' := s.toks) (fun b o hb e => eb b o hb e) f0 f1 f3 f4 f5⟩
  self := fun _ _ _ _ _ st h => wpAny_pyIter_tupleiter st h
theorem turn_range {P : Program} {w : World} {K : PySem.W.Frag} {tg : Expr} (it : Addr) (lo : Int) (n : Nat) : Turn P w K tg (Itr lo n) [it] it (fun i h => IsRangeIter h it (lo + (i : Nat) * 1) ((n : Int) - (i : Nat)) 1) where
  mem := by simp
  obj := fun i h st b hb => by
    have e : b = it := by simpa using hb
    subst e
    exact ⟨_, st, fun v z => by
      have z' : Data.fields _ = Data.cell v := z
      cases z'⟩
  keep := fun i h h' st k => k it (by simp) _ st
  item := by
    intro X hP hw hK hc i pins s σ H E I hf st hg
    subst hP hw hK
    obtain ⟨f0, f1, f2, f3, f4, f5⟩ := hf it (by simp)
    have W := Walks.range (prog := X.prog) (w := X.w) (I.ok.hd hc) it lo 1 n
    refine W.item i s _ _ hg st fun v h' tk hv st' kk => ?_
    obtain ⟨t, rfl⟩ := hv
    have I1 : Inv X pins σ H { s with heap := h', toks := tk } := I.turned (fun b o hb e => kk b o (by simpa using hb) e) f0 f1 f3 f4 f5
    refine ⟨_, rfl, go_of (s := { s with heap := h', toks := tk }) (n := "range_iterator") st' rfl rfl (by decide) ⟨.int (lo + i), H, I1, ⟨t, ?_⟩, ⟨rfl, rfl⟩, st', fun b hb => (hf b hb).1⟩⟩
    rw [Int.mul_one]
  done := by
    intro X hP hw hK hc i pins s σ H E I hf st hg
    subst hP hw hK
    obtain ⟨f0, f1, f2, f3, f4, f5⟩ := hf it (by simp)
    exact wpAny_pyNext_range_end (I.ok.hd hc) st (by have : n ≤ i := hg; omega) fun h' eb => ⟨rfl, I.turned (t' := s.toks) (fun b o hb e => eb b o hb e) f0 f1 f3 f4 f5⟩
  self := fun _ _ _ _ _ st h => wpAny_pyIter_rangeiter st h
end L2

namespace L2
open PySem PySem.Spec PyProof.Rows
section
variable {X : Cx} {tg : Expr}
def iList (K : PySem.W.Frag) (tl : TE) : TI := fun σ H R => tl σ H fun x H1 => ∃ a, x = .ref a ∧ (∃ xs, SqL K H1 a xs) ∧ R (Itl K a) H1
def iTup (K : PySem.W.Frag) (tl : TE) : TI := fun σ H R => tl σ H fun x H1 => ∃ a, x = .ref a ∧ (∃ xs, SqT K H1 a xs) ∧ R (Itt K a) H1
theorem pi_list {l : Expr} {tl : TE} (hl : PE X l tl) : PI X tg l (iList X.K tl) := by
  intro pins s σ H R I h
  refine thn (hl pins s σ H _ I h) fun v s1 ⟨x, H1, I1, r1, q1⟩ => ?_
  obtain ⟨a, e, ⟨xs, hq⟩, q⟩ := q1
  subst e
  cases r1
  obtain ⟨its, rv, p, hz⟩ := I1.list hq
  refine wpAny_pyIter_list p.isList ?_
  refine ⟨s1.heap.objs.size, [s1.heap.objs.size], _, _, H1, rfl, I1.kept (t' := s1.toks) fun b o e => Heap.get?_push_of_some _ e, turn_list a _, ⟨_, Heap.get?_push_size _ rfl, rfl, rfl⟩, fun b hb => ?_, q⟩
  have e : b = s1.heap.objs.size := by simpa using hb
  subst e
  exact I1.fpOk (Nat.le_refl _) (I1.hok.fresh (Nat.le_refl _))
theorem pi_tup {l : Expr} {tl : TE} (hl : PE X l tl) : PI X tg l (iTup X.K tl) := by
  intro pins s σ H R I h
  refine thn (hl pins s σ H _ I h) fun v s1 ⟨x, H1, I1, r1, q1⟩ => ?_
  obtain ⟨a, e, ⟨xs, hq⟩, q⟩ := q1
  subst e
  cases r1
  obtain ⟨its, rv, p, hz⟩ := I1.tuple hq
  refine wpAny_pyIter_tuple (show s1.heap.IsTuple a its.toArray from p) ?_
  refine ⟨s1.heap.objs.size, [s1.heap.objs.size], _, _, H1, rfl, I1.kept (t' := s1.toks) fun b o e => Heap.get?_push_of_some _ e, turn_tuple a _, ⟨_, Heap.get?_push_size _ rfl, rfl, rfl⟩, fun b hb => ?_, q⟩
  have e : b = s1.heap.objs.size := by simpa using hb
  subst e
  exact I1.fpOk (Nat.le_refl _) (I1.hok.fresh (Nat.le_refl _))
/-- a range object just made, walked -/
theorem range_it {pins : List (Addr × Obj)} {σ : St} {H : Hp} {s : Shared} {R : It → Hp → Prop} {E : Value → Shared → Prop} {lo hi : Int} {t u v : Tok} {tk : Nat} (I : Inv X pins σ H s) (h1 : -(2 ^ 62) ≤ lo) (h2 : lo < 2 ^ 62) (h3 : -(2 ^ 62) ≤ hi) (h4 : hi < 2 ^ 62)
    (q : R (Itr lo (hi - lo).toNat) H) : wpAny (model X.prog X.w) X.A (pyIter (.ref s.heap.objs.size)) (PIE X pins σ tg R) E { s with heap := s.heap.push { cls := .type "range", data := .fields #[.int lo t, .int hi u, .int 1 v] }, toks := tk } := by
  refine wpAny_pyIter_range (IsRange.new ..) (small_one h1 h2 h3 h4) ?_
  have I1 : Inv X pins σ H { s with heap := s.heap.push { cls := .type "range", data := .fields #[.int lo t, .int hi u, .int 1 v] }, toks := tk } := I.kept fun b o e => Heap.get?_push_of_some _ e
  refine ⟨(s.heap.push { cls := .type "range", data := .fields #[.int lo t, .int hi u, .int 1 v] }).objs.size, [(s.heap.push { cls := .type "range", data := .fields #[.int lo t, .int hi u, .int 1 v] }).objs.size], _, _, H, rfl,
    I1.kept (t' := tk) fun b o e => Heap.get?_push_of_some _ e, turn_range _ lo (hi - lo).toNat, ?_, fun b hb => ?_, q⟩
  · have e1 : lo + ((0 : Nat) : Int) * 1 = lo := by simp
    have e2 : (((hi - lo).toNat : Nat) : Int) - ((0 : Nat) : Int) = Builtin.Range.rangeSize lo hi 1 := by rw [rangeSize_one]; split <;> omega
    show IsRangeIter _ _ (lo + ((0 : Nat) : Int) * 1) ((((hi - lo).toNat : Nat) : Int) - ((0 : Nat) : Int)) 1
    rw [e1, e2]
    exact Heap.get?_push_size _ rfl
  · have e : b = (s.heap.push { cls := .type "range", data := .fields #[.int lo t, .int hi u, .int 1 v] }).objs.size := by simpa using hb
    subst e
    exact I1.fpOk (Nat.le_refl _) (I1.hok.fresh (Nat.le_refl _))
def iRng1 (ta : TA) : TI := fun σ H R => ta σ H fun vs H1 => ∃ j : Int, vs = [.int j] ∧ -(2 ^ 62) ≤ j ∧ j < 2 ^ 62 ∧ R (Itr 0 j.toNat) H1
def iRng2 (ta : TA) : TI := fun σ H R => ta σ H fun vs H1 => ∃ i j : Int, vs = [.int i, .int j] ∧ (-(2 ^ 62) ≤ i ∧ i < 2 ^ 62 ∧ -(2 ^ 62) ≤ j ∧ j < 2 ^ 62) ∧ R (Itr i (j - i).toNat) H1
theorem pi_range1 {a : Expr} {ta : TA} {p pos : Pos} (hg : Gl X "range") (hm : X.mg "range" = none) (ha : PA X [a] ta) (hs : starEach [a] X.env = [(false, eval a X.env)] := by rfl) : PI X tg (.Call (.Name "range" p) [a] [] pos) (iRng1 ta) := by
  intro pins s σ H R I h
  refine Call_ (ld_blt I hg hm boot_range (PyProof.Rows.callWith_type1 (thn (ha pos pins s σ H _ I h) fun us s1 ⟨vs, H1, I1, r1, q1⟩ => ?_) hs rfl))
  obtain ⟨j, e, q1, q2, q⟩ := q1
  subst e
  cases r1 with
  | cons r rr =>
    cases rr
    obtain ⟨t, rfl⟩ := r
    exact call_range_1 (range_it I1 (by omega) (by omega) q1 q2 (by simpa using q))
theorem pi_range2 {a b : Expr} {ta : TA} {p pos : Pos} (hg : Gl X "range") (hm : X.mg "range" = none) (ha : PA X [a, b] ta) (hs : starEach [a, b] X.env = [(false, eval a X.env), (false, eval b X.env)] := by rfl) (hs2 : starEach [b] X.env = [(false, eval b X.env)] := by rfl) :
    PI X tg (.Call (.Name "range" p) [a, b] [] pos) (iRng2 ta) := by
  intro pins s σ H R I h
  refine Call_ (ld_blt I hg hm boot_range (PyProof.Rows.callWith_type1 (thn (ha pos pins s σ H _ I h) fun us s1 ⟨vs, H1, I1, r1, q1⟩ => ?_) (by rw [hs, hs2]) (by rw [hs2]; rfl)))
  obtain ⟨i, j, e, ⟨q1, q2, q3, q4⟩, q⟩ := q1
  subst e
  cases r1 with
  | cons r rr =>
    cases rr with
    | cons r' rr =>
      cases rr
      obtain ⟨t, rfl⟩ := r
      obtain ⟨t', rfl⟩ := r'
      exact call_range_2 (range_it I1 q1 q2 q3 q4 q)

/-! ### for -/
/-- W: the invariant by the turn and a measure; N: what the body is to reach -/
def tFor (wi : TI) (g : TG) (tb : TS) : TS := fun D σ H => wi σ H fun J H1 => ∃ W : Nat → Nat → St → Hp → Prop, (∃ m, W 0 m σ H1) ∧ ∀ i m σ H, W i m σ H →
  (J.stop i H ∧ D.nx σ H) ∨ (J.go i H ∧ ∃ N : St → Hp → Prop, (∀ σ' H', N σ' H' → ∃ m', m' < m ∧ W (i + 1) m' σ' H') ∧ ∀ x H', J.yld i H x H' → g x σ H' fun σ2 H2 => tb { D with nx := N, ct := N, bk := D.nx } σ2 H2)
/-- the records at fp as they stand -/
def pinsAt (fp : List Addr) (h : Heap) : List (Addr × Obj) := fp.filterMap fun b => (h.get? b).map fun o => (b, o)
theorem mem_pinsAt {fp : List Addr} {h : Heap} {b : Addr} {o : Obj} (hb : b ∈ fp) (e : h.get? b = some o) : (b, o) ∈ pinsAt fp h := List.mem_filterMap.mpr ⟨b, hb, by rw [e]; rfl⟩
theorem of_pinsAt {fp : List Addr} {h : Heap} {p : Addr × Obj} (hp : p ∈ pinsAt fp h) : p.1 ∈ fp ∧ h.get? p.1 = some p.2 := by
  obtain ⟨b, hb, e⟩ := List.mem_filterMap.mp hp
  cases q : h.get? b with
  | none => rw [q] at e; cases e
  | some o =>
    rw [q] at e
    have e' : (b, o) = p := Option.some.inj e
    subst e'
    exact ⟨hb, q⟩
theorem Inv.pinned {pins : List (Addr × Obj)} {σ : St} {H : Hp} {s : Shared} {fp : List Addr} (I : Inv X pins σ H s) (hf : ∀ b ∈ fp, FpOk X pins H b) (ho : ∀ b ∈ fp, ∃ o, s.heap.get? b = some o ∧ ∀ v, o.data ≠ .cell v) : Inv X (pins ++ pinsAt fp s.heap) σ H s :=
  I.pins_of fun p hp => (List.mem_append.mp hp).elim (fun z => I.pin p (List.mem_append_right _ z)) fun z => by
    obtain ⟨hb, e⟩ := of_pinsAt z
    obtain ⟨f0, f1, f2, _⟩ := hf p.1 hb
    obtain ⟨o, e', d⟩ := ho p.1 hb
    rw [e] at e'; cases e'
    exact ⟨e, f0, f1, f2, d⟩
theorem Inv.unpinned {pins pl : List (Addr × Obj)} {σ : St} {H : Hp} {s : Shared} (I : Inv X (pins ++ pl) σ H s) : Inv X pins σ H s := I.pins_of fun p hp => I.pin p (List.mem_append_right _ (List.mem_append_left _ hp))
theorem ps_for {iter : Expr} {body : List Stmt} {wi : TI} {g : TG} {tb : TS} {pos : Pos} (hp : PassesOwn (model X.prog X.w) X.A X.env X.xe) (hc : X.calm = true) (hi : PI X tg iter wi) (hg : PG X tg g) (hb : PSs X body tb)
    (hs : ∀ x, foldedSetIterable iter X.env x = pure x := by intro _; rfl) : PS X (.For tg iter body [] pos) (tFor wi g tb) := by
  intro pins s σ H D I h
  refine wpAny_For (thn (hi pins s σ H _ I h) fun v s1 h1 => thn h1 fun itv s2 h2 => ?_) hs
  obtain ⟨it, fp, tn, J, H2, e, I2, T, st2, f2, W, ⟨m0, w0⟩, turn⟩ := h2
  subst e
  -- what stays true of the iterator's objects through the loop
  have stat : ∀ {H' : Hp}, (∀ b ∈ fp, H' b = none) → ∀ b ∈ fp, FpOk X pins H' b := fun hn b hb => ⟨hn b hb, (f2 b hb).2⟩
  refine codeAny_forLoop_any (fun n s' => ∃ i σ' H', Inv X pins σ' H' s' ∧ tn i s'.heap ∧ (∀ b ∈ fp, H' b = none) ∧ W i n σ' H') ?_ m0 ⟨0, σ, H2, I2, st2, fun b hb => (f2 b hb).1, w0⟩
  rintro n s3 ⟨i, σ3, H3, I3, st3, fr3, w3⟩
  rcases turn i n σ3 H3 w3 with ⟨stop, qn⟩ | ⟨go, N, hN, step⟩
  · refine wpAny_passesOwn hp (thn (T.done X rfl rfl rfl hc i pins s3 σ3 H3 X.xe I3 (stat fr3) st3 stop) fun r s4 ⟨hr, I4⟩ => ?_)
    subst hr
    exact wpAny_execs_nil ⟨σ3, H3, I4, qn⟩
  · refine wpAny_passesOwn hp (thn (T.item X rfl rfl rfl hc i pins s3 σ3 H3 X.xe I3 (stat fr3) st3 go) fun r s4 ⟨u, hr, h4⟩ => ?_)
    subst hr
    refine wpAny_passesOwn hp (thn h4 fun _ s5 ⟨x, H5, I5, r5, y5, st5, fr5⟩ => ?_)
    have I5' := I5.pinned (stat fr5) (T.obj _ _ st5)
    refine wpAny_passesOwn hp (thn (hg _ s5 σ3 H5 x u _ I5' r5 (step x H5 y5)) fun _ s6 ⟨σ6, H6, I6, q6⟩ => ?_)
    refine wpAny_passesOwn hp (thn (hb _ s6 σ6 H6 _ I6 q6) fun f s7 q7 => ?_)
    have again : ∀ {σ7 : St} {H7 : Hp}, Inv X (pins ++ pinsAt fp s5.heap) σ7 H7 s7 → N σ7 H7 → ∃ m, m < n ∧ ∃ i σ' H', Inv X pins σ' H' s7 ∧ tn i s7.heap ∧ (∀ b ∈ fp, H' b = none) ∧ W i m σ' H' := fun {σ7 H7} I7 n7 => by
      obtain ⟨m', hm, w7⟩ := hN σ7 H7 n7
      refine ⟨m', hm, i + 1, σ7, H7, I7.unpinned, T.keep _ _ _ st5 fun b hb o e => (I7.pin (b, o) (List.mem_append_right _ (List.mem_append_right _ (mem_pinsAt hb e)))).1, fun b hb => ?_, w7⟩
      obtain ⟨o, e, d⟩ := T.obj _ _ st5 b hb
      exact (I7.pin (b, o) (List.mem_append_right _ (List.mem_append_right _ (mem_pinsAt hb e)))).2.1
    cases f with
    | next => obtain ⟨σ7, H7, I7, n7⟩ := q7; exact again I7 n7
    | cont => obtain ⟨σ7, H7, I7, n7⟩ := q7; exact again I7 n7
    | brk => obtain ⟨σ7, H7, I7, q7⟩ := q7; exact ⟨σ7, H7, I7.unpinned, q7⟩
    | ret v => obtain ⟨x7, σ7, H7, I7, r7, q7⟩ := q7; exact ⟨x7, σ7, H7, I7.unpinned, r7, q7⟩
end

/-! ### the forms one uses -/
/-- over a list that the body leaves as it is -/
theorem for_list {K : PySem.W.Frag} {a : Addr} {xs : List V} {g : TG} {tb : TS} {D : Ends} {σ : St} {H : Hp} (Pv : Nat → St → Hp → Prop) (h0 : Pv 0 σ H) (hl : ∀ i σ H, i ≤ xs.length → Pv i σ H → SqL K H a xs)
    (hs : ∀ i x σ H, xs[i]? = some x → Pv i σ H → g x σ H fun σ2 H2 => tb { D with nx := Pv (i + 1), ct := Pv (i + 1), bk := D.nx } σ2 H2) (hd : ∀ σ H, Pv xs.length σ H → D.nx σ H) :
    ∃ W : Nat → Nat → St → Hp → Prop, (∃ m, W 0 m σ H) ∧ ∀ i m σ H, W i m σ H →
      ((Itl K a).stop i H ∧ D.nx σ H) ∨ ((Itl K a).go i H ∧ ∃ N : St → Hp → Prop, (∀ σ' H', N σ' H' → ∃ m', m' < m ∧ W (i + 1) m' σ' H') ∧ ∀ x H', (Itl K a).yld i H x H' → g x σ H' fun σ2 H2 => tb { D with nx := N, ct := N, bk := D.nx } σ2 H2) := by
  refine ⟨fun i m σ H => m = xs.length - i ∧ i ≤ xs.length ∧ Pv i σ H, ⟨xs.length, by simp, Nat.zero_le _, h0⟩, ?_⟩
  rintro i m σ H ⟨rfl, hi, p⟩
  have q := hl i σ H hi p
  by_cases hlt : i < xs.length
  · refine .inr ⟨⟨xs, xs[i], q, by simp [hlt]⟩, Pv (i + 1), fun σ' H' p' => ⟨xs.length - (i + 1), by omega, rfl, hlt, p'⟩, fun x H' y => ?_⟩
    obtain ⟨e, y⟩ := y
    subst e
    exact hs i x σ _ (y xs q) p
  · have e : i = xs.length := by omega
    subst e
    exact .inl ⟨⟨xs, q, Nat.le_refl _⟩, hd σ H p⟩
theorem for_tup {K : PySem.W.Frag} {a : Addr} {xs : List V} {g : TG} {tb : TS} {D : Ends} {σ : St} {H : Hp} (Pv : Nat → St → Hp → Prop) (h0 : Pv 0 σ H) (hl : ∀ i σ H, i ≤ xs.length → Pv i σ H → SqT K H a xs)
    (hs : ∀ i x σ H, xs[i]? = some x → Pv i σ H → g x σ H fun σ2 H2 => tb { D with nx := Pv (i + 1), ct := Pv (i + 1), bk := D.nx } σ2 H2) (hd : ∀ σ H, Pv xs.length σ H → D.nx σ H) :
    ∃ W : Nat → Nat → St → Hp → Prop, (∃ m, W 0 m σ H) ∧ ∀ i m σ H, W i m σ H →
      ((Itt K a).stop i H ∧ D.nx σ H) ∨ ((Itt K a).go i H ∧ ∃ N : St → Hp → Prop, (∀ σ' H', N σ' H' → ∃ m', m' < m ∧ W (i + 1) m' σ' H') ∧ ∀ x H', (Itt K a).yld i H x H' → g x σ H' fun σ2 H2 => tb { D with nx := N, ct := N, bk := D.nx } σ2 H2) := by
  refine ⟨fun i m σ H => m = xs.length - i ∧ i ≤ xs.length ∧ Pv i σ H, ⟨xs.length, by simp, Nat.zero_le _, h0⟩, ?_⟩
  rintro i m σ H ⟨rfl, hi, p⟩
  have q := hl i σ H hi p
  by_cases hlt : i < xs.length
  · refine .inr ⟨⟨xs, xs[i], q, by simp [hlt]⟩, Pv (i + 1), fun σ' H' p' => ⟨xs.length - (i + 1), by omega, rfl, hlt, p'⟩, fun x H' y => ?_⟩
    obtain ⟨e, y⟩ := y
    subst e
    exact hs i x σ _ (y xs q) p
  · have e : i = xs.length := by omega
    subst e
    exact .inl ⟨⟨xs, q, Nat.le_refl _⟩, hd σ H p⟩
theorem for_range {lo : Int} {n : Nat} {g : TG} {tb : TS} {D : Ends} {σ : St} {H : Hp} (Pv : Nat → St → Hp → Prop) (h0 : Pv 0 σ H)
    (hs : ∀ i σ H, i < n → Pv i σ H → g (.int (lo + i)) σ H fun σ2 H2 => tb { D with nx := Pv (i + 1), ct := Pv (i + 1), bk := D.nx } σ2 H2) (hd : ∀ σ H, Pv n σ H → D.nx σ H) :
    ∃ W : Nat → Nat → St → Hp → Prop, (∃ m, W 0 m σ H) ∧ ∀ i m σ H, W i m σ H →
      ((Itr lo n).stop i H ∧ D.nx σ H) ∨ ((Itr lo n).go i H ∧ ∃ N : St → Hp → Prop, (∀ σ' H', N σ' H' → ∃ m', m' < m ∧ W (i + 1) m' σ' H') ∧ ∀ x H', (Itr lo n).yld i H x H' → g x σ H' fun σ2 H2 => tb { D with nx := N, ct := N, bk := D.nx } σ2 H2) := by
  refine ⟨fun i m σ H => m = n - i ∧ i ≤ n ∧ Pv i σ H, ⟨n, by simp, Nat.zero_le _, h0⟩, ?_⟩
  rintro i m σ H ⟨rfl, hi, p⟩
  by_cases hlt : i < n
  · refine .inr ⟨hlt, Pv (i + 1), fun σ' H' p' => ⟨n - (i + 1), by omega, rfl, hlt, p'⟩, fun x H' y => ?_⟩
    obtain ⟨e, y⟩ := y
    subst e y
    exact hs i σ _ hlt p
  · have e : i = n := by omega
    subst e
    exact .inl ⟨Nat.le_refl _, hd σ H p⟩
/-- while, by a word and a measure of the state -/
theorem while_by {c : TT} {tb : TS} {D : Ends} {σ : St} {H : Hp} (Pv : St → Hp → Prop) (μ : St → Hp → Nat) (h0 : Pv σ H)
    (hs : ∀ σ H, Pv σ H → c σ H fun b H1 => if b = true then tb { D with nx := fun σ' H' => Pv σ' H' ∧ μ σ' H' < μ σ H, ct := fun σ' H' => Pv σ' H' ∧ μ σ' H' < μ σ H, bk := D.nx } σ H1 else D.nx σ H1)
    (mono : ∀ σ H Q Q', (∀ b H1, Q b H1 → Q' b H1) → c σ H Q → c σ H Q') : tWhile c tb D σ H := by
  refine ⟨fun m σ H => m = μ σ H ∧ Pv σ H, ⟨_, rfl, h0⟩, ?_⟩
  rintro m σ H ⟨rfl, p⟩
  refine mono σ H _ _ (fun b H1 q => ?_) (hs σ H p)
  cases b with
  | true => exact ⟨_, fun σ' H' ⟨p', l⟩ => ⟨_, l, rfl, p'⟩, q⟩
  | false => exact q
end L2

namespace L2
open PySem PySem.Spec PyProof.Rows

abbrev R2 := V → V → Hp → VK → Prop
/-- a two-place operation on values: f is binaryOp op, inplaceOp op or compareOp op -/
def OpR (X : Cx) (f : Value → Value → Sem Value) (r : R2) : Prop :=
  ∀ (pins : List (Addr × Obj)) (s : Shared) (σ : St) (H : Hp) (x y : V) (v u : Value) (Q : VK), Inv X pins σ H s → RelV x v → RelV y u → r x y H Q →
    wpAny (model X.prog X.w) X.A (f v u) (EP X pins σ Q) X.xe s
/-- a one-place operation -/
def UnR (X : Cx) (f : Value → Sem Value) (r : V → Hp → VK → Prop) : Prop :=
  ∀ (pins : List (Addr × Obj)) (s : Shared) (σ : St) (H : Hp) (x : V) (v : Value) (Q : VK), Inv X pins σ H s → RelV x v → r x H Q →
    wpAny (model X.prog X.w) X.A (f v) (EP X pins σ Q) X.xe s
/-- a call of a value that is known (a builtin, a type) with values -/
def CallR (X : Cx) (f : Value) (r : List V → Hp → VK → Prop) : Prop :=
  ∀ (pins : List (Addr × Obj)) (s : Shared) (σ : St) (H : Hp) (xs : List V) (us : List Value) (Q : VK), Inv X pins σ H s → Vals xs us → r xs H Q →
    wpAny (model X.prog X.w) X.A (call f us) (EP X pins σ Q) X.xe s
/-- a value's truth -/
def TruR (X : Cx) (r : V → Hp → (Bool → Hp → Prop) → Prop) : Prop :=
  ∀ (pins : List (Addr × Obj)) (s : Shared) (σ : St) (H : Hp) (x : V) (v : Value) (Q : Bool → Hp → Prop), Inv X pins σ H s → RelV x v → r x H Q →
    wpAny (model X.prog X.w) X.A (truthy v) (TP X pins σ Q) X.xe s

def tOp (r : R2) (ta tb : TE) : TE := fun σ H Q => ta σ H fun x H1 => tb σ H1 fun y H2 => r x y H2 Q
def tUn (r : V → Hp → VK → Prop) (ta : TE) : TE := fun σ H Q => ta σ H fun x H1 => r x H1 Q
/-- ints in, under C, and a value out -/
def rI (C : Int → Int → Prop) (g : Int → Int → V) : R2 := fun x y H Q => ∃ i j, x = .int i ∧ y = .int j ∧ C i j ∧ Q (g i j) H
def rI0 (g : Int → Int → V) : R2 := fun x y H Q => ∃ i j, x = .int i ∧ y = .int j ∧ Q (g i j) H
def rU (g : Int → V) : V → Hp → VK → Prop := fun x H Q => ∃ i, x = .int i ∧ Q (g i) H

section
variable {X : Cx} {a b c : Expr} {ta tb tc : TE} {pos : Pos}

theorem binT (ha : PE X a ta) (hb : PE X b tb) {pins : List (Addr × Obj)} {s : Shared} {σ : St} {H : Hp} {R : V → V → Hp → Prop} (I : Inv X pins σ H s)
    (h : ta σ H fun x H1 => tb σ H1 fun y H2 => R x y H2) {Q : Value → Shared → Prop} {f : Value → Value → Sem Value}
    (hf : ∀ v u s2 x y H2, Inv X pins σ H2 s2 → RelV x v → RelV y u → R x y H2 → wpAny (model X.prog X.w) X.A (f v u) Q X.xe s2) :
    wpAny (model X.prog X.w) X.A (eval a X.env) (fun v s₁ => wpAny (model X.prog X.w) X.A (eval b X.env) (fun u s₂ => wpAny (model X.prog X.w) X.A (f v u) Q X.xe s₂) X.xe s₁) X.xe s := by
  refine thn (ha pins s σ H _ I h) fun v s1 ⟨x, H1, I1, r1, q1⟩ => ?_
  refine thn (hb pins s1 σ H1 _ I1 q1) fun u s2 ⟨y, H2, I2, r2, q2⟩ => ?_
  exact hf v u s2 x y H2 I2 r1 r2 q2

theorem pe_op {op : Operator} {r : R2} (ho : OpR X (binaryOp op) r) (ha : PE X a ta) (hb : PE X b tb) : PE X (.BinOp a op b pos) (tOp r ta tb) := by
  intro pins s σ H Q I h
  exact wpAny_BinOp (binT ha hb I h fun v u s2 x y H2 I2 rx ry q => ho pins s2 σ H2 x y v u Q I2 rx ry q)
theorem pe_un {op : UnaryOp} {r : V → Hp → VK → Prop} (ho : UnR X (unaryOp op) r) (ha : PE X a ta) : PE X (.UnaryOp op a pos) (tUn r ta) := by
  intro pins s σ H Q I h
  exact UnaryOp_ (thn (ha pins s σ H _ I h) fun v s1 ⟨x, H1, I1, r1, q1⟩ => ho pins s1 σ H1 x v Q I1 r1 q1)
/-- a op= e at a name: the name's slot i -/
theorem augR {op : Operator} {r : R2} (ho : OpR X (inplaceOp op) r) {pins : List (Addr × Obj)} {s : Shared} {σ : St} {H : Hp} {x y : V} {v u : Value} {Q : VK} (I : Inv X pins σ H s)
    (rx : RelV x v) (ry : RelV y u) (q : r x y H Q) : wpAny (model X.prog X.w) X.A (inplaceOp op v u) (EP X pins σ Q) X.xe s := ho pins s σ H x y v u Q I rx ry q

/-! ### ints -/
theorem opI {f : Value → Value → Sem Value} {C : Int → Int → Prop} {g : Int → Int → Int}
    (rule : ∀ (i j : Int) (t u : Tok) (s : Shared) (Q : Value → Shared → Prop) (E : Value → Shared → Prop), C i j → Q (.int (g i j) s.toks) { s with toks := s.toks + 1 } → wpAny (model X.prog X.w) X.A (f (.int i t) (.int j u)) Q E s) :
    OpR X f (rI C fun i j => .int (g i j)) := by
  intro pins s σ H x y v u Q I rx ry h
  obtain ⟨i, j, rfl, rfl, hc, q⟩ := h
  obtain ⟨t, rfl⟩ := rx
  obtain ⟨t', rfl⟩ := ry
  exact rule i j t t' s _ _ hc ⟨.int (g i j), H, I.tok _, ⟨_, rfl⟩, q⟩
theorem opI0 {f : Value → Value → Sem Value} {g : Int → Int → Int}
    (rule : ∀ (i j : Int) (t u : Tok) (s : Shared) (Q : Value → Shared → Prop) (E : Value → Shared → Prop), Q (.int (g i j) s.toks) { s with toks := s.toks + 1 } → wpAny (model X.prog X.w) X.A (f (.int i t) (.int j u)) Q E s) :
    OpR X f (rI0 fun i j => .int (g i j)) := by
  intro pins s σ H x y v u Q I rx ry h
  obtain ⟨i, j, rfl, rfl, q⟩ := h
  obtain ⟨t, rfl⟩ := rx
  obtain ⟨t', rfl⟩ := ry
  exact rule i j t t' s _ _ ⟨.int (g i j), H, I.tok _, ⟨_, rfl⟩, q⟩
theorem opB0 {f : Value → Value → Sem Value} {g : Int → Int → Bool}
    (rule : ∀ (i j : Int) (t u : Tok) (s : Shared) (Q : Value → Shared → Prop) (E : Value → Shared → Prop), Q (.bool (g i j)) s → wpAny (model X.prog X.w) X.A (f (.int i t) (.int j u)) Q E s) :
    OpR X f (rI0 fun i j => .bl (g i j)) := by
  intro pins s σ H x y v u Q I rx ry h
  obtain ⟨i, j, rfl, rfl, q⟩ := h
  obtain ⟨t, rfl⟩ := rx
  obtain ⟨t', rfl⟩ := ry
  exact rule i j t t' s _ _ ⟨.bl (g i j), H, I, rfl, q⟩

def CDiv (i j : Int) : Prop := 0 < j ∧ j < 1073741824
def CDivN (i j : Int) : Prop := j ≠ 0 ∧ j.natAbs < 1073741824
def CPow (i j : Int) : Prop := 0 ≤ j ∧ j ≤ 1000000 ∧ i.natAbs < 2 ^ 64
def CMul (i j : Int) : Prop := (-(2 ^ 64) < i ∧ i < 2 ^ 64) ∨ (-(2 ^ 64) < j ∧ j < 2 ^ 64)
theorem CMul.ok {i j : Int} (h : CMul i j) : IntMulOk i j := by
  rcases h with ⟨h1, h2⟩ | ⟨h1, h2⟩
  · exact .of_left (intBits_le_64 h1 h2)
  · exact .of_right (intBits_le_64 h1 h2)
theorem two_pow_nn (k : Nat) : (0 : Int) ≤ 2 ^ k := by
  rw [two_pow_cast]
  exact Int.natCast_nonneg _

theorem op_add : OpR X (binaryOp .Add) (rI0 fun i j => .int (i + j)) := opI0 fun _ _ _ _ _ _ _ q => add_int q
theorem op_sub : OpR X (binaryOp .Sub) (rI0 fun i j => .int (i - j)) := opI0 fun _ _ _ _ _ _ _ q => sub_int q
theorem op_mul : OpR X (binaryOp .Mult) (rI CMul fun i j => .int (i * j)) := opI fun _ _ _ _ _ _ _ hc q => mul_int q hc.ok
/-- // by a positive divisor -/
theorem op_fdiv : OpR X (binaryOp .FloorDiv) (rI CDiv fun i j => .int (i / j)) := opI fun i j _ _ _ _ _ hc q => by
  have h1 : (0 : Int) < j := hc.1
  have h2 : j < 1073741824 := hc.2
  exact floordiv_int (by omega) (by rw [Int.fdiv_eq_ediv_of_nonneg i (by omega)]; exact q) (.inl (PyProof.noPylong_small (by omega)))
theorem op_fdivN : OpR X (binaryOp .FloorDiv) (rI CDivN fun i j => .int (i.fdiv j)) := opI fun _ _ _ _ _ _ _ hc q => floordiv_int hc.1 q (.inl (PyProof.noPylong_small hc.2))
/-- % by a positive divisor of any size -/
theorem op_mod : OpR X (binaryOp .Mod) (rI (fun _ j => 0 < j) fun i j => .int (i % j)) := opI fun i j _ _ _ _ _ hc q => by
  have h1 : (0 : Int) < j := hc
  exact mod_int' (by omega) (by rw [Int.fmod_eq_emod_of_nonneg i (by omega)]; exact q)
theorem op_modN : OpR X (binaryOp .Mod) (rI (fun _ j => j ≠ 0) fun i j => .int (i.fmod j)) := opI fun _ _ _ _ _ _ _ hc q => mod_int' hc q
theorem op_pow : OpR X (binaryOp .Pow) (rI CPow fun i j => .int (i ^ j.toNat)) := opI fun _ _ _ _ _ _ _ hc q => pow_int_small hc.1 hc.2.1 hc.2.2 q
theorem op_shl : OpR X (binaryOp .LShift) (rI CPow fun i j => .int (i * 2 ^ j.toNat)) := opI fun _ _ _ _ _ _ _ hc q => lshift_int_small hc.1 hc.2.1 hc.2.2 q
theorem op_shr : OpR X (binaryOp .RShift) (rI (fun _ j => 0 ≤ j) fun i j => .int (i / 2 ^ j.toNat)) := opI fun i j _ _ _ _ _ hc q =>
  rshift_int hc (by rw [Int.fdiv_eq_ediv_of_nonneg i (two_pow_nn _)]; exact q)
theorem op_and : OpR X (binaryOp .BitAnd) (rI0 fun i j => .int (Builtin.bitAnd i j)) := opI0 fun _ _ _ _ _ _ _ q => and_int q
theorem op_or : OpR X (binaryOp .BitOr) (rI0 fun i j => .int (Builtin.bitOr i j)) := opI0 fun _ _ _ _ _ _ _ q => or_int q
theorem op_xor : OpR X (binaryOp .BitXor) (rI0 fun i j => .int (Builtin.bitXor i j)) := opI0 fun _ _ _ _ _ _ _ q => xor_int q

theorem iop_add : OpR X (inplaceOp .Add) (rI0 fun i j => .int (i + j)) := opI0 fun _ _ _ _ _ _ _ q => iadd_int q
theorem iop_sub : OpR X (inplaceOp .Sub) (rI0 fun i j => .int (i - j)) := opI0 fun _ _ _ _ _ _ _ q => isub_int q
theorem iop_mul : OpR X (inplaceOp .Mult) (rI CMul fun i j => .int (i * j)) := opI fun _ _ _ _ _ _ _ hc q => imul_int q hc.ok
theorem iop_fdiv : OpR X (inplaceOp .FloorDiv) (rI CDiv fun i j => .int (i / j)) := opI fun i j _ _ _ _ _ hc q => by
  have h1 : (0 : Int) < j := hc.1
  have h2 : j < 1073741824 := hc.2
  exact ifloordiv_int (by omega) (by rw [Int.fdiv_eq_ediv_of_nonneg i (by omega)]; exact q) (.inl (PyProof.noPylong_small (by omega)))
theorem iop_mod : OpR X (inplaceOp .Mod) (rI (fun _ j => 0 < j) fun i j => .int (i % j)) := opI fun i j _ _ _ _ _ hc q => by
  have h1 : (0 : Int) < j := hc
  exact imod_int (by omega) (by rw [Int.fmod_eq_emod_of_nonneg i (by omega)]; exact q)
theorem iop_shl : OpR X (inplaceOp .LShift) (rI CPow fun i j => .int (i * 2 ^ j.toNat)) := opI fun _ _ _ _ _ _ _ hc q => ilshift_int_small hc.1 hc.2.1 hc.2.2 q
theorem iop_shr : OpR X (inplaceOp .RShift) (rI (fun _ j => 0 ≤ j) fun i j => .int (i / 2 ^ j.toNat)) := opI fun i j _ _ _ _ _ hc q =>
  irshift_int hc (by rw [Int.fdiv_eq_ediv_of_nonneg i (two_pow_nn _)]; exact q)
theorem iop_and : OpR X (inplaceOp .BitAnd) (rI0 fun i j => .int (Builtin.bitAnd i j)) := opI0 fun _ _ _ _ _ _ _ q => iand_int q
theorem iop_or : OpR X (inplaceOp .BitOr) (rI0 fun i j => .int (Builtin.bitOr i j)) := opI0 fun _ _ _ _ _ _ _ q => ior_int q
theorem iop_xor : OpR X (inplaceOp .BitXor) (rI0 fun i j => .int (Builtin.bitXor i j)) := opI0 fun _ _ _ _ _ _ _ q => ixor_int q

theorem unI {f : Value → Sem Value} {g : Int → Int}
    (rule : ∀ (i : Int) (t : Tok) (s : Shared) (Q : Value → Shared → Prop) (E : Value → Shared → Prop), Q (.int (g i) s.toks) { s with toks := s.toks + 1 } → wpAny (model X.prog X.w) X.A (f (.int i t)) Q E s) :
    UnR X f (rU fun i => .int (g i)) := by
  intro pins s σ H x v Q I rx h
  obtain ⟨i, rfl, q⟩ := h
  obtain ⟨t, rfl⟩ := rx
  exact rule i t s _ _ ⟨.int (g i), H, I.tok _, ⟨_, rfl⟩, q⟩
theorem un_neg : UnR X (unaryOp .USub) (rU fun i => .int (-i)) := unI fun _ _ _ _ _ q => neg_int q
theorem un_inv : UnR X (unaryOp .Invert) (rU fun i => .int (Builtin.bitNot i)) := unI fun _ _ _ _ _ q => invert_int q

/-! ### bools among ints: n += (a < b) -/
theorem op_add_ib : OpR X (binaryOp .Add) (fun x y H Q => ∃ i k, x = .int i ∧ y = .bl k ∧ Q (.int (i + b2i k)) H) := by
  intro pins s σ H x y v u Q I rx ry h
  obtain ⟨i, k, rfl, rfl, q⟩ := h
  obtain ⟨t, rfl⟩ := rx
  cases ry
  exact add_int_bool ⟨.int (i + b2i k), H, I.tok _, ⟨_, rfl⟩, q⟩
end

/-! ### comparisons -/
/-- the scalars that == tells apart as data does -/
def scal : V → V → Bool
  | .non, .non => true | .non, .int _ => true | .int _, .non => true | .non, .bl _ => true | .bl _, .non => true | .non, .str _ => true | .str _, .non => true
  | .int _, .int _ => true | .bl _, .bl _ => true | .str _, .str _ => true | .byt _, .byt _ => true
  | .int _, .str _ => true | .str _, .int _ => true | .bl _, .str _ => true | .str _, .bl _ => true
  | _, _ => false
def rEq : R2 := fun x y H Q => scal x y = true ∧ Q (.bl (decide (x = y))) H
def rNe : R2 := fun x y H Q => scal x y = true ∧ Q (.bl (!decide (x = y))) H

theorem dec_int {i j : Int} : decide (V.int i = V.int j) = (i == j) := by
  rw [Bool.eq_iff_iff]
  simp
theorem dec_bl {i j : Bool} : decide (V.bl i = V.bl j) = (i == j) := by
  rw [Bool.eq_iff_iff]
  simp
theorem dec_str {i j : Str} : decide (V.str i = V.str j) = (i == j) := by
  rw [Bool.eq_iff_iff]
  simp
theorem dec_byt {i j : Array UInt8} : decide (V.byt i = V.byt j) = (i.toList == j.toList) := by
  rw [Bool.eq_iff_iff]
  cases i
  cases j
  simp

section
variable {X : Cx} {a b c : Expr} {ta tb tc : TE} {pos : Pos}
theorem fin_bl {pins : List (Addr × Obj)} {σ : St} {H : Hp} {s : Shared} {Q : VK} {k k' : Bool} (I : Inv X pins σ H s) (q : Q (.bl k) H) (e : k = k') : EP X pins σ Q (.bool k') s := by
  subst e
  exact ⟨.bl k, H, I, rfl, q⟩
theorem op_eq : OpR X (compareOp .Eq) rEq := by
  intro pins s σ H x y v u Q I rx ry h
  obtain ⟨hs, q⟩ := h
  cases x with
  | non =>
    cases rx
    cases y with
    | non => cases ry; exact PySem.EqNone.eq_none_none (fin_bl I q (by simp))
    | bl j => cases ry; exact PySem.EqNone.eq_none_bool (fin_bl I q (by simp))
    | int j => obtain ⟨t', rfl⟩ := ry; exact PySem.EqNone.eq_none_int (fin_bl I q (by simp))
    | str j => obtain ⟨t', rfl⟩ := ry; exact PySem.EqNone.eq_none_str (fin_bl I q (by simp))
    | _ => exact absurd (show false = true from hs) Bool.false_ne_true
  | bl i =>
    cases rx
    cases y with
    | non => cases ry; exact PySem.EqNone.eq_bool_none (fin_bl I q (by simp))
    | bl j => cases ry; exact eq_bool (fin_bl I q dec_bl)
    | str j => obtain ⟨t', rfl⟩ := ry; exact PySem.EqMixed.eq_bool_str (fin_bl I q (by simp))
    | _ => exact absurd (show false = true from hs) Bool.false_ne_true
  | int i =>
    obtain ⟨t, rfl⟩ := rx
    cases y with
    | non => cases ry; exact PySem.EqNone.eq_int_none (fin_bl I q (by simp))
    | int j => obtain ⟨t', rfl⟩ := ry; exact eq_int (fin_bl I q dec_int)
    | str j => obtain ⟨t', rfl⟩ := ry; exact PySem.EqMixed.eq_int_str (fin_bl I q (by simp))
    | _ => exact absurd (show false = true from hs) Bool.false_ne_true
  | str i =>
    obtain ⟨t, rfl⟩ := rx
    cases y with
    | non => cases ry; exact PySem.EqNone.eq_str_none (fin_bl I q (by simp))
    | bl j => cases ry; exact PySem.EqMixed.eq_str_bool (fin_bl I q (by simp))
    | int j => obtain ⟨t', rfl⟩ := ry; exact PySem.EqMixed.eq_str_int (fin_bl I q (by simp))
    | str j => obtain ⟨t', rfl⟩ := ry; exact eq_str (fin_bl I q dec_str)
    | _ => exact absurd (show false = true from hs) Bool.false_ne_true
  | byt i =>
    obtain ⟨t, rfl⟩ := rx
    cases y with
    | byt j => obtain ⟨t', rfl⟩ := ry; exact PySem.W.eq_bytes (fin_bl I q dec_byt)
    | _ => exact absurd (show false = true from hs) Bool.false_ne_true
  | _ => cases y <;> exact absurd (show false = true from hs) Bool.false_ne_true
theorem op_ne : OpR X (compareOp .NotEq) rNe := by
  intro pins s σ H x y v u Q I rx ry h
  obtain ⟨hs, q⟩ := h
  cases x with
  | non =>
    cases rx
    cases y with
    | non => cases ry; exact PySem.EqNone.ne_none_none (fin_bl I q (by simp))
    | bl j => cases ry; exact PySem.EqNone.ne_none_bool (fin_bl I q (by simp))
    | int j => obtain ⟨t', rfl⟩ := ry; exact PySem.EqNone.ne_none_int (fin_bl I q (by simp))
    | str j => obtain ⟨t', rfl⟩ := ry; exact PySem.EqNone.ne_none_str (fin_bl I q (by simp))
    | _ => exact absurd (show false = true from hs) Bool.false_ne_true
  | bl i =>
    cases rx
    cases y with
    | non => cases ry; exact PySem.EqNone.ne_bool_none (fin_bl I q (by simp))
    | bl j => cases ry; exact ne_bool (fin_bl I q (congrArg not dec_bl))
    | str j => obtain ⟨t', rfl⟩ := ry; exact PySem.EqMixed.ne_bool_str (fin_bl I q (by simp))
    | _ => exact absurd (show false = true from hs) Bool.false_ne_true
  | int i =>
    obtain ⟨t, rfl⟩ := rx
    cases y with
    | non => cases ry; exact PySem.EqNone.ne_int_none (fin_bl I q (by simp))
    | int j => obtain ⟨t', rfl⟩ := ry; exact ne_int (fin_bl I q (congrArg not dec_int))
    | str j => obtain ⟨t', rfl⟩ := ry; exact PySem.EqMixed.ne_int_str (fin_bl I q (by simp))
    | _ => exact absurd (show false = true from hs) Bool.false_ne_true
  | str i =>
    obtain ⟨t, rfl⟩ := rx
    cases y with
    | non => cases ry; exact PySem.EqNone.ne_str_none (fin_bl I q (by simp))
    | bl j => cases ry; exact PySem.EqMixed.ne_str_bool (fin_bl I q (by simp))
    | int j => obtain ⟨t', rfl⟩ := ry; exact PySem.EqMixed.ne_str_int (fin_bl I q (by simp))
    | str j => obtain ⟨t', rfl⟩ := ry; exact ne_str (fin_bl I q (congrArg not dec_str))
    | _ => exact absurd (show false = true from hs) Bool.false_ne_true
  | byt i =>
    obtain ⟨t, rfl⟩ := rx
    cases y with
    | byt j => obtain ⟨t', rfl⟩ := ry; exact PySem.W.ne_bytes (fin_bl I q (congrArg not dec_byt))
    | _ => exact absurd (show false = true from hs) Bool.false_ne_true
  | _ => cases y <;> exact absurd (show false = true from hs) Bool.false_ne_true

theorem op_lt : OpR X (compareOp .Lt) (rI0 fun i j => .bl (decide (i < j))) := opB0 fun _ _ _ _ _ _ _ q => lt_int q
theorem op_le : OpR X (compareOp .LtE) (rI0 fun i j => .bl (decide (i ≤ j))) := opB0 fun _ _ _ _ _ _ _ q => le_int q
theorem op_gt : OpR X (compareOp .Gt) (rI0 fun i j => .bl (decide (j < i))) := opB0 fun _ _ _ _ _ _ _ q => gt_int q
theorem op_ge : OpR X (compareOp .GtE) (rI0 fun i j => .bl (decide (j ≤ i))) := opB0 fun _ _ _ _ _ _ _ q => ge_int q
theorem op_lt_str : OpR X (compareOp .Lt) (fun x y H Q => ∃ i j, x = .str i ∧ y = .str j ∧ Q (.bl (decide (i.cps.toList < j.cps.toList))) H) := by
  intro pins s σ H x y v u Q I rx ry h
  obtain ⟨i, j, rfl, rfl, q⟩ := h
  obtain ⟨t, rfl⟩ := rx
  obtain ⟨t', rfl⟩ := ry
  exact lt_str (fin_bl I q rfl)
/-- the one string within the other -/
theorem op_in_str : OpR X (compareOp .In) (fun x y H Q => ∃ i j, x = .str i ∧ y = .str j ∧ Q (.bl (!(Builtin.Str.occurrences j i 0 j.length 1).isEmpty)) H) := by
  intro pins s σ H x y v u Q I rx ry h
  obtain ⟨i, j, rfl, rfl, q⟩ := h
  obtain ⟨t, rfl⟩ := rx
  obtain ⟨t', rfl⟩ := ry
  exact in_str (fin_bl I q rfl)

/-- is None, is not None: the right side a value none -/
theorem op_isN : OpR X (compareOp .Is) (fun x y H Q => y = .non ∧ Q (.bl (decide (x = .non))) H) := by
  intro pins s σ H x y v u Q I rx ry h
  obtain ⟨rfl, q⟩ := h
  cases ry
  refine is_none_gen (fin_bl I q ?_)
  cases x <;> first
    | (cases rx; rfl)
    | (obtain ⟨t, rfl⟩ := rx; rfl)
theorem op_notN : OpR X (compareOp .IsNot) (fun x y H Q => y = .non ∧ Q (.bl (!decide (x = .non))) H) := by
  intro pins s σ H x y v u Q I rx ry h
  obtain ⟨rfl, q⟩ := h
  cases ry
  refine isnot_none_gen (fin_bl I q ?_)
  cases x <;> first
    | (cases rx; rfl)
    | (obtain ⟨t, rfl⟩ := rx; rfl)

theorem op_notin_str : OpR X (compareOp .NotIn) (fun x y H Q => ∃ i j, x = .str i ∧ y = .str j ∧ Q (.bl (!(!(Builtin.Str.occurrences j i 0 j.length 1).isEmpty))) H) := by
  intro pins s σ H x y v u Q I rx ry h
  obtain ⟨i, j, rfl, rfl, q⟩ := h
  obtain ⟨t, rfl⟩ := rx
  obtain ⟨t', rfl⟩ := ry
  exact notIn_str (fin_bl I q rfl)
/-- is, is not of two objects that are tracked lists or instances -/
def isObj : HO → Bool
  | .lst _ => true
  | .ins _ _ _ => true
  | _ => false
theorem obj_there {pins : List (Addr × Obj)} {s : Shared} {σ : St} {H : Hp} {a : Addr} {o : HO} (I : Inv X pins σ H s) (h : H a = some o) (p : isObj o = true) : ∃ ob, s.heap.get? a = some ob ∧ ob.cls ≠ .type "tuple" := by
  cases o with
  | lst xs =>
    obtain ⟨_, its, n, _, e⟩ : xs.length ≤ sizeLine ∧ ∃ (its : List Value) (n : Nat), Vals xs its ∧ s.heap.get? a = some { cls := .type "list", data := .seq its.toArray n } := I.hok a _ h
    exact ⟨_, e, (by show Value.type "list" ≠ .type "tuple"; decide +kernel)⟩
  | ins C dx fs =>
    have x := I.hok a _ h
    obtain ⟨_, _, _, e, _⟩ := x
    exact ⟨_, e, (by show Value.ref C ≠ .type "tuple"; exact fun z => by cases z)⟩
  | _ => exact absurd (show false = true from p) Bool.false_ne_true
theorem op_is_ref : OpR X (compareOp .Is) (fun x y H Q => ∃ a b oa ob, x = .ref a ∧ y = .ref b ∧ H a = some oa ∧ isObj oa = true ∧ H b = some ob ∧ isObj ob = true ∧ Q (.bl (decide (a = b))) H) := by
  intro pins s σ H x y v u Q I rx ry h
  obtain ⟨a, b, oa, ob, rfl, rfl, ha, pa, hb, pb, q⟩ := h
  cases rx
  cases ry
  obtain ⟨o1, e1, n1⟩ := obj_there I ha pa
  obtain ⟨o2, e2, _⟩ := obj_there I hb pb
  by_cases z : a = b
  · subst z
    exact wpAny_is_ref_self (fin_bl I q (by simp))
  · exact wpAny_is_ref_other z e1 e2 n1 (fin_bl I q (by simp [z]))
theorem op_isnot_ref : OpR X (compareOp .IsNot) (fun x y H Q => ∃ a b oa ob, x = .ref a ∧ y = .ref b ∧ H a = some oa ∧ isObj oa = true ∧ H b = some ob ∧ isObj ob = true ∧ Q (.bl (!decide (a = b))) H) := by
  intro pins s σ H x y v u Q I rx ry h
  obtain ⟨a, b, oa, ob, rfl, rfl, ha, pa, hb, pb, q⟩ := h
  cases rx
  cases ry
  obtain ⟨o1, e1, n1⟩ := obj_there I ha pa
  obtain ⟨o2, e2, _⟩ := obj_there I hb pb
  by_cases z : a = b
  · subst z
    exact wpAny_isNot_ref_self (fin_bl I q (by simp))
  · exact wpAny_isNot_ref_other z e1 e2 n1 (fin_bl I q (by simp [z]))

/-- two rules for one operation: by cases -/
theorem OpR.or {f : Value → Value → Sem Value} {r r' : R2} (h : OpR X f r) (h' : OpR X f r') : OpR X f (fun x y H Q => r x y H Q ∨ r' x y H Q) := by
  intro pins s σ H x y v u Q I rx ry q
  rcases q with q | q
  · exact h pins s σ H x y v u Q I rx ry q
  · exact h' pins s σ H x y v u Q I rx ry q

theorem nomark (b : Expr) {op : CmpOp} (h : op ≠ .In := by decide) (h2 : op ≠ .NotIn := by decide) : behindInMarks op b = false := by
  have e1 : (op == CmpOp.In) = false := by cases op <;> first | rfl | exact absurd rfl h
  have e2 : (op == CmpOp.NotIn) = false := by cases op <;> first | rfl | exact absurd rfl h2
  cases b <;> simp [behindInMarks, e1, e2]
/-- a comparison as a value; hm: nomark b, or (for in, not in) by with_unfolding_all rfl -/
theorem pe_cmpR {op : CmpOp} {r : R2} (ho : OpR X (compareOp op) r) (ha : PE X a ta) (hb : PE X b tb) (hm : behindInMarks op b = false) : PE X (.Compare a [op] [b] pos) (tOp r ta tb) := by
  intro pins s σ H Q I h
  exact wpAny_Compare1 (binT ha hb I h fun v u s2 x y H2 I2 rx ry q => ho pins s2 σ H2 x y v u Q I2 rx ry q) hm
/-- a reading of a value as a test -/
def tTest (t : TE) : TT := fun σ H Q => t σ H fun x H' => ∃ k, x = .bl k ∧ Q k H'
theorem pt_cmpR {op : CmpOp} {r : R2} (ho : OpR X (compareOp op) r) (ha : PE X a ta) (hb : PE X b tb) (hm : behindInMarks op b = false) : PT X (.Compare a [op] [b] pos) (tTest (tOp r ta tb)) := by
  intro pins s σ H Q I h
  refine wpAny_isTrue_Compare1 (thn (ha pins s σ H _ I h) fun v s1 ⟨x, H1, I1, r1, q1⟩ => thn (hb pins s1 σ H1 _ I1 q1) fun u s2 ⟨y, H2, I2, r2, q2⟩ =>
    thn (ho pins s2 σ H2 x y v u _ I2 r1 r2 q2) fun c s3 ⟨z, H3, I3, r3, k, e, q3⟩ => ?_) hm
  subst e
  cases r3
  exact wpAny_truthy_bool ⟨H3, I3, q3⟩
/-- a op1 b op2 c -/
def tChain (r r' : R2) (ta tb tc : TE) : TE := fun σ H Q => ta σ H fun x H1 => tb σ H1 fun y H2 => r x y H2 fun z H3 => ∃ k, z = .bl k ∧
  (if k = true then tc σ H3 fun w' H4 => r' y w' H4 Q else Q (.bl false) H3)
theorem pe_chain {op op' : CmpOp} {r r' : R2} (ho : OpR X (compareOp op) r) (ho' : OpR X (compareOp op') r') (ha : PE X a ta) (hb : PE X b tb) (hc : PE X c tc)
    (hm : lastMarks [op, op'] [b, c] = false := by with_unfolding_all rfl) : PE X (.Compare a [op, op'] [b, c] pos) (tChain r r' ta tb tc) := by
  intro pins s σ H Q I h
  refine Compare_chain (thn (ha pins s σ H _ I h) fun v s1 ⟨x, H1, I1, r1, q1⟩ => chain_link (thn (hb pins s1 σ H1 _ I1 q1) fun u s2 ⟨y, H2, I2, r2, q2⟩ =>
    thn (ho pins s2 σ H2 x y v u _ I2 r1 r2 q2) fun d s3 ⟨z, H3, I3, r3, k, e, q3⟩ => ?_)) hm
  subst e
  cases r3
  refine wpAny_truthy_bool ?_
  cases k with
  | false => exact ite_ff ⟨.bl false, H3, I3, rfl, q3⟩
  | true => exact ite_tt (chain_last (thn (hc pins s3 σ H3 _ I3 q3) fun w' s4 ⟨z', H4, I4, r4, q4⟩ => ho' pins s4 σ H4 y z' u w' Q I4 r2 r4 q4))
theorem pt_chain {op op' : CmpOp} {r r' : R2} (ho : OpR X (compareOp op) r) (ho' : OpR X (compareOp op') r') (ha : PE X a ta) (hb : PE X b tb) (hc : PE X c tc)
    (hm : lastMarks [op, op'] [b, c] = false := by with_unfolding_all rfl) : PT X (.Compare a [op, op'] [b, c] pos) (tTest (tChain r r' ta tb tc)) := by
  intro pins s σ H Q I h
  refine isTrue_chain (thn (ha pins s σ H _ I h) fun v s1 ⟨x, H1, I1, r1, q1⟩ => test_link (thn (hb pins s1 σ H1 _ I1 q1) fun u s2 ⟨y, H2, I2, r2, q2⟩ =>
    thn (ho pins s2 σ H2 x y v u _ I2 r1 r2 q2) fun d s3 ⟨z, H3, I3, r3, k, e, q3⟩ => ?_)) hm
  subst e
  cases r3
  refine wpAny_truthy_bool ?_
  cases k with
  | false =>
    obtain ⟨k', e', q'⟩ := q3
    cases e'
    exact ite_ff ⟨H3, I3, q'⟩
  | true =>
    refine ite_tt (test_last (thn (hc pins s3 σ H3 _ I3 q3) fun w' s4 ⟨z', H4, I4, r4, q4⟩ => thn (ho' pins s4 σ H4 y z' u w' _ I4 r2 r4 q4) fun d' s5 ⟨z2, H5, I5, r5, k2, e2, q5⟩ => ?_))
    subst e2
    cases r5
    exact wpAny_truthy_bool ⟨H5, I5, q5⟩

/-! ### truth -/
/-- a value's truth by the abstract heap -/
def TruV (K : PySem.W.Frag) (x : V) (H : Hp) (k : Bool) : Prop :=
  match x with
  | .non => k = false
  | .bl b => k = b
  | .int i => k = (i != 0)
  | .str y => y.length ≤ sizeLine ∧ k = ((y.length : Int) != 0)
  | .byt y => y.size ≤ sizeLine ∧ k = ((y.size : Int) != 0)
  | .ref p => (∃ xs, SqL K H p xs ∧ k = !xs.isEmpty) ∨ (∃ xs, SqT K H p xs ∧ k = !xs.isEmpty) ∨ ∃ kvs, H p = some (.dK kvs) ∧ k = !kvs.isEmpty
  | _ => False
theorem isEmpty_kv {κ : Type} {kvs : List (κ × V)} {vs : List (κ × Value)} (r : KV kvs vs) : (!vs.isEmpty) = !kvs.isEmpty := by
  cases r <;> rfl
theorem isEmpty_of {xs : List V} {its : List Value} (r : Vals xs its) : (!its.toArray.isEmpty) = !xs.isEmpty := by
  cases r <;> simp
theorem line63 : (sizeLine : Nat) < 2 ^ 63 := by rw [sizeLine_eq]; decide
theorem tru_ok : TruR X (fun x H Q => ∃ k, TruV X.K x H k ∧ Q k H) := by
  intro pins s σ H x v Q I rx h
  obtain ⟨k, e, q⟩ := h
  have hl := line63
  have hs : sizeLine = 16777216 := sizeLine_eq
  cases x with
  | non =>
    cases rx
    have e' : k = false := e
    subst e'
    exact truthy_none ⟨H, I, q⟩
  | bl b =>
    cases rx
    have e' : k = b := e
    subst e'
    exact wpAny_truthy_bool ⟨H, I, q⟩
  | int i =>
    obtain ⟨t, rfl⟩ := rx
    have e' : k = (i != 0) := e
    subst e'
    exact PySem.P.truthy_int ⟨H, I, q⟩
  | str y =>
    obtain ⟨t, rfl⟩ := rx
    obtain ⟨hy, e'⟩ : y.length ≤ sizeLine ∧ k = ((y.length : Int) != 0) := e
    subst e'
    exact PySem.P.truthy_str (by omega) ⟨H, I.tok _, q⟩
  | byt y =>
    obtain ⟨t, rfl⟩ := rx
    obtain ⟨hy, e'⟩ : y.size ≤ sizeLine ∧ k = ((y.size : Int) != 0) := e
    subst e'
    exact PySem.W.truthy_bytes (by omega) ⟨H, I.tok _, q⟩
  | ref p =>
    cases rx
    have e' : (∃ xs, SqL X.K H p xs ∧ k = !xs.isEmpty) ∨ (∃ xs, SqT X.K H p xs ∧ k = !xs.isEmpty) ∨ ∃ kvs, H p = some (.dK kvs) ∧ k = !kvs.isEmpty := e
    rcases e' with ⟨xs, hx, e'⟩ | ⟨xs, hx, e'⟩ | ⟨kvs, hx, e'⟩
    · subst e'
      obtain ⟨its, r, pl, hz⟩ := I.list hx
      have hlen := r.length
      exact wpAny_truthy_list pl.isList (by simp only [List.size_toArray]; omega) ⟨H, I.tok _, by rw [isEmpty_of r]; exact q⟩
    · subst e'
      obtain ⟨its, r, pl, hz⟩ := I.tuple hx
      have hlen := r.length
      exact truthy_tuple pl (by simp only [List.size_toArray]; omega) ⟨H, I.tok _, by rw [isEmpty_of r]; exact q⟩
    · subst e'
      obtain ⟨hz, hS, vs, r, m⟩ : kvs.length ≤ sizeLine ∧ (p == sysModules) = false ∧ ∃ vs, KV kvs vs ∧ s.heap.DictOf (mixKind X.prog X.w) p vs := I.hok p _ hx
      have hlen : kvs.length = vs.length := Paired.length r
      exact wpAny_truthy_dict hS m (by omega) ⟨H, I.tok _, by rw [isEmpty_kv r]; exact q⟩
  | _ => exact (show False from e).elim
/-- any expression whose test is its value's truth (a name, a call, a subscript, a field ..: he by fun _ => rfl) -/
theorem pt_truth (ha : PE X a ta) (he : ∀ whole, isTrue a X.env whole = (do let v ← whole; standAt a.pos; holding [v] (truthy v))) :
    PT X a (fun σ H Q => ta σ H fun x H' => ∃ k, TruV X.K x H' k ∧ Q k H') := by
  intro pins s σ H Q I h
  exact isTrue_plain (thn (ha pins s σ H _ I h) fun v s1 ⟨x, H1, I1, r1, q1⟩ => tru_ok pins s1 σ H1 x v Q I1 r1 q1) (he _)

/-! ### strs and bytes -/
theorem pe_byt {x : List UInt8} {k : Nat} : PE X (.Constant (.bytes x) k pos) (fun _ H Q => Q (.byt x.toArray) H) := fun _ _ _ H _ I h => PySem.W.Constant_bytes ⟨.byt x.toArray, H, I.tok _, ⟨_, rfl⟩, h⟩
theorem op_add_str : OpR X (binaryOp .Add) (fun x y H Q => ∃ i j, x = .str i ∧ y = .str j ∧ i.length + j.length ≤ sizeLine ∧ Q (.str (i ++ j)) H) := by
  intro pins s σ H x y v u Q I rx ry h
  obtain ⟨i, j, rfl, rfl, hz, q⟩ := h
  obtain ⟨t, rfl⟩ := rx
  obtain ⟨t', rfl⟩ := ry
  exact add_str (fun t' tk => ⟨.str (i ++ j), H, I.tok _, ⟨_, rfl⟩, q⟩) hz
theorem iop_add_str : OpR X (inplaceOp .Add) (fun x y H Q => ∃ i j, x = .str i ∧ y = .str j ∧ i.length + j.length ≤ sizeLine ∧ Q (.str (i ++ j)) H) := by
  intro pins s σ H x y v u Q I rx ry h
  obtain ⟨i, j, rfl, rfl, hz, q⟩ := h
  obtain ⟨t, rfl⟩ := rx
  obtain ⟨t', rfl⟩ := ry
  exact iadd_str (fun t' tk => ⟨.str (i ++ j), H, I.tok _, ⟨_, rfl⟩, q⟩) hz
theorem op_add_byt : OpR X (binaryOp .Add) (fun x y H Q => ∃ i j, x = .byt i ∧ y = .byt j ∧ i.size + j.size ≤ 16777216 ∧ Q (.byt (i ++ j)) H) := by
  intro pins s σ H x y v u Q I rx ry h
  obtain ⟨i, j, rfl, rfl, hz, q⟩ := h
  obtain ⟨t, rfl⟩ := rx
  obtain ⟨t', rfl⟩ := ry
  exact PySem.W.KBy.add_bytes hz (fun t' tk => ⟨.byt (i ++ j), H, I.tok _, ⟨_, rfl⟩, q⟩)

def PlainIxT (b : Expr) : Prop := ∀ o i, subscripted b false o i = operate [o, i] (getItem o i)
/-- s[i], 0 ≤ i < len -/
theorem pe_item_str (ha : PE X a ta) (hb : PE X b tb) (hs : PlainIxT b) :
    PE X (.Subscript a b pos) (tOp (fun x y H Q => ∃ z i c, x = .str z ∧ y = .int i ∧ 0 ≤ i ∧ i < 2 ^ 63 ∧ i < z.length ∧ z.cps[i.toNat]? = some c ∧ Q (.str ⟨#[c]⟩) H) ta tb) := by
  intro pins s σ H Q I h
  refine Subscript_ (binT ha hb I h fun v u s2 x y H2 I2 rx ry q => ?_)
  obtain ⟨z, i, c, rfl, rfl, h0, h63, h1, hc, q⟩ := q
  obtain ⟨t, rfl⟩ := rx
  obtain ⟨t', rfl⟩ := ry
  have e : seqIndex? i z.length = some i.toNat := PySem.StrLaws.seqIndex_nonneg h0 h1
  exact tail_any (typeIs_str s2 z t) slot_str_getitem.lookup (getItem_str (c := c) (by
    have e1 : decide (i < -(2 ^ 63 : Int)) = false := decide_eq_false (by omega)
    have e2 : decide (i ≥ 2 ^ 63) = false := decide_eq_false (by omega)
    rw [e1, e2] <;> rfl) (by rw [e]; exact hc) ⟨.str ⟨#[c]⟩, H2, I2.tok _, ⟨_, rfl⟩, q⟩) (hs _ _)
/-- b[i], 0 ≤ i < len -/
theorem pe_item_byt (ha : PE X a ta) (hb : PE X b tb) (hs : PlainIxT b) :
    PE X (.Subscript a b pos) (tOp (fun x y H Q => ∃ (z : List UInt8) (i : Int), x = .byt z.toArray ∧ y = .int i ∧ z.length ≤ sizeLine ∧ 0 ≤ i ∧ i < z.length ∧ Q (.int ((z.getD i.toNat 0).toNat : Nat)) H) ta tb) := by
  intro pins s σ H Q I h
  refine Subscript_ (binT ha hb I h fun v u s2 x y H2 I2 rx ry q => ?_)
  obtain ⟨z, i, rfl, rfl, hz, h0, h1, q⟩ := q
  obtain ⟨t, rfl⟩ := rx
  obtain ⟨t', rfl⟩ := ry
  have hl : sizeLine = 16777216 := sizeLine_eq
  exact tail_any (PySem.W.typeIs_bytes s2 z.toArray t) PySem.W.FB.slot_bytes_getitem.lookup (PySem.W.getItem_bytes (by omega) h0 h1 ⟨.int ((z.getD i.toNat 0).toNat : Nat), H2, I2.tok _, ⟨_, rfl⟩, q⟩) (hs _ _)

/-! ### scalar builtins, by CallR -/
theorem vals1 {x : V} {us : List Value} (r : Vals [x] us) : ∃ u, us = [u] ∧ RelV x u := by
  cases r with
  | cons r1 r2 => cases r2; exact ⟨_, rfl, r1⟩
theorem vals2 {x y : V} {us : List Value} (r : Vals [x, y] us) : ∃ u w', us = [u, w'] ∧ RelV x u ∧ RelV y w' := by
  cases r with
  | cons r1 r2 =>
    cases r2 with
    | cons r3 r4 => cases r4; exact ⟨_, _, rfl, r1, r3⟩
theorem call_abs : CallR X (.builtin "abs") (fun xs H Q => ∃ i, xs = [.int i] ∧ Q (.int (if i < 0 then -i else i)) H) := by
  intro pins s σ H xs us Q I r h
  obtain ⟨i, rfl, q⟩ := h
  obtain ⟨u, rfl, t, rfl⟩ := vals1 r
  exact call_abs_int fun u tk => ⟨.int (if i < 0 then -i else i), H, I.tok _, ⟨_, rfl⟩, q⟩
theorem call_max2 (hc : X.calm = true) : CallR X (.builtin "max") (fun xs H Q => ∃ i j, xs = [.int i, .int j] ∧ Q (.int (if j > i then j else i)) H) := by
  intro pins s σ H xs us Q I r h
  obtain ⟨i, j, rfl, q⟩ := h
  obtain ⟨u, w', rfl, ⟨t, rfl⟩, ⟨t', rfl⟩⟩ := vals2 r
  refine max_two_ints (I.ok.hd hc) fun h' tk k => ⟨_, H, I.kept k, ?_, q⟩
  by_cases hj : j > i
  · rw [if_pos hj, if_pos hj]; exact ⟨_, rfl⟩
  · rw [if_neg hj, if_neg hj]; exact ⟨_, rfl⟩
theorem call_min2 (hc : X.calm = true) : CallR X (.builtin "min") (fun xs H Q => ∃ i j, xs = [.int i, .int j] ∧ Q (.int (if j < i then j else i)) H) := by
  intro pins s σ H xs us Q I r h
  obtain ⟨i, j, rfl, q⟩ := h
  obtain ⟨u, w', rfl, ⟨t, rfl⟩, ⟨t', rfl⟩⟩ := vals2 r
  refine min_two_ints (I.ok.hd hc) fun h' tk k => ⟨_, H, I.kept k, ?_, q⟩
  by_cases hj : j < i
  · rw [if_pos hj, if_pos hj]; exact ⟨_, rfl⟩
  · rw [if_neg hj, if_neg hj]; exact ⟨_, rfl⟩
theorem call_int1 : CallR X (.type "int") (fun xs H Q => (∃ i, xs = [.int i] ∧ Q (.int i) H) ∨ ∃ k, xs = [.bl k] ∧ Q (.int (if k then 1 else 0)) H) := by
  intro pins s σ H xs us Q I r h
  rcases h with ⟨i, rfl, q⟩ | ⟨k, rfl, q⟩
  · obtain ⟨u, rfl, t, rfl⟩ := vals1 r
    exact call_int_int ⟨.int i, H, I, ⟨_, rfl⟩, q⟩
  · obtain ⟨u, rfl, r1⟩ := vals1 r
    cases r1
    exact call_int_bool ⟨.int (if k then 1 else 0), H, I.tok _, ⟨_, rfl⟩, q⟩
theorem call_bool1 : CallR X (.type "bool") (fun xs H Q => (∃ i, xs = [.int i] ∧ Q (.bl (i != 0)) H) ∨ ∃ k, xs = [.bl k] ∧ Q (.bl k) H) := by
  intro pins s σ H xs us Q I r h
  rcases h with ⟨i, rfl, q⟩ | ⟨k, rfl, q⟩
  · obtain ⟨u, rfl, t, rfl⟩ := vals1 r
    exact call_bool_int ⟨.bl (i != 0), H, I, rfl, q⟩
  · obtain ⟨u, rfl, r1⟩ := vals1 r
    cases r1
    exact call_bool_bool ⟨.bl k, H, I, rfl, q⟩
theorem call_str_int : CallR X (.type "str") (fun xs H Q => ∃ i, xs = [.int i] ∧ i.natAbs.log2 < 1920 ∧ Q (.str (toString i)) H) := by
  intro pins s σ H xs us Q I r h
  obtain ⟨i, rfl, hz, q⟩ := h
  obtain ⟨u, rfl, t, rfl⟩ := vals1 r
  exact PySem.P.str_of_int hz ⟨.str _, H, I.tok _, ⟨_, rfl⟩, q⟩
theorem call_ord : CallR X (.builtin "ord") (fun xs H Q => ∃ x, xs = [.str x] ∧ x.length = 1 ∧ Q (.int (x.cps.getD 0 0 : Nat)) H) := by
  intro pins s σ H xs us Q I r h
  obtain ⟨x, rfl, hz, q⟩ := h
  obtain ⟨u, rfl, t, rfl⟩ := vals1 r
  exact ord_of_one hz ⟨.int _, H, I.tok _, ⟨_, rfl⟩, q⟩
theorem call_chr : CallR X (.builtin "chr") (fun xs H Q => ∃ i, xs = [.int i] ∧ 0 ≤ i ∧ i ≤ 1114111 ∧ Q (.str ⟨#[i.toNat]⟩) H) := by
  intro pins s σ H xs us Q I r h
  obtain ⟨i, rfl, h0, h1, q⟩ := h
  obtain ⟨u, rfl, t, rfl⟩ := vals1 r
  exact chr_of_range h0 h1 ⟨.str _, H, I.tok _, ⟨_, rfl⟩, q⟩
/-- len of a str, a bytes, a list, a tuple -/
def LenV (K : PySem.W.Frag) (x : V) (H : Hp) (n : Nat) : Prop :=
  match x with
  | .str y => y.length ≤ sizeLine ∧ n = y.length
  | .byt y => y.size ≤ sizeLine ∧ n = y.size
  | .ref p => (∃ xs, SqL K H p xs ∧ n = xs.length) ∨ ∃ xs, SqT K H p xs ∧ n = xs.length
  | _ => False
theorem call_len : CallR X (.builtin "len") (fun xs H Q => ∃ x n, xs = [x] ∧ LenV X.K x H n ∧ Q (.int n) H) := by
  intro pins s σ H xs us Q I r h
  obtain ⟨x, n, rfl, e, q⟩ := h
  obtain ⟨u, rfl, rx⟩ := vals1 r
  have hl := line63
  have hs : sizeLine = 16777216 := sizeLine_eq
  cases x with
  | str y =>
    obtain ⟨t, rfl⟩ := rx
    obtain ⟨hy, e'⟩ : y.length ≤ sizeLine ∧ n = y.length := e
    subst e'
    exact len_str (by omega) ⟨.int _, H, I.tok _, ⟨_, rfl⟩, q⟩
  | byt y =>
    obtain ⟨t, rfl⟩ := rx
    obtain ⟨hy, e'⟩ : y.size ≤ sizeLine ∧ n = y.size := e
    subst e'
    exact PySem.W.len_bytes (by omega) ⟨.int _, H, I.tok _, ⟨_, rfl⟩, q⟩
  | ref p =>
    cases rx
    have e' : (∃ xs, SqL X.K H p xs ∧ n = xs.length) ∨ ∃ xs, SqT X.K H p xs ∧ n = xs.length := e
    rcases e' with ⟨xs, hx, e'⟩ | ⟨xs, hx, e'⟩
    · subst e'
      obtain ⟨its, r', pl, hz⟩ := I.list hx
      have hlen := r'.length
      exact Calls.call_len_list pl.isList (by simp only [List.size_toArray]; omega) ⟨.int xs.length, H, I.tok _, ⟨_, by simp only [List.size_toArray]; rw [hlen]⟩, q⟩
    · subst e'
      obtain ⟨its, r', pl, hz⟩ := I.tuple hx
      have hlen := r'.length
      exact len_tuple pl (by simp only [List.size_toArray]; omega) ⟨.int xs.length, H, I.tok _, ⟨_, by simp only [List.size_toArray]; rw [hlen]⟩, q⟩
  | _ => exact (show False from e).elim
/-- divmod: a new tuple -/
theorem call_divmod : CallR X (.builtin "divmod") (fun xs H Q => ∃ i j, xs = [.int i, .int j] ∧ CDiv i j ∧ ∀ p, H p = none → Q (.ref p) (upd H p (.tup [.int (i / j), .int (i % j)]))) := by
  intro pins s σ H xs us Q I r h
  obtain ⟨i, j, rfl, ⟨h1, h2⟩, q⟩ := h
  obtain ⟨u, w', rfl, ⟨t, rfl⟩, ⟨t', rfl⟩⟩ := vals2 r
  refine divmod_int (by omega) ?_ (.inl (PyProof.noPylong_small (by omega)))
  rw [Int.fdiv_eq_ediv_of_nonneg i (by omega), Int.fmod_eq_emod_of_nonneg i (by omega)]
  have hn : H s.heap.objs.size = none := I.hok.fresh (Nat.le_refl _)
  refine ⟨.ref s.heap.objs.size, _, ?_, rfl, q _ hn⟩
  refine I.laid (fun b o e => Heap.get?_push_of_some _ e) (Nat.le_refl _) ⟨by simp only [List.length_cons, List.length_nil]; rw [sizeLine_eq]; decide, [.int (i / j) s.toks, .int (i % j) (s.toks + 1)], .cons ⟨_, rfl⟩ (.cons ⟨_, rfl⟩ .nil), ?_⟩
  exact ⟨_, Heap.get?_push_size s.heap rfl, rfl, 0, rfl⟩
end
end L2

namespace L2
open PySem PySem.Spec PyProof.Rows

/-! ### an instance, its attributes a map -/
structure ObjM (h : Heap) (x dx C : Addr) (mA : Str → Option Value) : Prop where
  obj : h.get? x = some (PySem.W.instObj C dx)
  ns : h.Ns1 dx mA
  ne : dx ≠ x

theorem lookIn_ns {h : Heap} {dx : Addr} {mA : Str → Option Value} (n : h.Ns1 dx mA) : ∃ od, h.get? dx = some od ∧ ∀ name, PySem.W.lookIn name od = some (mA name) := by
  obtain ⟨o, es, ep, ho, hd, hk, _, hm⟩ := n
  refine ⟨o, ho, fun name => ?_⟩
  have e := hm name
  unfold nsFind findBy at e
  rw [← Array.find?_toList] at e
  unfold PySem.W.lookIn
  rw [hd]
  dsimp only
  split
  · rename_i y q
    rw [q] at e
    exact congrArg some e
  · rename_i q
    rw [q] at e
    have a : es.toList.any (·.refKey) = false := by
      rw [List.any_eq_false]
      intro y hy
      obtain ⟨z, t, hkey⟩ := hk y (Array.mem_toList_iff.mp hy)
      simp [DictEntry.refKey, hkey]
    have a' : ¬ es.toList.any (·.refKey) = true := by rw [a]; exact Bool.false_ne_true
    rw [if_neg a']
    exact congrArg some e

theorem ObjM.look {h : Heap} {x dx C : Addr} {mA : Str → Option Value} (I : ObjM h x dx C mA) : ∃ od, PySem.W.InstAt h x (PySem.W.instObj C dx) C (some od) ∧ ∀ name, PySem.W.lookIn name od = some (mA name) :=
  let ⟨od, ho, hl⟩ := lookIn_ns I.ns
  ⟨od, ⟨I.obj, rfl, rfl, ho⟩, hl⟩

section
variable {prog : Program} {w : World} {A : Around} {E : Value → Shared → Prop} {s : Shared} {K : PySem.W.Frag} {x dx C f : Addr} {mA : Str → Option Value} {name : Str} {v : Value}

theorem get_map {expr : Bool} {Q : Value → Shared → Prop} (X : K.In s.heap) (I : ObjM s.heap x dx C mA) (hg : PySem.W.plainGet K C name = true) (hh : PySem.W.hasDictIn K C = true)
    (ha : PySem.W.findIn K (.ref C) name = some none) (hv : mA name = some v) (hv' : PySem.W.handedIn v = true) (h : Q v { s with toks := s.toks + 1 }) :
    wpAny (model prog w) A (getAttr (.ref x) name expr) Q E s := by
  obtain ⟨od, J, hl⟩ := I.look
  exact PySem.W.get_value X J (PySem.W.plainGet_of hg).1 (PySem.W.findObj_own hh ha rfl (by rw [hl, hv])) hv' h

theorem get_const {expr : Bool} {a : Value} {Q : Value → Shared → Prop} (X : K.In s.heap) (I : ObjM s.heap x dx C mA) (hg : PySem.W.plainGet K C name = true) (hh : PySem.W.hasDictIn K C = true)
    (ha : PySem.W.findIn K (.ref C) name = some (some a)) (hn : PySem.W.specialIn K a "__get__" = some none) (hc : PySem.W.copiedNames.contains name = false) (hv : mA name = none) (hv' : PySem.W.handedIn a = true)
    (h : Q a { s with toks := s.toks + 1 }) : wpAny (model prog w) A (getAttr (.ref x) name expr) Q E s := by
  obtain ⟨od, J, hl⟩ := I.look
  exact PySem.W.get_value X J (PySem.W.plainGet_of hg).1 (PySem.W.findObj_cls hh ha hn hv' hc (by rw [hl, hv])) hv' h

theorem get_meth {pl : Sem Bool} {Q : Value × List Value → Shared → Prop} (X : K.In s.heap) (I : ObjM s.heap x dx C mA) (hg : PySem.W.plainGet K C name = true)
    (hf : PySem.W.findIn K (.ref C) name = some (some (.ref f))) (ht : PySem.W.isFn K (.ref f) = true) (hv : mA name = none) (h : Q (.ref f, [.ref x]) s) :
    wpAny (model prog w) A (getMethod (.ref x) name pl) Q E s := by
  obtain ⟨od, J, hl⟩ := I.look
  exact PySem.W.method_fn X J (PySem.W.plainGet_of hg).1 (PySem.W.plainGet_of hg).2 hf (beq_iff_eq.mp ht) (by show (PySem.W.lookIn name od).map (·.isSome) = some false; rw [hl, hv]; rfl) h

theorem set_map {ns : List Str} {Q : Unit → Shared → Prop} (X : K.In s.heap) (I : ObjM s.heap x dx C mA)
    (hs : PySem.W.findIn K (.ref C) "__setattr__" = some (some (.builtin "object.__setattr__"))) (hp : PySem.W.plainOver K C = true) (ht : PySem.W.takerIn K C name = some none) (hh : PySem.W.hasDictIn K C = true)
    (hw : PySem.Within mA ns) (hsz : ns.length ≤ sizeLine)
    (h : ∀ h', ObjM h' x dx C (fun y => if y = name then some v else mA y) → Heap.SameBut dx s.heap h' → Q () { s with heap := h', toks := s.toks + 2 }) :
    wpAny (model prog w) A (setAttr (.ref x) name v) Q E s := by
  obtain ⟨od, J, hl⟩ := I.look
  refine PySem.W.set_plain X J hs (PySem.W.osa_open (s := { s with toks := s.toks + 1 }) (r := none) X J hp ht fun b => ?_)
  obtain ⟨cd, hc, hd'⟩ := PySem.W.any_some hh
  have hx : s.heap.get? x = some ⟨.ref C, some dx, .plain, #[]⟩ := I.obj
  refine wpAny_bind (wpAny_pure (wpAny_bind (wpAny_bind (wpAny_loadPart hx (wpAny_bind (PySem.W.Looks.here (s := { s with toks := s.toks + 1 }) (PySem.W.looks_clsIn X hc) ?_))))))
  rw [hd']
  refine wpAny_pure (a := some dx) (wpAny_bind (wpAny_pure (wpAny_bind ?_)))
  refine wpAny_nsSet1 (s := { s with toks := s.toks + 1 }) I.ns fun h' hn2 hs2 => ?_
  obtain ⟨oD, esD, epD, hoD, hdD, hcD⟩ := hn2.count (PySem.Within.cons name v hw)
  refine wpAny_bind (wpAny_lookBehind hoD (by rw [hdD]; exact pastItsLine_dict (Nat.le_trans hcD (by rw [List.length_cons]; omega))) ?_)
  exact wpAny_pure (h _ ⟨(hs2.2 _ (Ne.symm I.ne)).trans I.obj, hn2, I.ne⟩ hs2)

/-- C(..): the dict at the heap's end, the instance behind it; then its __init__ -/
theorem make_map {R : Result → Shared → Prop} {vs : List Value} {kw : List (Str × Value)} (X : K.In s.heap) (hm : PySem.W.makesIn K C = true)
    (hi : PySem.W.findIn K (.ref C) "__init__" = some (some (.ref f))) (hf : PySem.W.typeIn K (.ref f) = some (.type "function"))
    (h : codeAny (model prog w) (A.under (.builtin "type.__call__" ⟨.ref C :: vs, kw⟩)) (.call (.ref f) ⟨.ref (s.heap.objs.size + 1) :: vs, kw⟩) (PySem.W.InitBack (s.heap.objs.size + 1) R)
      { s with heap := (s.heap.push PySem.W.emptyDict).push (PySem.W.instObj C s.heap.objs.size) }) :
    codeAny (model prog w) A (.call (.ref C) ⟨vs, kw⟩) R s := by
  obtain ⟨hh, g, d, t, os⟩ := s
  exact PySem.W.make_core (PySem.W.makes_of X hm) (PySem.W.looks_findIn X hi) (fun self => PySem.W.bind_fn X self hf) (.inl rfl) h
/-- C() where there is no __init__ but object's -/
theorem make_map0 {R : Result → Shared → Prop} (X : K.In s.heap) (hm : PySem.W.makesIn K C = true)
    (hi : PySem.W.findIn K (.ref C) "__init__" = some (some (.builtin "object.__init__")))
    (hb : ∀ self, PySem.W.Looks (model prog w) s.heap (bindSpecial (.builtin "object.__init__") self) (.builtin "object.__init__", [self]))
    (h : codeAny (model prog w) (A.under (.builtin "type.__call__" ⟨[.ref C], []⟩)) (.call (.builtin "object.__init__") ⟨[.ref (s.heap.objs.size + 1)], []⟩) (PySem.W.InitBack (s.heap.objs.size + 1) R)
      { s with heap := (s.heap.push PySem.W.emptyDict).push (PySem.W.instObj C s.heap.objs.size) }) :
    codeAny (model prog w) A (.call (.ref C) ⟨[], []⟩) R s := by
  obtain ⟨hh, g, d, t, os⟩ := s
  exact PySem.W.make_core (PySem.W.makes_of X hm) (PySem.W.looks_findIn X hi) hb (.inr ⟨rfl, rfl⟩) h
end

/-! ### the attributes as a list of pairs -/
def putF (f : Str) (v : V) : List (Str × V) → List (Str × V)
  | [] => [(f, v)]
  | (g, x) :: r => if g = f then (g, v) :: r else (g, x) :: putF f v r
theorem lookup_putF (f g : Str) (v : V) : ∀ fs : List (Str × V), (putF f v fs).lookup g = if g = f then some v else fs.lookup g
  | [] => by
    show List.lookup g [(f, v)] = _
    by_cases h : g = f
    · have hb : (g == f) = true := beq_iff_eq.mpr h
      simp only [List.lookup, hb, if_pos h]
    · have hb : (g == f) = false := beq_eq_false_iff_ne.mpr h
      simp only [List.lookup, hb, if_neg h]
  | (k, x) :: r => by
    have ih := lookup_putF f g v r
    rw [show putF f v ((k, x) :: r) = (if k = f then (k, v) :: r else (k, x) :: putF f v r) from rfl]
    by_cases hk : k = f
    · rw [if_pos hk]
      by_cases h : g = k
      · have hb : (g == k) = true := beq_iff_eq.mpr h
        simp only [List.lookup, hb, if_pos (h.trans hk)]
      · have hb : (g == k) = false := beq_eq_false_iff_ne.mpr h
        simp only [List.lookup, hb, if_neg (fun e : g = f => h (e.trans hk.symm))]
    · rw [if_neg hk]
      by_cases h : g = k
      · have hb : (g == k) = true := beq_iff_eq.mpr h
        simp only [List.lookup, hb, if_neg (fun e : g = f => hk (h.symm.trans e))]
      · have hb : (g == k) = false := beq_eq_false_iff_ne.mpr h
        simp only [List.lookup, hb]
        exact ih
theorem keys_putF (f : Str) (v : V) : ∀ fs : List (Str × V), f ∈ (putF f v fs).map (·.1) ∧ ∀ g, g ∈ fs.map (·.1) → g ∈ (putF f v fs).map (·.1)
  | [] => ⟨by simp [putF], fun g h => by simp at h⟩
  | (k, x) :: r => by
    obtain ⟨i1, i2⟩ := keys_putF f v r
    rw [show putF f v ((k, x) :: r) = (if k = f then (k, v) :: r else (k, x) :: putF f v r) from rfl]
    by_cases hk : k = f
    · rw [if_pos hk]
      subst hk
      exact ⟨by simp, fun g h => by simpa using h⟩
    · rw [if_neg hk]
      refine ⟨?_, fun g h => ?_⟩
      · rw [List.map_cons]
        exact List.mem_cons_of_mem _ i1
      · rw [List.map_cons] at h ⊢
        rcases List.mem_cons.mp h with e | e
        · exact List.mem_cons.mpr (.inl e)
        · exact List.mem_cons_of_mem _ (i2 g e)
theorem length_putF (f : Str) (v : V) : ∀ fs : List (Str × V), (putF f v fs).length ≤ fs.length + 1
  | [] => by simp [putF]
  | (k, x) :: r => by
    have ih := length_putF f v r
    rw [show putF f v ((k, x) :: r) = (if k = f then (k, v) :: r else (k, x) :: putF f v r) from rfl]
    by_cases hk : k = f
    · rw [if_pos hk, List.length_cons, List.length_cons]; omega
    · rw [if_neg hk, List.length_cons, List.length_cons]; omega

theorem RelO.some_of {v : V} {o : Option Value} (r : RelO (some v) o) : ∃ u, o = some u ∧ RelV v u := by
  cases o with
  | none => exact (show False from r).elim
  | some u => exact ⟨u, rfl, r⟩
theorem RelO.none_of {o : Option Value} (r : RelO none o) : o = none := by
  cases o with
  | none => rfl
  | some u => exact (show False from r).elim
theorem handed_of {v : V} {u : Value} (r : RelV v u) : PySem.W.handedIn u = true := by
  cases v with
  | non => cases (show u = Value.none from r); rfl
  | bl b => cases (show u = Value.bool b from r); rfl
  | int i => obtain ⟨t, e⟩ := (show ∃ t, u = Value.int i t from r); cases e; rfl
  | str x => obtain ⟨t, e⟩ := (show ∃ t, u = Value.str x t from r); cases e; rfl
  | byt b => obtain ⟨t, e⟩ := (show ∃ t, u = Value.bytes b t from r); cases e; rfl
  | flt b => obtain ⟨t, e⟩ := (show ∃ t, u = Value.float b t from r); cases e; rfl
  | ref a => cases (show u = Value.ref a from r); rfl
  | ty n => cases (show u = Value.type n from r); rfl

section
variable {P : Program} {w : World} {H H' : Hp} {h h' : Heap} {a C dx : Addr} {fs fs' : List (Str × V)}
theorem ins_get (hok : HOk P w H h) (e : H a = some (.ins C dx fs)) : ∃ mA, ObjM h a dx C mA ∧ (∀ f, RelO (fs.lookup f) (mA f)) ∧ PySem.Within mA (fs.map (·.1)) ∧ fs.length ≤ 1000 ∧ H dx = some (.own a) := by
  obtain ⟨d, z, ne, ob, mA, n, r, q⟩ := (show ObjOk P w H h a (.ins C dx fs) from hok a _ e)
  exact ⟨mA, ⟨ob, n, ne⟩, r, q, z, d⟩
end

/-! ### what of the text a class must have -/
structure Cls (K : PySem.W.Frag) (C : Addr) : Prop where
  pg : PySem.W.plainGet K C Str.empty = true
  hd : PySem.W.hasDictIn K C = true
  po : PySem.W.plainOver K C = true
  sa : PySem.W.findIn K (.ref C) "__setattr__" = some (some (.builtin "object.__setattr__"))
theorem Cls.get {K : PySem.W.Frag} {C : Addr} (c : Cls K C) (f : Str) : PySem.W.plainGet K C f = true := c.pg
/-- no class of it has the name -/
def NoAttr (K : PySem.W.Frag) (C : Addr) (f : Str) : Prop := PySem.W.findIn K (.ref C) f = some none
theorem NoAttr.taker {K : PySem.W.Frag} {C : Addr} {f : Str} (n : NoAttr K C f) : PySem.W.takerIn K C f = some none := by
  unfold PySem.W.takerIn
  rw [show PySem.W.findIn K (.ref C) f = some none from n]
  rfl
/-- a constant of the class -/
structure Con (K : PySem.W.Frag) (C : Addr) (f : Str) (v : V) (u : Value) : Prop where
  at_ : PySem.W.findIn K (.ref C) f = some (some u)
  rel : RelV v u
  get : PySem.W.specialIn K u "__get__" = some none
  cp : PySem.W.copiedNames.contains f = false
/-- a method: a plain def of the class or of one above it -/
structure Meth (K : PySem.W.Frag) (C : Addr) (m : Str) (f : Addr) : Prop where
  at_ : PySem.W.findIn K (.ref C) m = some (some (.ref f))
  fn : PySem.W.isFn K (.ref f) = true
  kp : PySem.W.keepIn K (.ref f) = true

section
variable {X : Cx} {pins : List (Addr × Obj)} {σ : St} {H : Hp} {s : Shared} {a C dx : Addr} {fs : List (Str × V)} {f : Str} {v : V} {A : Around} {E : Value → Shared → Prop}

theorem getattr_ok {b : Bool} {Q : Value → Shared → Prop} (I : Inv X pins σ H s) (e : H a = some (.ins C dx fs)) (c : Cls X.K C) (n : NoAttr X.K C f) (l : fs.lookup f = some v)
    (h : ∀ u s', Inv X pins σ H s' → RelV v u → Q u s') : wpAny (model X.prog X.w) A (getAttr (.ref a) f b) Q E s := by
  obtain ⟨mA, O, r, _, _, _⟩ := ins_get I.hok e
  obtain ⟨u, hu, ru⟩ := RelO.some_of (v := v) (o := mA f) (by rw [← l]; exact r f)
  exact get_map I.kIn O (c.get f) c.hd n hu (handed_of ru) (h u _ (I.tok _) ru)

theorem getcon_ok {b : Bool} {u : Value} {Q : Value → Shared → Prop} (I : Inv X pins σ H s) (e : H a = some (.ins C dx fs)) (c : Cls X.K C) (k : Con X.K C f v u) (l : fs.lookup f = none)
    (h : ∀ s', Inv X pins σ H s' → Q u s') : wpAny (model X.prog X.w) A (getAttr (.ref a) f b) Q E s := by
  obtain ⟨mA, O, r, _, _, _⟩ := ins_get I.hok e
  have hn : mA f = none := RelO.none_of (by rw [← l]; exact r f)
  exact get_const I.kIn O (c.get f) c.hd k.at_ k.get k.cp hn (handed_of k.rel) (h _ (I.tok _))

theorem getmeth_ok {m : Str} {g : Addr} {pl : Sem Bool} {Q : Value × List Value → Shared → Prop} (I : Inv X pins σ H s) (e : H a = some (.ins C dx fs)) (c : Cls X.K C) (k : Meth X.K C m g) (l : fs.lookup m = none)
    (h : Q (.ref g, [.ref a]) s) : wpAny (model X.prog X.w) A (getMethod (.ref a) m pl) Q E s := by
  obtain ⟨mA, O, r, _, _, _⟩ := ins_get I.hok e
  have hn : mA m = none := RelO.none_of (by rw [← l]; exact r m)
  exact get_meth I.kIn O (c.get m) k.at_ k.fn hn h

theorem setattr_ok {y : V} {u : Value} {Q : Unit → Shared → Prop} (I : Inv X pins σ H s) (e : H a = some (.ins C dx fs)) (c : Cls X.K C) (n : NoAttr X.K C f) (hl : fs.length < 1000) (ry : RelV y u)
    (h : ∀ s', Inv X pins σ (upd H a (.ins C dx (putF f y fs))) s' → Q () s') : wpAny (model X.prog X.w) A (setAttr (.ref a) f u) Q E s := by
  obtain ⟨mA, O, r, wi, _, ho⟩ := ins_get I.hok e
  have hz : (fs.map (·.1)).length ≤ sizeLine := by rw [List.length_map, sizeLine_eq]; omega
  refine set_map I.kIn O c.sa c.po n.taker c.hd wi hz fun h' O' sb => h _ ?_
  have hd : ∃ o, h'.get? dx = some o := let ⟨o, _, _, e', _⟩ := O'.ns; ⟨o, e'⟩
  refine I.write (x := a) (e := dx) (by rw [e]; exact True.intro) (.inr ho) (fun b q hb z => (sb.2 b hb).trans z) hd ?_
  refine ⟨by rw [upd_ne O.ne]; exact ho, ?_, O.ne, O'.obj, _, O'.ns, fun g => ?_, fun g hg => ?_⟩
  · have := length_putF f y fs; omega
  · show RelO ((putF f y fs).lookup g) (if g = f then some u else mA g)
    rw [lookup_putF]
    by_cases q : g = f
    · rw [if_pos q, if_pos q]; exact ry
    · rw [if_neg q, if_neg q]; exact r g
  · by_cases q : g = f
    · rw [q]; exact (keys_putF f y fs).1
    · refine (keys_putF f y fs).2 g (wi g fun z => hg ?_)
      show (if g = f then some u else mA g) = none
      rw [if_neg q]; exact z

/-- a new instance, tracked, without attributes -/
theorem Inv.made (I : Inv X pins σ H s) : Inv X pins σ (upd (upd H s.heap.objs.size (.own (s.heap.objs.size + 1))) (s.heap.objs.size + 1) (.ins C s.heap.objs.size []))
    { s with heap := (s.heap.push PySem.W.emptyDict).push (PySem.W.instObj C s.heap.objs.size) } := by
  have e1 : (s.heap.push PySem.W.emptyDict).get? s.heap.objs.size = some PySem.W.emptyDict := Heap.get?_push_size s.heap rfl
  have e2 : ((s.heap.push PySem.W.emptyDict).push (PySem.W.instObj C s.heap.objs.size)).get? (s.heap.objs.size + 1) = some (PySem.W.instObj C s.heap.objs.size) := by
    have := Heap.get?_push_size (s.heap.push PySem.W.emptyDict) (o := PySem.W.instObj C s.heap.objs.size) rfl
    rwa [Heap.size_push] at this
  have e3 : (s.heap.push PySem.W.emptyDict).Ns s.heap.objs.size (fun _ => none) := ⟨PySem.W.emptyDict, #[], _, e1, rfl, (fun e he => absurd he (by simp)), fun _ => rfl⟩
  have I1 := I.laid (a := s.heap.objs.size) (o := .own (s.heap.objs.size + 1)) (h' := s.heap.push PySem.W.emptyDict) (t' := s.toks) (fun b u q => Heap.get?_push_of_some _ q) (Nat.le_refl _) ⟨_, e1⟩
  refine I1.laid (a := s.heap.objs.size + 1) (o := .ins C s.heap.objs.size []) (t' := s.toks) (fun b u q => Heap.get?_push_of_some _ q) (Nat.le_of_eq (Heap.size_push _ _)) ?_
  have ne : s.heap.objs.size ≠ s.heap.objs.size + 1 := Nat.ne_of_lt (Nat.lt_succ_self _)
  refine ⟨by rw [upd_ne ne, upd_same], Nat.zero_le _, ne, e2, fun _ => none, (Heap.Ns1.of_empty e3).at fun o q => Heap.get?_push_of_some _ q, fun _ => True.intro, fun y hy => absurd rfl hy⟩

/-- e.f where nothing but the object is asked: through attributeBase (super) and the last hold -/
theorem attr_of {prog : Program} {w : World} {env : Env} {e : Expr} {f : Str} {pos : Pos} {s : Shared} {Q : Value → Shared → Prop} (hb : attributeBase e f env (eval e env) = eval e env)
    (h : wpAny (model prog w) A (eval e env) (fun o s₁ => wpAny (model prog w) A (getAttr o f true) Q E s₁) E s) : wpAny (model prog w) A (eval (.Attribute e f pos) env) Q E s :=
  Attribute_any_ h (by rw [arm_eval_Attribute, hb])
end

/-! ### readings and rules -/
/-- e.f, an attribute of the instance -/
def tFld (K : PySem.W.Frag) (ta : TE) (f : Str) : TE := fun σ H Q => ta σ H fun x H1 => ∃ a C dx fs v, x = .ref a ∧ H1 a = some (.ins C dx fs) ∧ Cls K C ∧ NoAttr K C f ∧ fs.lookup f = some v ∧ Q v H1
/-- e.f, a constant of the class -/
def tCon (K : PySem.W.Frag) (ta : TE) (f : Str) : TE := fun σ H Q => ta σ H fun x H1 => ∃ a C dx fs v u, x = .ref a ∧ H1 a = some (.ins C dx fs) ∧ Cls K C ∧ Con K C f v u ∧ fs.lookup f = none ∧ Q v H1
/-- e.f = value -/
def sFld (K : PySem.W.Frag) (ta tv : TE) (f : Str) : TS := fun D σ H => tv σ H fun y H1 => ta σ H1 fun x H2 => ∃ a C dx fs, x = .ref a ∧ H2 a = some (.ins C dx fs) ∧ Cls K C ∧ NoAttr K C f ∧ fs.length < 1000 ∧
  D.nx σ (upd H2 a (.ins C dx (putF f y fs)))
/-- an augmented operator on two values -/
def InOp (X : Cx) (op : Operator) (rd : V → V → Hp → VK → Prop) : Prop :=
  ∀ (pins : List (Addr × Obj)) (s : Shared) (σ : St) (H : Hp) (x y : V) (u v : Value) (Q : VK), Inv X pins σ H s → RelV x u → RelV y v → rd x y H Q → wpAny (model X.prog X.w) X.A (inplaceOp op u v) (EP X pins σ Q) X.xe s
/-- e.f op= value -/
def sFldAug (K : PySem.W.Frag) (ta tv : TE) (rd : V → V → Hp → VK → Prop) (f : Str) : TS := fun D σ H => ta σ H fun x H1 => ∃ a C dx fs v, x = .ref a ∧ H1 a = some (.ins C dx fs) ∧ Cls K C ∧ NoAttr K C f ∧ fs.lookup f = some v ∧
  tv σ H1 fun y H2 => rd v y H2 fun z H3 => ∃ dx' fs', H3 a = some (.ins C dx' fs') ∧ fs'.length < 1000 ∧ D.nx σ (upd H3 a (.ins C dx' (putF f z fs')))

section
variable {X : Cx} {o e value : Expr} {f : Str} {pos pos' tpos : Pos} {ta tv : TE}
theorem pe_fld (he : PE X e ta) (hb : attributeBase e f X.env (eval e X.env) = eval e X.env) : PE X (.Attribute e f pos) (tFld X.K ta f) := by
  intro pins s σ H Q I h
  refine attr_of hb (thn (he pins s σ H _ I h) fun u s1 ⟨x, H1, I1, rx, a, C, dx, fs, v, ex, ea, c, n, l, q⟩ => ?_)
  subst ex
  obtain rfl : u = Value.ref a := rx
  exact getattr_ok I1 ea c n l fun u' s2 I2 ru => ⟨v, H1, I2, ru, q⟩
theorem pe_con (he : PE X e ta) (hb : attributeBase e f X.env (eval e X.env) = eval e X.env) : PE X (.Attribute e f pos) (tCon X.K ta f) := by
  intro pins s σ H Q I h
  refine attr_of hb (thn (he pins s σ H _ I h) fun u s1 ⟨x, H1, I1, rx, a, C, dx, fs, v, u0, ex, ea, c, k, l, q⟩ => ?_)
  subst ex
  obtain rfl : u = Value.ref a := rx
  exact getcon_ok I1 ea c k l fun s2 I2 => ⟨v, H1, I2, k.rel, q⟩
theorem ps_fld (ha : PE X o ta) (hv : PE X value tv) (hs : swapsWith value (some (.Attribute o f pos')) pos.line X.env = pure false) : PS X (.Assign [.Attribute o f pos'] value pos) (sFld X.K ta tv f) := by
  intro pins s σ H D I h
  refine plainObj_wpAny_Assign_Attribute (thn (hv pins s σ H _ I h) fun u s1 ⟨y, H1, I1, ry, q⟩ => thn (ha pins s1 σ H1 _ I1 q) fun ov s2 ⟨x, H2, I2, rx, a, C, dx, fs, ex, ea, c, n, l, q2⟩ => ?_) hs
  subst ex
  obtain rfl : ov = Value.ref a := rx
  exact setattr_ok I2 ea c n l ry fun s3 I3 => ⟨σ, _, I3, q2⟩
theorem ps_fldaug {op : Operator} {rd : V → V → Hp → VK → Prop} (ha : PE X o ta) (hv : PE X value tv) (hop : InOp X op rd) : PS X (.AugAssign (.Attribute o f tpos) op value pos) (sFldAug X.K ta tv rd f) := by
  intro pins s σ H D I h
  refine wpAny_AugAssign_AttributeAny (thn (ha pins s σ H _ I h) fun ov s1 ⟨x, H1, I1, rx, a, C, dx, fs, v, ex, ea, c, n, l, q⟩ => ?_)
  subst ex
  obtain rfl : ov = Value.ref a := rx
  refine getattr_ok I1 ea c n l fun u s2 I2 ru => thn (hv pins s2 σ H1 _ I2 q) fun w3 s3 ⟨y, H2, I3, ry, q3⟩ => thn (hop pins s3 σ H2 v y u w3 _ I3 ru ry q3) fun w4 s4 ⟨z, H3, I4, rz, dx', fs', ea', l', q4⟩ => ?_
  exact setattr_ok I4 ea' c n l' rz fun s5 I5 => ⟨σ, _, I5, q4⟩
def rAdd : V → V → Hp → VK → Prop := fun x y H Q => ∃ i j, x = .int i ∧ y = .int j ∧ Q (.int (i + j)) H
def rSub : V → V → Hp → VK → Prop := fun x y H Q => ∃ i j, x = .int i ∧ y = .int j ∧ Q (.int (i - j)) H
theorem in_add : InOp X .Add rAdd := by
  rintro pins s σ H x y u v Q I rx ry ⟨i, j, rfl, rfl, q⟩
  obtain ⟨t, rfl⟩ := (show ∃ t, u = Value.int i t from rx)
  obtain ⟨t', rfl⟩ := (show ∃ t', v = Value.int j t' from ry)
  exact PyProof.Rows.iadd_int ⟨.int (i + j), H, I.tok _, ⟨_, rfl⟩, q⟩
theorem in_sub : InOp X .Sub rSub := by
  rintro pins s σ H x y u v Q I rx ry ⟨i, j, rfl, rfl, q⟩
  obtain ⟨t, rfl⟩ := (show ∃ t, u = Value.int i t from rx)
  obtain ⟨t', rfl⟩ := (show ∃ t', v = Value.int j t' from ry)
  exact PyProof.Rows.isub_int ⟨.int (i - j), H, I.tok _, ⟨_, rfl⟩, q⟩

/-- what is between an instance and its method: the tree of a method call -/
theorem methcall_of {pl : Sem Bool} {m : Str} {apos : Pos} {args : List Expr} {pins : List (Addr × Obj)} {s : Shared} {σ : St} {H : Hp} {Q : Value → Shared → Prop} {te : TE} (he : PE X e te) (I : Inv X pins σ H s)
    (h : te σ H fun x H1 => ∃ a C dx fs g, x = .ref a ∧ H1 a = some (.ins C dx fs) ∧ Cls X.K C ∧ Meth X.K C m g ∧ fs.lookup m = none ∧
      ∀ s1, Inv X pins σ H1 s1 → wpAny (model X.prog X.w) X.A (callWith pos (.ref g) [.ref a] (backTo pos (starEach args X.env)) (backToKw pos (keywordEach [] X.env))) Q X.xe s1)
    (ht : eval (.Call (.Attribute e m apos) args [] pos) X.env = (do
      let ov ← eval e X.env
      standAt apos.atName
      let (f, first) ← holding [ov] (getMethod ov m pl)
      callWith pos f first (backTo pos (starEach args X.env)) (backToKw pos (keywordEach [] X.env)))) :
    wpAny (model X.prog X.w) X.A (eval (.Call (.Attribute e m apos) args [] pos) X.env) Q X.xe s := by
  refine PySem.W.methodCall_KW (pl := pl) (thn (he pins s σ H _ I h) fun u s1 ⟨x, H1, I1, rx, a, C, dx, fs, g, ex, ea, c, k, l, q⟩ => ?_) ht
  subst ex
  obtain rfl : u = Value.ref a := rx
  exact getmeth_ok I1 ea c k l (q s1 I1)
end

/-! ### isinstance -/
section
variable {X : Cx} {pins : List (Addr × Obj)} {σ : St} {H : Hp} {s : Shared} {A : Around} {E : Value → Shared → Prop} {Q : Value → Shared → Prop} {c : Value} {b : Bool}
/-- the type of a value, as the fragment's deciders take it; for an instance its class -/
inductive TyOf (K : PySem.W.Frag) (H : Hp) : V → Value → Prop where
  | non : TyOf K H .non (.type "NoneType")
  | bl (x : Bool) : TyOf K H (.bl x) (.type "bool")
  | int (i : Int) : TyOf K H (.int i) (.type "int")
  | str (x : Str) : TyOf K H (.str x) (.type "str")
  | flt (x : UInt64) : TyOf K H (.flt x) (.type "float")
  | lst {a : Addr} {xs : List V} (e : H a = some (.lst xs)) : TyOf K H (.ref a) (.type "list")
  | frz {a : Addr} {o : Obj} {xs : List V} (e : H a = some (.frz o (.lst xs))) : TyOf K H (.ref a) (.type "list")
  | tup {a : Addr} {xs : List V} (e : H a = some (.tup xs)) : TyOf K H (.ref a) (.type "tuple")
  | dK {a : Addr} {kvs : List (Key × V)} (e : H a = some (.dK kvs)) : TyOf K H (.ref a) (.type "dict")
  | dT {a : Addr} {kvs : List (List Key × V)} (e : H a = some (.dT kvs)) : TyOf K H (.ref a) (.type "dict")
  | ins {a C dx : Addr} {fs : List (Str × V)} (e : H a = some (.ins C dx fs)) (cl : Cls K C) (ha : PySem.W.findIn K (.ref C) "__class__" = some (some (.builtin "object.__class__")))
      (hn : PySem.W.specialIn K (.builtin "object.__class__") "__get__" = some (some (.builtin "getset_descriptor.__get__"))) (htk : PySem.W.takesIn K (.builtin "object.__class__") = some true)
      (hm : PySem.W.mroIn K C (.type "object") = some true) : TyOf K H (.ref a) (.ref C)
/-- isinstance(x, c) for one class c, a built-in or an own one: kitOne's answer -/
theorem isinst_ok {x : V} {u t : Value} (I : Inv X pins σ H s) (rx : RelV x u) (ty : TyOf X.K H x t) (e : PySem.W.kitOne X.K t c = some b) (h : ∀ tk, Q (.bool b) { s with toks := tk }) :
    wpAny (model X.prog X.w) A (call (.builtin "isinstance") [u, c]) Q E s := by
  cases ty with
  | non => cases (show u = Value.none from rx); exact PySem.W.kia_one PySem.W.kitx_none I.kIn True.intro e (fun z => nomatch z) h
  | bl y => cases (show u = Value.bool y from rx); exact PySem.W.kia_one PySem.W.kitx_bool I.kIn True.intro e (fun z => nomatch z) h
  | int i => obtain ⟨t, q⟩ := (show ∃ t, u = Value.int i t from rx); cases q; exact PySem.W.kia_one PySem.W.kitx_int I.kIn True.intro e (fun z => nomatch z) h
  | str y => obtain ⟨t, q⟩ := (show ∃ t, u = Value.str y t from rx); cases q; exact PySem.W.kia_one PySem.W.kitx_str I.kIn True.intro e (fun z => nomatch z) h
  | flt y => obtain ⟨t, q⟩ := (show ∃ t, u = Value.float y t from rx); cases q; exact PySem.W.kia_one PySem.W.kitx_float I.kIn True.intro e (fun z => nomatch z) h
  | @lst a xs ea =>
    cases (show u = Value.ref a from rx)
    obtain ⟨_, _, n, _, h1⟩ := (show ObjOk X.prog X.w H s.heap a (.lst xs) from I.hok a _ ea)
    exact PySem.W.kia_one PySem.W.kitx_list I.kIn ⟨_, h1, rfl⟩ e (fun z => nomatch z) h
  | @frz a ob xs ea =>
    cases (show u = Value.ref a from rx)
    obtain ⟨_, _, _, n, _, h1⟩ := (show ObjOk X.prog X.w H s.heap a (.frz ob (.lst xs)) from I.hok a _ ea)
    exact PySem.W.kia_one PySem.W.kitx_list I.kIn ⟨_, h1, rfl⟩ e (fun z => nomatch z) h
  | @tup a xs ea =>
    cases (show u = Value.ref a from rx)
    obtain ⟨_, _, _, p⟩ := (show ObjOk X.prog X.w H s.heap a (.tup xs) from I.hok a _ ea)
    obtain ⟨o, h1, h2, _⟩ := p
    exact PySem.W.kia_one PySem.W.kitx_tuple I.kIn ⟨o, h1, h2⟩ e (fun z => nomatch z) h
  | @dK a kvs ea =>
    cases (show u = Value.ref a from rx)
    obtain ⟨_, _, vs, _, p⟩ := (show ObjOk X.prog X.w H s.heap a (.dK kvs) from I.hok a _ ea)
    obtain ⟨o, es, ep, h1, h2, _⟩ := p
    exact PySem.W.kia_one PySem.W.kitx_dict I.kIn ⟨o, h1, h2.1⟩ e (fun z => nomatch z) h
  | @dT a kvs ea =>
    cases (show u = Value.ref a from rx)
    obtain ⟨_, _, xs, _, o, es, ep, h1, h2, _⟩ := (show ObjOk X.prog X.w H s.heap a (.dT kvs) from I.hok a _ ea)
    exact PySem.W.kia_one PySem.W.kitx_dict I.kIn ⟨o, h1, h2.1⟩ e (fun z => nomatch z) h
  | @ins a C dx fs ea cl ha hn htk hm =>
    cases (show u = Value.ref a from rx)
    obtain ⟨mA, O, _⟩ := ins_get I.hok ea
    obtain ⟨od, J, _⟩ := O.look
    exact PySem.W.kia_one (PySem.W.kitx_own (cl.get _) cl.hd ha hn htk hm) I.kIn J e (fun z => nomatch z) h
end
end L2

namespace L2
open PySem PySem.Spec PyProof.Rows

/-! ### room -/
structure Room (k : Nat) (A : Around) : Prop where
  hd : A.handled = none
  dp : A.depth + 3 * k + 5 < recursionLimit
  un : A.units + 16 * k + 200 < cLine
theorem Room.mono {j k : Nat} {A : Around} (r : Room k A) (h : j ≤ k) : Room j A := ⟨r.hd, by have := r.dp; omega, by have := r.un; omega⟩
theorem Room.deeper {k : Nat} {A : Around} (r : Room (k + 1) A) (env : Env) : Room k (A.deeper env) :=
  ⟨r.hd, by have := r.dp; show A.depth + 1 + 3 * k + 5 < _; omega, by have := r.un; show A.units + 3 + 16 * k + 200 < _; omega⟩
theorem Room.in1 {k : Nat} {A : Around} (r : Room (k + 1) A) : Room k A.in1 :=
  ⟨r.hd, by have := r.dp; show A.depth + 3 * k + 5 < _; omega, by have := r.un; show A.units + 1 + 16 * k + 200 < _; omega⟩
theorem make_depth {A : Around} {C : Addr} {us : List Value} {kw : List (Str × Value)} : (A.under (.builtin "type.__call__" ⟨.ref C :: us, kw⟩)).depth = A.depth + 1 := by
  first | rfl | simp [Around.under, Code.weight, Code.isCreation, Code.isGuard, Code.isCaller, Code.frames, Code.isFrame, guardIds]
theorem make_units {A : Around} {C : Addr} {us : List Value} {kw : List (Str × Value)} : (A.under (.builtin "type.__call__" ⟨.ref C :: us, kw⟩)).units = A.units + 1 := by
  first | rfl | simp [Around.under, Code.cUnits, Code.frames, Code.isFrame]
theorem Room.make {k : Nat} {A : Around} (r : Room (k + 1) A) (C : Addr) (us : List Value) (kw : List (Str × Value)) : Room k (A.under (.builtin "type.__call__" ⟨.ref C :: us, kw⟩)) :=
  ⟨r.hd, by have := r.dp; rw [make_depth]; omega, by have := r.un; rw [make_units]; omega⟩
theorem Room.depth {k : Nat} {A : Around} (r : Room k A) : A.depth < recursionLimit := by have := r.dp; omega
theorem Room.units {k : Nat} {A : Around} (r : Room k A) : A.units + 64 < cLine := by have := r.un; omega
theorem Room.units0 {k : Nat} {A : Around} (r : Room k A) : A.units < cLine := by have := r.un; omega

/-! ### argument lists and displays -/
def tNil : TA := fun _ H Q => Q [] H
def tCons (ta : TE) (tr : TA) : TA := fun σ H Q => ta σ H fun x H1 => tr σ H1 fun xs H2 => Q (x :: xs) H2
section
variable {X : Cx} {e : Expr} {es : List Expr} {te : TE} {t : TA} {pos : Pos}
theorem pa_nil : PA X [] tNil := fun _ _ _ _ H Q I h => Calls.spliced_nil ⟨[], H, I, .nil, h⟩
theorem pa_cons (ha : PE X e te) (hr : PA X es t) (hs : starEach (e :: es) X.env = (false, eval e X.env) :: starEach es X.env := by rfl) : PA X (e :: es) (tCons te t) := by
  intro pos pins s σ H Q I h
  rw [hs]
  show wpAny _ _ (spliced ((false, eval e X.env) :: backTo pos (starEach es X.env))) _ _ s
  refine Calls.spliced_cons (thn (ha pins s σ H _ I h) fun u s1 ⟨x, H1, I1, r1, q1⟩ => ?_)
  exact thn (hr pos pins s1 σ H1 _ I1 q1) fun us s2 ⟨xs, H2, I2, r2, q2⟩ => ⟨x :: xs, H2, I2, .cons r1 r2, q2⟩

/-- a tuple, a list of written items -/
def tTup (t : TA) : TE := fun σ H Q => t σ H fun xs H1 => xs.length ≤ sizeLine ∧ ∀ p, H1 p = none → Q (.ref p) (upd H1 p (.tup xs))
def tLst (t : TA) : TE := fun σ H Q => t σ H fun xs H1 => xs.length ≤ sizeLine ∧ ∀ p, H1 p = none → Q (.ref p) (upd H1 p (.lst xs))
theorem pe_tup {x1} (h : PA X es t) : PE X (.Tuple es x1 pos) (tTup t) := by
  intro pins s σ H Q I hq
  refine wpAny_Tuple_spliced (thn (h pos pins s σ H _ I hq) fun us s1 ⟨xs, H1, I1, r, z, q⟩ => ⟨by rw [← r.length]; exact z, ?_⟩)
  have hf : H1 s1.heap.objs.size = none := I1.hok.fresh (Nat.le_refl _)
  refine ⟨.ref s1.heap.objs.size, upd H1 s1.heap.objs.size (.tup xs), I1.laid (t' := s1.toks) (fun b u e => Heap.get?_push_of_some _ e) (Nat.le_refl _) ?_, rfl, q _ hf⟩
  exact ⟨z, us, r, ⟨_, Heap.get?_push_size _ rfl, rfl, _, rfl⟩⟩
theorem pe_lst (h : PA X es t) : PE X (.List es pos) (tLst t) := by
  intro pins s σ H Q I hq
  refine wpAny_List_spliced (thn (h pos pins s σ H _ I hq) fun us s1 ⟨xs, H1, I1, r, z, q⟩ => ⟨by rw [← r.length]; exact z, ?_⟩)
  have hf : H1 s1.heap.objs.size = none := I1.hok.fresh (Nat.le_refl _)
  refine ⟨.ref s1.heap.objs.size, upd H1 s1.heap.objs.size (.lst xs), I1.laid (t' := s1.toks) (fun b u e => Heap.get?_push_of_some _ e) (Nat.le_refl _) ?_, rfl, q _ hf⟩
  exact ⟨z, us, 0, r, Heap.get?_push_size _ rfl⟩
end

/-! ### what a def promises -/
/-- a def's promise: the bound arguments in the parameters' order, the heap, the wanted end, the wanted exception -/
abbrev Sp := List V → Hp → VK → XK → Prop
/-- how an exception lies behind a call (file 08 gives it): the callers' frames, abstract heap and state ahead of the call, the wish, the exception, the state -/
abbrev CXT := List Env → Hp → Shared → XK → Value → Shared → Prop

/-- the state at a call -/
structure Env0 (P : Program) (w : World) (K : PySem.W.Frag) (mg : Str → Option Value) (base : Heap) (A : Around) (outer : List Env) (s : Shared) (H : Hp) : Prop where
  frames : A.frames = some outer
  mod : Mod K mg base
  bs : ∀ b o, base.get? b = some o → s.heap.get? b = some o ∧ H b = none
  bsz : base.objs.size ≤ s.heap.objs.size
  funs : s.heap.FunFrames base outer
  frf : ∀ b ∈ frs outer, H b = none
  hok : HOk P w H s.heap
  bare : AllBare s.gens
/-- a call's end -/
def CE (outer : List Env) (P : Program) (w : World) (H : Hp) (s : Shared) (Q : VK) (u : Value) (s' : Shared) : Prop :=
  ∃ v H', s'.os = s.os ∧ AllBare s'.gens ∧ Un (frs outer) [] H H' s.heap s'.heap ∧ HOk P w H' s'.heap ∧ RelV v u ∧ Q v H'
def CR (CX : CXT) (outer : List Env) (P : Program) (w : World) (H : Hp) (s : Shared) (Q : VK) (E : XK) (r : Result) (s' : Shared) : Prop :=
  match r with
  | .ok (.ret u) => CE outer P w H s Q u s'
  | .ok _ => False
  | .error e => CX outer H s E e s'
structure FnOk (P : Program) (w : World) (K : PySem.W.Frag) (mg : Str → Option Value) (base : Heap) (CX : CXT) (k : Nat) (f : Addr) (fd : FuncData) (ps : List Str) (sp : Sp) : Prop where
  len : ∀ vs H Q E, sp vs H Q E → vs.length = ps.length
  run : ∀ (A : Around) (outer : List Env) (s : Shared) (H : Hp) (args : Args) (us : List Value) (vs : List V) (Q : VK) (E : XK), Room k A → Env0 P w K mg base A outer s H → BindsTo s fd args (ps.zip us) → Vals vs us → sp vs H Q E →
    codeAny (model P w) A (.call (.ref f) args) (CR CX outer P w H s Q E) s
theorem FnOk.mono {P : Program} {w : World} {K : PySem.W.Frag} {mg : Str → Option Value} {base : Heap} {CX : CXT} {j k : Nat} {f : Addr} {fd : FuncData} {ps : List Str} {sp : Sp} (F : FnOk P w K mg base CX j f fd ps sp) (h : j ≤ k) :
    FnOk P w K mg base CX k f fd ps sp := ⟨F.len, fun A outer s H args us vs Q E hr => F.run A outer s H args us vs Q E (hr.mono h)⟩
/-- a weaker promise -/
theorem FnOk.imp {P : Program} {w : World} {K : PySem.W.Frag} {mg : Str → Option Value} {base : Heap} {CX : CXT} {k : Nat} {f : Addr} {fd : FuncData} {ps : List Str} {sp sp' : Sp} (F : FnOk P w K mg base CX k f fd ps sp)
    (h : ∀ vs H Q E, sp' vs H Q E → sp vs H Q E) : FnOk P w K mg base CX k f fd ps sp' :=
  ⟨fun vs H Q E q => F.len vs H Q E (h _ _ _ _ q), fun A outer s H args us vs Q E hr he hb hv hs => F.run A outer s H args us vs Q E hr he hb hv (h _ _ _ _ hs)⟩

theorem Env0.make {P : Program} {w : World} {K : PySem.W.Frag} {mg : Str → Option Value} {base : Heap} {A : Around} {outer : List Env} {s : Shared} {H : Hp} (e : Env0 P w K mg base A outer s H) (C : Addr) (us : List Value) (kw : List (Str × Value)) :
    Env0 P w K mg base (A.under (.builtin "type.__call__" ⟨.ref C :: us, kw⟩)) outer s H := ⟨by first | exact e.frames | (simpa [Around.under, Code.envs, Code.isFrame, pushEnvs] using e.frames), e.mod, e.bs, e.bsz, e.funs, e.frf, e.hok, e.bare⟩
theorem Env0.in1 {P : Program} {w : World} {K : PySem.W.Frag} {mg : Str → Option Value} {base : Heap} {A : Around} {outer : List Env} {s : Shared} {H : Hp} (e : Env0 P w K mg base A outer s H) :
    Env0 P w K mg base A.in1 outer s H := ⟨e.frames, e.mod, e.bs, e.bsz, e.funs, e.frf, e.hok, e.bare⟩

section
variable {X : Cx} {pins : List (Addr × Obj)} {σ : St} {H : Hp} {s s' : Shared}
/-- from a body: what a callee wants -/
theorem Inv.env0 (I : Inv X pins σ H s) : Env0 X.prog X.w X.K X.mg X.base X.A X.stack s H :=
  ⟨I.ok.frames, I.ok.mod, I.bs, Nat.le_trans I.ok.bsz I.sz, I.stack, I.stkFree, I.hok, I.bare⟩
/-- behind a call -/
theorem Inv.after {Q : VK} {u : Value} (I : Inv X pins σ H s) (h : CE X.stack X.prog X.w H s Q u s') : EP X pins σ Q u s' := by
  obtain ⟨v, H', os, bare, un, hok, r, q⟩ := h
  obtain ⟨hh, g, d, t, os'⟩ := s'
  obtain rfl : os' = s.os := os
  exact ⟨v, H', I.call (h' := hh) (g' := g) (d' := d) (t' := t) (ch := []) un hok bare (fun b z => absurd z (by simp)), r, q⟩
end

/-! ### calls -/
/-- f(..): the written arguments, then the defaults dvs; E: what is wanted of an exception -/
def tCall (sp : Sp) (dvs : List V) (E : XK) (t : TA) : TE := fun σ H Q => t σ H fun vs H1 => sp (vs ++ dvs) H1 Q E
/-- o.m(..) of an instance of the class at C -/
def tMeth (C : Addr) (m : Str) (sp : Sp) (dvs : List V) (E : XK) (ta : TE) (t : TA) : TE := fun σ H Q => ta σ H fun x H1 => ∃ a dx fs, x = .ref a ∧ H1 a = some (.ins C dx fs) ∧ fs.lookup m = none ∧
  t σ H1 fun vs H2 => sp (x :: (vs ++ dvs)) H2 Q E
/-- C(..): a new instance and its dict, then __init__ -/
def tMake (C : Addr) (sp : Sp) (dvs : List V) (E : XK) (t : TA) : TE := fun σ H Q => t σ H fun vs H1 => ∀ x dx, H1 x = none → H1 dx = none → dx ≠ x →
  sp (.ref x :: (vs ++ dvs)) (upd (upd H1 dx (.own x)) x (.ins C dx [])) (fun v H2 => v = .non ∧ Q (.ref x) H2) E

/-- how the parameters are bound: us the positional arguments, kw the keywords' values by name, ds the defaults that fill up -/
def Binds (K : PySem.W.Frag) (fd : FuncData) (ps : List Str) (ds : List Value) : Prop :=
  ∀ (s : Shared) (us : List Value), K.In s.heap → (us ++ ds).length = ps.length → BindsTo s fd ⟨us, []⟩ (ps.zip (us ++ ds))
/-- every parameter is given -/
theorem Binds.all {K : PySem.W.Frag} {fd : FuncData} {ps : List Str} (h : ∀ us : List Value, us.length = ps.length → bindArgs fd ⟨us, []⟩ = pure (ps.zip us)) : Binds K fd ps [] := fun s us _ hl => by
  rw [List.append_nil] at hl ⊢
  exact .of_eq (h us hl)

/-- an exception of a callee reaches what this body wants of exceptions -/
def Passes (CX : CXT) (X : Cx) (E : XK) : Prop := ∀ (pins : List (Addr × Obj)) (σ : St) (H : Hp) (s : Shared) (e : Value) (s' : Shared), Inv X pins σ H s → CX X.stack H s E e s' → X.xe e s'

section
variable {X : Cx} {CX : CXT} {k : Nat} {f C : Addr} {fd : FuncData} {ps : List Str} {sp : Sp} {dvs : List V} {ds : List Value} {E : XK} {x m : Str} {p pos apos : Pos} {e o : Expr} {es : List Expr} {ta : TE} {t : TA}

/-- the callee runs -/
theorem run_fn {pins : List (Addr × Obj)} {σ : St} {H : Hp} {s : Shared} {Q : VK} {us : List Value} {vs : List V} (F : FnOk X.prog X.w X.K X.mg X.base CX k f fd ps sp) (hr : Room k X.A) (hb : Binds X.K fd ps ds) (hd : Vals dvs ds) (hx : Passes CX X E)
    (I : Inv X pins σ H s) (r : Vals vs us) (h : sp (vs ++ dvs) H Q E) : wpAny (model X.prog X.w) X.A (call (.ref f) us) (EP X pins σ Q) X.xe s := by
  have r2 : Vals (vs ++ dvs) (us ++ ds) := r.append hd
  have hl : (us ++ ds).length = ps.length := by rw [← r2.length]; exact F.len _ _ _ _ h
  refine wpAny_call (codeAny_mono (F.run X.A X.stack s H ⟨us, []⟩ (us ++ ds) (vs ++ dvs) Q E hr I.env0 (hb s us I.kIn hl) r2 h) fun r s' hq => ?_)
  cases r with
  | error e => exact hx pins σ H s e s' I hq
  | ok fl =>
    cases fl with
    | ret u => exact I.after hq
    | next => exact False.elim hq
    | brk => exact False.elim hq
    | cont => exact False.elim hq

theorem pe_call (F : FnOk X.prog X.w X.K X.mg X.base CX k f fd ps sp) (hr : Room k X.A) (hg : Gl X x) (hm : X.mg x = some (.ref f)) (hk : PySem.W.keepIn X.K (.ref f) = true) (hb : Binds X.K fd ps ds) (hd : Vals dvs ds) (hx : Passes CX X E)
    (ha : PA X (e :: es) t) (hdb : (x == ("__debug__" : Str)) = false := by decide) (he : starEach (e :: es) X.env = (false, eval e X.env) :: starEach es X.env := by rfl) (hpl : (backTo pos (starEach es X.env)).any (·.1) = false := by rfl) :
    PE X (.Call (.Name x p) (e :: es) [] pos) (tCall sp dvs E t) := by
  intro pins s σ H Q I h
  refine wpAny_Call_Name_kw (ld_glob I hg hm ?_ hdb)
  refine PySem.W.callWith_K (h₀ := X.base) I.ok.mod.kin hk (thn (ha pos pins s σ H _ I h) fun us s1 ⟨vs, H1, I1, r, q⟩ => ⟨I1.kIn, ?_⟩) he hpl
  exact run_fn F hr hb hd hx I1 r q
theorem pe_call0 (F : FnOk X.prog X.w X.K X.mg X.base CX k f fd ps sp) (hr : Room k X.A) (hg : Gl X x) (hm : X.mg x = some (.ref f)) (hk : PySem.W.keepIn X.K (.ref f) = true) (hb : Binds X.K fd ps ds) (hd : Vals dvs ds) (hx : Passes CX X E)
    (hdb : (x == ("__debug__" : Str)) = false := by decide) : PE X (.Call (.Name x p) [] [] pos) (tCall sp dvs E tNil) := by
  intro pins s σ H Q I h
  refine wpAny_Call_Name_kw (ld_glob I hg hm ?_ hdb)
  exact PySem.W.callWith_K0 I.kIn hk (run_fn (us := []) F hr hb hd hx I .nil h)

/-- o.m(e, ..) -/
theorem pe_meth {pl : Sem Bool} (he : PE X o ta) (c : Cls X.K C) (hm : Meth X.K C m f) (F : FnOk X.prog X.w X.K X.mg X.base CX k f fd ps sp) (hr : Room k X.A) (hb : Binds X.K fd ps ds) (hd : Vals dvs ds) (hx : Passes CX X E) (ha : PA X (e :: es) t)
    (hst : starEach (e :: es) X.env = (false, eval e X.env) :: starEach es X.env := by rfl) (hpl : (backTo pos (starEach es X.env)).any (·.1) = false := by rfl)
    (ht : eval (.Call (.Attribute o m apos) (e :: es) [] pos) X.env = (do
      let ov ← eval o X.env
      standAt apos.atName
      let (f, first) ← holding [ov] (getMethod ov m pl)
      callWith pos f first (backTo pos (starEach (e :: es) X.env)) (backToKw pos (keywordEach [] X.env))) := by rfl) :
    PE X (.Call (.Attribute o m apos) (e :: es) [] pos) (tMeth C m sp dvs E ta t) := by
  intro pins s σ H Q I h
  refine PySem.W.methodCall_KW (pl := pl) (thn (he pins s σ H _ I h) fun u s1 ⟨x, H1, I1, rx, a, dx, fs, ex, ea, l, q⟩ => ?_) ht
  subst ex
  obtain rfl : u = Value.ref a := rx
  refine getmeth_ok I1 ea c hm l ?_
  refine PySem.W.callWith_K (first := [.ref a]) (h₀ := X.base) I.ok.mod.kin hm.kp (thn (ha pos pins s1 σ H1 _ I1 q) fun us s2 ⟨vs, H2, I2, r, q2⟩ => ⟨I2.kIn, ?_⟩) hst hpl
  exact run_fn (us := .ref a :: us) (vs := .ref a :: vs) F hr hb hd hx I2 (.cons rfl r) q2
/-- o.m() -/
theorem pe_meth0 {pl : Sem Bool} (he : PE X o ta) (c : Cls X.K C) (hm : Meth X.K C m f) (F : FnOk X.prog X.w X.K X.mg X.base CX k f fd ps sp) (hr : Room k X.A) (hb : Binds X.K fd ps ds) (hd : Vals dvs ds) (hx : Passes CX X E)
    (ht : eval (.Call (.Attribute o m apos) [] [] pos) X.env = (do
      let ov ← eval o X.env
      standAt apos.atName
      let (f, first) ← holding [ov] (getMethod ov m pl)
      callWith pos f first (backTo pos (starEach [] X.env)) (backToKw pos (keywordEach [] X.env))) := by rfl) :
    PE X (.Call (.Attribute o m apos) [] [] pos) (tMeth C m sp dvs E ta tNil) := by
  intro pins s σ H Q I h
  refine PySem.W.methodCall_KW (pl := pl) (thn (he pins s σ H _ I h) fun u s1 ⟨x, H1, I1, rx, a, dx, fs, ex, ea, l, q⟩ => ?_) ht
  subst ex
  obtain rfl : u = Value.ref a := rx
  refine getmeth_ok I1 ea c hm l ?_
  exact PySem.W.callWith_K0 (first := [.ref a]) I1.kIn hm.kp (run_fn (us := [.ref a]) (vs := [.ref a]) F hr hb hd hx I1 (.cons rfl .nil) q)

/-- what a class must have to be made -/
structure Mk (K : PySem.W.Frag) (C f : Addr) : Prop where
  makes : PySem.W.makesIn K C = true
  init : PySem.W.findIn K (.ref C) "__init__" = some (some (.ref f))
  fn : PySem.W.isFn K (.ref f) = true
  kp : PySem.W.keepIn K (.ref C) = true

theorem run_make {pins : List (Addr × Obj)} {σ : St} {H : Hp} {s : Shared} {Q : VK} {us : List Value} {vs : List V} (M : Mk X.K C f) (F : FnOk X.prog X.w X.K X.mg X.base CX k f fd ps sp) (hr : Room (k + 1) X.A) (hb : Binds X.K fd ps ds) (hd : Vals dvs ds)
    (hx : Passes CX X E) (I : Inv X pins σ H s) (r : Vals vs us)
    (h : ∀ x dx, H x = none → H dx = none → dx ≠ x → sp (.ref x :: (vs ++ dvs)) (upd (upd H dx (.own x)) x (.ins C dx [])) (fun v H2 => v = .non ∧ Q (.ref x) H2) E) :
    wpAny (model X.prog X.w) X.A (call (.ref C) us) (EP X pins σ Q) X.xe s := by
  have hq := h (s.heap.objs.size + 1) s.heap.objs.size (I.hok.fresh (Nat.le_succ _)) (I.hok.fresh (Nat.le_refl _)) (Nat.ne_of_lt (Nat.lt_succ_self _))
  have I2 := Inv.made (C := C) I
  have r2 : Vals (V.ref (s.heap.objs.size + 1) :: (vs ++ dvs)) (Value.ref (s.heap.objs.size + 1) :: (us ++ ds)) := .cons rfl (r.append hd)
  have hl : (Value.ref (s.heap.objs.size + 1) :: us ++ ds).length = ps.length := by
    have e := r2.length
    rw [F.len _ _ _ _ hq] at e
    exact e.symm
  refine wpAny_call (make_map (f := f) I.kIn M.makes M.init (beq_iff_eq.mp M.fn) (codeAny_mono (F.run _ X.stack _ _ ⟨Value.ref (s.heap.objs.size + 1) :: us, []⟩ (Value.ref (s.heap.objs.size + 1) :: (us ++ ds)) _ _ E (hr.make C us [])
    (I2.env0.make C us []) (hb _ (Value.ref (s.heap.objs.size + 1) :: us) I2.kIn hl) r2 hq) fun r s' hq' => ?_))
  cases r with
  | error e => exact hx pins σ _ _ e s' I2 hq'
  | ok fl =>
    cases fl with
    | ret u =>
      obtain ⟨v, H', I3, rv, ev, q3⟩ := I2.after hq'
      subst ev
      exact ⟨rv, ⟨V.ref (s.heap.objs.size + 1), H', I3, rfl, q3⟩⟩
    | next => exact False.elim hq'
    | brk => exact False.elim hq'
    | cont => exact False.elim hq'
theorem pe_make (M : Mk X.K C f) (F : FnOk X.prog X.w X.K X.mg X.base CX k f fd ps sp) (hr : Room (k + 1) X.A) (hg : Gl X x) (hm : X.mg x = some (.ref C)) (hb : Binds X.K fd ps ds) (hd : Vals dvs ds) (hx : Passes CX X E)
    (ha : PA X (e :: es) t) (hdb : (x == ("__debug__" : Str)) = false := by decide) (he : starEach (e :: es) X.env = (false, eval e X.env) :: starEach es X.env := by rfl) (hpl : (backTo pos (starEach es X.env)).any (·.1) = false := by rfl) :
    PE X (.Call (.Name x p) (e :: es) [] pos) (tMake C sp dvs E t) := by
  intro pins s σ H Q I h
  refine wpAny_Call_Name_kw (ld_glob I hg hm ?_ hdb)
  refine PySem.W.callWith_K (h₀ := X.base) I.ok.mod.kin M.kp (thn (ha pos pins s σ H _ I h) fun us s1 ⟨vs, H1, I1, r, q⟩ => ⟨I1.kIn, ?_⟩) he hpl
  exact run_make M F hr hb hd hx I1 r q
theorem pe_make0 (M : Mk X.K C f) (F : FnOk X.prog X.w X.K X.mg X.base CX k f fd ps sp) (hr : Room (k + 1) X.A) (hg : Gl X x) (hm : X.mg x = some (.ref C)) (hb : Binds X.K fd ps ds) (hd : Vals dvs ds) (hx : Passes CX X E)
    (hdb : (x == ("__debug__" : Str)) = false := by decide) : PE X (.Call (.Name x p) [] [] pos) (tMake C sp dvs E tNil) := by
  intro pins s σ H Q I h
  refine wpAny_Call_Name_kw (ld_glob I hg hm ?_ hdb)
  exact PySem.W.callWith_K0 I.kIn M.kp (run_make (us := []) M F hr hb hd hx I .nil h)
end

/-! ### keywords -/
/-- the values of the keywords, from the left -/
def PK (X : Cx) (kws : List Keyword) (t : TA) : Prop :=
  ∀ (pos : Pos) (pins : List (Addr × Obj)) (s : Shared) (σ : St) (H : Hp) (Q : List V → Hp → Prop), Inv X pins σ H s → t σ H Q → wpAny (model X.prog X.w) X.A (evalAll ((backToKw pos (keywordEach kws X.env)).map (·.2))) (AP X pins σ Q) X.xe s
section
variable {X : Cx} {CX : CXT} {k : Nat} {f C : Addr} {fd : FuncData} {ps ks : List Str} {sp : Sp} {E : XK} {x m : Str} {p pos apos kpos : Pos} {e o : Expr} {es : List Expr} {kws : List Keyword} {te ta : TE} {t tk : TA} {nm : Option Str}
theorem pk_nil : PK X [] tNil := fun _ _ _ _ H Q I h => wpAny_evalAll_nil ⟨[], H, I, .nil, h⟩
theorem pk_cons (ha : PE X e te) (hr : PK X kws t) : PK X (⟨nm, e, kpos⟩ :: kws) (tCons te t) := by
  intro pos pins s σ H Q I h
  show wpAny _ _ (evalAll ((do let v ← eval e X.env; standAt pos; pure v) :: (backToKw pos (keywordEach kws X.env)).map (·.2))) _ _ s
  refine wpAny_evalAll_cons (wpAny_bind (thn (ha pins s σ H _ I h) fun u s1 ⟨x, H1, I1, r1, q1⟩ => wpAny_bind (wpAny_standAt (wpAny_pure ?_))))
  exact thn (hr pos pins s1 σ H1 _ I1 q1) fun us s2 ⟨xs, H2, I2, r2, q2⟩ => ⟨x :: xs, H2, I2, .cons r1 r2, q2⟩

/-- how a call with keywords binds: g puts the positional values us and the keywords' values ws (names ks) in the parameters' order, defaults among them -/
structure KBinds (K : PySem.W.Frag) (fd : FuncData) (ps ks : List Str) (g : List Value → List Value → List Value) (gV : List V → List V → List V) : Prop where
  to : ∀ (s : Shared) (us ws : List Value), K.In s.heap → (g us ws).length = ps.length → BindsTo s fd ⟨us, ks.zip ws⟩ (ps.zip (g us ws))
  rel : ∀ {vs : List V} {us : List Value} {zs : List V} {ws : List Value}, Vals vs us → Vals zs ws → Vals (gV vs zs) (g us ws)
def tCallK (sp : Sp) (gV : List V → List V → List V) (E : XK) (t tk : TA) : TE := fun σ H Q => t σ H fun vs H1 => tk σ H1 fun zs H2 => sp (gV vs zs) H2 Q E
variable {g : List Value → List Value → List Value} {gV : List V → List V → List V}
theorem run_fnk {pins : List (Addr × Obj)} {σ : St} {H : Hp} {s : Shared} {Q : VK} {us ws : List Value} {vs zs : List V} (F : FnOk X.prog X.w X.K X.mg X.base CX k f fd ps sp) (hr : Room k X.A) (hb : KBinds X.K fd ps ks g gV) (hx : Passes CX X E)
    (I : Inv X pins σ H s) (r : Vals vs us) (rz : Vals zs ws) (h : sp (gV vs zs) H Q E) : wpAny (model X.prog X.w) X.A (call (.ref f) us (ks.zip ws)) (EP X pins σ Q) X.xe s := by
  have r2 := hb.rel r rz
  have hl : (g us ws).length = ps.length := by rw [← r2.length]; exact F.len _ _ _ _ h
  refine wpAny_call (codeAny_mono (F.run X.A X.stack s H ⟨us, ks.zip ws⟩ (g us ws) (gV vs zs) Q E hr I.env0 (hb.to s us ws I.kIn hl) r2 h) fun r s' hq => ?_)
  cases r with
  | error e => exact hx pins σ H s e s' I hq
  | ok fl =>
    cases fl with
    | ret u => exact I.after hq
    | next => exact False.elim hq
    | brk => exact False.elim hq
    | cont => exact False.elim hq
/-- f(e, .., k = v, ..) -/
theorem pe_callK (F : FnOk X.prog X.w X.K X.mg X.base CX k f fd ps sp) (hr : Room k X.A) (hg : Gl X x) (hm : X.mg x = some (.ref f)) (hk : PySem.W.keepIn X.K (.ref f) = true) (hb : KBinds X.K fd ps ks g gV) (hx : Passes CX X E)
    (ha : PA X (e :: es) t) (hkw : PK X kws tk) (hall : (backToKw pos (keywordEach kws X.env)).all (·.1.isSome) = true := by rfl) (hks : (backToKw pos (keywordEach kws X.env)).filterMap (·.1) = ks := by rfl)
    (hdb : (x == ("__debug__" : Str)) = false := by decide) (he : starEach (e :: es) X.env = (false, eval e X.env) :: starEach es X.env := by rfl)
    (hpl : ((backTo pos (starEach (e :: es) X.env)).any (·.1) || (backToKw pos (keywordEach kws X.env)).any (·.1.isNone)) = false := by rfl) :
    PE X (.Call (.Name x p) (e :: es) kws pos) (tCallK sp gV E t tk) := by
  intro pins s σ H Q I h
  refine wpAny_Call_Name_kw (ld_glob I hg hm ?_ hdb)
  refine PySem.W.callWith_KW (h₀ := X.base) I.ok.mod.kin hk hall (thn (ha pos pins s σ H _ I h) fun us s1 ⟨vs, H1, I1, r, q⟩ => ?_) hpl he
  refine thn (hkw pos pins s1 σ H1 _ I1 q) fun ws s2 ⟨zs, H2, I2, rz, q2⟩ => ⟨I2.kIn, ?_⟩
  rw [hks]
  exact run_fnk F hr hb hx I2 r rz q2
end

/-! ### a def's body keeps its promise -/
/-- names: the parameters first -/
structure FnScope (N P : List Str) (sc : Scope) : Prop where
  kind : sc.kind = .function
  co : sc.isCoroutine = false
  gen : sc.isGenerator = false
  nd : N.Nodup
  pre : N.take P.length = P
  par : ∀ x ∈ P, sc.names.lookup x = some .local ∨ sc.names.lookup x = some .cell
  nofree : ∀ y ∈ sc.names, y.2 ≠ .free

theorem bindL_out {kindOf : Str → Option NameKind} {x : Str} : ∀ {binds : List (Str × Value)} {m : Str → Option Value}, (∀ v, (x, v) ∉ binds) → bindL kindOf binds m x = m x
  | [], _, _ => rfl
  | (n, v) :: r, m, h => by
    unfold bindL
    rw [bindL_out fun w hw => h w (List.mem_cons_of_mem _ hw)]
    split
    · have : x ≠ n := by rintro rfl; exact h v List.mem_cons_self
      simp [this]
    · rfl
theorem bindC_out {kindOf : Str → Option NameKind} {x : Str} : ∀ {binds : List (Str × Value)} {m : Str → Option Value}, (∀ v, (x, v) ∉ binds) → bindC kindOf binds m x = m x
  | [], _, _ => rfl
  | (n, v) :: r, m, h => by
    unfold bindC
    rw [bindC_out fun w hw => h w (List.mem_cons_of_mem _ hw)]
    split
    · rfl
    · have : x ≠ n := by rintro rfl; exact h v List.mem_cons_self
      simp [this]
theorem bindL_get {kindOf : Str → Option NameKind} {x : Str} {v : Value} : ∀ {P : List Str} {vs : List Value} {i : Nat} {m : Str → Option Value}, P.Nodup → P[i]? = some x → vs[i]? = some v → kindOf x = some .local →
    bindL kindOf (P.zip vs) m x = some v
  | [], _, _, _, _, h, _, _ => by simp at h
  | _ :: _, [], _, _, _, _, h, _ => by simp at h
  | p :: P, w :: vs, 0, m, nd, h1, h2, hk => by
    simp at h1 h2; subst h1; subst h2
    show bindL kindOf ((p, w) :: P.zip vs) m p = _
    unfold bindL
    rw [bindL_out fun v hv => (List.nodup_cons.mp nd).1 (List.of_mem_zip hv).1, if_pos hk]
    simp
  | p :: P, w :: vs, i + 1, m, nd, h1, h2, hk => by
    show bindL kindOf ((p, w) :: P.zip vs) m x = _
    unfold bindL
    exact bindL_get (i := i) (List.nodup_cons.mp nd).2 (by simpa using h1) (by simpa using h2) hk
theorem bindC_get {kindOf : Str → Option NameKind} {x : Str} {v : Value} : ∀ {P : List Str} {vs : List Value} {i : Nat} {m : Str → Option Value}, P.Nodup → P[i]? = some x → vs[i]? = some v → kindOf x ≠ some .local →
    bindC kindOf (P.zip vs) m x = some v
  | [], _, _, _, _, h, _, _ => by simp at h
  | _ :: _, [], _, _, _, _, h, _ => by simp at h
  | p :: P, w :: vs, 0, m, nd, h1, h2, hk => by
    simp at h1 h2; subst h1; subst h2
    show bindC kindOf ((p, w) :: P.zip vs) m p = _
    unfold bindC
    rw [bindC_out fun v hv => (List.nodup_cons.mp nd).1 (List.of_mem_zip hv).1, if_neg hk]
    simp
  | p :: P, w :: vs, i + 1, m, nd, h1, h2, hk => by
    show bindC kindOf ((p, w) :: P.zip vs) m x = _
    unfold bindC
    exact bindC_get (i := i) (List.nodup_cons.mp nd).2 (by simpa using h1) (by simpa using h2) hk

/-- the names' values at the entry -/
def start (N : List Str) (vs : List V) : St := vs.map some ++ List.replicate (N.length - vs.length) none

/-- the context of a def's body, at its entry; an exception leaves the frame, then lies as CX says -/
def cxOf (CX : CXT) (P : Program) (w : World) (K : PySem.W.Frag) (mg : Str → Option Value) (base : Heap) (N : List Str) (qual : Str) (scope : Scope) (f : Addr) (cd : Value) (A : Around) (outer : List Env) (s : Shared) (H : Hp) (E : XK) : Cx where
  prog := P
  w := w
  K := K
  mg := mg
  base := base
  A := A.deeper (envOfC qual scope s.heap.objs.size f cd)
  N := N
  s₀ := s
  H₀ := H
  env := envOfC qual scope s.heap.objs.size f cd
  outer := outer
  stack := envOfC qual scope s.heap.objs.size f cd :: outer
  ex := []
  calm := true
  fn := fun _ => true
  pn := []
  xe := fun e s' => wpAny (model P w) (A.deeper (envOfC qual scope s.heap.objs.size f cd)) (leaving (envOfC qual scope s.heap.objs.size f cd) e) (fun _ s'' => CX outer H s E e s'') (fun e' s'' => CX outer H s E e' s'') s'

theorem cell_has {sc : Scope} {n : Nat} {x : Str} (h : sc.names.lookup x = some .cell) : ∃ c, (cellsFrom n sc.names []).lookup x = some c := by
  have q := PySem.W.cellsFrom_some sc.names n [] (.inl h)
  exact Option.isSome_iff_exists.mp q

theorem inv_start {CX : CXT} {P : Program} {w : World} {K : PySem.W.Frag} {mg : Str → Option Value} {base : Heap} {N ps : List Str} {qual : Str} {scope : Scope} {f : Addr} {cd : Value} {A : Around} {outer : List Env} {s s1 : Shared} {H : Hp} {E : XK} {us : List Value} {vs : List V}
    (S : FnScope N ps scope) (hd : A.handled = none) (e0 : Env0 P w K mg base A outer s H) (hl : vs.length = ps.length) (r : Vals vs us)
    (x : InCallC s s.heap.objs.size (bindL (envOfC qual scope s.heap.objs.size f cd).kindOf (ps.zip us) fun _ => none) (cellsFrom (s.heap.objs.size + 1) scope.names []) (bindC (envOfC qual scope s.heap.objs.size f cd).kindOf (ps.zip us) fun _ => none) s1) :
    Inv (cxOf CX P w K mg base N qual scope f cd A outer s H E) [] (start N vs) H s1 := by
  have hpl : ps.length ≤ N.length := by have := congrArg List.length S.pre; rw [List.length_take] at this; omega
  obtain ⟨h1, tk, rfl, hk⟩ := x.done
  have noA : ∀ b : Addr, b ∉ (cxOf CX P w K mg base N qual scope f cd A outer s H E).ex := fun b z => absurd (show b ∈ ([] : List Addr) from z) (by simp)
  refine ⟨⟨e0.mod, S.kind, rfl, rfl, Nat.le_refl _, fun y z c h1 h2 => ?_, fun y hy => ?_, fun y c _ h => ?_, fun _ => hd, Around.frames_deeper e0.frames, .inr ⟨rfl, rfl⟩, fun b z => absurd z (noA b), e0.bs, e0.bsz, fun b _ _ => noA b, fun b z => absurd z (noA b), e0.funs, e0.frf⟩,
    rfl, e0.bare, Un.kept hk, ⟨_, x.toInCall.ns, fun i y v h1 h2 h3 => ?_⟩, fun y c h => ⟨_, x.cell y c h⟩, e0.hok.fresh (Nat.le_refl _), fun y c h => ?_, fun p hp => absurd (show p ∈ ([] : List (Addr × Obj)) from hp) (by simp), e0.hok.kept hk, ?_⟩
  · exact name_of_addr x.apart (PySem.mem_of_lookup h1) (PySem.mem_of_lookup h2)
  · have hy : scope.names.lookup y = some .cell ∨ scope.names.lookup y = some .free := hy
    rcases hy with hy | hy
    · exact cell_has hy
    · exact absurd rfl (S.nofree _ (PySem.mem_of_lookup hy))
  · exact Nat.le_of_lt (x.above y c (PySem.mem_of_lookup h))
  · have hi : i < vs.length := by
      unfold start at h2
      by_cases hi : i < vs.length
      · exact hi
      · rw [List.getElem?_append_right (by simpa using hi)] at h2
        rw [List.getElem?_replicate] at h2
        split at h2 <;> cases h2
    have ha : vs[i]? = some v := by
      unfold start at h2
      rw [List.getElem?_append_left (by simpa using hi), List.getElem?_map] at h2
      cases e : vs[i]? with
      | none => rw [e] at h2; cases h2
      | some a => rw [e] at h2; cases h2; rfl
    obtain ⟨u, hu, rv⟩ := r.get ha
    have hp : ps[i]? = some y := by
      rw [← S.pre, List.getElem?_take_of_lt (by omega)]; exact h1
    have ndP : ps.Nodup := by rw [← S.pre]; exact S.nd.sublist (List.take_sublist _ _)
    refine ⟨u, rv, ?_⟩
    rcases S.par y (List.mem_of_getElem? hp) with k | k
    · exact .inl ⟨k, bindL_get ndP hp hu k⟩
    · obtain ⟨c, e⟩ := cell_has (n := s.heap.objs.size + 1) k
      refine .inr ⟨.inl k, c, e, ?_⟩
      have q := x.cell y c e
      rw [bindC_get ndP hp hu (by show scope.names.lookup y ≠ _; rw [k]; decide)] at q
      exact q
  · exact e0.hok.fresh (Nat.le_of_lt (x.above y c (PySem.mem_of_lookup h)))
  · unfold start
    show _ = N.length
    rw [List.length_append, List.length_map, List.length_replicate]
    omega

/-- THE RULE: a def (or a method) of the text, by its body. The body's reading t is chosen for each entry; it is run at the parameters' values -/
theorem fn_of {CX : CXT} {P : Program} {w : World} {K : PySem.W.Frag} {mg : Str → Option Value} {base : Heap} {k : Nat} {f : Addr} {name qual : Str} {params : Arguments} {body : List Stmt} {scope : Scope} {dV kV doc pm cdv ct oc : Value} {an od : Option Addr}
    {osl : Array (Option Value)} {N ps : List Str} {sp : Sp} (lk : K.lookup f = some ⟨oc, od, .func (PySem.W.fnOf name qual params body scope dV kV doc pm an cdv ct), osl⟩) (hcd : PySem.W.codeIn K cdv qual = true) (S : FnScope N ps scope)
    (len : ∀ vs H Q E, sp vs H Q E → vs.length = ps.length)
    (hbody : ∀ (A : Around) (outer : List Env) (s : Shared) (H : Hp) (vs : List V) (Q : VK) (E : XK), Room k (A.deeper (envOfC qual scope s.heap.objs.size f cdv)) → sp vs H Q E →
      ∃ t, PSs (cxOf CX P w K mg base N qual scope f cdv A outer s H E) body t ∧ t { nx := fun _ H' => Q .non H', rt := Q } (start N vs) H) :
    FnOk P w K mg base CX (k + 1) f (PySem.W.fnOf name qual params body scope dV kV doc pm an cdv ct) ps sp := by
  refine ⟨len, fun A outer s H args us vs Q E hr e0 hb r hsp => ?_⟩
  have hl := len _ _ _ _ hsp
  have KX : K.In s.heap := e0.mod.kin.keeps fun b o e => (e0.bs b o e).1
  have lim : s.heap.NoLimit := e0.mod.nolimit.keeps fun b o e => (e0.bs b o e).1
  have hkind : ∀ y ∈ ps.zip us, scope.names.lookup y.1 = some .local ∨ (scope.names.lookup y.1 = some .cell ∧ ((cellsFrom (s.heap.objs.size + 1) scope.names []).lookup y.1).isSome = true) := fun ⟨n, v⟩ hy => by
    rcases S.par n (List.of_mem_zip hy).1 with q | q
    · exact .inl q
    · exact .inr ⟨q, PySem.W.cellsFrom_some _ _ _ (.inl q)⟩
  refine codeAny_call_function hr.depth (KX _ _ lk) rfl S.co S.gen rfl (PySem.W.codeRec_of KX hcd) (hb _ _ _ _ ?_)
  refine wpAny_newFunctionEnv_cells S.kind hkind fun env he s1 x => ?_
  subst he
  refine ⟨lim.keeps x.toInCall.keep, codeAny_func ?_⟩
  obtain ⟨t, ht, hq⟩ := hbody A outer s H vs Q E (hr.deeper _) hsp
  have I : Inv (cxOf CX P w K mg base N qual scope f cdv A outer s H E) [] (start N vs) H s1 := inv_start S hr.hd e0 hl r x
  refine wpAny_mono (ht [] s1 (start N vs) H _ I hq) (fun fl s' hs => ?_) fun e s' hs => hs
  have fin : ∀ {σ' : St} {H' : Hp} {v : V} {u : Value}, Inv (cxOf CX P w K mg base N qual scope f cdv A outer s H E) [] σ' H' s' → RelV v u → Q v H' → CE outer P w H s Q u s' :=
    fun {σ' H' v u} J rv q => ⟨v, H', J.os, J.bare, J.base, J.hok, rv, q⟩
  cases fl with
  | ret u =>
    obtain ⟨v, σ', H', J, rv, q⟩ := hs
    exact fin J rv q
  | next =>
    obtain ⟨σ', H', J, q⟩ := hs
    exact fin (v := V.non) (u := Value.none) J rfl q
  | brk =>
    obtain ⟨_, _, _, q⟩ := hs
    exact False.elim q
  | cont =>
    obtain ⟨_, _, _, q⟩ := hs
    exact False.elim q
end L2

namespace L2
open PySem PySem.Spec PyProof.Rows
section
variable {X : Cx} {x : Str} {p pos : Pos} {e : Expr} {es : List Expr} {t : TA} {id T : String} {r : List V → Hp → VK → Prop}

def tCB (r : List V → Hp → VK → Prop) (t : TA) : TE := fun σ H Q => t σ H fun vs H1 => r vs H1 Q
/-- f(e, ..), f a built-in function -/
theorem pe_callB (hc : CallR X (.builtin id) r) (hg : Gl X x) (hm : X.mg x = none) (hv : bootBuiltins x = some (.builtin id)) (ha : PA X (e :: es) t) (hn : x ≠ "__name__" := by decide) (hdb : (x == ("__debug__" : Str)) = false := by decide)
    (he : starEach (e :: es) X.env = (false, eval e X.env) :: starEach es X.env := by rfl) (hpl : (backTo pos (starEach es X.env)).any (·.1) = false := by rfl) : PE X (.Call (.Name x p) (e :: es) [] pos) (tCB r t) := by
  intro pins s σ H Q I h
  refine wpAny_Call_Name_kw (ld_blt I hg hm hv ?_ hn hdb)
  exact PyProof.Rows.callWith_builtin1 (thn (ha pos pins s σ H _ I h) fun us s1 ⟨vs, H1, I1, r1, q1⟩ => hc pins s1 σ H1 vs us Q I1 r1 q1) he hpl
/-- T(e, ..), T a built-in type -/
theorem pe_callTy (hc : CallR X (.type T) r) (hg : Gl X x) (hm : X.mg x = none) (hv : bootBuiltins x = some (.type T)) (ha : PA X (e :: es) t) (hn : x ≠ "__name__" := by decide) (hdb : (x == ("__debug__" : Str)) = false := by decide)
    (he : starEach (e :: es) X.env = (false, eval e X.env) :: starEach es X.env := by rfl) (hpl : (backTo pos (starEach es X.env)).any (·.1) = false := by rfl) : PE X (.Call (.Name x p) (e :: es) [] pos) (tCB r t) := by
  intro pins s σ H Q I h
  refine wpAny_Call_Name_kw (ld_blt I hg hm hv ?_ hn hdb)
  exact PyProof.Rows.callWith_type1 (thn (ha pos pins s σ H _ I h) fun us s1 ⟨vs, H1, I1, r1, q1⟩ => hc pins s1 σ H1 vs us Q I1 r1 q1) he hpl
/-- T() -/
theorem pe_callTy0 (hc : CallR X (.type T) r) (hg : Gl X x) (hm : X.mg x = none) (hv : bootBuiltins x = some (.type T)) (hn : x ≠ "__name__" := by decide) (hdb : (x == ("__debug__" : Str)) = false := by decide) :
    PE X (.Call (.Name x p) [] [] pos) (tCB r tNil) := by
  intro pins s σ H Q I h
  refine wpAny_Call_Name_kw (ld_blt I hg hm hv ?_ hn hdb)
  exact PyProof.Rows.callWith_type0 (hc pins s σ H [] [] Q I .nil h)
end
end L2

namespace HT
open PySem PyProof.Rows

/-- t < u of tuples of ints -/
def lexLt : List Int → List Int → Bool
  | [], [] => false
  | [], _ :: _ => true
  | _ :: _, [] => false
  | x :: xs, y :: ys => if x = y then lexLt xs ys else decide (x < y)
theorem lexLt_cons (x y : Int) (xs ys : List Int) : lexLt (x :: xs) (y :: ys) = if x = y then lexLt xs ys else decide (x < y) := rfl
theorem lexLt_nil_nil : lexLt [] [] = false := rfl
theorem lexLt_nil_cons (y : Int) (ys : List Int) : lexLt [] (y :: ys) = true := rfl
theorem lexLt_cons_nil (x : Int) (xs : List Int) : lexLt (x :: xs) [] = false := rfl

theorem eqAt_int (A : Around) (s : Shared) (a : Int) (t : Tok) (c : Int) (u : Tok) : ∃ e, SeqAt.EqAt A s (.int a t) (.int c u) e ∧ (e = true ↔ a = c) :=
  ⟨(a == c), SeqAt.EqAt.int_int a t c u, by simp⟩
theorem rcLt_int (A : Around) (s : Shared) (a : Int) (t : Tok) (c : Int) (u : Tok) (prog : Program) (w : World) (E : Value → Shared → Prop) (Q : Value → Shared → Prop) (h : Q (.bool (decide (a < c))) s) :
    wpAny (model prog w) A (richCompare .Lt (.int a t) (.int c u)) Q E s :=
  (PyProof.Rows.lt_int h : wpAny (model prog w) A (compareOp .Lt (.int a t) (.int c u)) Q E s)

section
open PySem.SeqAt
open PySem.AutoSeq1 (wpAny_loadPart')
open PySem.MeetsSeq PySem.MeetsSeq2 PySem.MeetsSeq3

theorem tuple_lt_ints (l b : Addr) (items items2 : Array Value) (n n2 : Nat) (dd dd2 : Option Addr) (sl sl2 : Array (Option Value)) (ns ms : List Int) (hi : IntsAre items.toList ns) (hj : IntsAre items2.toList ms) :
    Meets (Builtin.«tuple.__lt__» ⟨[.ref l, .ref b], []⟩)
      (fun _ R s => s.heap.get? l = some { cls := .type "tuple", dict := dd, data := .seq items n, slots := sl } ∧ s.heap.get? b = some { cls := .type "tuple", dict := dd2, data := .seq items2 n2, slots := sl2 } ∧
        R (.ok (.ret (.bool (lexLt ns ms)))) s) :=
  .of_wp fun prog w A R s h => by
    obtain ⟨hp, g, d, tk, os⟩ := s; obtain ⟨hl, hb, h⟩ := h
    have f2 := AutoSeq1.sub_tuple_tuple
    have z1 : items.size = ns.length := by rw [← hi.length]; simp
    have z2 : items2.size = ms.length := by rw [← hj.length]; simp
    wp_walk using wpAny_loadPart' hl, wpAny_loadPart' hb, wpAny_forIn_list _ (fun rest b s' => b.1 = none ∧ s' = ⟨hp, g, d, tk, os⟩ ∧ ∃ (vs ws : List Value) (ns' ms' : List Int), rest = vs.zip ws ∧
      IntsAre vs ns' ∧ IntsAre ws ms' ∧ ns'.length + items2.size = ms'.length + items.size ∧ R (.ok (.ret (.bool (lexLt ns' ms')))) ⟨hp, g, d, tk, os⟩) _
    case turn =>
      rintro ⟨y, x⟩ rest b s' ⟨hb', rfl, vs, ws, ns', ms', hz, hvi, hwi, hlen, hR⟩
      cases hvi with
      | nil => rw [List.zip_nil_left] at hz; cases hz
      | cons a t hvi' =>
        cases hwi with
        | nil => rw [List.zip_nil_right] at hz; cases hz
        | cons c u hwi' =>
          rw [List.zip_cons_cons] at hz
          injection hz with hyx hrest
          injection hyx with hy hx
          subst hy hx
          rw [lexLt_cons] at hR
          simp only [List.length_cons] at hlen
          obtain ⟨e, he, hiff⟩ := eqAt_int A.in1 ⟨hp, g, d, tk, os⟩ a t c u
          refine wpAny_bind (he prog w _ _ ?_)
          cases e with
          | true =>
            rw [if_pos (hiff.mp rfl)] at hR
            wp_walk
            exact ⟨rfl, rfl, _, _, _, _, hrest, hvi', hwi', by omega, hR⟩
          | false =>
            rw [if_neg (fun q => absurd (hiff.mpr q) Bool.false_ne_true)] at hR
            have hri := rcLt_int A.in1 ⟨hp, g, d, tk, os⟩ a t c u prog w
            wp_walk using hri
            exact ⟨_, rfl, by simpa using hR⟩
    case fin =>
      rintro ⟨b1, b2⟩ s' ⟨hb', rfl, vs, ws, ns', ms', hz, hvi, hwi, hlen, hR⟩
      simp only at hb'
      subst hb'
      have hv : lexLt ns' ms' = decide (items.size < items2.size) := by
        cases hvi with
        | nil =>
          cases hwi with
          | nil =>
            simp only [List.length_nil] at hlen
            rw [lexLt_nil_nil]
            exact (decide_eq_false (by omega)).symm
          | cons c u hw =>
            simp only [List.length_nil, List.length_cons] at hlen
            rw [lexLt_nil_cons]
            exact (decide_eq_true (by omega)).symm
        | cons a t hv =>
          cases hwi with
          | nil =>
            simp only [List.length_nil, List.length_cons] at hlen
            rw [lexLt_cons_nil]
            exact (decide_eq_false (by omega)).symm
          | cons c u hw =>
            rw [List.zip_cons_cons] at hz
            cases hz
      rw [hv] at hR
      wp_walk
      exact ⟨_, rfl, by simpa [Builtin.Tuple.tupleCompareSizes] using hR⟩
    case h =>
      exact ⟨rfl, rfl, items.toList, items2.toList, ns, ms, rfl, hi, hj, by omega, h⟩
end

section
variable {prog : Program} {w : World} {A : Around} {E : Value → Shared → Prop} {s : Shared}

theorem lt_tupInts {l b : Addr} {items items2 : Array Value} {ns ms : List Int} {Q : Value → Shared → Prop} (hl : IsTup s.heap l items) (hb : IsTup s.heap b items2) (hi : IntsAre items.toList ns) (hj : IntsAre items2.toList ms)
    (hu : A.units < cLine) (h : Q (.bool (lexLt ns ms)) s) : wpAny (model prog w) A (compareOp .Lt (.ref l) (.ref b)) Q E s := by
  obtain ⟨⟨cls, dd, data, sl⟩, ho, hc, n, hd⟩ := id hl
  obtain ⟨⟨cls2, dd2, data2, sl2⟩, ho2, hc2, n2, hd2⟩ := id hb
  simp only at hc hd hc2 hd2
  subst hc hd hc2 hd2
  exact richCompare_meets_room (op := .Lt) ⟨_, ho, rfl⟩ ⟨_, ho2, rfl⟩ PySem.F.slot_tuple_lt PySem.F.entry_tuple_lt (PySem.F.args_tuple_lt_2 _ _) (tuple_lt_ints l b items items2 n n2 dd dd2 sl sl2 ns ms hi hj)
    ⟨ho, ho2, show Value.bool (lexLt ns ms) ≠ Value.notImplemented ∧ Q (.bool (lexLt ns ms)) s from ⟨(fun x => nomatch x), h⟩⟩ hu

/-- t + u, t not empty -/
theorem cat_tup {t b : Addr} {vs ws : List Value} {Q : Value → Shared → Prop} (ht : IsTup s.heap t vs.toArray) (hb : IsTup s.heap b ws.toArray) (hv : vs ≠ [])
    (h1 : ws = [] → Q (.ref t) s) (h2 : ws ≠ [] → Q (.ref s.heap.objs.size) { s with heap := s.heap.push { cls := .type "tuple", data := .seq (vs ++ ws).toArray } })
    (hsz : vs.length + ws.length ≤ sizeLine) : wpAny (model prog w) A (binaryOp .Add (.ref t) (.ref b)) Q E s := by
  obtain ⟨⟨cls, dd, data, sl⟩, ho, hc, n, hd⟩ := id ht
  obtain ⟨⟨cls2, dd2, data2, sl2⟩, ho2, hc2, n2, hd2⟩ := id hb
  simp only at hc hd hc2 hd2
  subst hc hd hc2 hd2
  have e : vs.toArray ++ ws.toArray = (vs ++ ws).toArray := by simp
  by_cases hw : ws = []
  · exact concat_meets ⟨_, ho, rfl⟩ ⟨_, ho2, rfl⟩ noFill_tuple_add seq_tuple_add PySem.F.slot_tuple_add PySem.F.entry_tuple_add (PySem.F.args_tuple_add_2 _ _)
      (tuple_addW1 t b vs.toArray ws.toArray n n2 dd dd2 sl sl2 (by simpa using hv) (by simp [hw])) ⟨ho, ho2, h1 hw⟩
  · refine concat_meets ⟨_, ho, rfl⟩ ⟨_, ho2, rfl⟩ noFill_tuple_add seq_tuple_add PySem.F.slot_tuple_add PySem.F.entry_tuple_add (PySem.F.args_tuple_add_2 _ _)
      (tuple_addW2 t b vs.toArray ws.toArray n n2 dd dd2 sl sl2 (by simpa using hv) (by simpa using hw) (by rw [List.size_toArray, List.size_toArray]; exact hsz)) ⟨ho, ho2, ?_⟩
    rw [e]
    exact h2 hw

/-! ### t[a:b], not the whole -/
/-- a slice's bound as a place among n (d where it is left out) -/
def sIx (n d : Nat) : Option Int → Nat
  | none => d
  | some v => if v < 0 then (v + (n : Int)).toNat else min v.toNat n
theorem sIx_none (n d : Nat) : sIx n d none = d := rfl
theorem sIx_nat (n d k : Nat) : sIx n d (some (k : Int)) = min k n := by
  show (if (k : Int) < 0 then ((k : Int) + (n : Int)).toNat else min (k : Int).toNat n) = min k n
  rw [if_neg (by omega), Int.toNat_natCast]
theorem sIx_le (n d : Nat) (hd : d ≤ n) (o : Option Int) : sIx n d o ≤ n := by
  cases o with
  | none => exact hd
  | some v =>
    show (if v < 0 then (v + (n : Int)).toNat else min v.toNat n) ≤ n
    by_cases hv : v < 0
    · rw [if_pos hv]; omega
    · rw [if_neg hv]; exact Nat.min_le_right _ _
theorem clip_eq (v : Int) (n d : Nat) : (if v < 0 then max (v + (n : Int)) 0 else min v (n : Int)) = ((sIx n d (some v) : Nat) : Int) := by
  show (if v < 0 then max (v + (n : Int)) 0 else min v (n : Int)) = (((if v < 0 then (v + (n : Int)).toNat else min v.toNat n) : Nat) : Int)
  by_cases hv : v < 0
  · simp only [if_pos hv]; omega
  · simp only [if_neg hv]; omega
theorem adjust_gen (lo hi : Option Int) (n : Nat) : Builtin.Slice.sliceAdjust lo hi 1 (n : Int) = (((sIx n 0 lo : Nat) : Int), ((sIx n n hi : Nat) : Int)) := by
  have h1 : ¬ ((1 : Int) < 0) := by omega
  unfold Builtin.Slice.sliceAdjust
  simp only [h1, if_false]
  refine Prod.ext ?_ ?_
  · cases lo with
    | none => rfl
    | some v => exact clip_eq v n 0
  · cases hi with
    | none => rfl
    | some v => exact clip_eq v n n
theorem places_gen (i j : Nat) : Builtin.Slice.slicePlaces (i : Int) (j : Int) 1 = j - i := by
  unfold Builtin.Slice.slicePlaces
  have h1 : (1 : Int) > 0 := by omega
  simp only [h1, if_true, Int.ediv_one]
  split <;> omega
theorem slicePart_ {v : Value} {o : Option Int} {Q : Option Int → Shared → Prop} (p : IsPart v o) (h : Q o s) : wpAny (model prog w) A (Builtin.Slice.slicePartIndex v) Q E s := by
  cases p with
  | none => exact slicePart_none h
  | int i t => exact slicePart_int h
theorem sliceApplied_gen {sl : Addr} {vl vu : Value} {lo hi : Option Int} {n : Nat} {Q : Int × Int × Nat → Shared → Prop} (hs : s.heap.IsSliceOf sl vl vu .none) (pl : IsPart vl lo) (pu : IsPart vu hi)
    (h : Q (((sIx n 0 lo : Nat) : Int), 1, sIx n n hi - sIx n 0 lo) s) : wpAny (model prog w) A (Builtin.Slice.sliceApplied (.ref sl) (pure (n : Int))) Q E s := by
  obtain ⟨os, hos, hcs, hds⟩ := id hs
  unfold Builtin.Slice.sliceApplied Builtin.Slice.sliceFields
  refine wpAny_bind (wpAny_bind (wpAny_field hos hds (x := vl) rfl (wpAny_bind (wpAny_field hos hds (x := vu) rfl (wpAny_bind (wpAny_field hos hds (x := .none) rfl (wpAny_pure ?_)))))))
  refine wpAny_bind (slicePart_none ?_)
  show wpAny _ _ (if ((1 : Int) == 0) = true then _ else _) _ _ s
  rw [if_neg (by decide)]
  refine wpAny_bind (slicePart_ pl (wpAny_bind (slicePart_ pu (wpAny_bind (wpAny_pure ?_)))))
  show wpAny _ _ (match Builtin.Slice.sliceAdjust lo hi 1 (n : Int) with | (lo, hi) => pure (lo, (1 : Int), Builtin.Slice.slicePlaces lo hi 1)) _ _ s
  rw [adjust_gen lo hi n]
  show wpAny _ _ (pure (((sIx n 0 lo : Nat) : Int), (1 : Int), Builtin.Slice.slicePlaces ((sIx n 0 lo : Nat) : Int) ((sIx n n hi : Nat) : Int) 1)) _ _ s
  rw [places_gen]
  exact wpAny_pure h
theorem pick_gen (xs : Array Value) (i k : Nat) : ((List.range k).filterMap fun (m : Nat) => xs[((i : Int) + (m : Int) * 1).toNat]?).toArray = ((xs.toList.drop i).take k).toArray := by
  have e : (fun (m : Nat) => xs[((i : Int) + (m : Int) * 1).toNat]?) = fun m => xs[i + m]? := by
    funext m
    have : ((i : Int) + (m : Int) * 1).toNat = i + m := by omega
    rw [this]
  rw [e]
  have := pick_run xs i k
  rw [List.filterMap_map] at this
  have e2 : ((fun x => xs[x]?) ∘ fun x => i + x) = fun m => xs[i + m]? := rfl
  rw [e2] at this
  rw [this]

theorem getItem_tuple_cut {t sl : Addr} {items : Array Value} {vl vu : Value} {lo hi : Option Int} {Q : Value → Shared → Prop} (ht : IsTup s.heap t items) (hs : s.heap.IsSliceOf sl vl vu .none) (pl : IsPart vl lo) (pu : IsPart vu hi)
    (hw : ¬ (sIx items.size 0 lo = 0 ∧ sIx items.size items.size hi = items.size))
    (h : Q (.ref s.heap.objs.size) { s with heap := s.heap.push { cls := .type "tuple", data := .seq ((items.toList.drop (sIx items.size 0 lo)).take (sIx items.size items.size hi - sIx items.size 0 lo)).toArray } })
    (hsz : items.size ≤ sizeLine) : wpAny (model prog w) A (getItem (.ref t) (.ref sl)) Q E s := by
  have htake : sizeOk (.seq ((items.toList.drop (sIx items.size 0 lo)).take (sIx items.size items.size hi - sIx items.size 0 lo)).toArray) := by
    show ((items.toList.drop (sIx items.size 0 lo)).take (sIx items.size items.size hi - sIx items.size 0 lo)).toArray.size ≤ sizeLine
    rw [List.size_toArray, List.length_take, List.length_drop, Array.length_toList]
    omega
  have hj : sIx items.size items.size hi ≤ items.size := sIx_le _ _ (Nat.le_refl _) hi
  obtain ⟨os, hos, hcs, hds⟩ := id hs
  have hTs : s.TypeIs (.ref sl) "slice" := ⟨os, hos, hcs⟩
  unfold getItem
  try with_reducible refine wpAny_holding ?_
  first | refine wpAny_bind (wpAny_pure ?_) | skip
  refine wpAny_bind (wpAny_sequenceKey ht.typeIs (by decide) ?_)
  refine wpAny_bind (wpAny_callSpecial?_slot (name := Str.ofString "__getitem__") ht.typeIs PyProof.Rows.slot_tuple_getitem
    (wpAny_call_entry PyProof.Rows.slot_tuple_getitem ht.typeIs entry_tuple_getitem ?_ (args_tuple_getitem _ _)))
  show wpAny _ _ (Builtin.Tuple.tupleItemsOf (.ref t) >>= _) _ _ s
  refine wpAny_bind (tupleItemsOf_ ht ?_)
  refine wpAny_bind (wpAny_typeOf hTs ?_)
  rw [if_pos (by decide)]
  refine wpAny_bind (sliceApplied_gen hs pl pu ?_)
  have hno : ¬ ((((sIx items.size 0 lo : Nat) : Int) == 0 && (1 : Int) == 1 && (sIx items.size items.size hi - sIx items.size 0 lo) == items.size) = true) := by
    intro q
    rw [Bool.and_eq_true, Bool.and_eq_true] at q
    have q1 : ((sIx items.size 0 lo : Nat) : Int) = 0 := eq_of_beq q.1.1
    have q2 : sIx items.size items.size hi - sIx items.size 0 lo = items.size := eq_of_beq q.2
    exact hw ⟨by omega, by omega⟩
  show wpAny _ _ (if (((sIx items.size 0 lo : Nat) : Int) == 0 && (1 : Int) == 1 && (sIx items.size items.size hi - sIx items.size 0 lo) == items.size) = true then _ else _) _ _ s
  rw [if_neg hno, pick_gen]
  first
    | exact wpAny_bind (m := Builtin.Tuple.tupleExact _) (wpAny_newObj_type (wpAny_pure ⟨_, rfl, wpAny_pure h⟩) htake)
    | exact wpAny_bind (m := Builtin.Tuple.tupleExact _) (wpAny_newObj_type (wpAny_bind (wpAny_pure (wpAny_pure ⟨_, rfl, wpAny_pure h⟩))) htake)
    | exact wpAny_bind (wpAny_bind (m := Builtin.Tuple.tupleExact _) (wpAny_newObj_type (wpAny_pure (wpAny_pure ⟨_, rfl, wpAny_pure h⟩)) htake))
    | exact wpAny_bind (wpAny_bind (m := Builtin.Tuple.tupleExact _) (wpAny_newObj_type (wpAny_pure ⟨_, rfl, wpAny_pure h⟩) htake))
end
end HT

namespace L2
open PySem PySem.Spec PyProof.Rows

/-! ### the parts of a slice -/
abbrev TO := St → Hp → (Option Int → Hp → Prop) → Prop
/-- a slice's part (left out, or an int) -/
def PO (X : Cx) (e : Option Expr) (t : TO) : Prop :=
  ∀ (pins : List (Addr × Obj)) (s : Shared) (σ : St) (H : Hp) (Q : Option Int → Hp → Prop), Inv X pins σ H s → t σ H Q →
    wpAny (model X.prog X.w) X.A (evalPart e X.env) (fun u s' => ∃ o H', Inv X pins σ H' s' ∧ IsPart u o ∧ Q o H') X.xe s
def tNoPart : TO := fun _ H Q => Q none H
def tPart (t : TE) : TO := fun σ H Q => t σ H fun x H1 => ∃ i, x = .int i ∧ Q (some i) H1

theorem intsAre_of {ns : List Int} : ∀ {us : List Value}, Vals (ns.map V.int) us → IntsAre us ns := by
  induction ns with
  | nil => intro us r; rw [List.map_nil] at r; cases r; exact .nil
  | cons n ns ih =>
    intro us r
    rw [List.map_cons] at r
    cases r with
    | cons r1 r2 =>
      obtain ⟨t, e⟩ := r1
      subst e
      exact .cons n t (ih r2)

section
variable {X : Cx} {e : Expr} {te : TE} {lo hi : Option Expr} {tl th : TO} {pos p2 : Pos}

theorem po_none : PO X none tNoPart := by
  intro pins s σ H Q I h
  rw [evalPart_none]
  exact wpAny_pure ⟨none, H, I, .none, h⟩
theorem po_some (h : PE X e te) : PO X (some e) (tPart te) := by
  intro pins s σ H Q I hw
  rw [evalPart_some]
  refine thn (h pins s σ H _ I hw) fun u s1 ⟨x, H1, I1, r1, q1⟩ => ?_
  obtain ⟨i, rfl, q⟩ := q1
  obtain ⟨t, rfl⟩ := r1
  exact ⟨some i, H1, I1, .int i t, q⟩

/-- what a slice of a value is, by values: the slice object stands at sl -/
def SlR (X : Cx) (r : V → Option Int → Option Int → Hp → VK → Prop) : Prop :=
  ∀ (pins : List (Addr × Obj)) (s : Shared) (σ : St) (H : Hp) (x : V) (v vl vu : Value) (lo hi : Option Int) (sl : Addr) (Q : VK), Inv X pins σ H s → RelV x v → s.heap.IsSliceOf sl vl vu .none → IsPart vl lo → IsPart vu hi → r x lo hi H Q →
    ∃ T id, typeLookup (.type T) "__getitem__" = pure (some (.builtin id)) ∧ s.TypeIs v T ∧ wpAny (model X.prog X.w) X.A (getItem v (.ref sl)) (EP X pins σ Q) X.xe s
theorem SlR.or {r r' : V → Option Int → Option Int → Hp → VK → Prop} (h : SlR X r) (h' : SlR X r') : SlR X (fun x lo hi H Q => r x lo hi H Q ∨ r' x lo hi H Q) := by
  intro pins s σ H x v vl vu lo hi sl Q I rx hs pl pu q
  rcases q with q | q
  · exact h pins s σ H x v vl vu lo hi sl Q I rx hs pl pu q
  · exact h' pins s σ H x v vl vu lo hi sl Q I rx hs pl pu q
def tSl (r : V → Option Int → Option Int → Hp → VK → Prop) (te : TE) (tl th : TO) : TE := fun σ H Q => te σ H fun x H1 => tl σ H1 fun l H2 => th σ H2 fun u H3 => r x l u H3 Q
/-- a[lo:hi], any a -/
theorem pe_slice {r : V → Option Int → Option Int → Hp → VK → Prop} (hr : SlR X r) (he : PE X e te) (hl : PO X lo tl) (hu : PO X hi th) : PE X (.Subscript e (.Slice lo hi none p2) pos) (tSl r te tl th) := by
  intro pins s σ H Q I h
  refine Subscript_ (thn (he pins s σ H _ I h) fun v s1 ⟨x, H1, I1, r1, q1⟩ => ?_)
  refine wpAny_Slice (thn (hl pins s1 σ H1 _ I1 q1) fun vl s2 ⟨l, H2, I2, pl, q2⟩ => thn (hu pins s2 σ H2 _ I2 q2) fun vu s3 ⟨u, H3, I3, pu, q3⟩ => ?_)
  rw [evalPart_none]
  refine wpAny_pure ?_
  have I4 : Inv X pins σ H3 { s3 with heap := s3.heap.push { cls := .type "slice", data := .fields #[vl, vu, .none] } } := I3.kept (t' := s3.toks) fun b ob q => Heap.get?_push_of_some _ q
  obtain ⟨T, id, hT, ht, hg⟩ := hr pins { s3 with heap := s3.heap.push { cls := .type "slice", data := .fields #[vl, vu, .none] } } σ H3 x v vl vu l u s3.heap.objs.size Q I4 r1 (Heap.IsSliceOf.new ..) pl pu q3
  show wpAny (model X.prog X.w) X.A (subscriptTail e (.Slice lo hi none p2) v (.ref s3.heap.objs.size)) (EP X pins σ Q) X.xe { s3 with heap := s3.heap.push { cls := .type "slice", data := .fields #[vl, vu, .none] } }
  exact tail_any (ops := [.ref s3.heap.objs.size, v]) ht hT hg (by with_unfolding_all rfl)

/-- the items of xs[lo:hi] -/
def cutV (xs : List V) (lo hi : Option Int) : List V := (xs.drop (HT.sIx xs.length 0 lo)).take (HT.sIx xs.length xs.length hi - HT.sIx xs.length 0 lo)
theorem cutV_length (xs : List V) (lo hi : Option Int) : (cutV xs lo hi).length ≤ xs.length := by
  unfold cutV
  rw [List.length_take, List.length_drop]
  omega
/-- t[lo:hi], not the whole of it (the whole would be t itself) -/
def rSlT (K : PySem.W.Frag) : V → Option Int → Option Int → Hp → VK → Prop := fun x lo hi H Q => ∃ a xs, x = .ref a ∧ SqT K H a xs ∧
  ¬ (HT.sIx xs.length 0 lo = 0 ∧ HT.sIx xs.length xs.length hi = xs.length) ∧ ∀ p, H p = none → Q (.ref p) (upd H p (.tup (cutV xs lo hi)))
theorem sl_tup : SlR X (rSlT X.K) := by
  intro pins s σ H x v vl vu lo hi sl Q I rx hs pl pu h
  obtain ⟨a, xs, rfl, hx, hw, q⟩ := h
  cases rx
  obtain ⟨its, r, ht, hz⟩ := I.tuple hx
  have hlen : its.toArray.size = xs.length := by rw [List.size_toArray]; exact r.length.symm
  refine ⟨"tuple", _, PyProof.Rows.slot_tuple_getitem.lookup, ht.typeIs, ?_⟩
  refine HT.getItem_tuple_cut ht hs pl pu (by rw [hlen]; exact hw) ?_ (by rw [hlen]; exact hz)
  rw [hlen]
  refine ⟨.ref s.heap.objs.size, _, I.laid (t' := s.toks) (o := .tup (cutV xs lo hi)) (fun b ob q => Heap.get?_push_of_some _ q) (Nat.le_refl _) ?_, rfl, q _ (I.hok.fresh (Nat.le_refl _))⟩
  exact ⟨Nat.le_trans (cutV_length xs lo hi) hz, _, (r.drop (HT.sIx xs.length 0 lo)).take (HT.sIx xs.length xs.length hi - HT.sIx xs.length 0 lo), IsTup.new _ _⟩

/-! ### t < u, t + u -/
def rLtT (K : PySem.W.Frag) : R2 := fun x y H Q => ∃ a b ns ms, x = .ref a ∧ y = .ref b ∧ SqT K H a (ns.map V.int) ∧ SqT K H b (ms.map V.int) ∧ Q (.bl (HT.lexLt ns ms)) H
theorem op_ltT (hu : X.A.units < cLine) : OpR X (compareOp .Lt) (rLtT X.K) := by
  intro pins s σ H x y v u Q I rx ry h
  obtain ⟨a, b, ns, ms, rfl, rfl, ha, hb, q⟩ := h
  cases rx
  cases ry
  obtain ⟨its, r1, p1, _⟩ := I.tuple ha
  obtain ⟨its2, r2, p2, _⟩ := I.tuple hb
  have i1 : IntsAre its.toArray.toList ns := intsAre_of r1
  have i2 : IntsAre its2.toArray.toList ms := intsAre_of r2
  exact HT.lt_tupInts p1 p2 i1 i2 hu ⟨.bl (HT.lexLt ns ms), H, I, rfl, q⟩
/-- t + u, t not empty: u empty gives t itself -/
def rCatT (K : PySem.W.Frag) : R2 := fun x y H Q => ∃ a b xs ys, x = .ref a ∧ y = .ref b ∧ SqT K H a xs ∧ SqT K H b ys ∧ xs ≠ [] ∧ xs.length + ys.length ≤ sizeLine ∧
  (ys = [] → Q (.ref a) H) ∧ (ys ≠ [] → ∀ p, H p = none → Q (.ref p) (upd H p (.tup (xs ++ ys))))
theorem Vals.nil_iff {xs : List V} {us : List Value} (r : Vals xs us) : us = [] ↔ xs = [] := by
  cases r with
  | nil => simp
  | cons _ _ => simp
theorem op_catT : OpR X (binaryOp .Add) (rCatT X.K) := by
  intro pins s σ H x y v u Q I rx ry h
  obtain ⟨a, b, xs, ys, rfl, rfl, ha, hb, hx, hz, q1, q2⟩ := h
  cases rx
  cases ry
  obtain ⟨its, r1, p1, _⟩ := I.tuple ha
  obtain ⟨its2, r2, p2, _⟩ := I.tuple hb
  refine HT.cat_tup p1 p2 (fun z => hx (r1.nil_iff.mp z)) (fun z => ⟨.ref a, H, I, rfl, q1 (r2.nil_iff.mp z)⟩) (fun z => ?_) (by rw [← r1.length, ← r2.length]; exact hz)
  refine ⟨.ref s.heap.objs.size, _, I.laid (t' := s.toks) (o := .tup (xs ++ ys)) (fun b ob q => Heap.get?_push_of_some _ q) (Nat.le_refl _) ?_, rfl, q2 (fun w => z (r2.nil_iff.mpr w)) _ (I.hok.fresh (Nat.le_refl _))⟩
  exact ⟨by rw [List.length_append]; exact hz, _, r1.append r2, IsTup.new _ _⟩
/-- tuple(t) -/
theorem call_tupleT : CallR X (.type "tuple") (fun xs H Q => ∃ a ys, xs = [.ref a] ∧ SqT X.K H a ys ∧ Q (.ref a) H) := by
  intro pins s σ H xs us Q I r h
  obtain ⟨a, ys, rfl, ha, q⟩ := h
  obtain ⟨u, rfl, ru⟩ := vals1 r
  cases ru
  obtain ⟨its, _, p1, _⟩ := I.tuple ha
  exact call_tuple_same (items := its.toArray) p1 ⟨.ref a, H, I, rfl, q⟩
end
end L2

namespace L2
open PySem PySem.Spec PyProof.Rows

/-! ### places -/
/-- the place that an index of any sign means -/
def ixN (n : Nat) (i : Int) : Option Nat := if 0 ≤ i then (if i < n then some i.toNat else none) else if -(n : Int) ≤ i then some (i + n).toNat else none
def atI {α : Type} (xs : List α) (i : Int) : Option α := (ixN xs.length i).bind fun j => xs[j]?
theorem ixN_seq {n : Nat} {i : Int} {j : Nat} (h : ixN n i = some j) : seqIndex? i n = some j ∧ j < n ∧ -(n : Int) ≤ i ∧ i < n := by
  unfold ixN at h
  by_cases h0 : 0 ≤ i
  · rw [if_pos h0] at h
    by_cases h1 : i < n
    · rw [if_pos h1] at h
      have e : i.toNat = j := Option.some.inj h
      exact ⟨by rw [seqIndex_of h0 h1, e], by omega, by omega, h1⟩
    · rw [if_neg h1] at h; cases h
  · rw [if_neg h0] at h
    by_cases h1 : -(n : Int) ≤ i
    · rw [if_pos h1] at h
      have e : (i + n).toNat = j := Option.some.inj h
      exact ⟨by rw [seqIndex_neg (by omega) h1, e], by omega, h1, by omega⟩
    · rw [if_neg h1] at h; cases h
theorem atI_get {α : Type} {xs : List α} {i : Int} {v : α} (h : atI xs i = some v) : ∃ j, seqIndex? i xs.length = some j ∧ xs[j]? = some v ∧ j < xs.length ∧ -(xs.length : Int) ≤ i ∧ i < xs.length := by
  unfold atI at h
  cases e : ixN xs.length i with
  | none => rw [e] at h; cases h
  | some j =>
    rw [e] at h
    obtain ⟨h1, h2, h3, h4⟩ := ixN_seq e
    exact ⟨j, h1, h, h2, h3, h4⟩
theorem atI_nat {α : Type} {xs : List α} {j : Nat} {v : α} (h : xs[j]? = some v) : atI xs (j : Int) = some v := by
  have hj : j < xs.length := (List.getElem?_eq_some_iff.mp h).1
  have e : ixN xs.length (j : Int) = some j := by
    unfold ixN
    rw [if_pos (by omega), if_pos (by omega)]; simp
  unfold atI; rw [e]; exact h
theorem atI_last {α : Type} (xs : List α) (v : α) : atI (xs ++ [v]) (-1) = some v := by
  have hl : (xs ++ [v]).length = xs.length + 1 := by simp
  have e : ixN (xs ++ [v]).length (-1) = some xs.length := by
    unfold ixN
    rw [hl, if_neg (by decide), if_pos (by omega)]
    congr 1
    omega
  unfold atI
  rw [e]
  show (xs ++ [v])[xs.length]? = some v
  simp

/-! ### what may be subscripted -/
/-- what stands as an index of a plain subscript -/
def PlainIx (b : Expr) : Prop := ∀ o i, subscripted b false o i = operate [o, i] (getItem o i)
/-- a subscript by values -/
def IxR (X : Cx) (r : R2) : Prop :=
  ∀ (value slice : Expr) (pins : List (Addr × Obj)) (s : Shared) (σ : St) (H : Hp) (x y : V) (v u : Value) (Q : VK), Inv X pins σ H s → RelV x v → RelV y u → r x y H Q →
    subscripted slice false v u = operate [v, u] (getItem v u) → wpAny (model X.prog X.w) X.A (subscriptTail value slice v u) (EP X pins σ Q) X.xe s
/-- a call of a builtin's method by values: the receiver, the arguments -/
def MtR (X : Cx) (id : String) (r : V → List V → Hp → VK → Prop) : Prop :=
  ∀ (pins : List (Addr × Obj)) (s : Shared) (σ : St) (H : Hp) (x : V) (xs : List V) (v : Value) (us : List Value) (Q : VK), Inv X pins σ H s → RelV x v → Vals xs us → r x xs H Q →
    wpAny (model X.prog X.w) X.A (call (.builtin id) (v :: us)) (EP X pins σ Q) X.xe s
section
variable {X : Cx} {a b : Expr} {ta tb : TE} {pos : Pos}
theorem IxR.or {r r' : R2} (h : IxR X r) (h' : IxR X r') : IxR X (fun x y H Q => r x y H Q ∨ r' x y H Q) := by
  intro value slice pins s σ H x y v u Q I rx ry q hs
  rcases q with q | q
  · exact h value slice pins s σ H x y v u Q I rx ry q hs
  · exact h' value slice pins s σ H x y v u Q I rx ry q hs
theorem MtR.or {id : String} {r r' : V → List V → Hp → VK → Prop} (h : MtR X id r) (h' : MtR X id r') : MtR X id (fun x xs H Q => r x xs H Q ∨ r' x xs H Q) := by
  intro pins s σ H x xs v us Q I rx rs q
  rcases q with q | q
  · exact h pins s σ H x xs v us Q I rx rs q
  · exact h' pins s σ H x xs v us Q I rx rs q
/-- a[b] -/
theorem pe_ix {r : R2} (hr : IxR X r) (ha : PE X a ta) (hb : PE X b tb) (hs : PlainIx b) : PE X (.Subscript a b pos) (tOp r ta tb) := by
  intro pins s σ H Q I h
  exact Subscript_ (binT ha hb I h fun v u s2 x y H2 I2 rx ry q => hr a b pins s2 σ H2 x y v u Q I2 rx ry q (hs _ _))

def rIxL (K : PySem.W.Frag) : R2 := fun x y H Q => ∃ p xs i v, x = .ref p ∧ y = .int i ∧ SqL K H p xs ∧ atI xs i = some v ∧ Q v H
def rIxT (K : PySem.W.Frag) : R2 := fun x y H Q => ∃ p xs i v, x = .ref p ∧ y = .int i ∧ SqT K H p xs ∧ atI xs i = some v ∧ Q v H
def rIxS : R2 := fun x y H Q => ∃ z i c, x = .str z ∧ y = .int i ∧ z.length ≤ sizeLine ∧ atI z.cps.toList i = some c ∧ Q (.str ⟨#[c]⟩) H
theorem ix_list : IxR X (rIxL X.K) := by
  intro value slice pins s σ H x y v u Q I rx ry h hs
  obtain ⟨p, xs, i, z, rfl, rfl, hq, he, q⟩ := h
  cases rx
  obtain ⟨t, rfl⟩ := ry
  obtain ⟨its, r, pl, hz⟩ := I.list hq
  obtain ⟨j, h1, h2, h3, h4, h5⟩ := atI_get he
  obtain ⟨w, ew, rw'⟩ := r.get h2
  have hl := r.length
  have hn := line63
  have fin : EP X pins σ Q w s := ⟨z, H, I, rw', q⟩
  by_cases h0 : 0 ≤ i
  · have hj : i.toNat = j := by
      rw [seqIndex_of h0 h5] at h1
      exact Option.some.inj h1
    exact item_listR pl.isList h0 (by omega) (by rw [hj]; simpa using ew) fin hs
  · have hj : (i + (its.toArray.size : Int)).toNat = j := by
      rw [seqIndex_neg (by omega) h4] at h1
      rw [List.size_toArray, ← hl]
      exact Option.some.inj h1
    exact subscriptTail_builtinR (x := w) pl.isList.typeIs slot_list_getitem.lookup
      (wpAny_getItem_list_neg (Q := fun r s' => r = w ∧ EP X pins σ Q r s') pl.isList (by omega) (by rw [List.size_toArray] <;> omega) (by omega) (by rw [hj]; simpa using ew) ⟨rfl, fin⟩) hs
theorem ix_tup : IxR X (rIxT X.K) := by
  intro value slice pins s σ H x y v u Q I rx ry h hs
  obtain ⟨p, xs, i, z, rfl, rfl, hq, he, q⟩ := h
  cases rx
  obtain ⟨t, rfl⟩ := ry
  obtain ⟨its, r, pl, hz⟩ := I.tuple hq
  obtain ⟨j, h1, h2, h3, h4, h5⟩ := atI_get he
  obtain ⟨w, ew, rw'⟩ := r.get h2
  have hl := r.length
  have hn := line63
  have fin : EP X pins σ Q w s := ⟨z, H, I, rw', q⟩
  exact subscriptTail_builtinR (x := w) pl.typeIs slot_tuple_getitem.lookup
    (getItem_tuple (j := j) (Q := fun r s' => r = w ∧ EP X pins σ Q r s') pl (by omega) (by omega) (by rw [List.size_toArray, ← hl]; exact h1) (by simpa using ew) ⟨rfl, fin⟩) hs
theorem ix_str : IxR X rIxS := by
  intro value slice pins s σ H x y v u Q I rx ry h hs
  obtain ⟨z, i, c, rfl, rfl, hz, he, q⟩ := h
  obtain ⟨t, rfl⟩ := rx
  obtain ⟨t', rfl⟩ := ry
  obtain ⟨j, h1, h2, h3, h4, h5⟩ := atI_get he
  have hl : z.cps.toList.length = z.length := by simp [Str.length]
  rw [hl] at h1 h4 h5
  have hn := line63
  exact tail_any (typeIs_str s z t) slot_str_getitem.lookup (getItem_str (c := c) (by
    have e1 : decide (i < -(2 ^ 63 : Int)) = false := decide_eq_false (by omega)
    have e2 : decide (i ≥ 2 ^ 63) = false := decide_eq_false (by omega)
    rw [e1, e2, Bool.or_false]) (by rw [h1]; simpa using h2) ⟨.str ⟨#[c]⟩, H, I.tok _, ⟨_, rfl⟩, q⟩) hs
/-- list, tuple or str -/
def rIx (K : PySem.W.Frag) : R2 := fun x y H Q => rIxL K x y H Q ∨ rIxT K x y H Q ∨ rIxS x y H Q
theorem ix_seq : IxR X (rIx X.K) := ix_list.or (ix_tup.or ix_str)

/-! ### xs[i] = v, any sign -/
/-- the list's object behind a store -/
theorem mapSeq_set (its : List Value) (n j : Nat) (u : Value) : Obj.mapSeq (·.setIfInBounds j u) { cls := .type "list", data := .seq its.toArray n } = { cls := .type "list", data := .seq (its.set j u).toArray n } := by
  simp [Obj.mapSeq]
theorem Inv.lst {pins : List (Addr × Obj)} {σ : St} {H : Hp} {s : Shared} {p : Addr} {xs : List V} (I : Inv X pins σ H s) (h : H p = some (.lst xs)) :
    ∃ (its : List Value) (n : Nat), Vals xs its ∧ s.heap.get? p = some { cls := .type "list", data := .seq its.toArray n } ∧ xs.length ≤ sizeLine := by
  obtain ⟨z, its, n, r, e⟩ := I.hok p _ h
  exact ⟨its, n, r, e, z⟩
/-- the list at p is written by an update of its object -/
theorem Inv.lstUpd {pins : List (Addr × Obj)} {σ : St} {H : Hp} {s : Shared} {p : Addr} {xs ys : List V} {its its' : List Value} {n n' : Nat} {f : Obj → Obj} (I : Inv X pins σ H s) (h : H p = some (.lst xs))
    (ho : s.heap.get? p = some { cls := .type "list", data := .seq its.toArray n }) (hf : f { cls := .type "list", data := .seq its.toArray n } = { cls := .type "list", data := .seq its'.toArray n' }) (r : Vals ys its') (hz : ys.length ≤ sizeLine) (t : Nat) :
    Inv X pins σ (upd H p (.lst ys)) { s with heap := s.heap.update p f, toks := t } := by
  have e : (s.heap.update p f).get? p = some { cls := .type "list", data := .seq its'.toArray n' } := by
    rw [Heap.get?_update_self f ho (by rw [hf] <;> rfl), hf]
  refine I.write (x := p) (e := p) (by rw [h]; trivial) (.inl rfl) (fun b u hb q => (Heap.get?_update_other _ _ (Ne.symm hb)).trans q) ⟨_, e⟩ ?_
  exact ⟨hz, its', n', r, e⟩
def rSetL : V → V → V → Hp → (Hp → Prop) → Prop := fun o i v H Q => ∃ p xs k j, o = .ref p ∧ i = .int k ∧ H p = some (.lst xs) ∧ ixN xs.length k = some j ∧ Q (upd H p (.lst (xs.set j v)))
theorem set_list : PSet X rSetL := by
  intro pins s σ H o i v ov iv u Q I ro ri rv h
  obtain ⟨p, xs, k, j, rfl, rfl, hp, hj, q⟩ := h
  cases ro
  obtain ⟨t, rfl⟩ := ri
  obtain ⟨its, n, r, ho, hz⟩ := I.lst hp
  obtain ⟨h1, h2, h3, h4⟩ := ixN_seq hj
  have hl := r.length
  have hn := line63
  have I' : Inv X pins σ (upd H p (.lst (xs.set j v))) { s with heap := s.heap.update p (Obj.mapSeq (·.setIfInBounds j u)) } :=
    I.lstUpd hp ho (mapSeq_set its n j u) (r.set rv j) (by rw [List.length_set]; exact hz) s.toks
  by_cases h0 : 0 ≤ k
  · have hk : k.toNat = j := by
      rw [seqIndex_of h0 h4] at h1
      exact Option.some.inj h1
    exact PySem.W.ki_setAt ho h0 (by omega) (by rw [List.size_toArray, ← hl]; exact h4) (by rw [hk]; exact ⟨_, I', q⟩)
  · have hk : (k + (its.toArray.size : Int)).toNat = j := by
      rw [seqIndex_neg (by omega) h3] at h1
      rw [List.size_toArray, ← hl]
      exact Option.some.inj h1
    exact PySem.W.ki_setBack ho (by omega) (by rw [List.size_toArray, ← hl]; exact h3) (by omega) (by rw [hk]; exact ⟨_, I', q⟩)

/-! ### slices -/
theorem slice_bounds (lo hi : Option Int) (n : Nat) : (sliceBounds lo hi none n).1 = ((HT.sIx n 0 lo : Nat) : Int) ∧ (sliceBounds lo hi none n).2.1 = ((HT.sIx n n hi : Nat) : Int) ∧ (sliceBounds lo hi none n).2.2 = 1 := by
  refine ⟨?_, ?_, rfl⟩
  · cases lo with
    | none => simp [sliceBounds, HT.sIx]
    | some i =>
      simp only [sliceBounds, HT.sIx, Option.getD_none, show (1 : Int) > 0 by decide, if_true]
      by_cases h : i < 0
      · simp only [h, if_true] <;> omega
      · simp only [h, if_false] <;> omega
  · cases hi with
    | none => simp [sliceBounds, HT.sIx]
    | some i =>
      simp only [sliceBounds, HT.sIx, Option.getD_none, show (1 : Int) > 0 by decide, if_true]
      by_cases h : i < 0
      · simp only [h, if_true] <;> omega
      · simp only [h, if_false] <;> omega
theorem slicePick_cut (its : List Value) (lo hi : Option Int) : slicePick its.toArray lo hi none = ((its.drop (HT.sIx its.length 0 lo)).take (HT.sIx its.length its.length hi - HT.sIx its.length 0 lo)).toArray := by
  obtain ⟨h1, h2, h3⟩ := slice_bounds lo hi its.toArray.size
  unfold slicePick
  rw [h1, h2, h3]
  simp only [sliceRange_one, pick_run, List.size_toArray] <;> rfl
/-- xs[lo:hi] of a list: a new list -/
def rSlL (K : PySem.W.Frag) : V → Option Int → Option Int → Hp → VK → Prop := fun x lo hi H Q => ∃ a xs, x = .ref a ∧ SqL K H a xs ∧ ∀ p, H p = none → Q (.ref p) (upd H p (.lst (cutV xs lo hi)))
theorem sl_list : SlR X (rSlL X.K) := by
  intro pins s σ H x v vl vu lo hi sl Q I rx hs pl pu h
  obtain ⟨a, xs, rfl, hx, q⟩ := h
  cases rx
  obtain ⟨its, r, ht, hz⟩ := I.list hx
  have hlen := r.length
  refine ⟨"list", _, slot_list_getitem.lookup, ht.isList.typeIs, ?_⟩
  refine wpAny_getItem_list_slice ht.isList hs pl pu .none (by simp) ?_ (by rw [List.size_toArray] <;> omega)
  rw [slicePick_cut, ← hlen]
  refine ⟨.ref s.heap.objs.size, _, I.laid (t' := s.toks) (o := .lst (cutV xs lo hi)) (fun b ob q => Heap.get?_push_of_some _ q) (Nat.le_refl _) ?_, rfl, q _ (I.hok.fresh (Nat.le_refl _))⟩
  exact ⟨Nat.le_trans (cutV_length xs lo hi) hz, _, 0, (r.drop (HT.sIx xs.length 0 lo)).take (HT.sIx xs.length xs.length hi - HT.sIx xs.length 0 lo), Heap.get?_push_size _ rfl⟩

/-! ### in, not in: flat items -/
def flatV : V → Bool
  | .non => true
  | .bl _ => true
  | .int _ => true
  | .str _ => true
  | _ => false
/-- == of flat values -/
def eqV : V → V → Bool
  | .non, .non => true
  | .bl a, .bl b => a == b
  | .bl a, .int b => (if a then 1 else 0) == b
  | .int a, .bl b => a == (if b then 1 else 0)
  | .int a, .int b => a == b
  | .str a, .str b => a == b
  | _, _ => false
theorem eqAt_V {A : Around} {s : Shared} {y x : V} {u v : Value} (ry : RelV y u) (rx : RelV x v) (fy : flatV y = true) (fx : flatV x = true) : SeqAt.EqAt A s u v (eqV y x) := by
  cases y with
  | non =>
    cases ry
    cases x with
    | non => cases rx; exact SeqAt.EqAt.same _
    | bl b => cases rx; exact SeqAt.EqAt.none_bool b
    | int b => obtain ⟨t, rfl⟩ := rx; exact SeqAt.EqAt.none_int b t
    | str b => obtain ⟨t, rfl⟩ := rx; exact SeqAt.EqAt.none_str b t
    | _ => exact absurd (show false = true from fx) Bool.false_ne_true
  | bl a =>
    cases ry
    cases x with
    | non => cases rx; exact SeqAt.EqAt.bool_none a
    | bl b => cases rx; exact SeqAt.EqAt.bool_bool a b
    | int b => obtain ⟨t, rfl⟩ := rx; exact SeqAt.EqAt.bool_int a b t
    | str b => obtain ⟨t, rfl⟩ := rx; exact SeqAt.EqAt.bool_str a b t
    | _ => exact absurd (show false = true from fx) Bool.false_ne_true
  | int a =>
    obtain ⟨t', rfl⟩ := ry
    cases x with
    | non => cases rx; exact SeqAt.EqAt.int_none a t'
    | bl b => cases rx; exact SeqAt.EqAt.int_bool a t' b
    | int b => obtain ⟨t, rfl⟩ := rx; exact SeqAt.EqAt.int_int a t' b t
    | str b => obtain ⟨t, rfl⟩ := rx; exact SeqAt.EqAt.int_str a t' b t
    | _ => exact absurd (show false = true from fx) Bool.false_ne_true
  | str a =>
    obtain ⟨t', rfl⟩ := ry
    cases x with
    | non => cases rx; exact SeqAt.EqAt.str_none a t'
    | bl b => cases rx; exact SeqAt.EqAt.str_bool a t' b
    | int b => obtain ⟨t, rfl⟩ := rx; exact SeqAt.EqAt.str_int a t' b t
    | str b => obtain ⟨t, rfl⟩ := rx; exact SeqAt.EqAt.str_str a t' b t
    | _ => exact absurd (show false = true from fx) Bool.false_ne_true
  | _ => exact absurd (show false = true from fy) Bool.false_ne_true
/-- the items' answers, read off the values (a value's own answer does not lean on its token) -/
def eqU (x : V) (u : Value) : Bool := match u with
  | .none => eqV .non x
  | .bool b => eqV (.bl b) x
  | .int i _ => eqV (.int i) x
  | .str z _ => eqV (.str z) x
  | _ => false
theorem eqU_of {x y : V} {u : Value} (r : RelV y u) (f : flatV y = true) : eqU x u = eqV y x := by
  cases y with
  | non => cases r; rfl
  | bl b => cases r; rfl
  | int i => obtain ⟨t, rfl⟩ := r; rfl
  | str z => obtain ⟨t, rfl⟩ := r; rfl
  | _ => exact absurd (show false = true from f) Bool.false_ne_true
theorem any_eqU {x : V} : ∀ {xs : List V} {us : List Value}, Vals xs us → xs.all flatV = true → us.any (eqU x) = xs.any fun y => eqV y x
  | _, _, .nil, _ => rfl
  | y :: xs, u :: us, .cons r t, f => by
    rw [List.all_cons, Bool.and_eq_true] at f
    rw [List.any_cons, List.any_cons, eqU_of r f.1, any_eqU t f.2]
theorem mem_eqAt {A : Around} {s : Shared} {x : V} {v : Value} (rx : RelV x v) (fx : flatV x = true) : ∀ {xs : List V} {us : List Value}, Vals xs us → xs.all flatV = true → ∀ u ∈ us, SeqAt.EqAt A s u v (eqU x u)
  | _, _, .nil, _ => fun u hu => by cases hu
  | y :: xs, u :: us, .cons r t, f => fun u' hu => by
    rw [List.all_cons, Bool.and_eq_true] at f
    rcases List.mem_cons.mp hu with rfl | hu
    · rw [eqU_of r f.1]; exact eqAt_V r rx f.1 fx
    · exact mem_eqAt rx fx t f.2 u' hu
def inV (x : V) (xs : List V) : Bool := xs.any fun y => eqV y x
/-- x in a list or tuple of flat items -/
def rIn (K : PySem.W.Frag) (neg : Bool) : R2 := fun x y H Q => ∃ p xs, y = .ref p ∧ (SqL K H p xs ∨ SqT K H p xs) ∧ flatV x = true ∧ xs.all flatV = true ∧ Q (.bl (if neg then !inV x xs else inV x xs)) H
theorem op_in_seq : OpR X (compareOp .In) (rIn X.K false) := by
  intro pins s σ H x y v u Q I rx ry h
  obtain ⟨p, xs, rfl, hq, fx, fs, q⟩ := h
  cases ry
  rcases hq with hq | hq
  · obtain ⟨its, r, pl, hz⟩ := I.list hq
    refine SeqAt.in_listAt (eqU x) pl.isList (fun w hw => mem_eqAt rx fx r fs w (by simpa using hw)) ⟨.bl _, H, I, rfl, ?_⟩
    rw [show its.toArray.any (eqU x) = its.any (eqU x) by simp, any_eqU r fs]
    exact q
  · obtain ⟨its, r, pl, hz⟩ := I.tuple hq
    refine SeqAt.in_tupleAt (eqU x) pl (fun w hw => mem_eqAt rx fx r fs w (by simpa using hw)) ⟨.bl _, H, I, rfl, ?_⟩
    rw [show its.toArray.any (eqU x) = its.any (eqU x) by simp, any_eqU r fs]
    exact q
theorem op_notIn_seq : OpR X (compareOp .NotIn) (rIn X.K true) := by
  intro pins s σ H x y v u Q I rx ry h
  obtain ⟨p, xs, rfl, hq, fx, fs, q⟩ := h
  cases ry
  rcases hq with hq | hq
  · obtain ⟨its, r, pl, hz⟩ := I.list hq
    refine SeqAt.notIn_listAt (eqU x) pl.isList (fun w hw => mem_eqAt rx fx r fs w (by simpa using hw)) ⟨.bl _, H, I, rfl, ?_⟩
    rw [show its.toArray.any (eqU x) = its.any (eqU x) by simp, any_eqU r fs]
    exact q
  · obtain ⟨its, r, pl, hz⟩ := I.tuple hq
    refine SeqAt.notIn_tupleAt (eqU x) pl (fun w hw => mem_eqAt rx fx r fs w (by simpa using hw)) ⟨.bl _, H, I, rfl, ?_⟩
    rw [show its.toArray.any (eqU x) = its.any (eqU x) by simp, any_eqU r fs]
    exact q
theorem op_notIn_str : OpR X (compareOp .NotIn) (fun x y H Q => ∃ i j, x = .str i ∧ y = .str j ∧ Q (.bl (!(!(Builtin.Str.occurrences j i 0 j.length 1).isEmpty))) H) := by
  intro pins s σ H x y v u Q I rx ry h
  obtain ⟨i, j, rfl, rfl, q⟩ := h
  obtain ⟨t, rfl⟩ := rx
  obtain ⟨t', rfl⟩ := ry
  exact notIn_str ⟨.bl _, H, I, rfl, q⟩

/-! ### len, list(x), tuple(x) of any list or tuple that is read -/
theorem call_len_seq : CallR X (.builtin "len") (fun xs H Q => ∃ p ys, xs = [.ref p] ∧ (SqL X.K H p ys ∨ SqT X.K H p ys) ∧ Q (.int ys.length) H) := by
  intro pins s σ H xs us Q I r h
  obtain ⟨p, ys, rfl, hq, q⟩ := h
  obtain ⟨u, rfl, rx⟩ := vals1 r
  cases rx
  have hn := line63
  rcases hq with hq | hq
  · obtain ⟨its, r', pl, hz⟩ := I.list hq
    have hlen := r'.length
    exact Calls.call_len_list pl.isList (by simp only [List.size_toArray] <;> omega) ⟨.int ys.length, H, I.tok _, ⟨s.toks + 1, by rw [List.size_toArray, hlen]⟩, q⟩
  · obtain ⟨its, r', pl, hz⟩ := I.tuple hq
    have hlen := r'.length
    exact len_tuple pl (by simp only [List.size_toArray] <;> omega) ⟨.int ys.length, H, I.tok _, ⟨s.toks + 1, by rw [List.size_toArray, hlen]⟩, q⟩
theorem call_len_str : CallR X (.builtin "len") (fun xs H Q => ∃ z, xs = [.str z] ∧ z.length ≤ sizeLine ∧ Q (.int z.length) H) := by
  intro pins s σ H xs us Q I r h
  obtain ⟨z, rfl, hz, q⟩ := h
  obtain ⟨u, rfl, t, rfl⟩ := vals1 r
  have hn := line63
  exact len_str (by omega) ⟨.int z.length, H, I.tok _, ⟨_, rfl⟩, q⟩
theorem CallR.or {f : Value} {r r' : List V → Hp → VK → Prop} (h : CallR X f r) (h' : CallR X f r') : CallR X f (fun xs H Q => r xs H Q ∨ r' xs H Q) := by
  intro pins s σ H xs us Q I rs q
  rcases q with q | q
  · exact h pins s σ H xs us Q I rs q
  · exact h' pins s σ H xs us Q I rs q
theorem call_list_of : CallR X (.type "list") (fun xs H Q => ∃ p ys, xs = [.ref p] ∧ (SqL X.K H p ys ∨ SqT X.K H p ys) ∧ ∀ l, H l = none → Q (.ref l) (upd H l (.lst ys))) := by
  intro pins s σ H xs us Q I r h
  obtain ⟨p, ys, rfl, hq, q⟩ := h
  obtain ⟨u, rfl, rx⟩ := vals1 r
  cases rx
  have fin : ∀ (its : List Value), Vals ys its → ys.length ≤ sizeLine → ∀ (h' : Heap) (c' : Nat), (∀ b o', s.heap.get? b = some o' → h'.get? b = some o') →
      h'.get? s.heap.objs.size = some { cls := .type "list", dict := none, data := .seq its.toArray c', slots := #[] } → EP X pins σ Q (.ref s.heap.objs.size) { s with heap := h' } := fun its r' hz h' c' kp e =>
    ⟨.ref s.heap.objs.size, _, I.laid (t' := s.toks) kp (Nat.le_refl _) (show ObjOk X.prog X.w _ h' _ (.lst ys) from ⟨hz, its, c', r', e⟩), rfl, q _ (I.hok.fresh (Nat.le_refl _))⟩
  rcases hq with hq | hq
  · obtain ⟨its, r', pl, hz⟩ := I.list hq
    have hlen := r'.length
    obtain ⟨o, ho, hc, n, hd⟩ := pl.isList
    exact call_list_seq p (.inl rfl) ho hc hd (fun h' c' kp e => fin its r' hz h' c' kp e) (by simp only [List.size_toArray] <;> omega)
  · obtain ⟨its, r', pl, hz⟩ := I.tuple hq
    have hlen := r'.length
    obtain ⟨o, ho, hc, n, hd⟩ := pl
    exact call_list_seq p (.inr rfl) ho hc hd (fun h' c' kp e => fin its r' hz h' c' kp e) (by simp only [List.size_toArray] <;> omega)
theorem call_tuple_of : CallR X (.type "tuple") (fun xs H Q => ∃ p ys, xs = [.ref p] ∧ ((SqL X.K H p ys ∧ ∀ l, H l = none → Q (.ref l) (upd H l (.tup ys))) ∨ (SqT X.K H p ys ∧ Q (.ref p) H))) := by
  intro pins s σ H xs us Q I r h
  obtain ⟨p, ys, rfl, h⟩ := h
  obtain ⟨u, rfl, rx⟩ := vals1 r
  cases rx
  rcases h with ⟨hq, q⟩ | ⟨hq, q⟩
  · obtain ⟨its, r', pl, hz⟩ := I.list hq
    have hlen := r'.length
    refine call_tuple_list pl.isList (fun h' kp => ?_) (by simp only [List.size_toArray] <;> omega)
    have I1 : Inv X pins σ H { s with heap := h' } := I.kept (t' := s.toks) kp
    have I2 : Inv X pins σ (upd H h'.objs.size (.tup ys)) { s with heap := h'.push { cls := .type "tuple", data := .seq its.toArray } } :=
      I1.laid (t' := s.toks) (fun b o e => Heap.get?_push_of_some _ e) (Nat.le_refl _) (show ObjOk X.prog X.w _ _ _ (.tup ys) from ⟨hz, its, r', IsTup.new _ _⟩)
    exact ⟨.ref h'.objs.size, _, I2, rfl, q _ (I1.hok.fresh (Nat.le_refl _))⟩
  · obtain ⟨its, r', pl, hz⟩ := I.tuple hq
    exact call_tuple_same pl ⟨.ref p, H, I, rfl, q⟩

/-! ### the call of a builtin's method: o.m(..) -/
/-- the value is of that builtin type -/
def tyV (K : PySem.W.Frag) (T : String) (x : V) (H : Hp) : Prop := match x with
  | .str _ => T = "str"
  | .int _ => T = "int"
  | .ref p => (T = "list" ∧ ∃ xs, SqL K H p xs) ∨ (T = "tuple" ∧ ∃ o, K.lookup p = some o ∧ o.cls = .type "tuple" ∧ o.dict = none) ∨
      (T = "dict" ∧ ((∃ kvs, H p = some (.dK kvs)) ∨ ∃ kvs, H p = some (.dT kvs))) ∨ (T = "set" ∧ ∃ S n, H p = some (.set S n))
  | _ => False
theorem tyV_is {pins : List (Addr × Obj)} {σ : St} {H : Hp} {s : Shared} {T : String} {x : V} {v : Value} (I : Inv X pins σ H s) (r : RelV x v) (ty : tyV X.K T x H) :
    s.TypeIs v T ∧ ∀ a, v = .ref a → ∃ ob, s.heap.get? a = some ob ∧ ob.dict = none := by
  cases x with
  | str z =>
    obtain ⟨t, rfl⟩ := r
    cases (show T = "str" from ty)
    exact ⟨typeIs_str s z t, fun _ e => nomatch e⟩
  | int i =>
    obtain ⟨t, rfl⟩ := r
    cases (show T = "int" from ty)
    exact ⟨typeIs_int s i t, fun _ e => nomatch e⟩
  | ref p =>
    cases r
    rcases ty with ⟨rfl, xs, hq⟩ | ⟨rfl, o, hk, hc, hd⟩ | ⟨rfl, hk⟩ | ⟨rfl, S, n, hk⟩
    · obtain ⟨its, _, pl, _⟩ := I.list hq
      refine ⟨pl.isList.typeIs, fun a e => ?_⟩
      cases e
      obtain ⟨o, n, e, c, hd, _⟩ := pl
      exact ⟨o, e, hd⟩
    · refine ⟨⟨o, I.kIn p o hk, hc⟩, fun a e => ?_⟩
      cases e
      exact ⟨o, I.kIn _ o hk, hd⟩
    · have z : ∃ o, s.heap.get? p = some o ∧ o.ExactDict := by
        rcases hk with ⟨kvs, hk⟩ | ⟨kvs, hk⟩
        · obtain ⟨_, _, _, _, o, _, _, e, ex, _⟩ := I.hok p _ hk
          exact ⟨o, e, ex⟩
        · obtain ⟨_, _, _, _, o, _, _, e, ex, _⟩ := I.hok p _ hk
          exact ⟨o, e, ex⟩
      obtain ⟨o, e, ex⟩ := z
      refine ⟨⟨o, e, ex.1⟩, fun a e2 => ?_⟩
      cases e2
      exact ⟨o, e, ex.2.1⟩
    · obtain ⟨o, _, _, _, e, ex, _⟩ := I.hok p _ hk
      refine ⟨⟨o, e, ex.1⟩, fun a e2 => ?_⟩
      cases e2
      exact ⟨o, e, ex.2.1⟩
  | _ => exact False.elim ty
def tBM0 (K : PySem.W.Frag) (T : String) (r : V → List V → Hp → VK → Prop) (to : TE) : TE := fun σ H Q => to σ H fun x H1 => tyV K T x H1 ∧ r x [] H1 Q
def tBM (K : PySem.W.Frag) (T : String) (r : V → List V → Hp → VK → Prop) (to : TE) (t : TA) : TE := fun σ H Q => to σ H fun x H1 => tyV K T x H1 ∧ t σ H1 fun xs H2 => r x xs H2 Q
variable {o e : Expr} {es : List Expr} {to : TE} {t : TA} {name : Str} {apos cpos : Pos} {T id : String} {r : V → List V → Hp → VK → Prop}
theorem pe_bm0 (pa : PlainAttrs T) (slot : Slot T name id) (hty : typeOf (.builtin id) = pure (.type "method_descriptor")) (hm : MtR X id r) (ho : PE X o to)
    (hbase : attributeBase o name X.env (eval o X.env) = eval o X.env := by rfl) (hline : (apos.endLine == cpos.line) = true := by rfl) : PE X (.Call (.Attribute o name apos) [] [] cpos) (tBM0 X.K T r to) := by
  intro pins s σ H Q I h
  refine wpAny_Call_method0_late hbase hline (thn (ho pins s σ H _ I h) fun v s1 ⟨x, H1, I1, r1, ty, q1⟩ => ?_)
  obtain ⟨h1, h2⟩ := tyV_is I1 r1 ty
  exact ⟨T, id, pa, slot, hty, h1, h2, Calls.callWith_builtin rfl (PySem.evalArgs_none (hm pins s1 σ H1 x [] v [] Q I1 r1 .nil q1))⟩
theorem pe_bm (pa : PlainAttrs T) (slot : Slot T name id) (hty : typeOf (.builtin id) = pure (.type "method_descriptor")) (hm : MtR X id r) (ho : PE X o to) (ha : PA X (e :: es) t)
    (hbase : attributeBase o name X.env (eval o X.env) = eval o X.env := by rfl)
    (hfew : ((backTo cpos (starEach (e :: es) X.env)).all (fun x => !x.1) && (backToKw cpos (keywordEach [] X.env)).all (fun x => x.1.isSome)
      && decide ((e :: es).length + ([] : List Keyword).length + (if ([] : List Keyword).isEmpty then 0 else 1) < 30)) = true := by rfl)
    (hline : (apos.endLine == cpos.line) = true := by rfl) (hs : starEach (e :: es) X.env = (false, eval e X.env) :: starEach es X.env := by rfl) (hplain : (backTo cpos (starEach es X.env)).any (·.1) = false := by rfl) :
    PE X (.Call (.Attribute o name apos) (e :: es) [] cpos) (tBM X.K T r to t) := by
  intro pins s σ H Q I h
  refine wpAny_Call_method_late hbase hfew hline rfl (thn (ho pins s σ H _ I h) fun v s1 ⟨x, H1, I1, r1, ty, q1⟩ => ?_)
  obtain ⟨h1, h2⟩ := tyV_is I1 r1 ty
  refine ⟨T, id, pa, slot, hty, h1, h2, ?_⟩
  have hA := ha cpos pins s1 σ H1 _ I1 q1
  rw [hs] at hA ⊢
  refine Calls.callWith_builtin (by show (false || (backTo cpos (starEach es X.env)).any (·.1)) = false; rw [hplain] <;> rfl) (Calls.evalArgs_plain ?_)
  exact thn hA fun us s2 ⟨vs, H2, I2, r2, q2⟩ => hm pins s2 σ H2 x vs v us Q I2 r1 r2 q2
/- xs.append(e), list.index on a module's tuple .. are MtR facts of 06m -/
end
end L2

namespace L2
open PySem PySem.Spec PyProof.Rows

def MtM (X : Cx) (id : String) (r : V → List V → Hp → VK → Prop) : Prop :=
  ∀ (pins : List (Addr × Obj)) (s : Shared) (σ : St) (H : Hp) (x : V) (xs : List V) (v : Value) (us : List Value) (Q : VK), Inv X pins σ H s → RelV x v → Vals xs us → r x xs H Q →
    wpAny (model X.prog X.w) X.A (call (.builtin id) (v :: us)) (EP X pins σ Q) X.xe s

/-! ### lists of values -/
theorem Vals.one : ∀ {x : V} {us : List Value}, Vals [x] us → ∃ u, us = [u] ∧ RelV x u
  | _, _, .cons r .nil => ⟨_, rfl, r⟩
theorem Vals.two : ∀ {x y : V} {us : List Value}, Vals [x, y] us → ∃ u v, us = [u, v] ∧ RelV x u ∧ RelV y v
  | _, _, _, .cons r (.cons q .nil) => ⟨_, _, rfl, r, q⟩
theorem Vals.zero : ∀ {us : List Value}, Vals [] us → us = []
  | _, .nil => rfl
theorem Vals.dropLast {xs : List V} {us : List Value} (h : Vals xs us) : Vals xs.dropLast us.dropLast := by
  induction h with
  | nil => exact .nil
  | cons r t ih =>
    cases t with
    | nil => exact .nil
    | cons q t' => exact .cons r ih
theorem Vals.eraseIdx : ∀ {xs : List V} {us : List Value} (i : Nat), Vals xs us → Vals (xs.eraseIdx i) (us.eraseIdx i)
  | _, _, _, .nil => .nil
  | _, _, 0, .cons _ t => t
  | _, _, i + 1, .cons r t => .cons r (Vals.eraseIdx i t)
theorem Vals.reverse {xs : List V} {us : List Value} (h : Vals xs us) : Vals xs.reverse us.reverse := by
  induction h with
  | nil => exact .nil
  | cons r t ih => rw [List.reverse_cons, List.reverse_cons]; exact Vals.append ih (.cons r .nil)
theorem Vals.rep {xs : List V} {us : List Value} (h : Vals xs us) : ∀ k : Nat, Vals (List.replicate k xs).flatten (List.replicate k us).flatten
  | 0 => .nil
  | k + 1 => by
    rw [List.replicate_succ, List.replicate_succ, List.flatten_cons, List.flatten_cons]
    exact Vals.append h (Vals.rep h k)
theorem erase_last {α : Type} (l : List α) : l.eraseIdx (l.length - 1) = l.dropLast := by
  induction l with
  | nil => rfl
  | cons a r ih =>
    cases r with
    | nil => rfl
    | cons b r =>
      have e : (a :: b :: r).length - 1 = ((b :: r).length - 1) + 1 := by
        have h1 : (a :: b :: r).length = r.length + 2 := rfl
        have h2 : (b :: r).length = r.length + 1 := rfl
        omega
      rw [e, List.eraseIdx_cons_succ, ih]
      all_goals rfl
theorem len_erase {α : Type} : ∀ (l : List α) (i : Nat), (l.eraseIdx i).length ≤ l.length
  | [], _ => Nat.le_refl _
  | _ :: _, 0 => Nat.le_succ _
  | _ :: r, i + 1 => Nat.succ_le_succ (len_erase r i)
theorem foldl_rep (its : List Value) : ∀ (k : Nat) (acc : List Value),
    List.foldl (fun x1 x2 => x1 ++ x2) acc.toArray (List.replicate k its.toArray) = (acc ++ (List.replicate k its).flatten).toArray
  | 0, acc => by simp
  | k + 1, acc => by
    have e : acc.toArray ++ its.toArray = (acc ++ its).toArray := by simp
    have e2 : (acc ++ its) ++ (List.replicate k its).flatten = acc ++ (List.replicate (k + 1) its).flatten := by
      rw [List.replicate_succ, List.flatten_cons, List.append_assoc]
    rw [← e2, ← foldl_rep its k (acc ++ its), ← e, List.replicate_succ, List.foldl_cons]

section
variable {X : Cx} {pins : List (Addr × Obj)} {σ : St} {H : Hp} {s : Shared} {l b : Addr} {xs ys zs : List V}

/-! ### the two steps: a tracked list is rewritten, a new list is laid -/
theorem Inv.lset {its its' : List Value} {n : Nat} {f : Array Value → Array Value} {t' : Nat} (I : Inv X pins σ H s) (hH : H l = some (.lst xs))
    (e : s.heap.get? l = some { cls := .type "list", data := .seq its.toArray n }) (hf : f its.toArray = its'.toArray) (hv : Vals ys its') (hz : ys.length ≤ sizeLine) :
    Inv X pins σ (upd H l (.lst ys)) { s with heap := s.heap.update l (Obj.mapSeq f), toks := t' } := by
  have q := PySem.IsL.update e f
  rw [hf] at q
  refine I.write (x := l) (e := l) (by rw [hH]; exact trivial) (.inl rfl) (fun b' u hb hu => (Heap.get?_update_other s.heap (Obj.mapSeq f) (Ne.symm hb)).trans hu) ⟨_, q⟩ ?_
  exact ⟨hz, its', _, hv, q⟩
theorem Inv.lnew {its : List Value} {t' : Nat} (I : Inv X pins σ H s) (hv : Vals ys its) (hz : ys.length ≤ sizeLine) :
    Inv X pins σ (upd H s.heap.objs.size (.lst ys)) { s with heap := s.heap.push { cls := .type "list", data := .seq its.toArray }, toks := t' } :=
  I.laid (fun _ _ q => Heap.get?_push_of_some _ q) (Nat.le_refl _) ⟨hz, its, 0, hv, Heap.get?_push_size _ rfl⟩
theorem Inv.fresh (I : Inv X pins σ H s) : H s.heap.objs.size = none := I.hok.fresh (Nat.le_refl _)
theorem Inv.lstM (I : Inv X pins σ H s) (hH : H l = some (.lst xs)) : xs.length ≤ sizeLine ∧ ∃ (its : List Value) (n : Nat), Vals xs its ∧ xs.length = its.length ∧ s.heap.get? l = some { cls := .type "list", data := .seq its.toArray n } := by
  obtain ⟨z, its, n, r, e⟩ := I.hok l _ hH
  exact ⟨z, its, n, r, r.length, e⟩

theorem notLongL {n : Nat} (h : n ≤ sizeLine) : Builtin.List.listTooLong n = false := by
  unfold Builtin.List.listTooLong
  exact decide_eq_false (by omega)
end

section
variable {X : Cx}

/-! ### methods -/
def rAppend : V → List V → Hp → VK → Prop := fun x vs H Q => ∃ l xs y, x = .ref l ∧ vs = [y] ∧ H l = some (.lst xs) ∧ xs.length < sizeLine ∧ Q .non (upd H l (.lst (xs ++ [y])))
theorem mt_append : MtM X "list.append" rAppend := by
  intro pins s σ H x vs v us Q I rx rv h
  obtain ⟨l, xs, y, rfl, rfl, hH, hz, q⟩ := h
  cases rx
  obtain ⟨u, rfl, ru⟩ := rv.one
  obtain ⟨z, its, n, r, hl, e⟩ := I.lstM hH
  refine call_meets F.slot_list_append ⟨_, e, rfl⟩ F.entry_list_append (F.args_list_append_2 _ _) (PySem.list_append l its.toArray n u (by rw [List.size_toArray]; omega)) ⟨e, ?_⟩
  refine ⟨.non, _, I.lset (its' := its ++ [u]) hH e (by simp) (r.append (.cons ru .nil)) ?_, rfl, q⟩
  rw [List.length_append, List.length_singleton]
  omega

def rExtend : V → List V → Hp → VK → Prop := fun x vs H Q => ∃ l b xs zs, x = .ref l ∧ vs = [.ref b] ∧ H l = some (.lst xs) ∧ H b = some (.lst zs) ∧ xs.length + zs.length ≤ sizeLine ∧ Q .non (upd H l (.lst (xs ++ zs)))
theorem mt_extend : MtM X "list.extend" rExtend := by
  intro pins s σ H x vs v us Q I rx rv h
  obtain ⟨l, b, xs, zs, rfl, rfl, hH, hB, hz, q⟩ := h
  cases rx
  obtain ⟨u, rfl, ru⟩ := rv.one
  cases ru
  obtain ⟨z, its, n, r, hl, e⟩ := I.lstM hH
  obtain ⟨z2, its2, n2, r2, hl2, e2⟩ := I.lstM hB
  have hsz : its.toArray.size + its2.toArray.size ≤ sizeLine := by rw [List.size_toArray, List.size_toArray]; omega
  have hlong : ¬ (!its.toArray.isEmpty && Builtin.List.listTooLong (its.toArray.size + its2.toArray.size)) = true := by
    rw [notLongL hsz, Bool.and_false]
    exact Bool.false_ne_true
  refine call_meets F.slot_list_extend ⟨_, e, rfl⟩ F.entry_list_extend (F.args_list_extend_2 _ _)
    (AutoSeq1.list_extend_list_list_0 l its.toArray n b its2.toArray n2 hlong (by rw [List.size_toArray]; omega) (by omega)) ⟨e, e2, ?_⟩
  refine ⟨.non, _, I.lset (its' := its ++ its2) hH e (by simp) (r.append r2) ?_, rfl, q⟩
  rw [List.length_append]
  omega

def rPop : V → List V → Hp → VK → Prop := fun x vs H Q => ∃ l xs y, x = .ref l ∧ vs = [] ∧ H l = some (.lst xs) ∧ xs[xs.length - 1]? = some y ∧ Q y (upd H l (.lst xs.dropLast))
theorem mt_pop : MtM X "list.pop" rPop := by
  intro pins s σ H x vs v us Q I rx rv h
  obtain ⟨l, xs, y, rfl, rfl, hH, hy, q⟩ := h
  cases rx
  have hus := rv.zero
  subst hus
  obtain ⟨z, its, n, r, hl, e⟩ := I.lstM hH
  obtain ⟨u, hu, ru⟩ := r.get hy
  have hy' : its.toArray[its.toArray.size - 1]? = some u := by
    show its.toArray[its.length - 1]? = some u
    rw [← Array.getElem?_toList, ← hl]
    exact hu
  refine call_meets F.slot_list_pop ⟨_, e, rfl⟩ F.entry_list_pop (F.args_list_pop_1 _) (MeetsSeq.list_pop_last l its.toArray n u hy' (by rw [List.size_toArray]; omega)) ⟨e, ?_⟩
  refine ⟨y, _, I.lset (its' := its.dropLast) hH e ?_ r.dropLast ?_, ru, q⟩
  · show its.toArray.eraseIdxIfInBounds (its.toArray.size - 1) = its.dropLast.toArray
    rw [List.size_toArray, List.eraseIdxIfInBounds_toArray, erase_last]
  · rw [List.length_dropLast]
    omega

def rPopAt : V → List V → Hp → VK → Prop := fun x vs H Q => ∃ l xs i k y, x = .ref l ∧ vs = [.int i] ∧ H l = some (.lst xs) ∧ -(2 ^ 63) ≤ i ∧ i < 2 ^ 63 ∧ seqIndex? i xs.length = some k ∧ xs[k]? = some y ∧ Q y (upd H l (.lst (xs.eraseIdx k)))
theorem mt_popAt : MtM X "list.pop" rPopAt := by
  intro pins s σ H x vs v us Q I rx rv h
  obtain ⟨l, xs, i, k, y, rfl, rfl, hH, h1, h2, hk, hy, q⟩ := h
  cases rx
  obtain ⟨u, rfl, ru⟩ := rv.one
  obtain ⟨t, rfl⟩ := ru
  obtain ⟨z, its, n, r, hl, e⟩ := I.lstM hH
  obtain ⟨w, hw, rw'⟩ := r.get hy
  refine call_meets F.slot_list_pop ⟨_, e, rfl⟩ F.entry_list_pop (F.args_list_pop_2 _ _)
    (MeetsSeq.list_pop_at l its.toArray n i t k w (fitsIndex_both h1 h2) (by rw [List.size_toArray, ← hl]; exact hk) (by rw [← Array.getElem?_toList]; exact hw) (by rw [List.size_toArray]; omega)) ⟨e, ?_⟩
  refine ⟨y, _, I.lset (its' := its.eraseIdx k) hH e ?_ (r.eraseIdx k) ?_, rw', q⟩
  · show its.toArray.eraseIdxIfInBounds k = (its.eraseIdx k).toArray
    rw [List.eraseIdxIfInBounds_toArray]
  · have := len_erase xs k
    omega

def rReverse : V → List V → Hp → VK → Prop := fun x vs H Q => ∃ l xs, x = .ref l ∧ vs = [] ∧ H l = some (.lst xs) ∧ Q .non (upd H l (.lst xs.reverse))
theorem mt_reverse : MtM X "list.reverse" rReverse := by
  intro pins s σ H x vs v us Q I rx rv h
  obtain ⟨l, xs, rfl, rfl, hH, q⟩ := h
  cases rx
  have hus := rv.zero
  subst hus
  obtain ⟨z, its, n, r, hl, e⟩ := I.lstM hH
  refine call_meets F.slot_list_reverse ⟨_, e, rfl⟩ F.entry_list_reverse (F.args_list_reverse_1 _) (AutoSeq1.list_reverse_list_0 l its.toArray n (by rw [List.size_toArray]; omega)) ⟨e, ?_⟩
  refine ⟨.non, _, I.lset (its' := its.reverse) hH e (by simp) r.reverse ?_, rfl, q⟩
  rw [List.length_reverse]
  omega

def rClear : V → List V → Hp → VK → Prop := fun x vs H Q => ∃ l xs, x = .ref l ∧ vs = [] ∧ H l = some (.lst xs) ∧ Q .non (upd H l (.lst []))
theorem mt_clear : MtM X "list.clear" rClear := by
  intro pins s σ H x vs v us Q I rx rv h
  obtain ⟨l, xs, rfl, rfl, hH, q⟩ := h
  cases rx
  have hus := rv.zero
  subst hus
  obtain ⟨z, its, n, r, hl, e⟩ := I.lstM hH
  refine call_meets F.slot_list_clear ⟨_, e, rfl⟩ F.entry_list_clear (F.args_list_clear_1 _) (AutoSeq1.list_clear_list_0 l its.toArray n (by rw [List.size_toArray]; omega)) ⟨e, ?_⟩
  exact ⟨.non, _, I.lset (its' := []) (ys := []) hH e rfl .nil (Nat.zero_le _), rfl, q⟩

/-! ### list + list, list += list, list * int -/
def rCat : R2 := fun x y H Q => ∃ l b xs zs, x = .ref l ∧ y = .ref b ∧ H l = some (.lst xs) ∧ H b = some (.lst zs) ∧ xs.length + zs.length ≤ sizeLine ∧ ∀ p, H p = none → Q (.ref p) (upd H p (.lst (xs ++ zs)))
theorem op_cat : OpR X (binaryOp .Add) rCat := by
  intro pins s σ H x y v u Q I rx ry h
  obtain ⟨l, b, xs, zs, rfl, rfl, hH, hB, hz, q⟩ := h
  cases rx
  cases ry
  obtain ⟨z, its, n, r, hl, e⟩ := I.lstM hH
  obtain ⟨z2, its2, n2, r2, hl2, e2⟩ := I.lstM hB
  refine PySem.P.add_list e e2 ?_ (by rw [List.size_toArray, List.size_toArray]; omega)
  have ea : its.toArray ++ its2.toArray = (its ++ its2).toArray := by simp
  rw [ea]
  exact ⟨.ref _, _, I.lnew (t' := s.toks) (r.append r2) (by rw [List.length_append]; omega), rfl, q _ I.fresh⟩
/-- a list times an int (a negative one is nothing) -/
def rRep : R2 := fun x y H Q => ∃ l k xs, x = .ref l ∧ y = .int k ∧ H l = some (.lst xs) ∧ -(2 ^ 63) ≤ k ∧ k < 2 ^ 63 ∧ xs.length * k.toNat ≤ sizeLine ∧
  ∀ p, H p = none → Q (.ref p) (upd H p (.lst (List.replicate k.toNat xs).flatten))
theorem len_rep {α : Type} (xs : List α) (k : Nat) : (List.replicate k xs).flatten.length = k * xs.length := by
  induction k with
  | zero => simp
  | succ k ih => rw [List.replicate_succ, List.flatten_cons, List.length_append, ih, Nat.succ_mul, Nat.add_comm]
theorem op_rep : OpR X (binaryOp .Mult) rRep := by
  intro pins s σ H x y v u Q I rx ry h
  obtain ⟨l, k, xs, rfl, rfl, hH, h1, h2, hz, q⟩ := h
  cases rx
  obtain ⟨t, rfl⟩ := ry
  obtain ⟨z, its, n, r, hl, e⟩ := I.lstM hH
  have hlen : its.toArray.size * k.toNat ≤ sizeLine := by rw [List.size_toArray, ← hl]; exact hz
  have hcap : ¬ its.toArray.size * k.toNat > (2 ^ 63 - 1) / 8 := by
    have : (sizeLine : Nat) ≤ (2 ^ 63 - 1) / 8 := by decide
    omega
  have hfit : ¬ (!Builtin.List.listFitsIndex k) = true := by
    rw [fitsIndex_both h1 h2]
    exact Bool.false_ne_true
  have hlong : ¬ Builtin.List.listTooLong (its.toArray.size * k.toNat) = true := by
    rw [notLongL hlen]
    exact Bool.false_ne_true
  have hnew : List.foldl (fun x1 x2 => x1 ++ x2) #[] (List.replicate (if its.toArray.isEmpty = true then 0 else k.toNat) its.toArray) = (List.replicate k.toNat its).flatten.toArray := by
    have f0 : ∀ m : Nat, List.foldl (fun x1 x2 => x1 ++ x2) #[] (List.replicate m its.toArray) = (List.replicate m its).flatten.toArray := fun m => by
      have := foldl_rep its m []
      rw [List.nil_append] at this
      exact this
    rw [f0]
    cases its with
    | nil => simp
    | cons a r' => rw [if_neg (by simp)]
  refine wpAny_binaryOp_repeat_ref (T := "list") (U := "int") (by decide) ⟨_, e, rfl⟩ (fun s' => typeIs_int s' k t) noFill_list_mul F.fills_int_mul F.slot_int_rmul repeat_list F.slot_int_index.lookup
    (call_meets F.slot_int_rmul (typeIs_int s k t) F.entry_int_rmul (F.args_int_rmul_2 _ _) (int___rmul___int_list k t l its.toArray n)
      ⟨e, rfl, ⟨_, e, rfl⟩, call_meets F.slot_list_mul ⟨_, e, rfl⟩ F.entry_list_mul (F.args_list_mul_2 _ _) (AutoListH.list___mul___list_int_3 l its.toArray n k t hfit hcap hlong) ⟨e, ?_⟩⟩)
  rw [hnew]
  exact ⟨.ref _, _, I.lnew (t' := s.toks) (r.rep k.toNat) (by rw [len_rep, Nat.mul_comm]; exact hz), rfl, q _ I.fresh⟩

/-! ### del xs[i] -/
theorem del_list {pins : List (Addr × Obj)} {s : Shared} {σ : St} {H : Hp} {l : Addr} {xs : List V} {i : Int} {t : Tok} {k : Nat} {Q : Unit → Shared → Prop} (I : Inv X pins σ H s) (hH : H l = some (.lst xs))
    (h1 : -(2 ^ 63) ≤ i) (h2 : i < 2 ^ 63) (hk : seqIndex? i xs.length = some k) (h : ∀ s', Inv X pins σ (upd H l (.lst (xs.eraseIdx k))) s' → Q () s') :
    wpAny (model X.prog X.w) X.A (delItem (.ref l) (.int i t)) Q X.xe s := by
  obtain ⟨z, its, n, r, hl, e⟩ := I.lstM hH
  refine PySem.P.delItem_list (k := k) e (fitsIndex_both h1 h2) (by rw [List.size_toArray, ← hl]; exact hk) (h _ ?_) (by rw [List.size_toArray]; omega)
  refine I.lset (its' := its.eraseIdx k) (t' := s.toks) hH e ?_ (r.eraseIdx k) ?_
  · show its.toArray.eraseIdxIfInBounds k = (its.eraseIdx k).toArray
    rw [List.eraseIdxIfInBounds_toArray]
  · have := len_erase xs k
    omega
end

/-! ### xs[a:b] = ys -/
section
variable {prog : Program} {w : World} {A : Around} {E : Value → Shared → Prop} {s : Shared}
theorem splice_eq (its its2 : List Value) (a c : Nat) : its.toArray.extract 0 a ++ its2.toArray ++ its.toArray.extract c its.toArray.size = (its.take a ++ its2 ++ its.drop c).toArray := by
  apply Array.toList_inj.mp
  first
    | (simp
       exact List.take_of_length_le (by simp))
    | simp [List.take_of_length_le]
    | simp
theorem bounds_run {a c n : Nat} (hac : a ≤ c) (hc : c ≤ n) : sliceBounds (some (a : Int)) (some (c : Int)) none n = ((a : Int), (c : Int), 1) := by
  simp only [sliceBounds, Option.getD_none]
  have h1 : ¬ ((a : Int) < 0) := by omega
  have h2 : ¬ ((c : Int) < 0) := by omega
  simp only [h1, h2, if_false, show (1 : Int) > 0 by decide, if_true]
  congr 1
  · omega
  · congr 1; omega
set_option maxRecDepth 100000 in
/-- list.__setitem__ with a slice of step one and another list -/
theorem setItem_slice {l b sl : Addr} {items new : Array Value} {n n2 : Nat} {vl vu : Value} {a c : Nat} {Q : Unit → Shared → Prop}
    (e : s.heap.get? l = some { cls := .type "list", data := .seq items n }) (e2 : s.heap.get? b = some { cls := .type "list", data := .seq new n2 }) (hne : l ≠ b)
    (hs : s.heap.IsSliceOf sl vl vu .none) (pl : IsPart vl (some (a : Int))) (pu : IsPart vu (some (c : Int))) (hac : a ≤ c) (hc : c ≤ items.size)
    (hsz : items.size + new.size ≤ sizeLine) (h : Q () { s with heap := s.heap.update l (Obj.mapSeq fun xs => xs.extract 0 a ++ new ++ xs.extract c xs.size) }) :
    wpAny (model prog w) A (setItem (.ref l) (.ref sl) (.ref b)) Q E s := by
  have hl : s.heap.IsList l items := PySem.IsL.isList e
  have hb : s.heap.IsList b new := PySem.IsL.isList e2
  obtain ⟨os, hos, hcs, hds⟩ := id hs
  have hTs : s.TypeIs (.ref sl) "slice" := ⟨os, hos, hcs⟩
  have hstep : ¬ ((rawPart none == rawInt 0) = true) := Bool.false_ne_true
  have hsame : Builtin.List.listSameRef (.ref l) (.ref b) = false := by
    unfold Builtin.List.listSameRef
    exact beq_eq_false_iff_ne.mpr hne
  have hmax : (max (a : Int) (c : Int)).toNat = c := by omega
  have hz' : ((fun xs : Array Value => xs.extract 0 a ++ new ++ xs.extract c xs.size) items).size ≤ sizeLine + 1 := by
    simp only [Array.size_append, Array.size_extract]
    omega
  unfold setItem
  try with_reducible refine wpAny_holding ?_
  first | refine wpAny_bind (wpAny_pure ?_) | skip
  refine wpAny_bind (wpAny_sequenceKey hl.typeIs (by decide) ?_)
  refine wpAny_bind (wpAny_callSpecial?_slot (name := Str.ofString "__setitem__") hl.typeIs slot_list_setitem
    (wpAny_call_entry slot_list_setitem hl.typeIs entry_list_setitem ?_ (args_list_setitem _ _ _)))
  show wpAny _ _ (Builtin.List.listSubscript? (.ref sl) >>= _) _ _ s
  refine wpAny_bind ?_
  unfold Builtin.List.listSubscript?
  refine wpAny_bind (wpAny_specialOf hTs slice_no_index ?_)
  simp only [Option.isNone_none, if_true]
  refine wpAny_pure ?_
  show wpAny _ _ (typeOf (.ref sl) >>= _) _ _ s
  refine wpAny_bind (wpAny_typeOf hTs ?_)
  first
    | rw [if_neg (by decide)]
    | refine PySem.W.KFB.if_not (by decide) ?_
  rw [listSliceParts_eq]
  refine wpAny_bind (wpAny_bind (wpAny_field hos hds (x := .none) rfl (wpAny_bind (wpAny_listPart .none ?_))))
  rw [if_neg hstep]
  refine wpAny_bind (wpAny_field hos hds (x := vl) rfl (wpAny_bind (wpAny_listPart pl ?_)))
  refine wpAny_bind (wpAny_field hos hds (x := vu) rfl (wpAny_bind (wpAny_listPart pu (wpAny_pure ?_))))
  first
    | simp only [hsame, Bool.false_eq_true, if_false]
    | refine PySem.W.KFB.if_not hsame ?_
    | (dsimp only
       rw [if_neg (by rw [hsame]; exact Bool.false_ne_true)])
  refine wpAny_bind (m := Builtin.List.listAllItems (.ref b) "must assign iterable to extended slice") ?_
  unfold Builtin.List.listAllItems
  refine wpAny_bind (wpAny_typeOf hb.typeIs ?_)
  first
    | refine PySem.W.KFB.if_so (by decide) ?_
    | rw [if_pos (by decide)]
    | simp only [beq_self_eq_true, Bool.true_or, if_true]
  unfold Builtin.List.listItems
  refine wpAny_bind (wpAny_seqItems e2 rfl (wpAny_pure ?_))
  refine wpAny_bind (wpAny_bind (wpAny_seqItems e rfl (wpAny_pure ?_)))
  refine wpAny_bind (wpAny_of_eq ((sliceIndices_raw (some (a : Int)) (some (c : Int)) none items.size (by simp)).trans (congrArg (pure : Int × Int × Int → Sem (Int × Int × Int)) (bounds_run hac hc))) ?_)
  show wpAny _ _ (if ((1 : Int) == 1) = true then _ else _) _ _ s
  rw [if_pos (by decide)]
  refine wpAny_bind (wpAny_rule ?_)
  first
    | simp only [notLongL hsz, Bool.false_eq_true, if_false]
    | refine PySem.W.KFB.if_not (notLongL hsz) ?_
  first | refine wpAny_bind (wpAny_pure ?_) | skip
  show wpAny _ _ (updateSeq l (fun xs => xs.extract 0 ((a : Int)).toNat ++ new ++ xs.extract (max (a : Int) (c : Int)).toNat xs.size) >>= _) _ _ s
  rw [hmax, Int.toNat_natCast]
  refine wpAny_bind (wpAny_updateSeq (hz := Nat.le_trans (Nat.le_add_right _ _) hsz) (_hz' := hz') e rfl ?_)
  refine wpAny_bind (wpAny_letGo ?_)
  first
    | exact wpAny_bind (wpAny_pure (wpAny_pure ⟨.none, rfl, wpAny_pure h⟩))
    | exact wpAny_pure ⟨.none, rfl, wpAny_pure h⟩
end

section
variable {X : Cx}
/-- xs[a:c] = ys of another list, at the value level: sl is the slice object that was just made -/
theorem set_slice {pins : List (Addr × Obj)} {s : Shared} {σ : St} {H : Hp} {l b sl : Addr} {xs ys : List V} {a c : Int} {vl vu : Value} {Q : Unit → Shared → Prop} (I : Inv X pins σ H s)
    (hH : H l = some (.lst xs)) (hB : H b = some (.lst ys)) (hne : l ≠ b) (hs : s.heap.IsSliceOf sl vl vu .none) (ra : RelV (.int a) vl) (rc : RelV (.int c) vu) (h0 : 0 ≤ a) (hac : a ≤ c) (hc : c ≤ xs.length)
    (hz : xs.length + ys.length ≤ sizeLine) (h : ∀ s', Inv X pins σ (upd H l (.lst (xs.take a.toNat ++ ys ++ xs.drop c.toNat))) s' → Q () s') :
    wpAny (model X.prog X.w) X.A (setItem (.ref l) (.ref sl) (.ref b)) Q X.xe s := by
  obtain ⟨ta, rfl⟩ := ra
  obtain ⟨tc, rfl⟩ := rc
  obtain ⟨z, its, n, r, hl, e⟩ := I.lstM hH
  obtain ⟨z2, its2, n2, r2, hl2, e2⟩ := I.lstM hB
  obtain ⟨a', rfl⟩ := Int.eq_ofNat_of_zero_le h0
  obtain ⟨c', rfl⟩ := Int.eq_ofNat_of_zero_le (Int.le_trans h0 hac)
  simp only [Int.toNat_natCast] at h
  refine setItem_slice (a := a') (c := c') e e2 hne hs (.int _ _) (.int _ _) (by omega) (by rw [List.size_toArray]; omega) (by rw [List.size_toArray, List.size_toArray]; omega) (h _ ?_)
  refine I.lset (its' := its.take a' ++ its2 ++ its.drop c') (t' := s.toks) hH e ?_ (Vals.append (Vals.append (r.take _) r2) (r.drop _)) ?_
  · exact splice_eq its its2 a' c'
  · rw [List.length_append, List.length_append, List.length_take, List.length_drop]
    omega
end
end L2

namespace Att
open PySem PySem.W PySem.Calls PyProof.Rows

/-! ### the script -/
theorem ints_of_wellAll {P : Params} {h : Heap} : ∀ (ns : List Int) (vs : List Value), WellAll P h vs (ns.map WData.int) → IntsAre vs ns := by
  intro ns
  induction ns with
  | nil =>
    intro vs w
    rw [List.map_nil] at w
    cases w
    exact .nil
  | cons n ns ih =>
    intro vs w
    rw [List.map_cons] at w
    cases w with
    | cons a b =>
      cases a
      exact .cons _ _ (ih _ b)

theorem script_of {l : OpenLaw} {n : Nat} (hn : l.most = some n) {P : Params} {h : Heap} {args : List WData} {vals : List Value}
    (hpre : l.row.toRowW.claim.pre args = true) (hwl : WellAll P h vals args) :
    ∃ a vs ns, vals = [Value.ref a] ∧ args = [WData.list (ns.map WData.int)] ∧ h.get? a = some { cls := .type "list", data := .seq vs.toArray } ∧ IntsAre vs ns ∧ ns.length ≤ n := by
  have hsh : WShape.hasAll [] args [.list .int] = true := (pre_splitW hpre).1
  have hc : l.pre.holds [] { args := args } = true := (pre_splitW hpre).2
  obtain ⟨d, r, rfl, h1, h2⟩ := hasAllW_cons hsh
  obtain rfl := hasAllW_nil h2
  obtain ⟨xs, rfl, h3⟩ := hasW_list h1
  obtain ⟨ns, rfl⟩ := items_int h3
  have hlen : ns.length ≤ n := by
    unfold OpenLaw.pre at hc
    have h4 : (WTm.not (.lt (.lit (.int (n : Int))) (.len (.arg 0)))).holds [] { args := [.list (ns.map .int)] } = true := by
      have h4 := (holds_andW hc).1
      rw [hn] at h4
      exact h4
    have h5 := condW_of h4 (w_not (w_lt w_lit (w_len_list (w_arg rfl))))
    rw [List.length_map] at h5
    refine Nat.le_of_not_lt fun q => ?_
    have q' : (n : Int) < ((ns.length : Nat) : Int) := by omega
    first
      | (rw [decide_eq_true q'] at h5; exact absurd h5 (by decide))
      | (simp at h5; omega)
  cases hwl with
  | cons w1 w2 =>
    cases w2
    cases w1 with
    | list ho hall => exact ⟨_, _, ns, rfl, rfl, ho, ints_of_wellAll ns _ hall, hlen⟩

theorem post_true (l : OpenLaw) (args : List WData) : l.row.toRowW.claim.post args (.bool true) args = true :=
  postW_of (r := l.row.toRowW) (X := (true == true))
    (show WShape.has [] (.bool true) .bool = true by first | rfl | decide | simp [WShape.has, WShape.arms, WShape.armsAll])
    (show (WTm.eq .res (.lit (.bool true))).value [] { args := args, res := some (.bool true), after := args } = some (.bool (true == true)) from w_eq_bool (w_res rfl) w_lit) rfl

/-! ### the attachment: holds_open's last premise (the goal 'hc' behind k_head) from a wpAny of the law's body -/
theorem attach {l : OpenLaw} {n : Nat} {q : Program} {loose : List Str} {XP : (Str → Option Value) → Heap → Prop} {YP : World → Heap → Prop} {d : DefRec} {x : Str}
    (hn : l.most = some n) (hdf : d.params.defaults = [])
    (hbind : ∀ pm cd doc v : Value, bindArgs (docDef d.name d.params d.body d.scope pm cd doc) ⟨[v], []⟩ = pure [(x, v)])
    (hx : d.scope.names.lookup x = some .local ∨ d.scope.names.lookup x = some .cell)
    (hk : d.scope.kind = .function) (hco : d.scope.isCoroutine = false) (hgen : d.scope.isGenerator = false)
    (body : ∀ (w : World) (s₀ s₁ s : Shared) (mg mb : Str → Option Value) (fa : Addr) (o : Obj) (pm cd doc : Value) (a : Addr) (vs : List Value) (ns : List Int),
      Ground q loose [] XP w s₀ mg mb s₁.heap → YP w s₁.heap →
      s₁.heap.get? fa = some o → o.data = .func (docDef d.name d.params d.body d.scope pm cd doc) → s₁.heap.CodeRec cd d.name → mg d.name = some (.ref fa) →
      s₁.heap.get? a = some { cls := .type "list", data := .seq vs.toArray } → IntsAre vs ns → ns.length ≤ n →
      s.gens = #[] → s.os = s₁.os →
      Fr s₁.heap s₁.heap.objs.size s.heap (bindL (envOfC d.name d.scope s₁.heap.objs.size fa cd).kindOf [(x, .ref a)] fun _ => none) →
      Cl s₁.heap.objs.size (cellsFrom (s₁.heap.objs.size + 1) d.scope.names []) s.heap (bindC (envOfC d.name d.scope s₁.heap.objs.size fa cd).kindOf [(x, .ref a)] fun _ => none) →
      wpAny (model l.prog w) (callerA.deeper (envOfC d.name d.scope s₁.heap.objs.size fa cd)) (execs d.body (envOfC d.name d.scope s₁.heap.objs.size fa cd))
        (fun f s' => f = .ret (.bool true) ∧ OldK s₁.heap s'.heap ∧ s'.os = s₁.os ∧ AllBare s'.gens) (fun _ _ => False) s) :
    WalkO q loose XP YP l.row.toRowW d [] (fun f vs => PySem.call f vs) := by
  intro w s₀ s₁ mg mb G Y fa o pm cd doc dV kV ho hd hcd hD hmg hg args vals as hpre hlay hrd hwl hlo
  obtain rfl : dV = .none := Dflts.none hD hdf
  obtain rfl : kV = .none := Dflts.noKw hD
  obtain ⟨a, vs, ns, rfl, rfl, hobj, hints, hlen⟩ := script_of hn hpre hwl
  refine enter_call ?_
  refine call_cells_ret (o := o) (by rw [depth_caller]; decide) ho (fd_plain hd) G.T.nolimit hcd (hbind pm cd doc (.ref a)) (fun y hy => ?_) (fun h₁ tk F X => ?_) hco hgen hk
  · obtain rfl : y = (x, Value.ref a) := List.mem_singleton.mp hy
    rcases hx with e | e
    · exact .inl e
    · exact .inr ⟨e, cellsFrom_some _ _ _ (.inl e)⟩
  · refine wpAny_mono (body w s₀ s₁ { s₁ with heap := h₁, toks := tk } mg mb fa o pm cd doc a vs ns G Y ho (fd_plain hd) hcd hmg hobj hints hlen hg rfl F X) (fun f s' hq => ?_) (fun _ _ hq => hq)
    obtain ⟨rfl, h2, h3, h4⟩ := hq
    exact ⟨.inl ⟨.bool true, .bool true, [], rfl, fun _ => rfl, .bool true, post_true l _, fun _ => ⟨List.Pairwise.nil, fun _ hm => (nomatch hm)⟩⟩, h2, h3, h4⟩

/-- the same from a codeAny of the CALL (for a layer whose function contracts speak of calls) -/
theorem attach_call {l : OpenLaw} {n : Nat} {q : Program} {loose : List Str} {XP : (Str → Option Value) → Heap → Prop} {YP : World → Heap → Prop} {d : DefRec}
    (hn : l.most = some n) (hdf : d.params.defaults = [])
    (call : ∀ (w : World) (s₀ s₁ : Shared) (mg mb : Str → Option Value) (fa : Addr) (o : Obj) (pm cd doc : Value) (a : Addr) (vs : List Value) (ns : List Int),
      Ground q loose [] XP w s₀ mg mb s₁.heap → YP w s₁.heap →
      s₁.heap.get? fa = some o → o.data = .func (docDef d.name d.params d.body d.scope pm cd doc) → s₁.heap.CodeRec cd d.name → mg d.name = some (.ref fa) →
      s₁.heap.get? a = some { cls := .type "list", data := .seq vs.toArray } → IntsAre vs ns → ns.length ≤ n → s₁.gens = #[] →
      codeAny (model l.prog w) callerA (.call (.ref fa) ⟨[.ref a], []⟩) (fun r s' => r = .ok (.ret (.bool true)) ∧ OldK s₁.heap s'.heap ∧ s'.os = s₁.os ∧ AllBare s'.gens) s₁) :
    WalkO q loose XP YP l.row.toRowW d [] (fun f vs => PySem.call f vs) := by
  intro w s₀ s₁ mg mb G Y fa o pm cd doc dV kV ho hd hcd hD hmg hg args vals as hpre hlay hrd hwl hlo
  obtain rfl : dV = .none := Dflts.none hD hdf
  obtain rfl : kV = .none := Dflts.noKw hD
  obtain ⟨a, vs, ns, rfl, rfl, hobj, hints, hlen⟩ := script_of hn hpre hwl
  refine enter_call (codeAny_mono (call w s₀ s₁ mg mb fa o pm cd doc a vs ns G Y ho (fd_plain hd) hcd hmg hobj hints hlen hg) fun r s' hq => ?_)
  obtain ⟨rfl, h2, h3, h4⟩ := hq
  exact ⟨.inl ⟨.bool true, .bool true, [], rfl, fun _ => rfl, .bool true, post_true l _, fun _ => ⟨List.Pairwise.nil, fun _ hm => (nomatch hm)⟩⟩, h2, h3, h4⟩

/-- the same where the top left finished generators (o_head chose holds_openN): nothing may have changed at all and no generator may be left -/
theorem attachN {l : OpenLaw} {n : Nat} {q : Program} {loose : List Str} {XP : (Str → Option Value) → Heap → Prop} {YP : World → Heap → Prop} {d : DefRec} {x : Str}
    (hn : l.most = some n) (hdf : d.params.defaults = [])
    (hbind : ∀ pm cd doc v : Value, bindArgs (docDef d.name d.params d.body d.scope pm cd doc) ⟨[v], []⟩ = pure [(x, v)])
    (hx : d.scope.names.lookup x = some .local ∨ d.scope.names.lookup x = some .cell)
    (hk : d.scope.kind = .function) (hco : d.scope.isCoroutine = false) (hgen : d.scope.isGenerator = false)
    (body : ∀ (w : World) (s₀ s₁ s : Shared) (mg mb : Str → Option Value) (fa : Addr) (o : Obj) (pm cd doc : Value) (a : Addr) (vs : List Value) (ns : List Int),
      Ground q loose [] XP w s₀ mg mb s₁.heap → YP w s₁.heap →
      s₁.heap.get? fa = some o → o.data = .func (docDef d.name d.params d.body d.scope pm cd doc) → s₁.heap.CodeRec cd d.name → mg d.name = some (.ref fa) →
      s₁.heap.get? a = some { cls := .type "list", data := .seq vs.toArray } → IntsAre vs ns → ns.length ≤ n →
      s.gens = #[] → s.os = s₁.os →
      Fr s₁.heap s₁.heap.objs.size s.heap (bindL (envOfC d.name d.scope s₁.heap.objs.size fa cd).kindOf [(x, .ref a)] fun _ => none) →
      Cl s₁.heap.objs.size (cellsFrom (s₁.heap.objs.size + 1) d.scope.names []) s.heap (bindC (envOfC d.name d.scope s₁.heap.objs.size fa cd).kindOf [(x, .ref a)] fun _ => none) →
      wpAny (model l.prog w) (callerA.deeper (envOfC d.name d.scope s₁.heap.objs.size fa cd)) (execs d.body (envOfC d.name d.scope s₁.heap.objs.size fa cd))
        (fun f s' => f = .ret (.bool true) ∧ (∀ b o, s₁.heap.get? b = some o → s'.heap.get? b = some o) ∧ s'.os = s₁.os ∧ s'.gens = #[]) (fun _ _ => False) s) :
    WalkN q loose XP YP l.row.toRowW d [] (fun f vs => PySem.call f vs) := by
  intro w s₀ s₁ mg mb G Y fa o pm cd doc dV kV ho hd hcd hD hmg hg args vals as hpre hlay hrd hwl hlo
  obtain rfl : dV = .none := Dflts.none hD hdf
  obtain rfl : kV = .none := Dflts.noKw hD
  obtain ⟨a, vs, ns, rfl, rfl, hobj, hints, hlen⟩ := script_of hn hpre hwl
  refine enter_callW ?_
  refine call_cells_ret (o := o) (by rw [depth_caller]; decide) ho (fd_plain hd) G.T.nolimit hcd (hbind pm cd doc (.ref a)) (fun y hy => ?_) (fun h₁ tk F X => ?_) hco hgen hk
  · obtain rfl : y = (x, Value.ref a) := List.mem_singleton.mp hy
    rcases hx with e | e
    · exact .inl e
    · exact .inr ⟨e, cellsFrom_some _ _ _ (.inl e)⟩
  · refine wpAny_mono (body w s₀ s₁ { s₁ with heap := h₁, toks := tk } mg mb fa o pm cd doc a vs ns G Y ho (fd_plain hd) hcd hmg hobj hints hlen hg rfl F X) (fun f s' hq => ?_) (fun _ _ hq => hq)
    obtain ⟨rfl, h2, h3, h4⟩ := hq
    exact ⟨.inl ⟨.bool true, .bool true, [], rfl, fun _ => rfl, .bool true, post_true l _, fun _ => ⟨List.Pairwise.nil, fun _ hm => (nomatch hm)⟩⟩, h2, h3, h4⟩

/-! ### rules over ANY heap (no ledger) from facts about the written part K: the library's own take a ledger (News) for what they write -/
section
variable {prog : Program} {w : World} {A : Around} {E : Value → Shared → Prop} {s : Shared} {K : Frag}

/-- a def of the module, or a method (qual 'C.m'), entered: the frame is the next address; cells behind it -/
theorem call_fn {R : Result → Shared → Prop} {name qual : Str} {params : Arguments} {body : List Stmt} {scope : Scope} {dV kV doc pm cdv ct oc : Value} {an od : Option Addr} {osl : Array (Option Value)} {f : Addr} {args : Args} {binds : List (Str × Value)}
    (X : K.In s.heap) (hlim : s.heap.NoLimit) (ho : K.lookup f = some ⟨oc, od, .func (fnOf name qual params body scope dV kV doc pm an cdv ct), osl⟩) (hcd : codeIn K cdv qual = true) (hroom : A.depth < recursionLimit)
    (hbind : BindsTo s (fnOf name qual params body scope dV kV doc pm an cdv ct) args binds)
    (hkind : (binds.all fun y => scope.names.lookup y.1 == some .local || scope.names.lookup y.1 == some .cell) = true)
    (h : ∀ s₁, InCallC s s.heap.objs.size (bindL (envOfC qual scope s.heap.objs.size f cdv).kindOf binds fun _ => none) (cellsFrom (s.heap.objs.size + 1) scope.names [])
        (bindC (envOfC qual scope s.heap.objs.size f cdv).kindOf binds fun _ => none) s₁ →
      wpAny (model prog w) (A.deeper (envOfC qual scope s.heap.objs.size f cdv)) (execs body (envOfC qual scope s.heap.objs.size f cdv))
        (fun fl s' => R (.ok (.ret (match fl with | .ret v => v | _ => .none))) s')
        (fun e s' => wpAny (model prog w) (A.deeper (envOfC qual scope s.heap.objs.size f cdv)) (leaving (envOfC qual scope s.heap.objs.size f cdv) e) (fun _ s'' => R (.error e) s'') (fun e' s'' => R (.error e') s'') s') s₁)
    (hco : scope.isCoroutine = false) (hgen : scope.isGenerator = false) (hk : scope.kind = .function) : codeAny (model prog w) A (.call (.ref f) args) R s := by
  refine codeAny_call_function hroom (X _ _ ho) rfl hco hgen rfl (codeRec_of X hcd) (hbind _ _ _ _ ?_)
  refine wpAny_newFunctionEnv_cells hk (kindsX hkind _) fun env he s₁ x => ?_
  subst he
  exact ⟨hlim.keeps x.toInCall.keep, codeAny_func (h s₁ x)⟩

/-- C(..): dict at size, instance at size + 1, then __init__ -/
theorem make_obj {R : Result → Shared → Prop} {C fI : Addr} {rest : List Value} {kw : List (Str × Value)}
    (X : K.In s.heap) (hm : makesIn K C = true) (hi : findIn K (.ref C) "__init__" = some (some (.ref fI))) (hf : isFn K (.ref fI) = true)
    (h : codeAny (model prog w) (A.under (.builtin "type.__call__" ⟨.ref C :: rest, kw⟩)) (.call (.ref fI) ⟨.ref (s.heap.objs.size + 1) :: rest, kw⟩) (InitBack (s.heap.objs.size + 1) R)
      { s with heap := (s.heap.push emptyDict).push (instObj C s.heap.objs.size) }) : codeAny (model prog w) A (.call (.ref C) ⟨rest, kw⟩) R s := by
  obtain ⟨hh, g, d, t, os⟩ := s
  exact make_core (makes_of X hm) (looks_findIn X hi) (fun self => bind_fn X self (beq_iff_eq.mp hf)) (.inl rfl) h

/-- x.name where the instance's dict holds the name and the class does not -/
theorem get_field {x C : Addr} {ox : Obj} {es : List DictEntry} {n : Nat} {name : Str} {expr : Bool} {v : Value} {Q : Value → Shared → Prop}
    (X : K.In s.heap) (I : PySem.W.InstAt s.heap x ox C (some (dictOf es n))) (hg : plainGet K C name = true) (hh : hasDictIn K C = true) (ha : findIn K (.ref C) name = some none)
    (hl : getL name es = some (some v)) (hv : handedIn v = true) (h : Q v { s with toks := s.toks + 1 }) : wpAny (model prog w) A (getAttr (.ref x) name expr) Q E s :=
  get_value X I (plainGet_of hg).1 (findObj_own hh ha rfl hl) hv h

/-- x.m(..): the method found in the class -/
theorem get_method {x C f : Addr} {ox : Obj} {es : List DictEntry} {n : Nat} {name : Str} {pl : Sem Bool} {Q : Value × List Value → Shared → Prop}
    (X : K.In s.heap) (I : PySem.W.InstAt s.heap x ox C (some (dictOf es n))) (hg : plainGet K C name = true) (hf : findIn K (.ref C) name = some (some (.ref f))) (ht : isFn K (.ref f) = true)
    (hl : getL name es = some none) (h : Q (.ref f, [.ref x]) s) : wpAny (model prog w) A (getMethod (.ref x) name pl) Q E s :=
  method_fn X I (plainGet_of hg).1 (plainGet_of hg).2 hf (beq_iff_eq.mp ht) (by show (lookIn name (dictOf es n)).map _ = _; rw [lookIn_dict, hl]; rfl) h

/-! the whole heap as the ledger: makes every rule that writes through a ledger a rule over any heap -/
def noObjs (h : Heap) : Heap := { h with objs := #[] }
theorem noObjs_get (h : Heap) (b : Addr) : (noObjs h).get? b = none := by
  cases e : (noObjs h).get? b with
  | none => rfl
  | some o => exact absurd (Heap.lt_size e) (Nat.not_lt_zero _)
def ledger (h : Heap) (L d : Addr) : List (Addr × Obj) := (List.range h.objs.size).filterMap fun a => if a = L ∨ a = d then none else (h.get? a).map fun o => (a, o)
theorem mem_ledger {h : Heap} {L d a : Addr} {o : Obj} : (a, o) ∈ ledger h L d ↔ a ≠ L ∧ a ≠ d ∧ h.get? a = some o := by
  unfold ledger
  rw [List.mem_filterMap]
  constructor
  · rintro ⟨b, _, e⟩
    split at e
    · cases e
    · rename_i hb
      obtain ⟨o', ho, e'⟩ := Option.map_eq_some_iff.mp e
      cases e'
      exact ⟨fun q => hb (.inl q), fun q => hb (.inr q), ho⟩
  · rintro ⟨n1, n2, ho⟩
    refine ⟨a, List.mem_range.mpr (Heap.lt_size ho), ?_⟩
    rw [if_neg (show ¬ (a = L ∨ a = d) from fun q => q.elim n1 n2), ho] <;> rfl
theorem news_ledger {h : Heap} {L d : Addr} {od : Obj} (hne : d ≠ L) (ho : h.get? d = some od) : News (noObjs h) L h ([] ++ (d, od) :: ledger h L d) := by
  rintro ⟨a, o⟩ hp
  rcases List.mem_cons.mp hp with e | hp
  · cases e
    exact ⟨ho, hne, noObjs_get _ _⟩
  · obtain ⟨n1, n2, e⟩ := mem_ledger.mp hp
    exact ⟨e, n1, noObjs_get _ _⟩
theorem fr_all {h : Heap} {L : Addr} {m : Str → Option Value} (n : h.Ns L m) : Fr (noObjs h) L h m :=
  ⟨n, fun b o e => (by rw [noObjs_get] at e; cases e), Nat.zero_le _⟩
/-- Upd of the head entry (for append_K, setItem_K ..) -/
theorem upd_ledger {h : Heap} {L d : Addr} {o o' : Obj} : Upd d o o' ((d, o) :: ledger h L d) ((d, o') :: ledger h L d) :=
  .head fun ⟨_, _⟩ hp => (mem_ledger.mp hp).2.1

/-- x.name = v over any heap: L is any namespace of the heap (the frame's, say): its map stays, its object is not told; all else but the dict stays -/
theorem set_field {x C dx L : Addr} {ox : Obj} {m : Str → Option Value} {es es' : List DictEntry} {n n' : Nat} {name : Str} {v : Value} {Q : Unit → Shared → Prop}
    (X : K.In s.heap) (I : PySem.W.InstAt s.heap x ox C (some (dictOf es n))) (hd : ox.dict = some dx) (hL : s.heap.Ns L m) (hne : dx ≠ L)
    (hs : findIn K (.ref C) "__setattr__" = some (some (.builtin "object.__setattr__"))) (hp : plainOver K C = true) (ht : takerIn K C name = some none) (hh : hasDictIn K C = true) (hl : (getL name es).isSome = true)
    (e : (putL name (PyData.keyHash w.params name) (.str name (s.toks + 1)) v es, putN name es n) = (es', n')) (hz : es'.length ≤ 1000)
    (h : ∀ h' : Heap, h'.Ns L m → h'.get? dx = some (dictOf es' n') → (∀ b o, b ≠ dx → b ≠ L → s.heap.get? b = some o → h'.get? b = some o) → Q () { s with heap := h', toks := s.toks + 2 }) :
    wpAny (model prog w) A (setAttr (.ref x) name v) Q E s := by
  obtain ⟨e1, e2⟩ := Prod.mk.inj e
  have hdx : s.heap.get? dx = some (dictOf es n) := by
    have := I.dict
    rw [hd] at this
    exact this
  refine set_plain X I hs (osa_dict (s := { s with toks := s.toks + 1 }) (h₀ := noObjs s.heap) (L := L) (m := m) (od := dictOf es n) (od' := dictOf es' n') (es := es') (n := n') (pre := []) (post := ledger s.heap L dx)
    (fr_all hL) (news_ledger hne hdx) X I hd hp ht hh hl (fun _ q => nomatch q) (fun ⟨_, _⟩ q => (mem_ledger.mp q).2.1) (by rw [putName_dict, e1, e2]) rfl hz fun h' F' N' => ?_)
  exact h h' F'.ns (N'.get (List.Mem.head _)) fun b o n1 n2 ho => N'.get (List.Mem.tail _ (mem_ledger.mpr ⟨n2, n1, ho⟩))
end
end Att

namespace L2
open PySem PySem.Spec PyProof.Rows

theorem vals_ints : ∀ {vs : List Value} {ns : List Int}, IntsAre vs ns → Vals (ns.map V.int) vs
  | _, _, .nil => .nil
  | _, _, .cons n t h => .cons ⟨t, rfl⟩ (vals_ints h)

/-- nothing is tracked but the script, known to the object (or it is an object of the module) -/
def Only (H : Hp) : Prop := ∀ b, H b = none ∨ ∃ o xs, H b = some (.frz o (.lst xs))

/-- THE HEAD: the law's promise, at the heap behind the top. F, the promise of the law's def, may use that base is part of the heap (so K.In base, base.Ns mainGlobals mg stand in Mod) -/
theorem law_call {P : Program} {w : World} {K : PySem.W.Frag} {mg mb : Str → Option Value} {CX : CXT} {k : Nat} {fa a : Addr} {fd : FuncData} {x : Str} {sp : Sp} {s₁ : Shared} {vs : List Value} {ns : List Int}
    (KX : K.In s₁.heap) (hns : s₁.heap.Ns mainGlobals mg) (hb : s₁.heap.Ns builtinsNs mb) (hbb : ∀ x : Str, x ≠ "__name__" → mb x = bootBuiltins x) (hlim : s₁.heap.NoLimit) (hg : s₁.gens = #[])
    (ha : s₁.heap.get? a = some { cls := .type "list", data := .seq vs.toArray }) (hi : IntsAre vs ns) (hl : ns.length ≤ sizeLine) (hr : Room k callerA)
    (F : ∀ base : Heap, K.In base → base.Ns mainGlobals mg → FnOk P w K mg base CX k fa fd [x] sp) (hbind : ∀ (s : Shared) (u : Value), BindsTo s fd ⟨[u], []⟩ [(x, u)])
    (hsp : ∀ H : Hp, Only H → SqL K H a (ns.map V.int) → sp [.ref a] H (fun v _ => v = .bl true) fun _ _ _ => False)
    (hCX : ∀ H e s', CX [] H s₁ (fun _ _ _ => False) e s' → False) :
    codeAny (model P w) callerA (.call (.ref fa) ⟨[.ref a], []⟩) (fun r s' => r = .ok (.ret (.bool true)) ∧ OldK s₁.heap s'.heap ∧ s'.os = s₁.os ∧ AllBare s'.gens) s₁ := by
  have rv := vals_ints hi
  have lenV := hi.length
  -- from an abstract heap in which nothing but the script may be tracked
  have core : ∀ H : Hp, Only H → SqL K H a (ns.map V.int) → HOk P w H s₁.heap → (∀ b, H b ≠ none → b = a) → (H a ≠ none → K.lookup a = none) →
      codeAny (model P w) callerA (.call (.ref fa) ⟨[.ref a], []⟩) (fun r s' => r = .ok (.ret (.bool true)) ∧ OldK s₁.heap s'.heap ∧ s'.os = s₁.os ∧ AllBare s'.gens) s₁ := by
    intro H hO hS hok hA hK
    have base_of : ∀ {b : Addr} {o : Obj}, s₁.heap.get? b = some o → H b = none → (hidT s₁.heap H).get? b = some o := fun e n => hidT_get e n
    have noA : ∀ {b : Addr} {o : Obj} {es : Array DictEntry} {ep : Nat}, s₁.heap.get? b = some o → o.data = .dict es ep → H b = none := fun {b o es ep} e d => by
      cases q : H b with
      | none => rfl
      | some u =>
        have e' : b = a := hA b (by rw [q]; simp)
        subst e'
        rw [ha] at e; cases e
        have d' : Data.seq vs.toArray _ = Data.dict es ep := d
        cases d'
    have nsK : ∀ {b : Addr} {m : Str → Option Value}, s₁.heap.Ns b m → (hidT s₁.heap H).Ns b m := fun {b m} ⟨o, es, ep, e, d, r⟩ => ⟨o, es, ep, base_of e (noA e d), d, r⟩
    have hKb : K.In (hidT s₁.heap H) := fun b o e => base_of (KX b o e) (by
      cases q : H b with
      | none => rfl
      | some u =>
        have e' : b = a := hA b (by rw [q]; simp)
        subst e'
        rw [hK (by rw [q]; simp)] at e; cases e)
    have hM : Mod K mg (hidT s₁.heap H) := ⟨hKb, nsK hns, ⟨mb, nsK hb, hbb⟩, let ⟨mc, h1, h2⟩ := hlim; ⟨mc, nsK h1, h2⟩⟩
    have e0 : Env0 P w K mg (hidT s₁.heap H) callerA [] s₁ H := ⟨rfl, hM, fun b o e => of_hidT e, Nat.le_of_eq (hidT_size _ _), trivial, fun b hb => absurd (show b ∈ ([] : List Addr) from hb) (by simp), hok, .of_eq hg⟩
    refine codeAny_mono ((F _ hKb (nsK hns)).run callerA [] s₁ H ⟨[.ref a], []⟩ [.ref a] [.ref a] _ _ hr e0 (hbind s₁ (.ref a)) (.cons rfl .nil) (hsp H hO hS)) fun r s' h => ?_
    cases r with
    | error e => exact (hCX H e s' h).elim
    | ok fl =>
      cases fl with
      | next => exact False.elim h
      | brk => exact False.elim h
      | cont => exact False.elim h
      | ret u =>
        obtain ⟨v, H', os, bare, un, hok', r', q⟩ := h
        have q' : v = .bl true := q
        subst q'
        obtain rfl : u = Value.bool true := r'
        refine ⟨rfl, OldK.of_keep fun b o e => ?_, os, bare⟩
        cases q : H b with
        | none => exact un.keep b o e q (by intro z; exact absurd (show b ∈ ([] : List Addr) from z) (by simp)) (by simp)
        | some u =>
          rcases hO b with z | ⟨ob, xs, z⟩
          · rw [q] at z; cases z
          · have z2 := un.frzs b ob _ z
            obtain ⟨e1, _⟩ := hok b _ z
            obtain ⟨e2, _⟩ := hok' b _ z2
            rw [e] at e1; cases e1
            exact e2
  cases hk : K.lookup a with
  | some o =>
    -- the script is one of the module's own objects
    have e := KX a o hk
    rw [ha] at e
    cases e
    refine core (fun _ => none) (fun _ => .inl rfl) (.inr ⟨_, vs.toArray, _, hk, rfl, rfl, rfl, by rw [List.size_toArray, lenV]; exact hl, by simpa using rv⟩) (fun b u z => by have z' : (none : Option HO) = some u := z; cases z') (fun b z => absurd rfl z) fun z => absurd rfl z
  | none =>
    refine core (fun b => if b = a then some (.frz { cls := .type "list", data := .seq vs.toArray } (.lst (ns.map V.int))) else none) (fun b => ?_) (.inl (.inr ⟨{ cls := .type "list", data := .seq vs.toArray }, if_pos rfl⟩)) (fun b u z => ?_) (fun b z => ?_) fun _ => hk
    · by_cases hb : b = a
      · exact .inr ⟨_, _, if_pos hb⟩
      · exact .inl (if_neg hb)
    · by_cases hb : b = a
      · have z' := (if_pos hb).symm.trans z
        cases z'
        subst hb
        exact ⟨ha, by rw [List.length_map]; exact hl, vs, _, rv, ha⟩
      · have z' := (if_neg hb).symm.trans z
        cases z'
    · by_cases hb : b = a
      · exact hb
      · exact absurd (if_neg hb) z
end L2

namespace L2
open PySem PySem.Spec PyProof.Rows

abbrev KOf {K : PySem.W.Frag} {h : Heap} (_ : K.In h) : PySem.W.Frag := K

/-- the goal that k_head leaves (case hc), from the law's promise. F gives the function object fd (K's own) once, then the promise over every base -/
theorem walk_of {l : PySem.W.OpenLaw} {n k : Nat} {q : Program} {loose : List Str} {XP : (Str → Option Value) → Heap → Prop} {YP : World → Heap → Prop} {d : DefRec} {K : Params → PySem.W.Frag} {CX : World → CXT} {sp : World → Sp} {x : Str}
    (hn : l.most = some n) (hn2 : n ≤ sizeLine) (hdf : d.params.defaults = []) (hr : Room k callerA)
    (hY : ∀ (w : World) (h : Heap), YP w h → (K w.params).In h)
    (F : ∀ (w : World) (mg : Str → Option Value) (fa : Addr) (h : Heap), (K w.params).In h → h.Ns mainGlobals mg → mg d.name = some (.ref fa) →
      ∃ fd : FuncData, (∀ (s : Shared) (u : Value), BindsTo s fd ⟨[u], []⟩ [(x, u)]) ∧
        ∀ base : Heap, (K w.params).In base → base.Ns mainGlobals mg → FnOk l.prog w (K w.params) mg base (CX w) k fa fd [x] (sp w))
    (hsp : ∀ (w : World) (H : Hp) (a : Addr) (ns : List Int), ns.length ≤ n → Only H → SqL (K w.params) H a (ns.map V.int) → sp w [.ref a] H (fun v _ => v = .bl true) fun _ _ _ => False)
    (hCX : ∀ (w : World) (H : Hp) (s : Shared) (e : Value) (s' : Shared), CX w [] H s (fun _ _ _ => False) e s' → False) :
    PySem.W.WalkO q loose XP YP l.row.toRowW d [] (fun f vs => PySem.call f vs) := by
  refine Att.attach_call hn hdf fun w s₀ s₁ mg mb fa o pm cd doc a vs ns G Y ho hd hcd hmg hobj hints hlen hg => ?_
  have KX := hY w _ Y
  obtain ⟨fd, hb, hF⟩ := F w mg fa _ KX G.T.g hmg
  exact law_call KX G.T.g G.T.b G.T.builtins G.T.nolimit hg hobj hints (Nat.le_trans hlen hn2) hr hF hb (fun H hO hS => hsp w H a ns hlen hO hS) fun H e s' => hCX w H s₁ e s'
/-- the same where the promise hangs on the written part alone: (sp := My.sp_law), no hole under a binder -/
theorem walk_ofK {l : PySem.W.OpenLaw} {n k : Nat} {q : Program} {loose : List Str} {XP : (Str → Option Value) → Heap → Prop} {YP : World → Heap → Prop} {d : DefRec} {K : Params → PySem.W.Frag} {CX : CXT} {sp : PySem.W.Frag → Sp} {x : Str}
    (hn : l.most = some n) (hn2 : n ≤ sizeLine) (hdf : d.params.defaults = []) (hr : Room k callerA)
    (hY : ∀ (w : World) (h : Heap), YP w h → (K w.params).In h)
    (F : ∀ (w : World) (mg : Str → Option Value) (fa : Addr) (h : Heap), (K w.params).In h → h.Ns mainGlobals mg → mg d.name = some (.ref fa) →
      ∃ fd : FuncData, (∀ (s : Shared) (u : Value), BindsTo s fd ⟨[u], []⟩ [(x, u)]) ∧
        ∀ base : Heap, (K w.params).In base → base.Ns mainGlobals mg → FnOk l.prog w (K w.params) mg base CX k fa fd [x] (sp (K w.params)))
    (hsp : ∀ (K : PySem.W.Frag) (H : Hp) (a : Addr) (ns : List Int), ns.length ≤ n → Only H → SqL K H a (ns.map V.int) → sp K [.ref a] H (fun v _ => v = .bl true) fun _ _ _ => False)
    (hCX : ∀ (H : Hp) (s : Shared) (e : Value) (s' : Shared), CX [] H s (fun _ _ _ => False) e s' → False) :
    PySem.W.WalkO q loose XP YP l.row.toRowW d [] (fun f vs => PySem.call f vs) :=
  walk_of (K := K) (CX := fun _ => CX) (sp := fun w => sp (K w.params)) hn hn2 hdf hr hY F (fun w H a ns h1 h2 h3 => hsp (K w.params) H a ns h1 h2 h3) fun _ H s e s' => hCX H s e s'
end L2

/- THE LAST THEOREM (shape; LID, My.* are yours):
   My.Adr: a structure of the addresses that your layer names (classes, functions); My.Txt K t: a structure (Prop) of the equations over K;
   My.txt_mk : {K} {implicit addresses ..} (e1 : nsIn K mainGlobals "law" = some (some (.ref f))) (e2 : K.lookup f = some ⟨oc, od, .func (fnOf "law" "law" params body scope dV kV doc pm an cdv ct), sl⟩) (e3 : codeIn K cdv "law" = true) .. : ∃ t, My.Txt K t

set_option maxRecDepth 100000 in
set_option maxHeartbeats 0 in
theorem PySem.Challenge.cw_LID_holds : PySem.Challenge.rw_LID.Holds := by
  w_on; o_law; k_head; (case hw => w_witness2)
  k_fill
  refine L2.walk_of (l := PySem.Challenge.rw_LID) (n := 63) (k := 40) (x := "script") (CX := fun w => ..) (sp := fun _ => My.sp_law) rfl (by decide) rfl ⟨rfl, by decide, by decide⟩ (fun w h Y => PySem.W.kIn_of Y) ?F ?S ?C
  case F =>
    intro w mg fa h KX G hmg
    have T : ∃ t, My.Txt (L2.KOf KX) t := by
      dsimp only [L2.KOf]                          -- K must stand as «<heap const> w.params» for k_is
      refine' My.txt_mk ?e1 ?e2 ?e3 ..
      (case e1 => PySem.W.k_is)                    -- in the order: a name -> its address -> its object -> its parts
      (case e2 => PySem.W.k_is)
      ..
    obtain ⟨t, T⟩ := T
    have e0 := hmg.symm.trans (PySem.W.mg_of KX G T.law)
    cases e0                                       -- fa is the law's own address
    exact ⟨_, fun s u => .of_eq rfl, fun base kb nb => My.law_fn T kb nb⟩     -- if «.of_eq rfl» comes too early: refine' ⟨_, ?b, fun base kb nb => My.law_fn T kb nb⟩; exact fun s u => .of_eq rfl
  case S => exact fun w H a ns hl hO hS => ..
  case C => exact ..
(the tactic k_is has no namespace: write k_is) -/

/-! SHORT WORDS over the layer: a def of the text, its body, what a loop and a test want. -/
namespace L2
open PySem PySem.Spec PyProof.Rows

/-! ### the text by places -/
/-- the j-th statement of a class's body -/
def inClass (s : Stmt) (j : Nat) : Stmt := match s with
  | .ClassDef _ _ _ body _ _ _ _ _ _ _ => body.getD j (.Pass ⟨0, 0, 0, 0⟩)
  | _ => .Pass ⟨0, 0, 0, 0⟩
def defArgs (s : Stmt) : Arguments := match s with
  | .FunctionDef _ a _ _ _ _ _ _ _ _ => a
  | _ => { posonlyargs := [], args := [], vararg := none, kwonlyargs := [], kw_defaults := [], kwarg := none, defaults := [] }
def defBody (s : Stmt) : List Stmt := match s with
  | .FunctionDef _ _ b _ _ _ _ _ _ _ => b
  | _ => []
def defScope (s : Stmt) : Scope := match s with
  | .FunctionDef _ _ _ _ _ _ sc _ _ _ => sc
  | _ => { kind := .function, names := [], isGenerator := false, isCoroutine := false }

/-! ### no exception leaves a def -/
abbrev CX0 : CXT := fun _ _ _ _ _ _ => False
abbrev E0 : XK := fun _ _ _ => False
theorem pass0 {X : Cx} : Passes CX0 X E0 := fun _ _ _ _ _ _ _ h => h.elim

/-! ### a def (or method) of the text as it stands behind the top -/
structure Fun (K : PySem.W.Frag) (x qual : Str) (st : Stmt) (f : Addr) (fd : FuncData) : Prop where
  ex : ∃ (oc : Value) (od : Option Addr) (kV doc pm : Value) (an : Option Addr) (cdv ct : Value) (osl : Array (Option Value)),
    fd = PySem.W.fnOf x qual (defArgs st) (defBody st) (defScope st) .none kV doc pm an cdv ct ∧ K.lookup f = some ⟨oc, od, .func fd, osl⟩ ∧ PySem.W.codeIn K cdv qual = true
  kp : PySem.W.keepIn K (.ref f) = true
section
variable {P : Program} {w : World} {K : PySem.W.Frag} {mg : Str → Option Value} {base : Heap}
/-- THE RULE for a def: its body as a term of rules, and the reading of that term -/
theorem Fun.ok {x qual : Str} {st : Stmt} {f : Addr} {fd : FuncData} {N ps : List Str} {k : Nat} {sp : Sp} (F : Fun K x qual st f fd) (S : FnScope N ps (defScope st)) (len : ∀ vs H Q E, sp vs H Q E → vs.length = ps.length)
    (hbody : ∀ (cdv : Value) (A : Around) (outer : List Env) (s : Shared) (H : Hp) (vs : List V) (Q : VK) (E : XK), Room k (A.deeper (envOfC qual (defScope st) s.heap.objs.size f cdv)) → sp vs H Q E →
      ∃ t, PSs (cxOf CX0 P w K mg base N qual (defScope st) f cdv A outer s H E).nox (defBody st) t ∧ t { nx := fun _ H' => Q .non H', rt := Q } (start N vs) H) : FnOk P w K mg base CX0 (k + 1) f fd ps sp := by
  obtain ⟨oc, od, kV, doc, pm, an, cdv, ct, osl, rfl, lk, hcd⟩ := F.ex
  refine fn_of lk hcd S len fun A outer s H vs Q E hr hsp => ?_
  obtain ⟨t, h, q⟩ := hbody cdv A outer s H vs Q E hr hsp
  exact ⟨t, h.nox, q⟩
/-- how its arguments bind (no defaults): h is «fun _ _ _ _ _ _ us hl => match us, hl with | [_, _], _ => rfl», one _ a parameter -/
theorem Fun.binds {x qual : Str} {st : Stmt} {f : Addr} {fd : FuncData} {ps : List Str} (F : Fun K x qual st f fd)
    (h : ∀ (kV doc pm : Value) (an : Option Addr) (cdv ct : Value) (us : List Value), us.length = ps.length → bindArgs (PySem.W.fnOf x qual (defArgs st) (defBody st) (defScope st) .none kV doc pm an cdv ct) ⟨us, []⟩ = pure (ps.zip us)) : Binds K fd ps [] := by
  obtain ⟨oc, od, kV, doc, pm, an, cdv, ct, osl, rfl, lk, hcd⟩ := F.ex
  exact .all (h kV doc pm an cdv ct)
theorem fun_mk {x qual : Str} {st : Stmt} {f : Addr} {oc : Value} {od an : Option Addr} {osl : Array (Option Value)} {kV doc pm cdv ct : Value} (l : K.lookup f = some ⟨oc, od, .func (PySem.W.fnOf x qual (defArgs st) (defBody st) (defScope st) .none kV doc pm an cdv ct), osl⟩)
    (c : PySem.W.codeIn K cdv qual = true) (k : PySem.W.keepIn K (.ref f) = true) : Fun K x qual st f (PySem.W.fnOf x qual (defArgs st) (defBody st) (defScope st) .none kV doc pm an cdv ct) := ⟨⟨oc, od, kV, doc, pm, an, cdv, ct, osl, rfl, l, c⟩, k⟩
end
theorem hu_of {A : Around} {k : Nat} (hr : Room k A) : A.units + 1 < cLine := Nat.lt_of_le_of_lt (Nat.add_le_add_left (by decide : 1 ≤ 64) _) hr.units
theorem small1000 {n : Nat} (h : n ≤ 1000) : n < sizeLine := Nat.lt_of_le_of_lt h (by decide)

/-! ### expressions in short: the name that stands in the i-th slot -/
section
variable {X : Cx}
theorem pv (i : Nat) {x : Str} {pos : Pos} (hN : X.N[i]? = some x := by rfl) (hv : Vis X.env.scope x := by first | exact Or.inl rfl | exact Or.inr (Or.inl rfl) | exact Or.inr (Or.inr rfl)) (hd : (x == ("__debug__" : Str)) = false := by decide)
    (hcd : (x == ("__classdict__" : Str)) = false := by decide) : PE X (.Name x pos) (tVar i) := pe_var hN hv hd hcd
end

/-! ### tests -/
theorem iteF {A B : Prop} (h : B) : if false = true then A else B := by
  rw [if_neg Bool.false_ne_true]
  exact h
theorem iteT {A B : Prop} (h : A) : if true = true then A else B := by
  rw [if_pos rfl]
  exact h
theorem ite2 {c A B : Prop} [Decidable c] (h1 : c → A) (h2 : ¬ c → B) : if c then A else B := by
  by_cases h : c
  · rw [if_pos h]
    exact h1 h
  · rw [if_neg h]
    exact h2 h
theorem iteNS {c A B : Prop} [Decidable c] (hc : c) (h : B) : if (!decide c) = true then A else B := by
  rw [decide_eq_true hc]
  exact iteF h

/-! ### heaps -/
/-- all that was tracked is as it was -/
def Same (H H' : Hp) : Prop := ∀ b o, H b = some o → H' b = some o
theorem Same.refl (H : Hp) : Same H H := fun _ _ h => h
theorem Same.trans {H H1 H2 : Hp} (a : Same H H1) (b : Same H1 H2) : Same H H2 := fun c o h => b c o (a c o h)
theorem Same.free {H H' : Hp} (e : Same H H') {l : Addr} (h : H' l = Option.none) : H l = Option.none := by
  cases q : H l with
  | none => rfl
  | some o =>
    rw [e l o q] at h
    cases h
theorem Same.seq {K : PySem.W.Frag} {H H' : Hp} {a : Addr} {xs : List V} (e : Same H H') (h : SqL K H a xs) : SqL K H' a xs := by
  rcases h with (h | ⟨o, h⟩) | h
  · exact .inl (.inl (e _ _ h))
  · exact .inl (.inr ⟨o, e _ _ h⟩)
  · exact .inr h

end L2

set_option Elab.async false
set_option linter.all false
set_option maxRecDepth 100000
/-! maths: texts in order, and lists of them -/
namespace Nm
open PySem PyProof.Rows
def lt (a b : Str) : Prop := a.cps.toList < b.cps.toList
instance (a b : Str) : Decidable (lt a b) := inferInstanceAs (Decidable (a.cps.toList < b.cps.toList))
theorem irr (a : Str) : ¬ lt a a := List.lt_irrefl _
theorem tr {a b c : Str} (h : lt a b) (g : lt b c) : lt a c := List.lt_trans h g
theorem asym {a b : Str} (h : lt a b) : ¬ lt b a := fun g => irr a (tr h g)
theorem str_ext {a b : Str} (h : a.cps.toList = b.cps.toList) : a = b := by
  cases a; cases b
  simp only [Str.mk.injEq]
  exact Array.toList_inj.mp h
theorem tri {a b : Str} (h : ¬ lt a b) (g : ¬ lt b a) : a = b := str_ext (List.le_antisymm g h)
theorem other {a b : Str} (ne : a ≠ b) (h : ¬ lt a b) : lt b a := by
  by_cases g : lt b a
  · exact g
  · exact absurd (tri h g) ne
def le (a b : Str) : Prop := ¬ lt b a
theorem sortedS_pw : ∀ {l : List Str}, sortedS l = true → l.Pairwise le
  | [], _ => .nil
  | [a], _ => by simp
  | a :: b :: r, h => by
    have h' : risingS a (b :: r) = true := h
    unfold risingS at h'
    simp only [Bool.and_eq_true, Bool.not_eq_true', ltCps_eq, decide_eq_false_iff_not] at h'
    have ih := sortedS_pw (l := b :: r) h'.2
    refine List.pairwise_cons.mpr ⟨fun c hc => ?_, ih⟩
    rcases List.mem_cons.mp hc with rfl | hc
    · exact h'.1
    · intro z
      have : le b c := (List.pairwise_cons.mp ih).1 c hc
      by_cases e : a = b
      · subst e; exact this z
      · exact this (tr z (other (fun q => e q.symm) h'.1))
theorem sorted_one {l m : List Str} (p : l.Perm m) (h : sortedS l = true) (g : m.Pairwise le) : l = m :=
  List.Perm.eq_of_pairwise (fun a b _ _ x y => tri y x) (sortedS_pw h) g p
/-- put into its place -/
def ins (x : Str) : List Str → List Str
  | [] => [x]
  | y :: r => if lt y x then y :: ins x r else x :: y :: r
def srt : List Str → List Str
  | [] => []
  | x :: r => ins x (srt r)
theorem ins_perm (x : Str) : ∀ l, (ins x l).Perm (x :: l)
  | [] => .refl _
  | y :: r => by
    unfold ins
    split
    · exact ((ins_perm x r).cons y).trans (.swap x y r)
    · exact .refl _
theorem srt_perm : ∀ l, (srt l).Perm l
  | [] => .refl _
  | x :: r => (ins_perm x (srt r)).trans ((srt_perm r).cons x)
theorem ins_pw {x : Str} : ∀ {l : List Str}, l.Pairwise le → (ins x l).Pairwise le
  | [], _ => by simp [ins]
  | y :: r, h => by
    obtain ⟨h1, h2⟩ := List.pairwise_cons.mp h
    unfold ins
    split
    · rename_i c
      refine List.pairwise_cons.mpr ⟨fun z hz => ?_, ins_pw h2⟩
      rcases List.mem_cons.mp ((ins_perm x r).mem_iff.mp hz) with rfl | hz
      · exact asym c
      · exact h1 z hz
    · rename_i c
      refine List.pairwise_cons.mpr ⟨fun z hz => ?_, h⟩
      rcases List.mem_cons.mp hz with rfl | hz'
      · exact c
      · intro q
        by_cases e : x = y
        · rw [e] at q; exact h1 z hz' q
        · exact h1 z hz' (tr q (other (fun e' => e e'.symm) c))
theorem srt_pw : ∀ l, (srt l).Pairwise le
  | [] => .nil
  | x :: r => ins_pw (srt_pw r)
theorem sorted_srt {l m : List Str} (p : l.Perm m) (h : sortedS l = true) : l = srt m := sorted_one (p.trans (srt_perm m).symm) h (srt_pw m)
theorem srt_of_perm {l m : List Str} (p : l.Perm m) : srt l = srt m := List.Perm.eq_of_pairwise (fun a b _ _ x y => tri y x) (srt_pw l) (srt_pw m) ((srt_perm l).trans (p.trans (srt_perm m).symm))
theorem perm_of_srt {l m : List Str} (h : srt l = srt m) : l.Perm m := (srt_perm l).symm.trans (h ▸ srt_perm m)
theorem srt_len (l : List Str) : (srt l).length = l.length := (srt_perm l).length_eq
theorem srt2 {a b : Str} (h : ¬ lt b a) : srt [a, b] = [a, b] := by simp [srt, ins, h]
theorem srt2' {a b : Str} (h : lt b a) : srt [a, b] = [b, a] := by simp [srt, ins, h]
end Nm

set_option Elab.async false
set_option linter.all false
set_option maxRecDepth 100000
/-! maths: points by pairs of ints, spans, five points -/
namespace Ln
structure Pt where
  a : Int
  b : Int
  c : Int
  d : Int
def Is (p q X L : Int) : Prop := p * L = X * q
theorem Is.minus {a b c d X Y L : Int} (h1 : Is a b X L) (h2 : Is c d Y L) : Is (a * d - c * b) (b * d) (X - Y) L := by
  unfold Is at *
  grind
theorem Is.times {a b c d X Y L M : Int} (h1 : Is a b X L) (h2 : Is c d Y M) : Is (a * c) (b * d) (X * Y) (L * M) := by
  unfold Is at *
  grind
/-- the scaled cross of three -/
def cr (X Y : PySem.Str → Int) (p q r : PySem.Str) : Int := (X q - X p) * (Y r - Y p) - (Y q - Y p) * (X r - X p)
def spN (p q r : Pt) : Int := (q.a * p.b - p.a * q.b) * (r.c * p.d - p.c * r.d) * ((q.d * p.d) * (r.b * p.b)) - (q.c * p.d - p.c * q.d) * (r.a * p.b - p.a * r.b) * ((q.b * p.b) * (r.d * p.d))
def spB (p q r : Pt) : Int := (q.b * p.b) * (r.d * p.d) * ((q.d * p.d) * (r.b * p.b))
/-- the points of names stand for these scaled places -/
structure Pl (pl : PySem.Str → Pt) (X Y : PySem.Str → Int) (L : Int) (x : PySem.Str) : Prop where
  hx : Is (pl x).a (pl x).b (X x) L
  hy : Is (pl x).c (pl x).d (Y x) L
  nb : (pl x).b ≠ 0
  nd : (pl x).d ≠ 0
theorem span_is {pl : PySem.Str → Pt} {X Y : PySem.Str → Int} {L : Int} {p q r : PySem.Str} (hp : Pl pl X Y L p) (hq : Pl pl X Y L q) (hr : Pl pl X Y L r) : Is (spN (pl p) (pl q) (pl r)) (spB (pl p) (pl q) (pl r)) (cr X Y p q r) (L * L) := by
  have x := hq.hx.minus hp.hx
  have y := hq.hy.minus hp.hy
  have u := hr.hx.minus hp.hx
  have v := hr.hy.minus hp.hy
  have m := (x.times v).minus (y.times u)
  unfold spN spB cr
  exact m
theorem spB_ne {pl : PySem.Str → Pt} {X Y : PySem.Str → Int} {L : Int} {p q r : PySem.Str} (hp : Pl pl X Y L p) (hq : Pl pl X Y L q) (hr : Pl pl X Y L r) : spB (pl p) (pl q) (pl r) ≠ 0 := by
  unfold spB
  have n : ∀ {a b : Int}, a ≠ 0 → b ≠ 0 → a * b ≠ 0 := fun h1 h2 => Int.mul_ne_zero h1 h2
  exact n (n (n hq.nb hp.nb) (n hr.nd hp.nd)) (n (n hq.nd hp.nd) (n hr.nb hp.nb))
theorem plucker (X Y : PySem.Str → Int) (a b c d e : PySem.Str) (h : cr X Y a b c = 0) : cr X Y a b d * cr X Y a c e = cr X Y a b e * cr X Y a c d := by
  unfold cr at *
  grind
theorem swap12 (X Y : PySem.Str → Int) (a b c : PySem.Str) : cr X Y b a c = - cr X Y a b c := by unfold cr; grind
theorem swap23 (X Y : PySem.Str → Int) (a b c : PySem.Str) : cr X Y a c b = - cr X Y a b c := by unfold cr; grind
/-- the way from the first to the second, at t -/
def wyN (a0 b0 a1 b1 t0 t1 : Int) : Int := a0 * (b1 * b0) * t1 + t0 * (a1 * b0 - a0 * b1) * b0
def wyB (b0 b1 t1 : Int) : Int := b0 * (b1 * b0) * t1
theorem way_is {a0 b0 a1 b1 t0 t1 X0 X1 X3 L : Int} (h0 : Is a0 b0 X0 L) (h1 : Is a1 b1 X1 L) (h3 : Is (wyN a0 b0 a1 b1 t0 t1) (wyB b0 b1 t1) X3 L) (n0 : b0 ≠ 0) (n1 : b1 ≠ 0) : t1 * (X3 - X0) = t0 * (X1 - X0) := by
  have nb : b0 * b0 * b1 ≠ 0 := Int.mul_ne_zero (Int.mul_ne_zero n0 n0) n1
  refine Int.eq_of_mul_eq_mul_left nb ?_
  unfold Is wyN wyB at *
  have e1 : (a0 * (b1 * b0) * t1 + t0 * (a1 * b0 - a0 * b1) * b0) * L = (a0 * L) * (b1 * b0) * t1 + t0 * ((a1 * L) * b0 - (a0 * L) * b1) * b0 := by grind
  rw [h0, h1] at e1
  rw [e1] at h3
  grind
theorem on_line {X Y : PySem.Str → Int} {p q r : PySem.Str} {t0 t1 : Int} (n : t1 ≠ 0) (hx : t1 * (X r - X p) = t0 * (X q - X p)) (hy : t1 * (Y r - Y p) = t0 * (Y q - Y p)) : cr X Y p q r = 0 := by
  have : t1 * cr X Y p q r = 0 := by
    unfold cr
    have e : t1 * ((X q - X p) * (Y r - Y p) - (Y q - Y p) * (X r - X p)) = (X q - X p) * (t1 * (Y r - Y p)) - (Y q - Y p) * (t1 * (X r - X p)) := by grind
    rw [e, hx, hy]
    grind
  rcases Int.mul_eq_zero.mp this with z | z
  · exact absurd z n
  · exact z
/-- products of spans, compared crosswise -/
theorem cross_eq {n1 n2 n3 n4 d1 d2 d3 d4 x1 x2 x3 x4 M s : Int} (hM : M ≠ 0) (h1 : Is n1 d1 x1 M) (h2 : Is n2 d2 x2 M) (h3 : Is n3 d3 x3 M) (h4 : Is n4 d4 x4 M) (hx : x1 * x2 = s * (x3 * x4)) : n1 * n2 * (d3 * d4) = s * (n3 * n4) * (d1 * d2) := by
  refine Int.eq_of_mul_eq_mul_right (Int.mul_ne_zero hM hM) ?_
  unfold Is at *
  have e1 : n1 * n2 * (d3 * d4) * (M * M) = (n1 * M) * (n2 * M) * (d3 * d4) := by grind
  have e2 : s * (n3 * n4) * (d1 * d2) * (M * M) = s * ((n3 * M) * (n4 * M)) * (d1 * d2) := by grind
  rw [e1, e2, h1, h2, h3, h4]
  have e3 : x1 * d1 * (x2 * d2) * (d3 * d4) = (x1 * x2) * (d1 * d2 * (d3 * d4)) := by grind
  rw [e3, hx]
  grind
/-- a common bottom -/
theorem common : ∀ l : List (Int × Int), (∀ p ∈ l, p.2 ≠ 0) → ∃ L : Int, L ≠ 0 ∧ ∀ p ∈ l, ∃ X, Is p.1 p.2 X L
  | [], _ => ⟨1, by decide, fun p hp => nomatch hp⟩
  | q :: l, h => by
    obtain ⟨L, hL, hl⟩ := common l fun p hp => h p (List.mem_cons_of_mem _ hp)
    refine ⟨L * q.2, Int.mul_ne_zero hL (h q List.mem_cons_self), fun p hp => ?_⟩
    rcases List.mem_cons.mp hp with rfl | hp
    · exact ⟨p.1 * L, by unfold Is; grind⟩
    · obtain ⟨X, hX⟩ := hl p hp
      refine ⟨X * q.2, ?_⟩
      unfold Is at *
      rw [← Int.mul_assoc, hX]
      grind
end Ln

set_option Elab.async false
set_option linter.all false
set_option maxRecDepth 100000
/-! exceptions over the hand layer: raised in a def, passed on by its callers, caught by a class -/
namespace L2
open PySem PySem.Spec PyProof.Rows

/-- what a flying exception leaves: B is the part of the heap that no station of the flight touches -/
structure UnB (fs : List Addr) (H H' : Hp) (h B h' : Heap) : Prop where
  keep : ∀ b o, h.get? b = some o → H b = none → b ∉ fs → B.get? b = some o
  there : ∀ b o, h.get? b = some o → b ∉ fs → ∃ o', B.get? b = some o'
  slot : ∀ b o, h.get? b = some o → H b = none → b ∈ fs → ∃ sl, h'.get? b = some { o with slots := sl }
  free : ∀ b o, h.get? b = some o → H b = none → H' b = none
  tups : ∀ b xs, H b = some (.tup xs) → H' b = some (.tup xs)
  frzs : ∀ b o u, H b = some (.frz o u) → H' b = some (.frz o u)
  tbls : ∀ b ps, H b = some (.tbl ps) → ∃ more, H' b = some (.tbl (ps ++ more))

/-- an exception behind a call -/
def CXR (P : Program) (w : World) : CXT := fun outer H s E e s' => ∃ (ea : Addr) (cls a0 : Value) (B : Heap) (H' : Hp),
  e = .ref ea ∧ s'.os = s.os ∧ AllBare s'.gens ∧ UnB (frs outer) H H' s.heap B s'.heap ∧ HOk P w H' B ∧ Heap.FlyingW B outer ea cls a0 s'.heap ∧ E cls none H'

theorem passR0 {X : Cx} : Passes (CXR X.prog X.w) X E0 := fun _ _ _ _ _ _ _ h => by
  obtain ⟨_, _, _, _, _, _, _, _, _, _, _, z⟩ := h
  exact z.elim

theorem FnOk.calm {P : Program} {w : World} {K : PySem.W.Frag} {mg : Str → Option Value} {base : Heap} {k : Nat} {f : Addr} {fd : FuncData} {ps : List Str} {sp sp' : Sp}
    (F : FnOk P w K mg base (CXR P w) k f fd ps sp) (h : ∀ vs H Q E, sp' vs H Q E → sp vs H Q E0) : FnOk P w K mg base CX0 k f fd ps sp' where
  len := fun vs H Q E z => F.len _ _ _ _ (h vs H Q E z)
  run := fun A outer s H args us vs Q E hr e0 hb r z => codeAny_mono (F.run A outer s H args us vs Q E0 hr e0 hb r (h _ _ _ _ z)) fun res s' q => by
    cases res with
    | error e =>
      obtain ⟨_, _, _, _, _, _, _, _, _, _, _, zz⟩ := q
      exact zz.elim
    | ok fl => cases fl <;> exact q

section
variable {X : Cx} {pins : List (Addr × Obj)} {σ : St} {H H' : Hp} {s s1 : Shared} {h' : Heap}

theorem Inv.hokHide (I : Inv X pins σ H s) : HOk X.prog X.w H (PySem.W.hideAll s.heap (frs X.stack)) := fun a o e =>
  (I.hok a o e).stay (fun b u hb q => PySem.W.hideAll_get _ q fun hm => by
    have z := I.stkFree b hm
    rcases hb with r | r
    · rw [r, e] at z
      cases z
    · rw [r] at z
      cases z) (fun _ q => q) fun _ _ q => q

theorem Inv.offStack (I : Inv X pins σ H s) {b : Addr} {o : Obj} (e : X.s₀.heap.get? b = some o) (nf : b ∉ X.fs) : b ∉ frs X.stack := fun hm => by
  rcases List.mem_cons.mp (I.stkSub b hm) with z | z
  · exact absurd (Nat.lt_of_lt_of_le (Heap.lt_size e) I.ok.above) (by rw [z]; exact Nat.lt_irrefl _)
  · exact nf z

/-- behind the first frame that is left -/
theorem Inv.unHide (I : Inv X pins σ H s) (hex : X.ex = []) (hs : ∀ b ∈ X.fs, ∀ o, s.heap.get? b = some o → ∃ sl, h'.get? b = some { o with slots := sl }) :
    UnB X.fs X.H₀ H X.s₀.heap (PySem.W.hideAll s.heap (frs X.stack)) h' where
  keep := fun b o e n nf => PySem.W.hideAll_get _ (I.base.keep b o e n nf (by rw [hex]; simp)) (I.offStack e nf)
  there := fun b o e nf => by
    obtain ⟨o', e'⟩ := I.base.there b o e (by rw [hex]; simp)
    exact ⟨o', PySem.W.hideAll_get _ e' (I.offStack e nf)⟩
  slot := fun b o e n hb => by
    obtain ⟨sl, e'⟩ := I.base.slot b o e n hb (by rw [hex]; simp)
    obtain ⟨sl', e''⟩ := hs b hb _ e'
    exact ⟨sl', e''⟩
  free := fun b o e n => I.base.free b o e n (by rw [hex]; simp)
  tups := I.base.tups
  frzs := I.base.frzs
  tbls := I.base.tbls
end

section
variable {P : Program} {w : World} {K : PySem.W.Frag} {mg : Str → Option Value} {base : Heap} {N : List Str} {qual : Str} {scope : Scope} {f : Addr} {cd : Value} {A : Around} {outer : List Env} {s : Shared} {H : Hp} {E : XK}

/-- what is wanted of an exception that a def's own text raises -/
def RaisesTo (X : Cx) (E : XK) : Prop := ∀ (pins : List (Addr × Obj)) (σ : St) (H : Hp) (s : Shared) (h' : Heap) (e : Addr) (cls : Value) (vs : List Value),
  Inv X pins σ H s → Heap.MadeExcOf s.heap h' e cls vs → E cls none H → X.xe (.ref e) { s with heap := h' }

theorem raises_def : RaisesTo (cxOf (CXR P w) P w K mg base N qual scope f cd A outer s H E) E := by
  intro pins σ H1 s1 h' e cls vs I hx hE
  show wpAny (model P w) (A.deeper (envOfC qual scope s.heap.objs.size f cd)) (leaving (envOfC qual scope s.heap.objs.size f cd) (.ref e)) (fun _ s'' => CXR P w outer H s E (.ref e) s'') (fun e' s'' => CXR P w outer H s E e' s'') { s1 with heap := h' }
  have hin : ∀ env ∈ (envOfC qual scope s.heap.objs.size f cd :: outer), ∀ b, env.frame = some b → b ∈ frs (envOfC qual scope s.heap.objs.size f cd :: outer) := fun env he b hb => List.mem_filterMap.mpr ⟨env, he, hb⟩
  refine wpAny_leaves_madeW (h := s1.heap) (base := PySem.W.hideAll s1.heap (frs (envOfC qual scope s.heap.objs.size f cd :: outer))) I.ok.frames rfl (fun b o q => PySem.W.of_hideAll _ q) (PySem.W.funFrames_hide I.stack hin) hx fun h'' t fl _ _ sm => ?_
  refine ⟨e, cls, .ref t, _, H1, rfl, I.os, I.bare, I.unHide rfl fun b hb o q => ?_, I.hokHide, fl, hE⟩
  obtain ⟨_, o', q', nf⟩ := I.funs.mem hb
  rw [q] at q'
  cases q'
  exact sm b o (hx.keeps b o q) nf

theorem passes_def : Passes (CXR P w) (cxOf (CXR P w) P w K mg base N qual scope f cd A outer s H E) E := by
  intro pins σ H1 s1 e s' I hc
  show wpAny (model P w) (A.deeper (envOfC qual scope s.heap.objs.size f cd)) (leaving (envOfC qual scope s.heap.objs.size f cd) e) (fun _ s'' => CXR P w outer H s E e s'') (fun e' s'' => CXR P w outer H s E e' s'') s'
  obtain ⟨ea, cls, a0, B, H', rfl, ho, hg, U, hok, fl, hE⟩ := hc
  refine wpAny_leaves_onW I.ok.frames rfl fl fun h'' fl' sm => ?_
  refine ⟨ea, cls, a0, B, H', rfl, ho.trans I.os, hg, ?_, hok, fl', hE⟩
  exact {
    keep := fun b o q n nf => U.keep b o (I.base.keep b o q n nf (by exact List.not_mem_nil)) (I.base.free b o q n (by exact List.not_mem_nil)) (I.offStack q nf)
    there := fun b o q nf => by
      obtain ⟨o', q'⟩ := I.base.there b o q (by exact List.not_mem_nil)
      exact U.there b o' q' (I.offStack q nf)
    slot := fun b o q n hb => by
      obtain ⟨sl, q'⟩ := I.base.slot b o q n hb (by exact List.not_mem_nil)
      have hb' : b ∈ frs (envOfC qual scope s.heap.objs.size f cd :: outer) := List.mem_cons_of_mem _ hb
      obtain ⟨sl', q''⟩ := U.slot b _ q' (I.base.free b o q n (by exact List.not_mem_nil)) hb'
      obtain ⟨_, o', r, nf⟩ := fl.2.2.1.mem hb'
      rw [q''] at r
      cases r
      obtain ⟨sl3, q3⟩ := sm b _ q'' nf
      exact ⟨sl3, q3⟩
    free := fun b o q n => by
      obtain ⟨o', q'⟩ := I.base.there b o q (by exact List.not_mem_nil)
      exact U.free b o' q' (I.base.free b o q n (by exact List.not_mem_nil))
    tups := fun b xs q => U.tups b xs (I.base.tups b xs q)
    frzs := fun b o u q => U.frzs b o u (I.base.frzs b o u q)
    tbls := fun b ps q => by
      obtain ⟨m1, q1⟩ := I.base.tbls b ps q
      obtain ⟨m2, q2⟩ := U.tbls b _ q1
      exact ⟨m1 ++ m2, by rw [q2, Array.append_assoc]⟩ }

/-- THE RULE for a def that may raise -/
theorem Fun.okX {x qual : Str} {st : Stmt} {f : Addr} {fd : FuncData} {N ps : List Str} {k : Nat} {sp : Sp} (F : Fun K x qual st f fd) (S : FnScope N ps (defScope st)) (len : ∀ vs H Q E, sp vs H Q E → vs.length = ps.length)
    (hbody : ∀ (cdv : Value) (A : Around) (outer : List Env) (s : Shared) (H : Hp) (vs : List V) (Q : VK) (E : XK), Room k (A.deeper (envOfC qual (defScope st) s.heap.objs.size f cdv)) → sp vs H Q E →
      ∃ t, PSs (cxOf (CXR P w) P w K mg base N qual (defScope st) f cdv A outer s H E) (defBody st) t ∧ t { nx := fun _ H' => Q .non H', rt := Q } (start N vs) H) : FnOk P w K mg base (CXR P w) (k + 1) f fd ps sp := by
  obtain ⟨oc, od, kV, doc, pm, an, cdv, ct, osl, rfl, lk, hcd⟩ := F.ex
  exact fn_of lk hcd S len fun A outer s H vs Q E hr hsp => hbody cdv A outer s H vs Q E hr hsp
end

/-! ### raise C(..) -/
def bmV : List Value := [.type "ValueError", .type "Exception", .type "BaseException", .type "object"]
abbrev ExcC (K : PySem.W.Frag) (C : Addr) : Prop := PySem.W.excIn K C bmV "ValueError.__new__" = true

theorem exc_obj {K : PySem.W.Frag} {h : Heap} {C : Addr} {bmB : List Value} {nid : String} (X : K.In h) (q : PySem.W.excIn K C bmB nid = true) :
    ∃ bm N nm qn bs hdct sn sub ab col dd k0 k1 k2 k3 k5 mN, h.get? C = some (excClassObj nm qn C N bs bm hdct sn sub ab col dd k0 k1 k2 k3 k5 nid) ∧ h.Ns N mN ∧ mN "__init__" = none ∧ OwnTail h bmB bm := by
  unfold PySem.W.excIn at q
  split at q
  case h_2 => cases q
  rename_i dd cd sl ho
  split at q
  case h_2 => cases q
  rename_i C' bm k0 k1 k2 k3 n k5 hm hs
  simp only [Bool.and_eq_true, beq_iff_eq, Bool.not_eq_true'] at q
  obtain ⟨⟨⟨⟨⟨e1, e2⟩, hdel⟩, ht⟩, hok⟩, hni⟩ := q
  subst e1
  subst e2
  obtain ⟨nm, bs, mro, ns, qn, hd, sn, sub, ab, col, del⟩ := cd
  dsimp only at hm hdel hok hni
  subst hm
  subst hdel
  have hsl : sl = #[k0, k1, k2, k3, some (.builtin n), k5] := by
    obtain ⟨l⟩ := sl
    simp only at hs
    rw [hs]
  subst hsl
  refine ⟨bm, ns, nm, qn, bs, hd, sn, sub, ab, col, dd, k0, k1, k2, k3, k5, h.nsMap ns, X _ _ ho, ?_, ?_, ?_⟩
  · exact Heap.Ns.of_isNs (PySem.W.isNs_of_in X hok)
  · exact PySem.W.nsMap_none_of_in X hok hni
  · exact PySem.W.tail_of_in X ht

section
variable {X : Cx} {E : XK} {C : Addr} {x : Str} {np cpos pos : Pos} {e₀ : Expr} {es : List Expr} {t : TA}
def tRaise (cls : Value) (E : XK) (t : TA) : TS := fun _ σ H => t σ H fun vs H1 => vs.length ≤ sizeLine ∧ E cls none H1
theorem ps_raise (hr : RaisesTo X E) (hh : X.A.handled = none) (hg : Gl X x) (hm : X.mg x = some (.ref C)) (hq : ExcC X.K C) (ha : PA X (e₀ :: es) t) (hdb : (x == ("__debug__" : Str)) = false := by decide)
    (he : starEach (e₀ :: es) X.env = (false, eval e₀ X.env) :: starEach es X.env := by rfl) (hpl : (backTo cpos (starEach es X.env)).any (·.1) = false := by rfl) :
    PS X (.Raise (some (.Call (.Name x np) (e₀ :: es) [] cpos)) none pos) (tRaise (.ref C) E t) := by
  intro pins s σ H D I h
  obtain ⟨bm, N, nm, qn, bs, hdct, sn, sub, ab, col, dd, k0, k1, k2, k3, k5, mN, hC, hN, hni, T⟩ := exc_obj I.mod.kin hq
  refine wpAny_Raise_call_subT (C := C) (nm := nm) (q := qn) (N := N) (bs := bs) (bm := bm) (hdct := hdct) (sn := sn) (sub := sub) (ab := ab) (col := col) (dd := dd) (k0 := k0) (k1 := k1) (k2 := k2) (k3 := k3) (k5 := k5)
    (newId := "ValueError.__new__") (bmB := bmV) PySem.F.excBase_ValueError (mN := mN) (T.hasType PySem.F.excBase_ValueError.hasBase) hh (by rw [he]; show (false || (backTo cpos (starEach es X.env)).any (·.1)) = false; rw [hpl]; rfl) hni (ld_glob I hg hm ⟨rfl, ?_⟩ hdb)
  have z := ha cpos pins s σ H _ I h
  rw [he] at z ⊢
  refine Calls.evalArgs_plain (thn z fun us s1 q => ?_)
  obtain ⟨vs, H1, I1, r, hl, hE⟩ := q
  exact ⟨rfl, by rw [← r.length]; exact hl, I1.bk _ _ hC, hN.keeps I1.bk, T.keeps I1.bk, fun h' e hx => hr pins σ H1 s1 h' e _ us I1 hx hE⟩
end
end L2

set_option Elab.async false
set_option linter.all false
set_option maxRecDepth 100000
namespace L2
open PySem PySem.Spec PyProof.Rows

/-- an exception's object, by its class -/
def ExcO (ea : Addr) (cls : Value) : HO := .ext fun h => ∃ (o : Obj) (vs : Array Value), h.get? ea = some o ∧ o.cls = cls ∧ o.data = .fields vs

theorem ObjOk.there {P : Program} {w : World} {H : Hp} {h : Heap} {a : Addr} {o : HO} (x : ObjOk P w H h a o) : ∃ ob, h.get? a = some ob := by
  cases o with
  | lst xs => obtain ⟨_, _, _, _, e⟩ := x; exact ⟨_, e⟩
  | tup xs => obtain ⟨_, _, _, ob, e, _⟩ := x; exact ⟨_, e⟩
  | dK kvs => obtain ⟨_, _, _, _, o, _, _, e, _⟩ := x; exact ⟨_, e⟩
  | dT kvs => obtain ⟨_, _, _, _, o, _, _, e, _⟩ := x; exact ⟨_, e⟩
  | set S n => obtain ⟨o, _, _, _, e, _⟩ := x; exact ⟨_, e⟩
  | ins C dx fs => obtain ⟨_, _, _, e, _⟩ := x; exact ⟨_, e⟩
  | own y => obtain ⟨_, e⟩ := x; exact ⟨_, e⟩
  | xd fs => obtain ⟨_, ⟨_, _, _, e, _⟩, _⟩ := x; exact ⟨_, e⟩
  | rng lo hi => obtain ⟨_, _, _, e⟩ := x; exact ⟨_, e⟩
  | frz ob u => obtain ⟨e, _⟩ := x; exact ⟨_, e⟩
  | tbl ps => exact ⟨_, (show h.get? a = some _ from x)⟩
  | met f y => exact ⟨_, (show h.get? a = some _ from x)⟩
  | ext φ => obtain ⟨_, ⟨_, e⟩, _⟩ := x; exact ⟨_, e⟩

section
variable {X : Cx} {pins : List (Addr × Obj)} {σ : St} {H H' : Hp} {s s1 : Shared} {B h : Heap} {ea : Addr} {cls a0 : Value}

/-- the state at a handler: the exception tracked by its class -/
theorem Inv.caught (I : Inv X pins σ H s) (U : UnB (frs X.stack) H H' s.heap B s1.heap) (ho : s1.os = s.os) (hg : AllBare s1.gens) (hok : HOk X.prog X.w H' B) (fl : Heap.FlyingW B X.stack ea cls a0 h) (sm : s1.heap.UpToSlots h)
    (fr1 : s1.heap.FunFrames B X.stack) : Inv X pins σ (upd H' ea (ExcO ea cls)) { s1 with heap := h } ∧ H' ea = none := by
  obtain ⟨kb, ne, fr, oe, vs, T, oT, ts, he, hc, hd, _⟩ := id fl
  have free : H' ea = none := by
    cases q : H' ea with
    | none => rfl
    | some o =>
      obtain ⟨ob, z⟩ := (hok ea o q).there
      rw [ne] at z
      cases z
  have nea : ∀ b u, H' b = some u → b ≠ ea := fun b u q z => by rw [z, free] at q; cases q
  have notF : ea ∉ frs X.stack := fun hm => by
    obtain ⟨_, o, q, nf⟩ := fr.mem hm
    rw [he] at q
    cases q
    exact nf vs hd
  have old : ∀ b o, s.heap.get? b = some o → b ≠ ea := fun b o q z => by
    subst z
    obtain ⟨o', q'⟩ := U.there _ o q notF
    rw [ne] at q'
    cases q'
  have tr : ∀ b o, s.heap.get? b = some o → b ∈ frs X.stack → ∃ sl, h.get? b = some { o with slots := sl } := fun b o q hm => by
    obtain ⟨sl, q1⟩ := U.slot b o q (I.stkFree b hm) hm
    obtain ⟨_, o', q2, nf⟩ := fr1.mem hm
    rw [q1] at q2
    cases q2
    obtain ⟨sl2, q3⟩ := sm b _ q1 nf
    exact ⟨sl2, q3⟩
  refine ⟨I.call' (s' := { s1 with heap := h }) (ch := []) ho ?_ ?_ hg (fun _ z => nomatch z), free⟩
  · exact {
      keep := fun b o q n nf _ => kb b o (U.keep b o q n nf)
      slot := fun b o q n hf _ => tr b o q hf
      free := fun b o q n _ => by rw [upd_ne (old b o q)]; exact U.free b o q n
      there := fun b o q _ => by
        by_cases hm : b ∈ frs X.stack
        · obtain ⟨sl, z⟩ := tr b o q hm
          exact ⟨_, z⟩
        · obtain ⟨o', z⟩ := U.there b o q hm
          exact ⟨o', kb b o' z⟩
      tups := fun b xs q => by rw [upd_ne (nea b _ (U.tups b xs q))]; exact U.tups b xs q
      frzs := fun b o u q => by rw [upd_ne (nea b _ (U.frzs b o u q))]; exact U.frzs b o u q
      tbls := fun b ps q => by
        obtain ⟨m, z⟩ := U.tbls b ps q
        exact ⟨m, by rw [upd_ne (nea b _ z)]; exact z⟩ }
  · intro b u q
    by_cases hb : b = ea
    · subst hb
      rw [upd_same] at q
      cases q
      refine ⟨⟨oe, vs, he, hc.1, hd⟩, ⟨oe, he⟩, fun h1 h2 z k => ?_⟩
      obtain ⟨o, ws, z1, z2, z3⟩ := z
      exact ⟨o, ws, k o z1, z2, z3⟩
    · rw [upd_ne hb] at q
      exact (hok b u q).stay (fun c v _ r => kb c v r) (fun c r => by rw [upd_ne (nea c _ r)]; exact r) fun c xs r => by rw [upd_ne (nea c _ r)]; exact r

/-- the body of a try, the handler's body -/
abbrev Cx.tryIn (X : Cx) (pn : List (Addr × Obj)) (E : Value → Shared → Prop) : Cx := { X with pn := pn, xe := E }
abbrev Cx.hand (X : Cx) (ea : Addr) (E : Value → Shared → Prop) : Cx := { X with A := X.A.mark (some (.ref ea)), calm := false, xe := E }

theorem Cx.Ok.tryIn {pn : List (Addr × Obj)} {E : Value → Shared → Prop} (k : X.Ok) : (X.tryIn pn E).Ok :=
  ⟨k.mod, k.kind, k.glob, k.blt, k.above, k.inj, k.has, k.cab, k.hd, k.frames, k.stk, k.exf, k.bs, k.bsz, k.noex, k.exfs, k.funs, k.frf⟩
theorem Cx.Ok.unTry {pn : List (Addr × Obj)} {E : Value → Shared → Prop} (k : (X.tryIn pn E).Ok) : X.Ok :=
  ⟨k.mod, k.kind, k.glob, k.blt, k.above, k.inj, k.has, k.cab, k.hd, k.frames, k.stk, k.exf, k.bs, k.bsz, k.noex, k.exfs, k.funs, k.frf⟩
theorem Cx.Ok.hand {E : Value → Shared → Prop} (k : X.Ok) : (X.hand ea E).Ok :=
  ⟨k.mod, k.kind, k.glob, k.blt, k.above, k.inj, k.has, k.cab, (fun z => nomatch z), k.frames, k.stk, k.exf, k.bs, k.bsz, k.noex, k.exfs, k.funs, k.frf⟩
theorem Inv.tryIn {E : Value → Shared → Prop} (I : Inv X pins σ H s) : Inv (X.tryIn (X.pn ++ pins) E) [] σ H s :=
  ⟨I.ok.tryIn, I.os, I.bare, I.base, I.loc, I.cell, I.free, I.freeC, fun p hp => I.pin p (by simpa using hp), I.hok, I.len⟩
theorem Inv.unTry {E : Value → Shared → Prop} {pl : List (Addr × Obj)} (I : Inv (X.tryIn (X.pn ++ pins) E) pl σ H s) : Inv X pins σ H s :=
  ⟨I.ok.unTry, I.os, I.bare, I.base, I.loc, I.cell, I.free, I.freeC, fun p hp => I.pin p (List.mem_append_left _ hp), I.hok, I.len⟩
theorem Inv.hand {E : Value → Shared → Prop} (I : Inv X pins σ H s) : Inv (X.hand ea E) pins σ H s :=
  ⟨I.ok.hand, I.os, I.bare, I.base, I.loc, I.cell, I.free, I.freeC, I.pin, I.hok, I.len⟩
/-- behind the handler: the name is unbound again, the names' values are forgotten -/
theorem Inv.unHand {E : Value → Shared → Prop} {h' : Heap} {m' : Str → Option Value} {t' : Nat} (k : X.Ok) (I : Inv (X.hand ea E) pins σ H s) (hn : h'.Ns X.env.locals m') (hs : Heap.SameBut X.env.locals s.heap h') :
    Inv X pins (List.replicate σ.length none) H { s with heap := h', toks := t' } := by
  obtain ⟨m, ⟨oL, _, _, hoL, _⟩, _⟩ := id I.loc
  have ne : ∀ b o, X.s₀.heap.get? b = some o → b ≠ X.env.locals := fun b o e => Nat.ne_of_lt (Nat.lt_of_lt_of_le (Heap.lt_size e) k.above)
  refine ⟨k, I.os, I.bare, ⟨fun b o e n hb hx => ?_, fun b o e n hb hx => ?_, I.base.free, fun b o e hx => ?_, I.base.tups, I.base.frzs, I.base.tbls⟩, ⟨m', hn, fun i y v _ z => ?_⟩, fun y c e => ?_, I.free, I.freeC, fun p hp => ?_, fun b ob e => ?_, ?_⟩
  · exact (hs.2 b (ne b o e)).trans (I.base.keep b o e n hb hx)
  · obtain ⟨sl, e1⟩ := I.base.slot b o e n hb hx
    exact ⟨sl, (hs.2 b (ne b o e)).trans e1⟩
  · obtain ⟨o', e1⟩ := I.base.there b o e hx
    exact ⟨o', (hs.2 b (ne b o e)).trans e1⟩
  · rw [List.getElem?_replicate] at z
    split at z <;> cases z
  · obtain ⟨v, z⟩ := I.cell y c e
    exact ⟨v, z.sameBut hs (I.cne y c e)⟩
  · obtain ⟨e, n, nL, nf, d⟩ := I.pin p hp
    exact ⟨(hs.2 p.1 nL).trans e, n, nL, nf, d⟩
  · refine (I.hok b ob e).stay (fun c v hc q => (hs.2 c ?_).trans q) (fun _ q => q) fun _ _ q => q
    rintro rfl
    rcases hc with hc | hc
    · have fr := I.free
      rw [show X.env.locals = b from hc] at fr
      rw [fr] at e
      cases e
    · have fr := I.free
      rw [fr] at hc
      cases hc
  · show (List.replicate σ.length none).length = X.N.length
    rw [List.length_replicate]
    exact I.len

/-- a wish about exceptions that knows the names' values at the call -/
def PassesS (CX : CXT) (X : Cx) (Ex : St → XK) : Prop := ∀ (pins : List (Addr × Obj)) (σ : St) (H : Hp) (s : Shared) (e : Value) (s' : Shared), Inv X pins σ H s → CX X.stack H s (Ex σ) e s' → X.xe e s'
def tCallS (sp : Sp) (dvs : List V) (Ex : St → XK) (t : TA) : TE := fun σ H Q => t σ H fun vs H1 => sp (vs ++ dvs) H1 Q (Ex σ)
def Caught (X : Cx) (pn : List (Addr × Obj)) (Ex : St → XK) : Value → Shared → Prop := fun e s' => ∃ (pl : List (Addr × Obj)) (σ : St) (H : Hp) (s : Shared), Inv (X.tryIn pn fun _ _ => False) pl σ H s ∧ CXR X.prog X.w X.stack H s (Ex σ) e s'
theorem passes_try {pn : List (Addr × Obj)} {Ex : St → XK} : PassesS (CXR X.prog X.w) (X.tryIn pn (Caught X pn Ex)) Ex := fun pl σ H s e s' I h => ⟨pl, σ, H, s, I.wish _, h⟩
end

section
variable {X : Cx} {CX : CXT} {k : Nat} {f : Addr} {fd : FuncData} {ps : List Str} {sp : Sp} {dvs : List V} {ds : List Value} {Ex : St → XK} {x : Str} {p pos : Pos} {e : Expr} {es : List Expr} {t : TA}
theorem run_fnS {pins : List (Addr × Obj)} {σ : St} {H : Hp} {s : Shared} {Q : VK} {us : List Value} {vs : List V} (F : FnOk X.prog X.w X.K X.mg X.base CX k f fd ps sp) (hr : Room k X.A) (hb : Binds X.K fd ps ds) (hd : Vals dvs ds) (hx : PassesS CX X Ex)
    (I : Inv X pins σ H s) (r : Vals vs us) (h : sp (vs ++ dvs) H Q (Ex σ)) : wpAny (model X.prog X.w) X.A (call (.ref f) us) (EP X pins σ Q) X.xe s := by
  have r2 : Vals (vs ++ dvs) (us ++ ds) := r.append hd
  have hl : (us ++ ds).length = ps.length := by rw [← r2.length]; exact F.len _ _ _ _ h
  refine wpAny_call (codeAny_mono (F.run X.A X.stack s H ⟨us, []⟩ (us ++ ds) (vs ++ dvs) Q (Ex σ) hr I.env0 (hb s us I.kIn hl) r2 h) fun r s' hq => ?_)
  cases r with
  | error e => exact hx pins σ H s e s' I hq
  | ok fl =>
    cases fl with
    | ret u => exact I.after hq
    | next => exact False.elim hq
    | brk => exact False.elim hq
    | cont => exact False.elim hq
theorem pe_callS (F : FnOk X.prog X.w X.K X.mg X.base CX k f fd ps sp) (hr : Room k X.A) (hg : Gl X x) (hm : X.mg x = some (.ref f)) (hk : PySem.W.keepIn X.K (.ref f) = true) (hb : Binds X.K fd ps ds) (hd : Vals dvs ds) (hx : PassesS CX X Ex)
    (ha : PA X (e :: es) t) (hdb : (x == ("__debug__" : Str)) = false := by decide) (he : starEach (e :: es) X.env = (false, eval e X.env) :: starEach es X.env := by rfl) (hpl : (backTo pos (starEach es X.env)).any (·.1) = false := by rfl) :
    PE X (.Call (.Name x p) (e :: es) [] pos) (tCallS sp dvs Ex t) := by
  intro pins s σ H Q I h
  refine wpAny_Call_Name_kw (ld_glob I hg hm ?_ hdb)
  refine PySem.W.callWith_K (h₀ := X.base) I.ok.mod.kin hk (thn (ha pos pins s σ H _ I h) fun us s1 ⟨vs, H1, I1, r, q⟩ => ⟨I1.kIn, ?_⟩) he hpl
  exact run_fnS F hr hb hd hx I1 r q
end

/-! ### try .. except D as n -/
/-- an exception of class C is taken by an own class D -/
theorem matches_own {K : PySem.W.Frag} {M : Model} {A : Around} {E : Value → Shared → Prop} {s : Shared} {C D ea : Addr} {oe : Obj} {bmB : List Value} {nid : String} {Q : Bool → Shared → Prop} (X : K.In s.heap)
    (hC : PySem.W.excIn K C bmV nid = true) (hD : PySem.W.excIn K D bmB nid = true) (hb : bmB.contains (.type "BaseException") = true) (hsub : PySem.W.mroIn K C (.ref D) = some true) (he : s.heap.get? ea = some oe) (hc : oe.cls = .ref C) (h : Q true s) :
    wpAny M A (excMatches (.ref ea) (.ref D)) Q E s := by
  obtain ⟨bm, N, nm, qn, bs, hdct, sn, sub, ab, col, dd, k0, k1, k2, k3, k5, mN, gC, _, _, _⟩ := exc_obj X hC
  obtain ⟨bm', N', nm', qn', bs', hdct', sn', sub', ab', col', dd', j0, j1, j2, j3, j5, mN', gD, _, _, T⟩ := exc_obj X hD
  have hcB : (Value.ref D :: bm').contains (.type "BaseException") = true := by rw [List.contains_cons, T.hasType hb, Bool.or_true]
  have LS := PySem.W.looks_mroIn (M := M) X hsub
  have f := tc_notTuple
  obtain ⟨hh, g, d, tk, os⟩ := s
  unfold excMatches
  repeat (first | (with_reducible refine wpAny_loadPart_at he ?_; rw [hc]) | with_reducible refine wpAny_loadPart_at gD ?_ | (with_reducible refine wpAny_isSubtype_exc gD ?_; rw [hcB]) | with_reducible refine LS.at ?_ | wp_step)
  all_goals exact h

end L2

set_option Elab.async false
set_option linter.all false
set_option maxRecDepth 100000
namespace L2
open PySem PySem.Spec PyProof.Rows

/-! ### ints of known size -/
def Sz (n : Nat) (i : Int) : Prop := i.natAbs < 2 ^ n
theorem Sz.mono {m n : Nat} {i : Int} (h : Sz m i) (hl : m ≤ n) : Sz n i := Nat.lt_of_lt_of_le h (Nat.pow_le_pow_right (by decide) hl)
theorem Sz.le {n : Nat} {i j : Int} (h : Sz n j) (hl : i.natAbs ≤ j.natAbs) : Sz n i := Nat.lt_of_le_of_lt hl h
theorem Sz.neg {n : Nat} {i : Int} (h : Sz n i) : Sz n (-i) := h.le (by omega)
theorem Sz.mul {m n : Nat} {i j : Int} (h : Sz m i) (g : Sz n j) : Sz (m + n) (i * j) := by
  unfold Sz at *
  rw [Int.natAbs_mul, Nat.pow_add]
  exact Nat.mul_lt_mul'' h g
theorem Sz.add' {n : Nat} {i j : Int} (h : Sz n i) (g : Sz n j) : Sz (n + 1) (i + j) := by
  unfold Sz at *
  rw [Nat.pow_succ]
  generalize 2 ^ n = k at *
  omega
theorem Sz.sub' {n : Nat} {i j : Int} (h : Sz n i) (g : Sz n j) : Sz (n + 1) (i - j) := by
  unfold Sz at *
  rw [Nat.pow_succ]
  generalize 2 ^ n = k at *
  omega
theorem Sz.add {m n k : Nat} {i j : Int} (h : Sz m i) (g : Sz n j) (hm : m < k) (hn : n < k) : Sz k (i + j) := by
  cases k with
  | zero => exact absurd hm (Nat.not_lt_zero _)
  | succ k => exact Sz.add' (h.mono (Nat.le_of_lt_succ hm)) (g.mono (Nat.le_of_lt_succ hn))
theorem Sz.sub {m n k : Nat} {i j : Int} (h : Sz m i) (g : Sz n j) (hm : m < k) (hn : n < k) : Sz k (i - j) := by
  cases k with
  | zero => exact absurd hm (Nat.not_lt_zero _)
  | succ k => exact Sz.sub' (h.mono (Nat.le_of_lt_succ hm)) (g.mono (Nat.le_of_lt_succ hn))
theorem Sz.bits {n : Nat} {i : Int} (h : Sz n i) : Builtin.Int.intBits i ≤ n := PySem.intBits_le_iff.mpr h

def CMulS (i j : Int) : Prop := ∃ m n, Sz m i ∧ Sz n j ∧ m + n ≤ 134217728
def CDivS (_ j : Int) : Prop := j ≠ 0 ∧ Sz 9000 j
section
variable {X : Cx}
theorem op_mulS : OpR X (binaryOp .Mult) (rI CMulS fun i j => .int (i * j)) :=
  opI fun _ _ _ _ _ _ _ h q => by
    obtain ⟨m, n, h1, h2, h3⟩ := h
    exact mul_int q (PySem.IntMulOk.of_le h1.bits h2.bits h3)
theorem op_fdivS : OpR X (binaryOp .FloorDiv) (rI CDivS fun i j => .int (i.fdiv j)) :=
  opI fun _ _ _ _ _ _ _ h q => floordiv_int h.1 q (Or.inl (PyProof.noPylong_of_log2 ((Nat.log2_lt (by have := h.1; omega)).mpr h.2)))

/-! ### isinstance by one class -/
def toVal : V → Value
  | .ty n => .type n
  | .ref a => .ref a
  | _ => .none
theorem toVal_rel {c : V} {u : Value} (h : (∃ n, c = .ty n) ∨ ∃ a, c = .ref a) (r : RelV c u) : u = toVal c := by
  rcases h with ⟨n, rfl⟩ | ⟨a, rfl⟩
  · exact r
  · exact r
def rIsi (K : PySem.W.Frag) : List V → Hp → VK → Prop := fun xs H Q => ∃ x c t b, xs = [x, c] ∧ ((∃ n, c = .ty n) ∨ ∃ a, c = .ref a) ∧ TyOf K H x t ∧ PySem.W.kitOne K t (toVal c) = some b ∧ Q (.bl b) H
theorem call_isi : CallR X (.builtin "isinstance") (rIsi X.K) := fun pins s σ H xs us Q I r h => by
  obtain ⟨x, c, t, b, rfl, hc, ty, e, q⟩ := h
  obtain ⟨u, u', rfl, r1, r2⟩ := vals2 r
  rw [toVal_rel hc r2]
  exact isinst_ok I r1 ty e fun tk => ⟨.bl b, H, I.tok tk, rfl, q⟩
end

/-! ### a callee by its name -/
def Cal (P : Program) (w : World) (K : PySem.W.Frag) (mg : Str → Option Value) (base : Heap) (CX : CXT) (k : Nat) (x : Str) (ps : List Str) (sp : Sp) : Prop :=
  ∃ f fd, FnOk P w K mg base CX k f fd ps sp ∧ Binds K fd ps [] ∧ PySem.W.keepIn K (.ref f) = true ∧ mg x = some (.ref f)
section
variable {X : Cx} {CX : CXT} {k : Nat} {ps : List Str} {sp : Sp} {E : XK} {x : Str} {p pos : Pos} {e : Expr} {es : List Expr} {t : TA}
theorem pe_cal (c : Cal X.prog X.w X.K X.mg X.base CX k x ps sp) (hr : Room k X.A) (hx : Passes CX X E) (ha : PA X (e :: es) t) (hg : Gl X x := by rfl) (hdb : (x == ("__debug__" : Str)) = false := by decide)
    (he : starEach (e :: es) X.env = (false, eval e X.env) :: starEach es X.env := by rfl) (hpl : (backTo pos (starEach es X.env)).any (·.1) = false := by rfl) :
    PE X (.Call (.Name x p) (e :: es) [] pos) (tCall sp [] E t) := by
  obtain ⟨f, fd, F, b, kp, m⟩ := c
  exact pe_call F hr hg m kp b .nil hx ha hdb he hpl
theorem pe_calS {Ex : St → XK} (c : Cal X.prog X.w X.K X.mg X.base CX k x ps sp) (hr : Room k X.A) (hx : PassesS CX X Ex) (ha : PA X (e :: es) t) (hg : Gl X x := by rfl) (hdb : (x == ("__debug__" : Str)) = false := by decide)
    (he : starEach (e :: es) X.env = (false, eval e X.env) :: starEach es X.env := by rfl) (hpl : (backTo pos (starEach es X.env)).any (·.1) = false := by rfl) :
    PE X (.Call (.Name x p) (e :: es) [] pos) (tCallS sp [] Ex t) := by
  obtain ⟨f, fd, F, b, kp, m⟩ := c
  exact pe_callS F hr hg m kp b .nil hx ha hdb he hpl
end
theorem Cal.calm {P : Program} {w : World} {K : PySem.W.Frag} {mg : Str → Option Value} {base : Heap} {k : Nat} {x : Str} {ps : List Str} {sp sp' : Sp} (c : Cal P w K mg base (CXR P w) k x ps sp) (h : ∀ vs H Q E, sp' vs H Q E → sp vs H Q E0) :
    Cal P w K mg base CX0 k x ps sp' := by
  obtain ⟨f, fd, F, b, kp, m⟩ := c
  exact ⟨f, fd, F.calm h, b, kp, m⟩
end L2
namespace L2
open PySem PySem.Spec PyProof.Rows
/-! ### tests, split -/
theorem iteEqI {i j : Int} {A B : Prop} (h1 : i = j → A) (h2 : i ≠ j → B) : if decide (V.int i = V.int j) = true then A else B := by
  by_cases h : i = j
  · rw [decide_eq_true (congrArg V.int h)]
    exact iteT (h1 h)
  · rw [decide_eq_false (fun z => h (V.int.inj z))]
    exact iteF (h2 h)
theorem iteNeI {i j : Int} {A B : Prop} (h1 : i ≠ j → A) (h2 : i = j → B) : if (!decide (V.int i = V.int j)) = true then A else B := by
  by_cases h : i = j
  · rw [decide_eq_true (congrArg V.int h)]
    exact iteF (h2 h)
  · rw [decide_eq_false (fun z => h (V.int.inj z))]
    exact iteT (h1 h)
theorem iteLt {p : Prop} [Decidable p] {A B : Prop} (h1 : p → A) (h2 : ¬ p → B) : if decide p = true then A else B := by
  by_cases h : p
  · rw [decide_eq_true h]
    exact iteT (h1 h)
  · rw [decide_eq_false h]
    exact iteF (h2 h)
theorem gcd_abs (a b : Int) : Int.gcd (if a < 0 then -a else a) (if b < 0 then -b else b) = Int.gcd a b := by
  have ea : (if a < 0 then -a else a).natAbs = a.natAbs := by split <;> omega
  have eb : (if b < 0 then -b else b).natAbs = b.natAbs := by split <;> omega
  unfold Int.gcd
  rw [ea, eb]
/-- the built-in names that the program leaves as they are -/
structure Bl (mg : Str → Option Value) : Prop where
  b_isinstance : mg "isinstance" = none
  b_int : mg "int" = none
  b_bool : mg "bool" = none
  b_abs : mg "abs" = none
  b_len : mg "len" = none
  b_range : mg "range" = none
  b_max : mg "max" = none
  b_tuple : mg "tuple" = none
  b_min : mg "min" = none
  b_sorted : mg "sorted" = none
  b_enumerate : mg "enumerate" = none
  b_list : mg "list" = none
  b_dict : mg "dict" = none
  b_str : mg "str" = none
  b_any : mg "any" = none
  b_all : mg "all" = none
  b_sum : mg "sum" = none
  b_zip : mg "zip" = none
  b_set : mg "set" = none
  b_reversed : mg "reversed" = none
theorem kit_int_bool {K : PySem.W.Frag} : PySem.W.kitOne K (.type "int") (toVal (.ty "bool")) = some false := by kernel_rfl
theorem kit_tuple_tuple {K : PySem.W.Frag} : PySem.W.kitOne K (.type "tuple") (toVal (.ty "tuple")) = some true := by kernel_rfl
end L2
namespace L2
open PySem PySem.Spec PyProof.Rows
theorem same_new {H : Hp} {p : Addr} (h : H p = none) (o : HO) : Same H (upd H p o) := fun b u q => by rw [upd_ne (ne_of_none q h)]; exact q
end L2
namespace L2
open PySem PySem.Spec PyProof.Rows
/-! ### ways that meet again behind a statement -/
def tMid (t : TS) : TS := fun D σ H => ∃ M : St → Hp → Prop, t { D with nx := M } σ H ∧ ∀ σ' H', M σ' H' → D.nx σ' H'
theorem ps_mid {X : Cx} {st : Stmt} {t : TS} (h : PS X st t) : PS X st (tMid t) := fun pins s σ H D I hq => by
  obtain ⟨M, q, hm⟩ := hq
  refine wpAny_mono (h pins s σ H _ I q) (fun fl s' hs => ?_) fun _ _ z => z
  cases fl with
  | next =>
    obtain ⟨σ', H', J, z⟩ := hs
    exact ⟨σ', H', J, hm _ _ z⟩
  | brk => exact hs
  | cont => exact hs
  | ret u => exact hs
end L2
namespace L2
open PySem PySem.Spec PyProof.Rows
section
variable {X : Cx} {x : Str} {pos : Pos}
/-- a built-in type, an own class, by its name -/
theorem pe_ty {n : String} (hg : Gl X x) (hm : X.mg x = none) (hv : bootBuiltins x = some (.type n)) (hn : x ≠ "__name__" := by decide) (hd : (x == ("__debug__" : Str)) = false := by decide) : PE X (.Name x pos) (tC (.ty n)) := pe_bltn hg hm hv rfl hn hd
theorem pe_own {C : Addr} (hg : Gl X x) (hm : X.mg x = some (.ref C)) (hd : (x == ("__debug__" : Str)) = false := by decide) : PE X (.Name x pos) (tC (.ref C)) := pe_glob hg hm rfl hd
end
end L2

set_option Elab.async false
set_option linter.all false
set_option maxRecDepth 100000
set_option maxHeartbeats 1000000
namespace L2
open PySem PySem.Spec PyProof.Rows

/-! ### try: body; except D as n: suite -/
/-- the names' values at the raise are the wish's first; behind the suite they are forgotten -/
def tTry (K : PySem.W.Frag) (D : Addr) (i : Nat) (tb : (St → XK) → TS) (th : TS) : TS := fun De σ H => ∃ Ex : St → XK, tb Ex De σ H ∧ ∀ (σ1 : St) (cls : Value) (dx : Option Addr) (H1 : Hp), Ex σ1 cls dx H1 →
  ∃ C, cls = .ref C ∧ ExcC K C ∧ PySem.W.mroIn K C (.ref D) = some true ∧ ∀ ea, H1 ea = none →
    th { nx := fun σ2 H2 => De.nx (List.replicate σ2.length none) H2, rt := De.rt, bk := fun σ2 H2 => De.bk (List.replicate σ2.length none) H2, ct := fun σ2 H2 => De.ct (List.replicate σ2.length none) H2 } (σ1.set i (some (.ref ea))) (upd H1 ea (ExcO ea (.ref C)))

section
variable {X : Cx} {D : Addr} {i : Nat} {x n : Str} {np hpos pos : Pos} {body suite : List Stmt} {b₀ : Stmt} {tb : (St → XK) → TS} {th : TS}
theorem ps_tryAs (hst : X.stack = X.env :: X.outer) (hfr : X.env.frame = some X.env.locals) (hb : ∀ (pn : List (Addr × Obj)) (Ex : St → XK), PSs (X.tryIn pn (Caught X pn Ex)) body (tb Ex)) (hh : ∀ (ea : Addr) (E : Value → Shared → Prop), PSs (X.hand ea E) (b₀ :: suite) th)
    (hg : Gl X x) (hm : X.mg x = some (.ref D)) (hD : ExcC X.K D) (hN : X.N.Nodup) (hi : X.N[i]? = some n) (hn : X.env.kindOf n = some .local) (hx : Loc X.env.scope n) (hdb : (x == ("__debug__" : Str)) = false := by decide)
    (hf : X.fn n = true ∨ X.env.scope.names.lookup n = some .local := by first | exact .inl rfl | exact .inr rfl | assumption) :
    PS X (.Try body [.ExceptHandler (some (.Name x np)) (some n) (b₀ :: suite) hpos] [] [] pos) (tTry X.K D i tb th) := by
  intro pins s σ H De I h
  obtain ⟨Ex, h1, h2⟩ := h
  refine wpAny_Try_except (wpAny_mono (hb (X.pn ++ pins) Ex [] s σ H De (Inv.tryIn I) h1) (fun fl s1 hs => ?_) fun e s1 hc => ?_)
  · cases fl with
    | next =>
      obtain ⟨σ', H', J, q⟩ := hs
      exact wpAny_execs_nil ⟨σ', H', J.unTry, q⟩
    | brk =>
      obtain ⟨σ', H', J, q⟩ := hs
      exact ⟨σ', H', J.unTry, q⟩
    | cont =>
      obtain ⟨σ', H', J, q⟩ := hs
      exact ⟨σ', H', J.unTry, q⟩
    | ret u =>
      obtain ⟨v, σ', H', J, r, q⟩ := hs
      exact ⟨v, σ', H', J.unTry, r, q⟩
  · obtain ⟨pl, σ1, H1, s0, J0, ea, cls, a0, B, H', rfl, ho, hg', U, hok, fl, hE⟩ := hc
    have J0' : Inv X pins σ1 H1 s0 := Inv.unTry (E := fun _ _ => False) J0
    obtain ⟨C, rfl, xC, sub, k⟩ := h2 σ1 _ none H' hE
    have fr0 := fl.2.2.1
    have frs' : X.A.frames = some (X.env :: X.outer) := by rw [← hst]; exact I.ok.frames
    have fl' : Heap.FlyingW B (X.env :: X.outer) ea (.ref C) a0 s1.heap := by rw [← hst]; exact fl
    refine wpAny_looks_onW frs' hfr fl' fun h4 held sm4 => ?_
    refine wpAny_landsW held fun h5 fl5 sm5 => ?_
    have fl5' : Heap.FlyingW B X.stack ea (.ref C) a0 h5 := by rw [hst]; exact fl5
    obtain ⟨J5, free⟩ := J0'.caught U ho hg' hok fl5' (sm4.trans sm5) fr0
    obtain ⟨oe, _, he, hec, _⟩ := fl5.first
    refine wpAny_handleBy_cons (codeAny_handlers_test (ld_glob (X := X.hand ea fun _ _ => False) J5.hand hg hm ?_ hdb)) (by intro z; cases z)
    refine matches_own J5.kIn xC hD rfl sub he hec ?_
    refine codeAny_handlers_suite_as ?_
    refine lands_againW fl5 fun h6 fl6 sm6 => ?_
    have fl6' : Heap.FlyingW B X.stack ea (.ref C) a0 h6 := by rw [hst]; exact fl6
    obtain ⟨J6, _⟩ := J0'.caught U ho hg' hok fl6' ((sm4.trans sm5).trans sm6) fr0
    refine store_ok (X := X.hand ea fun _ _ => False) J6.hand hN hi hx (v := .ref ea) rfl (fun s7 J7 => ?_) hf
    have z := hh ea (fun _ _ => False) pins s7 _ _ _ J7 (k ea free)
    refine wpAny_mono z (fun f s8 h8 => ?_) fun _ _ y => y.elim
    have unb : ∀ {σ8 : St} {H8 : Hp} (R : Shared → Prop), Inv (X.hand ea fun _ _ => False) pins σ8 H8 s8 → (∀ s9, Inv X pins (List.replicate σ8.length none) H8 s9 → R s9) →
        wpAny (model X.prog X.w) X.A (do bindName X.env n .none; unbindBehindTheSuite X.env n hpos) (fun _ s9 => R s9) X.xe s8 := fun {σ8 H8} R J8 kk => by
      obtain ⟨m, hm8, _⟩ := id J8.loc
      refine wpAny_nameGoes hn hm8 (by rw [I.ok.kind]; rfl) fun h9 m9 hn9 hs9 => ?_
      exact kk _ (Inv.unHand I.ok J8 hn9 hs9)
    cases f with
    | next =>
      obtain ⟨σ8, H8, J8, q⟩ := h8
      exact unb _ J8 fun s9 J9 => ⟨_, _, J9, q⟩
    | brk =>
      obtain ⟨σ8, H8, J8, q⟩ := h8
      exact unb _ J8 fun s9 J9 => ⟨_, _, J9, q⟩
    | cont =>
      obtain ⟨σ8, H8, J8, q⟩ := h8
      exact unb _ J8 fun s9 J9 => ⟨_, _, J9, q⟩
    | ret u =>
      obtain ⟨v, σ8, H8, J8, r, q⟩ := h8
      exact unb _ J8 fun s9 J9 => ⟨v, _, _, J9, r, q⟩
end

/-! ### isinstance(e, ..) of a caught exception -/
/-- what of the text an exception's class must have -/
structure ExcK (K : PySem.W.Frag) (C : Addr) : Prop where
  ga : PySem.W.findIn K (.ref C) "__getattribute__" = some (some (.builtin "BaseException.__getattribute__"))
  gt : PySem.W.findIn K (.ref C) "__getattr__" = some none
  cl : PySem.W.findIn K (.ref C) "__class__" = some (some (.builtin "object.__class__"))
  ob : PySem.W.mroIn K C (.type "object") = some true
  be : PySem.W.mroIn K C (.type "BaseException") = some true

def ExcAt (ea : Addr) (cls : Value) (h : Heap) : Prop := ∃ (o : Obj) (vs : Array Value), h.get? ea = some o ∧ o.cls = cls ∧ o.data = .fields vs

section
variable {K : PySem.W.Frag} {prog : Program} {w : World} {A : Around} {E : Value → Shared → Prop} {hh : Heap} {g : Array GenState} {d : Drawn} {t : Nat} {os : OsState} {ea C : Addr} {o : Obj}
theorem exc_get {R : Result → Shared → Prop} {tp : Value} (T : ExcK K C) (X : K.In hh) (hx : hh.get? ea = some o) (hc : o.cls = .ref C) (hq : R (.ok (.ret (.ref C))) ⟨hh, g, d, t, os⟩) :
    codeAny (model prog w) A (.call (.builtin "getset_descriptor.__get__") ⟨[.builtin "object.__class__", .ref ea, tp], []⟩) R ⟨hh, g, d, t, os⟩ := by
  have hT5 : (⟨hh, g, d, t, os⟩ : Shared).TypeIs (.builtin "object.__class__") "getset_descriptor" := F.typeOf_object_class
  have L4 := PySem.W.looks_mroIn (M := model prog w) X T.ob
  have LT : PySem.W.Looks (model prog w) hh (typeOf (.ref ea)) (.ref C) := hc ▸ (PySem.W.Looks.ld hx).andThen .now
  refine codeAny_call_builtin F.slot_gs_get.plain F.entry_gs_get (F.slot_gs_get.check _ _ _ _ _ _ _ _ hT5 (F.args_gs_get _ _ _) ?_)
  have ho : (".".intercalate ("object.__class__".cutAt '.').dropLast) = "object" := by
    have e0 : "object.__class__".cutAt '.' = ["object", "__class__"] := by decide +kernel
    rw [e0]
    decide +kernel
  have L4' : PySem.W.Looks (model prog w) hh (isSubtype (.ref C) (.type (".".intercalate ("object.__class__".cutAt '.').dropLast))) true := by rw [ho]; exact L4
  repeat (any_goals (first | assumption | (with_reducible refine wpAny_loadPart_at hx ?_; rw [hc]) | with_reducible refine L4'.at ?_ | wp_step))
  refine ⟨Code.quiet_builtin _ (by decide +kernel), codeAny_builtin F.entry_object_class ?_⟩
  repeat (any_goals (first | assumption | (with_reducible refine wpAny_loadPart_at hx ?_; rw [hc]) | wp_step))
theorem exc_entry {tk : Tok} {Q : Fin → Shared → Prop} (T : ExcK K C) (X : K.In hh) (hx : hh.get? ea = some o) (hc : o.cls = .ref C) (hq : Q (.done (.ret (.ref C))) ⟨hh, g, d, t, os⟩) :
    wpAny (model prog w) A (Builtin.«object.__getattribute__» ⟨[.ref ea, .str "__class__" tk], []⟩) Q E ⟨hh, g, d, t, os⟩ := by
  have hT5 : (⟨hh, g, d, t, os⟩ : Shared).TypeIs (.builtin "object.__class__") "getset_descriptor" := F.typeOf_object_class
  have f5 := F.typeOf_object_class
  have f6 := F.slot_gs_get.lookup
  have f7 := F.slot_gs_set.lookup
  have L3 := PySem.W.looks_findIn (M := model prog w) X T.cl
  repeat (any_goals (first | assumption | (with_reducible refine wpAny_loadPart_at hx ?_; rw [hc]) | with_reducible refine L3.at ?_ | wp_step))
  refine exc_get T X hx hc ?_
  repeat (any_goals (first | assumption | wp_step))
theorem exc_check {M : Model} {nm : Value} {Q : Unit → Shared → Prop} (T : ExcK K C) (X : K.In hh) (hx : hh.get? ea = some o) (hc : o.cls = .ref C) (hq : Q () ⟨hh, g, d, t, os⟩) :
    wpAny M A (checkBuiltinCall "BaseException.__getattribute__" ⟨[.ref ea, nm], []⟩) Q E ⟨hh, g, d, t, os⟩ := by
  have L5 := PySem.W.looks_mroIn (M := M) X T.be
  have hk : builtinKind "BaseException.__getattribute__" = some .slot := by decide +kernel
  have hsplit : splitId "BaseException.__getattribute__" = some ("BaseException", "__getattribute__") := by decide +kernel
  have ha := PySem.F.args_bexc_ga (.ref ea) nm
  simp only [checkBuiltinCall, hk, hsplit]
  refine wpAny_bind ?_
  unfold isInstance
  repeat (first | (with_reducible refine wpAny_loadPart_at hx ?_; rw [hc]) | with_reducible refine L5.at ?_ | wp_step)
  exact hq
theorem exc_by {tk : Tok} {Q : Value → Shared → Prop} (T : ExcK K C) (X : K.In hh) (hx : hh.get? ea = some o) (hc : o.cls = .ref C) (hq : Q (.ref C) ⟨hh, g, d, t, os⟩) :
    wpAny (model prog w) A (getAttrBy (.ref ea) (.str "__class__" tk) false false) Q E ⟨hh, g, d, t, os⟩ := by
  have f3 := PySem.F.attr_ValueError.ga.bind (.ref ea)
  have L1 := PySem.W.looks_findIn (M := model prog w) X T.ga
  have L2 := PySem.W.looks_findIn (M := model prog w) X T.gt
  have hx2 : (Value.builtin "BaseException.__getattribute__" == Value.builtin "object.__getattribute__") = false := by decide +kernel
  have hx1 : (onTheHeap (Value.ref C) && Value.builtin "BaseException.__getattribute__" == Value.builtin "object.__getattribute__") = false := by rw [hx2]; rfl
  repeat (any_goals (first | assumption | (with_reducible refine wpAny_loadPart_at hx ?_; rw [hc]) | with_reducible refine L1.at ?_ | with_reducible refine L2.at ?_ | wp_step))
  refine codeAny_call_builtin PySem.F.attr_ValueError.ga.plain PySem.F.entry_bexc_ga (exc_check T X hx hc (exc_entry T X hx hc ?_))
  repeat (any_goals (first | assumption | wp_step))
end
theorem exc_class {K : PySem.W.Frag} {prog : Program} {w : World} {A : Around} {E : Value → Shared → Prop} {Q : Option Value → Shared → Prop} {s : Shared} {ea C : Addr} (T : ExcK K C) (X : K.In s.heap) (he : ExcAt ea (.ref C) s.heap)
    (h : Q (some (.ref C)) { s with toks := s.toks + 1 }) : wpAny (model prog w) A (getAttr? (.ref ea) "__class__") Q E s := by
  obtain ⟨o, vs, hx, hc, hd⟩ := he
  obtain ⟨hh, g, d, t, os⟩ := s
  unfold getAttr? getAttrBy?
  refine wpAny_bind (wpAny_mkText (wpAny_bind (wpAny_attempt (exc_by T X hx hc ?_))))
  exact wpAny_pure h

theorem kitx_exc {K : PySem.W.Frag} {ea C : Addr} (T : ExcK K C) (hC : ExcC K C) : PySem.W.KitX K (.ref ea) (.ref C) (ExcAt ea (.ref C)) where
  ty := fun M h _ p => by
    obtain ⟨o, vs, h1, h2, _⟩ := p
    exact h2 ▸ (PySem.W.Looks.ld h1).andThen .now
  it := fun M h X _ => by
    obtain ⟨bm, N, nm, qn, bs, hdct, sn, sub, ab, col, dd, k0, k1, k2, k3, k5, mN, gC, _, _, _⟩ := exc_obj X hC
    intro A' Q' E' s' k q
    unfold isType loadHead
    exact wpAny_bind (wpAny_loadPart (k _ _ gC) (wpAny_pure q))
  ne := fun h tp dd its n sl X htp => by
    obtain ⟨bm, N, nm, qn, bs, hdct, sn, sub, ab, col, dd', k0, k1, k2, k3, k5, mN, gC, _, _, _⟩ := exc_obj X hC
    refine Bool.eq_false_iff.mpr fun q => ?_
    have e : C = tp := Value.ref.inj (beq_iff_eq.mp q)
    subst e
    rw [gC] at htp
    exact absurd (congrArg Obj.cls (Option.some.inj htp)) (by intro z; exact absurd (Value.type.inj z) (by decide))
  ca := fun X p k => exc_class T X p k

section
variable {X : Cx}
theorem exc_at {pins : List (Addr × Obj)} {s : Shared} {σ : St} {H : Hp} {ea : Addr} {cls : Value} (I : Inv X pins σ H s) (h : H ea = some (ExcO ea cls)) : ExcAt ea cls s.heap := (I.hok ea _ h).1
def rIsiX (K : PySem.W.Frag) : List V → Hp → VK → Prop := fun xs H Q => ∃ ea C c b, xs = [.ref ea, c] ∧ ((∃ n, c = .ty n) ∨ ∃ a, c = .ref a) ∧ H ea = some (ExcO ea (.ref C)) ∧ ExcK K C ∧ ExcC K C ∧ PySem.W.kitOne K (.ref C) (toVal c) = some b ∧ Q (.bl b) H
theorem call_isiX {K : PySem.W.Frag} (hK : X.K = K := by rfl) : CallR X (.builtin "isinstance") (rIsiX K) := fun pins s σ H xs us Q I r h => by
  subst hK
  obtain ⟨ea, C, c, b, rfl, hc, he, kC, xC, e, q⟩ := h
  obtain ⟨u, u', rfl, r1, r2⟩ := vals2 r
  rw [toVal_rel hc r2]
  cases (show u = Value.ref ea from r1)
  exact PySem.W.kia_one (kitx_exc kC xC) I.kIn (exc_at I he) e (fun z => nomatch z) fun tk => ⟨.bl b, H, I.tok tk, rfl, q⟩
theorem toVals {cs : List V} : ∀ {us : List Value}, (∀ c ∈ cs, (∃ n, c = V.ty n) ∨ ∃ a, c = V.ref a) → Vals cs us → us = cs.map toVal := by
  induction cs with
  | nil => intro us _ r; cases r; rfl
  | cons c cs ih =>
    intro us h r
    cases r with
    | cons r1 r2 =>
      rw [toVal_rel (h c (List.mem_cons_self ..)) r1, ih (fun d hd => h d (List.mem_cons_of_mem _ hd)) r2]
      rfl
def rIsiXT (K : PySem.W.Frag) : List V → Hp → VK → Prop := fun xs H Q => ∃ ea C tp cs b, xs = [.ref ea, .ref tp] ∧ H ea = some (ExcO ea (.ref C)) ∧ ExcK K C ∧ ExcC K C ∧ H tp = some (.tup cs) ∧ (∀ c ∈ cs, (∃ n, c = V.ty n) ∨ ∃ a, c = V.ref a) ∧ PySem.W.kitAny K (.ref C) (cs.map toVal) = some b ∧ Q (.bl b) H
theorem call_isiXT {K : PySem.W.Frag} (hK : X.K = K := by rfl) : CallR X (.builtin "isinstance") (rIsiXT K) := fun pins s σ H xs us Q I r h => by
  subst hK
  obtain ⟨ea, C, tp, cs, b, rfl, he, kC, xC, ht, hcs, e, q⟩ := h
  obtain ⟨u, u', rfl, r1, r2⟩ := vals2 r
  cases (show u = Value.ref ea from r1)
  cases (show u' = Value.ref tp from r2)
  obtain ⟨_, its, rv, ⟨oc, od, dt, sl⟩, g, hc, n, hd⟩ := (show ObjOk X.prog X.w H s.heap tp (.tup cs) from I.hok tp _ ht)
  dsimp only at hc hd
  subst hc
  subst hd
  rw [toVals hcs rv] at g
  exact PySem.W.kia_tup (kitx_exc kC xC) I.kIn (exc_at I he) g e (fun z => nomatch z) fun tk => ⟨.bl b, H, I.tok tk, rfl, q⟩
end
end L2

set_option Elab.async false
set_option linter.all false
set_option maxRecDepth 100000
namespace L2
open PySem PySem.Spec PyProof.Rows

/-! ### values as data: none, truths, ints, texts, lists and tuples of such -/
mutual
inductive RdD (K : PySem.W.Frag) (H : Hp) : V → PyData → Prop
  | non : RdD K H .non .none
  | bl (b : Bool) : RdD K H (.bl b) (.bool b)
  | int (i : Int) : RdD K H (.int i) (.int i)
  | str (x : Str) : RdD K H (.str x) (.str x)
  | lst {a : Addr} {xs : List V} {ds : List PyData} : SqL K H a xs → RdDs K H xs ds → RdD K H (.ref a) (.list ds)
  | tup {a : Addr} {xs : List V} {ds : List PyData} : SqT K H a xs → RdDs K H xs ds → RdD K H (.ref a) (.tuple ds)
inductive RdDs (K : PySem.W.Frag) (H : Hp) : List V → List PyData → Prop
  | nil : RdDs K H [] []
  | cons {v : V} {vs : List V} {d : PyData} {ds : List PyData} : RdD K H v d → RdDs K H vs ds → RdDs K H (v :: vs) (d :: ds)
end

section
variable {X : Cx} {pins : List (Addr × Obj)} {σ : St} {H : Hp} {s : Shared}
mutual
theorem Inv.reads (I : Inv X pins σ H s) : ∀ {v : V} {d : PyData} {u : Value}, RdD X.K H v d → RelV v u → ∃ as, Reads s.heap u d as
  | _, _, u, .non, r => by cases (show u = Value.none from r); exact ⟨_, .none⟩
  | _, _, u, .bl b, r => by cases (show u = Value.bool b from r); exact ⟨_, .bool b⟩
  | _, _, u, .int i, r => by obtain ⟨t, e⟩ := (show ∃ t, u = Value.int i t from r); cases e; exact ⟨_, .int i t⟩
  | _, _, u, .str x, r => by obtain ⟨t, e⟩ := (show ∃ t, u = Value.str x t from r); cases e; exact ⟨_, .str x t⟩
  | _, _, u, .lst (a := a) h hs, r => by
    cases (show u = Value.ref a from r)
    obtain ⟨its, rv, ⟨o, n, ho, hc, hdi, hd⟩, _⟩ := I.list h
    obtain ⟨as, ra⟩ := I.readsAll hs rv
    exact ⟨_, .list ho hc hd (by simpa using ra)⟩
  | _, _, u, .tup (a := a) h hs, r => by
    cases (show u = Value.ref a from r)
    obtain ⟨its, rv, ⟨o, ho, hc, n, hd⟩, _⟩ := I.tuple h
    obtain ⟨as, ra⟩ := I.readsAll hs rv
    exact ⟨_, .tuple ho hc hd (by simpa using ra)⟩
theorem Inv.readsAll (I : Inv X pins σ H s) : ∀ {vs : List V} {ds : List PyData} {us : List Value}, RdDs X.K H vs ds → Vals vs us → ∃ as, ReadsAll s.heap us ds as
  | _, _, _, .nil, r => by cases r; exact ⟨_, .nil⟩
  | _, _, _, .cons h hs, r => by
    cases r with
    | cons r1 r2 =>
      obtain ⟨as, ra⟩ := I.reads h r1
      obtain ⟨bs, rb⟩ := I.readsAll hs r2
      exact ⟨_, .cons ra rb⟩
end
def rEqD (K : PySem.W.Frag) : R2 := fun x y H Q => ∃ d e, RdD K H x d ∧ RdD K H y e ∧ SeqAt.shaped d = true ∧ SeqAt.shaped e = true ∧ Q (.bl (PyData.eqv d e)) H
def rNeD (K : PySem.W.Frag) : R2 := fun x y H Q => ∃ d e, RdD K H x d ∧ RdD K H y e ∧ SeqAt.shaped d = true ∧ SeqAt.shaped e = true ∧ Q (.bl (!PyData.eqv d e)) H
theorem op_eqD (hu : X.A.units + 64 < cLine) : OpR X (compareOp .Eq) (rEqD X.K) := fun pins s σ H x y v u Q I rx ry h => by
  obtain ⟨d, e, h1, h2, s1, s2, q⟩ := h
  obtain ⟨as, r1⟩ := I.reads h1 rx
  obtain ⟨bs, r2⟩ := I.reads h2 ry
  exact eq_dataH r1 r2 s1 s2 hu ⟨.bl _, H, I, rfl, q⟩
theorem op_neD (hu : X.A.units + 64 < cLine) : OpR X (compareOp .NotEq) (rNeD X.K) := fun pins s σ H x y v u Q I rx ry h => by
  obtain ⟨d, e, h1, h2, s1, s2, q⟩ := h
  obtain ⟨as, r1⟩ := I.reads h1 rx
  obtain ⟨bs, r2⟩ := I.reads h2 ry
  exact ne_dataH r1 r2 s1 s2 hu ⟨.bl _, H, I, rfl, q⟩
end
end L2

set_option Elab.async false
set_option linter.all false
set_option maxRecDepth 100000
set_option maxHeartbeats 1000000
/-! the pure layer: code read over plain data; what is shared never changes, what a name owns may -/
namespace L2
open PySem PySem.Spec PyProof.Rows

def keyD : Key → PyData
  | .inl i => .int i
  | .inr x => .str x
def tkD (ks : List Key) : PyData := .tuple (ks.map keyD)

/-! ### dicts: the record itself is known; its keys are ints, texts, or tuples of these -/
abbrev KD := Key ⊕ List Key
def kdD : KD → PyData
  | .inl k => keyD k
  | .inr ks => tkD ks
def kHash (w : World) : KD → Int
  | .inl k => keyH w k
  | .inr ks => reduceHash (Builtin.Tuple.tupleHashOf (ks.map (keyH w)))
abbrev DX := KD × Value × Value
def entX (w : World) (x : DX) : DictEntry := ⟨kHash w x.1, x.2.1, x.2.2⟩
/-- the record of a dict with these keys and values -/
structure DRec (w : World) (o : Obj) (xs : List DX) : Prop where
  ex : o.ExactDict
  es : ∃ es ep, o.data = .dict es ep ∧ es.toList = xs.map (entX w)
  nd : (xs.map (·.1)).Nodup
  sz : xs.length ≤ sizeLine
/-- the object at a is o -/
abbrev PinO (a : Addr) (o : Obj) : HO := .ext fun h => h.get? a = some o
def KeyR (F : Hp) : KD → Value → Prop
  | .inl k, u => RelV (kV k) u
  | .inr ks, u => ∃ b, u = .ref b ∧ F b = some (.tup (ks.map kV))
abbrev dictD (kvs : List (KD × PyData)) : PyData := .dict (kvs.map fun kv => (kdD kv.1, kv.2))
/-- a tuple that is tracked, or one of the module's that begins with an int -/
def SqK (K : PySem.W.Frag) (F : Hp) (a : Addr) (xs : List V) : Prop := F a = some (.tup xs) ∨ ((∃ i r, xs = V.int i :: r) ∧ SqT K (fun _ => Option.none) a xs)
theorem SqK.of {K : PySem.W.Frag} {F : Hp} {a : Addr} {xs : List V} (h : F a = some (.tup xs)) : SqK K F a xs := .inl h

mutual
inductive Rp (w : World) (K : PySem.W.Frag) (F : Hp) : V → PyData → Prop
  | non : Rp w K F .non .none
  | bl (b : Bool) : Rp w K F (.bl b) (.bool b)
  | int (i : Int) : Rp w K F (.int i) (.int i)
  | str (x : Str) : Rp w K F (.str x) (.str x)
  | lst {a : Addr} {xs : List V} {ds : List PyData} : SqL K F a xs → Rps w K F xs ds → Rp w K F (.ref a) (.list ds)
  | tup {a : Addr} {xs : List V} {ds : List PyData} : SqK K F a xs → Rps w K F xs ds → Rp w K F (.ref a) (.tuple ds)
  | dct {a : Addr} {o : Obj} {xs : List DX} {vs : List V} {kvs : List (KD × PyData)} : F a = some (PinO a o) → (a == sysModules) = false → DRec w o xs → (∀ x ∈ xs, KeyR F x.1 x.2.1) → xs.map (·.1) = kvs.map (·.1) → Vals vs (xs.map (·.2.2)) →
      Rps w K F vs (kvs.map (·.2)) → Rp w K F (.ref a) (.dict (kvs.map fun kv => (kdD kv.1, kv.2)))
inductive Rps (w : World) (K : PySem.W.Frag) (F : Hp) : List V → List PyData → Prop
  | nil : Rps w K F [] []
  | cons {v : V} {vs : List V} {d : PyData} {ds : List PyData} : Rp w K F v d → Rps w K F vs ds → Rps w K F (v :: vs) (d :: ds)
end

section
variable {w : World} {K : PySem.W.Frag} {F F' H H' H₀ F₀ : Hp}
theorem Same.sqt {a : Addr} {xs : List V} (e : Same H H') (h : SqT K H a xs) : SqT K H' a xs := by
  rcases h with (h | ⟨o, h⟩) | h
  · exact .inl (.inl (e _ _ h))
  · exact .inl (.inr ⟨o, e _ _ h⟩)
  · exact .inr h
theorem SqK.sqt {a : Addr} {xs : List V} (h : SqK K F a xs) : SqT K F a xs := by
  rcases h with h | ⟨_, h | h⟩
  · exact .inl (.inl h)
  · rcases h with h | ⟨_, h⟩ <;> cases h
  · exact .inr h
theorem Same.sqk {a : Addr} {xs : List V} (e : Same H H') (h : SqK K H a xs) : SqK K H' a xs := by
  rcases h with h | h
  · exact .inl (e _ _ h)
  · exact .inr h
theorem KeyR.mono (e : Same F F') : ∀ {k : KD} {u : Value}, KeyR F k u → KeyR F' k u
  | .inl _, _, h => h
  | .inr _, _, ⟨b, h1, h2⟩ => ⟨b, h1, e _ _ h2⟩
mutual
theorem Rp.mono (e : Same F F') : ∀ {v : V} {d : PyData}, Rp w K F v d → Rp w K F' v d
  | _, _, .non => .non
  | _, _, .bl b => .bl b
  | _, _, .int i => .int i
  | _, _, .str x => .str x
  | _, _, .lst h hs => .lst (e.seq h) (Rps.mono e hs)
  | _, _, .tup h hs => .tup (e.sqk h) (Rps.mono e hs)
  | _, _, .dct h l r k q z hs => .dct (e _ _ h) l r (fun x hx => (k x hx).mono e) q z (Rps.mono e hs)
theorem Rps.mono (e : Same F F') : ∀ {vs : List V} {ds : List PyData}, Rps w K F vs ds → Rps w K F' vs ds
  | _, _, .nil => .nil
  | _, _, .cons h hs => .cons (Rp.mono e h) (Rps.mono e hs)
end
theorem Rps.length : ∀ {vs : List V} {ds : List PyData}, Rps w K F vs ds → vs.length = ds.length
  | _, _, .nil => rfl
  | _, _, .cons _ hs => by rw [List.length_cons, List.length_cons, Rps.length hs]
theorem Rps.get : ∀ {vs : List V} {ds : List PyData} {i : Nat} {d : PyData}, Rps w K F vs ds → ds[i]? = some d → ∃ v, vs[i]? = some v ∧ Rp w K F v d
  | _, _, _, _, .nil, e => by simp at e
  | _, _, 0, _, .cons h _, e => by simp at e; subst e; exact ⟨_, rfl, h⟩
  | _, _, i + 1, d, .cons _ hs, e => by
    obtain ⟨v, h1, h2⟩ := Rps.get (i := i) (d := d) hs (by simpa using e)
    exact ⟨v, by simpa using h1, h2⟩
theorem Rps.getV : ∀ {vs : List V} {ds : List PyData} {i : Nat} {v : V}, Rps w K F vs ds → vs[i]? = some v → ∃ d, ds[i]? = some d ∧ Rp w K F v d
  | _, _, _, _, .nil, e => by simp at e
  | _, _, 0, _, .cons h _, e => by simp at e; subst e; exact ⟨_, rfl, h⟩
  | _, _, i + 1, v, .cons _ hs, e => by
    obtain ⟨d, h1, h2⟩ := Rps.getV (i := i) (v := v) hs (by simpa using e)
    exact ⟨d, by simpa using h1, h2⟩
theorem Rps.append : ∀ {vs ws : List V} {ds es : List PyData}, Rps w K F vs ds → Rps w K F ws es → Rps w K F (vs ++ ws) (ds ++ es)
  | _, _, _, _, .nil, s => s
  | _, _, _, _, .cons r t, s => .cons r (Rps.append t s)
theorem Rps.take : ∀ {vs : List V} {ds : List PyData} (n : Nat), Rps w K F vs ds → Rps w K F (vs.take n) (ds.take n)
  | _, _, 0, _ => .nil
  | _, _, _ + 1, .nil => .nil
  | _, _, n + 1, .cons r t => .cons r (Rps.take n t)
theorem Rps.drop : ∀ {vs : List V} {ds : List PyData} (n : Nat), Rps w K F vs ds → Rps w K F (vs.drop n) (ds.drop n)
  | _, _, 0, r => r
  | _, _, _ + 1, .nil => .nil
  | _, _, n + 1, .cons _ t => Rps.drop n t
theorem Rps.set {v : V} {d : PyData} (r : Rp w K F v d) : ∀ {vs : List V} {ds : List PyData} (i : Nat), Rps w K F vs ds → Rps w K F (vs.set i v) (ds.set i d)
  | _, _, _, .nil => .nil
  | _, _, 0, .cons _ t => .cons r t
  | _, _, i + 1, .cons q t => .cons q (Rps.set r i t)
theorem Rps.reverse : ∀ {vs : List V} {ds : List PyData}, Rps w K F vs ds → Rps w K F vs.reverse ds.reverse
  | _, _, .nil => .nil
  | _, _, .cons r t => by rw [List.reverse_cons, List.reverse_cons]; exact (Rps.reverse t).append (.cons r .nil)

/-! ### growth -/
structure Gr (F H F' H' : Hp) : Prop where
  le : Same F' H'
  hh : Same H H'
  ff : Same F F'
  nw : ∀ b, F' b ≠ Option.none → F b ≠ Option.none ∨ H b = Option.none
theorem Gr.refl (h : Same F H) : Gr F H F H := ⟨h, Same.refl _, Same.refl _, fun _ z => .inl z⟩
theorem same_upd {p : Addr} {o : HO} (h : H p = Option.none) : Same H (upd H p o) := fun b u q => by rw [upd_ne (ne_of_none q h)]; exact q
theorem same_upd2 {p : Addr} {o : HO} (h : Same F H) : Same (upd F p o) (upd H p o) := fun b u q => by
  by_cases e : b = p
  · subst e; rw [upd_same] at q ⊢; exact q
  · rw [upd_ne e] at q ⊢; exact h b u q
/-- a new thing that is shared from the first -/
theorem Gr.new {p : Addr} {o : HO} (h : Same F H) (hp : H p = Option.none) : Gr F H (upd F p o) (upd H p o) :=
  ⟨same_upd2 h, same_upd hp, same_upd (h.free hp), fun b z => by
    by_cases e : b = p
    · subst e; exact .inr hp
    · rw [upd_ne e] at z; exact .inl z⟩
/-- a new thing that is owned -/
theorem Gr.newO {p : Addr} {o : HO} (h : Same F H) (hp : H p = Option.none) : Gr F H F (upd H p o) :=
  ⟨h.trans (same_upd hp), same_upd hp, Same.refl _, fun _ z => .inl z⟩
theorem Gr.trans {F1 H1 F2 H2 : Hp} (a : Gr F H F1 H1) (b : Gr F1 H1 F2 H2) : Gr F H F2 H2 :=
  ⟨b.le, a.hh.trans b.hh, a.ff.trans b.ff, fun c z => by
    rcases b.nw c z with q | q
    · exact a.nw c q
    · exact .inr (a.hh.free q)⟩

/-! ### what a name owns -/
inductive MV where
  | lst (ds : List PyData)
  | dct (kvs : List (KD × PyData))
def frz : MV → PyData
  | .lst ds => .list ds
  | .dct kvs => dictD kvs
def Ow (w : World) (K : PySem.W.Frag) (F H : Hp) (a : Addr) : MV → Prop
  | .lst ds => ∃ vs, H a = some (.lst vs) ∧ Rps w K F vs ds
  | .dct kvs => ∃ o xs vs, H a = some (PinO a o) ∧ (a == sysModules) = false ∧ DRec w o xs ∧ (∀ x ∈ xs, KeyR F x.1 x.2.1) ∧ xs.map (·.1) = kvs.map (·.1) ∧ Vals vs (xs.map (·.2.2)) ∧ Rps w K F vs (kvs.map (·.2))
theorem Ow.ofL {a : Addr} {vs : List V} {ds : List PyData} (h : H a = some (.lst vs)) (r : Rps w K F vs ds) : Ow w K F H a (.lst ds) := ⟨vs, h, r⟩
theorem Ow.there {a : Addr} {m : MV} (h : Ow w K F H a m) : ∃ o, H a = some o := by
  cases m with
  | lst ds => obtain ⟨vs, e, _⟩ := h; exact ⟨_, e⟩
  | dct kvs => obtain ⟨o, xs, vs, e, _⟩ := h; exact ⟨_, e⟩
theorem Ow.grow {a : Addr} {m : MV} (h : Ow w K F H a m) (f : Same F F') (g : Same H H') : Ow w K F' H' a m := by
  cases m with
  | lst ds => obtain ⟨vs, e, r⟩ := h; exact ⟨vs, g _ _ e, r.mono f⟩
  | dct kvs => obtain ⟨o, xs, vs, e, y, q, k, z, u, r⟩ := h; exact ⟨o, xs, vs, g _ _ e, y, q, fun x hx => (k x hx).mono f, z, u, r.mono f⟩
/-- another owned thing has changed -/
theorem Ow.elsewhere {a b : Addr} {o : HO} {m : MV} (h : Ow w K F H a m) (ne : a ≠ b) : Ow w K F (upd H b o) a m := by
  cases m with
  | lst ds => obtain ⟨vs, e, r⟩ := h; exact ⟨vs, by rw [upd_ne ne]; exact e, r⟩
  | dct kvs => obtain ⟨o, xs, vs, e, r⟩ := h; exact ⟨o, xs, vs, by rw [upd_ne ne]; exact e, r⟩
theorem Ow.frz {a : Addr} {m : MV} {o : HO} (h : Ow w K F H a m) (ha : H a = some o) (hf : F a = Option.none) : Rp w K (upd F a o) (.ref a) (frz m) := by
  cases m with
  | lst ds =>
    obtain ⟨vs, e, r⟩ := h
    rw [e] at ha; cases ha
    exact .lst (SqL.of upd_same) (r.mono (same_upd hf))
  | dct kvs =>
    obtain ⟨o, xs, vs, e, y, q, k, z, u, r⟩ := h
    rw [e] at ha; cases ha
    exact .dct upd_same y q (fun x hx => (k x hx).mono (same_upd hf)) z u (r.mono (same_upd hf))

inductive Sl where
  | unk | val (d : PyData) | own (m : MV) | exc (C : Addr)
abbrev Ev := List Sl
/-- the base: what stands of the entry -/
structure RB (H₀ F₀ F H : Hp) : Prop where
  le : Same F H
  k0 : Same H₀ H
  f0 : Same F₀ F
  nw : ∀ b, F b ≠ Option.none → F₀ b ≠ Option.none ∨ H₀ b = Option.none
structure RS (w : World) (K : PySem.W.Frag) (H₀ F₀ F : Hp) (ev : Ev) (σ : St) (H : Hp) : Prop extends RB H₀ F₀ F H where
  len : ev.length = σ.length
  val : ∀ (i : Nat) (d : PyData), ev[i]? = some (.val d) → ∃ v, σ[i]? = some (some v) ∧ Rp w K F v d
  own : ∀ (i : Nat) (m : MV), ev[i]? = some (.own m) → ∃ a, σ[i]? = some (some (.ref a)) ∧ Ow w K F H a m ∧ F a = Option.none ∧ H₀ a = Option.none
  uni : ∀ (i j : Nat) (m m' : MV) (a : Addr), ev[i]? = some (.own m) → ev[j]? = some (.own m') → σ[i]? = some (some (.ref a)) → σ[j]? = some (some (.ref a)) → i = j
  exc : ∀ (i : Nat) (C : Addr), ev[i]? = some (.exc C) → ∃ ea, σ[i]? = some (some (.ref ea)) ∧ F ea = some (ExcO ea (.ref C))
end
section
variable {w : World} {K : PySem.W.Frag} {F F' H H' H₀ F₀ : Hp} {ev : Ev} {σ : St}
theorem RB.grow (R : RB H₀ F₀ F H) (g : Gr F H F' H') : RB H₀ F₀ F' H' :=
  ⟨g.le, R.k0.trans g.hh, R.f0.trans g.ff, fun b z => by
    rcases g.nw b z with q | q
    · exact R.nw b q
    · exact .inr (R.k0.free q)⟩
theorem RS.grow (R : RS w K H₀ F₀ F ev σ H) (g : Gr F H F' H') : RS w K H₀ F₀ F' ev σ H' where
  toRB := R.toRB.grow g
  len := R.len
  val := fun i d e => by
    obtain ⟨v, h1, h2⟩ := R.val i d e
    exact ⟨v, h1, h2.mono g.ff⟩
  own := fun i m e => by
    obtain ⟨a, h1, h2, h3, h4⟩ := R.own i m e
    refine ⟨a, h1, h2.grow g.ff g.hh, ?_, h4⟩
    cases q : F' a with
    | none => rfl
    | some o =>
      obtain ⟨u, hu⟩ := h2.there
      rcases g.nw a (by rw [q]; intro z; cases z) with z | z
      · exact absurd h3 z
      · rw [hu] at z; cases z
  uni := R.uni
  exc := fun i C e => by
    obtain ⟨ea, h1, h2⟩ := R.exc i C e
    exact ⟨ea, h1, g.ff _ _ h2⟩
/-- from here on counted anew -/
theorem RS.rebase (R : RS w K H₀ F₀ F ev σ H) : RS w K H₀ F F ev σ H :=
  ⟨⟨R.le, R.k0, Same.refl _, fun _ z => .inl z⟩, R.len, R.val, R.own, R.uni, R.exc⟩
theorem RB.unbase {F1 H1 : Hp} (R : RB H₀ F₀ F H) (R' : RB H₀ F F1 H1) : RB H₀ F₀ F1 H1 :=
  ⟨R'.le, R'.k0, R.f0.trans R'.f0, fun b z => by
    rcases R'.nw b z with q | q
    · exact R.nw b q
    · exact .inr q⟩
theorem RS.unbase {F1 H1 : Hp} {ev1 : Ev} {σ1 : St} (R : RB H₀ F₀ F H) (R' : RS w K H₀ F F1 ev1 σ1 H1) : RS w K H₀ F₀ F1 ev1 σ1 H1 :=
  ⟨R.unbase R'.toRB, R'.len, R'.val, R'.own, R'.uni, R'.exc⟩
theorem get_set {α : Type} {l : List α} {i j : Nat} {x y : α} (h : (l.set i x)[j]? = some y) : (j = i ∧ x = y ∧ i < l.length) ∨ (j ≠ i ∧ l[j]? = some y) := by
  by_cases e : i = j
  · subst e
    rw [List.getElem?_set_self'] at h
    cases q : l[i]? with
    | none => rw [q] at h; cases h
    | some z =>
      rw [q] at h
      exact .inl ⟨rfl, Option.some.inj h, (List.getElem?_eq_some_iff.mp q).1⟩
  · rw [List.getElem?_set_ne e] at h
    exact .inr ⟨fun z => e z.symm, h⟩
theorem set_get {α : Type} {l : List α} {i : Nat} {x : α} (h : i < l.length) : (l.set i x)[i]? = some x := by
  rw [List.getElem?_set_self h]
/-- a name is bound to a shared value -/
theorem RS.setV (R : RS w K H₀ F₀ F ev σ H) {v : V} {d : PyData} (r : Rp w K F v d) (i : Nat) : RS w K H₀ F₀ F (ev.set i (.val d)) (σ.set i (some v)) H where
  toRB := R.toRB
  len := by rw [List.length_set, List.length_set]; exact R.len
  val := fun j d' e => by
    rcases get_set e with ⟨rfl, h1, h2⟩ | ⟨h1, h2⟩
    · cases h1
      exact ⟨v, set_get (by rw [← R.len]; exact h2), r⟩
    · obtain ⟨u, q1, q2⟩ := R.val j d' h2
      exact ⟨u, by rw [List.getElem?_set_ne (fun z => h1 z.symm)]; exact q1, q2⟩
  own := fun j m e => by
    rcases get_set e with ⟨rfl, h1, h2⟩ | ⟨h1, h2⟩
    · cases h1
    · obtain ⟨a, q1, q2⟩ := R.own j m h2
      exact ⟨a, by rw [List.getElem?_set_ne (fun z => h1 z.symm)]; exact q1, q2⟩
  uni := fun j k m m' a e1 e2 e3 e4 => by
    rcases get_set e1 with ⟨rfl, h1, _⟩ | ⟨h1, h2⟩
    · cases h1
    rcases get_set e2 with ⟨rfl, h3, _⟩ | ⟨h3, h4⟩
    · cases h3
    rw [List.getElem?_set_ne (fun z => h1 z.symm)] at e3
    rw [List.getElem?_set_ne (fun z => h3 z.symm)] at e4
    exact R.uni j k m m' a h2 h4 e3 e4
  exc := fun j C e => by
    rcases get_set e with ⟨rfl, h1, h2⟩ | ⟨h1, h2⟩
    · cases h1
    · obtain ⟨ea, q1, q2⟩ := R.exc j C h2
      exact ⟨ea, by rw [List.getElem?_set_ne (fun z => h1 z.symm)]; exact q1, q2⟩
/-- a name is bound to a thing that nothing else holds -/
theorem RS.setO (R : RS w K H₀ F₀ F ev σ H) {a : Addr} {m : MV} (r : Ow w K F H a m) (hf : F a = Option.none) (h0 : H₀ a = Option.none) (hu : ∀ (j : Nat) (m' : MV), ev[j]? = some (.own m') → σ[j]? ≠ some (some (.ref a))) (i : Nat) :
    RS w K H₀ F₀ F (ev.set i (.own m)) (σ.set i (some (.ref a))) H where
  toRB := R.toRB
  len := by rw [List.length_set, List.length_set]; exact R.len
  val := fun j d' e => by
    rcases get_set e with ⟨rfl, h1, h2⟩ | ⟨h1, h2⟩
    · cases h1
    · obtain ⟨u, q1, q2⟩ := R.val j d' h2
      exact ⟨u, by rw [List.getElem?_set_ne (fun z => h1 z.symm)]; exact q1, q2⟩
  own := fun j m' e => by
    rcases get_set e with ⟨rfl, h1, h2⟩ | ⟨h1, h2⟩
    · cases h1
      exact ⟨a, set_get (by rw [← R.len]; exact h2), r, hf, h0⟩
    · obtain ⟨a', q1, q2⟩ := R.own j m' h2
      exact ⟨a', by rw [List.getElem?_set_ne (fun z => h1 z.symm)]; exact q1, q2⟩
  uni := fun j k m1 m2 b e1 e2 e3 e4 => by
    rcases get_set e1 with ⟨rfl, _, l1⟩ | ⟨h1, h2⟩
    · rcases get_set e2 with ⟨rfl, _, _⟩ | ⟨h3, h4⟩
      · rfl
      · rw [set_get (by rw [← R.len]; exact l1)] at e3
        cases e3
        rw [List.getElem?_set_ne (fun z => h3 z.symm)] at e4
        exact absurd e4 (hu k _ h4)
    · rw [List.getElem?_set_ne (fun z => h1 z.symm)] at e3
      rcases get_set e2 with ⟨rfl, _, l1⟩ | ⟨h3, h4⟩
      · rw [set_get (by rw [← R.len]; exact l1)] at e4
        cases e4
        exact absurd e3 (hu j _ h2)
      · rw [List.getElem?_set_ne (fun z => h3 z.symm)] at e4
        exact R.uni j k m1 m2 b h2 h4 e3 e4
  exc := fun j C e => by
    rcases get_set e with ⟨rfl, h1, h2⟩ | ⟨h1, h2⟩
    · cases h1
    · obtain ⟨ea, q1, q2⟩ := R.exc j C h2
      exact ⟨ea, by rw [List.getElem?_set_ne (fun z => h1 z.symm)]; exact q1, q2⟩
/-- what a name owns has changed -/
theorem RS.change (R : RS w K H₀ F₀ F ev σ H) {a : Addr} {i : Nat} {m m' : MV} {o : HO} (hi : ev[i]? = some (.own m)) (hs : σ[i]? = some (some (.ref a))) (r : Ow w K F (upd H a o) a m') : RS w K H₀ F₀ F (ev.set i (.own m')) σ (upd H a o) := by
  obtain ⟨a', q1, q2, hf, h0⟩ := R.own i m hi
  rw [hs] at q1; cases q1
  have hl : i < ev.length := (List.getElem?_eq_some_iff.mp hi).1
  refine ⟨⟨fun b u q => ?_, fun b u q => ?_, R.f0, R.nw⟩, by rw [List.length_set]; exact R.len, fun j d' e => ?_, fun j m1 e => ?_, fun j k m1 m2 b e1 e2 e3 e4 => ?_, fun j C e => ?_⟩
  · rw [upd_ne (ne_of_none q hf)]; exact R.le b u q
  · rw [upd_ne (ne_of_none q h0)]; exact R.k0 b u q
  · rcases get_set e with ⟨rfl, h1, h2⟩ | ⟨h1, h2⟩
    · cases h1
    · exact R.val j d' h2
  · rcases get_set e with ⟨rfl, h1, h2⟩ | ⟨h1, h2⟩
    · cases h1
      exact ⟨a, hs, r, hf, h0⟩
    · obtain ⟨b, q3, q4, q5, q6⟩ := R.own j m1 h2
      refine ⟨b, q3, q4.elsewhere ?_, q5, q6⟩
      rintro rfl
      exact h1 (R.uni j i _ _ _ h2 hi q3 hs)
  · have back : ∀ (n : Nat) (mm : MV), (ev.set i (.own m'))[n]? = some (.own mm) → ∃ mm', ev[n]? = some (.own mm') := fun n mm z => by
      rcases get_set z with ⟨rfl, _, _⟩ | ⟨_, h⟩
      · exact ⟨m, hi⟩
      · exact ⟨mm, h⟩
    obtain ⟨x1, y1⟩ := back j m1 e1
    obtain ⟨x2, y2⟩ := back k m2 e2
    exact R.uni j k x1 x2 b y1 y2 e3 e4
  · rcases get_set e with ⟨rfl, h1, h2⟩ | ⟨h1, h2⟩
    · cases h1
    · exact R.exc j C h2
/-- what a name owns is shared from here on -/
theorem RS.freeze (R : RS w K H₀ F₀ F ev σ H) {a : Addr} {i : Nat} {m : MV} {o : HO} (hi : ev[i]? = some (.own m)) (hs : σ[i]? = some (some (.ref a))) (ho : H a = some o) :
    RS w K H₀ F₀ (upd F a o) (ev.set i (.val (frz m))) σ H ∧ Rp w K (upd F a o) (.ref a) (frz m) ∧ Same F (upd F a o) := by
  obtain ⟨a', q1, q2, hf, h0⟩ := R.own i m hi
  rw [hs] at q1; cases q1
  have hl : i < ev.length := (List.getElem?_eq_some_iff.mp hi).1
  have sm : Same F (upd F a o) := same_upd hf
  have rp := q2.frz ho hf
  refine ⟨⟨⟨fun b u q => ?_, R.k0, R.f0.trans sm, fun b z => ?_⟩, by rw [List.length_set]; exact R.len, fun j d' e => ?_, fun j m1 e => ?_, fun j k m1 m2 b e1 e2 e3 e4 => ?_, fun j C e => ?_⟩, rp, sm⟩
  · by_cases e : b = a
    · subst e; rw [upd_same] at q; rw [ho]; exact q
    · rw [upd_ne e] at q; exact R.le b u q
  · by_cases e : b = a
    · subst e; exact .inr h0
    · rw [upd_ne e] at z; exact R.nw b z
  · rcases get_set e with ⟨rfl, h1, h2⟩ | ⟨h1, h2⟩
    · cases h1
      exact ⟨_, hs, rp⟩
    · obtain ⟨v, z1, z2⟩ := R.val j d' h2
      exact ⟨v, z1, z2.mono sm⟩
  · rcases get_set e with ⟨rfl, h1, h2⟩ | ⟨h1, h2⟩
    · cases h1
    · obtain ⟨b, q3, q4, q5, q6⟩ := R.own j m1 h2
      have ne : b ≠ a := by
        rintro rfl
        exact h1 (R.uni j i _ _ _ h2 hi q3 hs)
      exact ⟨b, q3, q4.grow sm (Same.refl _), by rw [upd_ne ne]; exact q5, q6⟩
  · rcases get_set e1 with ⟨rfl, h1, _⟩ | ⟨h1, h2⟩
    · cases h1
    rcases get_set e2 with ⟨rfl, h3, _⟩ | ⟨h3, h4⟩
    · cases h3
    exact R.uni j k m1 m2 b h2 h4 e3 e4
  · rcases get_set e with ⟨rfl, h1, h2⟩ | ⟨h1, h2⟩
    · cases h1
    · obtain ⟨ea, z1, z2⟩ := R.exc j C h2
      exact ⟨ea, z1, sm _ _ z2⟩
/-- a new thing that no name holds yet: it is nobody's own -/
theorem RS.nobody (R : RS w K H₀ F₀ F ev σ H) {p : Addr} (hp : H p = Option.none) : ∀ (j : Nat) (m' : MV), ev[j]? = some (.own m') → σ[j]? ≠ some (some (.ref p)) := fun j m' e z => by
  obtain ⟨a, q1, q2, _, _⟩ := R.own j m' e
  rw [z] at q1; cases q1
  obtain ⟨o, ho⟩ := q2.there
  rw [hp] at ho; cases ho
end

/-! ### judgements -/
abbrev TauE := Ev → (PyData → Ev → Prop) → Prop
abbrev TauA := Ev → (List PyData → Ev → Prop) → Prop
abbrev TauT := Ev → (Bool → Ev → Prop) → Prop
abbrev TauO := Ev → (MV → Ev → Prop) → Prop
def QE (X : Cx) (e : Expr) (τ : TauE) : Prop := ∃ t : TE, PE X e t ∧ ∀ (F₀ : Hp) (ev : Ev) (F : Hp) (σ : St) (H : Hp) (Q : VK) (C : PyData → Ev → Prop), RS X.w X.K X.H₀ F₀ F ev σ H → τ ev C →
  (∀ d ev' F' v H', RS X.w X.K X.H₀ F₀ F' ev' σ H' → Rp X.w X.K F' v d → Same F F' → C d ev' → Q v H') → t σ H Q
def QA (X : Cx) (es : List Expr) (τ : TauA) : Prop := ∃ t : TA, PA X es t ∧ ∀ (F₀ : Hp) (ev : Ev) (F : Hp) (σ : St) (H : Hp) (Q : List V → Hp → Prop) (C : List PyData → Ev → Prop), RS X.w X.K X.H₀ F₀ F ev σ H → τ ev C →
  (∀ d ev' F' v H', RS X.w X.K X.H₀ F₀ F' ev' σ H' → Rps X.w X.K F' v d → Same F F' → C d ev' → Q v H') → t σ H Q
def QT (X : Cx) (e : Expr) (τ : TauT) : Prop := ∃ t : TT, PT X e t ∧ ∀ (F₀ : Hp) (ev : Ev) (F : Hp) (σ : St) (H : Hp) (Q : Bool → Hp → Prop) (C : Bool → Ev → Prop), RS X.w X.K X.H₀ F₀ F ev σ H → τ ev C →
  (∀ b ev' F' H', RS X.w X.K X.H₀ F₀ F' ev' σ H' → Same F F' → C b ev' → Q b H') → t σ H Q
def QW (X : Cx) (e : Expr) (τ : TauT) : Prop := ∃ t : TT, PW X e t ∧ ∀ (F₀ : Hp) (ev : Ev) (F : Hp) (σ : St) (H : Hp) (Q : Bool → Hp → Prop) (C : Bool → Ev → Prop), RS X.w X.K X.H₀ F₀ F ev σ H → τ ev C →
  (∀ b ev' F' H', RS X.w X.K X.H₀ F₀ F' ev' σ H' → Same F F' → C b ev' → Q b H') → t σ H Q
/-- an expression whose value nothing else holds -/
def QO (X : Cx) (e : Expr) (τ : TauO) : Prop := ∃ t : TE, PE X e t ∧ ∀ (F₀ : Hp) (ev : Ev) (F : Hp) (σ : St) (H : Hp) (Q : VK) (C : MV → Ev → Prop), RS X.w X.K X.H₀ F₀ F ev σ H → τ ev C →
  (∀ m ev' F' a H', RS X.w X.K X.H₀ F₀ F' ev' σ H' → Ow X.w X.K F' H' a m → F' a = Option.none → X.H₀ a = Option.none → (∀ (j : Nat) (m' : MV), ev'[j]? = some (.own m') → σ[j]? ≠ some (some (.ref a))) → Same F F' → C m ev' → Q (.ref a) H') → t σ H Q

/-- what comes back -/
inductive Rz where
  | val (d : PyData) | own (m : MV)
def RR (w : World) (K : PySem.W.Frag) (F H₀ H : Hp) (v : V) : Rz → Prop
  | .val d => Rp w K F v d
  | .own m => ∃ a, v = .ref a ∧ Ow w K F H a m ∧ F a = Option.none ∧ H₀ a = Option.none
structure PEn where
  nx : Ev → Prop
  rt : Rz → Prop
  bk : Ev → Prop := fun _ => False
  ct : Ev → Prop := fun _ => False
structure EndOk (w : World) (K : PySem.W.Frag) (H₀ F₀ : Hp) (D : Ends) (P : PEn) : Prop where
  nx : ∀ ev F σ H, RS w K H₀ F₀ F ev σ H → P.nx ev → D.nx σ H
  rt : ∀ r F v H, RB H₀ F₀ F H → RR w K F H₀ H v r → P.rt r → D.rt v H
  bk : ∀ ev F σ H, RS w K H₀ F₀ F ev σ H → P.bk ev → D.bk σ H
  ct : ∀ ev F σ H, RS w K H₀ F₀ F ev σ H → P.ct ev → D.ct σ H
abbrev TauS := PEn → Ev → Prop
def QS (X : Cx) (st : Stmt) (τ : TauS) : Prop := ∃ t : TS, PS X st t ∧ ∀ (F₀ : Hp) (D : Ends) (P : PEn) (ev : Ev) (F : Hp) (σ : St) (H : Hp), EndOk X.w X.K X.H₀ F₀ D P → RS X.w X.K X.H₀ F₀ F ev σ H → τ P ev → t D σ H
def QSs (X : Cx) (st : List Stmt) (τ : TauS) : Prop := ∃ t : TS, PSs X st t ∧ ∀ (F₀ : Hp) (D : Ends) (P : PEn) (ev : Ev) (F : Hp) (σ : St) (H : Hp), EndOk X.w X.K X.H₀ F₀ D P → RS X.w X.K X.H₀ F₀ F ev σ H → τ P ev → t D σ H
end L2

set_option Elab.async false
set_option linter.all false
set_option maxRecDepth 100000
set_option maxHeartbeats 1000000
/-! dicts whose keys are ints, texts, and tuples of these, mixed -/
namespace L2
open PySem PySem.Spec PyProof.Rows
section
variable {P : Program} {w : World} {A : Around} {E : Value → Shared → Prop} {s : Shared}
/-- u is the key k -/
def kIs (P : Program) (w : World) (h : Heap) : KD → Value → Prop
  | .inl k, u => keyIs k u = true
  | .inr ks, u => ∃ b, u = .ref b ∧ IsTupleKey (mixKind P w) h ks b
def kDraws : KD → Nat
  | .inl _ => 1
  | .inr ks => ks.length + 1
theorem kIs.inj {h : Heap} {u : Value} : ∀ {x y : KD}, kIs P w h x u → kIs P w h y u → x = y
  | .inl a, .inl b, p, q => congrArg Sum.inl ((mixKind P w).inj u a b p q)
  | .inr a, .inr b, ⟨c, e, p⟩, ⟨c', e', q⟩ => by
    subst e
    cases e'
    exact congrArg Sum.inr (p.inj q)
  | .inl a, .inr b, p, ⟨c, e, q⟩ => by
    subst e
    rcases keyIs_shape p with ⟨_, _, _, z⟩ | ⟨_, _, _, z⟩ <;> cases z
  | .inr b, .inl a, ⟨c, e, q⟩, p => by
    subst e
    rcases keyIs_shape p with ⟨_, _, _, z⟩ | ⟨_, _, _, z⟩ <;> cases z
theorem kIs.hash {k : KD} {u : Value} {Q : Int → Shared → Prop} (hr : A.units < cLine) (hk : kIs P w s.heap k u) (q : Q (kHash w k) { s with toks := s.toks + kDraws k }) : wpAny (model P w) A (pyHash u) Q E s := by
  cases k with
  | inl k => exact (mixKind P w).pyHash (k := k) hk q
  | inr ks =>
    obtain ⟨b, rfl, hb⟩ := hk
    exact wpAny_pyHash_tuple hr hb q
theorem dec_inl (a b : Key) : decide ((Sum.inl a : KD) = Sum.inl b) = decide (a = b) := decide_eq_decide.mpr ⟨Sum.inl.inj, congrArg _⟩
theorem dec_inr (a b : List Key) : decide ((Sum.inr a : KD) = Sum.inr b) = decide (a = b) := decide_eq_decide.mpr ⟨Sum.inr.inj, congrArg _⟩
theorem tupOf {h : Heap} {ks : List Key} {b : Addr} (t : IsTupleKey (mixKind P w) h ks b) : ∃ its, h.IsTuple b its := by
  obtain ⟨o, its, n, e1, e2, e3, _⟩ := t
  exact ⟨its, o, e1, e2, n, e3⟩
theorem kIs.eq {x y : KD} {u v : Value} {Q : Bool → Shared → Prop} (hr : A.units < cLine) (hx : kIs P w s.heap x u) (hy : kIs P w s.heap y v) (q : Q (decide (x = y)) s) : wpAny (model P w) A (eqBool u v) Q E s := by
  cases x with
  | inl a =>
    cases y with
    | inl b => rw [dec_inl] at q; exact (mixKind P w).eqBool (a := a) (b := b) hx hy q
    | inr ks =>
      rw [decide_eq_false (fun z => nomatch z)] at q
      obtain ⟨b, rfl, hb⟩ := hy
      obtain ⟨its, ht⟩ := tupOf hb
      rcases keyIs_shape hx with ⟨i, t, _, rfl⟩ | ⟨x, t, _, rfl⟩
      · exact SeqAt.EqAt.int_tuple i t ht hr _ _ _ _ q
      · exact SeqAt.EqAt.str_tuple x t ht hr _ _ _ _ q
  | inr ks =>
    obtain ⟨b, rfl, hb⟩ := hx
    cases y with
    | inl c =>
      rw [decide_eq_false (fun z => nomatch z)] at q
      obtain ⟨its, ht⟩ := tupOf hb
      rcases keyIs_shape hy with ⟨i, t, _, rfl⟩ | ⟨x, t, _, rfl⟩
      · exact SeqAt.EqAt.tuple_int i t ht hr _ _ _ _ q
      · exact SeqAt.EqAt.tuple_str x t ht hr _ _ _ _ q
    | inr js =>
      obtain ⟨c, rfl, hc⟩ := hy
      rw [dec_inr] at q
      exact wpAny_eqBool_tuple hr hb hc q
theorem kIs.quiet {k : KD} {u : Value} {Q : Bool → Shared → Prop} (hk : kIs P w s.heap k u) (q : Q true s) : wpAny (model P w) A (eqIsQuiet 8 u) Q E s := by
  cases k with
  | inl k =>
    rw [eqIsQuiet_byValue _ ((mixKind P w).byValue k u hk)]
    exact wpAny_pure q
  | inr ks =>
    obtain ⟨b, rfl, hb⟩ := hk
    exact wpAny_eqIsQuiet_tuple hb q
theorem tells_not {u : Value} {k : KD} {stored : List Value} {Q : Bool → Shared → Prop} (hk : kIs P w s.heap k u) (hs : ∀ v ∈ stored, ∃ k', kIs P w s.heap k' v) (q : Q false s) : wpAny (model P w) A (tableMayTell u stored) Q E s := by
  unfold tableMayTell
  split
  · exact wpAny_pure q
  refine wpAny_bind (hk.quiet ?_)
  rw [if_neg (by decide)]
  refine wpAny_bind (wpAny_forIn_list _ (fun rest r s' => s' = s ∧ r = (none, ()) ∧ ∀ v ∈ rest, ∃ k', kIs P w s.heap k' v) _ ?_ ?_ _ _ ⟨rfl, rfl, hs⟩)
  · rintro x rest r s' ⟨rfl, rfl, hr⟩
    obtain ⟨k', hb⟩ := hr x List.mem_cons_self
    refine wpAny_bind (hb.quiet ?_)
    rw [if_neg (by decide)]
    exact wpAny_pure ⟨rfl, rfl, fun v hv => hr v (List.mem_cons_of_mem _ hv)⟩
  · rintro r s' ⟨rfl, rfl, _⟩
    exact wpAny_pure q
/-- where the key stands -/
def ixK (xs : List DX) (k : KD) : Option Nat := xs.findIdx? fun x => decide (x.1 = k)
theorem ixK_some {xs : List DX} {k : KD} {j : Nat} (h : ixK xs k = some j) : ∃ p, xs[j]? = some (k, p) := by
  obtain ⟨hj, h1, _⟩ := List.findIdx?_eq_some_iff_getElem.mp h
  exact ⟨(xs[j]).2, by rw [List.getElem?_eq_getElem hj, ← of_decide_eq_true h1]⟩
theorem ixK_none {xs : List DX} {k : KD} (h : ixK xs k = none) : ∀ (j : Nat) (p : Value × Value), xs[j]? ≠ some (k, p) := fun j p e => by
  have := List.findIdx?_eq_none_iff.mp h _ (List.mem_of_getElem? e)
  simp at this
theorem ixK_uni {xs : List DX} (hn : (xs.map (·.1)).Nodup) {k : KD} {j i : Nat} {p q : Value × Value} (hj : xs[j]? = some (k, p)) (hi : xs[i]? = some (k, q)) : j = i := by
  have a : (xs.map (·.1))[j]? = some k := by rw [List.getElem?_map, hj]; rfl
  have b : (xs.map (·.1))[i]? = some k := by rw [List.getElem?_map, hi]; rfl
  exact (List.getElem?_inj (List.getElem?_eq_some_iff.mp a).1 hn).mp (a.trans b.symm)
theorem ixK_of {xs : List DX} (hn : (xs.map (·.1)).Nodup) {k : KD} {j : Nat} {p : Value × Value} (hj : xs[j]? = some (k, p)) : ixK xs k = some j := by
  cases e : ixK xs k with
  | none => exact absurd hj (ixK_none e j p)
  | some i =>
    obtain ⟨q, hi⟩ := ixK_some e
    rw [ixK_uni hn hj hi]
theorem ixK_no {xs : List DX} {k : KD} (h : ∀ (j : Nat) (p : Value × Value), xs[j]? ≠ some (k, p)) : ixK xs k = none := by
  cases e : ixK xs k with
  | none => rfl
  | some i =>
    obtain ⟨q, hi⟩ := ixK_some e
    exact absurd hi (h i q)
/-- the search -/
theorem find_k {d : Addr} {o : Obj} {es : Array DictEntry} {ep : Nat} {xs : List DX} {k : KD} {u : Value} {Q : Option Nat → Shared → Prop} (hr : A.units < cLine) (hk : kIs P w s.heap k u) (go : s.heap.get? d = some o) (gd : o.data = .dict es ep)
    (ge : es.toList = xs.map (entX w)) (gk : ∀ x ∈ xs, kIs P w s.heap x.1 x.2.1) (gn : (xs.map (·.1)).Nodup) (q : Q (ixK xs k) s) : wpAny (model P w) A (dictFind d u (kHash w k)) Q E s := by
  have gs : es.size = xs.length := by rw [← Array.length_toList, ge, List.length_map]
  have gat : ∀ j : Nat, es[j]? = (xs[j]?).map (entX w) := fun j => by rw [← Array.getElem?_toList, ge, List.getElem?_map]
  have gm : ∀ e ∈ es, ∃ x ∈ xs, e = entX w x := fun e he => by
    have z : e ∈ xs.map (entX w) := ge ▸ Array.mem_toList_iff.mpr he
    obtain ⟨x, hx, rfl⟩ := List.mem_map.mp z
    exact ⟨x, hx, rfl⟩
  have ghas : ∀ (j : Nat) (p : Value × Value), xs[j]? = some (k, p) → ((es[j]?.map (·.hash)) == some (kHash w k)) = true := fun j p hj => by
    rw [gat j, hj]
    simp [entX]
  have gst : ∀ v ∈ (placesWithHash es.size (fun i => es[i]?.map (·.hash)) (kHash w k)).filterMap (fun i => es[i]?.map (·.key)), ∃ k', kIs P w s.heap k' v := fun v hv => by
    obtain ⟨i, _, hi⟩ := List.mem_filterMap.mp hv
    cases hei : es[i]? with
    | none => rw [hei] at hi; cases hi
    | some e =>
      rw [hei] at hi
      cases hi
      obtain ⟨x, hx, rfl⟩ := gm e (Array.mem_of_getElem? hei)
      exact ⟨x.1, gk x hx⟩
  have gany : ¬ (es.any fun e => e.key == u && e.hash != kHash w k) = true := by
    rw [← Array.any_toList, List.any_eq_true]
    rintro ⟨e, he, hc⟩
    obtain ⟨x, hx, rfl⟩ := gm e (Array.mem_toList_iff.mp he)
    simp only [entX, Bool.and_eq_true, beq_iff_eq, bne_iff_ne, ne_eq] at hc
    obtain ⟨z1, z2⟩ := hc
    have z3 := gk x hx
    rw [z1] at z3
    exact z2 (by rw [z3.inj hk])
  -- no later place can be hit once all places are seen
  have gout : ∀ (i : Nat), (List.range' i (es.size - i)).filter (fun i => (es[i]?.map (·.hash)) == some (kHash w k)) = [] → (∀ (j : Nat) (p : Value × Value), j < i → xs[j]? ≠ some (k, p)) → ixK xs k = none := fun i hf hno => by
    refine ixK_no fun j p hj => ?_
    rcases Nat.lt_or_ge j i with z | z
    · exact hno j p z hj
    have hjl : j < es.size := by
      rw [gs]
      rcases Nat.lt_or_ge j xs.length with y | y
      · exact y
      · rw [List.getElem?_eq_none y] at hj; cases hj
    exact List.filter_eq_nil_iff.mp hf j (List.mem_range'_1.mpr ⟨z, by omega⟩) (ghas j p hj)
  have gstep : ∀ (i x : Nat) (rest : List Nat), (List.range' i (es.size - i)).filter (fun i => (es[i]?.map (·.hash)) == some (kHash w k)) = x :: rest → x < es.size ∧ i ≤ x ∧ rest = (List.range' (x + 1) (es.size - (x + 1))).filter (fun i => (es[i]?.map (·.hash)) == some (kHash w k)) ∧
      ((∀ (j : Nat) (p : Value × Value), j < i → xs[j]? ≠ some (k, p)) → ∀ (j : Nat) (p : Value × Value), j < x → xs[j]? ≠ some (k, p)) := fun i x rest hf => by
    obtain ⟨y1, y2, y3, y4, y5⟩ := filter_range'_cons _ _ _ _ _ hf
    have hlt : x < es.size := by omega
    refine ⟨hlt, y1, by rw [y5]; congr 2; omega, fun hno j p hjx hj => ?_⟩
    rcases Nat.lt_or_ge j i with z | z
    · exact hno j p z hj
    have := y4 j z hjx
    rw [ghas j p hj] at this
    cases this
  have main : ∀ (tl : Bool), tl = false → wpAny (model P w) A (do
      if tl && ((placesWithHash es.size (fun i => es[i]?.map (·.hash)) (kHash w k)).filterMap fun i => es[i]?.map (·.key)).length ≥ 2 then unsupported "dict.find:order-among-keys-of-one-hash"
      let mut hit : Option Nat := none
      for i in placesWithHash es.size (fun i => es[i]?.map (·.hash)) (kHash w k) do
        if let some e := es[i]? then
          if e.hash == kHash w k then
            let before ← dictEpoch d (keyPart u)
            let same ← eqBool e.key u
            if (← dictEpoch d (keyPart u)) != before then unsupported "dict.changed-during-lookup"
            if same then
              if hit.isSome then unsupported "dict.find:order-among-keys-of-one-hash"
              rule "dict.find.hit"
              if ((placesWithHash es.size (fun i => es[i]?.map (·.hash)) (kHash w k)).filterMap fun i => es[i]?.map (·.key)).length < 2 then return some i
              hit := some i
            else
              rule "dict.find.same-hash-other-key"
              if tl && !(0 ≤ kHash w k && kHash w k < 32) then unsupported "dict.find:asked-again-or-not-hangs-on-the-table"
      return hit) Q E s := by
    rintro _ rfl
    rw [if_neg (by simp)]
    refine wpAny_bind (wpAny_forIn_list _
      (fun rest b s' => s' = s ∧ ∃ i hit, b = (none, hit) ∧ rest = (List.range' i (es.size - i)).filter (fun i => (es[i]?.map (·.hash)) == some (kHash w k)) ∧ i ≤ es.size ∧
        ((hit = none ∧ ∀ (j : Nat) (p : Value × Value), j < i → xs[j]? ≠ some (k, p)) ∨ ∃ j p, hit = some j ∧ j < i ∧ xs[j]? = some (k, p))) _ ?_ ?_ _ _
      ⟨rfl, 0, none, rfl, by rw [placesWithHash, List.range_eq_range', Nat.sub_zero], Nat.zero_le _, .inl ⟨rfl, fun _ _ z => absurd z (Nat.not_lt_zero _)⟩⟩)
    · rintro x rest b s' ⟨rfl, i, hit, rfl, hf, hi, hH⟩
      obtain ⟨hlt, hix, hrest, hskip⟩ := gstep i x rest hf.symm
      obtain ⟨⟨k', u', v'⟩, hkv⟩ : ∃ y, xs[x]? = some y := ⟨xs[x]'(by rw [← gs]; exact hlt), List.getElem?_eq_getElem _⟩
      have hib : kIs P w s'.heap k' u' := gk _ (List.mem_of_getElem? hkv)
      have hex : es[x]? = some ⟨kHash w k', u', v'⟩ := by rw [gat x, hkv]; rfl
      have hHx : (hit = none ∧ ∀ (j : Nat) (p : Value × Value), j < x → xs[j]? ≠ some (k, p)) ∨ ∃ j p, hit = some j ∧ j < x ∧ xs[j]? = some (k, p) := by
        rcases hH with ⟨z, hno⟩ | ⟨j, p, z1, z2, z3⟩
        · exact .inl ⟨z, hskip hno⟩
        · exact .inr ⟨j, p, z1, by omega, z3⟩
      have hstay : ¬ k' = k → ((hit = none ∧ ∀ (j : Nat) (p : Value × Value), j < x + 1 → xs[j]? ≠ some (k, p)) ∨ ∃ j p, hit = some j ∧ j < x + 1 ∧ xs[j]? = some (k, p)) := fun hne => by
        rcases hHx with ⟨z, hno⟩ | ⟨j, p, z1, z2, z3⟩
        · refine .inl ⟨z, fun j p hjx hj => ?_⟩
          rcases Nat.lt_or_ge j x with y | y
          · exact hno j p y hj
          · have ejx : j = x := by omega
            subst ejx
            rw [hkv] at hj
            cases hj
            exact hne rfl
        · exact .inr ⟨j, p, z1, by omega, z3⟩
      rw [hex]
      dsimp only
      by_cases hh : (kHash w k' == kHash w k) = true
      · rw [if_pos hh]
        refine wpAny_bind (wpAny_dictEpoch go gd (wpAny_bind (kIs.eq hr hib hk (wpAny_bind (wpAny_dictEpoch go gd ?_)))))
        rw [if_neg (by simp)]
        by_cases hkk : k' = k
        · rw [decide_eq_true hkk]
          subst hkk
          rcases hHx with ⟨rfl, _⟩ | ⟨j, p, _, hjx, hj⟩
          · first | rw [if_pos rfl] | skip
            simp only [Option.isSome_none, Bool.false_eq_true, if_false]
            first | refine wpAny_bind (wpAny_pure ?_) | skip
            refine wpAny_bind (wpAny_rule ?_)
            split
            · refine wpAny_pure (wpAny_pure ?_)
              rw [ixK_of gn hkv] at q
              exact q
            · exact wpAny_pure ⟨rfl, x + 1, some x, rfl, hrest, hlt, .inr ⟨x, _, rfl, Nat.lt_succ_self x, hkv⟩⟩
          · exact absurd (ixK_uni gn hj hkv) (by omega)
        · rw [decide_eq_false hkk]
          simp only [Bool.false_eq_true, if_false]
          refine wpAny_bind (wpAny_rule ?_)
          first | rw [if_neg (by simp)] | skip
          first
            | exact wpAny_pure ⟨rfl, x + 1, hit, rfl, hrest, hlt, hstay hkk⟩
            | exact wpAny_bind (wpAny_pure (wpAny_pure ⟨rfl, x + 1, hit, rfl, hrest, hlt, hstay hkk⟩))
      · rw [if_neg hh]
        refine wpAny_pure ⟨rfl, x + 1, hit, rfl, hrest, hlt, hstay fun hkk => ?_⟩
        rw [hkk] at hh
        simp at hh
    · rintro b s' ⟨rfl, i, hit, rfl, hf, hi, hH⟩
      rcases hH with ⟨rfl, hno⟩ | ⟨j, p, rfl, _, hj⟩
      · rw [gout i hf.symm hno] at q
        exact wpAny_pure q
      · rw [ixK_of gn hj] at q
        exact wpAny_pure q
  have plain : wpAny (model P w) A (dictWalkPlain d u (kHash w k) es (placesWithHash es.size (fun i => es[i]?.map (·.hash)) (kHash w k))) Q E s := by
    refine wpAny_bind (wpAny_forIn_list _
      (fun rest b s' => s' = s ∧ b = (none, ()) ∧ ∃ i, rest = (List.range' i (es.size - i)).filter (fun i => (es[i]?.map (·.hash)) == some (kHash w k)) ∧ i ≤ es.size ∧ ∀ (j : Nat) (p : Value × Value), j < i → xs[j]? ≠ some (k, p)) _ ?_ ?_ _ _
      ⟨rfl, rfl, 0, by rw [placesWithHash, List.range_eq_range', Nat.sub_zero], Nat.zero_le _, fun _ _ z => absurd z (Nat.not_lt_zero _)⟩)
    · rintro x rest b s' ⟨rfl, rfl, i, hf, hi, hno⟩
      obtain ⟨hlt, hix, hrest, hskip⟩ := gstep i x rest hf.symm
      obtain ⟨⟨k', u', v'⟩, hkv⟩ : ∃ y, xs[x]? = some y := ⟨xs[x]'(by rw [← gs]; exact hlt), List.getElem?_eq_getElem _⟩
      have hib : kIs P w s'.heap k' u' := gk _ (List.mem_of_getElem? hkv)
      have hex : es[x]? = some ⟨kHash w k', u', v'⟩ := by rw [gat x, hkv]; rfl
      have hstay : ¬ k' = k → ∀ (j : Nat) (p : Value × Value), j < x + 1 → xs[j]? ≠ some (k, p) := fun hne j p hjx hj => by
        rcases Nat.lt_or_ge j x with y | y
        · exact hskip hno j p y hj
        · have ejx : j = x := by omega
          subst ejx
          rw [hkv] at hj
          cases hj
          exact hne rfl
      simp only [hex]
      by_cases hh : (kHash w k' == kHash w k) = true
      · rw [if_pos hh]
        refine wpAny_bind (wpAny_dictEpoch go gd (wpAny_bind (kIs.eq hr hib hk (wpAny_bind (wpAny_dictEpoch go gd ?_)))))
        rw [if_neg (by simp)]
        by_cases hkk : k' = k
        · rw [decide_eq_true hkk]
          subst hkk
          rw [ixK_of gn hkv] at q
          exact wpAny_bind (wpAny_rule (wpAny_pure (wpAny_pure q)))
        · rw [decide_eq_false hkk]
          exact wpAny_bind (wpAny_rule (wpAny_pure ⟨rfl, rfl, x + 1, hrest, hlt, hstay hkk⟩))
      · rw [if_neg hh]
        refine wpAny_pure ⟨rfl, rfl, x + 1, hrest, hlt, hstay fun hkk => ?_⟩
        rw [hkk] at hh
        simp at hh
    · rintro b s' ⟨rfl, rfl, i, hf, hi, hno⟩
      rw [gout i hf.symm hno] at q
      exact wpAny_pure q
  by_cases hall : (∃ k0, k = .inl k0) ∧ ∀ x ∈ xs, ∃ k', x.1 = Sum.inl k'
  · obtain ⟨⟨k0, rfl⟩, hx⟩ := hall
    refine wpAny_dictFind_of (knd := mixKind P w) (k := k0) hk go gd (fun e he => ?_) ?_
    · obtain ⟨x, h1, rfl⟩ := gm e he
      obtain ⟨k', e'⟩ := hx x h1
      have z := gk x h1
      rw [e'] at z
      exact ⟨k', z, by show kHash w x.1 = _; rw [e']; rfl⟩
    · have : (es.findIdx? fun e => (mixKind P w).is k0 e.key) = ixK xs (.inl k0) := by
        cases e : ixK xs (.inl k0) with
        | none =>
          refine Array.findIdx?_eq_none_iff.mpr fun en he => ?_
          obtain ⟨x, h1, rfl⟩ := gm en he
          obtain ⟨j, hj⟩ := List.mem_iff_getElem?.mp h1
          cases z : (mixKind P w).is k0 (entX w x).key with
          | false => rfl
          | true =>
            have z2 : kIs P w s.heap (.inl k0) x.2.1 := z
            have z3 := (gk x h1).inj z2
            exact absurd (by rw [hj, ← z3]) (ixK_none e j x.2)
        | some j =>
          obtain ⟨p, hj⟩ := ixK_some e
          have hl : j < es.size := by rw [gs]; exact (List.getElem?_eq_some_iff.mp hj).1
          have hat : ∀ (i : Nat) (hi : i < es.size), ∃ x, xs[i]? = some x ∧ es[i] = entX w x := fun i hi => by
            have h1 : i < xs.length := by rw [← gs]; exact hi
            have h2 := gat i
            rw [Array.getElem?_eq_getElem hi, List.getElem?_eq_getElem h1] at h2
            exact ⟨xs[i], List.getElem?_eq_getElem h1, Option.some.inj h2⟩
          refine Array.findIdx?_eq_some_iff_getElem.mpr ⟨hl, ?_, fun i hi => ?_⟩
          · obtain ⟨x, h1, h2⟩ := hat j hl
            rw [hj] at h1
            cases h1
            rw [h2]
            exact gk _ (List.mem_of_getElem? hj)
          · obtain ⟨x, h1, h2⟩ := hat i (by omega)
            rw [h2]
            cases z : (mixKind P w).is k0 (entX w x).key with
            | false => simp
            | true =>
              have z2 : kIs P w s.heap (.inl k0) x.2.1 := z
              have z3 := (gk x (List.mem_of_getElem? h1)).inj z2
              have z4 : xs[i]? = some (.inl k0, x.2) := by rw [h1, ← z3]
              exact absurd (ixK_uni gn hj z4) (by omega)
      rw [this]
      exact q
  unfold dictFind
  try with_reducible refine wpAny_holding ?_
  refine wpAny_bind (wpAny_dictEntries go gd ?_)
  cases k with
  | inr ks =>
    obtain ⟨b, rfl, hb⟩ := id hk
    dsimp only
    rw [if_neg (by simp [carriedByValue]), if_neg gany]
    by_cases hone : (((placesWithHash es.size (fun i => es[i]?.map (·.hash)) (kHash w (Sum.inr ks))).filterMap fun i => es[i]?.map (·.key)) == [Value.ref b]) = true
    · rw [if_pos hone]
      exact wpAny_bind (wpAny_pure (main false rfl))
    · rw [if_neg hone]
      exact wpAny_bind (tells_not hk gst (main false rfl))
  | inl k0 =>
    have hno : ¬ (es.all fun e => isExactStrKey e.key) = true := fun z => by
      refine hall ⟨⟨k0, rfl⟩, fun x hx => ?_⟩
      cases hx1 : x.1 with
      | inl k' => exact ⟨k', rfl⟩
      | inr ks =>
        have z1 := gk x hx
        rw [hx1] at z1
        obtain ⟨b, e, _⟩ := z1
        have hin : entX w x ∈ es := Array.mem_toList_iff.mp (ge ▸ List.mem_map_of_mem hx)
        have z2 := Array.all_eq_true'.mp z _ hin
        rw [show (entX w x).key = x.2.1 from rfl, e] at z2
        cases z2
    rcases keyIs_shape hk with ⟨i, t, rfl, rfl⟩ | ⟨y, t, rfl, rfl⟩
    · dsimp only
      by_cases hv : ((Value.int i t :: ((placesWithHash es.size (fun i => es[i]?.map (·.hash)) (kHash w (Sum.inl (Sum.inl i)))).filterMap fun i => es[i]?.map (·.key))).all carriedByValue) = true
      · rw [if_pos hv]
        exact plain
      rw [if_neg hv]
      by_cases hone : (((placesWithHash es.size (fun i => es[i]?.map (·.hash)) (kHash w (Sum.inl (Sum.inl i)))).filterMap fun i => es[i]?.map (·.key)) == [Value.int i t]) = true
      · rw [if_pos hone]
        exact wpAny_bind (wpAny_pure (main false rfl))
      · rw [if_neg hone]
        exact wpAny_bind (tells_not hk gst (main false rfl))
    · dsimp only
      rw [if_neg hno]
      by_cases hv : ((Value.str y t :: ((placesWithHash es.size (fun i => es[i]?.map (·.hash)) (kHash w (Sum.inl (Sum.inr y)))).filterMap fun i => es[i]?.map (·.key))).all carriedByValue) = true
      · rw [if_pos hv]
        exact plain
      rw [if_neg hv]
      by_cases hone : (((placesWithHash es.size (fun i => es[i]?.map (·.hash)) (kHash w (Sum.inl (Sum.inr y)))).filterMap fun i => es[i]?.map (·.key)) == [Value.str y t]) = true
      · rw [if_pos hone]
        exact wpAny_bind (wpAny_pure (main false rfl))
      · rw [if_neg hone]
        exact wpAny_bind (tells_not hk gst (main false rfl))
end
end L2

set_option Elab.async false
set_option linter.all false
set_option maxRecDepth 100000
set_option maxHeartbeats 1000000
namespace L2
open PySem PySem.Spec PyProof.Rows
section
variable {P : Program} {w : World} {A : Around} {E : Value → Shared → Prop} {s : Shared} {d : Addr} {o : Obj} {xs : List DX} {k : KD} {u v : Value}
def valX (xs : List DX) (k : KD) : Option Value := (xs.find? fun x => decide (x.1 = k)).map (·.2.2)
theorem valX_at (hn : (xs.map (·.1)).Nodup) {j : Nat} {p : Value × Value} (hj : xs[j]? = some (k, p)) : valX xs k = some p.2 := by
  unfold valX
  cases e : xs.find? fun x => decide (x.1 = k) with
  | none => exact absurd (List.find?_eq_none.mp e _ (List.mem_of_getElem? hj)) (by simp)
  | some x =>
    have h1 := List.find?_some e
    obtain ⟨i, hi⟩ := List.mem_iff_getElem?.mp (List.mem_of_find?_eq_some e)
    have h2 : x.1 = k := of_decide_eq_true h1
    have h3 : xs[i]? = some (k, x.2) := by rw [hi, ← h2]
    cases ixK_uni hn hj h3
    rw [hj] at h3
    cases h3
    rfl
theorem valX_no (h : ixK xs k = none) : valX xs k = none := by
  unfold valX
  rw [List.find?_eq_none.mpr fun x hx => by simpa using List.findIdx?_eq_none_iff.mp h x hx]
  rfl
/-- the store -/
def putX (xs : List DX) (k : KD) (u v : Value) : List DX := match ixK xs k with
  | some j => xs.modify j fun x => (x.1, x.2.1, v)
  | none => xs ++ [(k, u, v)]
theorem get_k {Q : Option Value → Shared → Prop} (hr : A.units < cLine) (hk : kIs P w s.heap k u) (go : s.heap.get? d = some o) (R : DRec w o xs) (gk : ∀ x ∈ xs, kIs P w s.heap x.1 x.2.1)
    (q : Q (valX xs k) { s with toks := s.toks + kDraws k }) : wpAny (model P w) A (dictGet d u) Q E s := by
  obtain ⟨es, ep, gd, ge⟩ := R.es
  unfold dictGet
  try with_reducible refine wpAny_holding ?_
  refine wpAny_bind (hk.hash hr (wpAny_bind (find_k (s := { s with toks := s.toks + kDraws k }) hr hk go gd ge gk R.nd ?_)))
  cases e : ixK xs k with
  | none =>
    rw [valX_no e] at q
    exact wpAny_pure q
  | some j =>
    obtain ⟨p, hj⟩ := ixK_some e
    rw [valX_at R.nd hj] at q
    refine wpAny_bind (wpAny_dictEntries (s := { s with toks := s.toks + kDraws k }) go gd ?_)
    rw [← Array.getElem?_toList, ge, List.getElem?_map, hj]
    exact wpAny_pure q
theorem kIs.other {h h' : Heap} {es : Array DictEntry} {ep : Nat} (hk : kIs P w h k u) (go : h.get? d = some o) (gd : o.data = .dict es ep) (hs : Heap.SameBut d h h') : kIs P w h' k u := by
  cases k with
  | inl k => exact hk
  | inr ks =>
    obtain ⟨b, e, hb⟩ := hk
    exact ⟨b, e, hb.keeps go gd hs⟩
theorem mem_putX {x : DX} (h : x ∈ putX xs k u v) : (∃ y ∈ xs, x.1 = y.1 ∧ x.2.1 = y.2.1) ∨ x = (k, u, v) := by
  unfold putX at h
  split at h
  · obtain ⟨i, hi⟩ := List.mem_iff_getElem?.mp h
    rw [List.getElem?_modify] at hi
    split at hi
    · cases e : xs[i]? with
      | none => rw [e] at hi; cases hi
      | some y => rw [e] at hi; cases hi; exact .inl ⟨y, List.mem_of_getElem? e, rfl, rfl⟩
    · cases e : xs[i]? with
      | none => rw [e] at hi; cases hi
      | some y => rw [e] at hi; cases hi; exact .inl ⟨_, List.mem_of_getElem? e, rfl, rfl⟩
  · rcases List.mem_append.mp h with h | h
    · exact .inl ⟨x, h, rfl, rfl⟩
    · exact .inr (List.mem_singleton.mp h)
theorem map_modify_key (l : List DX) (j : Nat) : (l.modify j fun x => (x.1, x.2.1, v)).map (·.1) = l.map (·.1) := by
  refine List.ext_getElem? fun i => ?_
  rw [List.getElem?_map, List.getElem?_map, List.getElem?_modify]
  cases l[i]? with
  | none => rfl
  | some y => simp; split <;> rfl
theorem putX_nd (hn : (xs.map (·.1)).Nodup) : ((putX xs k u v).map (·.1)).Nodup := by
  unfold putX
  cases e : ixK xs k with
  | some j => simp only; rw [map_modify_key]; exact hn
  | none =>
    simp only
    rw [List.map_append, List.nodup_append]
    refine ⟨hn, by simp, fun a ha b hb => ?_⟩
    simp only [List.map_cons, List.map_nil, List.mem_singleton] at hb
    subst hb
    rintro rfl
    obtain ⟨x, hx, rfl⟩ := List.mem_map.mp ha
    obtain ⟨j, hj⟩ := List.mem_iff_getElem?.mp hx
    exact ixK_none e j x.2 hj
theorem putX_len : (putX xs k u v).length ≤ xs.length + 1 := by
  unfold putX
  split
  · rw [List.length_modify]; omega
  · rw [List.length_append]; exact Nat.le_refl _
theorem set_k {Q : Unit → Shared → Prop} (hr : A.units < cLine) (hk : kIs P w s.heap k u) (go : s.heap.get? d = some o) (R : DRec w o xs) (gk : ∀ x ∈ xs, kIs P w s.heap x.1 x.2.1) (hz : xs.length < sizeLine)
    (q : ∀ h' o', h'.get? d = some o' → DRec w o' (putX xs k u v) → Heap.SameBut d s.heap h' → Q () { s with heap := h', toks := s.toks + kDraws k }) : wpAny (model P w) A (dictSet d u v) Q E s := by
  obtain ⟨es, ep, gd, ge⟩ := R.es
  have gs : es.size = xs.length := by rw [← Array.length_toList, ge, List.length_map]
  unfold dictSet
  try with_reducible refine wpAny_holding ?_
  refine wpAny_bind (hk.hash hr ?_)
  unfold dictSetHashed
  try with_reducible refine wpAny_holding ?_
  refine wpAny_bind (find_k (s := { s with toks := s.toks + kDraws k }) hr hk go gd ge gk R.nd ?_)
  have nd := putX_nd (k := k) (u := u) (v := v) R.nd
  have ln : (putX xs k u v).length ≤ sizeLine := Nat.le_trans putX_len hz
  cases e : ixK xs k with
  | none =>
    have ep' : putX xs k u v = xs ++ [(k, u, v)] := by unfold putX; rw [e]
    refine wpAny_bind (wpAny_rule (wpAny_updateDictKeys (hz := by omega) (s := { s with toks := s.toks + kDraws k }) go gd (q _ _ (Heap.get?_update_self _ go (Obj.isFreed_of_dict (Obj.data_mapDictKeys gd _))) ⟨R.ex.mapDictKeys _, ⟨_, _, Obj.data_mapDictKeys gd _, ?_⟩, nd, ln⟩ (Heap.SameBut.update ..))))
    rw [ep', List.map_append, Array.toList_push, ge]
    rfl
  | some j =>
    have ep' : putX xs k u v = xs.modify j fun x => (x.1, x.2.1, v) := by unfold putX; rw [e]
    refine wpAny_bind (wpAny_rule (wpAny_bind (wpAny_updateDict (s := { s with toks := s.toks + kDraws k }) go gd (wpAny_point (q _ _ (Heap.get?_update_self _ go (Obj.isFreed_of_dict (Obj.data_mapDict gd _))) ⟨R.ex.mapDict _, ⟨_, _, Obj.data_mapDict gd _, ?_⟩, nd, ln⟩ (Heap.SameBut.update ..))))))
    rw [ep', Array.toList_modify, ge]
    refine List.ext_getElem? fun i => ?_
    rw [List.getElem?_modify, List.getElem?_map, List.getElem?_map, List.getElem?_modify]
    cases xs[i]? with
    | none => rfl
    | some y => simp; split <;> rfl
/-! ### d[u], d[u] = v, u in d -/
theorem tyD_k (go : s.heap.get? d = some o) (R : DRec w o xs) : s.TypeIs (.ref d) "dict" := ⟨o, go, R.ex.1⟩
theorem getItem_k {Q : Value → Shared → Prop} (hr : A.units + 1 < cLine) (hk : kIs P w s.heap k u) (go : s.heap.get? d = some o) (R : DRec w o xs) (gk : ∀ x ∈ xs, kIs P w s.heap x.1 x.2.1) (hv : valX xs k = some v)
    (q : Q v { s with toks := s.toks + kDraws k }) : wpAny (model P w) A (getItem (.ref d) u) Q E s := by
  have ty := tyD_k (w := w) go R
  unfold getItem
  try with_reducible refine wpAny_holding ?_
  refine wpAny_bind (wpAny_sequenceKey ty (by decide) (wpAny_bind (wpAny_callSpecial?_slot (name := Str.ofString "__getitem__") ty slot_dict_getitem (wpAny_call_entry slot_dict_getitem ty entry_dict_getitem ?_ (args_dict_getitem _ _)))))
  show wpAny _ _ (dictGet d u >>= _) _ _ s
  refine wpAny_bind (get_k (A := A.in1) hr hk go R gk ?_)
  rw [hv]
  exact wpAny_pure ⟨v, rfl, wpAny_pure q⟩
theorem setItem_k {Q : Unit → Shared → Prop} (hr : A.units + 1 < cLine) (hk : kIs P w s.heap k u) (go : s.heap.get? d = some o) (R : DRec w o xs) (gk : ∀ x ∈ xs, kIs P w s.heap x.1 x.2.1) (hz : xs.length < sizeLine)
    (q : ∀ h' o', h'.get? d = some o' → DRec w o' (putX xs k u v) → Heap.SameBut d s.heap h' → Q () { s with heap := h', toks := s.toks + kDraws k }) : wpAny (model P w) A (setItem (.ref d) u v) Q E s := by
  have ty := tyD_k (w := w) go R
  unfold setItem
  try with_reducible refine wpAny_holding ?_
  refine wpAny_bind (wpAny_sequenceKey ty (by decide) (wpAny_bind (wpAny_callSpecial?_slot (name := Str.ofString "__setitem__") ty slot_dict_setitem (wpAny_call_entry slot_dict_setitem ty entry_dict_setitem ?_ (args_dict_setitem _ _ _)))))
  show wpAny _ _ (Builtin.Dict.notOrdered "__setitem__" ⟨[.ref d, u, v], []⟩ >>= _) _ _ s
  refine wpAny_bind (wpAny_notOrdered_dict ty ?_)
  show wpAny _ _ (dictSet d u v >>= _) _ _ s
  exact wpAny_bind (set_k (A := A.in1) hr hk go R gk hz fun h' o' a b c => wpAny_pure ⟨.none, rfl, wpAny_pure (q h' o' a b c)⟩)
theorem contains_k {Q : Bool → Shared → Prop} (hr : A.units + 1 < cLine) (hk : kIs P w s.heap k u) (hd : (d == sysModules) = false) (go : s.heap.get? d = some o) (R : DRec w o xs) (gk : ∀ x ∈ xs, kIs P w s.heap x.1 x.2.1)
    (q : Q (valX xs k).isSome { s with toks := s.toks + kDraws k }) : wpAny (model P w) A (contains (.ref d) u) Q E s := by
  have ty := tyD_k (w := w) go R
  unfold contains
  try with_reducible refine wpAny_holding ?_
  refine wpAny_bind (wpAny_specialOf ty slot_dict_contains.lookup ?_)
  rw [if_neg (by rw [beq_builtin_none]; exact Bool.false_ne_true)]
  refine wpAny_bind (wpAny_callSpecialUnlessNone?_slot (name := Str.ofString "__contains__") ty slot_dict_contains (wpAny_call_entry slot_dict_contains ty entry_dict_contains ?_ (args_dict_contains _ _)))
  show wpAny _ _ (dictGet d u >>= _) _ _ s
  refine wpAny_bind (get_k (A := A.in1) hr hk go R gk ?_)
  cases hf : valX xs k with
  | some p =>
    rw [hf] at q
    exact wpAny_pure ⟨_, rfl, wpAny_truthy_bool q⟩
  | none =>
    rw [hf] at q
    exact wpAny_bind (wpAny_pendingKey_other hd (wpAny_pure ⟨_, rfl, wpAny_truthy_bool q⟩))
theorem in_k {Q : Value → Shared → Prop} (hr : A.units + 1 < cLine) (hk : kIs P w s.heap k u) (hd : (d == sysModules) = false) (go : s.heap.get? d = some o) (R : DRec w o xs) (gk : ∀ x ∈ xs, kIs P w s.heap x.1 x.2.1)
    (q : Q (.bool (valX xs k).isSome) { s with toks := s.toks + kDraws k }) : wpAny (model P w) A (compareOp .In u (.ref d)) Q E s := by
  show wpAny _ _ (do return .bool (← contains (.ref d) u)) Q E s
  exact wpAny_bind (contains_k hr hk hd go R gk (wpAny_pure q))
theorem notIn_k {Q : Value → Shared → Prop} (hr : A.units + 1 < cLine) (hk : kIs P w s.heap k u) (hd : (d == sysModules) = false) (go : s.heap.get? d = some o) (R : DRec w o xs) (gk : ∀ x ∈ xs, kIs P w s.heap x.1 x.2.1)
    (q : Q (.bool (!(valX xs k).isSome)) { s with toks := s.toks + kDraws k }) : wpAny (model P w) A (compareOp .NotIn u (.ref d)) Q E s := by
  show wpAny _ _ (do return .bool (!(← contains (.ref d) u))) Q E s
  exact wpAny_bind (contains_k hr hk hd go R gk (wpAny_pure q))
/-! ### the walk -/
theorem iter_k {es : Array DictEntry} {ep : Nat} {Q : Value → Shared → Prop} (hd : (d == sysModules) = false) (go : s.heap.get? d = some o) (R : DRec w o xs) (gd : o.data = .dict es ep)
    (q : Q (.ref s.heap.objs.size) { s with heap := s.heap.push { cls := .type "dict_keyiterator", data := .fields #[.ref d, .int 0 0, .int es.size 0, .int ep 0] } }) : wpAny (model P w) A (pyIter (.ref d)) Q E s := by
  have ty := tyD_k (w := w) go R
  refine wpAny_pyIter_slot ty F.slot_dict_iter (wpAny_call_entry F.slot_dict_iter ty F.entry_dict_iter ?_ (F.args_dict_iter_1 _))
  unfold Builtin.«dict.__iter__» Builtin.Dict.dictSlotNone
  refine wpAny_bind (wpAny_bind (wpAny_notOrdered_dict ty (wpAny_pure ?_)))
  show wpAny _ _ (Builtin.Dict.showsAll d >>= _) _ _ s
  unfold Builtin.Dict.showsAll
  rw [if_neg (by rw [hd]; exact Bool.false_ne_true)]
  refine wpAny_bind (wpAny_pure (wpAny_bind (wpAny_dictEntries go gd (wpAny_bind (wpAny_dictEpoch go gd (wpAny_bind (wpAny_newObj_type (wpAny_pure ⟨_, rfl, "dict_keyiterator", _, ⟨_, Heap.get?_push_size _ rfl, rfl⟩, F.slot_dict_keyiterator_next.lookup, ?_⟩))))))))
  simpa [rawInt] using q
theorem next_k {it : Addr} {i ep : Nat} {es : Array DictEntry} {e : DictEntry} {Q : Option Value → Shared → Prop} (hit : s.heap.IsKeyIter it d i es.size ep) (go : s.heap.get? d = some o) (gd : o.data = .dict es ep) (he : es[i]? = some e)
    (q : ∀ h', h'.IsKeyIter it d (i + 1) es.size ep → Heap.SameBut it s.heap h' → Q (some e.key) { s with heap := h' }) : wpAny (model P w) A (pyNext (.ref it)) Q E s := by
  obtain ⟨oi, gi, ci, di⟩ := id hit
  unfold pyNext
  refine wpAny_bind (wpAny_attempt (wpAny_callSpecial?_slot (name := Str.ofString "__next__") hit.typeIs F.slot_dict_keyiterator_next (wpAny_call_entry F.slot_dict_keyiterator_next hit.typeIs F.entry_dict_keyiterator_next ?_ (F.args_dict_keyiterator_next_1 _))))
  refine wpAny_bind (wpAny_pure (wpAny_bind (wpAny_bind ?_)))
  first | refine wpAny_bind (wpAny_typeNameOfWhole_keyiter hit.typeIs (wpAny_pure (wpAny_bind (wpAny_fieldsOf gi di ?_)))) | refine wpAny_bind (wpAny_typeNameOf_keyiter hit.typeIs (wpAny_pure (wpAny_bind (wpAny_fieldsOf gi di ?_))))
  simp only [show Builtin.Dict_items.ownsTuple "dict_keyiterator" = false by decide, Bool.false_eq_true, if_false]
  show wpAny _ _ (if (Value.ref d == Value.none) = true then _ else _) _ _ s
  rw [if_neg (show ¬ (Value.ref d == Value.none) = true from Bool.false_ne_true)]
  refine wpAny_bind (wpAny_pure (wpAny_bind (wpAny_dictEntries go gd ?_)))
  rw [if_neg (by simp)]
  refine wpAny_bind (wpAny_pure (wpAny_bind (wpAny_dictEpoch go gd ?_)))
  rw [if_neg (by simp)]
  refine wpAny_pure ?_
  simp only [show ¬ ((i : Int) < 0) from by omega, if_false, Int.toNat_natCast, he]
  refine wpAny_bind ?_
  first | refine wpAny_bind (wpAny_typeNameOfWhole_keyiter hit.typeIs (wpAny_pure (wpAny_bind (wpAny_isOneOf_keyiter hit.typeIs ?_)))) | refine wpAny_bind (wpAny_typeNameOf_keyiter hit.typeIs (wpAny_pure (wpAny_bind (wpAny_isOneOf_keyiter hit.typeIs ?_))))
  show wpAny _ _ (setField (.ref it) 1 (rawInt ((i : Int) + 1)) >>= _) _ _ s
  refine wpAny_bind (wpAny_setField gi di (by simp) ?_)
  have hn : (s.heap.update it (Obj.mapFields (·.setIfInBounds 1 (rawInt ((i : Int) + 1))))).IsKeyIter it d (i + 1) es.size ep :=
    ⟨_, Heap.get?_update_self _ gi (Obj.isFreed_of_fields (Obj.data_mapFields di _)), (Obj.cls_mapFields ..).trans ci, by rw [Obj.data_mapFields di]; simp [rawInt]⟩
  refine wpAny_bind (wpAny_holding (wpAny_bind (wpAny_isOneOf_keyiter (s := { s with heap := s.heap.update it (Obj.mapFields (·.setIfInBounds 1 (rawInt ((i : Int) + 1)))) }) hn.typeIs ?_)))
  show wpAny _ _ (pure e.key) _ _ _
  exact wpAny_pure (wpAny_pure ⟨_, rfl, wpAny_pure (q _ hn (Heap.SameBut.update ..))⟩)
theorem stop_k {it : Addr} {i ep : Nat} {es : Array DictEntry} {Q : Option Value → Shared → Prop} (hh : A.handled = none) (hit : s.heap.IsKeyIter it d i es.size ep) (go : s.heap.get? d = some o) (gd : o.data = .dict es ep) (he : es.size ≤ i)
    (q : ∀ h', Heap.ExtBut it s.heap h' → Q none { s with heap := h' }) : wpAny (model P w) A (pyNext (.ref it)) Q E s := by
  obtain ⟨oi, gi, ci, di⟩ := id hit
  unfold pyNext
  refine wpAny_bind (wpAny_attempt (wpAny_callSpecial?_slot (name := Str.ofString "__next__") hit.typeIs F.slot_dict_keyiterator_next (wpAny_call_entry F.slot_dict_keyiterator_next hit.typeIs F.entry_dict_keyiterator_next ?_ (F.args_dict_keyiterator_next_1 _))))
  refine wpAny_bind (wpAny_pure (wpAny_bind (wpAny_bind ?_)))
  first | refine wpAny_bind (wpAny_typeNameOfWhole_keyiter hit.typeIs (wpAny_pure (wpAny_bind (wpAny_fieldsOf gi di ?_)))) | refine wpAny_bind (wpAny_typeNameOf_keyiter hit.typeIs (wpAny_pure (wpAny_bind (wpAny_fieldsOf gi di ?_))))
  simp only [show Builtin.Dict_items.ownsTuple "dict_keyiterator" = false by decide, Bool.false_eq_true, if_false]
  show wpAny _ _ (if (Value.ref d == Value.none) = true then _ else _) _ _ s
  rw [if_neg (show ¬ (Value.ref d == Value.none) = true from Bool.false_ne_true)]
  refine wpAny_bind (wpAny_pure (wpAny_bind (wpAny_dictEntries go gd ?_)))
  rw [if_neg (by simp)]
  refine wpAny_bind (wpAny_pure (wpAny_bind (wpAny_dictEpoch go gd ?_)))
  rw [if_neg (by simp)]
  refine wpAny_pure ?_
  simp only [show ¬ ((i : Int) < 0) from by omega, if_false, Int.toNat_natCast, Array.getElem?_eq_none he]
  refine wpAny_bind ?_
  first | refine wpAny_bind (wpAny_typeNameOfWhole_keyiter hit.typeIs (wpAny_pure ?_)) | refine wpAny_bind (wpAny_typeNameOf_keyiter hit.typeIs (wpAny_pure ?_))
  show wpAny _ _ (setField (.ref it) 0 .none >>= _) _ _ s
  refine wpAny_bind (wpAny_setField gi di (by simp) ?_)
  show wpAny _ _ (newExc (.type "StopIteration") [] >>= _) _ _ _
  refine wpAny_bind ?_
  simp only [newExc, newTuple]
  refine wpAny_bind (wpAny_newObj_type ?_ (by size_fits))
  refine wpAny_bind (m := firstArgMember _ _) (wpAny_of_eq (a := Value.none) (by first | rfl | (simp only [firstArgMember]; rfl)) (wpAny_newObj_type ?_ (by size_fits)))
  simp only [raiseNew]
  refine wpAny_bind (wpAny_handled ?_)
  rw [show A.in1.handled = none from hh]
  refine wpAny_bind (wpAny_pure (wpAny_throw ?_))
  refine wpAny_bind (wpAny_isInstance (T := "StopIteration") (b := true) ⟨_, Heap.get?_push_size _ rfl, rfl⟩ isSubtype_stop ?_)
  exact wpAny_pure (q _ (((Heap.SameBut.update ..).extBut.push _).push _))
end
end L2

set_option Elab.async false
set_option linter.all false
set_option maxRecDepth 100000
set_option maxHeartbeats 1000000
/-! == of dicts -/
namespace L2
open PySem PySem.Spec PyProof.Rows
section
variable {P : Program} {w : World} {A : Around} {E : Value → Shared → Prop} {s : Shared}
/-- one dict's pairs, looked up in the other -/
inductive HitsX (A : Around) (s : Shared) (ys : List DX) : List DX → Bool → Prop
  | nil : HitsX A s ys [] true
  | miss {x : DX} {r : List DX} : valX ys x.1 = none → HitsX A s ys (x :: r) false
  | hit {x : DX} {y : Value} {r : List DX} {e b : Bool} : valX ys x.1 = some y → SeqAt.EqAt A s x.2.2 y e → HitsX A s ys r b → HitsX A s ys (x :: r) (e && b)
theorem HitsX.inv {ys : List DX} {x : DX} {r : List DX} {b : Bool} (h : HitsX A s ys (x :: r) b) : (valX ys x.1 = none ∧ b = false) ∨ ∃ y e b', valX ys x.1 = some y ∧ SeqAt.EqAt A s x.2.2 y e ∧ HitsX A s ys r b' ∧ b = (e && b') := by
  cases h with
  | miss hn => exact .inl ⟨hn, rfl⟩
  | hit hy he hr => exact .inr ⟨_, _, _, hy, he, hr, rfl⟩
variable {a b : Addr} {oa ob : Obj} {xs ys : List DX} {r : Bool}
theorem pairs_k {nm : String} {Q : Bool → Shared → Prop} (hr : A.units < cLine) (na : (a == sysModules) = false) (nb : (b == sysModules) = false) (ga : s.heap.get? a = some oa) (gb : s.heap.get? b = some ob) (Ra : DRec w oa xs) (Rb : DRec w ob ys)
    (ka : ∀ x ∈ xs, kIs P w s.heap x.1 x.2.1) (kb : ∀ x ∈ ys, kIs P w s.heap x.1 x.2.1) (hits : xs.length = ys.length → HitsX A s ys xs r) (q : Q (xs.length == ys.length && r) s) : wpAny (model P w) A (Builtin.Dict.samePairs nm a b) Q E s := by
  obtain ⟨es, ep, da, ea⟩ := Ra.es
  obtain ⟨fs, ep', db, eb⟩ := Rb.es
  have la : es.size = xs.length := by rw [← Array.length_toList, ea, List.length_map]
  have lb : fs.size = ys.length := by rw [← Array.length_toList, eb, List.length_map]
  rw [← la, ← lb] at q
  unfold Builtin.Dict.samePairs Builtin.Dict.showsAll
  rw [if_neg (by rw [na]; exact Bool.false_ne_true), if_neg (by rw [nb]; exact Bool.false_ne_true)]
  refine wpAny_bind (wpAny_pure (wpAny_bind (wpAny_pure (wpAny_bind (wpAny_dictEntries ga da ?_)))))
  dsimp only
  refine wpAny_bind (wpAny_dictEntries gb db ?_)
  by_cases hsz : es.size = fs.size
  case neg =>
    rw [if_pos (by simpa using hsz)]
    rw [show (es.size == fs.size) = false by simpa using hsz, Bool.false_and] at q
    exact wpAny_bind (wpAny_rule (wpAny_pure q))
  case pos =>
    have q' : Q r s := by simpa [hsz] using q
    have hits' := hits (by rw [← la, ← lb]; exact hsz)
    rw [if_neg (by rw [hsz]; simp)]
    refine wpAny_bind (wpAny_dictEpoch ga da (wpAny_bind ?_))
    rw [Std.Legacy.Range.forIn_eq_forIn_range']
    simp only [Std.Legacy.Range.size, Nat.sub_zero, Nat.add_sub_cancel, Nat.div_one]
    refine wpAny_forIn_list _ (fun rest z s' => s' = s ∧ z = (none, ()) ∧ ∃ i, rest = List.range' i (es.size - i) ∧ i ≤ es.size ∧ HitsX A s ys (xs.drop i) r) _ ?_ ?_ _ _ ⟨rfl, rfl, 0, by simp, Nat.zero_le _, hits'⟩
    · rintro i0 rest z s' ⟨rfl, rfl, i, hf, hi, hp⟩
      have hlt : i < es.size := by
        rcases Nat.lt_or_ge i es.size with y | y
        · exact y
        · rw [Nat.sub_eq_zero_of_le y] at hf; cases hf
      obtain ⟨rfl, hrest⟩ : i0 = i ∧ rest = List.range' (i + 1) (es.size - (i + 1)) := by
        rw [show es.size - i = (es.size - (i + 1)) + 1 by omega, List.range'_succ] at hf
        injection hf with y1 y2
        exact ⟨y1, y2⟩
      refine wpAny_bind (wpAny_dictEntries ga da ?_)
      rw [Array.getElem?_eq_getElem hlt]
      have hlt' : i0 < xs.length := by rw [← la]; exact hlt
      have hx : es[i0] = entX w xs[i0] := by
        have y := Array.getElem?_toList (xs := es) (i := i0)
        rw [ea, List.getElem?_map, List.getElem?_eq_getElem hlt', Array.getElem?_eq_getElem hlt] at y
        exact (Option.some.inj y).symm
      have hdrop : xs.drop i0 = xs[i0] :: xs.drop (i0 + 1) := List.drop_eq_getElem_cons hlt'
      rw [hdrop] at hp
      have hkey : kIs P w s'.heap xs[i0].1 xs[i0].2.1 := ka _ (List.getElem_mem hlt')
      simp only [hx]
      refine wpAny_bind (wpAny_holding (wpAny_bind (find_k (k := xs[i0].1) (u := xs[i0].2.1) hr hkey gb db eb kb Rb.nd ?_)))
      cases hj : ixK ys xs[i0].1 with
      | none =>
        rcases hp.inv with ⟨_, er⟩ | ⟨y, _, _, hy, _⟩
        · rw [er] at q'
          refine wpAny_pure ?_
          rw [if_pos (by decide)]
          exact wpAny_pure (wpAny_pure q')
        · rw [valX_no hj] at hy; cases hy
      | some j =>
        obtain ⟨p, hyj⟩ := ixK_some hj
        have hv := valX_at Rb.nd hyj
        refine wpAny_bind (wpAny_dictEntries gb db ?_)
        have hat : fs[j]? = some (entX w (xs[i0].1, p)) := by rw [← Array.getElem?_toList, eb, List.getElem?_map, hyj]; rfl
        rw [hat]
        rcases hp.inv with ⟨hn, _⟩ | ⟨y, e, b', hy, he, hrr, er⟩
        · rw [hv] at hn; cases hn
        · rw [hv] at hy
          cases hy
          refine wpAny_holding (he P w _ _ ?_)
          cases e with
          | false =>
            rw [er, Bool.false_and] at q'
            rw [if_pos (by decide)]
            exact wpAny_pure (wpAny_pure q')
          | true =>
            rw [Bool.true_and] at er
            rw [← er] at hrr
            rw [if_neg (by decide)]
            refine wpAny_bind (wpAny_dictEpoch ga da ?_)
            rw [if_neg (by simp)]
            exact wpAny_pure ⟨rfl, rfl, i0 + 1, hrest, hlt, hrr⟩
    · rintro z s' ⟨rfl, rfl, i, hf, hi, hp⟩
      have hin : i = es.size := by
        rcases Nat.lt_or_ge i es.size with y | y
        · rw [show es.size - i = (es.size - (i + 1)) + 1 by omega, List.range'_succ] at hf; cases hf
        · exact Nat.le_antisymm hi y
      refine wpAny_pure ?_
      rw [hin, la, List.drop_length] at hp
      cases hp
      exact q'
theorem eq_k {Q : Value → Shared → Prop} (hr : A.units + 1 < cLine) (na : (a == sysModules) = false) (nb : (b == sysModules) = false) (ga : s.heap.get? a = some oa) (gb : s.heap.get? b = some ob) (Ra : DRec w oa xs) (Rb : DRec w ob ys)
    (ka : ∀ x ∈ xs, kIs P w s.heap x.1 x.2.1) (kb : ∀ x ∈ ys, kIs P w s.heap x.1 x.2.1) (hits : xs.length = ys.length → HitsX A.in1 s ys xs r) (q : Q (.bool (xs.length == ys.length && r)) s) : wpAny (model P w) A (compareOp .Eq (.ref a) (.ref b)) Q E s := by
  have ta := tyD_k (w := w) ga Ra
  have tb := tyD_k (w := w) gb Rb
  refine wpAny_richCompare_same_room (op := .Eq) ta tb PySem.F.slot_dict_eq (wpAny_call_entry PySem.F.slot_dict_eq ta PySem.F.entry_dict_eq ?_ (PySem.F.args_dict_eq_2 _ _)) (Nat.lt_of_succ_lt hr)
  show wpAny _ _ (Builtin.Dict.dictSlotArgs "__eq__" ⟨[.ref a, .ref b], []⟩ >>= _) _ _ s
  unfold Builtin.Dict.dictSlotArgs
  refine wpAny_bind (wpAny_bind (wpAny_notOrdered_dict ta ?_))
  show wpAny _ _ (pure (Value.ref a, Value.ref b)) _ _ s
  refine wpAny_pure (wpAny_bind (wpAny_isInstance (T := "dict") tb PySem.F.sub_dict_dict ?_))
  rw [if_neg (by decide)]
  refine wpAny_bind (wpAny_pure (wpAny_bind (wpAny_pure (wpAny_bind (pairs_k (A := A.in1) hr na nb ga gb Ra Rb ka kb hits ?_)))))
  exact wpAny_pure ⟨_, rfl, (fun x => nomatch x), by simpa using q⟩
theorem ne_k {Q : Value → Shared → Prop} (hr : A.units + 1 < cLine) (na : (a == sysModules) = false) (nb : (b == sysModules) = false) (ga : s.heap.get? a = some oa) (gb : s.heap.get? b = some ob) (Ra : DRec w oa xs) (Rb : DRec w ob ys)
    (ka : ∀ x ∈ xs, kIs P w s.heap x.1 x.2.1) (kb : ∀ x ∈ ys, kIs P w s.heap x.1 x.2.1) (hits : xs.length = ys.length → HitsX A.in1 s ys xs r) (q : Q (.bool (!(xs.length == ys.length && r))) s) : wpAny (model P w) A (compareOp .NotEq (.ref a) (.ref b)) Q E s := by
  have ta := tyD_k (w := w) ga Ra
  have tb := tyD_k (w := w) gb Rb
  refine wpAny_richCompare_same_room (op := .NotEq) ta tb PySem.F.slot_dict_ne (wpAny_call_entry PySem.F.slot_dict_ne ta PySem.F.entry_dict_ne ?_ (PySem.F.args_dict_ne_2 _ _)) (Nat.lt_of_succ_lt hr)
  show wpAny _ _ (Builtin.Dict.dictSlotArgs "__ne__" ⟨[.ref a, .ref b], []⟩ >>= _) _ _ s
  unfold Builtin.Dict.dictSlotArgs
  refine wpAny_bind (wpAny_bind (wpAny_notOrdered_dict ta ?_))
  show wpAny _ _ (pure (Value.ref a, Value.ref b)) _ _ s
  refine wpAny_pure (wpAny_bind (wpAny_isInstance (T := "dict") tb PySem.F.sub_dict_dict ?_))
  rw [if_neg (by decide)]
  refine wpAny_bind (wpAny_pure (wpAny_bind (wpAny_pure (wpAny_bind (pairs_k (A := A.in1) hr na nb ga gb Ra Rb ka kb hits ?_)))))
  exact wpAny_pure ⟨_, rfl, (fun x => nomatch x), by simpa using q⟩
end
end L2

set_option Elab.async false
set_option linter.all false
set_option maxRecDepth 100000
set_option maxHeartbeats 1000000
/-! dicts under the invariant -/
namespace L2
open PySem PySem.Spec PyProof.Rows
/-! ### tables by key -/
def valD (kvs : List (KD × PyData)) (k : KD) : Option PyData := (kvs.find? fun kv => decide (kv.1 = k)).map (·.2)
def ixD (kvs : List (KD × PyData)) (k : KD) : Option Nat := kvs.findIdx? fun kv => decide (kv.1 = k)
def putD (kvs : List (KD × PyData)) (k : KD) (d : PyData) : List (KD × PyData) := match ixD kvs k with
  | some j => kvs.modify j fun kv => (kv.1, d)
  | none => kvs ++ [(k, d)]
theorem keyD_inj : ∀ {a b : Key}, keyD a = keyD b → a = b
  | .inl i, .inl j, e => by injection e with e; rw [e]
  | .inr i, .inr j, e => by injection e with e; rw [e]
  | .inl _, .inr _, e => by injection e
  | .inr _, .inl _, e => by injection e
theorem keysD_inj : ∀ {a b : List Key}, a.map keyD = b.map keyD → a = b
  | [], [], _ => rfl
  | [], _ :: _, e => by cases e
  | _ :: _, [], e => by cases e
  | x :: a, y :: b, e => by
    rw [List.map_cons, List.map_cons] at e
    injection e with e1 e2
    rw [keyD_inj e1, keysD_inj e2]
theorem kdD_inj : ∀ {a b : KD}, kdD a = kdD b → a = b
  | .inl a, .inl b, e => by rw [keyD_inj (a := a) (b := b) e]
  | .inr a, .inr b, e => by
    have e' : PyData.tuple (a.map keyD) = .tuple (b.map keyD) := e
    injection e' with e'
    rw [keysD_inj e']
  | .inl (.inl _), .inr _, e => by
    have e' : PyData.int _ = .tuple _ := e
    injection e'
  | .inl (.inr _), .inr _, e => by
    have e' : PyData.str _ = .tuple _ := e
    injection e'
  | .inr _, .inl (.inl _), e => by
    have e' : PyData.tuple _ = .int _ := e
    injection e'
  | .inr _, .inl (.inr _), e => by
    have e' : PyData.tuple _ = .str _ := e
    injection e'
theorem enc_inj : ∀ {a b : List (KD × PyData)}, a.map (fun kv => (kdD kv.1, kv.2)) = b.map (fun kv => (kdD kv.1, kv.2)) → a = b
  | [], [], _ => rfl
  | [], _ :: _, e => by cases e
  | _ :: _, [], e => by cases e
  | (k, d) :: a, (k', d') :: b, e => by
    rw [List.map_cons, List.map_cons] at e
    injection e with e1 e2
    injection e1 with e3 e4
    have e5 : k = k' := kdD_inj e3
    have e6 : d = d' := e4
    rw [enc_inj e2, e5, e6]
section
variable {w : World} {K : PySem.W.Frag} {F H : Hp}
theorem Rp.ow {v : V} {kvs : List (KD × PyData)} (h : Rp w K F v (dictD kvs)) : ∃ a, v = .ref a ∧ Ow w K F F a (.dct kvs) := by
  generalize e : dictD kvs = D at h
  cases h with
  | @dct a o xs vs kvs' h1 h2 h3 h4 h5 h6 h7 =>
    injection e with e
    cases enc_inj e
    exact ⟨a, rfl, o, xs, vs, h1, h2, h3, h4, h5, h6, h7⟩
  | _ => cases e
theorem ixK_D {xs : List DX} {kvs : List (KD × PyData)} (e : xs.map (·.1) = kvs.map (·.1)) (k : KD) : ixK xs k = ixD kvs k := by
  have a : ixK xs k = (xs.map (·.1)).findIdx? (fun z => decide (z = k)) := by rw [List.findIdx?_map]; rfl
  have b : ixD kvs k = (kvs.map (·.1)).findIdx? (fun z => decide (z = k)) := by rw [List.findIdx?_map]; rfl
  rw [a, b, e]
theorem look_some {xs : List DX} {vs : List V} {kvs : List (KD × PyData)} {k : KD} {d : PyData} : xs.map (·.1) = kvs.map (·.1) → Vals vs (xs.map (·.2.2)) → Rps w K F vs (kvs.map (·.2)) → valD kvs k = some d → ∃ u v, valX xs k = some u ∧ RelV v u ∧ Rp w K F v d := by
  induction kvs generalizing xs vs with
  | nil => intro _ _ _ h; cases h
  | cons kv kvs ih =>
    intro e hv hr h
    cases xs with
    | nil => cases e
    | cons x xs =>
      rw [List.map_cons, List.map_cons] at e
      injection e with e1 e2
      rw [List.map_cons] at hv hr
      cases hr with
      | cons r1 r2 =>
        cases hv with
        | cons v1 v2 =>
          unfold valD valX at *
          by_cases hk : kv.1 = k
          · rw [List.find?_cons_of_pos (by simpa using hk)] at h
            rw [List.find?_cons_of_pos (by rw [e1]; simpa using hk)]
            cases h
            exact ⟨_, _, rfl, v1, r1⟩
          · rw [List.find?_cons_of_neg (by simpa using hk)] at h
            rw [List.find?_cons_of_neg (by rw [e1]; simpa using hk)]
            exact ih e2 v2 r2 h
theorem look_none {xs : List DX} {kvs : List (KD × PyData)} {k : KD} (e : xs.map (·.1) = kvs.map (·.1)) (h : valD kvs k = none) : valX xs k = none := by
  refine valX_no ?_
  rw [ixK_D e k]
  unfold valD at h
  cases q : kvs.find? fun kv => decide (kv.1 = k) with
  | none => exact List.findIdx?_eq_none_iff.mpr fun x hx => by simpa using List.find?_eq_none.mp q x hx
  | some y => rw [q] at h; cases h
/-- the store, seen by data -/
theorem Vals.set' {vs : List V} {us : List Value} {v : V} {u : Value} (h : Vals vs us) (r : RelV v u) (j : Nat) : Vals (vs.set j v) (us.set j u) := by
  induction h generalizing j with
  | nil => exact .nil
  | cons a t ih =>
    cases j with
    | zero => exact .cons r t
    | succ j => exact .cons a (ih j)
theorem Vals.snoc' {vs : List V} {us : List Value} {v : V} {u : Value} (h : Vals vs us) (r : RelV v u) : Vals (vs ++ [v]) (us ++ [u]) := by
  induction h with
  | nil => exact .cons r .nil
  | cons a t ih => exact .cons a ih
theorem map_modify {α β : Type} (f : α → β) (g : α → α) (b : β) (hg : ∀ a, f (g a) = b) : ∀ (l : List α) (j : Nat), (l.modify j g).map f = (l.map f).set j b
  | [], j => by cases j <;> rfl
  | a :: l, 0 => by simp [List.modify, hg]
  | a :: l, j + 1 => by
    have := map_modify f g b hg l j
    simp only [List.modify_succ_cons, List.map_cons, List.set_cons_succ, this]
theorem map_modify_id {α β : Type} (f : α → β) (g : α → α) (hg : ∀ a, f (g a) = f a) : ∀ (l : List α) (j : Nat), (l.modify j g).map f = l.map f
  | [], j => by cases j <;> rfl
  | a :: l, 0 => by simp [List.modify, hg]
  | a :: l, j + 1 => by
    have := map_modify_id f g hg l j
    simp only [List.modify_succ_cons, List.map_cons, this]
theorem put_parts {xs : List DX} {vs : List V} {kvs : List (KD × PyData)} {k : KD} {u u' : Value} {v : V} {d : PyData} (hk : ∀ x ∈ xs, KeyR F x.1 x.2.1) (ku : KeyR F k u)
    (e : xs.map (·.1) = kvs.map (·.1)) (hv : Vals vs (xs.map (·.2.2))) (hr : Rps w K F vs (kvs.map (·.2))) (rv : RelV v u') (rd : Rp w K F v d) :
    (∀ x ∈ putX xs k u u', KeyR F x.1 x.2.1) ∧ (putX xs k u u').map (·.1) = (putD kvs k d).map (·.1) ∧ ∃ vs', Vals vs' ((putX xs k u u').map (·.2.2)) ∧ Rps w K F vs' ((putD kvs k d).map (·.2)) := by
  refine ⟨fun x hx => ?_, ?_, (match ixD kvs k with | some j => vs.set j v | none => vs ++ [v]), ?_, ?_⟩
  · rcases mem_putX hx with ⟨y, h1, h2, h3⟩ | h1
    · rw [h2, h3]; exact hk y h1
    · rw [h1]; exact ku
  · unfold putX putD
    rw [ixK_D e k]
    cases q : ixD kvs k with
    | none => simp only; rw [List.map_append, List.map_append, e]; rfl
    | some j => simp only; rw [map_modify_id (fun x : DX => x.1) (fun x => (x.1, x.2.1, u')) (fun _ => rfl), map_modify_id (fun x : KD × PyData => x.1) (fun kv => (kv.1, d)) (fun _ => rfl), e]
  · unfold putX
    rw [ixK_D e k]
    cases q : ixD kvs k with
    | none => simp only; rw [List.map_append]; exact hv.snoc' rv
    | some j => simp only; rw [map_modify (fun x : DX => x.2.2) (fun x => (x.1, x.2.1, u')) u' (fun _ => rfl)]; exact hv.set' rv j
  · unfold putD
    cases q : ixD kvs k with
    | none => simp only; rw [List.map_append]; exact hr.append (.cons rd .nil)
    | some j => simp only; rw [map_modify (fun x : KD × PyData => x.2) (fun kv => (kv.1, d)) d (fun _ => rfl)]; exact hr.set rd j
theorem put_ow {a : Addr} {o' : Obj} {xs : List DX} {vs : List V} {kvs : List (KD × PyData)} {k : KD} {u u' : Value} {v : V} {d : PyData} (hz : (a == sysModules) = false) (R : DRec w o' (putX xs k u u')) (hk : ∀ x ∈ xs, KeyR F x.1 x.2.1) (ku : KeyR F k u)
    (e : xs.map (·.1) = kvs.map (·.1)) (hv : Vals vs (xs.map (·.2.2))) (hr : Rps w K F vs (kvs.map (·.2))) (rv : RelV v u') (rd : Rp w K F v d) : Ow w K F (upd H a (PinO a o')) a (.dct (putD kvs k d)) := by
  obtain ⟨h1, h2, vs', h3, h4⟩ := put_parts hk ku e hv hr rv rd
  exact ⟨o', putX xs k u u', vs', upd_same, hz, R, h1, h2, h3, h4⟩
end
section
variable {X : Cx} {pins : List (Addr × Obj)} {σ : St} {F H : Hp} {s : Shared}
theorem keyIs_rel {k : Key} {u : Value} (r : RelV (kV k) u) : keyIs k u = true := by
  cases k with
  | inl i => obtain ⟨t, rfl⟩ := r; exact keyIs_int i t
  | inr x => obtain ⟨t, rfl⟩ := r; exact keyIs_str x t
theorem items_k {P : Program} {w : World} : ∀ {ks : List Key} {us : List Value}, Vals (ks.map kV) us → ItemsAre (mixKind P w) ks us
  | [], _, r => by cases r; exact .nil
  | k :: ks, _, r => by
    cases r with
    | cons a t => exact .cons (keyIs_rel a) (items_k t)
theorem Inv.pinO {a : Addr} {o : Obj} (I : Inv X pins σ H s) (h : H a = some (PinO a o)) : s.heap.get? a = some o := (I.hok a _ h).1
theorem Inv.keyR (I : Inv X pins σ H s) (le : Same F H) : ∀ {k : KD} {u : Value}, KeyR F k u → kIs X.prog X.w s.heap k u
  | .inl k, u, h => keyIs_rel h
  | .inr ks, u, ⟨b, e, h⟩ => by
    obtain ⟨its, r, ⟨o, h1, h2, n, h3⟩, _⟩ := I.tuple (SqT.of (le _ _ h))
    exact ⟨b, e, o, its.toArray, n, h1, h2, h3, by simpa using items_k r⟩
theorem rps_keys {w : World} {K : PySem.W.Frag} : ∀ {ks : List Key} {vs : List V}, Rps w K F vs (ks.map keyD) → vs = ks.map kV
  | [], _, h => by cases h; rfl
  | k :: ks, _, h => by
    rw [List.map_cons] at h
    cases h with
    | cons a t =>
      rw [rps_keys t, List.map_cons]
      cases k <;> (generalize q : keyD _ = D at a; cases a <;> cases q; rfl)
theorem Inv.keyP (I : Inv X pins σ H s) (le : Same F H) {k : KD} {y : V} {u : Value} (r : Rp X.w X.K F y (kdD k)) (ry : RelV y u) : kIs X.prog X.w s.heap k u := by
  cases k with
  | inl k =>
    have : y = kV k := by cases k <;> (generalize q : kdD _ = D at r; cases r <;> cases q; rfl)
    subst this
    exact keyIs_rel ry
  | inr ks =>
    generalize q : kdD (.inr ks) = D at r
    cases r with
    | @tup b vs ds h hs =>
      have q' : PyData.tuple (ks.map keyD) = .tuple ds := q
      injection q' with q'
      subst q'
      cases rps_keys hs
      cases ry
      obtain ⟨its, r, ⟨o, h1, h2, n, h3⟩, _⟩ := I.tuple (le.sqt h.sqt)
      exact ⟨b, rfl, o, its.toArray, n, h1, h2, h3, by simpa using items_k r⟩
    | _ => cases q
/-- a key that may be stored: no tuple that begins with an int -/
def kOk : KD → Bool
  | .inr (.inl _ :: _) => false
  | _ => true
theorem Rp.keyR {w : World} {K : PySem.W.Frag} {k : KD} {y : V} {u : Value} (r : Rp w K F y (kdD k)) (ok : kOk k = true) (ry : RelV y u) : KeyR F k u := by
  cases k with
  | inl k =>
    have : y = kV k := by cases k <;> (generalize q : kdD _ = D at r; cases r <;> cases q; rfl)
    subst this
    exact ry
  | inr ks =>
    generalize q : kdD (.inr ks) = D at r
    cases r with
    | @tup b vs ds h hs =>
      have q' : PyData.tuple (ks.map keyD) = .tuple ds := q
      injection q' with q'
      subst q'
      cases rps_keys hs
      cases ry
      rcases h with h | ⟨⟨i, r, z⟩, _⟩
      · exact ⟨b, rfl, h⟩
      · cases ks with
        | nil => cases z
        | cons k1 ks =>
          cases k1 with
          | inl j => cases ok
          | inr x => rw [List.map_cons] at z; injection z with z _; cases z
    | _ => cases q
theorem Inv.dAt (I : Inv X pins σ H s) (le : Same F H) {xs : List DX} (h : ∀ x ∈ xs, KeyR F x.1 x.2.1) : ∀ x ∈ xs, kIs X.prog X.w s.heap x.1 x.2.1 := fun x hx => I.keyR le (h x hx)
/-- the dict at a is written -/
theorem Inv.dput {a : Addr} {o o' : Obj} {h' : Heap} {t' : Nat} (I : Inv X pins σ H s) (e : H a = some (PinO a o)) (g : h'.get? a = some o') (hs : Heap.SameBut a s.heap h') : Inv X pins σ (upd H a (PinO a o')) { s with heap := h', toks := t' } :=
  I.write (x := a) (e := a) (by rw [e]; trivial) (.inl rfl) (fun b u hb q => (hs.2 b hb).trans q) ⟨_, g⟩ ⟨g, ⟨_, g⟩, fun h1 h2 q k => k _ q⟩
/-! ### d[k] -/
def rDix (w : World) (K : PySem.W.Frag) : R2 := fun x y H Q => ∃ F a kvs k d, x = .ref a ∧ Same F H ∧ Ow w K F H a (.dct kvs) ∧ Rp w K F y (kdD k) ∧ valD kvs k = some d ∧ ∀ v, Rp w K F v d → Q v H
theorem ix_dct (hr : X.A.units + 1 < cLine) : IxR X (rDix X.w X.K) := by
  intro value slice pins s σ H x y v u Q I rx ry h hs
  obtain ⟨F, a, kvs, k, d, rfl, le, ⟨o, xs, vs, e, nz, R, hk, ek, hv, hrp⟩, rk, hd, q⟩ := h
  cases rx
  obtain ⟨u', v', e1, r1, r2⟩ := look_some ek hv hrp hd
  exact tail_any (tyD_k (w := X.w) (I.pinO e) R) slot_dict_getitem.lookup (getItem_k hr (I.keyP le rk ry) (I.pinO e) R (I.dAt le hk) e1 ⟨v', H, I.tok _, r1, q v' r2⟩) hs
/-! ### d[k] = v -/
def rSetD (w : World) (K : PySem.W.Frag) : V → V → V → Hp → (Hp → Prop) → Prop := fun o i v H Q => ∃ F a kvs k d, o = .ref a ∧ Same F H ∧ Ow w K F H a (.dct kvs) ∧ Rp w K F i (kdD k) ∧ kOk k = true ∧ Rp w K F v d ∧ kvs.length < sizeLine ∧ ∀ o', Ow w K F (upd H a (PinO a o')) a (.dct (putD kvs k d)) → Q (upd H a (PinO a o'))
theorem set_dct (hr : X.A.units + 1 < cLine) : PSet X (rSetD X.w X.K) := by
  intro pins s σ H o i v ov iv u Q I ro ri rv h
  obtain ⟨F, a, kvs, k, d, rfl, le, ⟨ob, xs, vs, e, nz, R, hk, ek, hv, hrp⟩, rk, ok, rd, hl, q⟩ := h
  cases ro
  have hlx : xs.length = kvs.length := by have := congrArg List.length ek; simpa using this
  refine setItem_k hr (I.keyP le rk ri) (I.pinO e) R (I.dAt le hk) (by rw [hlx]; exact hl) fun h' o' g R' hs => ⟨_, I.dput e g hs, q o' ?_⟩
  exact put_ow nz R' hk (rk.keyR ok ri) ek hv hrp rv rd
/-! ### in, not in -/
def rDin (w : World) (K : PySem.W.Frag) (neg : Bool) : R2 := fun x y H Q => ∃ F a kvs k, y = .ref a ∧ Same F H ∧ Ow w K F H a (.dct kvs) ∧ Rp w K F x (kdD k) ∧ Q (.bl (if neg then !(valD kvs k).isSome else (valD kvs k).isSome)) H
theorem look_is {w : World} {K : PySem.W.Frag} {xs : List DX} {vs : List V} {kvs : List (KD × PyData)} {k : KD} (e : xs.map (·.1) = kvs.map (·.1)) (hv : Vals vs (xs.map (·.2.2))) (hr : Rps w K F vs (kvs.map (·.2))) : (valX xs k).isSome = (valD kvs k).isSome := by
  cases h : valD kvs k with
  | none => rw [look_none e h]; rfl
  | some d =>
    obtain ⟨u, v, e1, _, _⟩ := look_some e hv hr h
    rw [e1]; rfl
theorem op_inK (hr : X.A.units + 1 < cLine) : OpR X (compareOp .In) (rDin X.w X.K false) := fun pins s σ H x y v u Q I rx ry h => by
  obtain ⟨F, a, kvs, k, rfl, le, ⟨o, xs, vs, e, nz, R, hk, ek, hv, hrp⟩, rk, q⟩ := h
  cases ry
  refine in_k hr (I.keyP le rk rx) nz (I.pinO e) R (I.dAt le hk) ⟨.bl _, H, I.tok _, rfl, ?_⟩
  rw [look_is ek hv hrp]
  exact q
theorem op_notInK (hr : X.A.units + 1 < cLine) : OpR X (compareOp .NotIn) (rDin X.w X.K true) := fun pins s σ H x y v u Q I rx ry h => by
  obtain ⟨F, a, kvs, k, rfl, le, ⟨o, xs, vs, e, nz, R, hk, ek, hv, hrp⟩, rk, q⟩ := h
  cases ry
  refine notIn_k hr (I.keyP le rk rx) nz (I.pinO e) R (I.dAt le hk) ⟨.bl _, H, I.tok _, rfl, ?_⟩
  rw [look_is ek hv hrp]
  exact q
/-! ### {} -/
theorem Inv.far (I : Inv X pins σ H s) : sysModules < s.heap.objs.size := Nat.lt_trans (by decide) ((I.mod.glob.keeps I.bk).lt : mainGlobals < s.heap.objs.size)
def tDNewX (w : World) : TE := fun _ H Q => ∀ p o, H p = none → (p == sysModules) = false → DRec w o [] → Q (.ref p) (upd H p (PinO p o))
theorem pe_dnewX {pos : Pos} : PE X (.Dict [] [] pos) (tDNewX X.w) := fun pins s σ H Q I h =>
  wpAny_Dict_empty ⟨.ref s.heap.objs.size, _, I.laid (a := s.heap.objs.size) (o := PinO s.heap.objs.size { cls := .type "dict", data := .dict #[] }) (t' := s.toks) (fun _ _ q => Heap.get?_push_of_some _ q) (Nat.le_refl _) ⟨Heap.get?_push_size _ rfl, ⟨_, Heap.get?_push_size _ rfl⟩, fun h1 h2 q k => k _ q⟩, rfl,
    h _ _ (I.hok.fresh (Nat.le_refl _)) (beq_eq_false_iff_ne.mpr (Ne.symm (Nat.ne_of_lt I.far))) ⟨⟨rfl, rfl, rfl⟩, ⟨_, _, rfl, rfl⟩, List.nodup_nil, Nat.zero_le _⟩⟩
end
end L2

set_option Elab.async false
set_option linter.all false
set_option maxRecDepth 100000
set_option maxHeartbeats 1000000
/-! walks over dicts, and by enumerate; == of dicts -/
namespace L2
open PySem PySem.Spec PyProof.Rows
section
variable {w : World} {K : PySem.W.Frag} {F H : Hp}
/-- a key as a value -/
def keyV : KD → Value → V
  | .inl k, _ => kV k
  | .inr _, .ref b => .ref b
  | .inr _, _ => .non
theorem keyV_rel : ∀ {k : KD} {u : Value}, KeyR F k u → RelV (keyV k u) u
  | .inl _, _, h => h
  | .inr _, _, ⟨b, e, _⟩ => by subst e; exact rfl
theorem rp_kV (k : Key) : Rp w K F (kV k) (keyD k) := by
  cases k with
  | inl i => exact .int i
  | inr x => exact .str x
theorem rps_kV : ∀ ks : List Key, Rps w K F (ks.map kV) (ks.map keyD)
  | [] => .nil
  | k :: ks => .cons (rp_kV k) (rps_kV ks)
theorem keyV_rp : ∀ {k : KD} {u : Value}, KeyR F k u → Rp w K F (keyV k u) (kdD k)
  | .inl k, _, _ => rp_kV k
  | .inr ks, _, ⟨b, e, h⟩ => by subst e; exact .tup (SqK.of h) (rps_kV ks)
def keysV (xs : List DX) : List V := xs.map fun x => keyV x.1 x.2.1
end
/-- over the keys of the dict at a, whose record is o -/
def Itd (a : Addr) (o : Obj) (vs : List V) : It := ⟨fun i H => H a = some (PinO a o) ∧ i < vs.length, fun i H x H' => H' = H ∧ vs[i]? = some x, fun i H => H a = some (PinO a o) ∧ vs.length ≤ i⟩
theorem turn_dict {P : Program} {w : World} {K : PySem.W.Frag} {tg : Expr} {o : Obj} {xs : List DX} {F : Hp} {es : Array DictEntry} {ep : Nat} (a it : Addr) (gd : o.data = .dict es ep) (ge : es.toList = xs.map (entX w)) (hk : ∀ x ∈ xs, KeyR F x.1 x.2.1) :
    Turn P w K tg (Itd a o (keysV xs)) [it] it (fun i h => h.IsKeyIter it a i es.size ep) where
  mem := by simp
  obj := fun i h st b hb => by
    have e : b = it := by simpa using hb
    subst e
    obtain ⟨oi, e, c, d⟩ := st
    exact ⟨oi, e, fun v z => by rw [d] at z; cases z⟩
  keep := fun i h h' st k => st.at fun o e => k it (by simp) o e
  item := by
    intro X hP hw hK hc i pins s σ H E I hf st hg
    subst hP hw hK
    obtain ⟨h1, h2⟩ := hg
    have hl : i < xs.length := by simpa [keysV] using h2
    have he : es[i]? = some (entX X.w xs[i]) := by rw [← Array.getElem?_toList, ge, List.getElem?_map, List.getElem?_eq_getElem hl]; rfl
    obtain ⟨f0, f1, f2, f3, f4, f5⟩ := hf it (by simp)
    refine next_k (P := X.prog) (w := X.w) st (I.pinO h1) gd he fun h' st' sb => ?_
    have I1 : Inv X pins σ H { s with heap := h' } := I.turned (t' := s.toks) (fun b o hb e => (sb.2 b hb).trans e) f0 f1 f3 f4 f5
    obtain ⟨oi, e, c, d⟩ := id st'
    refine ⟨_, rfl, go_of (s := { s with heap := h' }) e c d (by decide) ⟨keyV xs[i].1 xs[i].2.1, H, I1, keyV_rel (hk _ (List.getElem_mem hl)), ⟨rfl, ?_⟩, st', fun b hb => (hf b hb).1⟩⟩
    unfold keysV
    rw [List.getElem?_map, List.getElem?_eq_getElem hl]
    rfl
  done := by
    intro X hP hw hK hc i pins s σ H E I hf st hg
    subst hP hw hK
    obtain ⟨h1, h2⟩ := hg
    have hl : xs.length ≤ i := by simpa [keysV] using h2
    have gs : es.size = xs.length := by rw [← Array.length_toList, ge, List.length_map]
    obtain ⟨f0, f1, f2, f3, f4, f5⟩ := hf it (by simp)
    exact stop_k (P := X.prog) (w := X.w) (I.ok.hd hc) st (I.pinO h1) gd (by rw [gs]; exact hl) fun h' eb => ⟨rfl, I.turned (t' := s.toks) (fun b o hb e => eb b o hb e) f0 f1 f3 f4 f5⟩
  self := fun _ _ _ _ _ st h => wpAny_pyIter_keyiter st h
section
variable {X : Cx} {tg : Expr}
def iDict (w : World) (tl : TE) : TI := fun σ H R => tl σ H fun x H1 => ∃ a o xs F, x = .ref a ∧ H1 a = some (PinO a o) ∧ (a == sysModules) = false ∧ DRec w o xs ∧ (∀ x ∈ xs, KeyR F x.1 x.2.1) ∧ R (Itd a o (keysV xs)) H1
theorem pi_dict {l : Expr} {tl : TE} (hl : PE X l tl) : PI X tg l (iDict X.w tl) := by
  intro pins s σ H R I h
  refine thn (hl pins s σ H _ I h) fun v s1 ⟨x, H1, I1, r1, q1⟩ => ?_
  obtain ⟨a, o, xs, F, e, ha, hz, R1, hk, q⟩ := q1
  subst e
  cases r1
  obtain ⟨es, ep, gd, ge⟩ := R1.es
  refine iter_k (P := X.prog) (w := X.w) hz (I1.pinO ha) R1 gd ?_
  refine ⟨s1.heap.objs.size, [s1.heap.objs.size], _, _, H1, rfl, I1.kept (t' := s1.toks) fun b o e => Heap.get?_push_of_some _ e, turn_dict a _ gd ge hk, ⟨_, Heap.get?_push_size _ rfl, rfl, rfl⟩, fun b hb => ?_, q⟩
  have e : b = s1.heap.objs.size := by simpa using hb
  subst e
  exact I1.fpOk (Nat.le_refl _) (I1.hok.fresh (Nat.le_refl _))
/-! ### enumerate -/
/-- two untracked records of ours have turned, and a new thing stands at p -/
theorem Inv.turned2 {pins : List (Addr × Obj)} {σ : St} {H : Hp} {s : Shared} {h' : Heap} {t' : Nat} {it jt p : Addr} {q : HO} (I : Inv X pins σ H s) (k : ∀ b o, b ≠ it → b ≠ jt → s.heap.get? b = some o → h'.get? b = some o) (f : FpOk X pins H it) (g : FpOk X pins H jt)
    (hp : s.heap.objs.size ≤ p) (new : ObjOk X.prog X.w (upd H p q) h' p q) : Inv X pins σ (upd H p q) { s with heap := h', toks := t' } := by
  obtain ⟨f0, f1, f2, f3, f4, f5⟩ := f
  obtain ⟨g0, g1, g2, g3, g4, g5⟩ := g
  have hn : H p = none := I.hok.fresh hp
  have ne : ∀ b u, H b = some u → b ≠ it ∧ b ≠ jt := fun b u e => ⟨ne_of_none e f0, ne_of_none e g0⟩
  have np : ∀ b u, H b = some u → upd H p q b = some u := fun b u e => by rw [upd_ne (ne_of_none e hn)]; exact e
  have kc : ∀ b o, b ∉ [it, jt] → s.heap.get? b = some o → h'.get? b = some o := fun b o hc e => k b o (fun z => hc (by simp [z])) (fun z => hc (by simp [z])) e
  refine I.step (g' := s.gens) (d' := s.drawn) (ch := [it, jt]) (fun b hb => ?_) (fun b o _ _ hc e _ => kc b o hc e) (fun b o _ _ hc e _ => ⟨o.slots, kc b o hc e⟩) (fun b o _ e n => ?_) (fun b o hc e => ⟨o, kc b o hc e⟩) (fun b _ e => np b _ e) (fun b _ _ e => np b _ e)
    (fun b ps e => ⟨#[], by rw [np b _ e]; simp⟩) (fun m hm => ?_) (fun b u e => ?_) I.bare
  · simp only [List.mem_cons, List.not_mem_nil, or_false] at hb
    rcases hb with rfl | rfl
    · exact ⟨f3, f1, f4, f5⟩
    · exact ⟨g3, g1, g4, g5⟩
  · rw [upd_ne (Nat.ne_of_lt (Nat.lt_of_lt_of_le (Heap.lt_size e) hp))]
    exact n
  · obtain ⟨o, es, ep, ho, r⟩ := hm
    exact ⟨o, es, ep, k _ o (Ne.symm f1) (Ne.symm g1) ho, r⟩
  · by_cases hb : b = p
    · subst hb; rw [upd_same] at e; cases e; exact new
    rw [upd_ne hb] at e
    refine (I.hok b u e).stay (fun c v hc q => ?_) (fun c q => np c _ q) fun c _ q => np c _ q
    rcases hc with z | z
    · rw [z]; rw [z] at q; exact k b v (ne b u e).1 (ne b u e).2 q
    · exact k c v (ne c _ z).1 (ne c _ z).2 q
/-- (0, x0), (1, x1), .. of the list at l -/
def Ite (K : PySem.W.Frag) (l : Addr) : It :=
  ⟨fun i H => ∃ xs x, SqL K H l xs ∧ xs[i]? = some x, fun i H x H' => ∃ p y, x = .ref p ∧ H p = none ∧ (∀ xs, SqL K H l xs → xs[i]? = some y) ∧ H' = upd H p (.tup [.int (i : Nat), y]), fun i H => ∃ xs, SqL K H l xs ∧ xs.length ≤ i⟩
theorem turn_enum {P : Program} {w : World} {K : PySem.W.Frag} {elts : List Expr} {kk : Nat} {tp : Pos} (l e it : Addr) (hei : e ≠ it) : Turn P w K (.Tuple elts kk tp) (Ite K l) [e, it] e (fun i h => (∃ old, IsEnum h e it ((i : Nat) : Int) old) ∧ h.IsListIter it l i) where
  mem := by simp
  obj := fun i h st b hb => by
    simp only [List.mem_cons, List.not_mem_nil, or_false] at hb
    obtain ⟨⟨old, he⟩, oi, e1, c1, d1⟩ := st
    rcases hb with rfl | rfl
    · exact ⟨_, he, fun v z => by
        have z' : Data.fields _ = Data.cell v := z
        cases z'⟩
    · exact ⟨oi, e1, fun v z => by rw [d1] at z; cases z⟩
  keep := fun i h h' st k => by
    obtain ⟨⟨old, he⟩, hit⟩ := st
    exact ⟨⟨old, k e (by simp) _ he⟩, hit.at fun o x => k it (by simp) o x⟩
  item := by
    intro X hP hw hK hc i pins s σ H E I hf st hg
    subst hP hw hK
    obtain ⟨xs, x, hq, hx⟩ := hg
    obtain ⟨its, rv, p, hz⟩ := I.list hq
    obtain ⟨u, hu, ru⟩ := rv.get hx
    obtain ⟨⟨old, he⟩, hit⟩ := st
    have fe := hf e (by simp)
    have fi := hf it (by simp)
    have elt : e < s.heap.objs.size := Heap.lt_size he
    have ilt : it < s.heap.objs.size := by obtain ⟨_, z, _⟩ := hit; exact Heap.lt_size z
    refine wpAny_pyNext_enum_item he hit p.isList (x := u) (by simpa using hu) hei fun h' ho hit' hT hsz hk => ?_
    refine ⟨_, rfl, wpAny_letOwnedTupleGo_enum ho fun h2 he2 hs2 => ?_⟩
    replace hs2 : Heap.SameBut e h' h2 := hs2
    have kp : ∀ b o, b ≠ e → b ≠ it → s.heap.get? b = some o → h2.get? b = some o := fun b o h1 h3 z => (hs2.2 b h1).trans (hk b o h1 h3 z)
    have hit2 : h2.IsListIter it l (i + 1) := hit'.at fun o z => (hs2.2 it hei.symm).trans z
    have hfree : H s.heap.objs.size = none := I.hok.fresh (Nat.le_refl _)
    have hTT : h2.get? s.heap.objs.size = some { cls := .type "tuple", data := .seq #[.int ((i : Nat) : Int) s.toks, u] } := (hs2.2 _ (Nat.ne_of_gt elt)).trans hT
    have nf : ∀ b ∈ [e, it], upd H s.heap.objs.size (.tup [.int (i : Nat), x]) b = none := fun b hb => by
      simp only [List.mem_cons, List.not_mem_nil, or_false] at hb
      rcases hb with rfl | rfl
      · rw [upd_ne (Nat.ne_of_lt elt)]; exact fe.1
      · rw [upd_ne (Nat.ne_of_lt ilt)]; exact fi.1
    have e1 : ((i + 1 : Nat) : Int) = (i : Int) + 1 := by push_cast; rfl
    refine ⟨.ref s.heap.objs.size, upd H s.heap.objs.size (.tup [.int (i : Nat), x]), I.turned2 kp fe fi (Nat.le_refl _) ?_, rfl, ⟨_, x, rfl, hfree, fun ys hy => by rw [I.list_inj hy hq]; exact hx, rfl⟩, ⟨⟨_, by rw [e1]; exact he2⟩, hit2⟩, nf⟩
    exact ⟨by show 2 ≤ sizeLine; decide, [.int ((i : Nat) : Int) s.toks, u], .cons ⟨_, rfl⟩ (.cons ru .nil), _, hTT, rfl, 0, rfl⟩
  done := by
    intro X hP hw hK hc i pins s σ H E I hf st hg
    subst hP hw hK
    obtain ⟨xs, hq, hx⟩ := hg
    obtain ⟨its, rv, p, hz⟩ := I.list hq
    obtain ⟨⟨old, he⟩, hit⟩ := st
    have hl := rv.length
    obtain ⟨f0, f1, f2, f3, f4, f5⟩ := hf it (by simp)
    exact wpAny_pyNext_enum_end (I.ok.hd hc) he hit p.isList (by simp; omega) fun h' eb => ⟨rfl, I.turned (t' := s.toks) (fun b o hb e => eb b o hb e) f0 f1 f3 f4 f5⟩
  self := fun _ _ _ _ _ st h => by
    obtain ⟨⟨old, he⟩, _⟩ := st
    exact wpAny_pyIter_enum he h
end
end L2

set_option Elab.async false
set_option linter.all false
set_option maxRecDepth 100000
set_option maxHeartbeats 1000000
namespace L2
open PySem PySem.Spec PyProof.Rows
section
variable {X : Cx} {pos : Pos}
/-! ### constants and names -/
def zC (d : PyData) : TauE := fun ev C => C d ev
theorem q_int {i : Int} {j} : QE X (.Constant (.int i) j pos) (zC (.int i)) := ⟨_, pe_int, fun _ _ F _ H _ _ R h k => k _ _ F (.int i) H R (.int i) (Same.refl _) h⟩
theorem q_bl {b : Bool} {j} : QE X (.Constant (.bool b) j pos) (zC (.bool b)) := ⟨_, pe_bl, fun _ _ F _ H _ _ R h k => k _ _ F (.bl b) H R (.bl b) (Same.refl _) h⟩
theorem q_non {j} : QE X (.Constant .none j pos) (zC .none) := ⟨_, pe_non, fun _ _ F _ H _ _ R h k => k _ _ F .non H R .non (Same.refl _) h⟩
theorem q_str {x : Str} {j} : QE X (.Constant (.str x) j pos) (zC (.str x)) := ⟨_, pe_str, fun _ _ F _ H _ _ R h k => k _ _ F (.str x) H R (.str x) (Same.refl _) h⟩
/-- a name that holds a shared value -/
def zV (i : Nat) : TauE := fun ev C => match ev[i]? with | some (.val d) => C d ev | _ => False
theorem q_v (i : Nat) {x : Str} (hN : X.N[i]? = some x := by rfl) (hv : Vis X.env.scope x := by first | exact Or.inl rfl | exact Or.inr (Or.inl rfl) | exact Or.inr (Or.inr rfl)) (hd : (x == ("__debug__" : Str)) = false := by decide)
    (hcd : (x == ("__classdict__" : Str)) = false := by decide) : QE X (.Name x pos) (zV i) := by
  refine ⟨_, pe_var hN hv hd hcd, fun F₀ ev F σ H Q C R h k => ?_⟩
  unfold zV at h
  split at h
  case h_1 d e =>
    obtain ⟨v, h1, h2⟩ := R.val i d e
    exact ⟨v, h1, k d ev F v H R h2 (Same.refl _) h⟩
  case h_2 => exact h.elim
/-- a name whose thing is shared from here on -/
def zF (i : Nat) : TauE := fun ev C => match ev[i]? with | some (.val d) => C d ev | some (.own m) => C (frz m) (ev.set i (.val (frz m))) | _ => False
theorem q_f (i : Nat) {x : Str} (hN : X.N[i]? = some x := by rfl) (hv : Vis X.env.scope x := by first | exact Or.inl rfl | exact Or.inr (Or.inl rfl) | exact Or.inr (Or.inr rfl)) (hd : (x == ("__debug__" : Str)) = false := by decide)
    (hcd : (x == ("__classdict__" : Str)) = false := by decide) : QE X (.Name x pos) (zF i) := by
  refine ⟨_, pe_var hN hv hd hcd, fun F₀ ev F σ H Q C R h k => ?_⟩
  unfold zF at h
  split at h
  case h_1 d e =>
    obtain ⟨v, h1, h2⟩ := R.val i d e
    exact ⟨v, h1, k d ev F v H R h2 (Same.refl _) h⟩
  case h_2 m e =>
    obtain ⟨a, h1, h2, h3, h4⟩ := R.own i m e
    obtain ⟨o, ho⟩ := h2.there
    obtain ⟨R', rp, sm⟩ := R.freeze e h1 ho
    exact ⟨.ref a, h1, k _ _ _ _ H R' rp sm h⟩
  case h_3 => exact h.elim
/-- a name's own thing, moved out of it -/
def zM (i : Nat) : TauO := fun ev C => match ev[i]? with | some (.own m) => C m (ev.set i .unk) | _ => False
theorem q_m (i : Nat) {x : Str} (hN : X.N[i]? = some x := by rfl) (hv : Vis X.env.scope x := by first | exact Or.inl rfl | exact Or.inr (Or.inl rfl) | exact Or.inr (Or.inr rfl)) (hd : (x == ("__debug__" : Str)) = false := by decide)
    (hcd : (x == ("__classdict__" : Str)) = false := by decide) : QO X (.Name x pos) (zM i) := by
  refine ⟨_, pe_var hN hv hd hcd, fun F₀ ev F σ H Q C R h k => ?_⟩
  unfold zM at h
  split at h
  case h_1 m e =>
    obtain ⟨a, h1, h2, h3, h4⟩ := R.own i m e
    have old : ∀ (j : Nat) (s : Sl), s ≠ .unk → (ev.set i .unk)[j]? = some s → j ≠ i ∧ ev[j]? = some s := fun j s ne z => by
      rcases get_set z with ⟨rfl, z1, _⟩ | ⟨z1, z2⟩
      · exact absurd z1.symm ne
      · exact ⟨z1, z2⟩
    refine ⟨.ref a, h1, k m _ F a H ⟨R.toRB, by rw [List.length_set]; exact R.len, fun j d z => R.val j d (old j _ (by intro q; cases q) z).2, fun j m' z => R.own j m' (old j _ (by intro q; cases q) z).2,
      fun j k m1 m2 b z1 z2 => R.uni j k m1 m2 b (old j _ (by intro q; cases q) z1).2 (old k _ (by intro q; cases q) z2).2, fun j C z => R.exc j C (old j _ (by intro q; cases q) z).2⟩ h2 h3 h4 (fun j m' z q => ?_) (Same.refl _) h⟩
    obtain ⟨ne, z'⟩ := old j _ (by intro q; cases q) z
    exact ne (R.uni j i m' m a z' e q h1)
  case h_2 => exact h.elim
/-- a thing that no name holds is shared from here on -/
theorem RS.freezeT {w : World} {K : PySem.W.Frag} {H₀ F₀ F : Hp} {ev : Ev} {σ : St} {H : Hp} (R : RS w K H₀ F₀ F ev σ H) {a : Addr} {m : MV} {o : HO} (wo : Ow w K F H a m) (hf : F a = Option.none) (h0 : H₀ a = Option.none) (hu : ∀ (j : Nat) (m' : MV), ev[j]? = some (.own m') → σ[j]? ≠ some (some (.ref a)))
    (ho : H a = some o) : RS w K H₀ F₀ (upd F a o) ev σ H ∧ Rp w K (upd F a o) (.ref a) (frz m) ∧ Same F (upd F a o) := by
  have sm : Same F (upd F a o) := same_upd hf
  refine ⟨⟨⟨fun b u q => ?_, R.k0, R.f0.trans sm, fun b z => ?_⟩, R.len, fun j d' e => ?_, fun j m1 e => ?_, R.uni, fun j C e => ?_⟩, wo.frz ho hf, sm⟩
  · by_cases e : b = a
    · subst e; rw [upd_same] at q; rw [ho]; exact q
    · rw [upd_ne e] at q; exact R.le b u q
  · by_cases e : b = a
    · subst e; exact .inr h0
    · rw [upd_ne e] at z; exact R.nw b z
  · obtain ⟨v, z1, z2⟩ := R.val j d' e
    exact ⟨v, z1, z2.mono sm⟩
  · obtain ⟨b, q3, q4, q5, q6⟩ := R.own j m1 e
    have ne : b ≠ a := by
      rintro rfl
      exact hu j m1 e q3
    exact ⟨b, q3, q4.grow sm (Same.refl _), by rw [upd_ne ne]; exact q5, q6⟩
  · obtain ⟨ea, z1, z2⟩ := R.exc j C e
    exact ⟨ea, z1, sm _ _ z2⟩
def zFr (τ : TauO) : TauE := fun ev C => τ ev fun m ev' => C (frz m) ev'
theorem QO.qe {e : Expr} {τ : TauO} (h : QO X e τ) : QE X e (zFr τ) := by
  obtain ⟨t, ht, k⟩ := h
  refine ⟨t, ht, fun F₀ ev F σ H Q C R h kk => k F₀ ev F σ H Q _ R h fun m ev' F' a H' R' w hf h0 hu sm c => ?_⟩
  obtain ⟨o, ho⟩ := w.there
  obtain ⟨R2, rp, sm2⟩ := R'.freezeT w hf h0 hu ho
  exact kk _ _ _ _ _ R2 rp (sm.trans sm2) c

/-! ### operations -/
abbrev Rho2 := PyData → PyData → (PyData → Prop) → Prop
def OpP (X : Cx) (f : Value → Value → Sem Value) (ρ : Rho2) : Prop := ∃ r : R2, OpR X f r ∧ ∀ (F H : Hp) (x y : V) (dx dy : PyData) (Q : VK) (C : PyData → Prop), Same F H → Rp X.w X.K F x dx → Rp X.w X.K F y dy → ρ dx dy C →
  (∀ d F' v H', Gr F H F' H' → Rp X.w X.K F' v d → C d → Q v H') → r x y H Q
def zOp (ρ : Rho2) (τa τb : TauE) : TauE := fun ev C => τa ev fun d1 ev1 => τb ev1 fun d2 ev2 => ρ d1 d2 fun d => C d ev2
theorem zop {ρ : Rho2} {r : R2} {τa τb : TauE} {ta tb : TE} (kr : ∀ (F H : Hp) (x y : V) (dx dy : PyData) (Q : VK) (C : PyData → Prop), Same F H → Rp X.w X.K F x dx → Rp X.w X.K F y dy → ρ dx dy C →
      (∀ d F' v H', Gr F H F' H' → Rp X.w X.K F' v d → C d → Q v H') → r x y H Q)
    (ka : ∀ (F₀ : Hp) (ev : Ev) (F : Hp) (σ : St) (H : Hp) (Q : VK) (C : PyData → Ev → Prop), RS X.w X.K X.H₀ F₀ F ev σ H → τa ev C → (∀ d ev' F' v H', RS X.w X.K X.H₀ F₀ F' ev' σ H' → Rp X.w X.K F' v d → Same F F' → C d ev' → Q v H') → ta σ H Q)
    (kb : ∀ (F₀ : Hp) (ev : Ev) (F : Hp) (σ : St) (H : Hp) (Q : VK) (C : PyData → Ev → Prop), RS X.w X.K X.H₀ F₀ F ev σ H → τb ev C → (∀ d ev' F' v H', RS X.w X.K X.H₀ F₀ F' ev' σ H' → Rp X.w X.K F' v d → Same F F' → C d ev' → Q v H') → tb σ H Q)
    (F₀ : Hp) (ev : Ev) (F : Hp) (σ : St) (H : Hp) (Q : VK) (C : PyData → Ev → Prop) (R : RS X.w X.K X.H₀ F₀ F ev σ H) (h : zOp ρ τa τb ev C) (k : ∀ d ev' F' v H', RS X.w X.K X.H₀ F₀ F' ev' σ H' → Rp X.w X.K F' v d → Same F F' → C d ev' → Q v H') : tOp r ta tb σ H Q :=
  ka F₀ ev F σ H _ _ R h fun d1 ev1 F1 x H1 R1 r1 s1 c1 => kb F₀ ev1 F1 σ H1 _ _ R1 c1 fun d2 ev2 F2 y H2 R2 r2 s2 c2 =>
    kr F2 H2 x y d1 d2 _ _ R2.le (r1.mono s2) r2 c2 fun d F3 v H3 g r3 c3 => k d ev2 F3 v H3 (R2.grow g) r3 ((s1.trans s2).trans g.ff) c3
theorem q_op {op : Operator} {ρ : Rho2} {a b : Expr} {τa τb : TauE} (ho : OpP X (binaryOp op) ρ) (ha : QE X a τa) (hb : QE X b τb) : QE X (.BinOp a op b pos) (zOp ρ τa τb) := by
  obtain ⟨r, hr, kr⟩ := ho
  obtain ⟨ta, ha, ka⟩ := ha
  obtain ⟨tb, hb, kb⟩ := hb
  exact ⟨_, pe_op hr ha hb, zop kr ka kb⟩
theorem q_cmp {op : CmpOp} {ρ : Rho2} {a b : Expr} {τa τb : TauE} (ho : OpP X (compareOp op) ρ) (ha : QE X a τa) (hb : QE X b τb) (hm : behindInMarks op b = false) : QE X (.Compare a [op] [b] pos) (zOp ρ τa τb) := by
  obtain ⟨r, hr, kr⟩ := ho
  obtain ⟨ta, ha, ka⟩ := ha
  obtain ⟨tb, hb, kb⟩ := hb
  exact ⟨_, pe_cmpR hr ha hb hm, zop kr ka kb⟩
/-- a value as a test -/
def zB (τ : TauE) : TauT := fun ev C => τ ev fun d ev' => match d with | .bool b => C b ev' | _ => False
theorem zb {τ : TauE} {t : TE} {t' : TT} (ht : ∀ σ H Q, (t σ H fun x H1 => ∃ c, x = .bl c ∧ Q c H1) → t' σ H Q)
    (ka : ∀ (F₀ : Hp) (ev : Ev) (F : Hp) (σ : St) (H : Hp) (Q : VK) (C : PyData → Ev → Prop), RS X.w X.K X.H₀ F₀ F ev σ H → τ ev C → (∀ d ev' F' v H', RS X.w X.K X.H₀ F₀ F' ev' σ H' → Rp X.w X.K F' v d → Same F F' → C d ev' → Q v H') → t σ H Q)
    (F₀ : Hp) (ev : Ev) (F : Hp) (σ : St) (H : Hp) (Q : Bool → Hp → Prop) (C : Bool → Ev → Prop) (R : RS X.w X.K X.H₀ F₀ F ev σ H) (h : zB τ ev C) (k : ∀ b ev' F' H', RS X.w X.K X.H₀ F₀ F' ev' σ H' → Same F F' → C b ev' → Q b H') : t' σ H Q := by
  refine ht σ H Q (ka F₀ ev F σ H _ _ R h fun d ev' F' v H' R' r s c => ?_)
  cases r with
  | bl b => exact ⟨b, rfl, k b ev' F' H' R' s c⟩
  | _ => exact False.elim c
theorem q_tval {e : Expr} {τ : TauE} (h : QE X e τ) (he : ∀ whole, isTrue e X.env whole = (do let v ← whole; standAt e.pos; holding [v] (truthy v)) := by intro _; rfl) : QT X e (zB τ) := by
  obtain ⟨t, ht, ka⟩ := h
  exact ⟨_, pt_val ht he, zb (fun _ _ _ z => z) ka⟩
theorem q_tcmp {op : CmpOp} {ρ : Rho2} {a b : Expr} {τa τb : TauE} (ho : OpP X (compareOp op) ρ) (ha : QE X a τa) (hb : QE X b τb) (hm : behindInMarks op b = false) : QT X (.Compare a [op] [b] pos) (zB (zOp ρ τa τb)) := by
  obtain ⟨r, hr, kr⟩ := ho
  obtain ⟨ta, ha, ka⟩ := ha
  obtain ⟨tb, hb, kb⟩ := hb
  exact ⟨_, pt_cmpR hr ha hb hm, zb (fun _ _ _ z => z) (zop kr ka kb)⟩
def zNot (τ : TauT) : TauT := fun ev C => τ ev fun b ev' => C (!b) ev'
theorem q_tnot {a : Expr} {τ : TauT} (h : QT X a τ) : QT X (.UnaryOp .Not a pos) (zNot τ) := by
  obtain ⟨t, ht, ka⟩ := h
  exact ⟨_, pt_not ht, fun F₀ ev F σ H Q C R h k => ka F₀ ev F σ H _ _ R h fun b ev' F' H' R' s c => k _ _ _ _ R' s c⟩
def zAnd (τ υ : TauT) : TauT := fun ev C => τ ev fun b ev' => if b = true then υ ev' C else C false ev'
def zOr (τ υ : TauT) : TauT := fun ev C => τ ev fun b ev' => if b = true then C true ev' else υ ev' C
theorem q_wand1 {a : Expr} {τ : TauT} (h : QT X a τ) : QW X (.BoolOp .And [a] pos) τ := by
  obtain ⟨t, ht, ka⟩ := h
  exact ⟨t, pw_and1 ht, ka⟩
theorem q_wor1 {a : Expr} {τ : TauT} (h : QT X a τ) : QW X (.BoolOp .Or [a] pos) τ := by
  obtain ⟨t, ht, ka⟩ := h
  exact ⟨t, pw_or1 ht, ka⟩
theorem q_wand {a b : Expr} {rest : List Expr} {τ υ : TauT} (h : QT X a τ) (g : QW X (.BoolOp .And (b :: rest) pos) υ) : QW X (.BoolOp .And (a :: b :: rest) pos) (zAnd τ υ) := by
  obtain ⟨t, ht, ka⟩ := h
  obtain ⟨u, hu, kb⟩ := g
  refine ⟨_, pw_and ht hu, fun F₀ ev F σ H Q C R h k => ka F₀ ev F σ H _ _ R h fun b ev' F' H' R' s c => ?_⟩
  cases b with
  | true => exact kb F₀ ev' F' σ H' _ _ R' c fun b2 ev2 F2 H2 R2 s2 c2 => k _ _ _ _ R2 (s.trans s2) c2
  | false => exact k _ _ _ _ R' s c
theorem q_wor {a b : Expr} {rest : List Expr} {τ υ : TauT} (h : QT X a τ) (g : QW X (.BoolOp .Or (b :: rest) pos) υ) : QW X (.BoolOp .Or (a :: b :: rest) pos) (zOr τ υ) := by
  obtain ⟨t, ht, ka⟩ := h
  obtain ⟨u, hu, kb⟩ := g
  refine ⟨_, pw_or ht hu, fun F₀ ev F σ H Q C R h k => ka F₀ ev F σ H _ _ R h fun b ev' F' H' R' s c => ?_⟩
  cases b with
  | true => exact k _ _ _ _ R' s c
  | false => exact kb F₀ ev' F' σ H' _ _ R' c fun b2 ev2 F2 H2 R2 s2 c2 => k _ _ _ _ R2 (s.trans s2) c2
theorem QW.qt {e : Expr} {τ : TauT} (h : QW X e τ) : QT X e τ := by
  obtain ⟨t, ht, ka⟩ := h
  exact ⟨t, ht.pt, ka⟩
/-! and, or, not, if as values -/
def zAndV (τ υ : TauE) : TauE := fun ev C => τ ev fun d ev' => match d with | .bool b => if b = true then υ ev' C else C (.bool false) ev' | _ => False
def zOrV (τ υ : TauE) : TauE := fun ev C => τ ev fun d ev' => match d with | .bool b => if b = true then C (.bool true) ev' else υ ev' C | _ => False
def zNotV (τ : TauE) : TauE := fun ev C => τ ev fun d ev' => match d with | .bool b => C (.bool !b) ev' | _ => False
theorem q_one {a : Expr} {op} {τ : TauE} (h : QE X a τ) : QE X (.BoolOp op [a] pos) τ := by
  obtain ⟨t, ht, ka⟩ := h
  exact ⟨t, pe_one ht, ka⟩
theorem q_and {a b : Expr} {rest : List Expr} {τ υ : TauE} (h : QE X a τ) (g : QE X (.BoolOp .And (b :: rest) pos) υ) : QE X (.BoolOp .And (a :: b :: rest) pos) (zAndV τ υ) := by
  obtain ⟨t, ht, ka⟩ := h
  obtain ⟨u, hu, kb⟩ := g
  refine ⟨_, pe_and ht hu, fun F₀ ev F σ H Q C R h k => ka F₀ ev F σ H _ _ R h fun d ev' F' v H' R' r s c => ?_⟩
  cases r with
  | bl b =>
    refine ⟨b, rfl, ?_⟩
    cases b with
    | true => exact kb F₀ ev' F' σ H' _ _ R' c fun d2 ev2 F2 v2 H2 R2 r2 s2 c2 => k _ _ _ _ _ R2 r2 (s.trans s2) c2
    | false => exact k _ _ _ _ _ R' (.bl false) s c
  | _ => exact False.elim c
theorem q_or {a b : Expr} {rest : List Expr} {τ υ : TauE} (h : QE X a τ) (g : QE X (.BoolOp .Or (b :: rest) pos) υ) : QE X (.BoolOp .Or (a :: b :: rest) pos) (zOrV τ υ) := by
  obtain ⟨t, ht, ka⟩ := h
  obtain ⟨u, hu, kb⟩ := g
  refine ⟨_, pe_or ht hu, fun F₀ ev F σ H Q C R h k => ka F₀ ev F σ H _ _ R h fun d ev' F' v H' R' r s c => ?_⟩
  cases r with
  | bl b =>
    refine ⟨b, rfl, ?_⟩
    cases b with
    | true => exact k _ _ _ _ _ R' (.bl true) s c
    | false => exact kb F₀ ev' F' σ H' _ _ R' c fun d2 ev2 F2 v2 H2 R2 r2 s2 c2 => k _ _ _ _ _ R2 r2 (s.trans s2) c2
  | _ => exact False.elim c
theorem q_not {a : Expr} {τ : TauE} (h : QE X a τ) : QE X (.UnaryOp .Not a pos) (zNotV τ) := by
  obtain ⟨t, ht, ka⟩ := h
  refine ⟨_, pe_not ht, fun F₀ ev F σ H Q C R h k => ka F₀ ev F σ H _ _ R h fun d ev' F' v H' R' r s c => ?_⟩
  cases r with
  | bl b => exact ⟨b, rfl, k _ _ _ _ _ R' (.bl _) s c⟩
  | _ => exact False.elim c
def zIfE (τ : TauT) (τa τb : TauE) : TauE := fun ev C => τ ev fun b ev' => if b = true then τa ev' C else τb ev' C
theorem q_ifE {c a b : Expr} {τ : TauT} {τa τb : TauE} (hc : QT X c τ) (ha : QE X a τa) (hb : QE X b τb) : QE X (.IfExp c a b pos) (zIfE τ τa τb) := by
  obtain ⟨t, ht, kc⟩ := hc
  obtain ⟨ta, ha, ka⟩ := ha
  obtain ⟨tb, hb, kb⟩ := hb
  refine ⟨_, pe_ifExp ht ha hb, fun F₀ ev F σ H Q C R h k => kc F₀ ev F σ H _ _ R h fun b ev' F' H' R' s c => ?_⟩
  cases b with
  | true => exact ka F₀ ev' F' σ H' _ _ R' c fun d2 ev2 F2 v2 H2 R2 r2 s2 c2 => k _ _ _ _ _ R2 r2 (s.trans s2) c2
  | false => exact kb F₀ ev' F' σ H' _ _ R' c fun d2 ev2 F2 v2 H2 R2 r2 s2 c2 => k _ _ _ _ _ R2 r2 (s.trans s2) c2

/-! ### argument lists, displays -/
def zNil : TauA := fun ev C => C [] ev
def zCons (τ : TauE) (υ : TauA) : TauA := fun ev C => τ ev fun d ev1 => υ ev1 fun ds ev2 => C (d :: ds) ev2
theorem q_anil : QA X [] zNil := ⟨_, pa_nil, fun _ _ F _ H _ _ R h k => k _ _ F [] H R .nil (Same.refl _) h⟩
theorem q_acons {e : Expr} {es : List Expr} {τ : TauE} {υ : TauA} (h : QE X e τ) (g : QA X es υ) (hs : starEach (e :: es) X.env = (false, eval e X.env) :: starEach es X.env := by rfl) : QA X (e :: es) (zCons τ υ) := by
  obtain ⟨t, ht, ka⟩ := h
  obtain ⟨u, hu, kb⟩ := g
  exact ⟨_, pa_cons ht hu hs, fun F₀ ev F σ H Q C R h k => ka F₀ ev F σ H _ _ R h fun d ev' F' v H' R' r s c => kb F₀ ev' F' σ H' _ _ R' c fun d2 ev2 F2 v2 H2 R2 r2 s2 c2 => k _ _ _ _ _ R2 (.cons (r.mono s2) r2) (s.trans s2) c2⟩
def zTup (τ : TauA) : TauE := fun ev C => τ ev fun ds ev' => ds.length ≤ sizeLine ∧ C (.tuple ds) ev'
theorem q_tup {es : List Expr} {x1} {τ : TauA} (h : QA X es τ) : QE X (.Tuple es x1 pos) (zTup τ) := by
  obtain ⟨t, ht, ka⟩ := h
  refine ⟨_, pe_tup ht, fun F₀ ev F σ H Q C R h k => ka F₀ ev F σ H _ _ R h fun ds ev' F' vs H' R' r s c => ⟨by rw [r.length]; exact c.1, fun p hp => ?_⟩⟩
  have g : Gr F' H' (upd F' p (.tup vs)) (upd H' p (.tup vs)) := Gr.new R'.le hp
  exact k _ _ _ _ _ (R'.grow g) (.tup (SqK.of upd_same) (r.mono g.ff)) (s.trans g.ff) c.2
def zLst (τ : TauA) : TauO := fun ev C => τ ev fun ds ev' => ds.length ≤ sizeLine ∧ C (.lst ds) ev'
theorem q_lst {es : List Expr} {τ : TauA} (h : QA X es τ) : QO X (.List es pos) (zLst τ) := by
  obtain ⟨t, ht, ka⟩ := h
  refine ⟨_, pe_lst ht, fun F₀ ev F σ H Q C R h k => ka F₀ ev F σ H _ _ R h fun ds ev' F' vs H' R' r s c => ⟨by rw [r.length]; exact c.1, fun p hp => ?_⟩⟩
  have g : Gr F' H' F' (upd H' p (.lst vs)) := Gr.newO R'.le hp
  exact k _ _ _ _ _ (R'.grow g) (Ow.ofL upd_same r) (R'.le.free hp) (R'.k0.free hp) (R'.nobody hp) s c.2
end
end L2

set_option Elab.async false
set_option linter.all false
set_option maxRecDepth 100000
set_option maxHeartbeats 1000000
namespace L2
open PySem PySem.Spec PyProof.Rows
section
variable {X : Cx} {pos : Pos}
/-! ### ints -/
def rhI (C0 : Int → Int → Prop) (g : Int → Int → Int) : Rho2 := fun a b C => match a, b with | .int i, .int j => C0 i j ∧ C (.int (g i j)) | _, _ => False
def rhI0 (g : Int → Int → Int) : Rho2 := fun a b C => match a, b with | .int i, .int j => C (.int (g i j)) | _, _ => False
def rhB (g : Int → Int → Bool) : Rho2 := fun a b C => match a, b with | .int i, .int j => C (.bool (g i j)) | _, _ => False
theorem oI {f : Value → Value → Sem Value} {C0 : Int → Int → Prop} {g : Int → Int → Int} (h : OpR X f (rI C0 fun i j => .int (g i j))) : OpP X f (rhI C0 g) :=
  ⟨_, h, fun F H x y dx dy Q C le rx ry c k => by
    cases rx with
    | int i =>
      cases ry with
      | int j => exact ⟨i, j, rfl, rfl, c.1, k _ _ _ _ (Gr.refl le) (.int _) c.2⟩
      | _ => exact False.elim c
    | _ => exact False.elim c⟩
theorem oI0 {f : Value → Value → Sem Value} {g : Int → Int → Int} (h : OpR X f (rI0 fun i j => .int (g i j))) : OpP X f (rhI0 g) :=
  ⟨_, h, fun F H x y dx dy Q C le rx ry c k => by
    cases rx with
    | int i =>
      cases ry with
      | int j => exact ⟨i, j, rfl, rfl, k _ _ _ _ (Gr.refl le) (.int _) c⟩
      | _ => exact False.elim c
    | _ => exact False.elim c⟩
theorem oB {f : Value → Value → Sem Value} {g : Int → Int → Bool} (h : OpR X f (rI0 fun i j => .bl (g i j))) : OpP X f (rhB g) :=
  ⟨_, h, fun F H x y dx dy Q C le rx ry c k => by
    cases rx with
    | int i =>
      cases ry with
      | int j => exact ⟨i, j, rfl, rfl, k _ _ _ _ (Gr.refl le) (.bl _) c⟩
      | _ => exact False.elim c
    | _ => exact False.elim c⟩
def rhAdd : Rho2 := fun a b C => match a, b with | .int i, .int j => C (.int (i + j)) | _, _ => False
theorem o_add : OpP X (binaryOp .Add) rhAdd := oI0 op_add
def rhSub : Rho2 := fun a b C => match a, b with | .int i, .int j => C (.int (i - j)) | _, _ => False
theorem o_sub : OpP X (binaryOp .Sub) rhSub := oI0 op_sub
def CM (i j : Int) : Prop := CMul i j ∨ CMulS i j
theorem op_mulM : OpR X (binaryOp .Mult) (rI CM fun i j => .int (i * j)) := fun pins s σ H x y v u Q I rx ry h => by
  obtain ⟨i, j, e1, e2, c, q⟩ := h
  rcases c with c | c
  · exact op_mul pins s σ H x y v u Q I rx ry ⟨i, j, e1, e2, c, q⟩
  · exact op_mulS pins s σ H x y v u Q I rx ry ⟨i, j, e1, e2, c, q⟩
theorem CM.sz {i j : Int} {m n : Nat} (h : Sz m i) (g : Sz n j) (hl : m + n ≤ 134217728 := by decide) : CM i j := .inr ⟨m, n, h, g, hl⟩
theorem CM.l {i j : Int} (h : -(2 ^ 64) < i) (h' : i < 2 ^ 64) : CM i j := .inl (.inl ⟨h, h'⟩)
theorem CM.r {i j : Int} (h : -(2 ^ 64) < j) (h' : j < 2 ^ 64) : CM i j := .inl (.inr ⟨h, h'⟩)
def rhMul : Rho2 := fun a b C => match a, b with | .int i, .int j => CM i j ∧ C (.int (i * j)) | _, _ => False
theorem o_mul : OpP X (binaryOp .Mult) rhMul := oI op_mulM
def rhDiv : Rho2 := fun a b C => match a, b with | .int i, .int j => (j ≠ 0 ∧ Sz 9000 j) ∧ C (.int (i.fdiv j)) | _, _ => False
theorem o_div : OpP X (binaryOp .FloorDiv) rhDiv := oI op_fdivS
def rhMod : Rho2 := fun a b C => match a, b with | .int i, .int j => 0 < j ∧ C (.int (i % j)) | _, _ => False
theorem o_mod : OpP X (binaryOp .Mod) rhMod := oI op_mod
def rhPow : Rho2 := fun a b C => match a, b with | .int i, .int j => CPow i j ∧ C (.int (i ^ j.toNat)) | _, _ => False
theorem o_pow : OpP X (binaryOp .Pow) rhPow := oI op_pow
def rhLt : Rho2 := fun a b C => match a, b with | .int i, .int j => C (.bool (decide (i < j))) | _, _ => False
theorem o_lt : OpP X (compareOp .Lt) rhLt := oB op_lt
def rhLe : Rho2 := fun a b C => match a, b with | .int i, .int j => C (.bool (decide (i ≤ j))) | _, _ => False
theorem o_le : OpP X (compareOp .LtE) rhLe := oB op_le
def rhGt : Rho2 := fun a b C => match a, b with | .int i, .int j => C (.bool (decide (j < i))) | _, _ => False
theorem o_gt : OpP X (compareOp .Gt) rhGt := oB op_gt
def rhGe : Rho2 := fun a b C => match a, b with | .int i, .int j => C (.bool (decide (j ≤ i))) | _, _ => False
theorem o_ge : OpP X (compareOp .GtE) rhGe := oB op_ge
/-! ### == of ints, truths, texts, None -/
def rhEq : Rho2 := fun a b C => match a, b with
  | .int i, .int j => C (.bool (decide (i = j))) | .str x, .str y => C (.bool (decide (x = y))) | .bool x, .bool y => C (.bool (decide (x = y))) | .none, .none => C (.bool true) | _, _ => False
def rhNe : Rho2 := fun a b C => match a, b with
  | .int i, .int j => C (.bool (!decide (i = j))) | .str x, .str y => C (.bool (!decide (x = y))) | .bool x, .bool y => C (.bool (!decide (x = y))) | .none, .none => C (.bool false) | _, _ => False
theorem dI (i j : Int) : decide (V.int i = V.int j) = decide (i = j) := decide_eq_decide.mpr ⟨V.int.inj, congrArg _⟩
theorem dS (i j : Str) : decide (V.str i = V.str j) = decide (i = j) := decide_eq_decide.mpr ⟨V.str.inj, congrArg _⟩
theorem dB (i j : Bool) : decide (V.bl i = V.bl j) = decide (i = j) := decide_eq_decide.mpr ⟨V.bl.inj, congrArg _⟩
theorem o_eq : OpP X (compareOp .Eq) rhEq :=
  ⟨_, op_eq, fun F H x y dx dy Q C le rx ry c k => by
    cases rx with
    | int i =>
      cases ry with
      | int j => exact ⟨rfl, by rw [dI]; exact k _ _ _ _ (Gr.refl le) (.bl _) c⟩
      | _ => exact False.elim c
    | str i =>
      cases ry with
      | str j => exact ⟨rfl, by rw [dS]; exact k _ _ _ _ (Gr.refl le) (.bl _) c⟩
      | _ => exact False.elim c
    | bl i =>
      cases ry with
      | bl j => exact ⟨rfl, by rw [dB]; exact k _ _ _ _ (Gr.refl le) (.bl _) c⟩
      | _ => exact False.elim c
    | non =>
      cases ry with
      | non => exact ⟨rfl, by rw [decide_eq_true rfl]; exact k _ _ _ _ (Gr.refl le) (.bl _) c⟩
      | _ => exact False.elim c
    | _ => exact False.elim c⟩
theorem o_ne : OpP X (compareOp .NotEq) rhNe :=
  ⟨_, op_ne, fun F H x y dx dy Q C le rx ry c k => by
    cases rx with
    | int i =>
      cases ry with
      | int j => exact ⟨rfl, by rw [dI]; exact k _ _ _ _ (Gr.refl le) (.bl _) c⟩
      | _ => exact False.elim c
    | str i =>
      cases ry with
      | str j => exact ⟨rfl, by rw [dS]; exact k _ _ _ _ (Gr.refl le) (.bl _) c⟩
      | _ => exact False.elim c
    | bl i =>
      cases ry with
      | bl j => exact ⟨rfl, by rw [dB]; exact k _ _ _ _ (Gr.refl le) (.bl _) c⟩
      | _ => exact False.elim c
    | non =>
      cases ry with
      | non => exact ⟨rfl, by rw [decide_eq_true rfl]; exact k _ _ _ _ (Gr.refl le) (.bl _) c⟩
      | _ => exact False.elim c
    | _ => exact False.elim c⟩
/-! ### == of data -/
mutual
theorem Rp.rdD {w : World} {K : PySem.W.Frag} {F : Hp} : ∀ {v : V} {d : PyData}, Rp w K F v d → d.canLay0 = true → RdD K F v d
  | _, _, .non, _ => .non
  | _, _, .bl b, _ => .bl b
  | _, _, .int i, _ => .int i
  | _, _, .str x, _ => .str x
  | _, _, .lst h hs, c => .lst h (Rps.rdD hs (by simpa only [PyData.canLay0] using c))
  | _, _, .tup h hs, c => .tup h.sqt (Rps.rdD hs (by simpa only [PyData.canLay0] using c))
  | _, _, .dct _ _ _ _ _ _ _, c => by simp only [PyData.canLay0] at c; cases c
theorem Rps.rdD {w : World} {K : PySem.W.Frag} {F : Hp} : ∀ {vs : List V} {ds : List PyData}, Rps w K F vs ds → PyData.canLayAll0 ds = true → RdDs K F vs ds
  | _, _, .nil, _ => .nil
  | _, _, .cons h hs, c => by
    simp only [PyData.canLayAll0, Bool.and_eq_true] at c
    exact .cons (Rp.rdD h c.1) (Rps.rdD hs c.2)
end
def rhEqD : Rho2 := fun a b C => SeqAt.shaped a = true ∧ SeqAt.shaped b = true ∧ C (.bool (PyData.eqv a b))
def rhNeD : Rho2 := fun a b C => SeqAt.shaped a = true ∧ SeqAt.shaped b = true ∧ C (.bool (!PyData.eqv a b))
theorem o_eqD {k : Nat} (hr : Room k X.A) : OpP X (compareOp .Eq) rhEqD :=
  ⟨_, op_eqD hr.units, fun F H x y dx dy Q C le rx ry c k =>
    ⟨dx, dy, (rx.mono le).rdD (SeqAt.canLay_of_shaped c.1), (ry.mono le).rdD (SeqAt.canLay_of_shaped c.2.1), c.1, c.2.1, k _ _ _ _ (Gr.refl le) (.bl _) c.2.2⟩⟩
theorem o_neD {k : Nat} (hr : Room k X.A) : OpP X (compareOp .NotEq) rhNeD :=
  ⟨_, op_neD hr.units, fun F H x y dx dy Q C le rx ry c k =>
    ⟨dx, dy, (rx.mono le).rdD (SeqAt.canLay_of_shaped c.1), (ry.mono le).rdD (SeqAt.canLay_of_shaped c.2.1), c.1, c.2.1, k _ _ _ _ (Gr.refl le) (.bl _) c.2.2⟩⟩
def isNoneD : PyData → Bool | .none => true | _ => false
def rhIsN : Rho2 := fun a b C => match b with | .none => C (.bool (isNoneD a)) | _ => False
def rhNotN : Rho2 := fun a b C => match b with | .none => C (.bool (!isNoneD a)) | _ => False
theorem isN_eq {w : World} {K : PySem.W.Frag} {F : Hp} {v : V} {d : PyData} (r : Rp w K F v d) : decide (v = .non) = isNoneD d := by
  cases r <;> first | rfl | exact decide_eq_false (fun z => nomatch z)
theorem o_isN : OpP X (compareOp .Is) rhIsN :=
  ⟨_, op_isN, fun F H x y dx dy Q C le rx ry c k => by
    cases ry with
    | non => exact ⟨rfl, by rw [isN_eq rx]; exact k _ _ _ _ (Gr.refl le) (.bl _) c⟩
    | _ => exact False.elim c⟩
theorem o_notN : OpP X (compareOp .IsNot) rhNotN :=
  ⟨_, op_notN, fun F H x y dx dy Q C le rx ry c k => by
    cases ry with
    | non => exact ⟨rfl, by rw [isN_eq rx]; exact k _ _ _ _ (Gr.refl le) (.bl _) c⟩
    | _ => exact False.elim c⟩
/-! ### one-place operations -/
def zNeg (τ : TauE) : TauE := fun ev C => τ ev fun d ev' => match d with | .int i => C (.int (-i)) ev' | _ => False
theorem q_neg {a : Expr} {τ : TauE} (h : QE X a τ) : QE X (.UnaryOp .USub a pos) (zNeg τ) := by
  obtain ⟨t, ht, ka⟩ := h
  refine ⟨_, pe_un un_neg ht, fun F₀ ev F σ H Q C R h k => ka F₀ ev F σ H _ _ R h fun d ev' F' v H' R' r s c => ?_⟩
  cases r with
  | int i => exact ⟨i, rfl, k _ _ _ _ _ R' (.int _) s c⟩
  | _ => exact False.elim c
/-! ### items -/
theorem Rps.atI {w : World} {K : PySem.W.Frag} {F : Hp} {vs : List V} {ds : List PyData} {i : Int} {d : PyData} (h : Rps w K F vs ds) (e : L2.atI ds i = some d) : ∃ v, L2.atI vs i = some v ∧ Rp w K F v d := by
  unfold L2.atI at e ⊢
  rw [h.length]
  cases q : ixN ds.length i with
  | none => rw [q] at e; cases e
  | some j => rw [q] at e; exact h.get e
/-- of a thing that is there -/
def optC {α : Type} (o : Option α) (C : α → Prop) : Prop := match o with | some d => C d | none => False
theorem optC_of {α : Type} {o : Option α} {d : α} {C : α → Prop} (e : o = some d) (h : C d) : optC o C := by
  rw [e]
  exact h
def rhIx : Rho2 := fun a b C => match a, b with
  | .list ds, .int i => optC (atI ds i) C
  | .tuple ds, .int i => optC (atI ds i) C
  | .str z, .int i => z.length ≤ sizeLine ∧ optC (atI z.cps.toList i) fun c => C (.str ⟨#[c]⟩)
  | _, _ => False
theorem ix_any {F H : Hp} {x y : V} {dx dy : PyData} {Q : VK} {C : PyData → Prop} (le : Same F H) (rx : Rp X.w X.K F x dx) (ry : Rp X.w X.K F y dy) (c : rhIx dx dy C) (k : ∀ d F' v H', Gr F H F' H' → Rp X.w X.K F' v d → C d → Q v H') : rIx X.K x y H Q := by
  cases rx with
  | @lst a vs ds h hs =>
    cases ry with
    | int i =>
      cases e : atI ds i with
      | none => unfold rhIx at c; simp only [e, optC] at c
      | some d =>
        unfold rhIx at c
        simp only [e, optC] at c
        obtain ⟨v, e', r⟩ := hs.atI e
        exact .inl ⟨_, _, i, v, rfl, rfl, le.seq h, e', k _ _ _ _ (Gr.refl le) r c⟩
    | _ => exact False.elim c
  | @tup a vs ds h hs =>
    cases ry with
    | int i =>
      cases e : atI ds i with
      | none => unfold rhIx at c; simp only [e, optC] at c
      | some d =>
        unfold rhIx at c
        simp only [e, optC] at c
        obtain ⟨v, e', r⟩ := hs.atI e
        exact .inr (.inl ⟨_, _, i, v, rfl, rfl, le.sqt h.sqt, e', k _ _ _ _ (Gr.refl le) r c⟩)
    | _ => exact False.elim c
  | str z =>
    cases ry with
    | int i =>
      cases e : atI z.cps.toList i with
      | none => unfold rhIx at c; simp only [e, optC] at c; exact False.elim c.2
      | some d =>
        unfold rhIx at c
        simp only [e, optC] at c
        exact .inr (.inr ⟨z, i, d, rfl, rfl, c.1, e, k _ _ _ _ (Gr.refl le) (.str _) c.2⟩)
    | _ => exact False.elim c
  | _ => exact False.elim c
theorem q_ix {a b : Expr} {τa τb : TauE} (ha : QE X a τa) (hb : QE X b τb) (hs : PlainIx b) : QE X (.Subscript a b pos) (zOp rhIx τa τb) := by
  obtain ⟨ta, ha, ka⟩ := ha
  obtain ⟨tb, hb, kb⟩ := hb
  exact ⟨_, pe_ix ix_seq ha hb hs, zop (fun F H x y dx dy Q C le rx ry c k => ix_any le rx ry c k) ka kb⟩
/-- what a slot holds, for a look -/
def peek : Option Sl → Option PyData
  | some (.val d) => some d
  | some (.own m) => some (frz m)
  | _ => none
/-- a look at a name's thing: valid at once -/
theorem RS.peek {w : World} {K : PySem.W.Frag} {H₀ F₀ F : Hp} {ev : Ev} {σ : St} {H : Hp} (R : RS w K H₀ F₀ F ev σ H) {i : Nat} {d : PyData} (e : L2.peek ev[i]? = some d) : ∃ v, σ[i]? = some (some v) ∧ Rp w K H v d := by
  unfold L2.peek at e
  split at e
  case h_1 d' q =>
    cases e
    obtain ⟨v, h1, h2⟩ := R.val i _ q
    exact ⟨v, h1, h2.mono R.le⟩
  case h_2 m q =>
    cases e
    obtain ⟨a, h1, h2, h3, h4⟩ := R.own i m q
    refine ⟨.ref a, h1, ?_⟩
    cases m with
    | lst ds =>
      obtain ⟨vs, z, r⟩ := h2
      exact .lst (SqL.of z) (r.mono R.le)
    | dct kvs =>
      obtain ⟨o, xs, vs, z, l, q, kk, e, u, r⟩ := h2
      exact .dct z l q (fun x hx => (kk x hx).mono R.le) e u (r.mono R.le)
  case h_3 => cases e
end
end L2

set_option Elab.async false
set_option linter.all false
set_option maxRecDepth 100000
set_option maxHeartbeats 1000000
namespace L2
open PySem PySem.Spec PyProof.Rows
section
variable {X : Cx} {pos : Pos}
/-! ### looks at a name's thing -/
theorem Rp.sizes {w : World} {K : PySem.W.Frag} {F : Hp} {v : V} {ds : List PyData} (h : Rp w K F v (.list ds)) : ∃ a vs, v = .ref a ∧ SqL K F a vs ∧ Rps w K F vs ds := by
  cases h with
  | lst h hs => exact ⟨_, _, rfl, h, hs⟩
theorem Rp.sizesT {w : World} {K : PySem.W.Frag} {F : Hp} {v : V} {ds : List PyData} (h : Rp w K F v (.tuple ds)) : ∃ a vs, v = .ref a ∧ SqT K F a vs ∧ Rps w K F vs ds := by
  cases h with
  | tup h hs => exact ⟨_, _, rfl, h.sqt, hs⟩
/-- an item of what a name owns: the item itself is shared -/
theorem RS.item {w : World} {K : PySem.W.Frag} {H₀ F₀ F : Hp} {ev : Ev} {σ : St} {H : Hp} (R : RS w K H₀ F₀ F ev σ H) {i : Nat} {ds : List PyData} (e : ev[i]? = some (.own (.lst ds))) : ∃ a vs, σ[i]? = some (some (.ref a)) ∧ H a = some (.lst vs) ∧ Rps w K F vs ds := by
  obtain ⟨a, h1, ⟨vs, h2, h3⟩, _⟩ := R.own i _ e
  exact ⟨a, vs, h1, h2, h3⟩
/-- x[e], x a name that owns a list -/
def zIxV (i : Nat) (τ : TauE) : TauE := fun ev C => τ ev fun d ev' => match ev'[i]?, d with
  | some (.own (.lst ds)), .int k => optC (atI ds k) fun q => C q ev'
  | _, _ => False
theorem q_ixV (i : Nat) {x : Str} {xp : Pos} {b : Expr} {τ : TauE} (h : QE X b τ) (hs : PlainIx b) (hN : X.N[i]? = some x := by rfl) (hv : Vis X.env.scope x := by first | exact Or.inl rfl | exact Or.inr (Or.inl rfl) | exact Or.inr (Or.inr rfl))
    (hd : (x == ("__debug__" : Str)) = false := by decide) (hcd : (x == ("__classdict__" : Str)) = false := by decide) (hpre : ∀ ev C, τ ev C → True := by intros; trivial) : QE X (.Subscript (.Name x xp) b pos) (fun ev C => (∃ ds, ev[i]? = some (.own (.lst ds))) ∧ zIxV i τ ev C) := by
  obtain ⟨t, ht, ka⟩ := h
  refine ⟨_, pe_ix ix_list (pe_var hN hv hd hcd) ht hs, fun F₀ ev F σ H Q C R h k => ?_⟩
  obtain ⟨⟨ds0, e0⟩, h⟩ := h
  obtain ⟨a, vs0, s0, _, _⟩ := R.item e0
  refine ⟨.ref a, s0, ka F₀ ev F σ H _ _ R h fun d ev' F' v H' R' r s c => ?_⟩
  split at c
  case h_1 ds k' e1 =>
    cases r
    cases e2 : atI ds k' with
    | some q =>
      rw [e2] at c
      obtain ⟨a', vs, s1, h1, h2⟩ := R'.item e1
      rw [s0] at s1; cases s1
      obtain ⟨w, e3, r3⟩ := h2.atI e2
      exact ⟨a, vs, k', w, rfl, rfl, SqL.of h1, e3, k _ _ _ _ _ R' r3 s c⟩
    | none =>
      rw [e2] at c
      exact False.elim c
  case h_2 => exact False.elim c
/-! ### slices -/
def cutD (ds : List PyData) (lo hi : Option Int) : List PyData := (ds.drop (HT.sIx ds.length 0 lo)).take (HT.sIx ds.length ds.length hi - HT.sIx ds.length 0 lo)
theorem Rps.cut {w : World} {K : PySem.W.Frag} {F : Hp} {vs : List V} {ds : List PyData} (h : Rps w K F vs ds) (lo hi : Option Int) : Rps w K F (cutV vs lo hi) (cutD ds lo hi) := by
  unfold cutV cutD
  rw [h.length]
  exact (h.drop _).take _
abbrev TauP := Ev → (Option Int → Ev → Prop) → Prop
def QP (X : Cx) (e : Option Expr) (τ : TauP) : Prop := ∃ t : TO, PO X e t ∧ ∀ (F₀ : Hp) (ev : Ev) (F : Hp) (σ : St) (H : Hp) (Q : Option Int → Hp → Prop) (C : Option Int → Ev → Prop), RS X.w X.K X.H₀ F₀ F ev σ H → τ ev C →
  (∀ b ev' F' H', RS X.w X.K X.H₀ F₀ F' ev' σ H' → Same F F' → C b ev' → Q b H') → t σ H Q
def zNo : TauP := fun ev C => C none ev
def zPart (τ : TauE) : TauP := fun ev C => τ ev fun d ev' => match d with | .int i => C (some i) ev' | _ => False
theorem q_pno : QP X none zNo := ⟨_, po_none, fun _ _ F _ H _ _ R h k => k _ _ F H R (Same.refl _) h⟩
theorem q_p {e : Expr} {τ : TauE} (h : QE X e τ) : QP X (some e) (zPart τ) := by
  obtain ⟨t, ht, ka⟩ := h
  refine ⟨_, po_some ht, fun F₀ ev F σ H Q C R h k => ka F₀ ev F σ H _ _ R h fun d ev' F' v H' R' r s c => ?_⟩
  cases r with
  | int i => exact ⟨i, rfl, k _ _ _ _ R' s c⟩
  | _ => exact False.elim c
/-- e[lo:hi] of a list -/
def zSl (τ : TauE) (τl τh : TauP) : TauO := fun ev C => τ ev fun d ev1 => τl ev1 fun l ev2 => τh ev2 fun u ev3 => match d with | .list ds => C (.lst (cutD ds l u)) ev3 | _ => False
theorem q_sl {e : Expr} {lo hi : Option Expr} {p2 : Pos} {τ : TauE} {τl τh : TauP} (h : QE X e τ) (hl : QP X lo τl) (hh : QP X hi τh) : QO X (.Subscript e (.Slice lo hi none p2) pos) (zSl τ τl τh) := by
  obtain ⟨t, ht, ka⟩ := h
  obtain ⟨tl, hl, kl⟩ := hl
  obtain ⟨th, hh, kh⟩ := hh
  refine ⟨_, pe_slice sl_list ht hl hh, fun F₀ ev F σ H Q C R h k => ka F₀ ev F σ H _ _ R h fun d ev1 F1 v H1 R1 r s1 c => kl F₀ ev1 F1 σ H1 _ _ R1 c fun l ev2 F2 H2 R2 s2 c => kh F₀ ev2 F2 σ H2 _ _ R2 c fun u ev3 F3 H3 R3 s3 c => ?_⟩
  cases r with
  | @lst a vs ds hq hs =>
    refine ⟨_, _, rfl, (s2.trans (s3.trans R3.le)).seq hq, fun p hp => ?_⟩
    have g := Gr.newO (o := .lst (cutV vs l u)) R3.le hp
    exact k _ _ _ _ _ (R3.grow g) (Ow.ofL upd_same ((hs.mono (s2.trans s3)).cut l u)) (R3.le.free hp) (R3.k0.free hp) (R3.nobody hp) ((s1.trans s2).trans s3) c
  | _ => exact False.elim c
/-- x[lo:hi] of a list that x owns -/
def zSlV (i : Nat) (τl τh : TauP) : TauO := fun ev C => τl ev fun l ev2 => τh ev2 fun u ev3 => match ev3[i]? with | some (.own (.lst ds)) => C (.lst (cutD ds l u)) ev3 | _ => False
theorem q_slV (i : Nat) {x : Str} {xp : Pos} {lo hi : Option Expr} {p2 : Pos} {τl τh : TauP} (hl : QP X lo τl) (hh : QP X hi τh) (hN : X.N[i]? = some x := by rfl) (hv : Vis X.env.scope x := by first | exact Or.inl rfl | exact Or.inr (Or.inl rfl) | exact Or.inr (Or.inr rfl))
    (hd : (x == ("__debug__" : Str)) = false := by decide) (hcd : (x == ("__classdict__" : Str)) = false := by decide) : QO X (.Subscript (.Name x xp) (.Slice lo hi none p2) pos) (fun ev C => (∃ ds, ev[i]? = some (.own (.lst ds))) ∧ zSlV i τl τh ev C) := by
  obtain ⟨tl, hl, kl⟩ := hl
  obtain ⟨th, hh, kh⟩ := hh
  refine ⟨_, pe_slice sl_list (pe_var hN hv hd hcd) hl hh, fun F₀ ev F σ H Q C R h k => ?_⟩
  obtain ⟨⟨ds0, e0⟩, h⟩ := h
  obtain ⟨a, vs0, s0, _, _⟩ := R.item e0
  refine ⟨.ref a, s0, kl F₀ ev F σ H _ _ R h fun l ev2 F2 H2 R2 s2 c => kh F₀ ev2 F2 σ H2 _ _ R2 c fun u ev3 F3 H3 R3 s3 c => ?_⟩
  split at c
  case h_1 ds e1 =>
    obtain ⟨a', vs, s1, h1, h2⟩ := R3.item e1
    rw [s0] at s1; cases s1
    refine ⟨a, vs, rfl, SqL.of h1, fun p hp => ?_⟩
    have g := Gr.newO (o := .lst (cutV vs l u)) R3.le hp
    exact k _ _ _ _ _ (R3.grow g) (Ow.ofL upd_same (h2.cut l u)) (R3.le.free hp) (R3.k0.free hp) (R3.nobody hp) (s2.trans s3) c
  case h_2 => exact False.elim c
/-! ### calls of built-in functions -/
abbrev Rho := List PyData → (PyData → Prop) → Prop
def CallP (X : Cx) (f : Value) (ρ : Rho) : Prop := ∃ r : List V → Hp → VK → Prop, CallR X f r ∧ ∀ (F H : Hp) (xs : List V) (ds : List PyData) (Q : VK) (C : PyData → Prop), Same F H → Rps X.w X.K F xs ds → ρ ds C →
  (∀ d F' v H', Gr F H F' H' → Rp X.w X.K F' v d → C d → Q v H') → r xs H Q
def zCB (ρ : Rho) (τ : TauA) : TauE := fun ev C => τ ev fun ds ev' => ρ ds fun d => C d ev'
theorem zcb {ρ : Rho} {r : List V → Hp → VK → Prop} {τ : TauA} {t : TA} (kr : ∀ (F H : Hp) (xs : List V) (ds : List PyData) (Q : VK) (C : PyData → Prop), Same F H → Rps X.w X.K F xs ds → ρ ds C → (∀ d F' v H', Gr F H F' H' → Rp X.w X.K F' v d → C d → Q v H') → r xs H Q)
    (ka : ∀ (F₀ : Hp) (ev : Ev) (F : Hp) (σ : St) (H : Hp) (Q : List V → Hp → Prop) (C : List PyData → Ev → Prop), RS X.w X.K X.H₀ F₀ F ev σ H → τ ev C → (∀ d ev' F' v H', RS X.w X.K X.H₀ F₀ F' ev' σ H' → Rps X.w X.K F' v d → Same F F' → C d ev' → Q v H') → t σ H Q)
    (F₀ : Hp) (ev : Ev) (F : Hp) (σ : St) (H : Hp) (Q : VK) (C : PyData → Ev → Prop) (R : RS X.w X.K X.H₀ F₀ F ev σ H) (h : zCB ρ τ ev C) (k : ∀ d ev' F' v H', RS X.w X.K X.H₀ F₀ F' ev' σ H' → Rp X.w X.K F' v d → Same F F' → C d ev' → Q v H') : tCB r t σ H Q :=
  ka F₀ ev F σ H _ _ R h fun ds ev' F' vs H' R' r s c => kr F' H' vs ds _ _ R'.le r c fun d F2 v H2 g r2 c2 => k d ev' F2 v H2 (R'.grow g) r2 (s.trans g.ff) c2
theorem q_callB {id : String} {x : Str} {p : Pos} {e : Expr} {es : List Expr} {ρ : Rho} {τ : TauA} (hc : CallP X (.builtin id) ρ) (hg : Gl X x) (hm : X.mg x = none) (hv : bootBuiltins x = some (.builtin id)) (ha : QA X (e :: es) τ) (hn : x ≠ "__name__" := by decide) (hdb : (x == ("__debug__" : Str)) = false := by decide)
    (he : starEach (e :: es) X.env = (false, eval e X.env) :: starEach es X.env := by rfl) (hpl : (backTo pos (starEach es X.env)).any (·.1) = false := by rfl) : QE X (.Call (.Name x p) (e :: es) [] pos) (zCB ρ τ) := by
  obtain ⟨r, hr, kr⟩ := hc
  obtain ⟨t, ht, ka⟩ := ha
  exact ⟨_, pe_callB hr hg hm hv ht hn hdb he hpl, zcb kr ka⟩
theorem q_callTy {T : String} {x : Str} {p : Pos} {e : Expr} {es : List Expr} {ρ : Rho} {τ : TauA} (hc : CallP X (.type T) ρ) (hg : Gl X x) (hm : X.mg x = none) (hv : bootBuiltins x = some (.type T)) (ha : QA X (e :: es) τ) (hn : x ≠ "__name__" := by decide) (hdb : (x == ("__debug__" : Str)) = false := by decide)
    (he : starEach (e :: es) X.env = (false, eval e X.env) :: starEach es X.env := by rfl) (hpl : (backTo pos (starEach es X.env)).any (·.1) = false := by rfl) : QE X (.Call (.Name x p) (e :: es) [] pos) (zCB ρ τ) := by
  obtain ⟨r, hr, kr⟩ := hc
  obtain ⟨t, ht, ka⟩ := ha
  exact ⟨_, pe_callTy hr hg hm hv ht hn hdb he hpl, zcb kr ka⟩
theorem Rps.one {w : World} {K : PySem.W.Frag} {F : Hp} {vs : List V} {d : PyData} (h : Rps w K F vs [d]) : ∃ v, vs = [v] ∧ Rp w K F v d := by
  cases h with
  | cons h1 h2 => cases h2; exact ⟨_, rfl, h1⟩
theorem Rps.two {w : World} {K : PySem.W.Frag} {F : Hp} {vs : List V} {d e : PyData} (h : Rps w K F vs [d, e]) : ∃ v u, vs = [v, u] ∧ Rp w K F v d ∧ Rp w K F u e := by
  cases h with
  | cons h1 h2 =>
    obtain ⟨w, rfl, h3⟩ := h2.one
    exact ⟨_, w, rfl, h1, h3⟩
def rhAbs : Rho := fun ds C => match ds with | [.int i] => C (.int (if i < 0 then -i else i)) | _ => False
theorem c_abs : CallP X (.builtin "abs") rhAbs := ⟨_, call_abs, fun F H xs ds Q C le r c k => by
  unfold rhAbs at c
  split at c
  case h_1 i =>
    obtain ⟨v, rfl, h⟩ := r.one
    cases h
    exact ⟨i, rfl, k _ _ _ _ (Gr.refl le) (.int _) c⟩
  case h_2 => exact False.elim c⟩
def rhMax : Rho := fun ds C => match ds with | [.int i, .int j] => C (.int (if j > i then j else i)) | _ => False
theorem c_max (hc : X.calm = true) : CallP X (.builtin "max") rhMax := ⟨_, call_max2 hc, fun F H xs ds Q C le r c k => by
  unfold rhMax at c
  split at c
  case h_1 i j =>
    obtain ⟨v, w, rfl, h1, h2⟩ := r.two
    cases h1; cases h2
    exact ⟨i, j, rfl, k _ _ _ _ (Gr.refl le) (.int _) c⟩
  case h_2 => exact False.elim c⟩
def lenD : PyData → Option Nat
  | .list ds => some ds.length
  | .tuple ds => some ds.length
  | _ => none
def rhLen : Rho := fun ds C => match ds with | [d] => (match lenD d with | some n => C (.int n) | none => False) | _ => False
theorem len_any {H : Hp} {v : V} {d : PyData} {n : Nat} (r : Rp X.w X.K H v d) (e : lenD d = some n) : ∃ p ys, v = .ref p ∧ (SqL X.K H p ys ∨ SqT X.K H p ys) ∧ ys.length = n := by
  cases r with
  | lst h hs => cases e; exact ⟨_, _, rfl, .inl h, hs.length⟩
  | tup h hs => cases e; exact ⟨_, _, rfl, .inr h.sqt, hs.length⟩
  | _ => cases e
theorem c_len : CallP X (.builtin "len") rhLen := ⟨_, call_len_seq, fun F H xs ds Q C le r c k => by
  unfold rhLen at c
  split at c
  case h_1 d =>
    split at c
    case h_1 n e =>
      obtain ⟨v, rfl, h⟩ := r.one
      obtain ⟨p, ys, rfl, hh, hl⟩ := len_any (h.mono le) e
      exact ⟨p, ys, rfl, hh, by rw [hl]; exact k _ _ _ _ (Gr.refl le) (.int _) c⟩
    case h_2 => exact False.elim c
  case h_2 => exact False.elim c⟩
/-- len(x) of what x owns, or holds -/
def zLenV (i : Nat) : TauE := fun ev C => match peek ev[i]? with | some d => (match lenD d with | some n => C (.int n) ev | none => False) | none => False
theorem q_lenV (i : Nat) {x : Str} {xp p : Pos} (hg : Gl X "len") (hm : X.mg "len" = none) (hN : X.N[i]? = some x := by rfl) (hv : Vis X.env.scope x := by first | exact Or.inl rfl | exact Or.inr (Or.inl rfl) | exact Or.inr (Or.inr rfl))
    (hd : (x == ("__debug__" : Str)) = false := by decide) (hcd : (x == ("__classdict__" : Str)) = false := by decide) (he : starEach [.Name x xp] X.env = [(false, eval (.Name x xp) X.env)] := by rfl) : QE X (.Call (.Name "len" p) [.Name x xp] [] pos) (zLenV i) := by
  refine ⟨_, pe_callB call_len_seq hg hm boot_len (pa_cons (pe_var hN hv hd hcd) pa_nil he) (by decide) (by decide) he rfl, fun F₀ ev F σ H Q C R h k => ?_⟩
  unfold zLenV at h
  split at h
  case h_1 d e =>
    split at h
    case h_1 n e2 =>
      obtain ⟨v, h1, r⟩ := R.peek e
      obtain ⟨p, ys, rfl, hh, hl⟩ := len_any r e2
      exact ⟨_, h1, p, ys, rfl, hh, by rw [hl]; exact k _ _ _ _ _ R (.int _) (Same.refl _) h⟩
    case h_2 => exact False.elim h
  case h_2 => exact False.elim h
/-! ### isinstance(e, C) -/
def tyD : PyData → String
  | .none => "NoneType" | .bool _ => "bool" | .int _ => "int" | .str _ => "str" | .list _ => "list" | .tuple _ => "tuple" | .dict _ => "dict"
theorem isinstD {pins : List (Addr × Obj)} {σ : St} {H : Hp} {s : Shared} {A : Around} {v : V} {u c : Value} {d : PyData} {b : Bool} {Q : Value → Shared → Prop} {E : Value → Shared → Prop} (I : Inv X pins σ H s) (rx : RelV v u) (r : Rp X.w X.K H v d)
    (e : PySem.W.kitOne X.K (.type (tyD d)) c = some b) (h : ∀ tk, Q (.bool b) { s with toks := tk }) : wpAny (model X.prog X.w) A (call (.builtin "isinstance") [u, c]) Q E s := by
  cases r with
  | non => exact isinst_ok I rx .non e h
  | bl b => exact isinst_ok I rx (.bl b) e h
  | int i => exact isinst_ok I rx (.int i) e h
  | str x => exact isinst_ok I rx (.str x) e h
  | @lst a vs ds hq hs =>
    cases (show u = Value.ref a from rx)
    obtain ⟨its, _, ⟨o, n, h1, h2, _⟩, _⟩ := I.list hq
    exact PySem.W.kia_one PySem.W.kitx_list I.kIn ⟨_, h1, h2⟩ e (fun z => nomatch z) h
  | @tup a vs ds hq hs =>
    cases (show u = Value.ref a from rx)
    obtain ⟨its, _, ⟨o, h1, h2, _⟩, _⟩ := I.tuple hq.sqt
    exact PySem.W.kia_one PySem.W.kitx_tuple I.kIn ⟨o, h1, h2⟩ e (fun z => nomatch z) h
  | @dct a o _ _ _ hq _ r1 =>
    cases (show u = Value.ref a from rx)
    exact PySem.W.kia_one PySem.W.kitx_dict I.kIn ⟨o, (I.hok a _ hq).1, r1.ex.1⟩ e (fun z => nomatch z) h
def rIsiD (w : World) (K : PySem.W.Frag) : List V → Hp → VK → Prop := fun xs H Q => ∃ x c d b, xs = [x, c] ∧ ((∃ n, c = .ty n) ∨ ∃ a, c = .ref a) ∧ Rp w K H x d ∧ PySem.W.kitOne K (.type (tyD d)) (toVal c) = some b ∧ Q (.bl b) H
theorem call_isiD : CallR X (.builtin "isinstance") (rIsiD X.w X.K) := fun pins s σ H xs us Q I r h => by
  obtain ⟨x, c, d, b, rfl, hc, rp, e, q⟩ := h
  obtain ⟨u, u', rfl, r1, r2⟩ := vals2 r
  rw [toVal_rel hc r2]
  exact isinstD I r1 rp e fun tk => ⟨.bl b, H, I.tok tk, rfl, q⟩
/-- isinstance(e, T) for a built-in class T: K's answer for the data's own class -/
def zIsi (K : PySem.W.Frag) (c : Value) (τ : TauE) : TauE := fun ev C => τ ev fun d ev' => ∃ b, PySem.W.kitOne K (.type (tyD d)) c = some b ∧ C (.bool b) ev'
theorem q_isi (K : PySem.W.Frag) {e : Expr} {x : Str} {n : String} {xp p : Pos} {τ : TauE} (h : QE X e τ) (hg : Gl X "isinstance") (hm : X.mg "isinstance" = none) (hgx : Gl X x) (hmx : X.mg x = none) (hvx : bootBuiltins x = some (.type n)) (hn : x ≠ "__name__" := by decide) (hd : (x == ("__debug__" : Str)) = false := by decide)
    (hK : X.K = K := by rfl) (hs : starEach [e, .Name x xp] X.env = (false, eval e X.env) :: starEach [.Name x xp] X.env := by rfl) (hs2 : starEach [.Name x xp] X.env = (false, eval (.Name x xp) X.env) :: starEach [] X.env := by rfl) :
    QE X (.Call (.Name "isinstance" p) [e, .Name x xp] [] pos) (zIsi K (.type n) τ) := by
  subst hK
  obtain ⟨t, ht, ka⟩ := h
  refine ⟨_, pe_callB call_isiD hg hm PyProof.Rows.Boot.«isinstance» (pa_cons ht (pa_cons (pe_ty hgx hmx hvx hn hd) pa_nil hs2) hs) (by decide) (by decide) hs (by rw [hs2]; rfl), fun F₀ ev F σ H Q C R h k => ka F₀ ev F σ H _ _ R h fun d ev' F' v H' R' r s c => ?_⟩
  obtain ⟨b, e, c⟩ := c
  exact ⟨v, .ty n, d, b, rfl, .inl ⟨n, rfl⟩, r.mono R'.le, e, k _ _ _ _ _ R' (.bl b) s c⟩

/-! ### calls of the text's defs -/
abbrev Phi := List PyData → (Rz → Prop) → (Addr → Prop) → Prop
def spP (w : World) (K : PySem.W.Frag) (φ : Phi) : Sp := fun vs H Q E => ∃ (F : Hp) (ds : List PyData) (C : Rz → Prop) (Z : Addr → Prop), Same F H ∧ Rps w K F vs ds ∧ φ ds C Z ∧ (∀ r F' v H', Gr F H F' H' → RR w K F' H H' v r → C r → Q v H') ∧ ∀ c H', Same H H' → Z c → E (.ref c) none H'
def rzD : Rz → PyData
  | .val d => d
  | .own m => frz m
def noX : Addr → Prop := fun _ => False
def zCall (φ : Phi) (Z : Addr → Prop) (τ : TauA) : TauE := fun ev C => τ ev fun ds ev' => φ ds (fun r => C (rzD r) ev') Z
def zCallO (φ : Phi) (Z : Addr → Prop) (τ : TauA) : TauO := fun ev C => τ ev fun ds ev' => φ ds (fun r => match r with | .own m => C m ev' | .val _ => False) Z
def EZ (H₀ : Hp) (Z : Addr → Prop) : XK := fun cls _ H' => ∃ c, cls = .ref c ∧ Z c ∧ Same H₀ H'
/-- exceptions of the classes Z may leave -/
abbrev PassZ (X : Cx) (Z : Addr → Prop) : Prop := Passes (CXR X.prog X.w) X (EZ X.H₀ Z)
theorem passZ0 : PassZ X noX := fun _ _ _ _ _ _ _ h => by
  obtain ⟨_, _, _, _, _, _, _, _, _, _, _, c, _, z, _⟩ := h
  exact z.elim
section
variable {k : Nat} {x : Str} {ps : List Str} {φ : Phi} {Z : Addr → Prop} {p : Pos} {e : Expr} {es : List Expr} {τ : TauA} {E : XK}
theorem call_val {t : TA} (hE : ∀ c H', Z c → Same X.H₀ H' → E (.ref c) none H')
    (ka : ∀ (F₀ : Hp) (ev : Ev) (F : Hp) (σ : St) (H : Hp) (Q : List V → Hp → Prop) (C : List PyData → Ev → Prop), RS X.w X.K X.H₀ F₀ F ev σ H → τ ev C → (∀ d ev' F' v H', RS X.w X.K X.H₀ F₀ F' ev' σ H' → Rps X.w X.K F' v d → Same F F' → C d ev' → Q v H') → t σ H Q)
    (F₀ : Hp) (ev : Ev) (F : Hp) (σ : St) (H : Hp) (Q : VK) (C : PyData → Ev → Prop) (R : RS X.w X.K X.H₀ F₀ F ev σ H) (h : zCall φ Z τ ev C) (k : ∀ d ev' F' v H', RS X.w X.K X.H₀ F₀ F' ev' σ H' → Rp X.w X.K F' v d → Same F F' → C d ev' → Q v H') : tCall (spP X.w X.K φ) [] E t σ H Q := by
  refine ka F₀ ev F σ H _ _ R h fun ds ev' F' vs H' R' r s c => ⟨F', ds, _, Z, R'.le, by rw [List.append_nil]; exact r, c, fun rz F2 v H2 g rr cc => ?_, fun c H2 sm z => hE c H2 z (R'.k0.trans sm)⟩
  cases rz with
  | val d => exact k _ _ _ _ _ (R'.grow g) rr (s.trans g.ff) cc
  | own m =>
    obtain ⟨a, rfl, w, hf, h0⟩ := rr
    obtain ⟨o, ho⟩ := w.there
    have R2 := R'.grow g
    obtain ⟨R3, rp, sm⟩ := R2.freezeT w hf (R'.k0.free h0) (R'.nobody h0) ho
    exact k _ _ _ _ _ R3 rp ((s.trans g.ff).trans sm) cc
theorem call_own {t : TA} (hE : ∀ c H', Z c → Same X.H₀ H' → E (.ref c) none H')
    (ka : ∀ (F₀ : Hp) (ev : Ev) (F : Hp) (σ : St) (H : Hp) (Q : List V → Hp → Prop) (C : List PyData → Ev → Prop), RS X.w X.K X.H₀ F₀ F ev σ H → τ ev C → (∀ d ev' F' v H', RS X.w X.K X.H₀ F₀ F' ev' σ H' → Rps X.w X.K F' v d → Same F F' → C d ev' → Q v H') → t σ H Q)
    (F₀ : Hp) (ev : Ev) (F : Hp) (σ : St) (H : Hp) (Q : VK) (C : MV → Ev → Prop) (R : RS X.w X.K X.H₀ F₀ F ev σ H) (h : zCallO φ Z τ ev C)
    (k : ∀ m ev' F' a H', RS X.w X.K X.H₀ F₀ F' ev' σ H' → Ow X.w X.K F' H' a m → F' a = Option.none → X.H₀ a = Option.none → (∀ (j : Nat) (m' : MV), ev'[j]? = some (.own m') → σ[j]? ≠ some (some (.ref a))) → Same F F' → C m ev' → Q (.ref a) H') : tCall (spP X.w X.K φ) [] E t σ H Q := by
  refine ka F₀ ev F σ H _ _ R h fun ds ev' F' vs H' R' r s c => ⟨F', ds, _, Z, R'.le, by rw [List.append_nil]; exact r, c, fun rz F2 v H2 g rr cc => ?_, fun c H2 sm z => hE c H2 z (R'.k0.trans sm)⟩
  cases rz with
  | val d => exact False.elim cc
  | own m =>
    obtain ⟨a, rfl, w, hf, h0⟩ := rr
    exact k _ _ _ _ _ (R'.grow g) w hf (R'.k0.free h0) (R'.nobody h0) (s.trans g.ff) cc
theorem q_call (c : Cal X.prog X.w X.K X.mg X.base CX0 k x ps (spP X.w X.K φ)) (hr : Room k X.A) (ha : QA X (e :: es) τ) (hg : Gl X x := by rfl) (hdb : (x == ("__debug__" : Str)) = false := by decide)
    (he : starEach (e :: es) X.env = (false, eval e X.env) :: starEach es X.env := by rfl) (hpl : (backTo pos (starEach es X.env)).any (·.1) = false := by rfl) : QE X (.Call (.Name x p) (e :: es) [] pos) (zCall φ noX τ) := by
  obtain ⟨t, ht, ka⟩ := ha
  exact ⟨_, pe_cal c hr pass0 ht hg hdb he hpl, call_val (fun _ _ z => False.elim z) ka⟩
theorem q_callO (c : Cal X.prog X.w X.K X.mg X.base CX0 k x ps (spP X.w X.K φ)) (hr : Room k X.A) (ha : QA X (e :: es) τ) (hg : Gl X x := by rfl) (hdb : (x == ("__debug__" : Str)) = false := by decide)
    (he : starEach (e :: es) X.env = (false, eval e X.env) :: starEach es X.env := by rfl) (hpl : (backTo pos (starEach es X.env)).any (·.1) = false := by rfl) : QO X (.Call (.Name x p) (e :: es) [] pos) (zCallO φ noX τ) := by
  obtain ⟨t, ht, ka⟩ := ha
  exact ⟨_, pe_cal c hr pass0 ht hg hdb he hpl, call_own (fun _ _ z => False.elim z) ka⟩
/-- a def that may raise; Z: the classes that may pass -/
theorem q_callX (Z : Addr → Prop) (hx : PassZ X Z) (c : Cal X.prog X.w X.K X.mg X.base (CXR X.prog X.w) k x ps (spP X.w X.K φ)) (hr : Room k X.A) (ha : QA X (e :: es) τ) (hg : Gl X x := by rfl) (hdb : (x == ("__debug__" : Str)) = false := by decide)
    (he : starEach (e :: es) X.env = (false, eval e X.env) :: starEach es X.env := by rfl) (hpl : (backTo pos (starEach es X.env)).any (·.1) = false := by rfl) : QE X (.Call (.Name x p) (e :: es) [] pos) (zCall φ Z τ) := by
  obtain ⟨t, ht, ka⟩ := ha
  exact ⟨_, pe_cal c hr hx ht hg hdb he hpl, call_val (fun c H' z s => ⟨c, rfl, z, s⟩) ka⟩
theorem q_callXO (Z : Addr → Prop) (hx : PassZ X Z) (c : Cal X.prog X.w X.K X.mg X.base (CXR X.prog X.w) k x ps (spP X.w X.K φ)) (hr : Room k X.A) (ha : QA X (e :: es) τ) (hg : Gl X x := by rfl) (hdb : (x == ("__debug__" : Str)) = false := by decide)
    (he : starEach (e :: es) X.env = (false, eval e X.env) :: starEach es X.env := by rfl) (hpl : (backTo pos (starEach es X.env)).any (·.1) = false := by rfl) : QO X (.Call (.Name x p) (e :: es) [] pos) (zCallO φ Z τ) := by
  obtain ⟨t, ht, ka⟩ := ha
  exact ⟨_, pe_cal c hr hx ht hg hdb he hpl, call_own (fun c H' z s => ⟨c, rfl, z, s⟩) ka⟩
end
end
end L2

set_option Elab.async false
set_option linter.all false
set_option maxRecDepth 100000
set_option maxHeartbeats 1000000
namespace L2
open PySem PySem.Spec PyProof.Rows
section
variable {X : Cx} {pos : Pos}
/-! ### statements -/
def zNx : TauS := fun P ev => P.nx ev
def zSeq (τ υ : TauS) : TauS := fun P ev => τ { P with nx := fun ev' => υ P ev' } ev
theorem q_snil : QSs X [] zNx := ⟨_, pss_nil, fun F₀ D P ev F σ H E R h => E.nx ev F σ H R h⟩
theorem q_sone {st : Stmt} {τ : TauS} (h : QS X st τ) : QSs X [st] τ := by
  obtain ⟨t, ht, k⟩ := h
  exact ⟨t, pss_one ht, k⟩
theorem q_scons {st : Stmt} {rest : List Stmt} {τ υ : TauS} (h : QS X st τ) (g : QSs X rest υ) : QSs X (st :: rest) (zSeq τ υ) := by
  obtain ⟨t, ht, k⟩ := h
  obtain ⟨u, hu, k2⟩ := g
  exact ⟨_, pss_cons ht hu, fun F₀ D P ev F σ H E R h => k F₀ _ { P with nx := fun ev' => υ P ev' } ev F σ H ⟨fun ev' F' σ' H' R' z => k2 F₀ D P ev' F' σ' H' E R' z, E.rt, E.bk, E.ct⟩ R h⟩
def zBk : TauS := fun P ev => P.bk ev
def zCt : TauS := fun P ev => P.ct ev
theorem q_pass : QS X (.Pass pos) zNx := ⟨_, ps_pass, fun F₀ D P ev F σ H E R h => E.nx ev F σ H R h⟩
theorem q_break : QS X (.Break pos) zBk := ⟨_, ps_break, fun F₀ D P ev F σ H E R h => E.bk ev F σ H R h⟩
theorem q_continue : QS X (.Continue pos) zCt := ⟨_, ps_continue, fun F₀ D P ev F σ H E R h => E.ct ev F σ H R h⟩
def zNever : TauS := fun _ _ => False
theorem q_never {st : Stmt} : QS X st zNever := ⟨_, ps_never, fun _ _ _ _ _ _ _ _ _ h => h⟩
theorem q_snever {st : List Stmt} : QSs X st zNever := ⟨_, pss_never, fun _ _ _ _ _ _ _ _ _ h => h⟩
def zExpr (τ : TauE) : TauS := fun P ev => τ ev fun _ ev' => P.nx ev'
theorem q_expr {e : Expr} {τ : TauE} (h : QE X e τ) (hs : swapsWith e none pos.line X.env = pure false := by rfl) : QS X (.Expr e pos) (zExpr τ) := by
  obtain ⟨t, ht, k⟩ := h
  exact ⟨_, ps_expr ht hs, fun F₀ D P ev F σ H E R h => k F₀ ev F σ H _ _ R h fun d ev' F' v H' R' r s c => E.nx _ _ _ _ R' c⟩
def zRet (τ : TauE) : TauS := fun P ev => τ ev fun d _ => P.rt (.val d)
theorem q_ret {e : Expr} {τ : TauE} (h : QE X e τ) : QS X (.Return (some e) pos) (zRet τ) := by
  obtain ⟨t, ht, k⟩ := h
  exact ⟨_, ps_ret ht, fun F₀ D P ev F σ H E R h => k F₀ ev F σ H _ _ R h fun d ev' F' v H' R' r s c => E.rt (.val d) F' v H' R'.toRB r c⟩
def zRetO (τ : TauO) : TauS := fun P ev => τ ev fun m _ => P.rt (.own m)
theorem q_retO {e : Expr} {τ : TauO} (h : QO X e τ) : QS X (.Return (some e) pos) (zRetO τ) := by
  obtain ⟨t, ht, k⟩ := h
  exact ⟨_, ps_ret ht, fun F₀ D P ev F σ H E R h => k F₀ ev F σ H _ _ R h fun m ev' F' a H' R' w hf h0 hu s c => E.rt (.own m) F' _ H' R'.toRB ⟨a, rfl, w, hf, h0⟩ c⟩
def zRetN : TauS := fun P _ => P.rt (.val .none)
theorem q_retN : QS X (.Return none pos) zRetN := ⟨_, ps_retN, fun F₀ D P ev F σ H E R h => E.rt (.val .none) F _ H R.toRB .non h⟩
def zIf (τ : TauT) (υ ω : TauS) : TauS := fun P ev => τ ev fun b ev' => if b = true then υ P ev' else ω P ev'
theorem q_if {c : Expr} {a b : List Stmt} {τ : TauT} {υ ω : TauS} (hc : QT X c τ) (ha : QSs X a υ) (hb : QSs X b ω) : QS X (.If c a b pos) (zIf τ υ ω) := by
  obtain ⟨t, ht, kc⟩ := hc
  obtain ⟨ta, ha, ka⟩ := ha
  obtain ⟨tb, hb, kb⟩ := hb
  refine ⟨_, ps_if ht ha hb, fun F₀ D P ev F σ H E R h => kc F₀ ev F σ H _ _ R h fun b ev' F' H' R' s c => ?_⟩
  cases b with
  | true => exact ka F₀ D P ev' F' σ H' E R' c
  | false => exact kb F₀ D P ev' F' σ H' E R' c
/-- ways that meet again -/
def zMid (τ : TauS) : TauS := fun P ev => ∃ M : Ev → Prop, τ { P with nx := M } ev ∧ ∀ ev', M ev' → P.nx ev'
theorem q_mid {st : Stmt} {τ : TauS} (h : QS X st τ) : QS X st (zMid τ) := by
  obtain ⟨t, ht, k⟩ := h
  refine ⟨t, ht, fun F₀ D P ev F σ H E R h => ?_⟩
  obtain ⟨M, q, hm⟩ := h
  exact k F₀ D { P with nx := M } ev F σ H ⟨fun ev' F' σ' H' R' z => E.nx _ _ _ _ R' (hm _ z), E.rt, E.bk, E.ct⟩ R q
def zSet (i : Nat) (τ : TauE) : TauS := fun P ev => τ ev fun d ev' => P.nx (ev'.set i (.val d))
theorem q_set (i : Nat) {x : Str} {e : Expr} {pos' : Pos} {τ : TauE} (hN : X.N.Nodup) (h : QE X e τ) (hi : X.N[i]? = some x := by rfl) (hx : Loc X.env.scope x := by first | exact Or.inl rfl | exact Or.inr rfl) (hs : swapsWith e (some (.Name x pos')) pos.line X.env = pure false := by rfl)
    (hf : X.fn x = true ∨ X.env.scope.names.lookup x = some .local := by first | exact .inl rfl | exact .inr rfl) : QS X (.Assign [.Name x pos'] e pos) (zSet i τ) := by
  obtain ⟨t, ht, k⟩ := h
  exact ⟨_, ps_set hN hi hx ht hs hf, fun F₀ D P ev F σ H E R h => k F₀ ev F σ H _ _ R h fun d ev' F' v H' R' r s c => E.nx _ _ _ _ (R'.setV r i) c⟩
def zSetO (i : Nat) (τ : TauO) : TauS := fun P ev => τ ev fun m ev' => P.nx (ev'.set i (.own m))
theorem q_setO (i : Nat) {x : Str} {e : Expr} {pos' : Pos} {τ : TauO} (hN : X.N.Nodup) (h : QO X e τ) (hi : X.N[i]? = some x := by rfl) (hx : Loc X.env.scope x := by first | exact Or.inl rfl | exact Or.inr rfl) (hs : swapsWith e (some (.Name x pos')) pos.line X.env = pure false := by rfl)
    (hf : X.fn x = true ∨ X.env.scope.names.lookup x = some .local := by first | exact .inl rfl | exact .inr rfl) : QS X (.Assign [.Name x pos'] e pos) (zSetO i τ) := by
  obtain ⟨t, ht, k⟩ := h
  exact ⟨_, ps_set hN hi hx ht hs hf, fun F₀ D P ev F σ H E R h => k F₀ ev F σ H _ _ R h fun m ev' F' a H' R' w hf h0 hu s c => E.nx _ _ _ _ (R'.setO w hf h0 hu i) c⟩
/-! ### targets -/
abbrev TauG := PyData → Ev → (Ev → Prop) → Prop
def QG (X : Cx) (S : List Nat) (tg : Expr) (γ : TauG) : Prop := ∃ g : TG, PG X tg g ∧ ∀ (F₀ : Hp) (ev : Ev) (F : Hp) (σ : St) (H : Hp) (v : V) (d : PyData) (Q : St → Hp → Prop) (C : Ev → Prop), RS X.w X.K X.H₀ F₀ F ev σ H → Rp X.w X.K F v d → γ d ev C → (∀ ev' σ', RS X.w X.K X.H₀ F₀ F ev' σ' H → (∀ j, j ∉ S → σ'[j]? = σ[j]?) → C ev' → Q σ' H) → g v σ H Q
def zGn (i : Nat) : TauG := fun d ev C => C (ev.set i (.val d))
theorem q_gn (i : Nat) {x : Str} (hN : X.N.Nodup) (hi : X.N[i]? = some x := by rfl) (hx : Loc X.env.scope x := by first | exact Or.inl rfl | exact Or.inr rfl) (hf : X.fn x = true ∨ X.env.scope.names.lookup x = some .local := by first | exact .inl rfl | exact .inr rfl) : QG X [i] (.Name x pos) (zGn i) :=
  ⟨_, pg_name hN hi hx hf, fun F₀ ev F σ H v d Q C R r h k => k _ _ (R.setV r i) (fun j hj => List.getElem?_set_ne (fun z => hj (by rw [z]; exact List.mem_cons_self))) h⟩
abbrev TauGs := List PyData → Ev → (Ev → Prop) → Prop
def QGs (X : Cx) (S : List Nat) (tg : List Expr) (γ : TauGs) : Prop := ∃ g : TGs, PGs X tg g ∧ ∀ (F₀ : Hp) (ev : Ev) (F : Hp) (σ : St) (H : Hp) (v : List V) (d : List PyData) (Q : St → Hp → Prop) (C : Ev → Prop), RS X.w X.K X.H₀ F₀ F ev σ H → Rps X.w X.K F v d → γ d ev C → (∀ ev' σ', RS X.w X.K X.H₀ F₀ F ev' σ' H → (∀ j, j ∉ S → σ'[j]? = σ[j]?) → C ev' → Q σ' H) → g v σ H Q
def zGnil : TauGs := fun ds ev C => match ds with | [] => C ev | _ => False
def zGcons (γ : TauG) (δ : TauGs) : TauGs := fun ds ev C => match ds with | d :: r => γ d ev fun ev' => δ r ev' C | [] => False
theorem q_gnil : QGs X [] [] zGnil := ⟨_, pgs_nil, fun F₀ ev F σ H v d Q C R r h k => by
  cases r with
  | nil => exact ⟨rfl, k _ _ R (fun _ _ => rfl) h⟩
  | cons => exact False.elim h⟩
theorem q_gcons {e : Expr} {es : List Expr} {γ : TauG} {δ : TauGs} {S S' : List Nat} (h : QG X S e γ) (g : QGs X S' es δ) (hs : (assignEach (e :: es) X.env).map (·.2) = assign e X.env :: (assignEach es X.env).map (·.2) := by rfl) : QGs X (S ++ S') (e :: es) (zGcons γ δ) := by
  obtain ⟨t, ht, k⟩ := h
  obtain ⟨u, hu, k2⟩ := g
  refine ⟨_, pgs_cons ht hu hs, fun F₀ ev F σ H v d Q C R r h kk => ?_⟩
  cases r with
  | nil => exact False.elim h
  | cons r1 r2 => exact ⟨_, _, rfl, k F₀ ev F σ H _ _ _ _ R r1 h fun ev' σ' R' e1 c => k2 F₀ ev' F σ' H _ _ _ _ R' r2 c fun ev2 σ2 R2 e2 c2 => kk _ _ R2 (fun j hj => (e2 j (fun z => hj (List.mem_append_right _ z))).trans (e1 j (fun z => hj (List.mem_append_left _ z)))) c2⟩
def zGtup (n : Nat) (δ : TauGs) : TauG := fun d ev C => match d with | .tuple ds => ds.length = n ∧ δ ds ev C | _ => False
theorem q_gtup {es : List Expr} {kk : Nat} {n : Nat} {δ : TauGs} {S : List Nat} (hc : X.calm = true) (h : QGs X S es δ) (hn : (assignEach es X.env).length = n := by rfl) (hst : (assignEach es X.env).findIdx? (·.1) = none := by rfl) : QG X S (.Tuple es kk pos) (zGtup n δ) := by
  obtain ⟨t, ht, k⟩ := h
  refine ⟨_, pg_tup hc ht hn hst, fun F₀ ev F σ H v d Q C R r h kk => ?_⟩
  cases r with
  | tup hq hs => exact ⟨_, _, rfl, R.le.sqt hq.sqt, by rw [hs.length]; exact h.1, k F₀ ev F σ H _ _ _ _ R hs h.2 kk⟩
  | _ => exact False.elim h
def zAsg (τ : TauE) (γ : TauG) : TauS := fun P ev => τ ev fun d ev' => γ d ev' P.nx
theorem q_asg {tg e : Expr} {τ : TauE} {γ : TauG} {S : List Nat} (he : QE X e τ) (hg : QG X S tg γ) (hs : swapsWithSole [tg] e pos.line X.env = pure false := by rfl) (hw : swappedStores [tg] e X.env = pure none := by rfl)
    (h1 : (assignEach [tg] X.env).map (·.2) = [assign tg X.env] := by rfl) : QS X (.Assign [tg] e pos) (zAsg τ γ) := by
  obtain ⟨t, ht, k⟩ := he
  obtain ⟨g, hg, k2⟩ := hg
  exact ⟨_, ps_asg ht hg hs hw h1, fun F₀ D P ev F σ H E R h => k F₀ ev F σ H _ _ R h fun d ev' F' v H' R' r s c => k2 F₀ ev' F' σ H' v d _ _ R' r c fun ev2 σ2 R2 _ c2 => E.nx _ _ _ _ R2 c2⟩
/-! ### x.append(e), x[k] = e -/
def zApp (i : Nat) (τ : TauE) : TauS := fun P ev => (∃ ds, ev[i]? = some (.own (.lst ds))) ∧ τ ev fun d ev' => match ev'[i]? with | some (.own (.lst ds)) => ds.length < sizeLine ∧ P.nx (ev'.set i (.own (.lst (ds ++ [d])))) | _ => False
theorem q_app (i : Nat) {x : Str} {xp apos cpos : Pos} {e : Expr} {τ : TauE} (h : QE X e τ) (hN : X.N[i]? = some x := by rfl) (hv : Vis X.env.scope x := by first | exact Or.inl rfl | exact Or.inr (Or.inl rfl) | exact Or.inr (Or.inr rfl))
    (hd : (x == ("__debug__" : Str)) = false := by decide) (hcd : (x == ("__classdict__" : Str)) = false := by decide) (hs : swapsWith (.Call (.Attribute (.Name x xp) "append" apos) [e] [] cpos) none pos.line X.env = pure false := by rfl)
    (hst : starEach [e] X.env = [(false, eval e X.env)] := by rfl) (hbase : attributeBase (.Name x xp) "append" X.env (eval (.Name x xp) X.env) = eval (.Name x xp) X.env := by rfl) (hline : (apos.endLine == cpos.line) = true := by rfl)
    (hfew : ((backTo cpos (starEach [e] X.env)).all (fun x => !x.1) && (backToKw cpos (keywordEach [] X.env)).all (fun x => x.1.isSome) && decide (([e] : List Expr).length + ([] : List Keyword).length + (if ([] : List Keyword).isEmpty then 0 else 1) < 30)) = true := by rfl) :
    QS X (.Expr (.Call (.Attribute (.Name x xp) "append" apos) [e] [] cpos) pos) (zApp i τ) := by
  obtain ⟨t, ht, ka⟩ := h
  refine ⟨_, ps_expr (pe_bm PySem.F.plainAttrs_list PySem.F.slot_list_append PySem.F.type_list_append mt_append (pe_var hN hv hd hcd) (pa_cons ht pa_nil hst) hbase hfew hline hst (by rw [show starEach [] X.env = [] from rfl]; rfl)) hs, fun F₀ D P ev F σ H E R h => ?_⟩
  obtain ⟨⟨ds0, e0⟩, h⟩ := h
  obtain ⟨a, vs0, s0, g0, _⟩ := R.item e0
  refine ⟨.ref a, s0, .inl ⟨rfl, _, SqL.of g0⟩, ka F₀ ev F σ H _ _ R h fun d ev' F' v H' R' r s c => ?_⟩
  split at c
  case h_1 ds e1 =>
    obtain ⟨a', vs, s1, h1, h2⟩ := R'.item e1
    rw [s0] at s1; cases s1
    refine ⟨a, vs, v, rfl, rfl, h1, by rw [h2.length]; exact c.1, E.nx _ _ _ _ (R'.change e1 s0 (m' := .lst (ds ++ [d])) ?_) c.2⟩
    exact ⟨_, upd_same, h2.append (.cons r .nil)⟩
  case h_2 => exact False.elim c
def zPut (i : Nat) (τk τ : TauE) : TauS := fun P ev => (τ ev fun d ev1 => (∃ ds, ev1[i]? = some (.own (.lst ds))) ∧ τk ev1 fun k ev2 => match ev2[i]?, k with
  | some (.own (.lst ds)), .int kk => optC (ixN ds.length kk) fun j => P.nx (ev2.set i (.own (.lst (ds.set j d))))
  | _, _ => False)
theorem q_put (i : Nat) {x : Str} {xp tp : Pos} {b e : Expr} {τk τ : TauE} (h : QE X e τ) (hk : QE X b τk) (hN : X.N[i]? = some x := by rfl) (hv : Vis X.env.scope x := by first | exact Or.inl rfl | exact Or.inr (Or.inl rfl) | exact Or.inr (Or.inr rfl))
    (hd : (x == ("__debug__" : Str)) = false := by decide) (hcd : (x == ("__classdict__" : Str)) = false := by decide)
    (ha : ∀ v, assign (.Subscript (.Name x xp) b tp) X.env v = (do
      let ov ← holding [v] (eval (.Name x xp) X.env)
      let iv ← holding [v, ov] (eval b X.env)
      standAt tp
      holding [v, ov, iv] (setItem ov iv v)
      release [v, ov, iv] []) := by intro _; rfl)
    (hs : swapsWithSole [.Subscript (.Name x xp) b tp] e pos.line X.env = pure false := by rfl) (hw : swappedStores [.Subscript (.Name x xp) b tp] e X.env = pure none := by rfl)
    (h1 : (assignEach [.Subscript (.Name x xp) b tp] X.env).map (·.2) = [assign (.Subscript (.Name x xp) b tp) X.env] := by rfl) : QS X (.Assign [.Subscript (.Name x xp) b tp] e pos) (zPut i τk τ) := by
  obtain ⟨t, ht, ka⟩ := h
  obtain ⟨u, hu, kb⟩ := hk
  refine ⟨_, ps_asg ht (pg_sub (pe_var hN hv hd hcd) hu set_list ha) hs hw h1, fun F₀ D P ev F σ H E R h => ka F₀ ev F σ H _ _ R h fun d ev1 F1 v H1 R1 r s c => ?_⟩
  obtain ⟨⟨ds0, e0⟩, c⟩ := c
  obtain ⟨a, vs0, s0, g0, _⟩ := R1.item e0
  refine ⟨.ref a, s0, kb F₀ ev1 F1 σ H1 _ _ R1 c fun dk ev2 F2 vk H2 R2 r2 s2 c2 => ?_⟩
  split at c2
  case h_1 ds kk e1 =>
    cases r2
    cases e2 : ixN ds.length kk with
    | some j =>
      rw [e2] at c2
      obtain ⟨a', vs, s1, h1, h2⟩ := R2.item e1
      rw [s0] at s1; cases s1
      refine ⟨a, vs, kk, j, rfl, rfl, h1, by rw [h2.length]; exact e2, E.nx _ _ _ _ (R2.change e1 s0 (m' := .lst (ds.set j d)) ?_) c2⟩
      exact ⟨_, upd_same, h2.set (r.mono s2) j⟩
    | none =>
      rw [e2] at c2
      exact False.elim c2
  case h_2 => exact False.elim c2
/-! ### loops -/
def zWhile (τ : TauT) (υ : TauS) : TauS := fun P ev => ∃ W : Nat → Ev → Prop, (∃ m, W m ev) ∧ ∀ m ev, W m ev →
  τ ev fun b ev1 => if b = true then ∃ N : Ev → Prop, (∀ ev', N ev' → ∃ m', m' < m ∧ W m' ev') ∧ υ { P with nx := N, ct := N, bk := P.nx } ev1 else P.nx ev1
theorem q_while {c : Expr} {body : List Stmt} {τ : TauT} {υ : TauS} (hp : PassesOwn (model X.prog X.w) X.A X.env X.xe) (hc : QT X c τ) (hb : QSs X body υ) : QS X (.While c body [] pos) (zWhile τ υ) := by
  obtain ⟨t, ht, kc⟩ := hc
  obtain ⟨tb, hb, kb⟩ := hb
  refine ⟨_, ps_while hp ht hb, fun F₀ D P ev F σ H E R h => ?_⟩
  obtain ⟨W, ⟨m0, w0⟩, turn⟩ := h
  refine ⟨fun m σ' H' => ∃ ev' F', RS X.w X.K X.H₀ F₀ F' ev' σ' H' ∧ W m ev', ⟨m0, ev, F, R, w0⟩, fun m σ1 H1 z => ?_⟩
  obtain ⟨ev1, F1, R1, w1⟩ := z
  refine kc F₀ ev1 F1 σ1 H1 _ _ R1 (turn m ev1 w1) fun b ev2 F2 H2 R2 s2 c2 => ?_
  cases b with
  | true =>
    rw [if_pos rfl] at c2 ⊢
    obtain ⟨N, hN, q⟩ := c2
    refine ⟨fun σ' H' => ∃ ev' F', RS X.w X.K X.H₀ F₀ F' ev' σ' H' ∧ N ev', fun σ' H' ⟨ev', F', R', n'⟩ => ?_, kb F₀ _ { P with nx := N, ct := N, bk := P.nx } ev2 F2 σ1 H2 ⟨fun ev' F' σ' H' R' z => ⟨ev', F', R', z⟩, E.rt, E.nx, fun ev' F' σ' H' R' z => ⟨ev', F', R', z⟩⟩ R2 q⟩
    obtain ⟨m', hm, w'⟩ := hN ev' n'
    exact ⟨m', hm, ev', F', R', w'⟩
  | false =>
    rw [if_neg Bool.false_ne_true] at c2 ⊢
    exact E.nx _ _ _ _ R2 c2
/-- over the items of a list or a tuple -/
def LoopD (ds : List PyData) (γ : TauG) (υ : TauS) : TauS := fun P ev => ∃ J : Nat → Ev → Prop, J 0 ev ∧ (∀ i x ev', ds[i]? = some x → J i ev' → γ x ev' fun ev2 => υ { P with nx := J (i + 1), ct := J (i + 1), bk := P.nx } ev2) ∧ ∀ ev', J ds.length ev' → P.nx ev'
def zForL (τ : TauE) (γ : TauG) (υ : TauS) : TauS := fun P ev => τ ev fun d ev1 => match d with | .list ds => LoopD ds γ υ P ev1 | _ => False
def zForT (τ : TauE) (γ : TauG) (υ : TauS) : TauS := fun P ev => τ ev fun d ev1 => match d with | .tuple ds => LoopD ds γ υ P ev1 | _ => False
theorem endLoop {w : World} {K : PySem.W.Frag} {H₀ F₀ F1 σ1H : Hp} {D : Ends} {P : PEn} {J : Ev → Prop} {Jv : St → Hp → Prop} (E : EndOk w K H₀ F₀ D P) (R1 : RB H₀ F₀ F1 σ1H) (hj : ∀ ev F σ H, RS w K H₀ F1 F ev σ H → J ev → Jv σ H) :
    EndOk w K H₀ F1 { D with nx := Jv, ct := Jv, bk := D.nx } { P with nx := J, ct := J, bk := P.nx } :=
  ⟨hj, fun r F v H b rr z => E.rt r F v H (R1.unbase b) rr z, fun ev F σ H R z => E.nx ev F σ H (RS.unbase R1 R) z, hj⟩
theorem q_forL {tg iter : Expr} {body : List Stmt} {τ : TauE} {γ : TauG} {υ : TauS} (hp : PassesOwn (model X.prog X.w) X.A X.env X.xe) (hc : X.calm = true) (hi : QE X iter τ) {S : List Nat} (hg : QG X S tg γ) (hb : QSs X body υ) (hs : ∀ x, foldedSetIterable iter X.env x = pure x := by intro _; rfl) :
    QS X (.For tg iter body [] pos) (zForL τ γ υ) := by
  obtain ⟨t, ht, ka⟩ := hi
  obtain ⟨g, hg, kg⟩ := hg
  obtain ⟨tb, hb, kb⟩ := hb
  refine ⟨_, ps_for hp hc (pi_list ht) hg hb hs, fun F₀ D P ev F σ H E R h => ka F₀ ev F σ H _ _ R h fun d ev1 F1 v H1 R1 r s c => ?_⟩
  cases r with
  | @lst a vs ds hq hr =>
    obtain ⟨J, j0, jt, je⟩ := c
    refine ⟨a, rfl, ⟨vs, R1.le.seq hq⟩, for_list (xs := vs) (fun i σ' H' => ∃ ev' F', RS X.w X.K X.H₀ F1 F' ev' σ' H' ∧ J i ev') ⟨ev1, F1, R1.rebase, j0⟩ (fun i σ' H' _ z => ?_) (fun i x σ' H' hx z => ?_) (fun σ' H' z => ?_)⟩
    · obtain ⟨ev', F', R', _⟩ := z
      exact (R'.f0.trans R'.le).seq hq
    · obtain ⟨ev', F', R', j'⟩ := z
      obtain ⟨d, hd, rd⟩ := hr.getV hx
      exact kg F1 ev' F' σ' H' x d _ _ R' (rd.mono R'.f0) (jt i d ev' hd j') fun ev2 σ2 R2 _ c2 => kb F1 _ _ ev2 F' σ2 H' (endLoop E R1.toRB fun ev F σ H R z => ⟨ev, F, R, z⟩) R2 c2
    · obtain ⟨ev', F', R', j'⟩ := z
      rw [hr.length] at j'
      exact E.nx _ _ _ _ (RS.unbase R1.toRB R') (je ev' j')
  | _ => exact False.elim c
theorem q_forT {tg iter : Expr} {body : List Stmt} {τ : TauE} {γ : TauG} {υ : TauS} (hp : PassesOwn (model X.prog X.w) X.A X.env X.xe) (hc : X.calm = true) (hi : QE X iter τ) {S : List Nat} (hg : QG X S tg γ) (hb : QSs X body υ) (hs : ∀ x, foldedSetIterable iter X.env x = pure x := by intro _; rfl) :
    QS X (.For tg iter body [] pos) (zForT τ γ υ) := by
  obtain ⟨t, ht, ka⟩ := hi
  obtain ⟨g, hg, kg⟩ := hg
  obtain ⟨tb, hb, kb⟩ := hb
  refine ⟨_, ps_for hp hc (pi_tup ht) hg hb hs, fun F₀ D P ev F σ H E R h => ka F₀ ev F σ H _ _ R h fun d ev1 F1 v H1 R1 r s c => ?_⟩
  cases r with
  | @tup a vs ds hq hr =>
    obtain ⟨J, j0, jt, je⟩ := c
    refine ⟨a, rfl, ⟨vs, R1.le.sqt hq.sqt⟩, for_tup (xs := vs) (fun i σ' H' => ∃ ev' F', RS X.w X.K X.H₀ F1 F' ev' σ' H' ∧ J i ev') ⟨ev1, F1, R1.rebase, j0⟩ (fun i σ' H' _ z => ?_) (fun i x σ' H' hx z => ?_) (fun σ' H' z => ?_)⟩
    · obtain ⟨ev', F', R', _⟩ := z
      exact (R'.f0.trans R'.le).sqt hq.sqt
    · obtain ⟨ev', F', R', j'⟩ := z
      obtain ⟨d, hd, rd⟩ := hr.getV hx
      exact kg F1 ev' F' σ' H' x d _ _ R' (rd.mono R'.f0) (jt i d ev' hd j') fun ev2 σ2 R2 _ c2 => kb F1 _ _ ev2 F' σ2 H' (endLoop E R1.toRB fun ev F σ H R z => ⟨ev, F, R, z⟩) R2 c2
    · obtain ⟨ev', F', R', j'⟩ := z
      rw [hr.length] at j'
      exact E.nx _ _ _ _ (RS.unbase R1.toRB R') (je ev' j')
  | _ => exact False.elim c
/-- over a range -/
def LoopN (lo : Int) (n : Nat) (γ : TauG) (υ : TauS) : TauS := fun P ev => ∃ J : Nat → Ev → Prop, J 0 ev ∧ (∀ i ev', i < n → J i ev' → γ (.int (lo + i)) ev' fun ev2 => υ { P with nx := J (i + 1), ct := J (i + 1), bk := P.nx } ev2) ∧ ∀ ev', J n ev' → P.nx ev'
def zForR1 (τ : TauA) (γ : TauG) (υ : TauS) : TauS := fun P ev => τ ev fun ds ev1 => match ds with | [.int j] => (-(2 ^ 62) ≤ j ∧ j < 2 ^ 62) ∧ LoopN 0 j.toNat γ υ P ev1 | _ => False
def zForR2 (τ : TauA) (γ : TauG) (υ : TauS) : TauS := fun P ev => τ ev fun ds ev1 => match ds with | [.int i, .int j] => (-(2 ^ 62) ≤ i ∧ i < 2 ^ 62 ∧ -(2 ^ 62) ≤ j ∧ j < 2 ^ 62) ∧ LoopN i (j - i).toNat γ υ P ev1 | _ => False
theorem loopN {S : List Nat} {w : World} {K : PySem.W.Frag} {H₀ F₀ F1 H1 : Hp} {lo : Int} {n : Nat} {γ : TauG} {υ : TauS} {g : TG} {tb : TS} {D : Ends} {P : PEn} {ev1 : Ev} {σ : St} (E : EndOk w K H₀ F₀ D P) (R1 : RS w K H₀ F₀ F1 ev1 σ H1)
    (kg : ∀ (F₀ : Hp) (ev : Ev) (F : Hp) (σ : St) (H : Hp) (v : V) (d : PyData) (Q : St → Hp → Prop) (C : Ev → Prop), RS w K H₀ F₀ F ev σ H → Rp w K F v d → γ d ev C → (∀ ev' σ', RS w K H₀ F₀ F ev' σ' H → (∀ j, j ∉ S → σ'[j]? = σ[j]?) → C ev' → Q σ' H) → g v σ H Q)
    (kb : ∀ (F₀ : Hp) (D : Ends) (P : PEn) (ev : Ev) (F : Hp) (σ : St) (H : Hp), EndOk w K H₀ F₀ D P → RS w K H₀ F₀ F ev σ H → υ P ev → tb D σ H) (h : LoopN lo n γ υ P ev1) :
    ∃ W : Nat → Nat → St → Hp → Prop, (∃ m, W 0 m σ H1) ∧ ∀ i m σ H, W i m σ H →
      ((Itr lo n).stop i H ∧ D.nx σ H) ∨ ((Itr lo n).go i H ∧ ∃ N : St → Hp → Prop, (∀ σ' H', N σ' H' → ∃ m', m' < m ∧ W (i + 1) m' σ' H') ∧ ∀ x H', (Itr lo n).yld i H x H' → g x σ H' fun σ2 H2 => tb { D with nx := N, ct := N, bk := D.nx } σ2 H2) := by
  obtain ⟨J, j0, jt, je⟩ := h
  refine for_range (fun i σ' H' => ∃ ev' F', RS w K H₀ F1 F' ev' σ' H' ∧ J i ev') ⟨ev1, F1, R1.rebase, j0⟩ (fun i σ' H' hi z => ?_) (fun σ' H' z => ?_)
  · obtain ⟨ev', F', R', j'⟩ := z
    exact kg F1 ev' F' σ' H' _ _ _ _ R' (.int _) (jt i ev' hi j') fun ev2 σ2 R2 _ c2 => kb F1 _ _ ev2 F' σ2 H' (endLoop E R1.toRB fun ev F σ H R z => ⟨ev, F, R, z⟩) R2 c2
  · obtain ⟨ev', F', R', j'⟩ := z
    exact E.nx _ _ _ _ (RS.unbase R1.toRB R') (je ev' j')
theorem q_forR1 {tg a : Expr} {body : List Stmt} {p pp : Pos} {τ : TauA} {γ : TauG} {υ : TauS} (hp : PassesOwn (model X.prog X.w) X.A X.env X.xe) (hc : X.calm = true) (hgl : Gl X "range") (hm : X.mg "range" = none) (hi : QA X [a] τ) {S : List Nat} (hg : QG X S tg γ) (hb : QSs X body υ)
    (hst : starEach [a] X.env = [(false, eval a X.env)] := by rfl) (hs : ∀ x, foldedSetIterable (.Call (.Name "range" p) [a] [] pp) X.env x = pure x := by intro _; rfl) : QS X (.For tg (.Call (.Name "range" p) [a] [] pp) body [] pos) (zForR1 τ γ υ) := by
  obtain ⟨t, ht, ka⟩ := hi
  obtain ⟨g, hg, kg⟩ := hg
  obtain ⟨tb, hb, kb⟩ := hb
  refine ⟨_, ps_for hp hc (pi_range1 hgl hm ht hst) hg hb hs, fun F₀ D P ev F σ H E R h => ka F₀ ev F σ H _ _ R h fun ds ev1 F1 v H1 R1 r s c => ?_⟩
  split at c
  case h_1 j =>
    obtain ⟨w, rfl, h⟩ := r.one
    cases h
    exact ⟨j, rfl, c.1.1, c.1.2, loopN E R1 kg kb c.2⟩
  case h_2 => exact False.elim c
theorem q_forR2 {tg a b : Expr} {body : List Stmt} {p pp : Pos} {τ : TauA} {γ : TauG} {υ : TauS} (hp : PassesOwn (model X.prog X.w) X.A X.env X.xe) (hc : X.calm = true) (hgl : Gl X "range") (hm : X.mg "range" = none) (hi : QA X [a, b] τ) {S : List Nat} (hg : QG X S tg γ) (hb : QSs X body υ)
    (hst : starEach [a, b] X.env = [(false, eval a X.env), (false, eval b X.env)] := by rfl) (hst2 : starEach [b] X.env = [(false, eval b X.env)] := by rfl) (hs : ∀ x, foldedSetIterable (.Call (.Name "range" p) [a, b] [] pp) X.env x = pure x := by intro _; rfl) :
    QS X (.For tg (.Call (.Name "range" p) [a, b] [] pp) body [] pos) (zForR2 τ γ υ) := by
  obtain ⟨t, ht, ka⟩ := hi
  obtain ⟨g, hg, kg⟩ := hg
  obtain ⟨tb, hb, kb⟩ := hb
  refine ⟨_, ps_for hp hc (pi_range2 hgl hm ht hst hst2) hg hb hs, fun F₀ D P ev F σ H E R h => ka F₀ ev F σ H _ _ R h fun ds ev1 F1 v H1 R1 r s c => ?_⟩
  split at c
  case h_1 i j =>
    obtain ⟨w, w2, rfl, h, h'⟩ := r.two
    cases h; cases h'
    exact ⟨i, j, rfl, c.1, loopN E R1 kg kb c.2⟩
  case h_2 => exact False.elim c
/-! ### raise -/
abbrev RaiseZ (X : Cx) (Z : Addr → Prop) : Prop := RaisesTo X (EZ X.H₀ Z)
def zRaise (C : Addr) (Z : Addr → Prop) (τ : TauA) : TauS := fun _ ev => τ ev fun ds _ => ds.length ≤ sizeLine ∧ Z C
theorem q_raise {Z : Addr → Prop} {C : Addr} {x : Str} {np cpos : Pos} {e₀ : Expr} {es : List Expr} {τ : TauA} (hr : RaiseZ X Z) (hh : X.A.handled = none) (hg : Gl X x) (hm : X.mg x = some (.ref C)) (hq : ExcC X.K C) (ha : QA X (e₀ :: es) τ) (hdb : (x == ("__debug__" : Str)) = false := by decide)
    (he : starEach (e₀ :: es) X.env = (false, eval e₀ X.env) :: starEach es X.env := by rfl) (hpl : (backTo cpos (starEach es X.env)).any (·.1) = false := by rfl) : QS X (.Raise (some (.Call (.Name x np) (e₀ :: es) [] cpos)) none pos) (zRaise C Z τ) := by
  obtain ⟨t, ht, ka⟩ := ha
  exact ⟨_, ps_raise hr hh hg hm hq ht hdb he hpl, fun F₀ D P ev F σ H E R h => ka F₀ ev F σ H _ _ R h fun ds ev1 F1 v H1 R1 r s c => ⟨by rw [r.length]; exact c.1, C, rfl, c.2, R1.k0⟩⟩
end
/-! ### a def -/
section
variable {P : Program} {w : World} {K : PySem.W.Frag} {mg : Str → Option Value} {base : Heap}
def startE (N : List Str) (ds : List PyData) : Ev := ds.map Sl.val ++ List.replicate (N.length - ds.length) .unk
theorem start_rs {F H : Hp} {N : List Str} {vs : List V} {ds : List PyData} (le : Same F H) (r : Rps w K F vs ds) : RS w K H F F (startE N ds) (start N vs) H where
  le := le
  k0 := Same.refl _
  f0 := Same.refl _
  nw := fun _ z => .inl z
  len := by unfold startE start; simp only [List.length_append, List.length_map, List.length_replicate, r.length]
  val := fun i d e => by
    unfold startE at e
    by_cases hl : i < ds.length
    · rw [List.getElem?_append_left (by rw [List.length_map]; exact hl), List.getElem?_map] at e
      cases q : ds[i]? with
      | none => rw [q] at e; cases e
      | some d' =>
        rw [q] at e
        cases e
        obtain ⟨v, h1, h2⟩ := r.get q
        refine ⟨v, ?_, h2⟩
        unfold start
        rw [List.getElem?_append_left (by rw [List.length_map, r.length]; exact hl), List.getElem?_map, h1]
        rfl
    · rw [List.getElem?_append_right (by rw [List.length_map]; omega), List.getElem?_replicate] at e
      split at e <;> cases e
  own := fun i m e => by
    unfold startE at e
    by_cases hl : i < ds.length
    · rw [List.getElem?_append_left (by rw [List.length_map]; exact hl), List.getElem?_map] at e
      cases q : ds[i]? <;> (rw [q] at e; cases e)
    · rw [List.getElem?_append_right (by rw [List.length_map]; omega), List.getElem?_replicate] at e
      split at e <;> cases e
  uni := fun i j m m' a e => by
    unfold startE at e
    by_cases hl : i < ds.length
    · rw [List.getElem?_append_left (by rw [List.length_map]; exact hl), List.getElem?_map] at e
      cases q : ds[i]? <;> (rw [q] at e; cases e)
    · rw [List.getElem?_append_right (by rw [List.length_map]; omega), List.getElem?_replicate] at e
      split at e <;> cases e
  exc := fun i C e => by
    unfold startE at e
    by_cases hl : i < ds.length
    · rw [List.getElem?_append_left (by rw [List.length_map]; exact hl), List.getElem?_map] at e
      cases q : ds[i]? <;> (rw [q] at e; cases e)
    · rw [List.getElem?_append_right (by rw [List.length_map]; omega), List.getElem?_replicate] at e
      split at e <;> cases e
theorem end_def {F H : Hp} {Q : VK} {C : Rz → Prop} (k : ∀ r F' v H', Gr F H F' H' → RR w K F' H H' v r → C r → Q v H') : EndOk w K H F { nx := fun _ H' => Q .non H', rt := Q } { nx := fun _ => C (.val .none), rt := C } :=
  ⟨fun ev F' σ H' R z => k (.val .none) F' .non H' ⟨R.le, R.k0, R.f0, R.nw⟩ .non z, fun r F' v H' b rr z => k r F' v H' ⟨b.le, b.k0, b.f0, b.nw⟩ rr z, fun _ _ _ _ _ z => False.elim z, fun _ _ _ _ _ z => False.elim z⟩
/-- THE RULE for a def that raises nothing -/
theorem Fun.okP {x qual : Str} {st : Stmt} {f : Addr} {fd : FuncData} {N ps : List Str} {k : Nat} {φ : Phi} (F : Fun K x qual st f fd) (S : FnScope N ps (defScope st)) (len : ∀ ds C Z, φ ds C Z → ds.length = ps.length)
    (hbody : ∀ (cdv : Value) (A : Around) (outer : List Env) (s : Shared) (H : Hp) (E : XK), Room k (A.deeper (envOfC qual (defScope st) s.heap.objs.size f cdv)) →
      ∃ τ, QSs (cxOf CX0 P w K mg base N qual (defScope st) f cdv A outer s H E).nox (defBody st) τ ∧ ∀ ds C Z, φ ds C Z → τ { nx := fun _ => C (.val .none), rt := C } (startE N ds)) : FnOk P w K mg base CX0 (k + 1) f fd ps (spP w K φ) := by
  refine F.ok S (fun vs H Q E h => ?_) fun cdv A outer s H vs Q E hr h => ?_
  · obtain ⟨F', ds, C, Z, _, r, c, _⟩ := h
    rw [r.length]
    exact len ds C Z c
  · obtain ⟨F', ds, C, Z, le, r, c, kk, _⟩ := h
    obtain ⟨τ, ⟨t, ht, k2⟩, hτ⟩ := hbody cdv A outer s H E hr
    exact ⟨t, ht, k2 F' _ _ _ F' _ H (end_def kk) (start_rs le r) (hτ ds C Z c)⟩
/-- .. that may raise -/
theorem Fun.okPX {x qual : Str} {st : Stmt} {f : Addr} {fd : FuncData} {N ps : List Str} {k : Nat} {φ : Phi} (F : Fun K x qual st f fd) (S : FnScope N ps (defScope st)) (len : ∀ ds C Z, φ ds C Z → ds.length = ps.length)
    (hbody : ∀ (cdv : Value) (A : Around) (outer : List Env) (s : Shared) (H : Hp) (E : XK) (Z : Addr → Prop), Room k (A.deeper (envOfC qual (defScope st) s.heap.objs.size f cdv)) →
      PassZ (cxOf (CXR P w) P w K mg base N qual (defScope st) f cdv A outer s H E) Z → RaiseZ (cxOf (CXR P w) P w K mg base N qual (defScope st) f cdv A outer s H E) Z →
      ∃ τ, QSs (cxOf (CXR P w) P w K mg base N qual (defScope st) f cdv A outer s H E) (defBody st) τ ∧ ∀ ds C, φ ds C Z → τ { nx := fun _ => C (.val .none), rt := C } (startE N ds)) : FnOk P w K mg base (CXR P w) (k + 1) f fd ps (spP w K φ) := by
  refine F.okX S (fun vs H Q E h => ?_) fun cdv A outer s H vs Q E hr h => ?_
  · obtain ⟨F', ds, C, Z, _, r, c, _⟩ := h
    rw [r.length]
    exact len ds C Z c
  · obtain ⟨F', ds, C, Z, le, r, c, kk, ke⟩ := h
    have wk : ∀ cls H', EZ H Z cls none H' → E cls none H' := fun cls H' z => by
      obtain ⟨c, rfl, z1, z2⟩ := z
      exact ke c H' z2 z1
    obtain ⟨τ, ⟨t, ht, k2⟩, hτ⟩ := hbody cdv A outer s H E Z hr
      (fun pins σ H1 s1 e s' I hc => passes_def pins σ H1 s1 e s' I (by
        obtain ⟨ea, cls, a0, B, H', e1, e2, e3, e4, e5, e6, e7⟩ := hc
        exact ⟨ea, cls, a0, B, H', e1, e2, e3, e4, e5, e6, wk _ _ e7⟩))
      (fun pins σ H1 s1 h' e cls vs' I hx hE => raises_def pins σ H1 s1 h' e cls vs' I hx (wk _ _ hE))
    exact ⟨t, ht, k2 F' _ _ _ F' _ H (end_def kk) (start_rs le r) (hτ ds C c)⟩
/-- a def that raises only on ways that are not asked -/
theorem Cal.calmP {k : Nat} {x : Str} {ps : List Str} {φ φ' : Phi} (c : Cal P w K mg base (CXR P w) k x ps (spP w K φ)) (h : ∀ ds C Z, φ' ds C Z → φ ds C noX) : Cal P w K mg base CX0 k x ps (spP w K φ') :=
  c.calm fun vs H Q E z => by
    obtain ⟨F, ds, C, Z, le, r, q, k1, _⟩ := z
    exact ⟨F, ds, C, noX, le, r, h ds C Z q, k1, fun _ _ _ z => False.elim z⟩
end
end L2

set_option Elab.async false
set_option linter.all false
set_option maxRecDepth 100000
set_option maxHeartbeats 1000000
namespace L2
open PySem PySem.Spec PyProof.Rows
section
variable {w : World} {K : PySem.W.Frag} {H₀ F₀ F H : Hp} {ev : Ev} {σ : St}
theorem RS.setX (R : RS w K H₀ F₀ F ev σ H) {ea C : Addr} (he : F ea = some (ExcO ea (.ref C))) (i : Nat) : RS w K H₀ F₀ F (ev.set i (.exc C)) (σ.set i (some (.ref ea))) H where
  toRB := R.toRB
  len := by rw [List.length_set, List.length_set]; exact R.len
  val := fun j d' e => by
    rcases get_set e with ⟨rfl, h1, h2⟩ | ⟨h1, h2⟩
    · cases h1
    · obtain ⟨u, q1, q2⟩ := R.val j d' h2
      exact ⟨u, by rw [List.getElem?_set_ne (fun z => h1 z.symm)]; exact q1, q2⟩
  own := fun j m e => by
    rcases get_set e with ⟨rfl, h1, h2⟩ | ⟨h1, h2⟩
    · cases h1
    · obtain ⟨a, q1, q2⟩ := R.own j m h2
      exact ⟨a, by rw [List.getElem?_set_ne (fun z => h1 z.symm)]; exact q1, q2⟩
  uni := fun j k m m' a e1 e2 e3 e4 => by
    rcases get_set e1 with ⟨rfl, h1, _⟩ | ⟨h1, h2⟩
    · cases h1
    rcases get_set e2 with ⟨rfl, h3, _⟩ | ⟨h3, h4⟩
    · cases h3
    rw [List.getElem?_set_ne (fun z => h1 z.symm)] at e3
    rw [List.getElem?_set_ne (fun z => h3 z.symm)] at e4
    exact R.uni j k m m' a h2 h4 e3 e4
  exc := fun j C' e => by
    rcases get_set e with ⟨rfl, h1, h2⟩ | ⟨h1, h2⟩
    · cases h1
      exact ⟨ea, set_get (by rw [← R.len]; exact h2), he⟩
    · obtain ⟨ea', q1, q2⟩ := R.exc j C' h2
      exact ⟨ea', by rw [List.getElem?_set_ne (fun z => h1 z.symm)]; exact q1, q2⟩
def unkAll (ev : Ev) : Ev := ev.map fun _ => .unk
theorem RS.unkAll (R : RS w K H₀ F₀ F ev σ H) : RS w K H₀ F₀ F (L2.unkAll ev) (List.replicate σ.length none) H := by
  have no : ∀ (i : Nat) (s : Sl), s ≠ .unk → (L2.unkAll ev)[i]? ≠ some s := fun i s ne e => by
    unfold L2.unkAll at e
    rw [List.getElem?_map] at e
    cases q : ev[i]? with
    | none => rw [q] at e; cases e
    | some x => rw [q] at e; exact ne (Option.some.inj e).symm
  refine ⟨R.toRB, by unfold L2.unkAll; rw [List.length_map, List.length_replicate]; exact R.len, fun i d e => ?_, fun i m e => ?_, fun i j m m' a e => ?_, fun i C e => ?_⟩
  · exact absurd e (no i _ (by intro z; cases z))
  · exact absurd e (no i _ (by intro z; cases z))
  · exact absurd e (no i _ (by intro z; cases z))
  · exact absurd e (no i _ (by intro z; cases z))
end
section
variable {X : Cx} {pos : Pos}
/-! ### try: f(..) and what follows; except D as n: suite -/
def hEnds (P : PEn) : PEn := { nx := fun ev => P.nx (unkAll ev), rt := P.rt, bk := fun ev => P.bk (unkAll ev), ct := fun ev => P.ct (unkAll ev) }
def zTry (K : PySem.W.Frag) (D : Addr) (i : Nat) (φ : Phi) (τ : TauA) (ω υ : TauS) : TauS := fun P ev => τ ev fun ds ev1 => ∃ Z : Addr → Prop, φ ds (fun _ => ω P ev1) Z ∧ ∀ C, Z C → ExcC K C ∧ PySem.W.mroIn K C (.ref D) = some true ∧ υ (hEnds P) (ev1.set i (.exc C))
theorem q_try (i : Nat) {D : Addr} {k : Nat} {x xe n : Str} {ps : List Str} {φ : Phi} {p np hpos epos cpos : Pos} {e : Expr} {es : List Expr} {rest suite : List Stmt} {b₀ : Stmt} {τ : TauA} {ω υ : TauS} (hst : X.stack = X.env :: X.outer) (hfr : X.env.frame = some X.env.locals)
    (c : Cal X.prog X.w X.K X.mg X.base (CXR X.prog X.w) k x ps (spP X.w X.K φ)) (hr : Room k X.A) (ha : ∀ pn E, QA (X.tryIn pn E) (e :: es) τ) (hw : ∀ pn E, QSs (X.tryIn pn E) rest ω) (hh : ∀ ea E, QSs (X.hand ea E) (b₀ :: suite) υ)
    (hgD : Gl X xe) (hmD : X.mg xe = some (.ref D)) (hD : ExcC X.K D) (hN : X.N.Nodup) (hi : X.N[i]? = some n := by rfl) (hn : X.env.kindOf n = some .local := by rfl) (hx : Loc X.env.scope n := by first | exact Or.inl rfl | exact Or.inr rfl)
    (hg : Gl X x := by rfl) (hdb : (x == ("__debug__" : Str)) = false := by decide) (hdD : (xe == ("__debug__" : Str)) = false := by decide)
    (he : starEach (e :: es) X.env = (false, eval e X.env) :: starEach es X.env := by rfl) (hpl : (backTo cpos (starEach es X.env)).any (·.1) = false := by rfl) (hs : swapsWith (.Call (.Name x p) (e :: es) [] cpos) none epos.line X.env = pure false := by rfl)
    (hf : X.fn n = true ∨ X.env.scope.names.lookup n = some .local := by first | exact .inl rfl | exact .inr rfl) :
    QS X (.Try (.Expr (.Call (.Name x p) (e :: es) [] cpos) epos :: rest) [.ExceptHandler (some (.Name xe np)) (some n) (b₀ :: suite) hpos] [] [] pos) (zTry X.K D i φ τ ω υ) := by
  let tb : (St → XK) → TS := fun Ex De σ H => ∀ pn pins s, Inv (X.tryIn pn (Caught X pn Ex)) pins σ H s → wpAny (model X.prog X.w) X.A (execs (.Expr (.Call (.Name x p) (e :: es) [] cpos) epos :: rest) X.env) (SP (X.tryIn pn (Caught X pn Ex)) pins De) (Caught X pn Ex) s
  let th : TS := fun De σ H => ∀ (ea : Addr) (E : Value → Shared → Prop) pins s, Inv (X.hand ea E) pins σ H s → wpAny (model X.prog X.w) (X.A.mark (some (.ref ea))) (execs (b₀ :: suite) X.env) (SP (X.hand ea E) pins De) E s
  refine ⟨_, ps_tryAs (i := i) (tb := tb) (th := th) hst hfr (fun pn Ex pins s σ H De I h => h pn pins s I) (fun ea E pins s σ H De I h => h ea E pins s I) hgD hmD hD hN hi hn hx hdD hf, fun F₀ De P ev F σ H E R h => ?_⟩
  obtain ⟨Ex, hEx⟩ : ∃ Ex : St → XK, Ex = fun σ1 cls _ H1 => ∃ C ev1 F1, cls = .ref C ∧ RS X.w X.K X.H₀ F₀ F1 ev1 σ1 H1 ∧ (ExcC X.K C ∧ PySem.W.mroIn X.K C (.ref D) = some true ∧ υ (hEnds P) (ev1.set i (.exc C))) := ⟨_, rfl⟩
  refine ⟨Ex, fun pn pins s I => ?_, fun σ1 cls dx H1 z => ?_⟩
  · obtain ⟨ta, hta, ka⟩ := ha pn (Caught X pn Ex)
    obtain ⟨tr, htr, kr⟩ := hw pn (Caught X pn Ex)
    refine pss_cons (ps_expr (pe_calS (X := X.tryIn pn (Caught X pn Ex)) c hr passes_try hta hg hdb he hpl) hs) htr pins s σ H De I ?_
    refine ka F₀ ev F σ H _ _ R h fun ds ev1 F1 vs H1 R1 r1 s1 c1 => ?_
    obtain ⟨Z, q1, q2⟩ := c1
    refine ⟨F1, ds, _, Z, R1.le, by rw [List.append_nil]; exact r1, q1, fun rz F2 v H2 g rr cc => ?_, fun cc H2 sm z => ?_⟩
    · exact kr F₀ De P ev1 F2 σ H2 E (R1.grow g) cc
    · rw [hEx]
      exact ⟨cc, ev1, F1, rfl, R1.grow ⟨R1.le.trans sm, sm, Same.refl _, fun _ w => .inl w⟩, q2 cc z⟩
  · rw [hEx] at z
    obtain ⟨C, ev1, F1, rfl, R1, xC, sub, q⟩ := z
    refine ⟨C, rfl, xC, sub, fun ea fr ea' E' pins s I => ?_⟩
    obtain ⟨t2, ht2, k2⟩ := hh ea' E'
    have g : Gr F1 H1 (upd F1 ea (ExcO ea (.ref C))) (upd H1 ea (ExcO ea (.ref C))) := Gr.new R1.le fr
    refine ht2 pins s _ _ _ I (k2 F₀ _ (hEnds P) _ _ _ _ ⟨fun ev' F' σ' H' R' w => ?_, E.rt, fun ev' F' σ' H' R' w => ?_, fun ev' F' σ' H' R' w => ?_⟩ ((R1.grow g).setX upd_same i) q)
    · exact E.nx _ _ _ _ R'.unkAll w
    · exact E.bk _ _ _ _ R'.unkAll w
    · exact E.ct _ _ _ _ R'.unkAll w
/-- isinstance(n, C), n the exception that was caught -/
def zIsiX (K : PySem.W.Frag) (c : Value) (i : Nat) : TauE := fun ev C => match ev[i]? with | some (.exc E) => ExcK K E ∧ ExcC K E ∧ ∃ b, PySem.W.kitOne K (.ref E) c = some b ∧ C (.bool b) ev | _ => False
theorem q_isiX (K : PySem.W.Frag) (i : Nat) {x y : Str} {c : V} {xp yp p : Pos} (hc : (∃ n, c = .ty n) ∨ ∃ a, c = .ref a) (hy : PE X (.Name y yp) (tC c)) (hg : Gl X "isinstance") (hm : X.mg "isinstance" = none) (hN : X.N[i]? = some x := by rfl) (hv : Vis X.env.scope x := by first | exact Or.inl rfl | exact Or.inr (Or.inl rfl) | exact Or.inr (Or.inr rfl))
    (hd : (x == ("__debug__" : Str)) = false := by decide) (hcd : (x == ("__classdict__" : Str)) = false := by decide) (hK : X.K = K := by rfl) (hs : starEach [.Name x xp, .Name y yp] X.env = (false, eval (.Name x xp) X.env) :: starEach [.Name y yp] X.env := by rfl)
    (hs2 : starEach [.Name y yp] X.env = (false, eval (.Name y yp) X.env) :: starEach [] X.env := by rfl) : QE X (.Call (.Name "isinstance" p) [.Name x xp, .Name y yp] [] pos) (zIsiX K (toVal c) i) := by
  subst hK
  refine ⟨_, pe_callB (call_isiX (K := X.K)) hg hm PyProof.Rows.Boot.«isinstance» (pa_cons (pe_var hN hv hd hcd) (pa_cons hy pa_nil hs2) hs) (by decide) (by decide) hs (by rw [hs2]; rfl), fun F₀ ev F σ H Q C R h k => ?_⟩
  unfold zIsiX at h
  split at h
  case h_1 E e =>
    obtain ⟨ea, h1, h2⟩ := R.exc i E e
    obtain ⟨kE, xE, b, e2, q⟩ := h
    exact ⟨.ref ea, h1, ea, E, c, b, rfl, hc, R.le _ _ h2, kE, xE, e2, k _ _ _ _ _ R (.bl b) (Same.refl _) q⟩
  case h_2 => exact False.elim h
theorem q_isiXo (K : PySem.W.Frag) (i : Nat) {x y : Str} {C : Addr} {xp yp p : Pos} (hgy : Gl X y) (hmy : X.mg y = some (.ref C)) (hg : Gl X "isinstance") (hm : X.mg "isinstance" = none) (hN : X.N[i]? = some x := by rfl) (hv : Vis X.env.scope x := by first | exact Or.inl rfl | exact Or.inr (Or.inl rfl) | exact Or.inr (Or.inr rfl))
    (hd : (x == ("__debug__" : Str)) = false := by decide) (hcd : (x == ("__classdict__" : Str)) = false := by decide) (hdy : (y == ("__debug__" : Str)) = false := by decide) (hK : X.K = K := by rfl) (hs : starEach [.Name x xp, .Name y yp] X.env = (false, eval (.Name x xp) X.env) :: starEach [.Name y yp] X.env := by rfl)
    (hs2 : starEach [.Name y yp] X.env = (false, eval (.Name y yp) X.env) :: starEach [] X.env := by rfl) : QE X (.Call (.Name "isinstance" p) [.Name x xp, .Name y yp] [] pos) (zIsiX K (.ref C) i) :=
  q_isiX K i (c := .ref C) (.inr ⟨_, rfl⟩) (pe_own hgy hmy hdy) hg hm hN hv hd hcd hK hs hs2
theorem q_isiXt (K : PySem.W.Frag) (i : Nat) {x y : Str} {n : String} {xp yp p : Pos} (hgy : Gl X y) (hmy : X.mg y = none) (hvy : bootBuiltins y = some (.type n)) (hg : Gl X "isinstance") (hm : X.mg "isinstance" = none) (hN : X.N[i]? = some x := by rfl) (hv : Vis X.env.scope x := by first | exact Or.inl rfl | exact Or.inr (Or.inl rfl) | exact Or.inr (Or.inr rfl))
    (hd : (x == ("__debug__" : Str)) = false := by decide) (hcd : (x == ("__classdict__" : Str)) = false := by decide) (hny : y ≠ "__name__" := by decide) (hdy : (y == ("__debug__" : Str)) = false := by decide) (hK : X.K = K := by rfl) (hs : starEach [.Name x xp, .Name y yp] X.env = (false, eval (.Name x xp) X.env) :: starEach [.Name y yp] X.env := by rfl)
    (hs2 : starEach [.Name y yp] X.env = (false, eval (.Name y yp) X.env) :: starEach [] X.env := by rfl) : QE X (.Call (.Name "isinstance" p) [.Name x xp, .Name y yp] [] pos) (zIsiX K (.type n) i) :=
  q_isiX K i (c := .ty n) (.inl ⟨_, rfl⟩) (pe_ty hgy hmy hvy hny hdy) hg hm hN hv hd hcd hK hs hs2
/-- isinstance(n, (C1, ..)) -/
def zIsiXs (K : PySem.W.Frag) (cs : List V) (i : Nat) : TauE := fun ev C => match ev[i]? with | some (.exc E) => ExcK K E ∧ ExcC K E ∧ ∃ b, PySem.W.kitAny K (.ref E) (cs.map toVal) = some b ∧ C (.bool b) ev | _ => False
theorem q_isiXs (K : PySem.W.Frag) (i : Nat) {x : Str} {cs : List V} {xp tp p : Pos} {ys : List Expr} {kk} (hc : ∀ c ∈ cs, (∃ n, c = V.ty n) ∨ ∃ a, c = V.ref a) (hl : cs.length ≤ sizeLine) (hy : PA X ys (fun _ H Q => Q cs H)) (hg : Gl X "isinstance") (hm : X.mg "isinstance" = none) (hN : X.N[i]? = some x := by rfl) (hv : Vis X.env.scope x := by first | exact Or.inl rfl | exact Or.inr (Or.inl rfl) | exact Or.inr (Or.inr rfl))
    (hd : (x == ("__debug__" : Str)) = false := by decide) (hcd : (x == ("__classdict__" : Str)) = false := by decide) (hK : X.K = K := by rfl) (hs : starEach [.Name x xp, .Tuple ys kk tp] X.env = (false, eval (.Name x xp) X.env) :: starEach [.Tuple ys kk tp] X.env := by rfl)
    (hs2 : starEach [.Tuple ys kk tp] X.env = (false, eval (.Tuple ys kk tp) X.env) :: starEach [] X.env := by rfl) : QE X (.Call (.Name "isinstance" p) [.Name x xp, .Tuple ys kk tp] [] pos) (zIsiXs K cs i) := by
  subst hK
  refine ⟨_, pe_callB (call_isiXT (K := X.K)) hg hm PyProof.Rows.Boot.«isinstance» (pa_cons (pe_var hN hv hd hcd) (pa_cons (pe_tup hy) pa_nil hs2) hs) (by decide) (by decide) hs (by rw [hs2]; rfl), fun F₀ ev F σ H Q C R h k => ?_⟩
  unfold zIsiXs at h
  split at h
  case h_1 E e =>
    obtain ⟨ea, h1, h2⟩ := R.exc i E e
    obtain ⟨kE, xE, b, e2, q⟩ := h
    refine ⟨.ref ea, h1, hl, fun tp' ht => ?_⟩
    have he := R.le _ _ h2
    have g : Gr F H F (upd H tp' (.tup cs)) := Gr.newO R.le ht
    exact ⟨ea, E, tp', cs, b, rfl, by rw [upd_ne (ne_of_none he ht)]; exact he, kE, xE, upd_same, hc, e2, k _ _ _ _ _ (R.grow g) (.bl b) (Same.refl _) q⟩
  case h_2 => exact False.elim h
end
end L2

set_option Elab.async false
set_option linter.all false
set_option maxRecDepth 100000
set_option maxHeartbeats 1000000
/-! list comprehensions over the pure layer -/
namespace L2
open PySem PySem.Spec PyProof.Rows

/-! ### the cells that a block is handed -/
def closOf (names : List (Str × NameKind)) (cells : List (Str × Addr)) (acc : List (Str × Addr)) : List (Str × Addr) :=
  names.foldl (fun cs y => if y.2 == .free then (match cells.lookup y.1 with | some a => (y.1, a) :: cs | none => cs) else cs) acc
theorem clos_loop {env : Env} : ∀ (names : List (Str × NameKind)) (acc : List (Str × Addr)), (names.all fun y => y.2 != .free || (env.cells.lookup y.1).isSome) = true →
    (forIn names acc fun (y : Str × NameKind) (r : List (Str × Addr)) => (do
      if y.2 == .free then
        let a ← cellOf env y.1
        pure PUnit.unit
        pure (ForInStep.yield ((y.1, a) :: r))
      else
        pure PUnit.unit
        pure (ForInStep.yield r) : Sem (ForInStep (List (Str × Addr))))) = pure (closOf names env.cells acc)
  | [], acc, _ => rfl
  | (n, k) :: r, acc, h => by
    rw [List.all_cons, Bool.and_eq_true] at h
    rw [List.forIn_cons]
    have ih := fun a => clos_loop (env := env) r a h.2
    cases hk : k == NameKind.free with
    | true =>
      have hs : (env.cells.lookup n).isSome = true := by
        have h1 := h.1
        simp only [bne, hk, Bool.not_true, Bool.false_or] at h1
        exact h1
      obtain ⟨a, ha⟩ := Option.isSome_iff_exists.mp hs
      have hc : cellOf env n = pure a := by unfold cellOf; rw [ha]
      simp only [hk, if_true, hc, pure_bind]
      rw [ih]
      unfold closOf
      simp only [List.foldl_cons, hk, if_true, ha]
    | false =>
      simp only [hk, Bool.false_eq_true, if_false, pure_bind]
      rw [ih]
      unfold closOf
      simp only [List.foldl_cons, hk, Bool.false_eq_true, if_false]
theorem clos_eq {scope : Scope} {env : Env} (h : (scope.names.all fun y => y.2 != .free || (env.cells.lookup y.1).isSome) = true) : closureFor scope env = pure (closOf scope.names env.cells []) := by
  have := clos_loop (env := env) scope.names [] h
  unfold closureFor
  simp only [bind_pure_comp] at this ⊢
  first
    | exact this
    | (rw [this]; rfl)
    | simpa using this
theorem closOf_sub {cells : List (Str × Addr)} : ∀ (names : List (Str × NameKind)) (acc : List (Str × Addr)), (∀ y c, acc.lookup y = some c → cells.lookup y = some c) → ∀ y c, (closOf names cells acc).lookup y = some c → cells.lookup y = some c
  | [], _, h => h
  | (n, k) :: r, acc, h => by
    unfold closOf
    rw [List.foldl_cons]
    refine closOf_sub r _ fun y c z => ?_
    dsimp only at z
    split at z
    · split at z
      · rename_i a ha
        rw [List.lookup_cons] at z
        split at z
        · rename_i e
          cases z
          have : y = n := by simpa using e
          rw [this]; exact ha
        · exact h y c z
      · exact h y c z
    · exact h y c z
theorem closOf_keeps {cells : List (Str × Addr)} : ∀ (names : List (Str × NameKind)) (acc : List (Str × Addr)) (y : Str), (∃ c, acc.lookup y = some c) → ∃ c, (closOf names cells acc).lookup y = some c
  | [], _, _, h => h
  | (n, k) :: r, acc, y, h => by
    unfold closOf
    rw [List.foldl_cons]
    refine closOf_keeps r _ y ?_
    dsimp only
    split
    · split
      · rw [List.lookup_cons]
        split
        · exact ⟨_, rfl⟩
        · exact h
      · exact h
    · exact h
theorem closOf_has {cells : List (Str × Addr)} : ∀ (names : List (Str × NameKind)) (acc : List (Str × Addr)), (names.all fun y => y.2 != .free || (cells.lookup y.1).isSome) = true → ∀ y, (y, NameKind.free) ∈ names → ∃ c, (closOf names cells acc).lookup y = some c
  | [], _, _, _, h => nomatch h
  | (n, k) :: r, acc, h, y, hm => by
    rw [List.all_cons, Bool.and_eq_true] at h
    rcases List.mem_cons.mp hm with z | z
    · have e1 : y = n := congrArg Prod.fst z
      have e2 : NameKind.free = k := congrArg Prod.snd z
      subst e1; subst e2
      have hs : (cells.lookup y).isSome = true := by simpa using h.1
      obtain ⟨a, ha⟩ := Option.isSome_iff_exists.mp hs
      unfold closOf
      rw [List.foldl_cons]
      refine closOf_keeps r _ y ?_
      simp only [beq_self_eq_true, if_true, ha]
      exact ⟨a, by rw [List.lookup_cons]; simp⟩
    · unfold closOf
      rw [List.foldl_cons]
      exact closOf_has r _ h.2 y z

/-! ### the block's context -/
/-- the slot of the list that grows: no name of the block -/
def accN : Str := Str.ofString ".acc"
abbrev Cx.blk (X : Cx) (N : List Str) (scope : Scope) (C : Addr) (s₀ : Shared) (H₀ : Hp) (fp : List Addr) (pn : List (Addr × Obj)) : Cx :=
  { prog := X.prog, w := X.w, K := X.K, mg := X.mg, base := X.base, A := X.A, N := N, s₀ := s₀, H₀ := H₀, env := compEnvC scope (closOf scope.names X.env.cells []) C X.env, outer := X.stack, stack := X.stack, ex := fp, fn := fun _ => false, calm := X.calm, pn := pn, xe := fun _ _ => False }
/-- what is to be seen of the scope: its own names cn, the names fr from around, standing in the slots js -/
structure BlkOk (X : Cx) (scope : Scope) (cn fr : List Str) (js : List Nat) : Prop where
  kind : scope.kind = .function
  nocell : ∀ y ∈ scope.names, y.2 ≠ .cell
  loc : ∀ y ∈ scope.names, y.2 = .local → scope.names.lookup y.1 = some .local
  all : (scope.names.all fun y => y.2 != .free || (X.env.cells.lookup y.1).isSome) = true
  slots : js.map (fun j => X.N[j]?) = fr.map some
  cells : ∀ x ∈ fr, X.env.kindOf x = some .cell ∨ X.env.kindOf x = some .free
  frl : ∀ x ∈ fr, (x, NameKind.local) ∉ scope.names
  frs : ∀ x ∈ fr, (x, NameKind.free) ∈ scope.names
def sigY (cn : List Str) (js : List Nat) (σ : St) (D : Addr) : St := List.replicate cn.length none ++ (js.map (fun j => (σ[j]?).getD none) ++ [some (.ref D)])

section
variable {X : Cx} {pins : List (Addr × Obj)} {σ : St} {H2 : Hp} {s2 : Shared} {scope : Scope} {cn fr : List Str} {js : List Nat} {N : List Str} {fp : List Addr} {C : Addr}
theorem relabel_mem {env : Env} : ∀ {names : List (Str × NameKind)} {x : Str} {k : NameKind}, (names.map fun (n, k) => if (k == NameKind.free && env.scope.kind == .function && env.kindOf n == some .cell) then (n, NameKind.cell) else (n, k)).lookup x = some k →
    (x, k) ∈ names ∨ (k = .cell ∧ (x, NameKind.free) ∈ names)
  | [], _, _, h => by simp at h
  | (n, k0) :: r, x, k, h => by
    rw [List.map_cons] at h
    by_cases hc : (k0 == NameKind.free && env.scope.kind == .function && env.kindOf n == some .cell) = true
    · simp only [hc, if_true] at h
      rw [List.lookup_cons] at h
      split at h
      · rename_i e
        cases h
        have e1 : x = n := by simpa using e
        have e2 : k0 = .free := by
          simp only [Bool.and_eq_true, beq_iff_eq] at hc
          exact hc.1.1
        subst e1 e2
        exact .inr ⟨rfl, List.mem_cons_self⟩
      · rcases relabel_mem h with z | z
        · exact .inl (List.mem_cons_of_mem _ z)
        · exact .inr ⟨z.1, List.mem_cons_of_mem _ z.2⟩
    · simp only [hc, Bool.false_eq_true, if_false] at h
      rw [List.lookup_cons] at h
      split at h
      · rename_i e
        cases h
        have e1 : x = n := by simpa using e
        subst e1
        exact .inl List.mem_cons_self
      · rcases relabel_mem h with z | z
        · exact .inl (List.mem_cons_of_mem _ z)
        · exact .inr ⟨z.1, List.mem_cons_of_mem _ z.2⟩
theorem BlkOk.sub (B : BlkOk X scope cn fr js) : ∀ y c, (closOf scope.names X.env.cells []).lookup y = some c → X.env.cells.lookup y = some c := closOf_sub _ _ (fun _ _ z => by simp at z)
theorem blk_ok (I : Inv X pins σ H2 s2) (B : BlkOk X scope cn fr js) (hfp : ∀ b ∈ fp, FpOk X pins H2 b) (hob : ∀ b ∈ fp, ∃ o, s2.heap.get? b = some o) (hC : s2.heap.objs.size ≤ C) : (X.blk N scope C s2 H2 fp (X.pn ++ pins)).Ok where
  mod := I.ok.mod
  kind := B.kind
  glob := I.ok.glob
  blt := I.ok.blt
  above := hC
  inj := fun x y c h1 h2 => I.ok.inj x y c (B.sub _ _ h1) (B.sub _ _ h2)
  has := fun x h => by
    have hm : (x, NameKind.free) ∈ scope.names := by
      rcases h with h | h
      · rcases relabel_mem h with z | z
        · exact absurd rfl (B.nocell _ z)
        · exact z.2
      · rcases relabel_mem h with z | z
        · exact z
        · cases z.1
    exact closOf_has _ _ B.all x hm
  cab := fun _ _ z => by cases z
  hd := I.ok.hd
  frames := I.ok.frames
  stk := .inl rfl
  exf := fun b hb => by
    obtain ⟨o, ho⟩ := hob b hb
    refine ⟨fun z => ?_, fun x c e => (hfp b hb).2.2.2.2.1 x c (B.sub _ _ e)⟩
    have h1 : b < s2.heap.objs.size := Heap.lt_size ho
    have z' : b = C := z
    exact absurd (Nat.lt_of_lt_of_le h1 hC) (by rw [z']; exact Nat.lt_irrefl _)
  bs := I.bs
  bsz := Nat.le_trans I.ok.bsz I.sz
  noex := fun b o e hb => by
    rcases (hfp b hb).2.2.2.1 with z | z
    · exact I.ok.noex b o e z
    · have h1 : b < X.base.objs.size := Heap.lt_size e
      exact absurd (Nat.lt_of_lt_of_le h1 (Nat.le_trans I.ok.bsz z)) (Nat.lt_irrefl _)
  exfs := fun b hb hs => by
    rcases List.mem_cons.mp (I.stkSub b hs) with z | z
    · exact (hfp b hb).2.1 z
    · exact (hfp b hb).2.2.1 z
  funs := I.stack
  frf := I.stkFree
theorem sigY_out {D : Addr} {i : Nat} {x : Str} {v : V} (hl : js.length = fr.length) (h1 : (cn ++ (fr ++ [accN]))[i]? = some x) (h2 : (sigY cn js σ D)[i]? = some (some v)) :
    (x = accN ∧ v = .ref D) ∨ ∃ (j n : Nat), fr[n]? = some x ∧ js[n]? = some j ∧ σ[j]? = some (some v) := by
  unfold sigY at h2
  by_cases hi : i < cn.length
  · rw [List.getElem?_append_left (by rw [List.length_replicate]; exact hi), List.getElem?_replicate] at h2
    split at h2 <;> cases h2
  · rw [List.getElem?_append_right (by rw [List.length_replicate]; omega), List.length_replicate] at h2
    rw [List.getElem?_append_right (by omega)] at h1
    generalize i - cn.length = n at h1 h2
    by_cases hn : n < fr.length
    · rw [List.getElem?_append_left hn] at h1
      rw [List.getElem?_append_left (by rw [List.length_map]; omega), List.getElem?_map] at h2
      cases q : js[n]? with
      | none => rw [q] at h2; cases h2
      | some j =>
        rw [q] at h2
        refine .inr ⟨j, n, h1, q, ?_⟩
        have h3 : (σ[j]?).getD none = some v := Option.some.inj h2
        cases z : σ[j]? with
        | none => rw [z] at h3; cases h3
        | some w => rw [z] at h3; exact congrArg some h3
    · rw [List.getElem?_append_right (by omega)] at h1
      rw [List.getElem?_append_right (by rw [List.length_map]; omega), List.length_map, hl] at h2
      cases e : n - fr.length with
      | zero =>
        rw [e] at h1 h2
        simp only [List.getElem?_cons_zero, Option.some.injEq] at h1 h2
        exact .inl ⟨h1.symm, h2.symm⟩
      | succ k => rw [e] at h1; simp at h1
theorem BlkOk.len (B : BlkOk X scope cn fr js) : js.length = fr.length := by
  have := congrArg List.length B.slots
  rw [List.length_map, List.length_map] at this
  exact this
theorem BlkOk.slot (B : BlkOk X scope cn fr js) {n j : Nat} {x : Str} (h1 : fr[n]? = some x) (h2 : js[n]? = some j) : X.N[j]? = some x := by
  have := congrArg (fun l => l[n]?) B.slots
  simp only [List.getElem?_map, h1, h2, Option.map_some] at this
  exact Option.some.inj this
/-- the block at its start -/
theorem blk_inv {s3 : Shared} {D : Addr} {m : Str → Option Value} (I : Inv X pins σ H2 s2) (B : BlkOk X scope cn fr js) (hfp : ∀ b ∈ fp, FpOk X pins H2 b) (hob : ∀ b ∈ fp, ∃ o, s2.heap.get? b = some o) (hC : s2.heap.objs.size ≤ C) (hD : s2.heap.objs.size ≤ D) (hDC : D ≠ C)
    (hacc : (accN, NameKind.free) ∉ scope.names) (hacc' : (accN, NameKind.local) ∉ scope.names)
    (old : ∀ b o, s2.heap.get? b = some o → s3.heap.get? b = some o) (hn : s3.heap.Ns C m) (hl : s3.heap.get? D = some { cls := .type "list", data := .seq #[] 0 }) (ho : s3.os = s2.os) (hg : s3.gens = s2.gens) :
    Inv (X.blk (cn ++ (fr ++ [accN])) scope C s2 H2 fp (X.pn ++ pins)) [] (sigY cn js σ D) (upd H2 D (.lst [])) s3 where
  ok := blk_ok I B hfp hob hC
  os := ho
  bare := by rw [hg]; exact I.bare
  base := Un.laid old hD (I.hok.fresh hD)
  loc := by
    obtain ⟨mX, hX, hlX⟩ := I.loc
    refine ⟨m, hn, fun i x v h1 h2 hv => ?_⟩
    rcases sigY_out B.len h1 h2 with ⟨rfl, rfl⟩ | ⟨j, n, e1, e2, e3⟩
    · exfalso
      rcases hv with z | z | z
      · rcases relabel_mem z with q | q
        · exact hacc' q
        · cases q.1
      · rcases relabel_mem z with q | q
        · exact B.nocell _ q rfl
        · exact hacc q.2
      · rcases relabel_mem z with q | q
        · exact hacc q
        · cases q.1
    · have hx : x ∈ fr := List.mem_of_getElem? e1
      have hk := B.cells x hx
      obtain ⟨u, r, l⟩ := hlX j x v (B.slot e1 e2) e3 (.inr hk)
      refine ⟨u, r, .inr ⟨?_, ?_⟩⟩
      · rcases hv with z | z | z
        · rcases relabel_mem z with q | q
          · exact absurd q (B.frl x hx)
          · cases q.1
        · exact .inl z
        · exact .inr z
      · obtain ⟨c, hc⟩ := closOf_has _ [] B.all x (B.frs x hx)
        refine ⟨c, hc, ?_⟩
        have hc' := B.sub _ _ hc
        rcases l with ⟨l1, _⟩ | ⟨_, c', l2, o, l3, l4⟩
        · rcases hk with z | z <;> (rw [z] at l1; cases l1)
        · rw [hc'] at l2; cases l2
          exact ⟨o, old _ _ l3, l4⟩
  cell := fun x c e => by
    obtain ⟨v, o, h1, h2⟩ := I.cell x c (B.sub _ _ e)
    exact ⟨v, o, old _ _ h1, h2⟩
  free := by
    show upd H2 D (.lst []) C = none
    rw [upd_ne (Ne.symm hDC)]
    exact I.hok.fresh hC
  freeC := fun x c e => by
    have h1 := I.freeC x c (B.sub _ _ e)
    obtain ⟨v, o, h2, _⟩ := I.cell x c (B.sub _ _ e)
    rw [upd_ne (Nat.ne_of_lt (Nat.lt_of_lt_of_le (Heap.lt_size h2) hD))]
    exact h1
  pin := fun p hp => by
    obtain ⟨h1, h2, h3, h4, h5⟩ := I.pin p (by simpa using hp)
    have lt : p.1 < s2.heap.objs.size := Heap.lt_size h1
    refine ⟨old _ _ h1, by rw [upd_ne (Nat.ne_of_lt (Nat.lt_of_lt_of_le lt hD))]; exact h2, Nat.ne_of_lt (Nat.lt_of_lt_of_le lt hC), fun z => ?_, h5⟩
    rcases List.mem_cons.mp (I.stkSub p.1 z) with q | q
    · exact h3 q
    · exact h4 q
  hok := I.hok.laid old hD ⟨Nat.zero_le _, [], 0, .nil, hl⟩
  len := by
    unfold sigY
    simp only [List.length_append, List.length_replicate, List.length_map, List.length_cons, List.length_nil, B.len]
/-- behind the block -/
theorem blk_end {pl : List (Addr × Obj)} {σ' : St} {H' : Hp} {s' : Shared} {h' : Heap} {t' : Nat} (I : Inv X pins σ H2 s2) (hfp : ∀ b ∈ fp, FpOk X pins H2 b) (hC : s2.heap.objs.size ≤ C) (J : Inv (X.blk N scope C s2 H2 fp (X.pn ++ pins)) pl σ' H' s') (hs : Heap.SameBut C s'.heap h') :
    Inv X pins σ H' { s' with heap := h', toks := t' } := by
  have ne : ∀ b o, s2.heap.get? b = some o → b ≠ C := fun b o e => Nat.ne_of_lt (Nat.lt_of_lt_of_le (Heap.lt_size e) hC)
  have B := J.base
  refine I.call' (s' := { s' with heap := h', toks := t' }) (ch := fp) J.os ⟨fun b o q n hb hx => ?_, fun b o q n hb hx => ?_, B.free, fun b o q hx => ?_, B.tups, B.frzs, B.tbls⟩ (fun b o e => ?_) J.bare fun b hb => ⟨(hfp b hb).2.2.2.1, (hfp b hb).2.1, (hfp b hb).2.2.2.2.1, (hfp b hb).2.2.2.2.2⟩
  · exact (hs.2 b (ne b o q)).trans (B.keep b o q n hb hx)
  · obtain ⟨sl, z⟩ := B.slot b o q n hb hx
    exact ⟨sl, (hs.2 b (ne b o q)).trans z⟩
  · obtain ⟨o', z⟩ := B.there b o q hx
    exact ⟨o', (hs.2 b (ne b o q)).trans z⟩
  · have fr : H' C = none := J.free
    refine (J.hok b o e).stay (fun c v hc q => (hs.2 c ?_).trans q) (fun _ q => q) fun _ _ q => q
    rintro rfl
    rcases hc with z | z
    · rw [z, e] at fr; cases fr
    · rw [z] at fr; cases fr
end
end L2

set_option Elab.async false
set_option linter.all false
set_option maxRecDepth 100000
set_option maxHeartbeats 1000000
namespace L2
open PySem PySem.Spec PyProof.Rows
section
variable {prog : Program} {w : World} {A : Around} {R : Result → Shared → Prop} {s : Shared}
theorem compLoop_own {elt target iter : Expr} {ifs : List Expr} {scope : Scope} {pos : Pos} {it acc : Value} {env : Env} (I : Nat → Shared → Prop)
    (turn : ∀ n s, I n s → wpAny (model prog w) A (pyNext it) (fun r s₁ => match r with
      | none => R (.ok .next) s₁
      | some v => wpAny (model prog w) A (letOwnedTupleGo target it v) (fun _ s₀ => wpAny (model prog w) A (assign target env v) (fun _ s₂ =>
          wpAny (model prog w) A (forIn ifs true fun c r => if r = true then do let ok ← isTrue c env (eval c env); pure (ForInStep.yield ok) else pure (ForInStep.yield r)) (fun ok s₃ =>
            if ok = true then wpAny (model prog w) A (eval elt env) (fun x s₄ =>
              wpAny (model prog w) A (call (.builtin "list.append") [acc, x]) (fun _ s₅ => ∃ m, m < n ∧ I m s₅) (notedBy (model prog w) A env fun e s' => R (.error e) s') s₄) (notedBy (model prog w) A env fun e s' => R (.error e) s') s₃
            else ∃ m, m < n ∧ I m s₃) (notedBy (model prog w) A env fun e s' => R (.error e) s') s₂) (notedBy (model prog w) A env fun e s' => R (.error e) s') s₀) (notedBy (model prog w) A env fun e s' => R (.error e) s') s₁) (notedBy (model prog w) A env fun e s' => R (.error e) s') s)
    (n : Nat) (h : I n s) :
    codeAny (model prog w) A (.compLoop (.ListComp elt [⟨target, iter, ifs, 0⟩] scope pos) 0 it acc env) R s := by
  refine codeAny_loop rfl I (fun n s hI => ?_) n h
  show wpAny _ A ((compTurn (.ListComp elt [⟨target, iter, ifs, 0⟩] scope pos) 0 it acc env).onRaise (fun x => do noteFrame x env; theTreesLotGoes x)) _ _ s
  refine wpAny_noted ?_
  rw [compTurn_list]
  refine wpAny_bind (wpAny_standAt (wpAny_bind (wpAny_mono (turn n s hI) (fun r s₁ h₁ => ?_) fun _ _ h' => h')))
  cases r with
  | none => exact wpAny_pure h₁
  | some v =>
    refine wpAny_bind (wpAny_mono h₁ (fun _ s₀ h₀ => ?_) fun _ _ h' => h')
    refine wpAny_bind (wpAny_mono h₀ (fun _ s₂ h₂ => wpAny_bind (wpAny_mono h₂ (fun ok s₃ h₃ => ?_) fun _ _ h' => h')) fun _ _ h' => h')
    cases ok with
    | false => exact wpAny_pure ⟨rfl, h₃⟩
    | true =>
      exact wpAny_bind (wpAny_bind (wpAny_mono h₃ (fun x s₄ h₄ => wpAny_bind (wpAny_mono h₄ (fun _ s₅ h₅ => wpAny_pure (wpAny_pure ⟨rfl, h₅⟩)) fun _ _ h' => h')) fun _ _ h' => h'))
end
/-! ### tests of a comprehension -/
def PIfs (X : Cx) (ifs : List Expr) (t : TT) : Prop := ∀ (pins : List (Addr × Obj)) (s : Shared) (σ : St) (H : Hp) (Q : Bool → Hp → Prop), Inv X pins σ H s → t σ H Q →
  wpAny (model X.prog X.w) X.A (forIn ifs true fun c r => if r = true then do let ok ← isTrue c X.env (eval c X.env); pure (ForInStep.yield ok) else pure (ForInStep.yield r)) (TP X pins σ Q) X.xe s
def QF (X : Cx) (ifs : List Expr) (τ : TauT) : Prop := ∃ t : TT, PIfs X ifs t ∧ ∀ (F₀ : Hp) (ev : Ev) (F : Hp) (σ : St) (H : Hp) (Q : Bool → Hp → Prop) (C : Bool → Ev → Prop), RS X.w X.K X.H₀ F₀ F ev σ H → τ ev C →
  (∀ b ev' F' H', RS X.w X.K X.H₀ F₀ F' ev' σ H' → Same F F' → C b ev' → Q b H') → t σ H Q
def zF0 : TauT := fun ev C => C true ev
theorem q_f0 {X : Cx} : QF X [] zF0 := ⟨fun _ H Q => Q true H, fun pins s σ H Q I h => by
  rw [List.forIn_nil]
  exact wpAny_pure ⟨H, I, h⟩, fun _ _ F _ H _ _ R h k => k _ _ F H R (Same.refl _) h⟩
theorem q_f1 {X : Cx} {c : Expr} {τ : TauT} (h : QT X c τ) : QF X [c] τ := by
  obtain ⟨t, ht, k⟩ := h
  refine ⟨t, fun pins s σ H Q I h => ?_, k⟩
  rw [List.forIn_cons]
  simp only [if_true]
  refine wpAny_bind (wpAny_bind (wpAny_mono (ht pins s σ H Q I h) (fun b s1 q => wpAny_pure ?_) fun _ _ z => z))
  show wpAny _ _ (forIn [] b _) _ _ s1
  rw [List.forIn_nil]
  exact wpAny_pure q

/-! ### what a comprehension walks -/
structure ItOk (J : It) (F : Hp) (n : Nat) (vs : Nat → Option V) : Prop where
  go : ∀ i H, Same F H → i < n → J.go i H
  yld : ∀ i H x H', Same F H → i < n → J.yld i H x H' → H' = H ∧ vs i = some x
  stop : ∀ H, Same F H → J.stop n H
theorem itok_list {K : PySem.W.Frag} {F : Hp} {a : Addr} {xs : List V} (h : SqL K F a xs) : ItOk (Itl K a) F xs.length fun i => xs[i]? :=
  ⟨fun i H s hi => ⟨xs, xs[i], s.seq h, by simp [hi]⟩, fun i H x H' s hi y => ⟨y.1, y.2 xs (s.seq h)⟩, fun H s => ⟨xs, s.seq h, Nat.le_refl _⟩⟩
theorem itok_tup {K : PySem.W.Frag} {F : Hp} {a : Addr} {xs : List V} (h : SqT K F a xs) : ItOk (Itt K a) F xs.length fun i => xs[i]? :=
  ⟨fun i H s hi => ⟨xs, xs[i], s.sqt h, by simp [hi]⟩, fun i H x H' s hi y => ⟨y.1, y.2 xs (s.sqt h)⟩, fun H s => ⟨xs, s.sqt h, Nat.le_refl _⟩⟩
theorem itok_rng {F : Hp} {lo : Int} {n : Nat} : ItOk (Itr lo n) F n fun i => some (.int (lo + i)) :=
  ⟨fun i H s hi => hi, fun i H x H' s hi y => ⟨y.1, by rw [y.2]⟩, fun H s => Nat.le_refl _⟩

/-! ### the block, purely -/
def outS : Option Sl → Sl
  | some (.val d) => .val d
  | _ => .unk
def outY (js : List Nat) (ev : Ev) : List Sl := js.map fun j => outS ev[j]?
def evY (cn : Nat) (outer : List Sl) (acc : List PyData) : Ev := List.replicate cn .unk ++ (outer ++ [.own (.lst acc)])
def CpE (k : Nat) (acc : List PyData) (J : List PyData → Prop) : PyData → Ev → Prop := fun d ev => ev[k]? = some (.own (.lst acc)) ∧ acc.length < sizeLine ∧ J (acc ++ [d])
def CpT (k : Nat) (acc : List PyData) (τe : TauE) (J : List PyData → Prop) : Bool → Ev → Prop := fun b ev => if b = true then τe ev (CpE k acc J) else ev[k]? = some (.own (.lst acc)) ∧ J acc
def CpG (k : Nat) (acc : List PyData) (τt : TauT) (τe : TauE) (J : List PyData → Prop) : Ev → Prop := fun ev => τt ev (CpT k acc τe J)
def CompD (ds : List PyData) (cn : Nat) (outer : List Sl) (γ : TauG) (τt : TauT) (τe : TauE) (C : List PyData → Prop) : Prop :=
  ∃ J : Nat → List PyData → Prop, J 0 [] ∧ (∀ i x acc, ds[i]? = some x → J i acc → γ x (evY cn outer acc) (CpG (cn + outer.length) acc τt τe (J (i + 1)))) ∧ ∀ acc, J ds.length acc → C acc
section
variable {X : Cx} {pins : List (Addr × Obj)} {σ : St} {H2 F₀ F2 : Hp} {s2 : Shared} {ev : Ev} {scope : Scope} {cn fr : List Str} {js : List Nat} {fp : List Addr} {it : Addr}
theorem rsY {w : World} {K : PySem.W.Frag} {H₀ F' H' : Hp} {D : Addr} {acc : List PyData} (R2 : RS w K H₀ F₀ F2 ev σ H2) (rb : RB H2 F2 F' H') (wo : Ow w K F' H' D (.lst acc)) (hf : F' D = none) (h2 : H2 D = none) : RS w K H2 F2 F' (evY cn.length (outY js ev) acc) (sigY cn js σ D) H' := by
  have key : ∀ (i : Nat) (sl : Sl), (evY cn.length (outY js ev) acc)[i]? = some sl → sl = .unk ∨ (∃ (n j : Nat), i = cn.length + n ∧ js[n]? = some j ∧ sl = outS ev[j]?) ∨ (i = cn.length + js.length ∧ sl = .own (.lst acc)) := fun i sl e => by
    unfold evY outY at e
    by_cases hi : i < cn.length
    · rw [List.getElem?_append_left (by rw [List.length_replicate]; exact hi), List.getElem?_replicate, if_pos hi] at e
      exact .inl (Option.some.inj e).symm
    · rw [List.getElem?_append_right (by rw [List.length_replicate]; omega), List.length_replicate] at e
      by_cases hn : i - cn.length < js.length
      · rw [List.getElem?_append_left (by rw [List.length_map]; exact hn), List.getElem?_map] at e
        cases q : js[i - cn.length]? with
        | none => rw [q] at e; cases e
        | some j => rw [q] at e; exact .inr (.inl ⟨i - cn.length, j, by omega, q, (Option.some.inj e).symm⟩)
      · rw [List.getElem?_append_right (by rw [List.length_map]; omega), List.length_map] at e
        cases z : i - cn.length - js.length with
        | zero => rw [z] at e; exact .inr (.inr ⟨by omega, (Option.some.inj e).symm⟩)
        | succ k => rw [z] at e; simp at e
  have sg : ∀ (n j : Nat), js[n]? = some j → (sigY cn js σ D)[cn.length + n]? = some ((σ[j]?).getD none) := fun n j q => by
    unfold sigY
    have hn : n < js.length := (List.getElem?_eq_some_iff.mp q).1
    rw [List.getElem?_append_right (by rw [List.length_replicate]; omega), List.length_replicate, Nat.add_sub_cancel_left, List.getElem?_append_left (by rw [List.length_map]; exact hn), List.getElem?_map, q]
    rfl
  have sd : (sigY cn js σ D)[cn.length + js.length]? = some (some (.ref D)) := by
    unfold sigY
    rw [List.getElem?_append_right (by rw [List.length_replicate]; omega), List.length_replicate, Nat.add_sub_cancel_left, List.getElem?_append_right (by rw [List.length_map]; omega), List.length_map, Nat.sub_self]
    rfl
  refine ⟨rb, ?_, fun i d e => ?_, fun i m e => ?_, fun i j m m' a e1 e2 _ _ => ?_, fun i C e => ?_⟩
  · unfold evY outY sigY
    simp only [List.length_append, List.length_replicate, List.length_map, List.length_cons, List.length_nil]
  · rcases key i _ e with z | ⟨n, j, rfl, q, z⟩ | ⟨_, z⟩
    · cases z
    · unfold outS at z
      split at z
      case h_1 d' qe =>
        cases z
        obtain ⟨v, h1, h3⟩ := R2.val j _ qe
        exact ⟨v, by rw [sg n j q, h1]; rfl, h3.mono rb.f0⟩
      case h_2 => cases z
    · cases z
  · rcases key i _ e with z | ⟨n, j, rfl, q, z⟩ | ⟨rfl, z⟩
    · cases z
    · unfold outS at z
      split at z <;> cases z
    · cases z
      exact ⟨D, sd, wo, hf, h2⟩
  · have one : ∀ (k : Nat) (mm : MV), (evY cn.length (outY js ev) acc)[k]? = some (.own mm) → k = cn.length + js.length := fun k mm e => by
      rcases key k _ e with z | ⟨n, j, rfl, q, z⟩ | ⟨z, _⟩
      · cases z
      · unfold outS at z
        split at z <;> cases z
      · exact z
    rw [one i m e1, one j m' e2]
  · rcases key i _ e with z | ⟨n, j, rfl, q, z⟩ | ⟨_, z⟩
    · cases z
    · unfold outS at z
      split at z <;> cases z
    · cases z
end
end L2

set_option Elab.async false
set_option linter.all false
set_option maxRecDepth 100000
set_option maxHeartbeats 1000000
namespace L2
open PySem PySem.Spec PyProof.Rows
section
variable {X : Cx} {pins : List (Addr × Obj)} {σ : St} {H2 F₀ F2 : Hp} {s2 : Shared} {ev : Ev} {scope : Scope} {cn fr : List Str} {js : List Nat} {fp : List Addr} {it : Addr} {E : Value → Shared → Prop}
theorem comp_core {elt tg iter : Expr} {ifs : List Expr} {pos : Pos} {J : It} {tn : Nat → Heap → Prop} {n : Nat} {vs : Nat → Option V} {ds : List PyData} {γ : TauG} {τt : TauT} {τe : TauE} {S : List Nat} {Cc : List PyData → Prop} {RR' : Value → Addr → Result → Shared → Prop}
    (I2 : Inv X pins σ H2 s2) (T : Turn X.prog X.w X.K tg J fp it tn) (st2 : tn 0 s2.heap) (f2 : ∀ b ∈ fp, FpOk X pins H2 b) (hc : X.calm = true) (B : BlkOk X scope cn fr js) (hacc : (accN, NameKind.free) ∉ scope.names) (hacc' : (accN, NameKind.local) ∉ scope.names)
    (R2 : RS X.w X.K X.H₀ F₀ F2 ev σ H2) (O : ItOk J F2 n vs) (hv : ∀ i x, i < n → vs i = some x → ∃ d, ds[i]? = some d ∧ Rp X.w X.K F2 x d) (hn : n = ds.length) (hS : ∀ j ∈ S, j < cn.length)
    (hγ : ∀ C, QG (X.blk (cn ++ (fr ++ [accN])) scope C s2 H2 fp (X.pn ++ pins)) S tg γ) (hτt : ∀ C, QF (X.blk (cn ++ (fr ++ [accN])) scope C s2 H2 fp (X.pn ++ pins)) ifs τt) (hτe : ∀ C, QE (X.blk (cn ++ (fr ++ [accN])) scope C s2 H2 fp (X.pn ++ pins)) elt τe)
    (h : CompD ds cn.length (outY js ev) γ τt τe Cc)
    (hRR : ∀ D C H' s' F' acc m, s2.heap.objs.size ≤ C → D ≠ C → H2 D = none → Inv (X.blk (cn ++ (fr ++ [accN])) scope C s2 H2 fp (X.pn ++ pins)) [] (sigY cn js σ D) H' s' → s'.heap.Ns C m → RB H2 F2 F' H' → Ow X.w X.K F' H' D (.lst acc) → F' D = none → Cc acc → RR' (.ref D) C (.ok .next) s') :
    wpAny (model X.prog X.w) X.A (newList []) (fun acc s₃ => wpAny (model X.prog X.w) X.A (newFunctionEnv scope X.env.globals (closOf scope.names X.env.cells []) [] X.env.qual none .none (some X.env)) (fun cenv s₄ =>
      codeAny (model X.prog X.w) X.A (.compStart (.ListComp elt [⟨tg, iter, ifs, 0⟩] scope pos) 0 (.ref it) acc { cenv with scope := relabel scope X.env }) (RR' acc cenv.locals) s₄) E s₃) E s2 := by
  obtain ⟨Jv, j0, jt, je⟩ := h
  refine wpAny_newObj_type (wpAny_newFunctionEnv B.nocell (by intro y hy; simp at hy) (fun h₁ hns₁ hsb₁ => ?_) B.kind)
  dsimp only at hns₁ hsb₁ ⊢
  generalize hG : s2.heap.push { cls := .type "list", dict := none, data := .seq ([] : List Value).toArray } = G2 at hns₁ hsb₁ ⊢
  have hC : G2.objs.size = s2.heap.objs.size + 1 := by rw [← hG, Heap.size_push]
  have hDC : s2.heap.objs.size ≠ G2.objs.size := by rw [hC]; exact Nat.ne_of_lt (Nat.lt_succ_self _)
  have hCle : s2.heap.objs.size ≤ G2.objs.size := by rw [hC]; exact Nat.le_succ _
  have below : ∀ b, b < s2.heap.objs.size → b ≠ G2.objs.size := fun b hb => by rw [hC]; exact Nat.ne_of_lt (Nat.lt_succ_of_lt hb)
  have old : ∀ b o, s2.heap.get? b = some o → h₁.get? b = some o := fun b o e => hsb₁.extBut b o (below b (Heap.lt_size e)) (Heap.get?_push_of_some _ (hG ▸ Heap.get?_push_of_some _ e))
  have hl : h₁.get? s2.heap.objs.size = some { cls := .type "list", data := .seq #[] 0 } := hsb₁.extBut _ _ hDC (Heap.get?_push_of_some _ (hG ▸ Heap.get?_push_size _ rfl))
  have hob : ∀ b ∈ fp, ∃ o, s2.heap.get? b = some o := fun b hb => by
    obtain ⟨o, e, _⟩ := T.obj 0 _ st2 b hb
    exact ⟨o, e⟩
  have hD0 : H2 s2.heap.objs.size = none := I2.hok.fresh (Nat.le_refl _)
  generalize hD : s2.heap.objs.size = D at *
  generalize G2.objs.size = C at *
  obtain ⟨g, hgg, kg⟩ := hγ C
  obtain ⟨tt, htt, kt⟩ := hτt C
  obtain ⟨te, hte, ke⟩ := hτe C
  have IY : Inv (X.blk (cn ++ (fr ++ [accN])) scope C s2 H2 fp (X.pn ++ pins)) [] (sigY cn js σ D) (upd H2 D (.lst [])) { s2 with heap := h₁, toks := s2.toks + ([] : List (Str × Value)).length } :=
    blk_inv I2 B f2 hob (by rw [hD]; exact hCle) (by rw [hD]; exact Nat.le_refl _) hDC hacc hacc' old hns₁ hl rfl rfl
  have fpY : ∀ {H' : Hp} {pl : List (Addr × Obj)}, (∀ b ∈ fp, H' b = none) → (∀ p ∈ pl, p.1 ∉ fp) → ∀ b ∈ fp, FpOk (X.blk (cn ++ (fr ++ [accN])) scope C s2 H2 fp (X.pn ++ pins)) pl H' b := fun {H' pl} hn hp b hb => by
    refine ⟨hn b hb, (IY.ok.exf b hb).1, IY.ok.exfs b hb, .inl hb, (IY.ok.exf b hb).2, fun p hpm => ?_⟩
    rcases List.mem_append.mp hpm with z | z
    · exact (f2 b hb).2.2.2.2.2 p z
    · exact fun q => hp p z (by rw [q]; exact hb)
  have rb0 : RB H2 F2 F2 (upd H2 D (.lst [])) := ⟨R2.le.trans (same_upd hD0), same_upd hD0, Same.refl _, fun _ z => .inl z⟩
  have fr0 : F2 D = none := R2.le.free hD0
  have frD : ∀ b ∈ fp, upd H2 D (.lst []) b = none := fun b hb => by
    obtain ⟨o, e⟩ := hob b hb
    have lt := Heap.lt_size e
    rw [hD] at lt
    rw [upd_ne (Nat.ne_of_lt lt)]
    exact (f2 b hb).1
  have loop : ∀ (s₃ : Shared), s₃ = { s2 with heap := h₁, toks := s2.toks + ([] : List (Str × Value)).length } →
      codeAny (model X.prog X.w) X.A (.compLoop (.ListComp elt [⟨tg, iter, ifs, 0⟩] scope pos) 0 (.ref it) (.ref D) (compEnvC scope (closOf scope.names X.env.cells []) C X.env)) (RR' (.ref D) C) s₃ := by
    rintro s₃ rfl
    refine compLoop_own (fun k s' => ∃ i acc H' F', k = n - i ∧ i ≤ n ∧ Inv (X.blk (cn ++ (fr ++ [accN])) scope C s2 H2 fp (X.pn ++ pins)) [] (sigY cn js σ D) H' s' ∧ tn i s'.heap ∧ (∀ b ∈ fp, H' b = none) ∧ RB H2 F2 F' H' ∧ Ow X.w X.K F' H' D (.lst acc) ∧ F' D = none ∧ Jv i acc) ?_ n
      ⟨0, [], _, F2, rfl, Nat.zero_le _, IY, T.keep _ _ _ st2 fun b _ o e => old b o e, frD, rb0, ⟨[], upd_same, .nil⟩, fr0, j0⟩
    rintro k s' ⟨i, acc, H', F', rfl, hi, I', st', fr', rb', w', hf', j'⟩
    by_cases hlt : i < n
    · refine wpAny_mono (T.item (X.blk (cn ++ (fr ++ [accN])) scope C s2 H2 fp (X.pn ++ pins)) rfl rfl rfl hc i [] s' _ H' (fun _ _ => False) I' (fpY fr' (fun _ z => nomatch z)) st' (O.go i H' (rb'.f0.trans rb'.le) hlt)) (fun r s4 h4 => ?_) fun _ _ z => z.elim
      obtain ⟨u, rfl, h4⟩ := h4
      refine wpAny_mono h4 (fun _ s5 h5 => ?_) fun _ _ z => z.elim
      obtain ⟨x, H5, I5, r5, y5, st5, fr5⟩ := h5
      obtain ⟨rfl, hvx⟩ := O.yld i H' x H5 (rb'.f0.trans rb'.le) hlt y5
      obtain ⟨d, hd, rd⟩ := hv i x hlt hvx
      have I5' := I5.pinned (fpY fr5 (fun _ z => nomatch z)) (T.obj _ _ st5)
      have RY : RS X.w X.K H2 F2 F' (evY cn.length (outY js ev) acc) (sigY cn js σ D) H5 := rsY R2 rb' w' hf' hD0
      refine wpAny_mono (hgg _ s5 _ H5 x u _ I5' r5 (kg F2 _ F' _ H5 x d (fun σ6 H6 => ∃ ev6, RS X.w X.K H2 F2 F' ev6 σ6 H5 ∧ H6 = H5 ∧ (∀ j, j ∉ S → σ6[j]? = (sigY cn js σ D)[j]?) ∧ CpG (cn.length + (outY js ev).length) acc τt τe (Jv (i + 1)) ev6) _ RY (rd.mono rb'.f0) (jt i d acc hd j') fun ev6 σ6 R6 e6 c6 => ⟨ev6, R6, rfl, e6, c6⟩)) (fun _ s6 h6 => ?_) fun _ _ z => z.elim
      obtain ⟨σ6, H6, I6, ev6, R6, rfl, e6, c6⟩ := h6
      have back : ∀ {pl : List (Addr × Obj)} {H7 : Hp} {s7 : Shared}, Inv (X.blk (cn ++ (fr ++ [accN])) scope C s2 H2 fp (X.pn ++ pins)) pl σ6 H7 s7 → Inv (X.blk (cn ++ (fr ++ [accN])) scope C s2 H2 fp (X.pn ++ pins)) pl (sigY cn js σ D) H7 s7 := fun {pl H7 s7} I7 =>
        I7.weak (by rw [I7.len]; exact IY.len) fun j v q => by
          rw [e6 j (fun hj => ?_)]
          · exact q
          · have hjl := hS j hj
            unfold sigY at q
            rw [List.getElem?_append_left (by rw [List.length_replicate]; exact hjl), List.getElem?_replicate] at q
            split at q <;> cases q
      have sD : σ6[cn.length + (outY js ev).length]? = some (some (.ref D)) := by
        rw [e6 _ (fun hj => by have := hS _ hj; omega)]
        unfold sigY outY
        rw [List.getElem?_append_right (by rw [List.length_replicate]; omega), List.length_replicate, Nat.add_sub_cancel_left, List.getElem?_append_right (by rw [List.length_map, List.length_map]; omega), List.length_map, List.length_map, Nat.sub_self]
        rfl
      have fin : ∀ {H7 : Hp} {s7 : Shared} {F7 : Hp} {ev7 : Ev} {acc' : List PyData}, Inv (X.blk (cn ++ (fr ++ [accN])) scope C s2 H2 fp (X.pn ++ pins)) ([] ++ pinsAt fp s5.heap) σ6 H7 s7 → RS X.w X.K H2 F2 F7 ev7 σ6 H7 → ev7[cn.length + (outY js ev).length]? = some (.own (.lst acc')) → Jv (i + 1) acc' →
          ∃ m, m < n - i ∧ ∃ i acc H' F', m = n - i ∧ i ≤ n ∧ Inv (X.blk (cn ++ (fr ++ [accN])) scope C s2 H2 fp (X.pn ++ pins)) [] (sigY cn js σ D) H' s7 ∧ tn i s7.heap ∧ (∀ b ∈ fp, H' b = none) ∧ RB H2 F2 F' H' ∧ Ow X.w X.K F' H' D (.lst acc) ∧ F' D = none ∧ Jv i acc := fun {H7 s7 F7 ev7 acc'} I7 R7 e7 j7 => by
        obtain ⟨a, s1, w7, hf7, _⟩ := R7.own _ _ e7
        rw [sD] at s1; cases s1
        refine ⟨n - (i + 1), by omega, i + 1, acc', H7, F7, rfl, hlt, (back I7).unpinned, T.keep _ _ _ st5 fun b hb o e => (I7.pin (b, o) (List.mem_append_right _ (List.mem_append_right _ (mem_pinsAt hb e)))).1, fun b hb => ?_, R7.toRB, w7, hf7, j7⟩
        obtain ⟨o, e, d⟩ := T.obj _ _ st5 b hb
        exact (I7.pin (b, o) (List.mem_append_right _ (List.mem_append_right _ (mem_pinsAt hb e)))).2.1
      refine wpAny_mono (htt _ s6 σ6 H6 _ I6 (kt F2 ev6 F' σ6 H6 (fun b H7 => ∃ ev7 F7, RS X.w X.K H2 F2 F7 ev7 σ6 H7 ∧ CpT (cn.length + (outY js ev).length) acc τe (Jv (i + 1)) b ev7) _ R6 c6 fun b ev7 F7 H7 R7 s7 c7 => ⟨ev7, F7, R7, c7⟩)) (fun b s7 h7 => ?_) fun _ _ z => z.elim
      obtain ⟨H7, I7, ev7, F7, R7, c7⟩ := h7
      cases b with
      | false =>
        unfold CpT at c7
        rw [if_neg Bool.false_ne_true] at c7 ⊢
        exact fin I7 R7 c7.1 c7.2
      | true =>
        unfold CpT at c7
        rw [if_pos rfl] at c7 ⊢
        refine wpAny_mono (hte _ s7 σ6 H7 _ I7 (ke F2 ev7 F7 σ6 H7 (fun v H8 => ∃ d8 ev8 F8, RS X.w X.K H2 F2 F8 ev8 σ6 H8 ∧ Rp X.w X.K F8 v d8 ∧ CpE (cn.length + (outY js ev).length) acc (Jv (i + 1)) d8 ev8) _ R7 c7 fun d8 ev8 F8 v H8 R8 r8 s8 c8 => ⟨d8, ev8, F8, R8, r8, c8⟩)) (fun y s8 h8 => ?_) fun _ _ z => z.elim
        obtain ⟨v8, H8, I8, rv8, d8, ev8, F8, R8, r8, c8⟩ := h8
        obtain ⟨a, vs8, s1, h1, h3⟩ := R8.item c8.1
        rw [sD] at s1; cases s1
        refine wpAny_mono (mt_append (X := X.blk (cn ++ (fr ++ [accN])) scope C s2 H2 fp (X.pn ++ pins)) _ s8 σ6 H8 (.ref D) [v8] (.ref D) [y] (fun _ H9 => H9 = upd H8 D (.lst (vs8 ++ [v8]))) I8 rfl (.cons rv8 .nil) ⟨D, vs8, v8, rfl, rfl, h1, by rw [h3.length]; exact c8.2.1, rfl⟩) (fun _ s9 h9 => ?_) fun _ _ z => z.elim
        obtain ⟨_, H9, I9, _, rfl⟩ := h9
        exact fin I9 (R8.change c8.1 sD (m' := .lst (acc ++ [d8])) ⟨_, upd_same, h3.append (.cons r8 .nil)⟩) (by
          rw [List.getElem?_set_self (List.getElem?_eq_some_iff.mp c8.1).1]) c8.2.2
    · have e : i = n := by omega
      subst e
      refine wpAny_mono (T.done (X.blk (cn ++ (fr ++ [accN])) scope C s2 H2 fp (X.pn ++ pins)) rfl rfl rfl hc i [] s' _ H' (fun _ _ => False) I' (fpY fr' (fun _ z => nomatch z)) st' (O.stop H' (rb'.f0.trans rb'.le))) (fun r s4 h4 => ?_) fun _ _ z => z.elim
      obtain ⟨rfl, I4⟩ := h4
      obtain ⟨m, hm, _⟩ := I4.loc
      exact hRR D C H' s4 F' acc m hCle hDC hD0 I4 hm rb' w' hf' (je acc (by rw [← hn]; exact j'))
  exact codeAny_compStart_list (loop _ rfl) (T.self _ 0 _ _ _ (T.keep _ _ _ st2 fun b _ o e => old b o e) (loop _ rfl))
end
end L2

set_option Elab.async false
set_option linter.all false
set_option maxRecDepth 100000
set_option maxHeartbeats 1000000
namespace L2
open PySem PySem.Spec PyProof.Rows
def frz1 (ev : Ev) (j : Nat) : Ev := match ev[j]? with | some (.own m) => ev.set j (.val (frz m)) | _ => ev
def frzAll (js : List Nat) (ev : Ev) : Ev := js.foldl frz1 ev
theorem RS.frzAll {w : World} {K : PySem.W.Frag} {H₀ F₀ : Hp} {σ : St} {H : Hp} : ∀ (js : List Nat) {F : Hp} {ev : Ev}, RS w K H₀ F₀ F ev σ H → ∃ F', RS w K H₀ F₀ F' (L2.frzAll js ev) σ H ∧ Same F F'
  | [], F, ev, R => ⟨F, R, Same.refl _⟩
  | j :: r, F, ev, R => by
    have h : ∃ F', RS w K H₀ F₀ F' (frz1 ev j) σ H ∧ Same F F' := by
      unfold frz1
      split
      case h_1 m e =>
        obtain ⟨a, h1, h2, _⟩ := R.own j m e
        obtain ⟨o, ho⟩ := h2.there
        obtain ⟨R', _, sm⟩ := R.freeze e h1 ho
        exact ⟨_, R', sm⟩
      case h_2 => exact ⟨F, R, Same.refl _⟩
    obtain ⟨F1, R1, s1⟩ := h
    obtain ⟨F2, R2, s2⟩ := RS.frzAll r R1
    exact ⟨F2, R2, s1.trans s2⟩
theorem ItOk.mono {J : It} {F F' : Hp} {n : Nat} {vs : Nat → Option V} (O : ItOk J F n vs) (s : Same F F') : ItOk J F' n vs :=
  ⟨fun i H h => O.go i H (s.trans h), fun i H x H' h => O.yld i H x H' (s.trans h), fun H h => O.stop H (s.trans h)⟩
def rngD (lo : Int) (n : Nat) : List PyData := (List.range n).map fun i => .int (lo + (i : Nat))
section
variable {X : Cx} {elt tg iter : Expr} {ifs : List Expr} {scope : Scope} {pos : Pos} {cn fr : List Str} {js S : List Nat} {γ : TauG} {τt : TauT} {τe : TauE}
/-- what the source has brought -/
def Src (X : Cx) (F₀ F : Hp) (σ : St) (cn : List Str) (js : List Nat) (γ : TauG) (τt : TauT) (τe : TauE) (C : MV → Ev → Prop) (J : It) (H1 : Hp) : Prop :=
  ∃ (F1 : Hp) (ev1 : Ev) (n : Nat) (vs : Nat → Option V) (ds : List PyData), RS X.w X.K X.H₀ F₀ F1 ev1 σ H1 ∧ ItOk J F1 n vs ∧ (∀ i x, i < n → vs i = some x → ∃ d, ds[i]? = some d ∧ Rp X.w X.K F1 x d) ∧ n = ds.length ∧ Same F F1 ∧
    CompD ds cn.length (outY js (frzAll js ev1)) γ τt τe (fun acc => C (.lst acc) (frzAll js ev1))
theorem q_comp {wi : TI} {τs : Ev → (MV → Ev → Prop) → Prop} (hi : PI X tg iter wi) (hsrc : ∀ (F₀ : Hp) (ev : Ev) (F : Hp) (σ : St) (H : Hp) (C : MV → Ev → Prop), RS X.w X.K X.H₀ F₀ F ev σ H → τs ev C → wi σ H (Src X F₀ F σ cn js γ τt τe C))
    (hc : X.calm = true) (B : BlkOk X scope cn fr js) (hacc : (accN, NameKind.free) ∉ scope.names) (hacc' : (accN, NameKind.local) ∉ scope.names) (hS : ∀ j ∈ S, j < cn.length)
    (hγ : ∀ C s₀ H₀ fp pn, QG (X.blk (cn ++ (fr ++ [accN])) scope C s₀ H₀ fp pn) S tg γ) (hτt : ∀ C s₀ H₀ fp pn, QF (X.blk (cn ++ (fr ++ [accN])) scope C s₀ H₀ fp pn) ifs τt) (hτe : ∀ C s₀ H₀ fp pn, QE (X.blk (cn ++ (fr ++ [accN])) scope C s₀ H₀ fp pn) elt τe)
    (hs : ∀ x, foldedSetIterable iter X.env x = pure x := by intro _; rfl) : QO X (.ListComp elt [⟨tg, iter, ifs, 0⟩] scope pos) τs := by
  refine ⟨fun σ H Q => ∀ pins s, Inv X pins σ H s → wpAny (model X.prog X.w) X.A (eval (.ListComp elt [⟨tg, iter, ifs, 0⟩] scope pos) X.env) (EP X pins σ Q) X.xe s, fun pins s σ H Q I h => h pins s I, fun F₀ ev F σ H Q C R h k pins s I => ?_⟩
  rw [eval_ListComp]
  refine wpAny_comprehension_free (use := none) rfl hs (clos_eq B.all) B.kind B.loc ?_
  refine thn (hi pins s σ H _ I (hsrc F₀ ev F σ H C R h)) fun xv s1 h1 => thn h1 fun itv s2 h2 => ?_
  obtain ⟨it, fp, tn, J, H2, rfl, I2, T, st2, f2, F1, ev1, n, vs, ds, R1, O, hv, hn, sm, cd⟩ := h2
  obtain ⟨F2, R2, sm2⟩ := R1.frzAll js
  refine comp_core I2 T st2 f2 hc B hacc hacc' R2 (O.mono sm2) (fun i x hlt e => ?_) hn hS (fun C => hγ C _ _ _ _) (fun C => hτt C _ _ _ _) (fun C => hτe C _ _ _ _) cd (RR' := fun acc C => compPost (model X.prog X.w) X.A X.xe none (EP X pins σ Q) acc C) (fun D C' H' s' F' acc m hC hDC hD0 I' hm rb w hf cc => ⟨m, hm, fun h' hs' => ?_⟩)
  · obtain ⟨d, h3, h4⟩ := hv i x hlt e
    exact ⟨d, h3, h4.mono sm2⟩
  · exact ⟨.ref D, H', blk_end (t' := s'.toks) I2 f2 hC I' hs', rfl, k _ _ F' D H' (R2.grow ⟨rb.le, rb.k0, rb.f0, rb.nw⟩) w hf (R2.k0.free hD0) (R2.nobody hD0) ((sm.trans sm2).trans rb.f0) cc⟩
/-- name = [..], stored within the block's leaving -/
theorem q_setComp (i : Nat) {y : Str} {py spos : Pos} {wi : TI} {τs : Ev → (MV → Ev → Prop) → Prop} (hN : X.N.Nodup) (hi : PI X tg iter wi) (hsrc : ∀ (F₀ : Hp) (ev : Ev) (F : Hp) (σ : St) (H : Hp) (C : MV → Ev → Prop), RS X.w X.K X.H₀ F₀ F ev σ H → τs ev C → wi σ H (Src X F₀ F σ cn js γ τt τe C))
    (hc : X.calm = true) (B : BlkOk X scope cn fr js) (hacc : (accN, NameKind.free) ∉ scope.names) (hacc' : (accN, NameKind.local) ∉ scope.names) (hS : ∀ j ∈ S, j < cn.length)
    (hγ : ∀ C s₀ H₀ fp pn, QG (X.blk (cn ++ (fr ++ [accN])) scope C s₀ H₀ fp pn) S tg γ) (hτt : ∀ C s₀ H₀ fp pn, QF (X.blk (cn ++ (fr ++ [accN])) scope C s₀ H₀ fp pn) ifs τt) (hτe : ∀ C s₀ H₀ fp pn, QE (X.blk (cn ++ (fr ++ [accN])) scope C s₀ H₀ fp pn) elt τe)
    (hsw : swapsWith (.ListComp elt [⟨tg, iter, ifs, 0⟩] scope pos) (some (.Name y py)) spos.line X.env = pure true := by rfl) (hiN : X.N[i]? = some y := by rfl) (hx : Loc X.env.scope y := by first | exact Or.inl rfl | exact Or.inr rfl)
    (hf : X.fn y = true ∨ X.env.scope.names.lookup y = some .local := by first | exact .inl rfl | exact .inr rfl)
    (hs : ∀ x, foldedSetIterable iter X.env x = pure x := by intro _; rfl) : QS X (.Assign [.Name y py] (.ListComp elt [⟨tg, iter, ifs, 0⟩] scope pos) spos) (zSetO i τs) := by
  refine ⟨fun D σ H => ∀ pins s, Inv X pins σ H s → wpAny (model X.prog X.w) X.A (exec (.Assign [.Name y py] (.ListComp elt [⟨tg, iter, ifs, 0⟩] scope pos) spos) X.env) (SP X pins D) X.xe s, fun pins s σ H D I h => h pins s I, fun F₀ De P ev F σ H E R h pins s I => ?_⟩
  rw [exec_Assign_Name_used _ _ _ _ hsw]
  refine wpAny_bind (wpAny_standAt (wpAny_bind ?_))
  show wpAny _ X.A (do let _ ← comprehension (.ListComp elt [⟨tg, iter, ifs, 0⟩] scope pos) scope X.env _ (newList []) false (eval iter X.env) (some (assign (.Name y py) X.env))) _ _ s
  refine wpAny_bind (wpAny_mono (wpAny_comprehension_free (use := some (assign (.Name y py) X.env)) (Q := fun _ s' => SP X pins De .next s') rfl hs (clos_eq B.all) B.kind B.loc ?_) (fun _ s' hq => wpAny_pure (wpAny_pure hq)) fun _ _ e => e)
  refine thn (hi pins s σ H _ I (hsrc F₀ ev F σ H _ R h)) fun xv s1 h1 => thn h1 fun itv s2 h2 => ?_
  obtain ⟨it, fp, tn, J, H2, rfl, I2, T, st2, f2, F1, ev1, n, vs, ds, R1, O, hv, hn, sm, cd⟩ := h2
  obtain ⟨F2, R2, sm2⟩ := R1.frzAll js
  refine comp_core I2 T st2 f2 hc B hacc hacc' R2 (O.mono sm2) (fun i x hlt e => ?_) hn hS (fun C => hγ C _ _ _ _) (fun C => hτt C _ _ _ _) (fun C => hτe C _ _ _ _) cd (RR' := fun acc C => compPost (model X.prog X.w) X.A X.xe (some (assign (.Name y py) X.env)) (fun _ s' => SP X pins De .next s') acc C) (fun D C' H' s' F' acc m hC hDC hD0 I' hm rb w hf' cc => ?_)
  · obtain ⟨d, h3, h4⟩ := hv i x hlt e
    exact ⟨d, h3, h4.mono sm2⟩
  · have IX : Inv X pins σ H' s' := blk_end (t' := s'.toks) I2 f2 hC I' (Heap.SameBut.refl _ _)
    obtain ⟨oC, es, ep, hoC, hrC⟩ := id hm
    have neL : C' ≠ X.env.locals := Nat.ne_of_gt (Nat.lt_of_lt_of_le I2.lt hC)
    have nfs : C' ∉ X.fs := I2.nofs hC
    have hCn : H' C' = none := I'.free
    have IP : Inv X (pins ++ [(C', oC)]) σ H' s' := IX.pins_of fun p hp => by
      rcases List.mem_append.mp hp with z | z
      · exact IX.pin p (List.mem_append_right _ z)
      · rw [List.mem_singleton.mp z]
        exact ⟨hoC, hCn, neL, nfs, fun v z => by rw [hrC.1] at z; cases z⟩
    show wpAny _ X.A (assign (.Name y py) X.env (.ref D)) _ _ s'
    refine wpAny_mono (pg_name hN hiN hx hf (pins ++ [(C', oC)]) s' σ H' (.ref D) (.ref D) (fun σ2 H3 => σ2 = σ.set i (some (.ref D)) ∧ H3 = H') IP rfl ⟨rfl, rfl⟩) (fun _ s3 h3 => ?_) fun _ _ z => z
    obtain ⟨σ2, H3, I3, rfl, rfl⟩ := h3
    obtain ⟨hoC3, _⟩ := I3.pin (C', oC) (List.mem_append_right _ (List.mem_append_right _ List.mem_cons_self))
    refine ⟨m, ⟨oC, es, ep, hoC3, hrC⟩, fun h' hs' => ?_⟩
    have I4 : Inv X pins (σ.set i (some (.ref D))) H3 { s3 with heap := h', toks := s3.toks } := I3.unpinned.turned (it := C') (fun b o ne e => (hs'.2 b ne).trans e) hCn neL (.inr (Nat.le_trans I2.sz hC)) (fun x c e z => by
      obtain ⟨v, q⟩ := I2.cell x c e
      exact absurd (Nat.lt_of_lt_of_le q.lt hC) (by rw [z]; exact Nat.lt_irrefl _)) (fun p hp z => by
      exact absurd (Nat.lt_of_lt_of_le (Heap.lt_size (I2.pin p hp).1) hC) (by rw [z]; exact Nat.lt_irrefl _))
    exact ⟨_, H3, I4, E.nx _ _ _ _ ((R2.grow ⟨rb.le, rb.k0, rb.f0, rb.nw⟩).setO w hf' (R2.k0.free hD0) (R2.nobody hD0) i) cc⟩
def zCompL (τ : TauE) (cn : Nat) (js : List Nat) (γ : TauG) (τt : TauT) (τe : TauE) : TauO := fun ev C => τ ev fun d ev1 => match d with | .list ds => CompD ds cn (outY js (frzAll js ev1)) γ τt τe (fun acc => C (.lst acc) (frzAll js ev1)) | _ => False
def zCompT (τ : TauE) (cn : Nat) (js : List Nat) (γ : TauG) (τt : TauT) (τe : TauE) : TauO := fun ev C => τ ev fun d ev1 => match d with | .tuple ds => CompD ds cn (outY js (frzAll js ev1)) γ τt τe (fun acc => C (.lst acc) (frzAll js ev1)) | _ => False
def zCompR (τ : TauA) (cn : Nat) (js : List Nat) (γ : TauG) (τt : TauT) (τe : TauE) : TauO := fun ev C => τ ev fun ds ev1 => match ds with | [.int j] => (-(2 ^ 62) ≤ j ∧ j < 2 ^ 62) ∧ CompD (rngD 0 j.toNat) cn (outY js (frzAll js ev1)) γ τt τe (fun acc => C (.lst acc) (frzAll js ev1)) | _ => False
theorem src_list {τ : TauE} {t : TE} (ks : ∀ (F₀ : Hp) (ev : Ev) (F : Hp) (σ : St) (H : Hp) (Q : VK) (C : PyData → Ev → Prop), RS X.w X.K X.H₀ F₀ F ev σ H → τ ev C → (∀ d ev' F' v H', RS X.w X.K X.H₀ F₀ F' ev' σ H' → Rp X.w X.K F' v d → Same F F' → C d ev' → Q v H') → t σ H Q)
    (F₀ : Hp) (ev : Ev) (F : Hp) (σ : St) (H : Hp) (C : MV → Ev → Prop) (R : RS X.w X.K X.H₀ F₀ F ev σ H) (h : zCompL τ cn.length js γ τt τe ev C) : iList X.K t σ H (Src X F₀ F σ cn js γ τt τe C) := by
  refine ks F₀ ev F σ H _ _ R h fun d ev1 F1 v H1 R1 r s c => ?_
  cases r with
  | @lst a vs ds hq hr => exact ⟨a, rfl, ⟨vs, R1.le.seq hq⟩, F1, ev1, vs.length, _, ds, R1, itok_list hq, fun i x hi e => hr.getV e, hr.length, s, c⟩
  | _ => exact False.elim c
theorem src_tup {τ : TauE} {t : TE} (ks : ∀ (F₀ : Hp) (ev : Ev) (F : Hp) (σ : St) (H : Hp) (Q : VK) (C : PyData → Ev → Prop), RS X.w X.K X.H₀ F₀ F ev σ H → τ ev C → (∀ d ev' F' v H', RS X.w X.K X.H₀ F₀ F' ev' σ H' → Rp X.w X.K F' v d → Same F F' → C d ev' → Q v H') → t σ H Q)
    (F₀ : Hp) (ev : Ev) (F : Hp) (σ : St) (H : Hp) (C : MV → Ev → Prop) (R : RS X.w X.K X.H₀ F₀ F ev σ H) (h : zCompT τ cn.length js γ τt τe ev C) : iTup X.K t σ H (Src X F₀ F σ cn js γ τt τe C) := by
  refine ks F₀ ev F σ H _ _ R h fun d ev1 F1 v H1 R1 r s c => ?_
  cases r with
  | @tup a vs ds hq hr => exact ⟨a, rfl, ⟨vs, R1.le.sqt hq.sqt⟩, F1, ev1, vs.length, _, ds, R1, itok_tup hq.sqt, fun i x hi e => hr.getV e, hr.length, s, c⟩
  | _ => exact False.elim c
theorem src_rng {τ : TauA} {t : TA} (ks : ∀ (F₀ : Hp) (ev : Ev) (F : Hp) (σ : St) (H : Hp) (Q : List V → Hp → Prop) (C : List PyData → Ev → Prop), RS X.w X.K X.H₀ F₀ F ev σ H → τ ev C → (∀ d ev' F' v H', RS X.w X.K X.H₀ F₀ F' ev' σ H' → Rps X.w X.K F' v d → Same F F' → C d ev' → Q v H') → t σ H Q)
    (F₀ : Hp) (ev : Ev) (F : Hp) (σ : St) (H : Hp) (C : MV → Ev → Prop) (R : RS X.w X.K X.H₀ F₀ F ev σ H) (h : zCompR τ cn.length js γ τt τe ev C) : iRng1 t σ H (Src X F₀ F σ cn js γ τt τe C) := by
  refine ks F₀ ev F σ H _ _ R h fun ds ev1 F1 v H1 R1 r s c => ?_
  split at c
  case h_1 j =>
    obtain ⟨u, rfl, hu⟩ := r.one
    cases hu
    refine ⟨j, rfl, c.1.1, c.1.2, F1, ev1, j.toNat, _, rngD 0 j.toNat, R1, itok_rng, fun i x hi e => ?_, by unfold rngD; rw [List.length_map, List.length_range], s, c.2⟩
    cases e
    refine ⟨.int (0 + (i : Nat)), ?_, .int _⟩
    unfold rngD
    rw [List.getElem?_map, List.getElem?_range hi]
    rfl
  case h_2 => exact False.elim c
theorem BlkOk.of (h1 : scope.kind = .function := by rfl) (h2 : (scope.names.all fun y => y.2 != .cell) = true := by first | rfl | decide +kernel) (h3 : (scope.names.all fun y => y.2 != .local || scope.names.lookup y.1 == some .local) = true := by first | rfl | decide +kernel)
    (h4 : (scope.names.all fun y => y.2 != .free || (X.env.cells.lookup y.1).isSome) = true := by rfl) (h5 : js.map (fun j => X.N[j]?) = fr.map some := by rfl) (h6 : (fr.all fun x => X.env.kindOf x == some .cell || X.env.kindOf x == some .free) = true := by rfl)
    (h7 : (fr.all fun x => !(scope.names.any fun y => y.1 == x && y.2 == .local)) = true := by first | rfl | decide +kernel) (h8 : (fr.all fun x => scope.names.any fun y => y.1 == x && y.2 == .free) = true := by first | rfl | decide +kernel) : BlkOk X scope cn fr js where
  kind := h1
  nocell := fun y hy z => by
    have := List.all_eq_true.mp h2 y hy
    rw [z] at this
    simp at this
  loc := fun y hy z => by
    have := List.all_eq_true.mp h3 y hy
    rw [z] at this
    simpa using this
  all := h4
  slots := h5
  cells := fun x hx => by
    have := List.all_eq_true.mp h6 x hx
    simpa using this
  frl := fun x hx hm => by
    have h := List.all_eq_true.mp h7 x hx
    have h' : (scope.names.any fun y => y.1 == x && y.2 == .local) = true := List.any_eq_true.mpr ⟨_, hm, by simp⟩
    rw [h'] at h
    cases h
  frs := fun x hx => by
    have h := List.all_eq_true.mp h8 x hx
    obtain ⟨y, hy, e⟩ := List.any_eq_true.mp h
    simp only [Bool.and_eq_true, beq_iff_eq] at e
    obtain ⟨e1, e2⟩ := e
    rw [← e1, ← e2]
    exact hy
section
variable {τ : TauE} {τa : TauA}
theorem q_compL (hsrc : QE X iter τ) (hc : X.calm = true) (B : BlkOk X scope cn fr js)
    (hγ : ∀ C s₀ H₀ fp pn, QG (X.blk (cn ++ (fr ++ [accN])) scope C s₀ H₀ fp pn) S tg γ) (hτt : ∀ C s₀ H₀ fp pn, QF (X.blk (cn ++ (fr ++ [accN])) scope C s₀ H₀ fp pn) ifs τt) (hτe : ∀ C s₀ H₀ fp pn, QE (X.blk (cn ++ (fr ++ [accN])) scope C s₀ H₀ fp pn) elt τe)
    (hacc : (accN, NameKind.free) ∉ scope.names := by decide +kernel) (hacc' : (accN, NameKind.local) ∉ scope.names := by decide +kernel) (hS : ∀ j ∈ S, j < cn.length := by decide) (hs : ∀ x, foldedSetIterable iter X.env x = pure x := by intro _; rfl) :
    QO X (.ListComp elt [⟨tg, iter, ifs, 0⟩] scope pos) (zCompL τ cn.length js γ τt τe) := by
  obtain ⟨t, ht, ks⟩ := hsrc
  exact q_comp (pi_list ht) (src_list ks) hc B hacc hacc' hS hγ hτt hτe hs
theorem q_compT (hsrc : QE X iter τ) (hc : X.calm = true) (B : BlkOk X scope cn fr js)
    (hγ : ∀ C s₀ H₀ fp pn, QG (X.blk (cn ++ (fr ++ [accN])) scope C s₀ H₀ fp pn) S tg γ) (hτt : ∀ C s₀ H₀ fp pn, QF (X.blk (cn ++ (fr ++ [accN])) scope C s₀ H₀ fp pn) ifs τt) (hτe : ∀ C s₀ H₀ fp pn, QE (X.blk (cn ++ (fr ++ [accN])) scope C s₀ H₀ fp pn) elt τe)
    (hacc : (accN, NameKind.free) ∉ scope.names := by decide +kernel) (hacc' : (accN, NameKind.local) ∉ scope.names := by decide +kernel) (hS : ∀ j ∈ S, j < cn.length := by decide) (hs : ∀ x, foldedSetIterable iter X.env x = pure x := by intro _; rfl) :
    QO X (.ListComp elt [⟨tg, iter, ifs, 0⟩] scope pos) (zCompT τ cn.length js γ τt τe) := by
  obtain ⟨t, ht, ks⟩ := hsrc
  exact q_comp (pi_tup ht) (src_tup ks) hc B hacc hacc' hS hγ hτt hτe hs
theorem q_compR {a : Expr} {p pp : Pos} (hgl : Gl X "range") (hm : X.mg "range" = none) (hsrc : QA X [a] τa) (hc : X.calm = true) (B : BlkOk X scope cn fr js)
    (hγ : ∀ C s₀ H₀ fp pn, QG (X.blk (cn ++ (fr ++ [accN])) scope C s₀ H₀ fp pn) S tg γ) (hτt : ∀ C s₀ H₀ fp pn, QF (X.blk (cn ++ (fr ++ [accN])) scope C s₀ H₀ fp pn) ifs τt) (hτe : ∀ C s₀ H₀ fp pn, QE (X.blk (cn ++ (fr ++ [accN])) scope C s₀ H₀ fp pn) elt τe)
    (hacc : (accN, NameKind.free) ∉ scope.names := by decide +kernel) (hacc' : (accN, NameKind.local) ∉ scope.names := by decide +kernel) (hS : ∀ j ∈ S, j < cn.length := by decide) (hst : starEach [a] X.env = [(false, eval a X.env)] := by rfl)
    (hs : ∀ x, foldedSetIterable (.Call (.Name "range" p) [a] [] pp) X.env x = pure x := by intro _; rfl) : QO X (.ListComp elt [⟨tg, .Call (.Name "range" p) [a] [] pp, ifs, 0⟩] scope pos) (zCompR τa cn.length js γ τt τe) := by
  obtain ⟨t, ht, ks⟩ := hsrc
  exact q_comp (pi_range1 hgl hm ht hst) (src_rng ks) hc B hacc hacc' hS hγ hτt hτe hs
theorem q_setCompL (i : Nat) {y : Str} {py spos : Pos} (hN : X.N.Nodup) (hsrc : QE X iter τ) (hc : X.calm = true) (B : BlkOk X scope cn fr js)
    (hγ : ∀ C s₀ H₀ fp pn, QG (X.blk (cn ++ (fr ++ [accN])) scope C s₀ H₀ fp pn) S tg γ) (hτt : ∀ C s₀ H₀ fp pn, QF (X.blk (cn ++ (fr ++ [accN])) scope C s₀ H₀ fp pn) ifs τt) (hτe : ∀ C s₀ H₀ fp pn, QE (X.blk (cn ++ (fr ++ [accN])) scope C s₀ H₀ fp pn) elt τe)
    (hacc : (accN, NameKind.free) ∉ scope.names := by decide +kernel) (hacc' : (accN, NameKind.local) ∉ scope.names := by decide +kernel) (hS : ∀ j ∈ S, j < cn.length := by decide)
    (hsw : swapsWith (.ListComp elt [⟨tg, iter, ifs, 0⟩] scope pos) (some (.Name y py)) spos.line X.env = pure true := by rfl) (hiN : X.N[i]? = some y := by rfl) (hx : Loc X.env.scope y := by first | exact Or.inl rfl | exact Or.inr rfl)
    (hf : X.fn y = true ∨ X.env.scope.names.lookup y = some .local := by first | exact .inl rfl | exact .inr rfl) (hs : ∀ x, foldedSetIterable iter X.env x = pure x := by intro _; rfl) :
    QS X (.Assign [.Name y py] (.ListComp elt [⟨tg, iter, ifs, 0⟩] scope pos) spos) (zSetO i (zCompL τ cn.length js γ τt τe)) := by
  obtain ⟨t, ht, ks⟩ := hsrc
  exact q_setComp i hN (pi_list ht) (src_list ks) hc B hacc hacc' hS hγ hτt hτe hsw hiN hx hf hs
theorem q_setCompT (i : Nat) {y : Str} {py spos : Pos} (hN : X.N.Nodup) (hsrc : QE X iter τ) (hc : X.calm = true) (B : BlkOk X scope cn fr js)
    (hγ : ∀ C s₀ H₀ fp pn, QG (X.blk (cn ++ (fr ++ [accN])) scope C s₀ H₀ fp pn) S tg γ) (hτt : ∀ C s₀ H₀ fp pn, QF (X.blk (cn ++ (fr ++ [accN])) scope C s₀ H₀ fp pn) ifs τt) (hτe : ∀ C s₀ H₀ fp pn, QE (X.blk (cn ++ (fr ++ [accN])) scope C s₀ H₀ fp pn) elt τe)
    (hacc : (accN, NameKind.free) ∉ scope.names := by decide +kernel) (hacc' : (accN, NameKind.local) ∉ scope.names := by decide +kernel) (hS : ∀ j ∈ S, j < cn.length := by decide)
    (hsw : swapsWith (.ListComp elt [⟨tg, iter, ifs, 0⟩] scope pos) (some (.Name y py)) spos.line X.env = pure true := by rfl) (hiN : X.N[i]? = some y := by rfl) (hx : Loc X.env.scope y := by first | exact Or.inl rfl | exact Or.inr rfl)
    (hf : X.fn y = true ∨ X.env.scope.names.lookup y = some .local := by first | exact .inl rfl | exact .inr rfl) (hs : ∀ x, foldedSetIterable iter X.env x = pure x := by intro _; rfl) :
    QS X (.Assign [.Name y py] (.ListComp elt [⟨tg, iter, ifs, 0⟩] scope pos) spos) (zSetO i (zCompT τ cn.length js γ τt τe)) := by
  obtain ⟨t, ht, ks⟩ := hsrc
  exact q_setComp i hN (pi_tup ht) (src_tup ks) hc B hacc hacc' hS hγ hτt hτe hsw hiN hx hf hs
theorem q_setCompR (i : Nat) {y : Str} {py spos : Pos} {a : Expr} {p pp : Pos} (hN : X.N.Nodup) (hgl : Gl X "range") (hm : X.mg "range" = none) (hsrc : QA X [a] τa) (hc : X.calm = true) (B : BlkOk X scope cn fr js)
    (hγ : ∀ C s₀ H₀ fp pn, QG (X.blk (cn ++ (fr ++ [accN])) scope C s₀ H₀ fp pn) S tg γ) (hτt : ∀ C s₀ H₀ fp pn, QF (X.blk (cn ++ (fr ++ [accN])) scope C s₀ H₀ fp pn) ifs τt) (hτe : ∀ C s₀ H₀ fp pn, QE (X.blk (cn ++ (fr ++ [accN])) scope C s₀ H₀ fp pn) elt τe)
    (hacc : (accN, NameKind.free) ∉ scope.names := by decide +kernel) (hacc' : (accN, NameKind.local) ∉ scope.names := by decide +kernel) (hS : ∀ j ∈ S, j < cn.length := by decide)
    (hsw : swapsWith (.ListComp elt [⟨tg, .Call (.Name "range" p) [a] [] pp, ifs, 0⟩] scope pos) (some (.Name y py)) spos.line X.env = pure true := by rfl) (hiN : X.N[i]? = some y := by rfl) (hx : Loc X.env.scope y := by first | exact Or.inl rfl | exact Or.inr rfl)
    (hf : X.fn y = true ∨ X.env.scope.names.lookup y = some .local := by first | exact .inl rfl | exact .inr rfl) (hst : starEach [a] X.env = [(false, eval a X.env)] := by rfl) (hs : ∀ x, foldedSetIterable (.Call (.Name "range" p) [a] [] pp) X.env x = pure x := by intro _; rfl) :
    QS X (.Assign [.Name y py] (.ListComp elt [⟨tg, .Call (.Name "range" p) [a] [] pp, ifs, 0⟩] scope pos) spos) (zSetO i (zCompR τa cn.length js γ τt τe)) := by
  obtain ⟨t, ht, ks⟩ := hsrc
  exact q_setComp i hN (pi_range1 hgl hm ht hst) (src_rng ks) hc B hacc hacc' hS hγ hτt hτe hsw hiN hx hf hs
end
end
end L2
namespace L2
theorem iteNb {p : Prop} [Decidable p] {A B : Prop} (h1 : ¬ p → A) (h2 : p → B) : if (!decide p) = true then A else B := by
  by_cases h : p
  · rw [decide_eq_true h]
    exact iteF (h2 h)
  · rw [decide_eq_false h]
    exact iteT (h1 h)
end L2
namespace L2
open PySem
/-- an item that is known -/
theorem ixL {ds : List PyData} {i : Int} {d : PyData} {C : PyData → Prop} (e : atI ds i = some d) (h : C d) : rhIx (.list ds) (.int i) C := by
  exact optC_of e h
theorem ixT {ds : List PyData} {i : Int} {d : PyData} {C : PyData → Prop} (e : atI ds i = some d) (h : C d) : rhIx (.tuple ds) (.int i) C := by
  exact optC_of e h
end L2
namespace L2
theorem iteBF {b : Bool} {A B : Prop} (h : b = false) (hB : B) : if b = true then A else B := by
  rw [h]
  exact iteF hB
theorem iteBT {b : Bool} {A B : Prop} (h : b = true) (hA : A) : if b = true then A else B := by
  rw [h]
  exact iteT hA
end L2

set_option Elab.async false
set_option linter.all false
set_option maxRecDepth 100000
set_option maxHeartbeats 1000000
namespace L2
open PySem PySem.Spec PyProof.Rows
section
variable {X : Cx} {pos : Pos}
def rhTuple : Rho := fun ds C => match ds with | [.list xs] => C (.tuple xs) | [.tuple xs] => C (.tuple xs) | _ => False
theorem c_tuple : CallP X (.type "tuple") rhTuple := ⟨_, call_tuple_of, fun F H xs ds Q C le r c k => by
  unfold rhTuple at c
  split at c
  case h_1 ys =>
    obtain ⟨v, rfl, h⟩ := r.one
    obtain ⟨a, vs, rfl, hq, hs⟩ := h.sizes
    refine ⟨a, vs, rfl, .inl ⟨le.seq hq, fun l hl => ?_⟩⟩
    have g : Gr F H (upd F l (.tup vs)) (upd H l (.tup vs)) := Gr.new le hl
    exact k _ _ _ _ g (.tup (SqK.of upd_same) (hs.mono g.ff)) c
  case h_2 ys =>
    obtain ⟨v, rfl, h⟩ := r.one
    obtain ⟨a, vs, rfl, hq, hs⟩ := h.sizesT
    exact ⟨a, vs, rfl, .inr ⟨le.sqt hq, k _ _ _ _ (Gr.refl le) h c⟩⟩
  case h_3 => exact False.elim c⟩
/-! ### a value that the module holds -/
theorem q_glob {x : Str} {v : V} {u : Value} {d : PyData} (hg : Gl X x) (hm : X.mg x = some u) (r : RelV v u) (rp : ∀ F : Hp, Rp X.w X.K F v d) (hd : (x == ("__debug__" : Str)) = false := by decide) : QE X (.Name x pos) (zC d) :=
  ⟨_, pe_glob hg hm r hd, fun _ _ F _ H _ _ R h k => k _ _ F v H R (rp F) (Same.refl _) h⟩
theorem q_globR {x : Str} {a : Addr} {d : PyData} (hg : Gl X x) (hm : X.mg x = some (.ref a)) (rp : ∀ F : Hp, Rp X.w X.K F (.ref a) d) (hd : (x == ("__debug__" : Str)) = false := by decide) : QE X (.Name x pos) (zC d) := q_glob (v := .ref a) hg hm rfl rp hd
/-! ### list + list -/
def zCat (τ υ : TauE) : TauO := fun ev C => τ ev fun d1 ev1 => υ ev1 fun d2 ev2 => match d1, d2 with | .list xs, .list ys => xs.length + ys.length ≤ sizeLine ∧ C (.lst (xs ++ ys)) ev2 | _, _ => False
end
end L2

set_option Elab.async false
set_option linter.all false
set_option maxRecDepth 100000
set_option maxHeartbeats 1000000
namespace L2
open PySem PySem.Spec PyProof.Rows
/-! ### a, b, .. = a list -/
section
variable {prog : Program} {w : World} {A : Around} {E : Value → Shared → Prop} {s : Shared}
theorem draw_list {it l : Addr} {items : Array Value} (hne : l ≠ it) : ∀ (n i : Nat) (s : Shared) (Q : List Value → Shared → Prop), s.heap.IsListIter it l i → s.heap.IsList l items → i + n ≤ items.size →
    (∀ h', h'.IsListIter it l (i + n) → Heap.SameBut it s.heap h' → Q ((items.toList.drop i).take n) { s with heap := h' }) → wpAny (model prog w) A (draw (.ref it) n) Q E s
  | 0, i, s, Q, hit, _, _, hQ => by
    show wpAny _ _ (pure []) Q E s
    exact wpAny_pure (by simpa using hQ s.heap hit (Heap.SameBut.refl ..))
  | n + 1, i, s, Q, hit, ht, hle, hQ => by
    have hlt : i < items.size := by omega
    show wpAny _ _ (pyNext (.ref it) >>= _) Q E s
    refine wpAny_bind (wpAny_pyNext_list_item hit ht (x := items[i]) (by simp [hlt]) fun h₁ hit₁ hs₁ => ?_)
    refine wpAny_bind (wpAny_holding (draw_list hne n (i + 1) _ _ hit₁ (ht.extBut hs₁.extBut hne) (by omega) fun h₂ hit₂ hs₂ => wpAny_pure ?_))
    have hd : items.toList.drop i = items[i] :: items.toList.drop (i + 1) := by simp [List.drop_eq_getElem_cons, hlt]
    have := hQ h₂ (by rw [show i + (n + 1) = i + 1 + n by omega]; exact hit₂) (hs₁.trans hs₂)
    rw [hd, List.take_succ_cons] at this
    exact this
theorem unpackItems_list {t : Addr} {items : Array Value} {Q : List Value → Shared → Prop} (hh : A.handled = none) (ht : s.heap.IsList t items)
    (hQ : ∀ h', Heap.ExtBut s.heap.objs.size s.heap h' → Q items.toList { s with heap := h' }) : wpAny (model prog w) A (unpackItems (.ref t) items.size none) Q E s := by
  have hlt : t ≠ s.heap.objs.size := by obtain ⟨o, ho, _⟩ := ht; exact Nat.ne_of_lt (Heap.lt_size ho)
  unfold unpackItems
  refine wpAny_bind ?_
  · unfold notIterableAtAll
    refine wpAny_bind (wpAny_specialOf ht.typeIs slot_list_iter.lookup ?_)
    refine wpAny_pure ?_
    simp only [Bool.false_eq_true, if_false]
    refine wpAny_bind (wpAny_holding (wpAny_pyIter_list ht ?_))
    refine wpAny_bind (wpAny_holding (draw_list hlt items.size 0 _ _ ⟨_, Heap.get?_push_size _ rfl, rfl, rfl⟩ (ht.push _) (by omega) fun h₁ hit₁ hs₁ => ?_))
    have hall : List.take items.size (List.drop 0 items.toList) = items.toList := by
      rw [List.drop_zero]; exact List.take_of_length_le (by simp)
    rw [hall]
    rw [if_neg (by simp)]
    have ht₁ : h₁.IsList t items := (ht.push _).extBut hs₁.extBut hlt
    refine wpAny_bind (wpAny_holding (wpAny_pyNext_list_end hh hit₁ ht₁ (by simp) fun h₂ he₂ => ?_))
    simp only [Option.isSome_none, Bool.false_eq_true, if_false]
    refine wpAny_pure (hQ h₂ fun b o hb e => he₂ b o hb (hs₁.extBut b o hb (Heap.get?_push_of_some _ e)))
theorem unpack_list {t : Addr} {items : Array Value} {targets : List (Bool × (Value → Sem Unit))} {Q : Unit → Shared → Prop} (hh : A.handled = none) (ht : s.heap.IsList t items)
    (hn : targets.length = items.size) (hstar : targets.findIdx? (·.1) = none)
    (h : ∀ h', Heap.ExtBut s.heap.objs.size s.heap h' → wpAny (model prog w) A (assignInOrder (targets.map (·.2)) items.toList) Q E { s with heap := h' }) :
    wpAny (model prog w) A (unpack (.ref t) targets) Q E s := by
  unfold unpack
  rw [hn, hstar]
  exact wpAny_bind (wpAny_holding (unpackItems_list hh ht h))
end
section
variable {X : Cx} {pos : Pos}
def gLst (K : PySem.W.Frag) (n : Nat) (t : TGs) : TG := fun v σ H Q => ∃ a xs, v = .ref a ∧ SqL K H a xs ∧ xs.length = n ∧ t xs σ H Q
theorem pg_lst {es : List Expr} {k : Nat} {t : TGs} {n : Nat} (hc : X.calm = true) (h : PGs X es t)
    (hn : (assignEach es X.env).length = n := by rfl) (hst : (assignEach es X.env).findIdx? (·.1) = none := by rfl) : PG X (.Tuple es k pos) (gLst X.K n t) := by
  intro pins s σ H v u Q I r hw
  obtain ⟨a, xs, e1, hq, hl, hw⟩ := hw
  subst e1
  cases r
  obtain ⟨its, rv, ht, hz⟩ := I.list hq
  rw [assign_Tuple]
  refine wpAny_bind (wpAny_standAt (unpack_list (I.ok.hd hc) ht.isList (by simp [hn, ← hl, rv.length]) hst fun h' hx => ?_))
  have I1 : Inv X pins σ H { s with heap := h' } := I.kept (t' := s.toks) fun b o e => hx b o (Nat.ne_of_lt (Heap.lt_size e)) e
  exact h pins _ σ H xs _ Q I1 (by simpa using rv) hw
def zGlst (n : Nat) (δ : TauGs) : TauG := fun d ev C => match d with | .list ds => ds.length = n ∧ δ ds ev C | _ => False
theorem q_glst {es : List Expr} {kk : Nat} {n : Nat} {δ : TauGs} {S : List Nat} (hc : X.calm = true) (h : QGs X S es δ) (hn : (assignEach es X.env).length = n := by rfl) (hst : (assignEach es X.env).findIdx? (·.1) = none := by rfl) : QG X S (.Tuple es kk pos) (zGlst n δ) := by
  obtain ⟨t, ht, k⟩ := h
  refine ⟨_, pg_lst hc ht hn hst, fun F₀ ev F σ H v d Q C R r h kk => ?_⟩
  cases r with
  | lst hq hs => exact ⟨_, _, rfl, R.le.seq hq, by rw [hs.length]; exact h.1, k F₀ ev F σ H _ _ _ _ R hs h.2 kk⟩
  | _ => exact False.elim h
end
theorem rng_get {lo : Int} {n i : Nat} {x : PyData} (h : (rngD lo n)[i]? = some x) : i < n ∧ x = .int (lo + (i : Nat)) := by
  have h1 := (List.getElem?_eq_some_iff.mp h).1
  unfold rngD at h h1
  rw [List.length_map, List.length_range] at h1
  rw [List.getElem?_map, List.getElem?_range h1] at h
  cases h
  exact ⟨h1, rfl⟩
theorem rng_len (lo : Int) (n : Nat) : (rngD lo n).length = n := by
  unfold rngD
  rw [List.length_map, List.length_range]
end L2
namespace L2
open PySem PySem.Spec PyProof.Rows
section
variable {X : Cx} {pos : Pos}
def rCatS (K : PySem.W.Frag) : R2 := fun x y H Q => ∃ l b xs zs, x = .ref l ∧ y = .ref b ∧ SqL K H l xs ∧ SqL K H b zs ∧ xs.length + zs.length ≤ sizeLine ∧ ∀ p, H p = none → Q (.ref p) (upd H p (.lst (xs ++ zs)))
theorem op_catS : OpR X (binaryOp .Add) (rCatS X.K) := by
  intro pins s σ H x y v u Q I rx ry h
  obtain ⟨l, b, xs, zs, rfl, rfl, hl, hb, hz, q⟩ := h
  cases rx
  cases ry
  obtain ⟨its, r, ⟨o, n, ho, hc, hdi, hd⟩, _⟩ := I.list hl
  obtain ⟨its2, r2, ⟨o2, n2, ho2, hc2, hdi2, hd2⟩, _⟩ := I.list hb
  obtain ⟨cls, dd, data, sl⟩ := o
  obtain ⟨cls2, dd2, data2, sl2⟩ := o2
  simp only at hc hd hdi hc2 hd2 hdi2
  subst hc hd hdi hc2 hd2 hdi2
  have hz' : its.toArray.size + its2.toArray.size ≤ sizeLine := by rw [List.size_toArray, List.size_toArray, ← r.length, ← r2.length]; exact hz
  refine concat_meets ⟨_, ho, rfl⟩ ⟨_, ho2, rfl⟩ noFill_list_add seq_list_add PySem.F.slot_list_add PySem.F.entry_list_add (PySem.F.args_list_add_2 _ _) (list_addW l b its.toArray its2.toArray n n2 _ _ sl sl2 hz') ⟨ho, ho2, ?_⟩
  have ea : its.toArray ++ its2.toArray = (its ++ its2).toArray := by simp
  rw [ea]
  exact ⟨.ref _, _, I.lnew (t' := s.toks) (r.append r2) (by rw [List.length_append]; omega), rfl, q _ I.fresh⟩
theorem q_cat {a b : Expr} {τ υ : TauE} (ha : QE X a τ) (hb : QE X b υ) : QO X (.BinOp a .Add b pos) (zCat τ υ) := by
  obtain ⟨ta, ha, ka⟩ := ha
  obtain ⟨tb, hb, kb⟩ := hb
  refine ⟨_, pe_op op_catS ha hb, fun F₀ ev F σ H Q C R h k => ka F₀ ev F σ H _ _ R h fun d1 ev1 F1 x H1 R1 r1 s1 c1 => kb F₀ ev1 F1 σ H1 _ _ R1 c1 fun d2 ev2 F2 y H2 R2 r2 s2 c2 => ?_⟩
  cases r1 with
  | @lst l vs ds hq hs =>
    cases r2 with
    | @lst b ws es hq2 hs2 =>
      refine ⟨l, b, vs, ws, rfl, rfl, (s2.trans R2.le).seq hq, R2.le.seq hq2, by rw [hs.length, hs2.length]; exact c2.1, fun p hp => ?_⟩
      have g := Gr.newO (o := .lst (vs ++ ws)) R2.le hp
      exact k _ _ _ _ _ (R2.grow g) (Ow.ofL upd_same ((hs.mono s2).append hs2)) (R2.le.free hp) (R2.k0.free hp) (R2.nobody hp) (s1.trans s2) c2.2
    | _ => exact False.elim c2
  | _ => exact False.elim c2
end
end L2

set_option Elab.async false
set_option linter.all false
set_option maxRecDepth 100000
set_option maxHeartbeats 1000000
/-! lending: what a name owns is shared for the time of one expression, and owned again behind it -/
namespace L2
open PySem PySem.Spec PyProof.Rows
/-- nothing that is followed stands where a constant of the text stands -/
structure Dj (K : PySem.W.Frag) (H : Hp) : Prop where
  kk : ∀ b o, K.lookup b = some o → H b = Option.none
  ok : ∃ (P : Program) (w : World) (H' : Hp) (h : Heap), Same H H' ∧ HOk P w H' h
theorem Dj.le {K : PySem.W.Frag} {F H : Hp} (s : Same F H) (h : Dj K H) : Dj K F :=
  ⟨fun b o e => s.free (h.kk b o e), let ⟨P, w, H', h', e, z⟩ := h.ok; ⟨P, w, H', h', s.trans e, z⟩⟩
theorem Dj.pin {K : PySem.W.Frag} {F : Hp} {a : Addr} {o o' : Obj} (dj : Dj K F) (h : F a = some (PinO a o)) (h' : F a = some (PinO a o')) : o = o' := by
  obtain ⟨P, w, H', hp, e, z⟩ := dj.ok
  have y : hp.get? a = some o := (z a _ (e _ _ h)).1
  have y' : hp.get? a = some o' := (z a _ (e _ _ h')).1
  rw [y] at y'
  exact Option.some.inj y'
section
variable {X : Cx}
theorem Inv.dj {pins : List (Addr × Obj)} {σ : St} {H : Hp} {s : Shared} (I : Inv X pins σ H s) : Dj X.K H := ⟨fun b o e => (I.bs b o (I.mod.kin b o e)).2, _, _, H, s.heap, Same.refl _, I.hok⟩
def tDj (t : TE) : TE := fun σ H Q => t σ H fun v H' => Dj X.K H' → Q v H'
theorem pe_dj {e : Expr} {t : TE} (h : PE X e t) : PE X e (tDj (X := X) t) := fun pins s σ H Q I k => thn (h pins s σ H _ I k) fun u s' ⟨v, H', I', r, q⟩ => ⟨v, H', I', r, q I'.dj⟩
def tDjT (t : TT) : TT := fun σ H Q => t σ H fun b H' => Dj X.K H' → Q b H'
theorem pt_dj {e : Expr} {t : TT} (h : PT X e t) : PT X e (tDjT (X := X) t) := fun pins s σ H Q I k => thn (h pins s σ H _ I k) fun u s' ⟨H', I', q⟩ => ⟨H', I', q I'.dj⟩
end
section
variable {w : World} {K : PySem.W.Frag} {F F' H H' H₀ F₀ : Hp}
theorem Rd.fn {a : Addr} {u u' : HO} (h : Rd F a u) (h' : Rd F a u') (n : ∀ o v, u ≠ .frz o v) (n' : ∀ o v, u' ≠ .frz o v) : u = u' := by
  rcases h with h | ⟨o, h⟩ <;> rcases h' with h' | ⟨o', h'⟩ <;> rw [h] at h' <;> cases h'
  · rfl
  · exact absurd rfl (n _ _)
  · exact absurd rfl (n' _ _)
  · rfl
theorem Rd.nd {a : Addr} {u : HO} {o : Obj} (h : Rd F a u) (dj : Dj K F) (e : K.lookup a = some o) : False := by
  have := dj.kk a o e
  rcases h with h | ⟨o, h⟩ <;> rw [h] at this <;> cases this
theorem SqL.fn {a : Addr} {xs ys : List V} (dj : Dj K F) (h : SqL K F a xs) (h' : SqL K F a ys) : xs = ys := by
  rcases h with h | ⟨o, its, n, h1, h2, h3, h4, h5, h6⟩ <;> rcases h' with h' | ⟨o', its', n', h1', h2', h3', h4', h5', h6'⟩
  · have := Rd.fn h h' (fun _ _ z => by cases z) (fun _ _ z => by cases z)
    cases this; rfl
  · exact (h.nd dj h1').elim
  · exact (h'.nd dj h1).elim
  · rw [h1] at h1'; cases h1'
    rw [h4] at h4'; cases h4'
    exact h6.inj h6'
theorem SqT.fn {a : Addr} {xs ys : List V} (dj : Dj K F) (h : SqT K F a xs) (h' : SqT K F a ys) : xs = ys := by
  rcases h with h | ⟨o, its, n, h1, h2, h4, h5, h6⟩ <;> rcases h' with h' | ⟨o', its', n', h1', h2', h4', h5', h6'⟩
  · have := Rd.fn h h' (fun _ _ z => by cases z) (fun _ _ z => by cases z)
    cases this; rfl
  · exact (h.nd dj h1').elim
  · exact (h'.nd dj h1).elim
  · rw [h1] at h1'; cases h1'
    rw [h4] at h4'; cases h4'
    exact h6.inj h6'
theorem Sq.lt {a : Addr} {xs ys : List V} (dj : Dj K F) (h : SqL K F a xs) (h' : SqT K F a ys) : False := by
  rcases h with h | ⟨o, its, n, h1, h2, h3, h4, h5, h6⟩ <;> rcases h' with h' | ⟨o', its', n', h1', h2', h4', h5', h6'⟩
  · have := Rd.fn h h' (fun _ _ z => by cases z) (fun _ _ z => by cases z)
    cases this
  · exact (h.nd dj h1').elim
  · exact (h'.nd dj h1).elim
  · rw [h1] at h1'; cases h1'
    rw [h2] at h2'
    exact absurd h2' (by decide)
theorem SqL.nod {a : Addr} {xs : List V} {o' : Obj} (dj : Dj K F) (h : SqL K F a xs) (h' : F a = some (PinO a o')) : False := by
  rcases h with h | ⟨o, its, n, h1, h2, h3, h4, h5, h6⟩
  · have := Rd.fn h (.inl h') (fun _ _ z => by cases z) (fun _ _ z => by cases z)
    cases this
  · have := dj.kk a o h1
    rw [h'] at this; cases this
theorem SqT.nod {a : Addr} {xs : List V} {o' : Obj} (dj : Dj K F) (h : SqT K F a xs) (h' : F a = some (PinO a o')) : False := by
  rcases h with h | ⟨o, its, n, h1, h2, h4, h5, h6⟩
  · have := Rd.fn h (.inl h') (fun _ _ z => by cases z) (fun _ _ z => by cases z)
    cases this
  · have := dj.kk a o h1
    rw [h'] at this; cases this
theorem kV_fn : ∀ {k k' : Key} {u : Value}, RelV (kV k) u → RelV (kV k') u → k = k'
  | .inl _, .inl _, _, ⟨_, e⟩, ⟨_, e'⟩ => by subst e; cases e'; rfl
  | .inr _, .inr _, _, ⟨_, e⟩, ⟨_, e'⟩ => by subst e; cases e'; rfl
  | .inl _, .inr _, _, ⟨_, e⟩, ⟨_, e'⟩ => by subst e; cases e'
  | .inr _, .inl _, _, ⟨_, e⟩, ⟨_, e'⟩ => by subst e; cases e'
theorem kVs_fn : ∀ {a b : List Key}, a.map kV = b.map kV → a = b
  | [], [], _ => rfl
  | [], _ :: _, e => by cases e
  | _ :: _, [], e => by cases e
  | x :: a, y :: b, e => by
    rw [List.map_cons, List.map_cons] at e
    injection e with e1 e2
    rw [kVs_fn e2]
    cases x <;> cases y <;> cases e1 <;> rfl
theorem KeyR.fn : ∀ {k k' : KD} {u : Value}, KeyR F k u → KeyR F k' u → k = k'
  | .inl a, .inl b, _, h, h' => by rw [kV_fn (k := a) (k' := b) h h']
  | .inr a, .inr b, _, ⟨c, e, h⟩, ⟨c', e', h'⟩ => by
    subst e
    cases e'
    rw [h] at h'
    injection h' with h'
    injection h' with h'
    rw [kVs_fn h']
  | .inl (.inl _), .inr _, _, ⟨_, e⟩, ⟨_, e', _⟩ => by subst e; cases e'
  | .inl (.inr _), .inr _, _, ⟨_, e⟩, ⟨_, e', _⟩ => by subst e; cases e'
  | .inr _, .inl (.inl _), _, ⟨_, e', _⟩, ⟨_, e⟩ => by subst e; cases e'
  | .inr _, .inl (.inr _), _, ⟨_, e', _⟩, ⟨_, e⟩ => by subst e; cases e'
theorem recs_fn : ∀ {xs ys : List DX}, xs.map (entX w) = ys.map (entX w) → (∀ x ∈ xs, KeyR F x.1 x.2.1) → (∀ x ∈ ys, KeyR F x.1 x.2.1) → xs = ys
  | [], [], _, _, _ => rfl
  | [], _ :: _, e, _, _ => by cases e
  | _ :: _, [], e, _, _ => by cases e
  | (k, u, v) :: xs, (k', u', v') :: ys, e, h, h' => by
    rw [List.map_cons, List.map_cons] at e
    injection e with e1 e2
    have ih := recs_fn e2 (fun x hx => h x (List.mem_cons_of_mem _ hx)) (fun x hx => h' x (List.mem_cons_of_mem _ hx))
    injection e1 with _ e3 e4
    have e3 : u = u' := e3
    have e4 : v = v' := e4
    subst e3 e4 ih
    have a := h _ List.mem_cons_self
    have b := h' _ List.mem_cons_self
    have : k = k' := KeyR.fn (u := u) a b
    rw [this]
theorem DRec.fn {o : Obj} {xs ys : List DX} (r : DRec w o xs) (r' : DRec w o ys) (h : ∀ x ∈ xs, KeyR F x.1 x.2.1) (h' : ∀ x ∈ ys, KeyR F x.1 x.2.1) : xs = ys := by
  obtain ⟨es, ep, e1, e2⟩ := r.es
  obtain ⟨es', ep', e1', e2'⟩ := r'.es
  rw [e1] at e1'
  cases e1'
  exact recs_fn (e2.symm.trans e2') h h'
theorem kvs_eq {a b : List (KD × PyData)} (h : a.map (·.1) = b.map (·.1)) (h' : a.map (·.2) = b.map (·.2)) : a = b := by
  induction a generalizing b with
  | nil => cases b with | nil => rfl | cons _ _ => cases h
  | cons x a ih =>
    cases b with
    | nil => cases h
    | cons y b =>
      rw [List.map_cons, List.map_cons] at h h'
      injection h with h1 h2
      injection h' with h3 h4
      rw [ih h2 h4, Prod.ext h1 h3]
mutual
theorem Rp.fn (dj : Dj K F) : ∀ {v : V} {d d' : PyData}, Rp w K F v d → Rp w K F v d' → d = d'
  | _, _, _, .non, r => by cases r; rfl
  | _, _, _, .bl b, r => by cases r; rfl
  | _, _, _, .int i, r => by cases r; rfl
  | _, _, _, .str x, r => by cases r; rfl
  | _, _, _, .lst h hs, r => by
    cases r with
    | lst h' hs' =>
      cases SqL.fn dj h h'
      rw [Rps.fn dj hs hs']
    | tup h' hs' => exact (Sq.lt dj h h'.sqt).elim
    | dct h' => exact (SqL.nod dj h h').elim
  | _, _, _, .tup h hs, r => by
    cases r with
    | lst h' hs' => exact (Sq.lt dj h' h.sqt).elim
    | tup h' hs' =>
      cases SqT.fn dj h.sqt h'.sqt
      rw [Rps.fn dj hs hs']
    | dct h' => exact (SqT.nod dj h.sqt h').elim
  | _, _, _, .dct h _ r1 k1 q1 z1 hs, r => by
    cases r with
    | lst h' hs' => exact (SqL.nod dj h' h).elim
    | tup h' hs' => exact (SqT.nod dj h'.sqt h).elim
    | dct h' _ r2 k2 q2 z2 hs' =>
      cases dj.pin h h'
      cases r1.fn r2 k1 k2
      cases z1.inj z2
      rw [kvs_eq (q1.symm.trans q2) (Rps.fn dj hs hs')]
theorem Rps.fn (dj : Dj K F) : ∀ {vs : List V} {ds ds' : List PyData}, Rps w K F vs ds → Rps w K F vs ds' → ds = ds'
  | _, _, _, .nil, r => by cases r; rfl
  | _, _, _, .cons h hs, r => by
    cases r with
    | cons h' hs' => rw [Rp.fn dj h h', Rps.fn dj hs hs']
end
/-- D is nowhere within -/
inductive Ap (D : PyData) : PyData → Prop
  | non : Ap D .none
  | bl (b : Bool) : Ap D (.bool b)
  | int (i : Int) : Ap D (.int i)
  | str (x : Str) : Ap D (.str x)
  | lst {ds : List PyData} : .list ds ≠ D → (∀ d ∈ ds, Ap D d) → Ap D (.list ds)
  | tup {ds : List PyData} : (∀ d ∈ ds, Ap D d) → Ap D (.tuple ds)
  | dct {l : List (PyData × PyData)} : .dict l ≠ D → (∀ p ∈ l, Ap D p.2) → Ap D (.dict l)
def del (F : Hp) (a : Addr) : Hp := fun b => if b = a then Option.none else F b
theorem del_ne {a b : Addr} (h : b ≠ a) : del F a b = F b := if_neg h
theorem del_same {a : Addr} : del F a a = Option.none := if_pos rfl
theorem Rd.del {a b : Addr} {u : HO} (ne : b ≠ a) (h : Rd F b u) : Rd (del F a) b u := by
  unfold Rd
  rw [del_ne ne]
  exact h
theorem KeyR.del {a : Addr} {D : PyData} (dj : Dj K F) (hD : Rp w K F (.ref a) D) (hn : ∀ ds, D ≠ .tuple ds) : ∀ {k : KD} {u : Value}, KeyR F k u → KeyR (L2.del F a) k u
  | .inl _, _, h => h
  | .inr ks, _, ⟨b, e, h⟩ => by
    refine ⟨b, e, ?_⟩
    rw [del_ne]
    · exact h
    · intro z
      subst z
      cases hD with
      | lst h' hs' => exact Sq.lt dj h' (.inl (.inl h))
      | tup h' hs' => exact hn _ rfl
      | dct h' => rw [h] at h'; cases h'
mutual
theorem Rp.del {a : Addr} {D : PyData} (dj : Dj K F) (hD : Rp w K F (.ref a) D) (hn : ∀ ds, D ≠ .tuple ds) : ∀ {v : V} {d : PyData}, Rp w K F v d → Ap D d → Rp w K (L2.del F a) v d
  | _, _, .non, _ => .non
  | _, _, .bl b, _ => .bl b
  | _, _, .int i, _ => .int i
  | _, _, .str x, _ => .str x
  | _, _, .lst (a := b) h hs, p => by
    cases p with
    | lst hne hp =>
      refine .lst ?_ (Rps.del dj hD hn hs hp)
      rcases h with h | h
      · refine .inl (Rd.del (fun z => ?_) h)
        subst z
        exact hne (Rp.fn dj (.lst (.inl h) hs) hD)
      · exact .inr h
  | _, _, .tup (a := b) h hs, p => by
    cases p with
    | tup hp =>
      refine .tup ?_ (Rps.del dj hD hn hs hp)
      rcases h with h | h
      · refine .inl ?_
        rw [del_ne]
        · exact h
        · intro z
          subst z
          exact hn _ (Rp.fn dj hD (.tup (.inl h) hs))
      · exact .inr h
  | _, _, .dct (a := b) (kvs := kvs) h l r1 k1 q1 z1 hs, p => by
    cases p with
    | dct hne hp =>
      refine .dct ?_ l r1 (fun x hx => KeyR.del dj hD hn (k1 x hx)) q1 z1 (Rps.del dj hD hn hs fun d hd => ?_)
      · rw [del_ne]
        · exact h
        · intro z
          subst z
          exact hne (Rp.fn dj (.dct h l r1 k1 q1 z1 hs) hD)
      · obtain ⟨kv, h1, rfl⟩ := List.mem_map.mp hd
        exact hp (kdD kv.1, kv.2) (List.mem_map.mpr ⟨kv, h1, rfl⟩)
theorem Rps.del {a : Addr} {D : PyData} (dj : Dj K F) (hD : Rp w K F (.ref a) D) (hn : ∀ ds, D ≠ .tuple ds) : ∀ {vs : List V} {ds : List PyData}, Rps w K F vs ds → (∀ d ∈ ds, Ap D d) → Rps w K (L2.del F a) vs ds
  | _, _, .nil, _ => .nil
  | _, _, .cons h hs, p => .cons (Rp.del dj hD hn h (p _ (by simp))) (Rps.del dj hD hn hs fun d hd => p d (by simp [hd]))
end
def ApM (D : PyData) : MV → Prop
  | .lst ds => ∀ d ∈ ds, Ap D d
  | .dct kvs => ∀ kv ∈ kvs, Ap D kv.2
theorem Ow.del {a b : Addr} {D : PyData} {m : MV} (dj : Dj K F) (hD : Rp w K F (.ref a) D) (hn : ∀ ds, D ≠ .tuple ds) (h : Ow w K F H b m) (p : ApM D m) : Ow w K (L2.del F a) H b m := by
  cases m with
  | lst ds => obtain ⟨vs, e, r⟩ := h; exact ⟨vs, e, Rps.del dj hD hn r p⟩
  | dct kvs =>
    obtain ⟨o, xs, vs, e, y, q, k, z, u, r⟩ := h
    exact ⟨o, xs, vs, e, y, q, fun x hx => KeyR.del dj hD hn (k x hx), z, u, Rps.del dj hD hn r fun d hd => by
      obtain ⟨kv, h1, rfl⟩ := List.mem_map.mp hd
      exact p kv h1⟩
def ApSl (D : PyData) : Sl → Prop
  | .own m => ApM D m
  | _ => True
def ApAll (D : PyData) : Ev → Prop
  | [] => True
  | s :: r => ApSl D s ∧ ApAll D r
/-- all that is owned beside i -/
def ApBut (D : PyData) : Nat → Ev → Prop
  | _, [] => True
  | 0, _ :: r => ApAll D r
  | i + 1, s :: r => ApSl D s ∧ ApBut D i r
theorem ApAll.get {D : PyData} : ∀ {ev : Ev} {j : Nat} {s : Sl}, ApAll D ev → ev[j]? = some s → ApSl D s
  | [], _, _, _, e => by simp at e
  | _ :: _, 0, _, h, e => by simp at e; subst e; exact h.1
  | _ :: _, j + 1, _, h, e => ApAll.get (j := j) h.2 (by simpa using e)
theorem ApBut.get {D : PyData} : ∀ {i : Nat} {ev : Ev} {j : Nat} {s : Sl}, ApBut D i ev → j ≠ i → ev[j]? = some s → ApSl D s
  | _, [], _, _, _, _, e => by simp at e
  | 0, _ :: _, 0, _, _, n, _ => absurd rfl n
  | 0, _ :: _, j + 1, _, h, _, e => ApAll.get (j := j) h (by simpa using e)
  | i + 1, _ :: _, 0, _, h, _, e => by simp at e; subst e; exact h.1
  | i + 1, _ :: _, j + 1, _, h, n, e => ApBut.get (i := i) (j := j) h.2 (fun z => n (by rw [z])) (by simpa using e)
theorem frz_nt (m : MV) : ∀ ds, frz m ≠ .tuple ds := fun ds z => by cases m <;> cases z
/-- owned again -/
theorem RS.thaw {F1 H1 : Hp} {ev : Ev} {σ : St} {i : Nat} {m : MV} {a : Addr} {o : HO} (dj : Dj K H1) (R : RS w K H₀ F₀ F ev σ H) (hi : ev[i]? = some (.own m)) (hs : σ[i]? = some (some (.ref a))) (ho : H a = some o)
    (R1 : RS w K H₀ F₀ F1 (ev.set i (.val (frz m))) σ H1) (s1 : Same (upd F a o) F1) (p : ApBut (frz m) i ev) :
    RS w K H₀ F₀ (del F1 a) ev σ H1 ∧ Rp w K F1 (.ref a) (frz m) ∧ Same F (del F1 a) := by
  obtain ⟨a', q1, q2, hf, h0⟩ := R.own i m hi
  rw [hs] at q1; cases q1
  have dj1 : Dj K F1 := dj.le R1.le
  have sF : Same F (upd F a o) := same_upd hf
  have hD : Rp w K F1 (.ref a) (frz m) := (q2.frz ho hf).mono s1
  have sm : Same F (del F1 a) := fun b u q => by
    rw [del_ne (ne_of_none q hf)]
    exact s1 _ _ (sF _ _ q)
  have ha1 : F1 a = some o := s1 _ _ upd_same
  have hn := frz_nt m
  refine ⟨⟨⟨fun b u q => ?_, R1.k0, R.f0.trans sm, fun b z => ?_⟩, R.len, fun j d e => ?_, fun j m' e => ?_, R.uni, fun j C e => ?_⟩, hD, sm⟩
  · by_cases e : b = a
    · subst e; rw [del_same] at q; cases q
    · rw [del_ne e] at q; exact R1.le b u q
  · by_cases e : b = a
    · subst e; exact absurd del_same z
    · rw [del_ne e] at z; exact R1.nw b z
  · obtain ⟨v, h1, h2⟩ := R.val j d e
    exact ⟨v, h1, h2.mono sm⟩
  · by_cases ej : j = i
    · subst ej
      rw [hi] at e; cases e
      refine ⟨a, hs, ?_, del_same, h0⟩
      cases m with
      | lst ds =>
        obtain ⟨vs, e, r⟩ := q2
        rw [e] at ho; cases ho
        exact ⟨vs, R1.le _ _ ha1, r.mono sm⟩
      | dct kvs =>
        obtain ⟨o, xs, vs, e, y, q, k, z, u, r⟩ := q2
        rw [e] at ho; cases ho
        exact ⟨o, xs, vs, R1.le _ _ ha1, y, q, fun x hx => (k x hx).mono sm, z, u, r.mono sm⟩
    · obtain ⟨b, h1, h2, h3, h4⟩ := R1.own j m' (by rw [List.getElem?_set_ne (fun z => ej z.symm)]; exact e)
      have ne : b ≠ a := by
        rintro rfl
        exact ej (R.uni j i m' m b e hi h1 hs)
      exact ⟨b, h1, h2.del dj1 hD hn (p.get ej e), by rw [del_ne ne]; exact h3, h4⟩
  · obtain ⟨ea, h1, h2⟩ := R.exc j C e
    exact ⟨ea, h1, sm _ _ h2⟩
end
section
variable {X : Cx} {e : Expr}
def zLend (i : Nat) (τ : TauE) : TauE := fun ev C => match ev[i]? with | some (.own m) => τ (ev.set i (.val (frz m))) fun d ev' => ev' = ev.set i (.val (frz m)) ∧ Ap (frz m) d ∧ ApBut (frz m) i ev ∧ C d ev | _ => False
theorem q_lend (i : Nat) {τ : TauE} (h : QE X e τ) : QE X e (zLend i τ) := by
  obtain ⟨t, ht, k⟩ := h
  refine ⟨_, pe_dj ht, fun F₀ ev F σ H Q C R h kk => ?_⟩
  unfold zLend at h
  split at h
  case h_1 m em =>
    obtain ⟨a, h1, h2, h3, h4⟩ := R.own i m em
    obtain ⟨o, ho⟩ := h2.there
    obtain ⟨R', rp, sm⟩ := R.freeze em h1 ho
    refine k F₀ _ _ σ H _ _ R' h fun d ev' F1 v H1 R1 r1 s1 c dj => ?_
    obtain ⟨rfl, ap, ab, c⟩ := c
    obtain ⟨R2, hD, s2⟩ := R.thaw dj em h1 ho R1 s1 ab
    exact kk d ev _ v H1 R2 (Rp.del (dj.le R1.le) hD (frz_nt m) r1 ap) s2 c
  case h_2 => exact h.elim
def zLendT (i : Nat) (τ : TauT) : TauT := fun ev C => match ev[i]? with | some (.own m) => τ (ev.set i (.val (frz m))) fun b ev' => ev' = ev.set i (.val (frz m)) ∧ ApBut (frz m) i ev ∧ C b ev | _ => False
theorem q_lendT (i : Nat) {τ : TauT} (h : QT X e τ) : QT X e (zLendT i τ) := by
  obtain ⟨t, ht, k⟩ := h
  refine ⟨_, pt_dj ht, fun F₀ ev F σ H Q C R h kk => ?_⟩
  unfold zLendT at h
  split at h
  case h_1 m em =>
    obtain ⟨a, h1, h2, h3, h4⟩ := R.own i m em
    obtain ⟨o, ho⟩ := h2.there
    obtain ⟨R', rp, sm⟩ := R.freeze em h1 ho
    refine k F₀ _ _ σ H _ _ R' h fun b ev' F1 H1 R1 s1 c dj => ?_
    obtain ⟨rfl, ab, c⟩ := c
    obtain ⟨R2, hD, s2⟩ := R.thaw dj em h1 ho R1 s1 ab
    exact kk b ev _ H1 R2 s2 c
  case h_2 => exact h.elim
def zLendO (i : Nat) (τ : TauO) : TauO := fun ev C => match ev[i]? with | some (.own m) => τ (ev.set i (.val (frz m))) fun m' ev' => ev' = ev.set i (.val (frz m)) ∧ ApM (frz m) m' ∧ ApBut (frz m) i ev ∧ C m' ev | _ => False
theorem q_lendO (i : Nat) {τ : TauO} (h : QO X e τ) : QO X e (zLendO i τ) := by
  obtain ⟨t, ht, k⟩ := h
  refine ⟨_, pe_dj ht, fun F₀ ev F σ H Q C R h kk => ?_⟩
  unfold zLendO at h
  split at h
  case h_1 m em =>
    obtain ⟨a, h1, h2, h3, h4⟩ := R.own i m em
    obtain ⟨o, ho⟩ := h2.there
    obtain ⟨R', rp, sm⟩ := R.freeze em h1 ho
    refine k F₀ _ _ σ H _ _ R' h fun m' ev' F1 b H1 R1 w hf h0 hu s1 c dj => ?_
    obtain ⟨rfl, ap, ab, c⟩ := c
    obtain ⟨R2, hD, s2⟩ := R.thaw dj em h1 ho R1 s1 ab
    have ne : b ≠ a := by
      rintro rfl
      rw [s1 _ _ upd_same] at hf
      cases hf
    refine kk m' ev _ b H1 R2 (w.del (dj.le R1.le) hD (frz_nt m) ap) (by rw [del_ne ne]; exact hf) h0 (fun j m2 ej q => ?_) s2 c
    by_cases z : j = i
    · subst z
      rw [h1] at q
      cases q
      exact ne rfl
    · exact hu j m2 (by rw [List.getElem?_set_ne (fun y => z y.symm)]; exact ej) q
  case h_2 => exact h.elim
end
end L2

set_option Elab.async false
set_option linter.all false
set_option maxRecDepth 100000
set_option maxHeartbeats 1000000
/-! texts: sorted, and what goes with it -/
namespace L2
open PySem PySem.Spec PyProof.Rows
section
variable {X : Cx} {pos : Pos}
theorem strsAre_of : ∀ {ss : List Str} {its : List Value}, Vals (ss.map .str) its → StrsAre its ss
  | [], _, r => by cases r; exact .nil
  | x :: ss, _, r => by
    cases r with
    | cons h t =>
      obtain ⟨t', rfl⟩ := h
      exact .cons x t' (strsAre_of t)
theorem vals_strs : ∀ {ss : List Str} {its : List Value}, StrsAre its ss → Vals (ss.map .str) its
  | _, _, .nil => .nil
  | _, _, .cons x t h => .cons ⟨t, rfl⟩ (vals_strs h)
/-- sorted of texts, fewer than 64 -/
def rSortS (K : PySem.W.Frag) : List V → Hp → VK → Prop := fun xs H Q => ∃ p ss, xs = [.ref p] ∧ SqL K H p (ss.map .str) ∧ ss.length < 64 ∧ ∀ l ss', H l = none → ss'.Perm ss → sortedS ss' = true → Q (.ref l) (upd H l (.lst (ss'.map .str)))
theorem call_sortedS : CallR X (.builtin "sorted") (rSortS X.K) := by
  intro pins s σ H xs us Q I r h
  obtain ⟨p, ss, rfl, hq, h64, q⟩ := h
  obtain ⟨u, rfl, rx⟩ := vals1 r
  cases rx
  obtain ⟨its, r', pl, hz⟩ := I.list hq
  have hlen := r'.length
  rw [List.length_map] at hlen
  refine sorted_strs pl.isList (strsAre_of r') (by omega) fun out ss' a1 a2 a3 => ?_
  obtain ⟨e, he⟩ := sortedAll_at s.heap its out
  have hl := a2.length_eq
  refine ⟨.ref (s.heap.objs.size + 1), _, I.laid (t' := s.toks) (fun _ _ => sortedAll_old) (Nat.le_succ _) (show ObjOk X.prog X.w _ _ _ (.lst (ss'.map .str)) from ⟨by rw [List.length_map, hl]; exact Nat.le_trans (Nat.le_of_lt h64) (by decide), out.toList, e, vals_strs a1, by simpa using he⟩), rfl, q _ ss' (I.hok.fresh (Nat.le_succ _)) a2 a3⟩
end
end L2

set_option Elab.async false
set_option linter.all false
set_option maxRecDepth 100000
set_option maxHeartbeats 1000000
namespace L2
open PySem PySem.Spec PyProof.Rows
section
variable {X : Cx} {pos : Pos}
/-! ### built-in calls that make a new list -/
abbrev RhoO := List PyData → (MV → Prop) → Prop
def CallO (X : Cx) (f : Value) (ρ : RhoO) : Prop := ∃ r : List V → Hp → VK → Prop, CallR X f r ∧ ∀ (F H : Hp) (xs : List V) (ds : List PyData) (Q : VK) (C : MV → Prop), Same F H → Rps X.w X.K F xs ds → ρ ds C →
  (∀ m a o, H a = Option.none → Ow X.w X.K F (upd H a o) a m → C m → Q (.ref a) (upd H a o)) → r xs H Q
def zCBO (ρ : RhoO) (τ : TauA) : TauO := fun ev C => τ ev fun ds ev' => ρ ds fun m => C m ev'
theorem zcbo {ρ : RhoO} {r : List V → Hp → VK → Prop} {τ : TauA} {t : TA} (kr : ∀ (F H : Hp) (xs : List V) (ds : List PyData) (Q : VK) (C : MV → Prop), Same F H → Rps X.w X.K F xs ds → ρ ds C → (∀ m a o, H a = Option.none → Ow X.w X.K F (upd H a o) a m → C m → Q (.ref a) (upd H a o)) → r xs H Q)
    (ka : ∀ (F₀ : Hp) (ev : Ev) (F : Hp) (σ : St) (H : Hp) (Q : List V → Hp → Prop) (C : List PyData → Ev → Prop), RS X.w X.K X.H₀ F₀ F ev σ H → τ ev C → (∀ d ev' F' v H', RS X.w X.K X.H₀ F₀ F' ev' σ H' → Rps X.w X.K F' v d → Same F F' → C d ev' → Q v H') → t σ H Q)
    (F₀ : Hp) (ev : Ev) (F : Hp) (σ : St) (H : Hp) (Q : VK) (C : MV → Ev → Prop) (R : RS X.w X.K X.H₀ F₀ F ev σ H) (h : zCBO ρ τ ev C)
    (k : ∀ m ev' F' a H', RS X.w X.K X.H₀ F₀ F' ev' σ H' → Ow X.w X.K F' H' a m → F' a = Option.none → X.H₀ a = Option.none → (∀ (j : Nat) (m' : MV), ev'[j]? = some (.own m') → σ[j]? ≠ some (some (.ref a))) → Same F F' → C m ev' → Q (.ref a) H') : tCB r t σ H Q :=
  ka F₀ ev F σ H _ _ R h fun ds ev' F' vs H' R' r s c => kr F' H' vs ds _ _ R'.le r c fun m a o hp w c2 => k m ev' F' a _ (R'.grow (Gr.newO R'.le hp)) w (R'.le.free hp) (R'.k0.free hp) (R'.nobody hp) s c2
theorem q_callBO {id : String} {x : Str} {p : Pos} {e : Expr} {es : List Expr} {ρ : RhoO} {τ : TauA} (hc : CallO X (.builtin id) ρ) (hg : Gl X x) (hm : X.mg x = none) (hv : bootBuiltins x = some (.builtin id)) (ha : QA X (e :: es) τ) (hn : x ≠ "__name__" := by decide) (hdb : (x == ("__debug__" : Str)) = false := by decide)
    (he : starEach (e :: es) X.env = (false, eval e X.env) :: starEach es X.env := by rfl) (hpl : (backTo pos (starEach es X.env)).any (·.1) = false := by rfl) : QO X (.Call (.Name x p) (e :: es) [] pos) (zCBO ρ τ) := by
  obtain ⟨r, hr, kr⟩ := hc
  obtain ⟨t, ht, ka⟩ := ha
  exact ⟨_, pe_callB hr hg hm hv ht hn hdb he hpl, zcbo kr ka⟩
theorem q_callTyO {T : String} {x : Str} {p : Pos} {e : Expr} {es : List Expr} {ρ : RhoO} {τ : TauA} (hc : CallO X (.type T) ρ) (hg : Gl X x) (hm : X.mg x = none) (hv : bootBuiltins x = some (.type T)) (ha : QA X (e :: es) τ) (hn : x ≠ "__name__" := by decide) (hdb : (x == ("__debug__" : Str)) = false := by decide)
    (he : starEach (e :: es) X.env = (false, eval e X.env) :: starEach es X.env := by rfl) (hpl : (backTo pos (starEach es X.env)).any (·.1) = false := by rfl) : QO X (.Call (.Name x p) (e :: es) [] pos) (zCBO ρ τ) := by
  obtain ⟨r, hr, kr⟩ := hc
  obtain ⟨t, ht, ka⟩ := ha
  exact ⟨_, pe_callTy hr hg hm hv ht hn hdb he hpl, zcbo kr ka⟩
theorem Rps.strs {w : World} {K : PySem.W.Frag} {F : Hp} : ∀ {vs : List V} {ss : List Str}, Rps w K F vs (ss.map .str) → vs = ss.map .str
  | _, [], h => by cases h; rfl
  | _, x :: ss, h => by
    cases h with
    | cons h1 h2 =>
      cases h1
      rw [Rps.strs h2]
      rfl
theorem rps_strs {w : World} {K : PySem.W.Frag} {F : Hp} : ∀ (ss : List Str), Rps w K F (ss.map .str) (ss.map .str)
  | [] => .nil
  | x :: ss => .cons (.str x) (rps_strs ss)
def rhSortS : RhoO := fun ds C => match ds with | [.list xs] => ∃ ss : List Str, xs = ss.map .str ∧ ss.length < 64 ∧ ∀ ss', ss'.Perm ss → sortedS ss' = true → C (.lst (ss'.map .str)) | _ => False
theorem c_sortedS : CallO X (.builtin "sorted") rhSortS := ⟨_, call_sortedS, fun F H xs ds Q C le r c k => by
  unfold rhSortS at c
  split at c
  case h_1 ys =>
    obtain ⟨ss, rfl, h64, c⟩ := c
    obtain ⟨v, rfl, h⟩ := r.one
    obtain ⟨a, vs, rfl, hq, hs⟩ := h.sizes
    cases hs.strs
    exact ⟨a, ss, rfl, le.seq hq, h64, fun l ss' hl hp hs' => k _ _ _ hl (Ow.ofL upd_same (rps_strs ss')) (c ss' hp hs')⟩
  case h_2 => exact False.elim c⟩
def rhList : RhoO := fun ds C => match ds with | [.list xs] => C (.lst xs) | [.tuple xs] => C (.lst xs) | _ => False
theorem c_list : CallO X (.type "list") rhList := ⟨_, call_list_of, fun F H xs ds Q C le r c k => by
  unfold rhList at c
  split at c
  case h_1 ys =>
    obtain ⟨v, rfl, h⟩ := r.one
    obtain ⟨a, vs, rfl, hq, hs⟩ := h.sizes
    exact ⟨a, vs, rfl, .inl (le.seq hq), fun l hl => k _ _ _ hl (Ow.ofL upd_same hs) c⟩
  case h_2 ys =>
    obtain ⟨v, rfl, h⟩ := r.one
    obtain ⟨a, vs, rfl, hq, hs⟩ := h.sizesT
    exact ⟨a, vs, rfl, .inr (le.sqt hq), fun l hl => k _ _ _ hl (Ow.ofL upd_same hs) c⟩
  case h_3 => exact False.elim c⟩
/-! ### texts -/
def rhAddS : Rho2 := fun a b C => match a, b with | .str x, .str y => x.length + y.length ≤ sizeLine ∧ C (.str (x ++ y)) | _, _ => False
theorem o_addS : OpP X (binaryOp .Add) rhAddS := ⟨_, op_add_str, fun F H x y dx dy Q C le rx ry c k => by
  unfold rhAddS at c
  split at c
  case h_1 a b =>
    cases rx; cases ry
    exact ⟨a, b, rfl, rfl, c.1, k _ _ _ _ (Gr.refl le) (.str _) c.2⟩
  case h_2 => exact False.elim c⟩
def rhLtS : Rho2 := fun a b C => match a, b with | .str x, .str y => C (.bool (decide (x.cps.toList < y.cps.toList))) | _, _ => False
theorem o_ltS : OpP X (compareOp .Lt) rhLtS := ⟨_, op_lt_str, fun F H x y dx dy Q C le rx ry c k => by
  unfold rhLtS at c
  split at c
  case h_1 a b =>
    cases rx; cases ry
    exact ⟨a, b, rfl, rfl, k _ _ _ _ (Gr.refl le) (.bl _) c⟩
  case h_2 => exact False.elim c⟩
theorem inV_strs (x : Str) : ∀ ss : List Str, inV (.str x) (ss.map .str) = decide (x ∈ ss)
  | [] => rfl
  | y :: ss => by
    have ih := inV_strs x ss
    unfold inV at ih ⊢
    rw [List.map_cons, List.any_cons, ih]
    have : eqV (.str y) (.str x) = decide (x = y) := by
      unfold eqV
      by_cases e : x = y
      · subst e; simp
      · rw [decide_eq_false e]
        simpa using fun z => e z.symm
    rw [this]
    by_cases e : x = y <;> by_cases e2 : x ∈ ss <;> simp [e, e2]
theorem flat_strs : ∀ ss : List Str, (ss.map V.str).all flatV = true
  | [] => rfl
  | _ :: ss => by rw [List.map_cons, List.all_cons, flat_strs ss]; rfl
def seqD : PyData → Option (List PyData)
  | .list ds => some ds
  | .tuple ds => some ds
  | _ => none
theorem seq_any {w : World} {K : PySem.W.Frag} {H : Hp} {v : V} {d : PyData} {ds : List PyData} (r : Rp w K H v d) (e : seqD d = some ds) : ∃ p ys, v = .ref p ∧ (SqL K H p ys ∨ SqT K H p ys) ∧ Rps w K H ys ds := by
  cases r with
  | lst h hs => cases e; exact ⟨_, _, rfl, .inl h, hs⟩
  | tup h hs => cases e; exact ⟨_, _, rfl, .inr h.sqt, hs⟩
  | _ => cases e
/-- a text in a list or tuple of texts -/
def rhInS (neg : Bool) : Rho2 := fun a b C => ∃ (x : Str) (ss : List Str), a = .str x ∧ seqD b = some (ss.map .str) ∧ C (.bool (if neg then !decide (x ∈ ss) else decide (x ∈ ss)))
theorem o_inS : OpP X (compareOp .In) (rhInS false) := ⟨_, op_in_seq, fun F H x y dx dy Q C le rx ry c k => by
  obtain ⟨z, ss, rfl, e, c⟩ := c
  cases rx
  obtain ⟨p, ys, rfl, hq, hs⟩ := seq_any (ry.mono le) e
  cases hs.strs
  exact ⟨p, _, rfl, hq, rfl, flat_strs ss, by rw [inV_strs]; exact k _ _ _ _ (Gr.refl le) (.bl _) c⟩⟩
theorem o_notInS : OpP X (compareOp .NotIn) (rhInS true) := ⟨_, op_notIn_seq, fun F H x y dx dy Q C le rx ry c k => by
  obtain ⟨z, ss, rfl, e, c⟩ := c
  cases rx
  obtain ⟨p, ys, rfl, hq, hs⟩ := seq_any (ry.mono le) e
  cases hs.strs
  exact ⟨p, _, rfl, hq, rfl, flat_strs ss, by rw [inV_strs]; exact k _ _ _ _ (Gr.refl le) (.bl _) c⟩⟩
def rhInt : Rho := fun ds C => match ds with | [.int i] => C (.int i) | [.bool b] => C (.int (if b then 1 else 0)) | _ => False
theorem c_int : CallP X (.type "int") rhInt := ⟨_, call_int1, fun F H xs ds Q C le r c k => by
  unfold rhInt at c
  split at c
  case h_1 i =>
    obtain ⟨v, rfl, h⟩ := r.one
    cases h
    exact .inl ⟨i, rfl, k _ _ _ _ (Gr.refl le) (.int _) c⟩
  case h_2 b =>
    obtain ⟨v, rfl, h⟩ := r.one
    cases h
    exact .inr ⟨b, rfl, k _ _ _ _ (Gr.refl le) (.int _) c⟩
  case h_3 => exact False.elim c⟩
def rhLenS : Rho := fun ds C => match ds with | [.str z] => z.length ≤ sizeLine ∧ C (.int z.length) | _ => False
theorem c_lenS : CallP X (.builtin "len") rhLenS := ⟨_, call_len_str, fun F H xs ds Q C le r c k => by
  unfold rhLenS at c
  split at c
  case h_1 z =>
    obtain ⟨v, rfl, h⟩ := r.one
    cases h
    exact ⟨z, rfl, c.1, k _ _ _ _ (Gr.refl le) (.int _) c.2⟩
  case h_2 => exact False.elim c⟩
end
end L2

set_option Elab.async false
set_option linter.all false
set_option maxRecDepth 100000
set_option maxHeartbeats 1000000
namespace L2
open PySem PySem.Spec PyProof.Rows
section
variable {X : Cx} {pos : Pos}
/-! ### x.clear(), x.reverse(), x.pop(e), where x owns a list -/
def zMut0 (i : Nat) (g : List PyData → List PyData) : TauS := fun P ev => match ev[i]? with | some (.own (.lst ds)) => P.nx (ev.set i (.own (.lst (g ds)))) | _ => False
theorem q_clear (i : Nat) {x : Str} {xp apos cpos : Pos} (hN : X.N[i]? = some x := by rfl) (hv : Vis X.env.scope x := by first | exact Or.inl rfl | exact Or.inr (Or.inl rfl) | exact Or.inr (Or.inr rfl))
    (hd : (x == ("__debug__" : Str)) = false := by decide) (hcd : (x == ("__classdict__" : Str)) = false := by decide) (hs : swapsWith (.Call (.Attribute (.Name x xp) "clear" apos) [] [] cpos) none pos.line X.env = pure false := by rfl)
    (hbase : attributeBase (.Name x xp) "clear" X.env (eval (.Name x xp) X.env) = eval (.Name x xp) X.env := by rfl) (hline : (apos.endLine == cpos.line) = true := by rfl) :
    QS X (.Expr (.Call (.Attribute (.Name x xp) "clear" apos) [] [] cpos) pos) (zMut0 i fun _ => []) := by
  refine ⟨_, ps_expr (pe_bm0 PySem.F.plainAttrs_list PySem.F.slot_list_clear PySem.F.type_list_clear mt_clear (pe_var hN hv hd hcd) hbase hline) hs, fun F₀ D P ev F σ H E R h => ?_⟩
  unfold zMut0 at h
  split at h
  case h_1 ds e1 =>
    obtain ⟨a, vs, s0, h1, h2⟩ := R.item e1
    exact ⟨.ref a, s0, .inl ⟨rfl, _, SqL.of h1⟩, a, vs, rfl, rfl, h1, E.nx _ _ _ _ (R.change e1 s0 (m' := .lst []) (Ow.ofL upd_same .nil)) h⟩
  case h_2 => exact h.elim
theorem q_reverse (i : Nat) {x : Str} {xp apos cpos : Pos} (hN : X.N[i]? = some x := by rfl) (hv : Vis X.env.scope x := by first | exact Or.inl rfl | exact Or.inr (Or.inl rfl) | exact Or.inr (Or.inr rfl))
    (hd : (x == ("__debug__" : Str)) = false := by decide) (hcd : (x == ("__classdict__" : Str)) = false := by decide) (hs : swapsWith (.Call (.Attribute (.Name x xp) "reverse" apos) [] [] cpos) none pos.line X.env = pure false := by rfl)
    (hbase : attributeBase (.Name x xp) "reverse" X.env (eval (.Name x xp) X.env) = eval (.Name x xp) X.env := by rfl) (hline : (apos.endLine == cpos.line) = true := by rfl) :
    QS X (.Expr (.Call (.Attribute (.Name x xp) "reverse" apos) [] [] cpos) pos) (zMut0 i List.reverse) := by
  refine ⟨_, ps_expr (pe_bm0 PySem.F.plainAttrs_list PySem.F.slot_list_reverse PySem.F.type_list_reverse mt_reverse (pe_var hN hv hd hcd) hbase hline) hs, fun F₀ D P ev F σ H E R h => ?_⟩
  unfold zMut0 at h
  split at h
  case h_1 ds e1 =>
    obtain ⟨a, vs, s0, h1, h2⟩ := R.item e1
    exact ⟨.ref a, s0, .inl ⟨rfl, _, SqL.of h1⟩, a, vs, rfl, rfl, h1, E.nx _ _ _ _ (R.change e1 s0 (m' := .lst ds.reverse) (Ow.ofL upd_same h2.reverse)) h⟩
  case h_2 => exact h.elim
def zPopAt (i : Nat) (τ : TauE) : TauE := fun ev C => (∃ ds, ev[i]? = some (.own (.lst ds))) ∧ τ ev fun k ev' => match ev'[i]?, k with
  | some (.own (.lst ds)), .int n => -(2 ^ 63) ≤ n ∧ n < 2 ^ 63 ∧ optC (seqIndex? n ds.length) fun j => optC ds[j]? fun d => C d (ev'.set i (.own (.lst (ds.eraseIdx j))))
  | _, _ => False
theorem Rps.eraseIdx {w : World} {K : PySem.W.Frag} {F : Hp} : ∀ {vs : List V} {ds : List PyData} (i : Nat), Rps w K F vs ds → Rps w K F (vs.eraseIdx i) (ds.eraseIdx i)
  | _, _, _, .nil => .nil
  | _, _, 0, .cons _ t => t
  | _, _, i + 1, .cons q t => .cons q (Rps.eraseIdx i t)
theorem q_popAt (i : Nat) {x : Str} {xp apos : Pos} {e : Expr} {τ : TauE} (h : QE X e τ) (hN : X.N[i]? = some x := by rfl) (hv : Vis X.env.scope x := by first | exact Or.inl rfl | exact Or.inr (Or.inl rfl) | exact Or.inr (Or.inr rfl))
    (hd : (x == ("__debug__" : Str)) = false := by decide) (hcd : (x == ("__classdict__" : Str)) = false := by decide)
    (hst : starEach [e] X.env = [(false, eval e X.env)] := by rfl) (hbase : attributeBase (.Name x xp) "pop" X.env (eval (.Name x xp) X.env) = eval (.Name x xp) X.env := by rfl) (hline : (apos.endLine == pos.line) = true := by rfl)
    (hfew : ((backTo pos (starEach [e] X.env)).all (fun x => !x.1) && (backToKw pos (keywordEach [] X.env)).all (fun x => x.1.isSome) && decide (([e] : List Expr).length + ([] : List Keyword).length + (if ([] : List Keyword).isEmpty then 0 else 1) < 30)) = true := by rfl) :
    QE X (.Call (.Attribute (.Name x xp) "pop" apos) [e] [] pos) (zPopAt i τ) := by
  obtain ⟨t, ht, ka⟩ := h
  refine ⟨_, pe_bm PySem.F.plainAttrs_list PySem.F.slot_list_pop PySem.F.type_list_pop mt_popAt (pe_var hN hv hd hcd) (pa_cons ht pa_nil hst) hbase hfew hline hst (by rw [show starEach [] X.env = [] from rfl]; rfl), fun F₀ ev F σ H Q C R h kk => ?_⟩
  obtain ⟨⟨ds0, e0⟩, h⟩ := h
  obtain ⟨a, vs0, s0, g0, _⟩ := R.item e0
  refine ⟨.ref a, s0, .inl ⟨rfl, _, SqL.of g0⟩, ka F₀ ev F σ H _ _ R h fun d ev' F' v H' R' r s c => ?_⟩
  split at c
  case h_1 ds n e1 =>
    cases r
    obtain ⟨a', vs, s1, h1, h2⟩ := R'.item e1
    rw [s0] at s1; cases s1
    obtain ⟨c1, c2, c⟩ := c
    cases ej : seqIndex? n ds.length with
    | none => rw [ej] at c; exact False.elim c
    | some j =>
      rw [ej] at c
      cases ed : ds[j]? with
      | none => simp only [optC, ed] at c
      | some d =>
        simp only [optC, ed] at c
        obtain ⟨y, hy, ry⟩ := h2.get ed
        exact ⟨a, vs, n, j, y, rfl, rfl, h1, c1, c2, by rw [h2.length]; exact ej, hy, kk _ _ _ _ _ (R'.change e1 s0 (m' := .lst (ds.eraseIdx j)) (Ow.ofL upd_same (h2.eraseIdx j))) ry s c⟩
  case h_2 => exact False.elim c
end
end L2

set_option Elab.async false
set_option linter.all false
set_option maxRecDepth 100000
set_option maxHeartbeats 1000000
/-! x in xs, for data of any shape -/
namespace L2
open PySem PySem.Spec PyProof.Rows
section
variable {X : Cx} {pos : Pos}
def rInD (K : PySem.W.Frag) (neg : Bool) : R2 := fun x y H Q => ∃ d e ds, RdD K H x d ∧ RdD K H y e ∧ seqD e = some ds ∧ SeqAt.shaped d = true ∧ SeqAt.shaped e = true ∧ Q (.bl (if neg then !ds.any (fun z => PyData.eqv z d) else ds.any fun z => PyData.eqv z d)) H
theorem roomIn {A : Around} {d : PyData} {n : Nat} (h : SeqAt.shaped d = true) (hu : A.units + 65 < cLine) : A.units + 1 + min n d.depth < cLine := by
  have h1 := SeqAt.depth_of_shaped h
  have h2 : min n d.depth ≤ d.depth := Nat.min_le_right _ _
  omega
theorem op_inD (hu : X.A.units + 65 < cLine) : OpR X (compareOp .In) (rInD X.K false) := fun pins s σ H x y v u Q I rx ry h => by
  obtain ⟨d, e, ds, h1, h2, he, s1, s2, q⟩ := h
  obtain ⟨as, r1⟩ := I.reads h1 rx
  obtain ⟨bs, r2⟩ := I.reads h2 ry
  cases e with
  | list xs =>
    cases he
    exact SeqAt.in_list_reads r2 r1 (by simpa [PyData.canLay0] using SeqAt.canLay_of_shaped s2) (SeqAt.canLay_of_shaped s1) (roomIn s1 hu) ⟨.bl _, H, I, rfl, q⟩
  | tuple xs =>
    cases he
    exact SeqAt.in_tuple_reads r2 r1 (by simpa [PyData.canLay0] using SeqAt.canLay_of_shaped s2) (SeqAt.canLay_of_shaped s1) (roomIn s1 hu) ⟨.bl _, H, I, rfl, q⟩
  | _ => cases he
theorem op_notInD (hu : X.A.units + 65 < cLine) : OpR X (compareOp .NotIn) (rInD X.K true) := fun pins s σ H x y v u Q I rx ry h => by
  obtain ⟨d, e, ds, h1, h2, he, s1, s2, q⟩ := h
  obtain ⟨as, r1⟩ := I.reads h1 rx
  obtain ⟨bs, r2⟩ := I.reads h2 ry
  cases e with
  | list xs =>
    cases he
    exact SeqAt.notIn_list_reads r2 r1 (by simpa [PyData.canLay0] using SeqAt.canLay_of_shaped s2) (SeqAt.canLay_of_shaped s1) (roomIn s1 hu) ⟨.bl _, H, I, rfl, q⟩
  | tuple xs =>
    cases he
    exact SeqAt.notIn_tuple_reads r2 r1 (by simpa [PyData.canLay0] using SeqAt.canLay_of_shaped s2) (SeqAt.canLay_of_shaped s1) (roomIn s1 hu) ⟨.bl _, H, I, rfl, q⟩
  | _ => cases he
def rhInD (neg : Bool) : Rho2 := fun a b C => match seqD b with | some ds => SeqAt.shaped a = true ∧ SeqAt.shaped b = true ∧ C (.bool (if neg then !ds.any (fun z => PyData.eqv z a) else ds.any fun z => PyData.eqv z a)) | none => False
theorem units1 {k : Nat} (hr : Room k X.A) : X.A.units + 65 < cLine := by
  have := hr.un
  omega
theorem o_inD {k : Nat} (hr : Room k X.A) : OpP X (compareOp .In) (rhInD false) := ⟨_, op_inD (units1 hr), fun F H x y dx dy Q C le rx ry c k => by
  unfold rhInD at c
  split at c
  case h_1 ds e => exact ⟨dx, dy, ds, (rx.mono le).rdD (SeqAt.canLay_of_shaped c.1), (ry.mono le).rdD (SeqAt.canLay_of_shaped c.2.1), e, c.1, c.2.1, k _ _ _ _ (Gr.refl le) (.bl _) c.2.2⟩
  case h_2 => exact False.elim c⟩
theorem o_notInD {k : Nat} (hr : Room k X.A) : OpP X (compareOp .NotIn) (rhInD true) := ⟨_, op_notInD (units1 hr), fun F H x y dx dy Q C le rx ry c k => by
  unfold rhInD at c
  split at c
  case h_1 ds e => exact ⟨dx, dy, ds, (rx.mono le).rdD (SeqAt.canLay_of_shaped c.1), (ry.mono le).rdD (SeqAt.canLay_of_shaped c.2.1), e, c.1, c.2.1, k _ _ _ _ (Gr.refl le) (.bl _) c.2.2⟩
  case h_2 => exact False.elim c⟩
end
end L2

set_option Elab.async false
set_option linter.all false
set_option maxRecDepth 100000
set_option maxHeartbeats 1000000
/-! x is True, x is not False: of truths -/
namespace L2
open PySem PySem.Spec PyProof.Rows
section
variable {X : Cx} {pos : Pos}
theorem op_isB : OpR X (compareOp .Is) (fun x y H Q => ∃ a b, x = .bl a ∧ y = .bl b ∧ Q (.bl (a == b)) H) := by
  intro pins s σ H x y v u Q I rx ry h
  obtain ⟨a, b, rfl, rfl, q⟩ := h
  cases rx; cases ry
  exact wpAny_is_plain rfl ⟨.bl _, H, I, by cases a <;> cases b <;> rfl, q⟩
theorem op_isNotB : OpR X (compareOp .IsNot) (fun x y H Q => ∃ a b, x = .bl a ∧ y = .bl b ∧ Q (.bl (!(a == b))) H) := by
  intro pins s σ H x y v u Q I rx ry h
  obtain ⟨a, b, rfl, rfl, q⟩ := h
  cases rx; cases ry
  exact wpAny_isNot_plain rfl ⟨.bl _, H, I, by cases a <;> cases b <;> rfl, q⟩
def rhIsB (neg : Bool) : Rho2 := fun a b C => match a, b with | .bool x, .bool y => C (.bool (if neg then !(x == y) else x == y)) | _, _ => False
theorem o_isB : OpP X (compareOp .Is) (rhIsB false) := ⟨_, op_isB, fun F H x y dx dy Q C le rx ry c k => by
  unfold rhIsB at c
  split at c
  case h_1 a b =>
    cases rx; cases ry
    exact ⟨a, b, rfl, rfl, k _ _ _ _ (Gr.refl le) (.bl _) c⟩
  case h_2 => exact False.elim c⟩
theorem o_isNotB : OpP X (compareOp .IsNot) (rhIsB true) := ⟨_, op_isNotB, fun F H x y dx dy Q C le rx ry c k => by
  unfold rhIsB at c
  split at c
  case h_1 a b =>
    cases rx; cases ry
    exact ⟨a, b, rfl, rfl, k _ _ _ _ (Gr.refl le) (.bl _) c⟩
  case h_2 => exact False.elim c⟩
end
end L2

set_option Elab.async false
set_option linter.all false
set_option maxRecDepth 100000
set_option maxHeartbeats 1000000
/-! texts: >, min, max, sorted of a tuple; count in a list -/
namespace L2
open PySem PySem.Spec PyProof.Rows
section
variable {P : Program} {w : World} {A : Around} {E : Value → Shared → Prop} {s : Shared}
def sOf : Value → List Nat
  | .str x _ => x.cps.toList
  | _ => []
def IsS : Value → Prop
  | .str _ _ => True
  | _ => False
theorem cmpS_gt (vs : Array Value) (hn : ∀ v ∈ vs, IsS v) : CmpOf P w A .Gt (fun i v => vs[i]? = some v) (fun i j => decide (sOf (vs.getD j .none) < sOf (vs.getD i .none))) := fun i j vi vj s Q E hi hj h => by
  have e1 : vs.getD i .none = vi := by simp [Array.getD_eq_getD_getElem?, hi]
  have e2 : vs.getD j .none = vj := by simp [Array.getD_eq_getD_getElem?, hj]
  simp only [e1, e2] at h
  have a := hn _ (Array.mem_of_getElem? hi)
  have b := hn _ (Array.mem_of_getElem? hj)
  cases vi <;> first | exact a.elim | skip
  cases vj <;> first | exact b.elim | skip
  exact PySem.P.gt_str h
theorem cmpS_lt (vs : Array Value) (hn : ∀ v ∈ vs, IsS v) : CmpOf P w A .Lt (fun i v => vs[i]? = some v) (fun i j => decide (sOf (vs.getD i .none) < sOf (vs.getD j .none))) := fun i j vi vj s Q E hi hj h => by
  have e1 : vs.getD i .none = vi := by simp [Array.getD_eq_getD_getElem?, hi]
  have e2 : vs.getD j .none = vj := by simp [Array.getD_eq_getD_getElem?, hj]
  simp only [e1, e2] at h
  have a := hn _ (Array.mem_of_getElem? hi)
  have b := hn _ (Array.mem_of_getElem? hj)
  cases vi <;> first | exact a.elim | skip
  cases vj <;> first | exact b.elim | skip
  exact lt_str h
theorem max_twoS {x y : Str} {t u : Tok} {Q : Value → Shared → Prop} (hh : A.handled = none) (h : ∀ h' tk, (∀ c o, s.heap.get? c = some o → h'.get? c = some o) → Q (if decide (x.cps.toList < y.cps.toList) then .str y u else .str x t) { s with heap := h', toks := tk }) :
    wpAny (model P w) A (call (.builtin "max") [.str x t, .str y u]) Q E s := by
  have hT : (s.heap.push { cls := .type "tuple", data := .seq #[.str x t, .str y u] }).IsTuple s.heap.objs.size #[.str x t, .str y u] := ⟨_, Heap.get?_push_size _ rfl, rfl, 0, rfl⟩
  have hz : (s.heap.push { cls := .type "tuple", data := .seq #[.str x t, .str y u] }).objs.size = s.heap.objs.size + 1 := Heap.size_push ..
  refine call_max_two (wpAny_pyIter_tuple hT ⟨_, [_, s.heap.objs.size], [_], _, _, _, _, rfl, Walks.tuple (A := A.in1) hh _ s.heap.objs.size (by rw [hz]; exact Nat.ne_of_lt (Nat.lt_succ_self _)) #[.str x t, .str y u],
    ⟨⟨_, Heap.get?_push_size _ rfl, rfl, rfl⟩, hT.push _⟩, fun c hc => ?_, by simp, cmpS_gt #[.str x t, .str y u] (by simp [IsS]), fun v h' tk hP hk => ?_⟩)
  · show c < ((s.heap.push _).push _).objs.size
    rw [Heap.size_push, hz]
    simp only [List.mem_cons, List.not_mem_nil, or_false] at hc
    rcases hc with rfl | rfl
    · rw [hz]; exact Nat.lt_succ_self _
    · exact Nat.lt_succ_of_lt (Nat.lt_succ_self _)
  · have old : ∀ c o, s.heap.get? c = some o → h'.get? c = some o := fun c o e => by
      refine hk c o (fun hm => ?_) (Heap.get?_push_of_some _ (Heap.get?_push_of_some _ e))
      simp only [List.mem_cons, List.not_mem_nil, or_false] at hm
      have := Heap.lt_size e
      rw [hm, hz] at this
      exact Nat.lt_irrefl _ (Nat.lt_of_succ_lt this)
    have hv : v = if decide (x.cps.toList < y.cps.toList) then .str y u else .str x t := by
      by_cases hc : x.cps < y.cps
      · have hc2 : x.cps.toList < y.cps.toList := by simpa using hc
        rw [if_pos (decide_eq_true hc2)]
        simp [argBest, sOf, hc] at hP
        exact hP.symm
      · have hc2 : ¬ x.cps.toList < y.cps.toList := by simpa using hc
        rw [if_neg (by simpa using hc2)]
        simp [argBest, sOf, hc] at hP
        exact hP.symm
    rw [hv]
    exact h h' tk old
theorem min_twoS {x y : Str} {t u : Tok} {Q : Value → Shared → Prop} (hh : A.handled = none) (h : ∀ h' tk, (∀ c o, s.heap.get? c = some o → h'.get? c = some o) → Q (if decide (y.cps.toList < x.cps.toList) then .str y u else .str x t) { s with heap := h', toks := tk }) :
    wpAny (model P w) A (call (.builtin "min") [.str x t, .str y u]) Q E s := by
  have hT : (s.heap.push { cls := .type "tuple", data := .seq #[.str x t, .str y u] }).IsTuple s.heap.objs.size #[.str x t, .str y u] := ⟨_, Heap.get?_push_size _ rfl, rfl, 0, rfl⟩
  have hz : (s.heap.push { cls := .type "tuple", data := .seq #[.str x t, .str y u] }).objs.size = s.heap.objs.size + 1 := Heap.size_push ..
  refine call_min_two (wpAny_pyIter_tuple hT ⟨_, [_, s.heap.objs.size], [_], _, _, _, _, rfl, Walks.tuple (A := A.in1) hh _ s.heap.objs.size (by rw [hz]; exact Nat.ne_of_lt (Nat.lt_succ_self _)) #[.str x t, .str y u],
    ⟨⟨_, Heap.get?_push_size _ rfl, rfl, rfl⟩, hT.push _⟩, fun c hc => ?_, by simp, cmpS_lt #[.str x t, .str y u] (by simp [IsS]), fun v h' tk hP hk => ?_⟩)
  · show c < ((s.heap.push _).push _).objs.size
    rw [Heap.size_push, hz]
    simp only [List.mem_cons, List.not_mem_nil, or_false] at hc
    rcases hc with rfl | rfl
    · rw [hz]; exact Nat.lt_succ_self _
    · exact Nat.lt_succ_of_lt (Nat.lt_succ_self _)
  · have old : ∀ c o, s.heap.get? c = some o → h'.get? c = some o := fun c o e => by
      refine hk c o (fun hm => ?_) (Heap.get?_push_of_some _ (Heap.get?_push_of_some _ e))
      simp only [List.mem_cons, List.not_mem_nil, or_false] at hm
      have := Heap.lt_size e
      rw [hm, hz] at this
      exact Nat.lt_irrefl _ (Nat.lt_of_succ_lt this)
    have hv : v = if decide (y.cps.toList < x.cps.toList) then .str y u else .str x t := by
      by_cases hc : y.cps < x.cps
      · have hc2 : y.cps.toList < x.cps.toList := by simpa using hc
        rw [if_pos (decide_eq_true hc2)]
        simp [argBest, sOf, hc] at hP
        exact hP.symm
      · have hc2 : ¬ y.cps.toList < x.cps.toList := by simpa using hc
        rw [if_neg (by simpa using hc2)]
        simp [argBest, sOf, hc] at hP
        exact hP.symm
    rw [hv]
    exact h h' tk old
/-- what is walked into a list: a tuple -/
theorem gather_tup {l : Addr} {vs : List Value} {Q : List Value → Shared → Prop} (hl : s.heap.IsTuple l vs.toArray) (hz : vs.length ≤ sizeLine)
    (q : Q vs { s with heap := (s.heap.push (seqObj "list" #[] 0)).update s.heap.objs.size (Obj.mapSeq (· ++ vs.toArray)) }) : wpAny (model P w) A (collect (.ref l)) Q E s := by
  obtain ⟨o, go, gc, n, gd⟩ := id hl
  have go' : (s.heap.push (seqObj "list" #[] 0)).get? l = some o := Heap.get?_push_of_some _ go
  unfold collect
  refine wpAny_bind (wpAny_runValue (codeAny_builtin entry_proto_collect' ?_))
  show wpAny _ _ (do again (.builtin "list.__iadd__" ⟨[← newList [], .ref l], []⟩)) _ _ s
  refine wpAny_bind (wpAny_newList (wpAny_pure ⟨Code.quiet_builtin _ (by decide +kernel), codeAny_builtin entry_list_iadd' ?_⟩))
  show wpAny _ _ (Builtin.List.listExtendWith (.ref s.heap.objs.size) (.ref l) (.ref s.heap.objs.size)) _ _ { s with heap := s.heap.push (seqObj "list" #[] 0) }
  unfold Builtin.List.listExtendWith
  refine wpAny_bind (wpAny_typeOf (T := "tuple") ⟨o, go', gc⟩ ?_)
  rw [if_pos (by rw [show (Value.type "tuple" == Value.type "tuple") = true from rfl]; simp)]
  refine wpAny_bind (listItems_at go' gd (wpAny_bind (listItems_at (xs := #[]) (n := 0) (Heap.get?_push_size _ rfl) rfl ?_)))
  rw [if_neg (by simp)]
  refine wpAny_bind (listUpdate_at (xs := #[]) (n := 0) (Heap.get?_push_size _ rfl) rfl (wpAny_pure ?_) (Nat.zero_le _) (by show (#[] ++ vs.toArray).size ≤ sizeLine + 1; simp only [Array.size_append, List.size_toArray, List.length_nil]; omega))
  show wpAny (model P w) A (do
      let o ← load s.heap.objs.size
      match o.data with
      | .seq xs _ => pure xs.toList
      | _ => unsupported "internal:collect") Q E { s with heap := (s.heap.push (seqObj "list" #[] 0)).update s.heap.objs.size (Obj.mapSeq (· ++ vs.toArray)) }
  refine wpAny_bind (wpAny_load (get?_update_seq (Heap.get?_push_size _ rfl) _) ?_)
  show wpAny _ _ (pure ((#[] : Array Value) ++ vs.toArray).toList) Q E _
  rw [show ((#[] : Array Value) ++ vs.toArray).toList = vs by simp]
  exact wpAny_pure q
/-- sorted of what gathers to texts -/
theorem sorted_gather {u : Value} {vs : List Value} {ss : List Str} {Q : Value → Shared → Prop} (hS : StrsAre vs ss) (h64 : vs.length < 64)
    (hg : ∀ (A : Around) (E : Value → Shared → Prop) (Q : List Value → Shared → Prop), Q vs { s with heap := (s.heap.push (seqObj "list" #[] 0)).update s.heap.objs.size (Obj.mapSeq (· ++ vs.toArray)) } → wpAny (model P w) A (collect u) Q E s)
    (q : ∀ (out : Array Value) (ss' : List Str), StrsAre out.toList ss' → ss'.Perm ss → sortedS ss' = true → Q (.ref (s.heap.objs.size + 1)) { s with heap := sortedAll s.heap vs out }) : wpAny (model P w) A (call (.builtin "sorted") [u]) Q E s := by
  refine Calls.call_function_entry kind_sorted plain_sorted entry_sorted (args_sorted1 _) ?_
  unfold Builtin.«sorted»
  refine wpAny_bind (m := checkCount "sorted" 1 1 _) (wpAny_pure (wpAny_bind (hg _ _ _ (wpAny_bind (wpAny_newList ?_)))))
  have hz : ((s.heap.push (seqObj "list" #[] 0)).update s.heap.objs.size (Obj.mapSeq (· ++ vs.toArray))).objs.size = s.heap.objs.size + 1 := by rw [Heap.size_update, size_push']
  have ho : (((s.heap.push (seqObj "list" #[] 0)).update s.heap.objs.size (Obj.mapSeq (· ++ vs.toArray))).push (seqObj "list" vs.toArray 0)).get? (s.heap.objs.size + 1) = some (seqObj "list" vs.toArray 0) := by
    rw [← hz]; exact Heap.get?_push_size _ rfl
  show wpAny _ _ _ _ _ { s with heap := ((s.heap.push (seqObj "list" #[] 0)).update s.heap.objs.size (Obj.mapSeq (· ++ vs.toArray))).push (seqObj "list" vs.toArray 0) }
  rw [hz]
  refine wpAny_bind (wpAny_holding (wpAny_call_entry slot_list_sort ⟨_, ho, rfl⟩ entry_list_sort (list_sort_treeK strKind_oneLt ho hS.keysOf (fun v₁ v₂ rest e => keyKind_strs (by rw [← e]; exact hS)) h64 fun st' a1 a2 => ⟨_, rfl, wpAny_pure ⟨_, rfl, ?_⟩⟩) (args_list_sort _)))
  obtain ⟨ss', h1, h2, h3⟩ := sorted_out_str hS a1 a2
  exact q _ ss' h1 h2 h3
end
section
variable {X : Cx} {pos : Pos}
theorem op_gtS : OpR X (compareOp .Gt) (fun x y H Q => ∃ i j, x = .str i ∧ y = .str j ∧ Q (.bl (decide (j.cps.toList < i.cps.toList))) H) := by
  intro pins s σ H x y v u Q I rx ry h
  obtain ⟨i, j, rfl, rfl, q⟩ := h
  obtain ⟨t, rfl⟩ := rx
  obtain ⟨t', rfl⟩ := ry
  exact PySem.P.gt_str ⟨.bl _, H, I, rfl, q⟩
theorem call_max2S (hc : X.calm = true) : CallR X (.builtin "max") (fun xs H Q => ∃ i j, xs = [.str i, .str j] ∧ Q (.str (if decide (i.cps.toList < j.cps.toList) then j else i)) H) := by
  intro pins s σ H xs us Q I r h
  obtain ⟨i, j, rfl, q⟩ := h
  obtain ⟨u, w', rfl, ⟨t, rfl⟩, ⟨t', rfl⟩⟩ := vals2 r
  refine max_twoS (I.ok.hd hc) fun h' tk k => ⟨_, H, I.kept k, ?_, q⟩
  cases decide (i.cps.toList < j.cps.toList)
  · exact ⟨_, rfl⟩
  · exact ⟨_, rfl⟩
theorem call_min2S (hc : X.calm = true) : CallR X (.builtin "min") (fun xs H Q => ∃ i j, xs = [.str i, .str j] ∧ Q (.str (if decide (j.cps.toList < i.cps.toList) then j else i)) H) := by
  intro pins s σ H xs us Q I r h
  obtain ⟨i, j, rfl, q⟩ := h
  obtain ⟨u, w', rfl, ⟨t, rfl⟩, ⟨t', rfl⟩⟩ := vals2 r
  refine min_twoS (I.ok.hd hc) fun h' tk k => ⟨_, H, I.kept k, ?_, q⟩
  cases decide (j.cps.toList < i.cps.toList)
  · exact ⟨_, rfl⟩
  · exact ⟨_, rfl⟩
/-- sorted of a tuple of texts -/
theorem call_sortedT : CallR X (.builtin "sorted") (fun xs H Q => ∃ p ss, xs = [.ref p] ∧ SqT X.K H p (ss.map .str) ∧ ss.length < 64 ∧ ∀ l ss', H l = none → ss'.Perm ss → sortedS ss' = true → Q (.ref l) (upd H l (.lst (ss'.map .str)))) := by
  intro pins s σ H xs us Q I r h
  obtain ⟨p, ss, rfl, hq, h64, q⟩ := h
  obtain ⟨u, rfl, rx⟩ := vals1 r
  cases rx
  obtain ⟨its, r', pl, hz⟩ := I.tuple hq
  have hlen := r'.length
  rw [List.length_map] at hlen
  refine sorted_gather (strsAre_of r') (by omega) (fun A E Q q => gather_tup pl (by rw [← hlen]; exact Nat.le_trans (Nat.le_of_lt h64) (by decide)) q) fun out ss' a1 a2 a3 => ?_
  obtain ⟨e, he⟩ := sortedAll_at s.heap its out
  have hl := a2.length_eq
  refine ⟨.ref (s.heap.objs.size + 1), _, I.laid (t' := s.toks) (fun _ _ => sortedAll_old) (Nat.le_succ _) (show ObjOk X.prog X.w _ _ _ (.lst (ss'.map .str)) from ⟨by rw [List.length_map, hl]; exact Nat.le_trans (Nat.le_of_lt h64) (by decide), out.toList, e, vals_strs a1, by simpa using he⟩), rfl, q _ ss' (I.hok.fresh (Nat.le_succ _)) a2 a3⟩
/-! ### xs.count(k) -/
theorem bools_of : ∀ {bs : List Bool} {us : List Value}, Vals (bs.map V.bl) us → ReadsAll {} us (bs.map PyData.bool) [] ∧ ((bs.map PyData.bool).all Shape.bool.has = true)
  | [], _, r => by cases r; exact ⟨.nil, rfl⟩
  | b :: bs, _, r => by
    cases r with
    | cons h t =>
      obtain ⟨h1, h2⟩ := bools_of t
      cases (show _ = Value.bool b from h)
      exact ⟨.cons (.bool b) h1, by rw [List.map_cons, List.all_cons, h2]; rfl⟩
theorem countIn_bools (k : Bool) : ∀ bs : List Bool, countIn (.bool k) (bs.map PyData.bool) = ((bs.count k : Nat) : Int)
  | [] => rfl
  | b :: bs => by
    rw [List.map_cons, countIn, countIn_bools k bs, List.count_cons]
    simp only [same]
    cases b <;> cases k <;> simp <;> omega
theorem mt_countB : MtM X "list.count" (fun x xs H Q => ∃ (p : Addr) (bs : List Bool) (k : Bool), x = .ref p ∧ xs = [.bl k] ∧ SqL X.K H p (bs.map V.bl) ∧ Q (.int (bs.count k : Nat)) H) := by
  intro pins s σ H x xs v us Q I rx rs h
  obtain ⟨p, bs, k, rfl, rfl, hq, q⟩ := h
  cases rx
  obtain ⟨u, rfl, ru⟩ := rs.one
  cases (show u = Value.bool k from ru)
  obtain ⟨its, r', pl, hz⟩ := I.list hq
  obtain ⟨h1, h2⟩ := bools_of r'
  refine count_list_bools pl.isList h1 h2 ⟨.int _, H, I.tok _, ⟨_, rfl⟩, ?_⟩
  rw [countIn_bools]
  exact q
theorem mt_countI : MtM X "list.count" (fun x xs H Q => ∃ (p : Addr) (ns : List Int) (k : Int), x = .ref p ∧ xs = [.int k] ∧ SqL X.K H p (ns.map V.int) ∧ Q (.int (ns.count k : Nat)) H) := by
  intro pins s σ H x xs v us Q I rx rs h
  obtain ⟨p, ns, k, rfl, rfl, hq, q⟩ := h
  cases rx
  obtain ⟨u, rfl, t, rfl⟩ := rs.one
  obtain ⟨its, r', pl, hz⟩ := I.list hq
  exact count_list_ints pl.isList (intsAre_of r') ⟨.int _, H, I.tok _, ⟨_, rfl⟩, q⟩
end
end L2

set_option Elab.async false
set_option linter.all false
set_option maxRecDepth 100000
set_option maxHeartbeats 1000000
/-! dict displays, d.get(k, v), any and all of truths -/
namespace L2
open PySem PySem.Spec PyProof.Rows
section
variable {P : Program} {w : World} {A : Around} {E : Value → Shared → Prop} {s : Shared} {d : Addr} {o : Obj} {xs : List DX} {k : KD} {u v : Value}
theorem getOr_k {Q : Value → Shared → Prop} (hr : A.units + 1 < cLine) (hk : kIs P w s.heap k u) (hd : (d == sysModules) = false) (go : s.heap.get? d = some o) (R : DRec w o xs) (gk : ∀ x ∈ xs, kIs P w s.heap x.1 x.2.1)
    (q : Q ((valX xs k).getD v) { s with toks := s.toks + kDraws k }) : wpAny (model P w) A (call (.builtin "dict.get") [.ref d, u, v]) Q E s := by
  have ty := tyD_k (w := w) go R
  refine wpAny_call_entry PySem.F.slot_dict_get ty PySem.F.entry_dict_get ?_ (PySem.F.args_dict_get_3 _ _ _)
  show wpAny _ _ (dictGet d u >>= _) _ _ s
  refine wpAny_bind (get_k (A := A.in1) hr hk go R gk ?_)
  cases hf : valX xs k with
  | some p =>
    rw [hf] at q
    exact wpAny_pure ⟨p, rfl, q⟩
  | none =>
    rw [hf] at q
    show wpAny _ _ (Builtin.Dict.missed d u >>= _) _ _ _
    exact wpAny_bind (wpAny_missed_other hd (wpAny_pure ⟨v, rfl, q⟩))
/-- the pairs of a display are stored one by one -/
def putsX (xs : List DX) : List (KD × Value × Value) → List DX
  | [] => xs
  | x :: r => putsX (putX xs x.1 x.2.1 x.2.2) r
theorem stores_k (hr : A.units < cLine) : ∀ (ys : List (KD × Value × Value)) {xs : List DX} {o : Obj} {s : Shared} {Q : PUnit → Shared → Prop}, s.heap.get? d = some o → DRec w o xs → (∀ x ∈ xs, kIs P w s.heap x.1 x.2.1) → (∀ y ∈ ys, kIs P w s.heap y.1 y.2.1) → xs.length + ys.length ≤ sizeLine →
    (∀ h' o' tk, h'.get? d = some o' → DRec w o' (putsX xs ys) → Heap.SameBut d s.heap h' → Q PUnit.unit { s with heap := h', toks := tk }) → wpAny (model P w) A (storeAll d (ys.map fun y => (y.2.1, y.2.2))) Q E s
  | [], xs, o, s, Q, go, R, _, _, _, q => by
    unfold storeAll
    rw [List.map_nil, List.forIn_nil]
    exact wpAny_pure (q s.heap o s.toks go R ⟨rfl, fun _ _ => rfl⟩)
  | y :: ys, xs, o, s, Q, go, R, gk, hk, hz, q => by
    rw [List.length_cons] at hz
    obtain ⟨es, ep, gd, _⟩ := R.es
    unfold storeAll
    rw [List.map_cons, List.forIn_cons]
    refine wpAny_bind (wpAny_bind (set_k hr (hk y List.mem_cons_self) go R gk (by omega) fun h' o' g' R' sb => wpAny_pure ?_))
    refine stores_k hr ys (s := { s with heap := h', toks := s.toks + kDraws y.1 }) g' R' (fun x hx => ?_) (fun z hz => (hk z (List.mem_cons_of_mem _ hz)).other go gd sb) (by have z : (putX xs y.1 y.2.1 y.2.2).length ≤ xs.length + 1 := putX_len; show (putX xs y.1 y.2.1 y.2.2).length + ys.length ≤ sizeLine; omega) fun h2 o2 tk g2 R2 sb2 => ?_
    · rcases mem_putX hx with ⟨z, h1, h2, h3⟩ | h1
      · rw [h2, h3]; exact (gk z h1).other go gd sb
      · rw [h1]; exact (hk y List.mem_cons_self).other go gd sb
    · exact q h2 o2 tk g2 R2 ⟨sb2.1.trans sb.1, fun b hb => (sb2.2 b hb).trans (sb.2 b hb)⟩
theorem getD_at {bs : List Bool} {i : Nat} (h : i < bs.length) : bs.getD i false = bs[i] := by rw [List.getD_eq_getElem?_getD, List.getElem?_eq_getElem h]; rfl
theorem bools_at {bs : List Bool} {vs : List Value} (hb : Vals (bs.map V.bl) vs) {i : Nat} {v : Value} (h : vs.toArray[i]? = some v) : v = .bool (bs.getD i false) := by
  have hl : bs.length = vs.length := by have := hb.length; simpa using this
  have hi : i < bs.length := by
    have : vs[i]? = some v := by simpa using h
    rw [hl]
    exact (List.getElem?_eq_some_iff.mp this).1
  obtain ⟨u, hu, ru⟩ := hb.get (i := i) (x := .bl bs[i]) (by rw [List.getElem?_map, List.getElem?_eq_getElem hi]; rfl)
  have e : vs[i]? = some v := by simpa using h
  rw [e] at hu
  cases hu
  rw [show v = Value.bool bs[i] from ru, getD_at hi]
theorem any_range (bs : List Bool) : ((List.range bs.length).any fun i => bs.getD i false) = bs.any id := by
  rw [Bool.eq_iff_iff, List.any_eq_true, List.any_eq_true]
  constructor
  · rintro ⟨i, hi, h⟩
    have hi' : i < bs.length := List.mem_range.mp hi
    rw [getD_at hi'] at h
    exact ⟨bs[i], List.getElem_mem hi', h⟩
  · rintro ⟨b, hb, h⟩
    obtain ⟨i, hi, rfl⟩ := List.getElem_of_mem hb
    exact ⟨i, List.mem_range.mpr hi, by rw [getD_at hi]; exact h⟩
theorem all_range (bs : List Bool) : ((List.range bs.length).all fun i => bs.getD i false) = bs.all id := by
  rw [Bool.eq_iff_iff, List.all_eq_true, List.all_eq_true]
  constructor
  · intro h b hb
    obtain ⟨i, hi, rfl⟩ := List.getElem_of_mem hb
    have := h i (List.mem_range.mpr hi)
    rw [getD_at hi] at this
    exact this
  · intro h i hi
    have hi' : i < bs.length := List.mem_range.mp hi
    rw [getD_at hi']
    exact h _ (List.getElem_mem hi')
theorem kept_push {l : Addr} {h' : Heap} {q : Obj} (hk : ∀ b o, b ∉ [s.heap.objs.size] → (s.heap.push q).get? b = some o → h'.get? b = some o) : ∀ b o, s.heap.get? b = some o → h'.get? b = some o := fun b o e => by
  refine hk b o (fun hm => ?_) (Heap.get?_push_of_some _ e)
  have z : b = s.heap.objs.size := by simpa using hm
  exact Nat.lt_irrefl _ (z ▸ Heap.lt_size e)
theorem any_bools {l : Addr} {bs : List Bool} {vs : List Value} {Q : Value → Shared → Prop} (hh : A.handled = none) (hl : s.heap.IsList l vs.toArray) (hb : Vals (bs.map V.bl) vs) (q : ∀ h' tk, (∀ b o, s.heap.get? b = some o → h'.get? b = some o) → Q (.bool (bs.any id)) { s with heap := h', toks := tk }) :
    wpAny (model P w) A (call (.builtin "any") [.ref l]) Q E s := by
  have hlt : l < s.heap.objs.size := by obtain ⟨o, e, _⟩ := hl; exact Heap.lt_size e
  have hn : vs.toArray.size = bs.length := by have := hb.length; simp at this; simpa using this.symm
  refine call_any_walk (wpAny_pyIter_list hl ⟨_, _, _, _, _, _, fun i => bs.getD i false, rfl, Walks.list (A := A.in1) hh _ l (Nat.ne_of_lt hlt) vs.toArray, ⟨⟨_, Heap.get?_push_size _ rfl, rfl, rfl⟩, hl.at fun o e => Heap.get?_push_of_some _ e⟩, fun i v s' Q E hP h => ?_, fun h' tk hk => ?_⟩)
  · rw [bools_at hb hP]
    exact wpAny_truthy_bool h
  · rw [hn, any_range]
    exact q h' tk (kept_push (l := l) hk)
theorem all_bools {l : Addr} {bs : List Bool} {vs : List Value} {Q : Value → Shared → Prop} (hh : A.handled = none) (hl : s.heap.IsList l vs.toArray) (hb : Vals (bs.map V.bl) vs) (q : ∀ h' tk, (∀ b o, s.heap.get? b = some o → h'.get? b = some o) → Q (.bool (bs.all id)) { s with heap := h', toks := tk }) :
    wpAny (model P w) A (call (.builtin "all") [.ref l]) Q E s := by
  have hlt : l < s.heap.objs.size := by obtain ⟨o, e, _⟩ := hl; exact Heap.lt_size e
  have hn : vs.toArray.size = bs.length := by have := hb.length; simp at this; simpa using this.symm
  refine call_all_walk (wpAny_pyIter_list hl ⟨_, _, _, _, _, _, fun i => bs.getD i false, rfl, Walks.list (A := A.in1) hh _ l (Nat.ne_of_lt hlt) vs.toArray, ⟨⟨_, Heap.get?_push_size _ rfl, rfl, rfl⟩, hl.at fun o e => Heap.get?_push_of_some _ e⟩, fun i v s' Q E hP h => ?_, fun h' tk hk => ?_⟩)
  · rw [bools_at hb hP]
    exact wpAny_truthy_bool h
  · rw [hn, all_range]
    exact q h' tk (kept_push (l := l) hk)
end
section
variable {X : Cx} {pos : Pos}
theorem call_anyB (hc : X.calm = true) : CallR X (.builtin "any") (fun xs H Q => ∃ (p : Addr) (bs : List Bool), xs = [.ref p] ∧ SqL X.K H p (bs.map V.bl) ∧ Q (.bl (bs.any id)) H) := by
  intro pins s σ H xs us Q I r h
  obtain ⟨p, bs, rfl, hq, q⟩ := h
  obtain ⟨u, rfl, rx⟩ := vals1 r
  cases rx
  obtain ⟨its, r', pl, hz⟩ := I.list hq
  exact any_bools (I.ok.hd hc) pl.isList r' fun h' tk k => ⟨.bl _, H, I.kept k, rfl, q⟩
theorem call_allB (hc : X.calm = true) : CallR X (.builtin "all") (fun xs H Q => ∃ (p : Addr) (bs : List Bool), xs = [.ref p] ∧ SqL X.K H p (bs.map V.bl) ∧ Q (.bl (bs.all id)) H) := by
  intro pins s σ H xs us Q I r h
  obtain ⟨p, bs, rfl, hq, q⟩ := h
  obtain ⟨u, rfl, rx⟩ := vals1 r
  cases rx
  obtain ⟨its, r', pl, hz⟩ := I.list hq
  exact all_bools (I.ok.hd hc) pl.isList r' fun h' tk k => ⟨.bl _, H, I.kept k, rfl, q⟩
/-! ### a method of a dict -/
variable {o e : Expr} {es : List Expr} {to : TE} {t : TA} {name : Str} {apos : Pos} {id : String} {r : V → List V → Hp → VK → Prop}
def tDM (r : V → List V → Hp → VK → Prop) (to : TE) (t : TA) : TE := fun σ H Q => to σ H fun x H1 => (∃ a o, x = .ref a ∧ H1 a = some (PinO a o) ∧ o.ExactDict) ∧ t σ H1 fun xs H2 => r x xs H2 Q
theorem pe_dm (slot : Slot "dict" name id) (hty : typeOf (.builtin id) = pure (.type "method_descriptor")) (hm : MtR X id r) (ho : PE X o to) (ha : PA X (e :: es) t) (hbase : attributeBase o name X.env (eval o X.env) = eval o X.env := by rfl)
    (hfew : ((backTo pos (starEach (e :: es) X.env)).all (fun x => !x.1) && (backToKw pos (keywordEach [] X.env)).all (fun x => x.1.isSome) && decide ((e :: es).length + ([] : List Keyword).length + (if ([] : List Keyword).isEmpty then 0 else 1) < 30)) = true := by rfl)
    (hline : (apos.endLine == pos.line) = true := by rfl) (hs : starEach (e :: es) X.env = (false, eval e X.env) :: starEach es X.env := by rfl) (hplain : (backTo pos (starEach es X.env)).any (·.1) = false := by rfl) : PE X (.Call (.Attribute o name apos) (e :: es) [] pos) (tDM r to t) := by
  intro pins s σ H Q I h
  refine wpAny_Call_method_late hbase hfew hline rfl (thn (ho pins s σ H _ I h) fun v s1 ⟨x, H1, I1, r1, ⟨a, ob, ex, hp, hx⟩, q1⟩ => ?_)
  subst ex
  cases r1
  have g := I1.pinO hp
  refine ⟨"dict", id, PySem.F.plainAttrs_dict, slot, hty, ⟨ob, g, hx.1⟩, fun b z => ?_, ?_⟩
  · cases z
    exact ⟨ob, g, hx.2.1⟩
  · have hA := ha pos pins s1 σ H1 _ I1 q1
    rw [hs] at hA ⊢
    refine Calls.callWith_builtin (by show (false || (backTo pos (starEach es X.env)).any (·.1)) = false; rw [hplain] <;> rfl) (Calls.evalArgs_plain (thn hA fun us s2 ⟨vs, H2, I2, r2, q2⟩ => ?_))
    exact hm pins s2 σ H2 (.ref a) vs (.ref a) us Q I2 rfl r2 q2
/-- d.get(k, v) -/
def rGet2 (w : World) (K : PySem.W.Frag) : V → List V → Hp → VK → Prop := fun x xs H Q => ∃ F a kvs k y z d, x = .ref a ∧ xs = [y, z] ∧ Same F H ∧ Ow w K F H a (.dct kvs) ∧ Rp w K F y (kdD k) ∧ Rp w K F z d ∧ ∀ v, Rp w K F v ((valD kvs k).getD d) → Q v H
theorem mt_get2 (hr : X.A.units + 1 < cLine) : MtR X "dict.get" (rGet2 X.w X.K) := by
  intro pins s σ H x xs v us Q I rx rs h
  obtain ⟨F, a, kvs, k, y, z, d, rfl, rfl, le, ⟨o, xs, vs, e, nz, R, hk, ek, hv, hrp⟩, rk, rz, q⟩ := h
  cases rx
  obtain ⟨u, u', rfl, r1, r2⟩ := vals2 rs
  cases hd : valD kvs k with
  | none =>
    rw [hd] at q
    refine getOr_k hr (I.keyP le rk r1) nz (I.pinO e) R (I.dAt le hk) ?_
    rw [look_none ek hd]
    exact ⟨z, H, I.tok _, r2, q z rz⟩
  | some d' =>
    rw [hd] at q
    obtain ⟨w1, v1, e1, q1, q2⟩ := look_some ek hv hrp hd
    refine getOr_k hr (I.keyP le rk r1) nz (I.pinO e) R (I.dAt le hk) ?_
    rw [e1]
    exact ⟨v1, H, I.tok _, q1, q v1 q2⟩
/-! ### {k: v, ..} -/
abbrev TPr := St → Hp → (List (V × V) → Hp → Prop) → Prop
def PDs (X : Cx) (pos : Pos) (keys : List (Option Expr)) (values : List Expr) (t : TPr) : Prop :=
  ∀ (pins : List (Addr × Obj)) (s : Shared) (σ : St) (H : Hp) (Q : List (V × V) → Hp → Prop), Inv X pins σ H s → t σ H Q →
    wpAny (model X.prog X.w) X.A (evalPairs (pairTrees keys values X.env pos)) (fun vs s' => ∃ ps H', Inv X pins σ H' s' ∧ Paired (fun p q => RelV p.1 q.1 ∧ RelV p.2 q.2) ps vs ∧ Q ps H') X.xe s
def tPn : TPr := fun _ H Q => Q [] H
def tPc (tk tv : TE) (t : TPr) : TPr := fun σ H Q => tk σ H fun x H1 => tv σ H1 fun y H2 => t σ H2 fun ps H3 => Q ((x, y) :: ps) H3
theorem pd_nil : PDs X pos [] [] tPn := fun pins s σ H Q I h => pairTrees_nil_walk ⟨[], H, I, .nil, h⟩
theorem pd_cons {k v : Expr} {ks : List (Option Expr)} {vs : List Expr} {tk tv : TE} {t : TPr} (hk : PE X k tk) (hv : PE X v tv) (hr : PDs X pos ks vs t) : PDs X pos (some k :: ks) (v :: vs) (tPc tk tv t) := fun pins s σ H Q I h =>
  pairTrees_cons_walk (thn (hk pins s σ H _ I h) fun u s1 ⟨x, H1, I1, rx, q1⟩ => thn (hv pins s1 σ H1 _ I1 q1) fun w2 s2 ⟨y, H2, I2, ry, q2⟩ => thn (hr pins s2 σ H2 _ I2 q2) fun ws s3 ⟨ps, H3, I3, rel, q3⟩ => ⟨(x, y) :: ps, H3, I3, .cons ⟨rx, ry⟩ rel, q3⟩)
def putsD (kvs : List (KD × PyData)) : List (KD × PyData) → List (KD × PyData)
  | [] => kvs
  | x :: r => putsD (putD kvs x.1 x.2) r
/-- what is stored, by data -/
inductive PsR (w : World) (K : PySem.W.Frag) (F : Hp) : List (V × V) → List (KD × PyData) → Prop
  | nil : PsR w K F [] []
  | cons {x y : V} {k : KD} {d : PyData} {ps : List (V × V)} {kvs : List (KD × PyData)} : Rp w K F x (kdD k) → kOk k = true → Rp w K F y d → PsR w K F ps kvs → PsR w K F ((x, y) :: ps) ((k, d) :: kvs)
theorem PsR.len {w : World} {K : PySem.W.Frag} {F : Hp} {ps : List (V × V)} {kvs : List (KD × PyData)} (h : PsR w K F ps kvs) : ps.length = kvs.length := by
  induction h with
  | nil => rfl
  | cons _ _ _ _ ih => rw [List.length_cons, List.length_cons, ih]
theorem puts_ow {w : World} {K : PySem.W.Frag} {F : Hp} : ∀ {ps : List (V × V)} {more : List (KD × PyData)} {vs : List (Value × Value)}, PsR w K F ps more → Paired (fun (p : V × V) (q : Value × Value) => RelV p.1 q.1 ∧ RelV p.2 q.2) ps vs →
    ∃ ys : List (KD × Value × Value), vs = ys.map (fun y => (y.2.1, y.2.2)) ∧ (∀ y ∈ ys, KeyR F y.1 y.2.1) ∧ ∀ (xs : List DX) (us : List V) (kvs : List (KD × PyData)), (∀ x ∈ xs, KeyR F x.1 x.2.1) → xs.map (·.1) = kvs.map (·.1) → Vals us (xs.map (·.2.2)) → Rps w K F us (kvs.map (·.2)) →
      (∀ x ∈ putsX xs ys, KeyR F x.1 x.2.1) ∧ (putsX xs ys).map (·.1) = (putsD kvs more).map (·.1) ∧ ∃ us', Vals us' ((putsX xs ys).map (·.2.2)) ∧ Rps w K F us' ((putsD kvs more).map (·.2))
  | _, _, _, .nil, r => by
    cases r
    exact ⟨[], rfl, (fun y hy => nomatch hy), fun xs us kvs h1 h2 h3 h4 => ⟨h1, h2, us, h3, h4⟩⟩
  | _, _, _, .cons (x := x) (y := y) (k := k) (d := d) a b c t, r => by
    cases r with
    | @cons p q ps qs h hr =>
      obtain ⟨ys, e, hk, st⟩ := puts_ow t hr
      refine ⟨(k, q.1, q.2) :: ys, by rw [List.map_cons, ← e], fun z hz => ?_, fun xs us kvs h1 h2 h3 h4 => ?_⟩
      · rcases List.mem_cons.mp hz with rfl | hz
        · exact a.keyR b h.1
        · exact hk z hz
      · obtain ⟨g1, g2, us', g3, g4⟩ := put_parts h1 (a.keyR b h.1) h2 h3 h4 h.2 c
        exact st _ us' _ g1 g2 g3 g4
/-- the new dict stands empty while the pairs are made -/
def tDispX (w : World) (K : PySem.W.Frag) (t : TPr) : TE := fun σ H Q => ∀ p o, H p = none → (p == sysModules) = false → DRec w o [] → t σ (upd H p (PinO p o)) fun ps H2 => ∃ F kvs, Same F H2 ∧ H2 p = some (PinO p o) ∧ PsR w K F ps kvs ∧ kvs.length ≤ 15 ∧
  ∀ o', Ow w K F (upd H2 p (PinO p o')) p (.dct (putsD [] kvs)) → Q (.ref p) (upd H2 p (PinO p o'))
theorem pe_dispX {keys : List (Option Expr)} {values : List Expr} {t : TPr} (hr : X.A.units < cLine) (h : PDs X pos keys values t) (hall : keys.all (·.isSome) = true) (hl : keys.length = values.length) (h0 : keys ≠ []) (h15 : keys.length ≤ 15) : PE X (.Dict keys values pos) (tDispX X.w X.K t) := by
  intro pins s σ H Q I q
  have hn := I.hok.fresh (Nat.le_refl s.heap.objs.size)
  have hz : (s.heap.objs.size == sysModules) = false := beq_eq_false_iff_ne.mpr (Ne.symm (Nat.ne_of_lt I.far))
  have I1 := I.laid (a := s.heap.objs.size) (o := PinO s.heap.objs.size { cls := .type "dict", data := .dict #[] }) (h' := s.heap.push { cls := .type "dict", data := .dict #[] }) (t' := s.toks) (fun _ _ q => Heap.get?_push_of_some _ q) (Nat.le_refl _) ⟨Heap.get?_push_size _ rfl, ⟨_, Heap.get?_push_size _ rfl⟩, fun h1 h2 q k => k _ q⟩
  have R0 : DRec X.w { cls := .type "dict", data := .dict #[] } [] := ⟨⟨rfl, rfl, rfl⟩, ⟨_, _, rfl, rfl⟩, List.nodup_nil, Nat.zero_le _⟩
  refine wpAny_Dict_any hall hl h0 h15 (thn (h pins _ σ _ _ I1 (q _ _ hn hz R0)) fun ws s2 ⟨ps, H2, I2, rel, F, kvs, le, e, pr, lk, q2⟩ => ?_)
  obtain ⟨ys, rfl, ky, st⟩ := puts_ow pr rel
  have ln : ys.length = kvs.length := by
    have a := rel.length
    rw [List.length_map, pr.len] at a
    exact a.symm
  refine stores_k (P := X.prog) (w := X.w) hr ys (I2.pinO e) R0 (fun x hx => nomatch hx) (fun y hy => I2.keyR le (ky y hy)) (by rw [List.length_nil, ln, Nat.zero_add]; exact Nat.le_trans lk (by decide)) fun h' o' tk g' R' sb => ?_
  obtain ⟨g1, g2, us', g3, g4⟩ := st [] [] [] (fun x hx => nomatch hx) rfl .nil .nil
  exact ⟨.ref s.heap.objs.size, _, I2.dput e g' sb, rfl, q2 o' ⟨o', _, us', upd_same, hz, R', g1, g2, g3, g4⟩⟩
end
end L2

set_option Elab.async false
set_option linter.all false
set_option maxRecDepth 100000
set_option maxHeartbeats 1000000
/-! dicts in the pure layer -/
namespace L2
open PySem PySem.Spec PyProof.Rows
section
variable {X : Cx} {pos : Pos}
theorem hu1 {k : Nat} (hr : Room k X.A) : X.A.units + 1 < cLine := hu_of hr
theorem Rp.owH {w : World} {K : PySem.W.Frag} {F H : Hp} (le : Same F H) {v : V} {kvs : List (KD × PyData)} (h : Rp w K F v (dictD kvs)) : ∃ a, v = .ref a ∧ Ow w K F H a (.dct kvs) := by
  obtain ⟨a, e, o⟩ := h.ow
  exact ⟨a, e, o.grow (Same.refl _) le⟩
/-! ### {} -/
def zDNew : TauO := fun ev C => C (.dct []) ev
theorem q_dnew : QO X (.Dict [] [] pos) zDNew :=
  ⟨_, pe_dnewX, fun F₀ ev F σ H Q C R h k p o hp hz R0 => k (.dct []) ev F p _ (R.grow (Gr.newO R.le hp)) ⟨o, [], [], upd_same, hz, R0, (fun x hx => nomatch hx), rfl, .nil, .nil⟩ (R.le.free hp) (R.k0.free hp) (R.nobody hp) (Same.refl _) h⟩
/-! ### x[k] = v, where x owns a dict -/
def zDPut (i : Nat) (τk τ : TauE) : TauS := fun P ev => (τ ev fun d ev1 => (∃ kvs, ev1[i]? = some (.own (.dct kvs))) ∧ τk ev1 fun dk ev2 => ∃ kvs k, ev2[i]? = some (.own (.dct kvs)) ∧ dk = kdD k ∧ kOk k = true ∧ kvs.length < sizeLine ∧ P.nx (ev2.set i (.own (.dct (putD kvs k d)))))
theorem RS.itemD {w : World} {K : PySem.W.Frag} {H₀ F₀ F : Hp} {ev : Ev} {σ : St} {H : Hp} (R : RS w K H₀ F₀ F ev σ H) {i : Nat} {kvs : List (KD × PyData)} (e : ev[i]? = some (.own (.dct kvs))) : ∃ a, σ[i]? = some (some (.ref a)) ∧ Ow w K F H a (.dct kvs) := by
  obtain ⟨a, h1, h2, _⟩ := R.own i _ e
  exact ⟨a, h1, h2⟩
theorem q_dput (i : Nat) {kr : Nat} (hr : Room kr X.A) {x : Str} {xp tp : Pos} {b e : Expr} {τk τ : TauE} (h : QE X e τ) (hk : QE X b τk) (hN : X.N[i]? = some x := by rfl) (hv : Vis X.env.scope x := by first | exact Or.inl rfl | exact Or.inr (Or.inl rfl) | exact Or.inr (Or.inr rfl))
    (hd : (x == ("__debug__" : Str)) = false := by decide) (hcd : (x == ("__classdict__" : Str)) = false := by decide)
    (ha : ∀ v, assign (.Subscript (.Name x xp) b tp) X.env v = (do
      let ov ← holding [v] (eval (.Name x xp) X.env)
      let iv ← holding [v, ov] (eval b X.env)
      standAt tp
      holding [v, ov, iv] (setItem ov iv v)
      release [v, ov, iv] []) := by intro _; rfl)
    (hs : swapsWithSole [.Subscript (.Name x xp) b tp] e pos.line X.env = pure false := by rfl) (hw : swappedStores [.Subscript (.Name x xp) b tp] e X.env = pure none := by rfl)
    (h1 : (assignEach [.Subscript (.Name x xp) b tp] X.env).map (·.2) = [assign (.Subscript (.Name x xp) b tp) X.env] := by rfl) : QS X (.Assign [.Subscript (.Name x xp) b tp] e pos) (zDPut i τk τ) := by
  obtain ⟨t, ht, ka⟩ := h
  obtain ⟨u, hu, kb⟩ := hk
  refine ⟨_, ps_asg ht (pg_sub (pe_var hN hv hd hcd) hu (set_dct (hu1 hr)) ha) hs hw h1, fun F₀ D P ev F σ H E R h => ka F₀ ev F σ H _ _ R h fun d ev1 F1 v H1 R1 r s c => ?_⟩
  obtain ⟨⟨kvs0, e0⟩, c⟩ := c
  obtain ⟨a, s0, _⟩ := R1.itemD e0
  refine ⟨.ref a, s0, kb F₀ ev1 F1 σ H1 _ _ R1 c fun dk ev2 F2 vk H2 R2 r2 s2 c2 => ?_⟩
  obtain ⟨kvs, k, e1, rfl, ok, hl, c3⟩ := c2
  obtain ⟨a', s1, o1⟩ := R2.itemD e1
  rw [s0] at s1; cases s1
  exact ⟨F2, a, kvs, k, d, rfl, R2.le, o1, r2, ok, r.mono s2, hl, fun o' w' => E.nx _ _ _ _ (R2.change e1 s0 (m' := .dct (putD kvs k d)) w') c3⟩
/-! ### d[k] -/
def rhDix : Rho2 := fun a b C => ∃ kvs k, a = dictD kvs ∧ b = kdD k ∧ optC (valD kvs k) C
theorem q_dix {kr : Nat} (hr : Room kr X.A) {a b : Expr} {τa τb : TauE} (ha : QE X a τa) (hb : QE X b τb) (hs : PlainIx b) : QE X (.Subscript a b pos) (zOp rhDix τa τb) := by
  obtain ⟨ta, ha, ka⟩ := ha
  obtain ⟨tb, hb, kb⟩ := hb
  refine ⟨_, pe_ix (ix_dct (hu1 hr)) ha hb hs, zop (fun F H x y dx dy Q C le rx ry c k => ?_) ka kb⟩
  obtain ⟨kvs, kk, rfl, rfl, c⟩ := c
  obtain ⟨a, rfl, o⟩ := rx.owH le
  cases e : valD kvs kk with
  | none => rw [e] at c; exact False.elim c
  | some d =>
    rw [e] at c
    exact ⟨F, a, kvs, kk, d, rfl, le, o, ry, e, fun v rv => k _ _ _ _ (Gr.refl le) rv c⟩
/-- x[k], where x owns the dict -/
def zDIxV (i : Nat) (τ : TauE) : TauE := fun ev C => (∃ kvs, ev[i]? = some (.own (.dct kvs))) ∧ τ ev fun dk ev' => ∃ kvs k, ev'[i]? = some (.own (.dct kvs)) ∧ dk = kdD k ∧ optC (valD kvs k) fun d => C d ev'
theorem q_dixV (i : Nat) {kr : Nat} (hr : Room kr X.A) {x : Str} {xp : Pos} {b : Expr} {τ : TauE} (h : QE X b τ) (hs : PlainIx b) (hN : X.N[i]? = some x := by rfl) (hv : Vis X.env.scope x := by first | exact Or.inl rfl | exact Or.inr (Or.inl rfl) | exact Or.inr (Or.inr rfl))
    (hd : (x == ("__debug__" : Str)) = false := by decide) (hcd : (x == ("__classdict__" : Str)) = false := by decide) : QE X (.Subscript (.Name x xp) b pos) (zDIxV i τ) := by
  obtain ⟨t, ht, ka⟩ := h
  refine ⟨_, pe_ix (ix_dct (hu1 hr)) (pe_var hN hv hd hcd) ht hs, fun F₀ ev F σ H Q C R h k => ?_⟩
  obtain ⟨⟨kvs0, e0⟩, h⟩ := h
  obtain ⟨a, s0, _⟩ := R.itemD e0
  refine ⟨.ref a, s0, ka F₀ ev F σ H _ _ R h fun dk ev' F' v H' R' r s c => ?_⟩
  obtain ⟨kvs, kk, e1, rfl, c⟩ := c
  obtain ⟨a', s1, o1⟩ := R'.itemD e1
  rw [s0] at s1; cases s1
  cases e : valD kvs kk with
  | none => rw [e] at c; exact False.elim c
  | some d =>
    rw [e] at c
    exact ⟨F', a, kvs, kk, d, rfl, R'.le, o1, r, e, fun v rv => k _ _ _ _ _ R' rv s c⟩
/-! ### k in d -/
def rhInK (neg : Bool) : Rho2 := fun a b C => ∃ kvs k, b = dictD kvs ∧ a = kdD k ∧ C (.bool (if neg then !(valD kvs k).isSome else (valD kvs k).isSome))
theorem o_inK {kr : Nat} (hr : Room kr X.A) : OpP X (compareOp .In) (rhInK false) := ⟨_, op_inK (hu1 hr), fun F H x y dx dy Q C le rx ry c k => by
  obtain ⟨kvs, kk, rfl, rfl, c⟩ := c
  obtain ⟨a, rfl, o⟩ := ry.owH le
  exact ⟨F, a, kvs, kk, rfl, le, o, rx, k _ _ _ _ (Gr.refl le) (.bl _) c⟩⟩
theorem o_notInK {kr : Nat} (hr : Room kr X.A) : OpP X (compareOp .NotIn) (rhInK true) := ⟨_, op_notInK (hu1 hr), fun F H x y dx dy Q C le rx ry c k => by
  obtain ⟨kvs, kk, rfl, rfl, c⟩ := c
  obtain ⟨a, rfl, o⟩ := ry.owH le
  exact ⟨F, a, kvs, kk, rfl, le, o, rx, k _ _ _ _ (Gr.refl le) (.bl _) c⟩⟩
/-! ### == -/
def hitB (es : List (KD × PyData)) (kv : KD × PyData) : Bool := match valD es kv.1 with | some d => PyData.eqv kv.2 d | none => false
def eqDD (a b : List (KD × PyData)) : Bool := a.length == b.length && a.all (hitB b)
def shD (a : List (KD × PyData)) : Prop := ∀ kv ∈ a, SeqAt.shaped kv.2 = true
theorem valD_mem {kvs : List (KD × PyData)} {k : KD} {d : PyData} (h : valD kvs k = some d) : (k, d) ∈ kvs := by
  unfold valD at h
  cases e : kvs.find? fun kv => decide (kv.1 = k) with
  | none => rw [e] at h; cases h
  | some kv =>
    rw [e] at h
    cases h
    have h0 := List.find?_some e
    have h1 : kv.1 = k := by simpa using h0
    have h2 := List.mem_of_find?_eq_some e
    rw [← h1]
    exact h2
theorem hits_of {pins : List (Addr × Obj)} {σ : St} {F H : Hp} {s : Shared} (I : Inv X pins σ H s) (le : Same F H) (hu : X.A.units + 65 < cLine) {ys : List DX} {us : List V} {es : List (KD × PyData)} (ek : ys.map (·.1) = es.map (·.1)) (hv : Vals us (ys.map (·.2.2))) (hr : Rps X.w X.K F us (es.map (·.2))) (sh : shD es) :
    ∀ {kvs : List (KD × PyData)} {xs : List DX} {vs : List V}, xs.map (·.1) = kvs.map (·.1) → Vals vs (xs.map (·.2.2)) → Rps X.w X.K F vs (kvs.map (·.2)) → shD kvs → HitsX X.A.in1 s ys xs (kvs.all (hitB es))
  | [], xs, vs, e, _, _, _ => by
    cases xs with
    | nil => exact .nil
    | cons _ _ => cases e
  | kv :: kvs, xs, vs, e, v, r, sk => by
    cases xs with
    | nil => cases e
    | cons x xs =>
      rw [List.map_cons, List.map_cons] at e
      injection e with e1 e2
      rw [List.map_cons] at v r
      cases r with
      | cons r1 r2 =>
        cases v with
        | cons v1 v2 =>
          have ih := hits_of I le hu ek hv hr sh e2 v2 r2 fun z hz => sk z (List.mem_cons_of_mem _ hz)
          have s1 := sk kv List.mem_cons_self
          rw [List.all_cons]
          cases q : valD es kv.1 with
          | none =>
            rw [show hitB es kv = false by unfold hitB; rw [q], Bool.false_and]
            exact .miss (by rw [e1]; exact look_none ek q)
          | some d =>
            rw [show hitB es kv = PyData.eqv kv.2 d by unfold hitB; rw [q]]
            obtain ⟨u, y, z1, z2, z3⟩ := look_some ek hv hr q
            have s2 : SeqAt.shaped d = true := sh _ (valD_mem q)
            obtain ⟨as, ra⟩ := I.reads ((r1.mono le).rdD (SeqAt.canLay_of_shaped s1)) v1
            obtain ⟨bs, rb⟩ := I.reads ((z3.mono le).rdD (SeqAt.canLay_of_shaped s2)) z2
            refine .hit (y := u) (by rw [e1]; exact z1) (SeqAt.eqAt_reads kv.2 d X.A.in1 s _ _ as bs ra rb (SeqAt.canLay_of_shaped s1) (SeqAt.canLay_of_shaped s2) ?_) ih
            have h1 := SeqAt.depth_of_shaped s1
            have h2 : min kv.2.depth d.depth ≤ kv.2.depth := Nat.min_le_left _ _
            show X.A.units + 1 + _ < cLine
            omega
def rEqK (w : World) (K : PySem.W.Frag) (neg : Bool) : R2 := fun x y H Q => ∃ F a b kvs es, x = .ref a ∧ y = .ref b ∧ Same F H ∧ Ow w K F H a (.dct kvs) ∧ Ow w K F H b (.dct es) ∧ shD kvs ∧ shD es ∧ Q (.bl (if neg then !eqDD kvs es else eqDD kvs es)) H
theorem op_eqK (hu : X.A.units + 65 < cLine) : OpR X (compareOp .Eq) (rEqK X.w X.K false) := fun pins s σ H x y v u Q I rx ry h => by
  obtain ⟨F, a, b, kvs, es, rfl, rfl, le, ⟨o, xs, vs, e, nz, R, hk, ek, hv, hrp⟩, ⟨o', ys, us, e', nz', R', hk', ek', hv', hrp'⟩, s1, s2, q⟩ := h
  cases rx; cases ry
  have l1 : xs.length = kvs.length := by have := congrArg List.length ek; simpa using this
  have l2 : ys.length = es.length := by have := congrArg List.length ek'; simpa using this
  refine eq_k (by omega) nz nz' (I.pinO e) (I.pinO e') R R' (I.dAt le hk) (I.dAt le hk') (fun _ => hits_of I le hu ek' hv' hrp' s2 ek hv hrp s1) ⟨.bl _, H, I, rfl, ?_⟩
  rw [l1, l2]
  exact q
theorem op_neK (hu : X.A.units + 65 < cLine) : OpR X (compareOp .NotEq) (rEqK X.w X.K true) := fun pins s σ H x y v u Q I rx ry h => by
  obtain ⟨F, a, b, kvs, es, rfl, rfl, le, ⟨o, xs, vs, e, nz, R, hk, ek, hv, hrp⟩, ⟨o', ys, us, e', nz', R', hk', ek', hv', hrp'⟩, s1, s2, q⟩ := h
  cases rx; cases ry
  have l1 : xs.length = kvs.length := by have := congrArg List.length ek; simpa using this
  have l2 : ys.length = es.length := by have := congrArg List.length ek'; simpa using this
  refine ne_k (by omega) nz nz' (I.pinO e) (I.pinO e') R R' (I.dAt le hk) (I.dAt le hk') (fun _ => hits_of I le hu ek' hv' hrp' s2 ek hv hrp s1) ⟨.bl _, H, I, rfl, ?_⟩
  rw [l1, l2]
  exact q
def rhEqK (neg : Bool) : Rho2 := fun a b C => ∃ kvs es, a = dictD kvs ∧ b = dictD es ∧ shD kvs ∧ shD es ∧ C (.bool (if neg then !eqDD kvs es else eqDD kvs es))
theorem o_eqK {kr : Nat} (hr : Room kr X.A) : OpP X (compareOp .Eq) (rhEqK false) := ⟨_, op_eqK (units1 hr), fun F H x y dx dy Q C le rx ry c k => by
  obtain ⟨kvs, es, rfl, rfl, s1, s2, c⟩ := c
  obtain ⟨a, rfl, o⟩ := rx.owH le
  obtain ⟨b, rfl, o'⟩ := ry.owH le
  exact ⟨F, a, b, kvs, es, rfl, rfl, le, o, o', s1, s2, k _ _ _ _ (Gr.refl le) (.bl _) c⟩⟩
theorem o_neK {kr : Nat} (hr : Room kr X.A) : OpP X (compareOp .NotEq) (rhEqK true) := ⟨_, op_neK (units1 hr), fun F H x y dx dy Q C le rx ry c k => by
  obtain ⟨kvs, es, rfl, rfl, s1, s2, c⟩ := c
  obtain ⟨a, rfl, o⟩ := rx.owH le
  obtain ⟨b, rfl, o'⟩ := ry.owH le
  exact ⟨F, a, b, kvs, es, rfl, rfl, le, o, o', s1, s2, k _ _ _ _ (Gr.refl le) (.bl _) c⟩⟩
/-! ### for k in d; for i, x in enumerate(xs) -/
def zForD (τ : TauE) (γ : TauG) (υ : TauS) : TauS := fun P ev => τ ev fun d ev1 => ∃ kvs, d = dictD kvs ∧ LoopD (kvs.map fun kv => kdD kv.1) γ υ P ev1
theorem keys_get {F : Hp} {xs : List DX} {kvs : List (KD × PyData)} (hk : ∀ x ∈ xs, KeyR F x.1 x.2.1) (ek : xs.map (·.1) = kvs.map (·.1)) {i : Nat} {x : V} (hx : (keysV xs)[i]? = some x) : ∃ d, (kvs.map fun kv => kdD kv.1)[i]? = some d ∧ Rp X.w X.K F x d := by
  unfold keysV at hx
  rw [List.getElem?_map] at hx
  cases e : xs[i]? with
  | none => rw [e] at hx; cases hx
  | some y =>
    rw [e] at hx
    cases hx
    refine ⟨kdD y.1, ?_, keyV_rp (hk y (List.mem_of_getElem? e))⟩
    have : (kvs.map (·.1))[i]? = some y.1 := by rw [← ek, List.getElem?_map, e]; rfl
    rw [show (kvs.map fun kv => kdD kv.1) = (kvs.map (·.1)).map kdD by rw [List.map_map]; rfl, List.getElem?_map, this]
    rfl
theorem keys_len {xs : List DX} {kvs : List (KD × PyData)} (ek : xs.map (·.1) = kvs.map (·.1)) : (keysV xs).length = (kvs.map fun kv => kdD kv.1).length := by
  have := congrArg List.length ek
  unfold keysV
  simpa using this
theorem q_forD {tg iter : Expr} {body : List Stmt} {τ : TauE} {γ : TauG} {υ : TauS} (hp : PassesOwn (model X.prog X.w) X.A X.env X.xe) (hc : X.calm = true) (hi : QE X iter τ) {S : List Nat} (hg : QG X S tg γ) (hb : QSs X body υ) (hs : ∀ x, foldedSetIterable iter X.env x = pure x := by intro _; rfl) :
    QS X (.For tg iter body [] pos) (zForD τ γ υ) := by
  obtain ⟨t, ht, ka⟩ := hi
  obtain ⟨g, hg, kg⟩ := hg
  obtain ⟨tb, hb, kb⟩ := hb
  refine ⟨_, ps_for hp hc (pi_dict ht) hg hb hs, fun F₀ D P ev F σ H E R h => ka F₀ ev F σ H _ _ R h fun d ev1 F1 v H1 R1 r s c => ?_⟩
  obtain ⟨kvs, rfl, J, j0, jt, je⟩ := c
  obtain ⟨a, rfl, o, xs, vs, e, nz, R0, hk, ek, hv, hrp⟩ := r.ow
  have kl := keys_len ek
  refine ⟨a, o, xs, F1, rfl, R1.le _ _ e, nz, R0, hk, fun i m σ' H' => m = (keysV xs).length - i ∧ i ≤ (keysV xs).length ∧ ∃ ev' F', RS X.w X.K X.H₀ F1 F' ev' σ' H' ∧ J i ev', ⟨_, rfl, Nat.zero_le _, ev1, F1, R1.rebase, j0⟩, fun i m σ' H' z => ?_⟩
  obtain ⟨rfl, hi, ev', F', R', j'⟩ := z
  have hH : H' a = some (PinO a o) := R'.le _ _ (R'.f0 _ _ e)
  by_cases hlt : i < (keysV xs).length
  · refine .inr ⟨⟨hH, hlt⟩, fun σ2 H2 => ∃ ev2 F2, RS X.w X.K X.H₀ F1 F2 ev2 σ2 H2 ∧ J (i + 1) ev2, fun σ2 H2 ⟨ev2, F2, R2, j2⟩ => ⟨_, by omega, rfl, hlt, ev2, F2, R2, j2⟩, fun x H2 y => ?_⟩
    obtain ⟨rfl, hx⟩ := y
    obtain ⟨d, hd, rd⟩ := keys_get hk ek hx
    exact kg F1 ev' F' σ' _ x d _ _ R' (rd.mono R'.f0) (jt i d ev' hd j') fun ev2 σ2 R2 _ c2 => kb F1 _ _ ev2 F' σ2 _ (endLoop E R1.toRB fun ev F σ H R z => ⟨ev, F, R, z⟩) R2 c2
  · have e2 : i = (kvs.map fun kv => kdD kv.1).length := by rw [← kl]; omega
    rw [e2] at j'
    exact .inl ⟨⟨hH, by omega⟩, E.nx _ _ _ _ (RS.unbase R1.toRB R') (je ev' j')⟩
def zForE (τ : TauE) (γ : TauG) (υ : TauS) : TauS := fun P ev => τ ev fun d ev1 => match d with
  | .list ds => ∃ J : Nat → Ev → Prop, J 0 ev1 ∧ (∀ i x ev', ds[i]? = some x → J i ev' → γ (.tuple [.int (i : Nat), x]) ev' fun ev2 => υ { P with nx := J (i + 1), ct := J (i + 1), bk := P.nx } ev2) ∧ ∀ ev', J ds.length ev' → P.nx ev'
  | _ => False
def iEnum (K : PySem.W.Frag) (ta : TA) : TI := fun σ H R => ta σ H fun vs H1 => ∃ l, vs = [.ref l] ∧ (∃ xs, SqL K H1 l xs) ∧ R (Ite K l) H1
theorem pi_enum {elts : List Expr} {kk : Nat} {tp : Pos} {a : Expr} {ta : TA} {p pos : Pos} (hg : Gl X "enumerate") (hm : X.mg "enumerate" = none) (ha : PA X [a] ta) (hs : starEach [a] X.env = [(false, eval a X.env)] := by rfl) : PI X (.Tuple elts kk tp) (.Call (.Name "enumerate" p) [a] [] pos) (iEnum X.K ta) := by
  intro pins s σ H R I h
  refine Call_ (ld_blt I hg hm boot_enumerate (PyProof.Rows.callWith_type1 (thn (ha pos pins s σ H _ I h) fun us s1 ⟨vs, H1, I1, r1, q1⟩ => ?_) hs rfl))
  obtain ⟨l, e, ⟨xs, hq⟩, q⟩ := q1
  subst e
  obtain ⟨u, rfl, ru⟩ := vals1 r1
  cases ru
  obtain ⟨its, rv, pl, hz⟩ := I1.list hq
  refine call_enumerate_list pl.isList fun h' he hit hsz kp => wpAny_pyIter_enum he ?_
  refine ⟨_, [s1.heap.objs.size + 1, s1.heap.objs.size], _, _, H1, rfl, I1.kept (t' := s1.toks) kp, turn_enum l _ _ (Nat.succ_ne_self _), ⟨⟨_, he⟩, hit⟩, fun b hb => ?_, q⟩
  simp only [List.mem_cons, List.not_mem_nil, or_false] at hb
  rcases hb with rfl | rfl
  · exact I1.fpOk (Nat.le_succ _) (I1.hok.fresh (Nat.le_succ _))
  · exact I1.fpOk (Nat.le_refl _) (I1.hok.fresh (Nat.le_refl _))
theorem q_forE {elts : List Expr} {kk : Nat} {tp : Pos} {a : Expr} {body : List Stmt} {p pp : Pos} {τ : TauE} {γ : TauG} {υ : TauS} (hp : PassesOwn (model X.prog X.w) X.A X.env X.xe) (hc : X.calm = true) (hgl : Gl X "enumerate") (hm : X.mg "enumerate" = none) (hi : QE X a τ) {S : List Nat} (hg : QG X S (.Tuple elts kk tp) γ) (hb : QSs X body υ)
    (hst : starEach [a] X.env = [(false, eval a X.env)] := by rfl) (hs : ∀ x, foldedSetIterable (.Call (.Name "enumerate" p) [a] [] pp) X.env x = pure x := by intro _; rfl) : QS X (.For (.Tuple elts kk tp) (.Call (.Name "enumerate" p) [a] [] pp) body [] pos) (zForE τ γ υ) := by
  obtain ⟨t, ht, ka⟩ := hi
  obtain ⟨g, hg, kg⟩ := hg
  obtain ⟨tb, hb, kb⟩ := hb
  refine ⟨_, ps_for hp hc (pi_enum hgl hm (pa_cons ht pa_nil hst) hst) hg hb hs, fun F₀ D P ev F σ H E R h => ka F₀ ev F σ H _ _ R h fun d ev1 F1 v H1 R1 r s c => ?_⟩
  cases r with
  | @lst a vs ds hq hr =>
    obtain ⟨J, j0, jt, je⟩ := c
    have hl := hr.length
    refine ⟨a, rfl, ⟨vs, R1.le.seq hq⟩, fun i m σ' H' => m = vs.length - i ∧ i ≤ vs.length ∧ ∃ ev' F', RS X.w X.K X.H₀ F1 F' ev' σ' H' ∧ J i ev', ⟨_, rfl, Nat.zero_le _, ev1, F1, R1.rebase, j0⟩, fun i m σ' H' z => ?_⟩
    obtain ⟨rfl, hi, ev', F', R', j'⟩ := z
    have hH : SqL X.K H' a vs := (R'.f0.trans R'.le).seq hq
    by_cases hlt : i < vs.length
    · refine .inr ⟨⟨vs, vs[i], hH, List.getElem?_eq_getElem hlt⟩, fun σ2 H2 => ∃ ev2 F2, RS X.w X.K X.H₀ F1 F2 ev2 σ2 H2 ∧ J (i + 1) ev2, fun σ2 H2 ⟨ev2, F2, R2, j2⟩ => ⟨_, by omega, rfl, hlt, ev2, F2, R2, j2⟩, fun x H2 y => ?_⟩
      obtain ⟨p, y, rfl, hp0, hy, rfl⟩ := y
      obtain ⟨d, hd, rd⟩ := hr.getV (hy vs hH)
      have g : Gr F' H' (upd F' p (.tup [.int (i : Nat), y])) (upd H' p (.tup [.int (i : Nat), y])) := Gr.new R'.le hp0
      exact kg F1 ev' _ σ' _ (.ref p) (.tuple [.int (i : Nat), d]) _ _ (R'.grow g) (.tup (SqK.of upd_same) (.cons (.int _) (.cons ((rd.mono R'.f0).mono g.ff) .nil))) (jt i d ev' hd j') fun ev2 σ2 R2 _ c2 => kb F1 _ _ ev2 _ σ2 _ (endLoop E R1.toRB fun ev F σ H R z => ⟨ev, F, R, z⟩) R2 c2
    · have e2 : i = ds.length := by rw [← hl]; omega
      rw [e2] at j'
      exact .inl ⟨⟨vs, hH, by omega⟩, E.nx _ _ _ _ (RS.unbase R1.toRB R') (je ev' j')⟩
  | _ => exact False.elim c
end
end L2

set_option Elab.async false
set_option linter.all false
set_option maxRecDepth 100000
set_option maxHeartbeats 1000000
/-! texts and tuples: >, min, max, sorted of a tuple, slices and sums of tuples; count in a list -/
namespace L2
open PySem PySem.Spec PyProof.Rows
section
variable {X : Cx} {pos : Pos}
def rhGtS : Rho2 := fun a b C => match a, b with | .str x, .str y => C (.bool (decide (y.cps.toList < x.cps.toList))) | _, _ => False
theorem o_gtS : OpP X (compareOp .Gt) rhGtS := ⟨_, op_gtS, fun F H x y dx dy Q C le rx ry c k => by
  unfold rhGtS at c
  split at c
  case h_1 a b =>
    cases rx; cases ry
    exact ⟨a, b, rfl, rfl, k _ _ _ _ (Gr.refl le) (.bl _) c⟩
  case h_2 => exact False.elim c⟩
def rhMaxS : Rho := fun ds C => match ds with | [.str i, .str j] => C (.str (if decide (i.cps.toList < j.cps.toList) then j else i)) | _ => False
theorem c_maxS (hc : X.calm = true) : CallP X (.builtin "max") rhMaxS := ⟨_, call_max2S hc, fun F H xs ds Q C le r c k => by
  unfold rhMaxS at c
  split at c
  case h_1 i j =>
    obtain ⟨v, u, rfl, h, h'⟩ := r.two
    cases h; cases h'
    exact ⟨i, j, rfl, k _ _ _ _ (Gr.refl le) (.str _) c⟩
  case h_2 => exact False.elim c⟩
def rhMinS : Rho := fun ds C => match ds with | [.str i, .str j] => C (.str (if decide (j.cps.toList < i.cps.toList) then j else i)) | _ => False
theorem c_minS (hc : X.calm = true) : CallP X (.builtin "min") rhMinS := ⟨_, call_min2S hc, fun F H xs ds Q C le r c k => by
  unfold rhMinS at c
  split at c
  case h_1 i j =>
    obtain ⟨v, u, rfl, h, h'⟩ := r.two
    cases h; cases h'
    exact ⟨i, j, rfl, k _ _ _ _ (Gr.refl le) (.str _) c⟩
  case h_2 => exact False.elim c⟩
def rhSortT : RhoO := fun ds C => match ds with | [.tuple xs] => ∃ ss : List Str, xs = ss.map .str ∧ ss.length < 64 ∧ ∀ ss', ss'.Perm ss → sortedS ss' = true → C (.lst (ss'.map .str)) | _ => False
theorem c_sortedT : CallO X (.builtin "sorted") rhSortT := ⟨_, call_sortedT, fun F H xs ds Q C le r c k => by
  unfold rhSortT at c
  split at c
  case h_1 ys =>
    obtain ⟨ss, rfl, h64, c⟩ := c
    obtain ⟨v, rfl, h⟩ := r.one
    obtain ⟨a, vs, rfl, hq, hs⟩ := h.sizesT
    cases hs.strs
    exact ⟨a, ss, rfl, le.sqt hq, h64, fun l ss' hl hp hs' => k _ _ _ hl (Ow.ofL upd_same (rps_strs ss')) (c ss' hp hs')⟩
  case h_2 => exact False.elim c⟩
/-- t + u, t not empty, u not empty -/
def rhCatT : Rho2 := fun a b C => match a, b with | .tuple xs, .tuple ys => xs ≠ [] ∧ ys ≠ [] ∧ xs.length + ys.length ≤ sizeLine ∧ C (.tuple (xs ++ ys)) | _, _ => False
theorem o_catT : OpP X (binaryOp .Add) rhCatT := ⟨_, op_catT, fun F H x y dx dy Q C le rx ry c k => by
  unfold rhCatT at c
  split at c
  case h_1 a b =>
    obtain ⟨p, vs, rfl, hq, hs⟩ := rx.sizesT
    obtain ⟨q, us, rfl, hq', hs'⟩ := ry.sizesT
    obtain ⟨c1, c2, c3, c4⟩ := c
    have ne1 : vs ≠ [] := fun z => by subst z; cases hs; exact c1 rfl
    have ne2 : us ≠ [] := fun z => by subst z; cases hs'; exact c2 rfl
    refine ⟨p, q, vs, us, rfl, rfl, le.sqt hq, le.sqt hq', ne1, by rw [hs.length, hs'.length]; exact c3, fun z => absurd z ne2, fun _ l hl => ?_⟩
    have g : Gr F H (upd F l (.tup (vs ++ us))) (upd H l (.tup (vs ++ us))) := Gr.new le hl
    exact k _ _ _ _ g (.tup (SqK.of upd_same) ((hs.append hs').mono g.ff)) c4
  case h_2 => exact False.elim c⟩
/-- t[lo:hi], not the whole of it -/
def zSlT (τ : TauE) (τl τh : TauP) : TauE := fun ev C => τ ev fun d ev1 => τl ev1 fun l ev2 => τh ev2 fun u ev3 => match d with
  | .tuple ds => ¬ (HT.sIx ds.length 0 l = 0 ∧ HT.sIx ds.length ds.length u = ds.length) ∧ C (.tuple (cutD ds l u)) ev3 | _ => False
theorem q_slT {e : Expr} {lo hi : Option Expr} {p2 : Pos} {τ : TauE} {τl τh : TauP} (h : QE X e τ) (hl : QP X lo τl) (hh : QP X hi τh) : QE X (.Subscript e (.Slice lo hi none p2) pos) (zSlT τ τl τh) := by
  obtain ⟨t, ht, ka⟩ := h
  obtain ⟨tl, hl, kl⟩ := hl
  obtain ⟨th, hh, kh⟩ := hh
  refine ⟨_, pe_slice sl_tup ht hl hh, fun F₀ ev F σ H Q C R h k => ka F₀ ev F σ H _ _ R h fun d ev1 F1 v H1 R1 r1 s1 c1 => kl F₀ ev1 F1 σ H1 _ _ R1 c1 fun l ev2 F2 H2 R2 s2 c2 => kh F₀ ev2 F2 σ H2 _ _ R2 c2 fun u ev3 F3 H3 R3 s3 c3 => ?_⟩
  split at c3
  case h_1 ds =>
    obtain ⟨a, vs, rfl, hq, hs⟩ := ((r1.mono s2).mono s3).sizesT
    refine ⟨a, vs, rfl, R3.le.sqt hq, by rw [hs.length]; exact c3.1, fun p hp => ?_⟩
    have g : Gr F3 H3 (upd F3 p (.tup (cutV vs l u))) (upd H3 p (.tup (cutV vs l u))) := Gr.new R3.le hp
    exact k _ _ _ _ _ (R3.grow g) (.tup (SqK.of upd_same) ((hs.cut l u).mono g.ff)) (((s1.trans s2).trans s3).trans g.ff) c3.2
  case h_2 => exact False.elim c3
/-! ### xs.count(k) -/
theorem Rps.bools {w : World} {K : PySem.W.Frag} {F : Hp} : ∀ {vs : List V} {bs : List Bool}, Rps w K F vs (bs.map .bool) → vs = bs.map .bl
  | _, [], h => by cases h; rfl
  | _, x :: bs, h => by
    rw [List.map_cons] at h
    cases h with
    | cons h1 h2 =>
      cases h1
      rw [Rps.bools h2]
      rfl
theorem Rps.ints {w : World} {K : PySem.W.Frag} {F : Hp} : ∀ {vs : List V} {ns : List Int}, Rps w K F vs (ns.map .int) → vs = ns.map .int
  | _, [], h => by cases h; rfl
  | _, x :: ns, h => by
    rw [List.map_cons] at h
    cases h with
    | cons h1 h2 =>
      cases h1
      rw [Rps.ints h2]
      rfl
def zCntB (τ τk : TauE) : TauE := fun ev C => τ ev fun d ev1 => ∃ bs : List Bool, d = .list (bs.map .bool) ∧ τk ev1 fun dk ev2 => match dk with | .bool k => C (.int (bs.count k : Nat)) ev2 | _ => False
def zCntI (τ τk : TauE) : TauE := fun ev C => τ ev fun d ev1 => ∃ ns : List Int, d = .list (ns.map .int) ∧ τk ev1 fun dk ev2 => match dk with | .int k => C (.int (ns.count k : Nat)) ev2 | _ => False
theorem q_cntB {o e : Expr} {apos : Pos} {τ τk : TauE} (h : QE X o τ) (he : QE X e τk) (hst : starEach [e] X.env = [(false, eval e X.env)] := by rfl) (hbase : attributeBase o "count" X.env (eval o X.env) = eval o X.env := by rfl) (hline : (apos.endLine == pos.line) = true := by rfl)
    (hfew : ((backTo pos (starEach [e] X.env)).all (fun x => !x.1) && (backToKw pos (keywordEach [] X.env)).all (fun x => x.1.isSome) && decide (([e] : List Expr).length + ([] : List Keyword).length + (if ([] : List Keyword).isEmpty then 0 else 1) < 30)) = true := by rfl) :
    QE X (.Call (.Attribute o "count" apos) [e] [] pos) (zCntB τ τk) := by
  obtain ⟨t, ht, ka⟩ := h
  obtain ⟨u, hu, kb⟩ := he
  refine ⟨_, pe_bm PySem.F.plainAttrs_list PySem.F.slot_list_count PySem.F.type_list_count mt_countB ht (pa_cons hu pa_nil hst) hbase hfew hline hst (by rw [show starEach [] X.env = [] from rfl]; rfl), fun F₀ ev F σ H Q C R h kk => ka F₀ ev F σ H _ _ R h fun d ev1 F1 v H1 R1 r s c => ?_⟩
  obtain ⟨bs, rfl, c⟩ := c
  obtain ⟨a, vs, rfl, hq, hs⟩ := r.sizes
  cases hs.bools
  refine ⟨.inl ⟨rfl, _, R1.le.seq hq⟩, kb F₀ ev1 F1 σ H1 _ _ R1 c fun dk ev2 F2 vk H2 R2 r2 s2 c2 => ?_⟩
  split at c2
  case h_1 k =>
    cases r2
    exact ⟨a, bs, k, rfl, rfl, (s2.trans R2.le).seq hq, kk _ _ _ _ _ R2 (.int _) (s.trans s2) c2⟩
  case h_2 => exact False.elim c2
theorem q_cntI {o e : Expr} {apos : Pos} {τ τk : TauE} (h : QE X o τ) (he : QE X e τk) (hst : starEach [e] X.env = [(false, eval e X.env)] := by rfl) (hbase : attributeBase o "count" X.env (eval o X.env) = eval o X.env := by rfl) (hline : (apos.endLine == pos.line) = true := by rfl)
    (hfew : ((backTo pos (starEach [e] X.env)).all (fun x => !x.1) && (backToKw pos (keywordEach [] X.env)).all (fun x => x.1.isSome) && decide (([e] : List Expr).length + ([] : List Keyword).length + (if ([] : List Keyword).isEmpty then 0 else 1) < 30)) = true := by rfl) :
    QE X (.Call (.Attribute o "count" apos) [e] [] pos) (zCntI τ τk) := by
  obtain ⟨t, ht, ka⟩ := h
  obtain ⟨u, hu, kb⟩ := he
  refine ⟨_, pe_bm PySem.F.plainAttrs_list PySem.F.slot_list_count PySem.F.type_list_count mt_countI ht (pa_cons hu pa_nil hst) hbase hfew hline hst (by rw [show starEach [] X.env = [] from rfl]; rfl), fun F₀ ev F σ H Q C R h kk => ka F₀ ev F σ H _ _ R h fun d ev1 F1 v H1 R1 r s c => ?_⟩
  obtain ⟨ns, rfl, c⟩ := c
  obtain ⟨a, vs, rfl, hq, hs⟩ := r.sizes
  cases hs.ints
  refine ⟨.inl ⟨rfl, _, R1.le.seq hq⟩, kb F₀ ev1 F1 σ H1 _ _ R1 c fun dk ev2 F2 vk H2 R2 r2 s2 c2 => ?_⟩
  split at c2
  case h_1 k =>
    cases r2
    exact ⟨a, ns, k, rfl, rfl, (s2.trans R2.le).seq hq, kk _ _ _ _ _ R2 (.int _) (s.trans s2) c2⟩
  case h_2 => exact False.elim c2
end
end L2

set_option Elab.async false
set_option linter.all false
set_option maxRecDepth 100000
set_option maxHeartbeats 1000000
/-! dict displays, d.get(k, v), any, all, comprehensions over a dict -/
namespace L2
open PySem PySem.Spec PyProof.Rows
section
variable {w : World} {K : PySem.W.Frag} {F F' H H' H₀ F₀ : Hp} {ev : Ev} {σ : St}
theorem PsR.mono (e : Same F F') {ps : List (V × V)} {kvs : List (KD × PyData)} (h : PsR w K F ps kvs) : PsR w K F' ps kvs := by
  induction h with
  | nil => exact .nil
  | cons a b c _ ih => exact .cons (a.mono e) b (c.mono e) ih
theorem ap_kd (D : PyData) (k : KD) : Ap D (kdD k) := by
  have one : ∀ k : Key, Ap D (keyD k) := fun k => by cases k with | inl i => exact .int i | inr x => exact .str x
  cases k with
  | inl k => exact one k
  | inr ks =>
    refine .tup fun d hd => ?_
    obtain ⟨k, _, rfl⟩ := List.mem_map.mp hd
    exact one k
theorem PsR.del {a : Addr} {D : PyData} (dj : Dj K F) (hD : Rp w K F (.ref a) D) (hn : ∀ ds, D ≠ .tuple ds) {ps : List (V × V)} {kvs : List (KD × PyData)} (h : PsR w K F ps kvs) : (∀ kv ∈ kvs, Ap D kv.2) → PsR w K (L2.del F a) ps kvs := by
  induction h with
  | nil => exact fun _ => .nil
  | cons a b c _ ih => exact fun p => .cons (Rp.del dj hD hn a (ap_kd D _)) b (Rp.del dj hD hn c (p _ List.mem_cons_self)) (ih fun kv hkv => p kv (List.mem_cons_of_mem _ hkv))
/-- a thing that no name holds changes -/
theorem RS.poke (R : RS w K H₀ F₀ F ev σ H) {p : Addr} {o : HO} (hf : F p = Option.none) (h0 : H₀ p = Option.none) (hu : ∀ (j : Nat) (m' : MV), ev[j]? = some (.own m') → σ[j]? ≠ some (some (.ref p))) : RS w K H₀ F₀ F ev σ (upd H p o) where
  le := fun b u q => by rw [upd_ne (ne_of_none q hf)]; exact R.le b u q
  k0 := fun b u q => by rw [upd_ne (ne_of_none q h0)]; exact R.k0 b u q
  f0 := R.f0
  nw := R.nw
  len := R.len
  val := R.val
  own := fun j m e => by
    obtain ⟨b, q3, q4, q5, q6⟩ := R.own j m e
    exact ⟨b, q3, q4.elsewhere (fun z => hu j m e (z ▸ q3)), q5, q6⟩
  uni := R.uni
  exc := R.exc
/-- what no name holds was shared for a time -/
theorem RS.thaw0 {F1 H1 : Hp} {p : Addr} {o : HO} {D : PyData} (dj : Dj K H1) (R : RS w K H₀ F₀ F ev σ H) (hf : F p = Option.none) (hu : ∀ (j : Nat) (m' : MV), ev[j]? = some (.own m') → σ[j]? ≠ some (some (.ref p)))
    (hD : Rp w K F1 (.ref p) D) (hn : ∀ ds, D ≠ .tuple ds) (R1 : RS w K H₀ F₀ F1 ev σ H1) (s1 : Same (upd F p o) F1) (pa : ApAll D ev) : RS w K H₀ F₀ (del F1 p) ev σ H1 ∧ Same F (del F1 p) := by
  have dj1 : Dj K F1 := dj.le R1.le
  have sF : Same F (upd F p o) := same_upd hf
  have sm : Same F (del F1 p) := fun b u q => by
    rw [del_ne (ne_of_none q hf)]
    exact s1 _ _ (sF _ _ q)
  refine ⟨⟨⟨fun b u q => ?_, R1.k0, R.f0.trans sm, fun b z => ?_⟩, R.len, fun j d e => ?_, fun j m e => ?_, R.uni, fun j C e => ?_⟩, sm⟩
  · by_cases e : b = p
    · subst e; rw [del_same] at q; cases q
    · rw [del_ne e] at q; exact R1.le b u q
  · by_cases e : b = p
    · subst e; exact absurd del_same z
    · rw [del_ne e] at z; exact R1.nw b z
  · obtain ⟨v, h1, h2⟩ := R.val j d e
    exact ⟨v, h1, h2.mono sm⟩
  · obtain ⟨b, h1, h2, h3, h4⟩ := R1.own j m e
    have ne : b ≠ p := fun z => hu j m e (z ▸ h1)
    exact ⟨b, h1, h2.del dj1 hD hn (pa.get e), by rw [del_ne ne]; exact h3, h4⟩
  · obtain ⟨ea, h1, h2⟩ := R.exc j C e
    exact ⟨ea, h1, sm _ _ h2⟩
end
section
variable {X : Cx} {pos : Pos}
/-! ### {k: v, ..} -/
abbrev TauD := Ev → (List (KD × PyData) → Ev → Prop) → Prop
def QD (X : Cx) (pos : Pos) (keys : List (Option Expr)) (values : List Expr) (τ : TauD) : Prop := ∃ t : TPr, PDs X pos keys values t ∧ ∀ (F₀ : Hp) (ev : Ev) (F : Hp) (σ : St) (H : Hp) (Q : List (V × V) → Hp → Prop) (C : List (KD × PyData) → Ev → Prop), RS X.w X.K X.H₀ F₀ F ev σ H → τ ev C →
  (∀ kvs ev' F' ps H', RS X.w X.K X.H₀ F₀ F' ev' σ H' → PsR X.w X.K F' ps kvs → Same F F' → C kvs ev' → Q ps H') → t σ H Q
def zDn : TauD := fun ev C => C [] ev
def zDc (τk τv : TauE) (δ : TauD) : TauD := fun ev C => τk ev fun dk ev1 => τv ev1 fun dv ev2 => δ ev2 fun kvs ev3 => ∃ k, dk = kdD k ∧ kOk k = true ∧ C ((k, dv) :: kvs) ev3
theorem q_dn : QD X pos [] [] zDn := ⟨_, pd_nil, fun _ _ F _ H _ _ R h k => k [] _ F [] H R .nil (Same.refl _) h⟩
theorem q_dc {k v : Expr} {ks : List (Option Expr)} {vs : List Expr} {τk τv : TauE} {δ : TauD} (hk : QE X k τk) (hv : QE X v τv) (hr : QD X pos ks vs δ) : QD X pos (some k :: ks) (v :: vs) (zDc τk τv δ) := by
  obtain ⟨tk, hk, ka⟩ := hk
  obtain ⟨tv, hv, kb⟩ := hv
  obtain ⟨t, hr, kc⟩ := hr
  refine ⟨_, pd_cons hk hv hr, fun F₀ ev F σ H Q C R h kk => ka F₀ ev F σ H _ _ R h fun dk ev1 F1 x H1 R1 r1 s1 c1 => kb F₀ ev1 F1 σ H1 _ _ R1 c1 fun dv ev2 F2 y H2 R2 r2 s2 c2 => kc F₀ ev2 F2 σ H2 _ _ R2 c2 fun kvs ev3 F3 ps H3 R3 r3 s3 c3 => ?_⟩
  obtain ⟨key, rfl, ok, c⟩ := c3
  exact kk _ ev3 F3 _ H3 R3 (.cons ((r1.mono s2).mono s3) ok (r2.mono s3) r3) ((s1.trans s2).trans s3) c
def tPdj (X : Cx) (t : TPr) : TPr := fun σ H Q => t σ H fun ps H' => Dj X.K H' → Q ps H'
theorem pd_dj {keys : List (Option Expr)} {values : List Expr} {t : TPr} (h : PDs X pos keys values t) : PDs X pos keys values (tPdj X t) := fun pins s σ H Q I k => thn (h pins s σ H _ I k) fun u s' ⟨v, H', I', r, q⟩ => ⟨v, H', I', r, q I'.dj⟩
def zDisp (δ : TauD) : TauO := fun ev C => δ ev fun kvs ev' => ev' = ev ∧ kvs.length ≤ 15 ∧ (∀ kv ∈ kvs, Ap (dictD []) kv.2) ∧ ApAll (dictD []) ev ∧ C (.dct (putsD [] kvs)) ev
theorem q_disp {kr : Nat} (hr : Room kr X.A) {keys : List (Option Expr)} {values : List Expr} {δ : TauD} (h : QD X pos keys values δ) (hall : keys.all (·.isSome) = true := by rfl) (hl : keys.length = values.length := by rfl) (h0 : keys ≠ [] := by intro z; cases z) (h15 : keys.length ≤ 15 := by decide) :
    QO X (.Dict keys values pos) (zDisp δ) := by
  obtain ⟨t, ht, ka⟩ := h
  refine ⟨_, pe_dispX (Nat.lt_of_succ_lt (hu1 hr)) (pd_dj ht) hall hl h0 h15, fun F₀ ev F σ H Q C R h kk p o hp hz R0 => ?_⟩
  have Rg := R.grow (Gr.newO (o := PinO p o) R.le hp)
  have nob := R.nobody hp
  have hfp := R.le.free hp
  have h0p := R.k0.free hp
  have wo : Ow X.w X.K F (upd H p (PinO p o)) p (.dct []) := ⟨o, [], [], upd_same, hz, R0, (fun x hx => nomatch hx), rfl, .nil, .nil⟩
  obtain ⟨R1, rp, sm⟩ := Rg.freezeT wo hfp h0p nob upd_same
  refine ka F₀ ev _ σ _ _ _ R1 h fun kvs ev' F2 ps H2 R2 r2 s2 c2 dj => ?_
  obtain ⟨rfl, l15, ap, apa, c⟩ := c2
  have hD : Rp X.w X.K F2 (.ref p) (dictD []) := rp.mono s2
  have hn := frz_nt (.dct [])
  obtain ⟨R3, s3⟩ := RS.thaw0 dj Rg hfp nob hD hn R2 s2 apa
  refine ⟨del F2 p, kvs, R3.le, R2.le _ _ (s2 _ _ upd_same), r2.del (dj.le R2.le) hD hn ap, l15, fun o' w' => ?_⟩
  exact kk _ ev' _ p _ (R3.poke del_same h0p nob) w' del_same h0p nob s3 c
/-! ### x, y = a, b -/
def zPar (i j : Nat) (τ : TauA) : TauS := fun P ev => τ ev fun ds ev' => match ds with | [d1, d2] => P.nx ((ev'.set i (.val d1)).set j (.val d2)) | _ => False
theorem q_par (i j : Nat) {x y : Str} {a b : Expr} {τ : TauA} {px py pt : Pos} {kt k2 pt2} (hc : X.calm = true) (hN : X.N.Nodup) (ha : QA X [a, b] τ) (hi : X.N[i]? = some x := by rfl) (hj : X.N[j]? = some y := by rfl) (hij : i ≠ j := by decide)
    (hx : X.env.scope.names.lookup x = some .local := by rfl) (hy : X.env.scope.names.lookup y = some .local := by rfl)
    (hw : swappedStores [.Tuple [.Name x px, .Name y py] kt pt] (.Tuple [a, b] k2 pt2) X.env = pure (some [x, y]) := by rfl)
    (hs : swapsWithSole [.Tuple [.Name x px, .Name y py] kt pt] (.Tuple [a, b] k2 pt2) pos.line X.env = pure false := by rfl) :
    QS X (.Assign [.Tuple [.Name x px, .Name y py] kt pt] (.Tuple [a, b] k2 pt2) pos) (zPar i j τ) := by
  obtain ⟨t, ht, ka⟩ := ha
  refine ⟨_, ps_par hc hN hi hj hij hx hy ht hw hs, fun F₀ D P ev F σ H E R h => ka F₀ ev F σ H _ _ R h fun ds ev' F' vs H' R' r s c => ?_⟩
  split at c
  case h_1 d1 d2 =>
    obtain ⟨v, u, rfl, r1, r2⟩ := r.two
    exact ⟨v, u, rfl, E.nx _ _ _ _ ((R'.setV r1 i).setV r2 j) c⟩
  case h_2 => exact False.elim c
/-! ### d.get(k, v) -/
def zDGet2 (τ τk τv : TauE) : TauE := fun ev C => τ ev fun d ev1 => ∃ kvs, d = dictD kvs ∧ τk ev1 fun dk ev2 => τv ev2 fun dv ev3 => ∃ k, dk = kdD k ∧ C ((valD kvs k).getD dv) ev3
theorem q_dget2 {kr : Nat} (hr : Room kr X.A) {o e f : Expr} {apos : Pos} {τ τk τv : TauE} (h : QE X o τ) (hk : QE X e τk) (hv : QE X f τv) (hst : starEach [e, f] X.env = [(false, eval e X.env), (false, eval f X.env)] := by rfl) (hst2 : starEach [f] X.env = [(false, eval f X.env)] := by rfl)
    (hbase : attributeBase o "get" X.env (eval o X.env) = eval o X.env := by rfl) (hline : (apos.endLine == pos.line) = true := by rfl)
    (hfew : ((backTo pos (starEach [e, f] X.env)).all (fun x => !x.1) && (backToKw pos (keywordEach [] X.env)).all (fun x => x.1.isSome) && decide (([e, f] : List Expr).length + ([] : List Keyword).length + (if ([] : List Keyword).isEmpty then 0 else 1) < 30)) = true := by rfl) :
    QE X (.Call (.Attribute o "get" apos) [e, f] [] pos) (zDGet2 τ τk τv) := by
  obtain ⟨t, ht, ka⟩ := h
  obtain ⟨u, hu, kb⟩ := hk
  obtain ⟨u2, hu2, kc⟩ := hv
  have s1 : starEach [e, f] X.env = (false, eval e X.env) :: starEach [f] X.env := by rw [hst, hst2]
  refine ⟨_, pe_dm PySem.F.slot_dict_get PySem.F.type_dict_get (mt_get2 (hu1 hr)) ht (pa_cons hu (pa_cons hu2 pa_nil hst2) s1) hbase hfew hline s1 (by rw [hst2]; rfl), fun F₀ ev F σ H Q C R h kk => ka F₀ ev F σ H _ _ R h fun d ev1 F1 v H1 R1 r s c => ?_⟩
  obtain ⟨kvs, rfl, c⟩ := c
  obtain ⟨a, rfl, ow⟩ := r.ow
  obtain ⟨ob, xs, vs, e1, _, rec, _⟩ := id ow
  refine ⟨⟨a, ob, rfl, R1.le _ _ e1, rec.ex⟩, kb F₀ ev1 F1 σ H1 _ _ R1 c fun dk ev2 F2 vk H2 R2 r2 s2 c2 => kc F₀ ev2 F2 σ H2 _ _ R2 c2 fun dv ev3 F3 vd H3 R3 r3 s3 c3 => ?_⟩
  obtain ⟨k, rfl, c⟩ := c3
  exact ⟨F3, a, kvs, k, vk, vd, dv, rfl, rfl, R3.le, ow.grow (s2.trans s3) ((s2.trans s3).trans R3.le), r2.mono s3, r3, fun v rv => kk _ _ _ _ _ R3 rv ((s.trans s2).trans s3) c⟩
/-! ### any, all -/
def rhAny : Rho := fun ds C => match ds with | [.list xs] => ∃ bs : List Bool, xs = bs.map .bool ∧ C (.bool (bs.any id)) | _ => False
theorem c_any (hc : X.calm = true) : CallP X (.builtin "any") rhAny := ⟨_, call_anyB hc, fun F H xs ds Q C le r c k => by
  unfold rhAny at c
  split at c
  case h_1 ys =>
    obtain ⟨bs, rfl, c⟩ := c
    obtain ⟨v, rfl, h⟩ := r.one
    obtain ⟨a, vs, rfl, hq, hs⟩ := h.sizes
    cases hs.bools
    exact ⟨a, bs, rfl, le.seq hq, k _ _ _ _ (Gr.refl le) (.bl _) c⟩
  case h_2 => exact False.elim c⟩
def rhAll : Rho := fun ds C => match ds with | [.list xs] => ∃ bs : List Bool, xs = bs.map .bool ∧ C (.bool (bs.all id)) | _ => False
theorem c_all (hc : X.calm = true) : CallP X (.builtin "all") rhAll := ⟨_, call_allB hc, fun F H xs ds Q C le r c k => by
  unfold rhAll at c
  split at c
  case h_1 ys =>
    obtain ⟨bs, rfl, c⟩ := c
    obtain ⟨v, rfl, h⟩ := r.one
    obtain ⟨a, vs, rfl, hq, hs⟩ := h.sizes
    cases hs.bools
    exact ⟨a, bs, rfl, le.seq hq, k _ _ _ _ (Gr.refl le) (.bl _) c⟩
  case h_2 => exact False.elim c⟩
end
section
variable {X : Cx} {pos : Pos} {elt tg iter : Expr} {ifs : List Expr} {scope : Scope} {cn fr : List Str} {js : List Nat} {γ : TauG} {τt : TauT} {τe : TauE} {S : List Nat} {τ : TauE}
theorem itok_dict {F : Hp} {a : Addr} {o : Obj} {vs : List V} (h : F a = some (PinO a o)) : ItOk (Itd a o vs) F vs.length fun i => vs[i]? :=
  ⟨fun i H s hi => ⟨s _ _ h, hi⟩, fun i H x H' s hi y => y, fun H s => ⟨s _ _ h, Nat.le_refl _⟩⟩
def zCompD (τ : TauE) (cn : Nat) (js : List Nat) (γ : TauG) (τt : TauT) (τe : TauE) : TauO := fun ev C => τ ev fun d ev1 => ∃ kvs, d = dictD kvs ∧ CompD (kvs.map fun kv => kdD kv.1) cn (outY js (frzAll js ev1)) γ τt τe (fun acc => C (.lst acc) (frzAll js ev1))
theorem src_dict {t : TE} (ks : ∀ (F₀ : Hp) (ev : Ev) (F : Hp) (σ : St) (H : Hp) (Q : VK) (C : PyData → Ev → Prop), RS X.w X.K X.H₀ F₀ F ev σ H → τ ev C → (∀ d ev' F' v H', RS X.w X.K X.H₀ F₀ F' ev' σ H' → Rp X.w X.K F' v d → Same F F' → C d ev' → Q v H') → t σ H Q)
    (F₀ : Hp) (ev : Ev) (F : Hp) (σ : St) (H : Hp) (C : MV → Ev → Prop) (R : RS X.w X.K X.H₀ F₀ F ev σ H) (h : zCompD τ cn.length js γ τt τe ev C) : iDict X.w t σ H (Src X F₀ F σ cn js γ τt τe C) := by
  refine ks F₀ ev F σ H _ _ R h fun d ev1 F1 v H1 R1 r s c => ?_
  obtain ⟨kvs, rfl, c⟩ := c
  obtain ⟨a, rfl, o, xs, vs, e, nz, R0, hk, ek, hv, hrp⟩ := r.ow
  exact ⟨a, o, xs, F1, rfl, R1.le _ _ e, nz, R0, hk, F1, ev1, (keysV xs).length, _, _, R1, itok_dict e, fun i x hi ex => keys_get hk ek ex, keys_len ek, s, c⟩
theorem q_compD (hsrc : QE X iter τ) (hc : X.calm = true) (B : BlkOk X scope cn fr js)
    (hγ : ∀ C s₀ H₀ fp pn, QG (X.blk (cn ++ (fr ++ [accN])) scope C s₀ H₀ fp pn) S tg γ) (hτt : ∀ C s₀ H₀ fp pn, QF (X.blk (cn ++ (fr ++ [accN])) scope C s₀ H₀ fp pn) ifs τt) (hτe : ∀ C s₀ H₀ fp pn, QE (X.blk (cn ++ (fr ++ [accN])) scope C s₀ H₀ fp pn) elt τe)
    (hacc : (accN, NameKind.free) ∉ scope.names := by decide +kernel) (hacc' : (accN, NameKind.local) ∉ scope.names := by decide +kernel) (hS : ∀ j ∈ S, j < cn.length := by decide) (hs : ∀ x, foldedSetIterable iter X.env x = pure x := by intro _; rfl) :
    QO X (.ListComp elt [⟨tg, iter, ifs, 0⟩] scope pos) (zCompD τ cn.length js γ τt τe) := by
  obtain ⟨t, ht, ks⟩ := hsrc
  exact q_comp (pi_dict ht) (src_dict ks) hc B hacc hacc' hS hγ hτt hτe hs
end
end L2

set_option maxHeartbeats 4000000
namespace Lk
open PySem L2
def top (i : Nat) : Stmt := PySem.Challenge.pw_linesaid_k20_an_exchanges_vector.main.body.getD i (.Pass ⟨0, 0, 0, 0⟩)
abbrev s__law_word_by : Stmt := top 11
theorem sc__law_word_by : FnScope ["_law_cell", "_law_letters", "_law_word", "_law_rest", "_law_k"] ["_law_cell"] (defScope s__law_word_by) := ⟨rfl, rfl, rfl, by decide +kernel, rfl, by decide +kernel, by decide +kernel⟩
abbrev s__law_cell_at : Stmt := top 9
theorem sc__law_cell_at : FnScope ["_law_script", "_law_k"] ["_law_script", "_law_k"] (defScope s__law_cell_at) := ⟨rfl, rfl, rfl, by decide +kernel, rfl, by decide +kernel, by decide +kernel⟩
abbrev s__law_number : Stmt := top 10
theorem sc__law_number : FnScope ["_law_script", "_law_k", "_law_x", "_law_total", "_law_j"] ["_law_script", "_law_k"] (defScope s__law_number) := ⟨rfl, rfl, rfl, by decide +kernel, rfl, by decide +kernel, by decide +kernel⟩
abbrev s__law_names : Stmt := top 12
theorem sc__law_names : FnScope ["_law_script", "_law_at", "_law_many", "_law_names_here", "_law_k", "_law_word"] ["_law_script", "_law_at", "_law_many"] (defScope s__law_names) := ⟨rfl, rfl, rfl, by decide +kernel, rfl, by decide +kernel, by decide +kernel⟩
abbrev s_triple : Stmt := top 1
theorem sc_triple : FnScope ["A", "B", "C"] ["A", "B", "C"] (defScope s_triple) := ⟨rfl, rfl, rfl, by decide +kernel, rfl, by decide +kernel, by decide +kernel⟩
abbrev s_spans_of : Stmt := top 7
theorem sc_spans_of : FnScope ["exchange", "a", "b", "c", "d", "e"] ["exchange"] (defScope s_spans_of) := ⟨rfl, rfl, rfl, by decide +kernel, rfl, by decide +kernel, by decide +kernel⟩
abbrev s_needs : Stmt := top 5
theorem sc_needs : FnScope ["exchange"] ["exchange"] (defScope s_needs) := ⟨rfl, rfl, rfl, by decide +kernel, rfl, by decide +kernel, by decide +kernel⟩
abbrev s_turn : Stmt := top 2
theorem sc_turn : FnScope ["A", "B", "C", "out_of_order"] ["A", "B", "C"] (defScope s_turn) := ⟨rfl, rfl, rfl, by decide +kernel, rfl, by decide +kernel, by decide +kernel⟩
abbrev s_vector : Stmt := top 6
theorem sc_vector : FnScope ["exchange", "four", "found", "turns"] ["exchange"] (defScope s_vector) := ⟨rfl, rfl, rfl, by decide +kernel, rfl, by decide +kernel, by decide +kernel⟩
abbrev s__law_minus : Stmt := top 18
theorem sc__law_minus : FnScope ["_law_one", "_law_other"] ["_law_one", "_law_other"] (defScope s__law_minus) := ⟨rfl, rfl, rfl, by decide +kernel, rfl, by decide +kernel, by decide +kernel⟩
abbrev s__law_span : Stmt := top 19
theorem sc__law_span : FnScope ["_law_places_here", "_law_row", "_law_one", "_law_other", "_law_third", "_law_x", "_law_y", "_law_u", "_law_v"] ["_law_places_here", "_law_row"] (defScope s__law_span) := ⟨rfl, rfl, rfl, by decide +kernel, rfl, by decide +kernel, by decide +kernel⟩
abbrev s__law_products : Stmt := top 23
theorem sc__law_products : FnScope ["_law_places_here", "_law_found", "_law_left", "_law_right", "_law_key", "_law_one"] ["_law_places_here", "_law_found"] (defScope s__law_products) := ⟨rfl, rfl, rfl, by decide +kernel, rfl, by decide +kernel, by decide +kernel⟩
abbrev s_rests_on : Stmt := top 4
theorem sc_rests_on : FnScope ["exchange"] ["exchange"] (defScope s_rests_on) := ⟨rfl, rfl, rfl, by decide +kernel, rfl, by decide +kernel, by decide +kernel⟩
abbrev s__law_triple : Stmt := top 13
theorem sc__law_triple : FnScope ["_law_one", "_law_other", "_law_third"] ["_law_one", "_law_other", "_law_third"] (defScope s__law_triple) := ⟨rfl, rfl, rfl, by decide +kernel, rfl, by decide +kernel, by decide +kernel⟩
abbrev s__law_share_by : Stmt := top 20
theorem sc__law_share_by : FnScope ["_law_cell"] ["_law_cell"] (defScope s__law_share_by) := ⟨rfl, rfl, rfl, by decide +kernel, rfl, by decide +kernel, by decide +kernel⟩
abbrev s__law_way : Stmt := top 21
theorem sc__law_way : FnScope ["_law_one", "_law_other", "_law_t", "_law_gap"] ["_law_one", "_law_other", "_law_t"] (defScope s__law_way) := ⟨rfl, rfl, rfl, by decide +kernel, rfl, by decide +kernel, by decide +kernel⟩
abbrev s__law_places : Stmt := top 22
theorem sc__law_places : FnScope ["_law_script", "_law_names_here", "_law_some", "_law_k", "_law_cell", "_law_t", "_law_third", "_law_places_here", "_law_place"] ["_law_script", "_law_names_here"] (defScope s__law_places) := ⟨rfl, rfl, rfl, by decide +kernel, rfl, by decide +kernel, by decide +kernel⟩
abbrev s__law_needs : Stmt := top 16
theorem sc__law_needs : FnScope ["_law_exchange", "_law_a", "_law_b", "_law_c", "_law_d", "_law_e"] ["_law_exchange"] (defScope s__law_needs) := ⟨rfl, rfl, rfl, by decide +kernel, rfl, by decide +kernel, by decide +kernel⟩
abbrev s__law_turn : Stmt := top 14
theorem sc__law_turn : FnScope ["_law_one", "_law_other", "_law_third", "_law_changes"] ["_law_one", "_law_other", "_law_third"] (defScope s__law_turn) := ⟨rfl, rfl, rfl, by decide +kernel, rfl, by decide +kernel, by decide +kernel⟩
abbrev s__law_vector : Stmt := top 17
theorem sc__law_vector : FnScope ["_law_exchange", "_law_a", "_law_b", "_law_c", "_law_d", "_law_e", "_law_found", "_law_k", "_law_key"] ["_law_exchange"] (defScope s__law_vector) := ⟨rfl, rfl, rfl, by decide +kernel, rfl, by decide +kernel, by decide +kernel⟩
abbrev s_law : Stmt := top 24
theorem sc_law : FnScope ["_law_script", "_law_names_here", "_law_exchange", "_law_wanted", "_law_found", "_law_left", "_law_right", "_law_sign"] ["_law_script"] (defScope s_law) := ⟨rfl, rfl, rfl, by decide +kernel, rfl, by decide +kernel, by decide +kernel⟩
/-! the laws' own helpers that draw numbers, words and names -/
section
variable {P : Program} {w : World} {K : PySem.W.Frag} {mg : Str → Option Value} {base : Heap} {f : Addr} {fd : FuncData}
def intsD (ns : List Int) : List PyData := ns.map PyData.int
theorem len_intsD (ns : List Int) : (intsD ns).length = ns.length := List.length_map _
def strsD (ss : List Str) : List PyData := ss.map PyData.str
theorem len_strsD (ss : List Str) : (strsD ss).length = ss.length := List.length_map _
theorem sz9 {i : Int} (h : i.natAbs < 2 ^ 64) : Sz 9000 i := Sz.mono (m := 64) h (by decide)
def phLaw : Phi := fun ds R _ => ∃ ns : List Int, ds = [.list (intsD ns)] ∧ ns.length ≤ 63 ∧ R (.val (.bool true))
def phCell : Phi := fun ds R _ => ∃ (ns : List Int) (k : Int), ds = [.list (intsD ns), .int k] ∧ 0 ≤ k ∧ ∀ v : Int, R (.val (.int v))
theorem ok__law_cell_at (F : Fun K "_law_cell_at" "_law_cell_at" s__law_cell_at f fd) (T : Bl mg)   :
    FnOk P w K mg base CX0 1 f fd ["_law_script", "_law_k"] (spP w K (phCell)) := by
  have sc := sc__law_cell_at
  refine F.okP sc__law_cell_at (fun ds C Z h => ?_) (fun cdv A outer s H E hr => ?_)
  · unfold phCell at h; first | (split at h <;> first | rfl | exact False.elim h) | (obtain ⟨rfl, _⟩ := h; rfl) | (obtain ⟨_, rfl, _⟩ := h; rfl) | (obtain ⟨_, _, rfl, _⟩ := h; rfl) | (obtain ⟨_, _, _, rfl, _⟩ := h; rfl) | (obtain ⟨_, _, _, _, rfl, _⟩ := h; rfl) | (obtain ⟨_, _, _, _, _, rfl, _⟩ := h; rfl) | (obtain ⟨_, _, _, _, _, _, rfl, _⟩ := h; rfl) | (obtain ⟨_, _, _, _, _, _, _, rfl, _⟩ := h; rfl) | (obtain ⟨_, _, _, _, _, _, _, _, rfl, _⟩ := h; rfl)
  refine ⟨_, (q_scons (q_if (q_tcmp o_lt (q_v 1) (q_callB c_len (by rfl) T.b_len PyProof.Rows.Boot.«len» (q_acons (q_v 0) q_anil)) (nomark _))
      (q_sone (q_ret (q_ix (q_v 0) (q_v 1) (fun _ _ => rfl))))
      q_snil)
    (q_sone (q_ret q_int))), fun ds C Z h => ?_⟩
  obtain ⟨ns, k, rfl, hk, q⟩ := h
  refine iteLt (fun c => ?_) (fun c => q 0)
  rw [len_intsD] at c
  have hk' : k.toNat < ns.length := by omega
  have e : k = ((k.toNat : Nat) : Int) := by omega
  obtain ⟨v, g⟩ : ∃ v : Int, atI (intsD ns) k = some (.int v) := by
    rw [e]
    exact ⟨ns[k.toNat], atI_nat (by unfold intsD; rw [List.getElem?_map, List.getElem?_eq_getElem hk'] <;> rfl)⟩
  exact optC_of g (q _)
def phNum : Phi := fun ds R _ => ∃ (ns : List Int) (k : Int), ds = [.list (intsD ns), .int k] ∧ 0 ≤ k ∧ ∀ v : Int, R (.val (.int v))
theorem ok__law_number (F : Fun K "_law_number" "_law_number" s__law_number f fd) (T : Bl mg)  (c__law_cell_at : Cal P w K mg base CX0 1 "_law_cell_at" ["_law_script", "_law_k"] (spP w K (phCell))) :
    FnOk P w K mg base CX0 2 f fd ["_law_script", "_law_k"] (spP w K (phNum)) := by
  have sc := sc__law_number
  refine F.okP sc__law_number (fun ds C Z h => ?_) (fun cdv A outer s H E hr => ?_)
  · unfold phNum at h; first | (split at h <;> first | rfl | exact False.elim h) | (obtain ⟨rfl, _⟩ := h; rfl) | (obtain ⟨_, rfl, _⟩ := h; rfl) | (obtain ⟨_, _, rfl, _⟩ := h; rfl) | (obtain ⟨_, _, _, rfl, _⟩ := h; rfl) | (obtain ⟨_, _, _, _, rfl, _⟩ := h; rfl) | (obtain ⟨_, _, _, _, _, rfl, _⟩ := h; rfl) | (obtain ⟨_, _, _, _, _, _, rfl, _⟩ := h; rfl) | (obtain ⟨_, _, _, _, _, _, _, rfl, _⟩ := h; rfl) | (obtain ⟨_, _, _, _, _, _, _, _, rfl, _⟩ := h; rfl)
  refine ⟨_, (q_scons (q_if (q_tcmp o_ge (q_callB c_abs (by rfl) T.b_abs PyProof.Rows.Boot.«abs» (q_acons (q_call c__law_cell_at (hr.mono (by decide)) (q_acons (q_v 0) (q_acons (q_v 1) q_anil))) q_anil)) (q_op o_pow q_int q_int) (nomark _))
      (q_sone (q_ret (q_call c__law_cell_at (hr.mono (by decide)) (q_acons (q_v 0) (q_acons (q_v 1) q_anil)))))
      q_snil)
    (q_scons (q_set 2 sc.nd (q_op o_add (q_op o_add (q_call c__law_cell_at (hr.mono (by decide)) (q_acons (q_v 0) (q_acons q_int q_anil))) (q_op o_mul q_int (q_v 1))) (q_op o_mul q_int (q_call c__law_cell_at (hr.mono (by decide)) (q_acons (q_v 0) (q_acons (q_v 1) q_anil))))))
    (q_scons (q_set 2 sc.nd (q_op o_add (q_op o_mod (q_v 2) q_int) q_int))
    (q_scons (q_set 3 sc.nd q_int)
    (q_scons (q_forR1 PassesOwn.never rfl (by rfl) T.b_range (q_acons q_int q_anil) (q_gn 4 sc.nd)
      (q_scons (q_set 2 sc.nd (q_op o_mod (q_op o_add (q_op o_add (q_op o_add (q_op o_mul (q_v 2) q_int) (q_op o_div (q_v 2) q_int)) (q_op o_mul (q_op o_mul q_int (q_v 4)) (q_v 4))) q_int) q_int))
    (q_sone (q_set 3 sc.nd (q_op o_add (q_op o_mul (q_v 3) q_int) (q_op o_mod (q_op o_mul (q_v 2) q_int) q_int))))))
    (q_sone (q_ret (q_v 3)))))))), fun ds C Z h => ?_⟩
  obtain ⟨ns, k, rfl, hk, q⟩ := h
  have pw : CPow 10 18 := ⟨by decide, by decide, by decide⟩
  refine ⟨ns, k, rfl, hk, fun v => ⟨pw, ?_⟩⟩
  refine iteLt (fun _ => ⟨ns, k, rfl, hk, fun v => q v⟩) (fun _ => ?_)
  refine ⟨ns, 0, rfl, by omega, fun v0 => ⟨CM.l (by decide) (by decide), ns, k, rfl, hk, fun v1 => ⟨CM.l (by decide) (by decide), ?_⟩⟩⟩
  refine ⟨(by decide), ?_⟩
  generalize (v0 + 6007 * k + 37 * v1) % 2147483563 + 29 = x0
  refine ⟨⟨by decide, by decide⟩, ?_⟩
  refine ⟨fun _ ev => ∃ (x t : Int) (s : Sl), ev = [.val (.list (intsD ns)), .val (.int k), .val (.int x), .val (.int t), s], ⟨_, _, _, rfl⟩, ?_, ?_⟩
  · rintro i ev hi ⟨x, t, s, rfl⟩
    have hi' : i < 9 := hi
    refine ⟨CM.r (by decide) (by decide), ⟨by decide, sz9 (by decide)⟩, CM.l (by decide) (by decide), CM.r (by omega) (by omega), (by decide), CM.r (by decide) (by decide), CM.r (by decide) (by decide), (by decide), ?_⟩
    exact ⟨_, _, _, rfl⟩
  · rintro ev ⟨x, t, s, rfl⟩
    exact q t
/-- a word: one to eight signs -/
def Wd (x : Str) : Prop := 1 ≤ x.length ∧ x.length ≤ 8 ∧ ∀ c ∈ x.cps.toList, 97 ≤ c ∧ c ≤ 122
def abc : Str := "abcdefghijklmnopqrstuvwxyz"
theorem abc_len : abc.length = 26 := by decide +kernel
theorem abc_in : ∀ c ∈ abc.cps.toList, 97 ≤ c ∧ c ≤ 122 := by decide +kernel
theorem abc_at {i : Int} (h0 : 0 ≤ i) (h1 : i < 26) : ∃ c, atI abc.cps.toList i = some c ∧ 97 ≤ c ∧ c ≤ 122 := by
  have e : i = ((i.toNat : Nat) : Int) := by omega
  have hl : i.toNat < abc.cps.toList.length := by
    rw [Array.length_toList]
    show i.toNat < abc.length
    rw [abc_len]
    omega
  rw [e]
  exact ⟨_, atI_nat (List.getElem?_eq_getElem hl), abc_in _ (List.getElem_mem hl)⟩
theorem str_app_len (x y : Str) : (x ++ y).length = x.length + y.length := by
  show (x.cps ++ y.cps).size = x.cps.size + y.cps.size
  exact Array.size_append
def phWord : Phi := fun ds R _ => ∃ c : Int, ds = [.int c] ∧ ∀ x : Str, Wd x → R (.val (.str x))
theorem ok__law_word_by (F : Fun K "_law_word_by" "_law_word_by" s__law_word_by f fd) (T : Bl mg)   :
    FnOk P w K mg base CX0 1 f fd ["_law_cell"] (spP w K (phWord)) := by
  have sc := sc__law_word_by
  refine F.okP sc__law_word_by (fun ds C Z h => ?_) (fun cdv A outer s H E hr => ?_)
  · unfold phWord at h; first | (split at h <;> first | rfl | exact False.elim h) | (obtain ⟨rfl, _⟩ := h; rfl) | (obtain ⟨_, rfl, _⟩ := h; rfl) | (obtain ⟨_, _, rfl, _⟩ := h; rfl) | (obtain ⟨_, _, _, rfl, _⟩ := h; rfl) | (obtain ⟨_, _, _, _, rfl, _⟩ := h; rfl) | (obtain ⟨_, _, _, _, _, rfl, _⟩ := h; rfl) | (obtain ⟨_, _, _, _, _, _, rfl, _⟩ := h; rfl) | (obtain ⟨_, _, _, _, _, _, _, rfl, _⟩ := h; rfl) | (obtain ⟨_, _, _, _, _, _, _, _, rfl, _⟩ := h; rfl)
  refine ⟨_, (q_scons (q_set 1 sc.nd q_str)
    (q_scons (q_set 2 sc.nd q_str)
    (q_scons (q_set 3 sc.nd (q_op o_div (q_v 0) q_int))
    (q_scons (q_forR1 PassesOwn.never rfl (by rfl) T.b_range (q_acons (q_op o_add q_int (q_op o_mod (q_v 0) q_int)) q_anil) (q_gn 4 sc.nd)
      (q_scons (q_set 2 sc.nd (q_op o_addS (q_v 2) (q_ix (q_v 1) (q_op o_mod (q_v 3) q_int) (fun _ _ => rfl))))
    (q_sone (q_set 3 sc.nd (q_op o_div (q_v 3) q_int)))))
    (q_sone (q_ret (q_v 2))))))), fun ds C Z h => ?_⟩
  obtain ⟨c, rfl, q⟩ := h
  refine ⟨⟨by decide, sz9 (by decide)⟩, (by decide), ⟨⟨by omega, by omega⟩, ?_⟩⟩
  refine ⟨fun i ev => ∃ (x : Str) (r : Int) (s : Sl), ev = [.val (.int c), .val (.str abc), .val (.str x), .val (.int r), s] ∧ x.length = i ∧ ∀ c ∈ x.cps.toList, 97 ≤ c ∧ c ≤ 122, ⟨_, _, _, rfl, rfl, fun c hc => nomatch hc⟩, ?_, ?_⟩
  · rintro i ev hi ⟨x, r, s, rfl, hx, hl⟩
    obtain ⟨ch, hc, hc1⟩ := abc_at (Int.emod_nonneg r (by decide)) (Int.emod_lt_of_pos r (by decide : (0 : Int) < 26))
    refine ⟨(by decide), ⟨by rw [abc_len]; decide, optC_of hc ⟨?_, ⟨by decide, sz9 (by decide)⟩, ?_⟩⟩⟩
    · rw [hx]
      show i + 1 ≤ sizeLine
      exact small1000 (by omega)
    · refine ⟨_, _, _, rfl, by rw [str_app_len, hx]; rfl, fun y hy => ?_⟩
      have hy' : y ∈ x.cps.toList ++ [ch] := by simpa using (show y ∈ (x.cps ++ #[ch]).toList from hy)
      rcases List.mem_append.mp hy' with z | z
      · exact hl y z
      · rw [List.mem_singleton.mp z]; exact hc1
  · rintro ev ⟨x, r, s, rfl, hx, hl⟩
    exact q x ⟨by omega, by omega, hl⟩
def phNames : Phi := fun ds R _ => ∃ (ns : List Int) (k : Int) (n : Nat), ds = [.list (intsD ns), .int k, .int (n : Nat)] ∧ 0 ≤ k ∧ n ≤ 20 ∧ ∀ ss : List Str, ss.Nodup → ss.length ≤ n → (∀ x ∈ ss, Wd x) → R (.own (.lst (strsD ss)))
theorem ok__law_names (F : Fun K "_law_names" "_law_names" s__law_names f fd) (T : Bl mg)  (c__law_word_by : Cal P w K mg base CX0 1 "_law_word_by" ["_law_cell"] (spP w K (phWord))) (c__law_number : Cal P w K mg base CX0 2 "_law_number" ["_law_script", "_law_k"] (spP w K (phNum))) :
    FnOk P w K mg base CX0 3 f fd ["_law_script", "_law_at", "_law_many"] (spP w K (phNames)) := by
  have sc := sc__law_names
  refine F.okP sc__law_names (fun ds C Z h => ?_) (fun cdv A outer s H E hr => ?_)
  · unfold phNames at h; first | (split at h <;> first | rfl | exact False.elim h) | (obtain ⟨rfl, _⟩ := h; rfl) | (obtain ⟨_, rfl, _⟩ := h; rfl) | (obtain ⟨_, _, rfl, _⟩ := h; rfl) | (obtain ⟨_, _, _, rfl, _⟩ := h; rfl) | (obtain ⟨_, _, _, _, rfl, _⟩ := h; rfl) | (obtain ⟨_, _, _, _, _, rfl, _⟩ := h; rfl) | (obtain ⟨_, _, _, _, _, _, rfl, _⟩ := h; rfl) | (obtain ⟨_, _, _, _, _, _, _, rfl, _⟩ := h; rfl) | (obtain ⟨_, _, _, _, _, _, _, _, rfl, _⟩ := h; rfl)
  refine ⟨_, (q_scons (q_setO 3 sc.nd (q_lst q_anil))
    (q_scons (q_forR1 PassesOwn.never rfl (by rfl) T.b_range (q_acons (q_v 2) q_anil) (q_gn 4 sc.nd)
      (q_scons (q_set 5 sc.nd (q_call c__law_word_by (hr.mono (by decide)) (q_acons (q_call c__law_number (hr.mono (by decide)) (q_acons (q_v 0) (q_acons (q_op o_add (q_v 1) (q_v 4)) q_anil))) q_anil)))
    (q_sone (q_if (q_lendT 3 (q_tcmp o_notInS (q_v 5) (q_v 3) (by rfl)))
      (q_sone (q_app 3 (q_v 5)))
      q_snil))))
    (q_sone (q_retO (q_m 3))))), fun ds C Z h => ?_⟩
  obtain ⟨ns, k, n, rfl, hk, hn, q⟩ := h
  refine ⟨(by show 0 ≤ sizeLine; decide), ⟨⟨by omega, by omega⟩, ?_⟩⟩
  refine ⟨fun i ev => ∃ (ss : List Str) (s s' : Sl), ev = [.val (.list (intsD ns)), .val (.int k), .val (.int (n : Nat)), .own (.lst (strsD ss)), s, s'] ∧ ss.Nodup ∧ ss.length ≤ i ∧ ∀ x ∈ ss, Wd x, ?_, ?_, ?_⟩
  · exact ⟨[], _, _, rfl, List.nodup_nil, Nat.le_refl _, fun x hx => nomatch hx⟩
  · rintro i ev hi ⟨ss, s, s', rfl, h1, h2, h3⟩
    refine ⟨ns, k + (0 + (i : Int)), rfl, by omega, fun v => ⟨v, rfl, fun x hx => ?_⟩⟩
    refine ⟨x, ss, rfl, rfl, rfl, ⟨trivial, trivial, trivial, trivial, trivial, trivial⟩, ?_⟩
    show if (!decide (x ∈ ss)) = true then _ else _
    refine iteNb (fun c => ?_) (fun c => ?_)
    · refine ⟨⟨_, rfl⟩, ?_, ?_⟩
      · rw [len_strsD]
        exact small1000 (by omega)
      · refine ⟨ss ++ [x], _, _, by rw [strsD, strsD, List.map_append]; rfl, ?_, by rw [List.length_append]; exact Nat.succ_le_succ h2, fun y hy => ?_⟩
        · rw [List.nodup_append]
          refine ⟨h1, by simp, fun a ha b hb => ?_⟩
          rw [List.mem_singleton.mp hb]
          rintro rfl
          exact c ha
        · rcases List.mem_append.mp hy with z | z
          · exact h3 y z
          · rw [List.mem_singleton.mp z]; exact hx
    · exact ⟨ss, _, _, rfl, h1, Nat.le_succ_of_le h2, h3⟩
  · rintro ev ⟨ss, s, s', rfl, h1, h2, h3⟩
    exact q ss h1 (by simpa using h2) h3
end

/-! triples, turns, needs, vectors: the law's own -/
section
theorem Wd.ok {x : Str} (h : Wd x) : PyData.strOk x = true := by
  unfold PyData.strOk
  rw [← Array.all_toList, List.all_eq_true]
  intro c hc
  have := h.2.2 c hc
  exact decide_eq_true (by omega)
theorem canLay_strs : ∀ {ss : List Str}, (∀ x ∈ ss, Wd x) → PyData.canLayAll0 (strsD ss) = true
  | [], _ => rfl
  | x :: ss, h => by
    show (PyData.canLay0 (.str x) && PyData.canLayAll0 (strsD ss)) = true
    rw [canLay_strs fun y hy => h y (List.mem_cons_of_mem _ hy), Bool.and_true]
    exact (h x List.mem_cons_self).ok
theorem depth_strs : ∀ ss : List Str, PyData.depthAll (strsD ss) = 0
  | [] => rfl
  | x :: ss => by
    show max (PyData.depth (.str x)) (PyData.depthAll (strsD ss)) = 0
    rw [depth_strs ss]
    rfl
theorem shaped_strs {ss : List Str} (h : ∀ x ∈ ss, Wd x) : SeqAt.shaped (.tuple (strsD ss)) = true := by
  show (PyData.canLay0 (.tuple (strsD ss)) && decide (PyData.depth (.tuple (strsD ss)) ≤ 64)) = true
  rw [show PyData.canLay0 (.tuple (strsD ss)) = PyData.canLayAll0 (strsD ss) by simp only [PyData.canLay0], canLay_strs h, Bool.true_and]
  refine decide_eq_true ?_
  show PyData.depthAll (strsD ss) + 1 ≤ 64
  rw [depth_strs]
  decide
/-- the key of a triple -/
def sK (ss : List Str) : List Key := ss.map Sum.inr
theorem kd_sK (ss : List Str) : kdD (.inr (sK ss)) = .tuple (strsD ss) := by
  show PyData.tuple ((ss.map Sum.inr).map keyD) = _
  rw [List.map_map]
  rfl
theorem sK_inj {a b : List Str} (h : sK a = sK b) : a = b := by
  unfold sK at h
  exact List.map_inj_right (fun x y e => Sum.inr.inj e) |>.mp h
theorem sK_ok (ss : List Str) : kOk (.inr (sK ss)) = true := by cases ss <;> rfl
def tK (x y z : Str) : List Str := Nm.srt [x, y, z]
theorem tK_ne {x y z x' y' z' : Str} (m : Str) (h : m ∈ [x, y, z]) (h' : m ∉ [x', y', z']) : tK x y z ≠ tK x' y' z' := fun e => h' ((Nm.perm_of_srt e).mem_iff.mp h)
theorem tK_len (x y z : Str) : (tK x y z).length = 3 := Nm.srt_len _
theorem tK_nil (x y z : Str) : tK x y z ≠ [] := fun e => by
  have := tK_len x y z
  rw [e] at this
  cases this
theorem tK_mem {x y z m : Str} (h : m ∈ tK x y z) : m ∈ [x, y, z] := (Nm.srt_perm _).mem_iff.mp h
/-- tables from triples (texts) to ints -/
abbrev Tab := List (List Str × Int)
def tabD (t : Tab) : List (KD × PyData) := t.map fun p => (Sum.inr (sK p.1), PyData.int p.2)
theorem tab_app (t : Tab) (p : List Str × Int) : tabD (t ++ [p]) = tabD t ++ [(Sum.inr (sK p.1), PyData.int p.2)] := by
  unfold tabD
  rw [List.map_append]
  rfl
theorem inr_sK {a b : List Str} (h : (Sum.inr (sK a) : KD) = Sum.inr (sK b)) : a = b := sK_inj (Sum.inr.inj h)
theorem ixD_no {t : Tab} {k : List Str} (h : ∀ p ∈ t, p.1 ≠ k) : ixD (tabD t) (.inr (sK k)) = none := by
  refine List.findIdx?_eq_none_iff.mpr fun kv hkv => ?_
  obtain ⟨p, hp, rfl⟩ := List.mem_map.mp hkv
  exact decide_eq_false fun e => h p hp (inr_sK e)
theorem put_new {t : Tab} {k : List Str} (v : Int) (h : ∀ p ∈ t, p.1 ≠ k) : putD (tabD t) (.inr (sK k)) (.int v) = tabD (t ++ [(k, v)]) := by
  unfold putD
  rw [ixD_no h, tab_app]
theorem modify_end {α : Type} (f : α → α) (x : α) : ∀ l : List α, (l ++ [x]).modify l.length f = l ++ [f x]
  | [] => rfl
  | y :: l => by
    show (y :: (l ++ [x])).modify (l.length + 1) f = _
    rw [List.modify_succ_cons, modify_end f x l]
    rfl
theorem put_last {t : Tab} {k : List Str} (u v : Int) (h : ∀ p ∈ t, p.1 ≠ k) : putD (tabD (t ++ [(k, u)])) (.inr (sK k)) (.int v) = tabD (t ++ [(k, v)]) := by
  have e : ixD (tabD (t ++ [(k, u)])) (.inr (sK k)) = some t.length := by
    rw [tab_app]
    unfold ixD
    rw [List.findIdx?_append, show List.findIdx? (fun kv : KD × PyData => decide (kv.1 = Sum.inr (sK k))) (tabD t) = none from ixD_no h]
    simp [tabD]
  unfold putD
  rw [e]
  show (tabD (t ++ [(k, u)])).modify t.length _ = _
  rw [tab_app, tab_app]
  have l : t.length = (tabD t).length := by unfold tabD; rw [List.length_map]
  rw [l, modify_end]
theorem val_tab {t : Tab} {k : List Str} {v : Int} (hn : (t.map (·.1)).Nodup) (h : (k, v) ∈ t) : valD (tabD t) (.inr (sK k)) = some (.int v) := by
  induction t with
  | nil => cases h
  | cons p t ih =>
    rw [List.map_cons, List.nodup_cons] at hn
    unfold valD tabD
    rw [List.map_cons]
    by_cases e : p.1 = k
    · rw [List.find?_cons_of_pos (by rw [e]; simp)]
      rcases List.mem_cons.mp h with z | z
      · rw [← z]; rfl
      · exact absurd (List.mem_map.mpr ⟨_, z, rfl⟩) (by rw [← e] at *; exact hn.1)
    · rw [List.find?_cons_of_neg (by simpa using fun z => e (inr_sK z))]
      rcases List.mem_cons.mp h with z | z
      · exact absurd (by rw [← z]) e
      · exact ih hn.2 z
theorem eq_tab {t t' : Tab} (hn : (t'.map (·.1)).Nodup) (hl : t.length = t'.length) (h : ∀ p ∈ t, p ∈ t') : eqDD (tabD t) (tabD t') = true := by
  unfold eqDD
  rw [show (tabD t).length = (tabD t').length by unfold tabD; rw [List.length_map, List.length_map, hl], beq_self_eq_true, Bool.true_and, List.all_eq_true]
  intro kv hkv
  obtain ⟨p, hp, rfl⟩ := List.mem_map.mp hkv
  unfold hitB
  rw [val_tab hn (h p hp)]
  show (p.2 == p.2) = true
  exact beq_self_eq_true _
theorem sh_tab (t : Tab) : shD (tabD t) := fun kv hkv => by
  obtain ⟨p, hp, rfl⟩ := List.mem_map.mp hkv
  rfl
theorem eqv_nil (ss : List Str) : PyData.eqv (.tuple (strsD ss)) (.tuple []) = decide (ss = []) := by
  cases ss with
  | nil => rfl
  | cons x r => rw [decide_eq_false (by simp)]; simp only [PyData.eqv, strsD, List.map_cons, PyData.eqvAll]
/-- turns -/
def inv (x y : Str) : Int := if decide (x.cps.toList < y.cps.toList) then 1 else 0
def tn (a b c : Str) : Int := if (inv b a + inv c a + inv c b) % 2 = 0 then 1 else -1
theorem tn_or (a b c : Str) : tn a b c = 1 ∨ tn a b c = -1 := by unfold tn; split <;> simp
def vec4 (a b c d e : Str) : Tab := [(tK a b d, 1), (tK a c e, 1), (tK a b e, -1), (tK a c d, -1)]
def odd4 (a b c d e : Str) : Bool := decide (tn a b d * tn a c e * tn a b e * tn a c d = -1)
def vec (a b c d e : Str) : Tab := vec4 a b c d e ++ if odd4 a b c d e then [([], 1)] else []
def Five (a b c d e : Str) : Prop := [a, b, c, d, e].Nodup ∧ ∀ x ∈ [a, b, c, d, e], Wd x
theorem five_ne {a b c d e : Str} (h : [a, b, c, d, e].Nodup) : a ≠ b ∧ a ≠ c ∧ a ≠ d ∧ a ≠ e ∧ b ≠ c ∧ b ≠ d ∧ b ≠ e ∧ c ≠ d ∧ c ≠ e ∧ d ≠ e := by
  simp only [List.nodup_cons, List.mem_cons, List.not_mem_nil, or_false, not_or] at h
  obtain ⟨⟨h1, h2, h3, h4⟩, ⟨h5, h6, h7⟩, ⟨h8, h9⟩, h10, _⟩ := h
  exact ⟨h1, h2, h3, h4, h5, h6, h7, h8, h9, h10⟩
theorem vec_keys {a b c d e : Str} (h : [a, b, c, d, e].Nodup) : tK a b d ≠ tK a c e ∧ tK a b d ≠ tK a b e ∧ tK a b d ≠ tK a c d ∧ tK a c e ≠ tK a b e ∧ tK a c e ≠ tK a c d ∧ tK a b e ≠ tK a c d := by
  obtain ⟨h1, h2, h3, h4, h5, h6, h7, h8, h9, h10⟩ := five_ne h
  have i : ∀ {x y : Str}, x ≠ y → y ≠ x := fun h => h.symm
  exact ⟨tK_ne b (by simp) (by simp [i h1, h5, h7]), tK_ne d (by simp) (by simp [i h3, i h6, h10]), tK_ne b (by simp) (by simp [i h1, h5, h6]), tK_ne c (by simp) (by simp [i h2, i h5, h9]), tK_ne e (by simp) (by simp [i h4, i h9, i h10]), tK_ne b (by simp) (by simp [i h1, h5, h6])⟩
theorem vec4_nodup {a b c d e : Str} (h : [a, b, c, d, e].Nodup) : ((vec4 a b c d e).map (·.1)).Nodup := by
  obtain ⟨h1, h2, h3, h4, h5, h6⟩ := vec_keys h
  simp [vec4, h1, h2, h3, h4, h5, h6]
theorem vec_nodup {a b c d e : Str} (h : [a, b, c, d, e].Nodup) : ((vec a b c d e).map (·.1)).Nodup := by
  unfold vec
  rw [List.map_append, List.nodup_append]
  refine ⟨vec4_nodup h, by split <;> simp, fun x hx y hy => ?_⟩
  have e : y = [] := by
    revert hy
    split
    · intro hy; simpa using hy
    · intro hy; cases hy
  subst e
  obtain ⟨p, hp, rfl⟩ := List.mem_map.mp hx
  simp only [vec4, List.mem_cons, List.not_mem_nil, or_false] at hp
  rcases hp with rfl | rfl | rfl | rfl <;> exact tK_nil _ _ _
end
section
variable {P : Program} {w : World} {K : PySem.W.Frag} {mg : Str → Option Value} {base : Heap} {f : Addr} {fd : FuncData}
def phTri : Phi := fun ds R _ => ∃ a b c : Str, ds = [.str a, .str b, .str c] ∧ R (.val (.tuple (strsD (tK a b c))))
theorem ok__law_triple (F : Fun K "_law_triple" "_law_triple" s__law_triple f fd) (T : Bl mg)   :
    FnOk P w K mg base CX0 1 f fd ["_law_one", "_law_other", "_law_third"] (spP w K (phTri)) := by
  have sc := sc__law_triple
  refine F.okP sc__law_triple (fun ds C Z h => ?_) (fun cdv A outer s H E hr => ?_)
  · unfold phTri at h; first | (split at h <;> first | rfl | exact False.elim h) | (obtain ⟨rfl, _⟩ := h; rfl) | (obtain ⟨_, rfl, _⟩ := h; rfl) | (obtain ⟨_, _, rfl, _⟩ := h; rfl) | (obtain ⟨_, _, _, rfl, _⟩ := h; rfl) | (obtain ⟨_, _, _, _, rfl, _⟩ := h; rfl) | (obtain ⟨_, _, _, _, _, rfl, _⟩ := h; rfl) | (obtain ⟨_, _, _, _, _, _, rfl, _⟩ := h; rfl) | (obtain ⟨_, _, _, _, _, _, _, rfl, _⟩ := h; rfl) | (obtain ⟨_, _, _, _, _, _, _, _, rfl, _⟩ := h; rfl)
  refine ⟨_, (q_sone (q_ret (q_callTy c_tuple (by rfl) T.b_tuple PyProof.Rows.Boot.«tuple» (q_acons (QO.qe (q_callBO c_sortedS (by rfl) T.b_sorted PyProof.Rows.Boot.«sorted» (q_acons (QO.qe (q_lst (q_acons (q_v 0) (q_acons (q_v 1) (q_acons (q_v 2) q_anil))))) q_anil))) q_anil)))), fun ds C Z h => ?_⟩
  obtain ⟨a, b, c, rfl, q⟩ := h
  refine ⟨(by show 3 ≤ sizeLine; decide), ⟨[a, b, c], rfl, (by show 3 < 64; decide), fun ss' hp hs => ?_⟩⟩
  rw [Nm.sorted_srt hp hs]
  exact q
def phTurn : Phi := fun ds R _ => ∃ a b c : Str, ds = [.str a, .str b, .str c] ∧ R (.val (.int (tn a b c)))
theorem ok__law_turn (F : Fun K "_law_turn" "_law_turn" s__law_turn f fd) (T : Bl mg)   :
    FnOk P w K mg base CX0 1 f fd ["_law_one", "_law_other", "_law_third"] (spP w K (phTurn)) := by
  have sc := sc__law_turn
  refine F.okP sc__law_turn (fun ds C Z h => ?_) (fun cdv A outer s H E hr => ?_)
  · unfold phTurn at h; first | (split at h <;> first | rfl | exact False.elim h) | (obtain ⟨rfl, _⟩ := h; rfl) | (obtain ⟨_, rfl, _⟩ := h; rfl) | (obtain ⟨_, _, rfl, _⟩ := h; rfl) | (obtain ⟨_, _, _, rfl, _⟩ := h; rfl) | (obtain ⟨_, _, _, _, rfl, _⟩ := h; rfl) | (obtain ⟨_, _, _, _, _, rfl, _⟩ := h; rfl) | (obtain ⟨_, _, _, _, _, _, rfl, _⟩ := h; rfl) | (obtain ⟨_, _, _, _, _, _, _, rfl, _⟩ := h; rfl) | (obtain ⟨_, _, _, _, _, _, _, _, rfl, _⟩ := h; rfl)
  refine ⟨_, (q_scons (q_set 3 sc.nd (q_op o_add (q_op o_add (q_callTy c_int (by rfl) T.b_int PyProof.Rows.Boot.«int» (q_acons (q_cmp o_ltS (q_v 1) (q_v 0) (nomark _)) q_anil)) (q_callTy c_int (by rfl) T.b_int PyProof.Rows.Boot.«int» (q_acons (q_cmp o_ltS (q_v 2) (q_v 0) (nomark _)) q_anil))) (q_callTy c_int (by rfl) T.b_int PyProof.Rows.Boot.«int» (q_acons (q_cmp o_ltS (q_v 2) (q_v 1) (nomark _)) q_anil))))
    (q_sone (q_ret (q_ix (QO.qe (q_lst (q_acons q_int (q_acons (q_neg q_int) q_anil)))) (q_op o_mod (q_v 3) q_int) (fun _ _ => rfl))))), fun ds C Z h => ?_⟩
  obtain ⟨a, b, c, rfl, q⟩ := h
  refine ⟨(by show 2 ≤ sizeLine; decide), (by decide), ?_⟩
  show optC (atI [PyData.int 1, PyData.int (-1)] ((inv b a + inv c a + inv c b) % 2)) _
  unfold tn at q
  rcases Int.emod_two_eq (inv b a + inv c a + inv c b) with z | z
  · rw [z]
    rw [z, if_pos rfl] at q
    exact q
  · rw [z]
    rw [z, if_neg (by decide)] at q
    exact q
def tD (x y z : Str) : PyData := .tuple (strsD (tK x y z))
def exD (a b c d e : Str) : PyData := .tuple (strsD [a, b, c, d, e])
def phNeeds : Phi := fun ds R _ => ∃ a b c d e : Str, ds = [exD a b c d e] ∧ R (.own (.lst [tD a b d, tD a c e, tD a b e, tD a c d]))
theorem ok__law_needs (F : Fun K "_law_needs" "_law_needs" s__law_needs f fd) (T : Bl mg)  (c__law_triple : Cal P w K mg base CX0 1 "_law_triple" ["_law_one", "_law_other", "_law_third"] (spP w K (phTri))) :
    FnOk P w K mg base CX0 2 f fd ["_law_exchange"] (spP w K (phNeeds)) := by
  have sc := sc__law_needs
  refine F.okP sc__law_needs (fun ds C Z h => ?_) (fun cdv A outer s H E hr => ?_)
  · unfold phNeeds at h; first | (split at h <;> first | rfl | exact False.elim h) | (obtain ⟨rfl, _⟩ := h; rfl) | (obtain ⟨_, rfl, _⟩ := h; rfl) | (obtain ⟨_, _, rfl, _⟩ := h; rfl) | (obtain ⟨_, _, _, rfl, _⟩ := h; rfl) | (obtain ⟨_, _, _, _, rfl, _⟩ := h; rfl) | (obtain ⟨_, _, _, _, _, rfl, _⟩ := h; rfl) | (obtain ⟨_, _, _, _, _, _, rfl, _⟩ := h; rfl) | (obtain ⟨_, _, _, _, _, _, _, rfl, _⟩ := h; rfl) | (obtain ⟨_, _, _, _, _, _, _, _, rfl, _⟩ := h; rfl)
  refine ⟨_, (q_scons (q_asg (q_v 0) (q_gtup (n := 5) rfl (q_gcons (q_gn 1 sc.nd) (q_gcons (q_gn 2 sc.nd) (q_gcons (q_gn 3 sc.nd) (q_gcons (q_gn 4 sc.nd) (q_gcons (q_gn 5 sc.nd) q_gnil)))))))
    (q_sone (q_retO (q_lst (q_acons (q_call c__law_triple (hr.mono (by decide)) (q_acons (q_v 1) (q_acons (q_v 2) (q_acons (q_v 4) q_anil)))) (q_acons (q_call c__law_triple (hr.mono (by decide)) (q_acons (q_v 1) (q_acons (q_v 3) (q_acons (q_v 5) q_anil)))) (q_acons (q_call c__law_triple (hr.mono (by decide)) (q_acons (q_v 1) (q_acons (q_v 2) (q_acons (q_v 5) q_anil)))) (q_acons (q_call c__law_triple (hr.mono (by decide)) (q_acons (q_v 1) (q_acons (q_v 3) (q_acons (q_v 4) q_anil)))) q_anil)))))))), fun ds C Z h => ?_⟩
  obtain ⟨a, b, c, d, e, rfl, q⟩ := h
  refine ⟨rfl, ?_⟩
  exact ⟨a, b, d, rfl, a, c, e, rfl, a, b, e, rfl, a, c, d, rfl, (by show 4 ≤ sizeLine; decide), q⟩
def phVec : Phi := fun ds R _ => ∃ a b c d e : Str, ds = [exD a b c d e] ∧ Five a b c d e ∧ R (.own (.dct (tabD (vec a b c d e))))
theorem ok__law_vector (F : Fun K "_law_vector" "_law_vector" s__law_vector f fd) (T : Bl mg)  (c__law_needs : Cal P w K mg base CX0 2 "_law_needs" ["_law_exchange"] (spP w K (phNeeds))) (c__law_turn : Cal P w K mg base CX0 1 "_law_turn" ["_law_one", "_law_other", "_law_third"] (spP w K (phTurn))) :
    FnOk P w K mg base CX0 3 f fd ["_law_exchange"] (spP w K (phVec)) := by
  have sc := sc__law_vector
  refine F.okP sc__law_vector (fun ds C Z h => ?_) (fun cdv A outer s H E hr => ?_)
  · unfold phVec at h; first | (split at h <;> first | rfl | exact False.elim h) | (obtain ⟨rfl, _⟩ := h; rfl) | (obtain ⟨_, rfl, _⟩ := h; rfl) | (obtain ⟨_, _, rfl, _⟩ := h; rfl) | (obtain ⟨_, _, _, rfl, _⟩ := h; rfl) | (obtain ⟨_, _, _, _, rfl, _⟩ := h; rfl) | (obtain ⟨_, _, _, _, _, rfl, _⟩ := h; rfl) | (obtain ⟨_, _, _, _, _, _, rfl, _⟩ := h; rfl) | (obtain ⟨_, _, _, _, _, _, _, rfl, _⟩ := h; rfl) | (obtain ⟨_, _, _, _, _, _, _, _, rfl, _⟩ := h; rfl)
  refine ⟨_, (q_scons (q_asg (q_v 0) (q_gtup (n := 5) rfl (q_gcons (q_gn 1 sc.nd) (q_gcons (q_gn 2 sc.nd) (q_gcons (q_gn 3 sc.nd) (q_gcons (q_gn 4 sc.nd) (q_gcons (q_gn 5 sc.nd) q_gnil)))))))
    (q_scons (q_setO 6 sc.nd q_dnew)
    (q_scons (q_forE PassesOwn.never rfl (by rfl) T.b_enumerate (q_call c__law_needs (hr.mono (by decide)) (q_acons (q_v 0) q_anil)) (q_gtup (n := 2) rfl (q_gcons (q_gn 7 sc.nd) (q_gcons (q_gn 8 sc.nd) q_gnil)))
      (q_sone (q_dput 6 hr (q_ix (QO.qe (q_lst (q_acons q_int (q_acons q_int (q_acons (q_neg q_int) (q_acons (q_neg q_int) q_anil)))))) (q_v 7) (fun _ _ => rfl)) (q_v 8))))
    (q_scons (q_if (q_tcmp o_eq (q_op o_mul (q_op o_mul (q_op o_mul (q_call c__law_turn (hr.mono (by decide)) (q_acons (q_v 1) (q_acons (q_v 2) (q_acons (q_v 4) q_anil)))) (q_call c__law_turn (hr.mono (by decide)) (q_acons (q_v 1) (q_acons (q_v 3) (q_acons (q_v 5) q_anil))))) (q_call c__law_turn (hr.mono (by decide)) (q_acons (q_v 1) (q_acons (q_v 2) (q_acons (q_v 5) q_anil))))) (q_call c__law_turn (hr.mono (by decide)) (q_acons (q_v 1) (q_acons (q_v 3) (q_acons (q_v 4) q_anil))))) (q_neg q_int) (nomark _))
      (q_sone (q_dput 6 hr q_int (q_tup q_anil)))
      q_snil)
    (q_sone (q_retO (q_m 6))))))), fun ds C Z h => ?_⟩
  obtain ⟨a, b, c, d, e, rfl, h5, q⟩ := h
  refine ⟨rfl, ?_⟩
  refine ⟨a, b, c, d, e, rfl, ?_⟩
  refine ⟨fun i ev => ∃ s s' : Sl, ev = [.val (exD a b c d e), .val (.str a), .val (.str b), .val (.str c), .val (.str d), .val (.str e), .own (.dct (tabD ((vec4 a b c d e).take i))), s, s'], ⟨_, _, rfl⟩, ?_, ?_⟩
  · rintro i x ev hx ⟨s, s', rfl⟩
    obtain ⟨h1, h2, h3, h4, h5', h6⟩ := vec_keys h5.1
    have hi : i < 4 := (List.getElem?_eq_some_iff.mp hx).1
    have step : ∀ (n : Nat) (k : List Str) (v : Int), (vec4 a b c d e)[n]? = some (k, v) → (∀ p ∈ (vec4 a b c d e).take n, p.1 ≠ k) → putD (tabD ((vec4 a b c d e).take n)) (.inr (sK k)) (.int v) = tabD ((vec4 a b c d e).take (n + 1)) := fun n k v e1 e2 => by
      rw [put_new v e2, List.take_add_one, e1]
      rfl
    have ln : ∀ n, (tabD ((vec4 a b c d e).take n)).length < sizeLine := fun n => by
      unfold tabD
      rw [List.length_map, List.length_take]
      exact small1000 (by show min n 4 ≤ 1000; omega)
    match i, hi, hx with
    | 0, _, hx =>
      cases hx
      exact ⟨rfl, (by show 4 ≤ sizeLine; decide), ⟨_, rfl⟩, _, .inr (sK (tK a b d)), rfl, (kd_sK _).symm, sK_ok _, ln 0, _, _, by rw [step 0 _ _ rfl (by simp)]; rfl⟩
    | 1, _, hx =>
      cases hx
      exact ⟨rfl, (by show 4 ≤ sizeLine; decide), ⟨_, rfl⟩, _, .inr (sK (tK a c e)), rfl, (kd_sK _).symm, sK_ok _, ln 1, _, _, by rw [step 1 _ _ rfl (by simp [vec4, h1])]; rfl⟩
    | 2, _, hx =>
      cases hx
      exact ⟨rfl, (by show 4 ≤ sizeLine; decide), ⟨_, rfl⟩, _, .inr (sK (tK a b e)), rfl, (kd_sK _).symm, sK_ok _, ln 2, _, _, by rw [step 2 _ _ rfl (by simp [vec4, h2, h4])]; rfl⟩
    | 3, _, hx =>
      cases hx
      exact ⟨rfl, (by show 4 ≤ sizeLine; decide), ⟨_, rfl⟩, _, .inr (sK (tK a c d)), rfl, (kd_sK _).symm, sK_ok _, ln 3, _, _, by rw [step 3 _ _ rfl (by simp [vec4, h3, h5', h6])]; rfl⟩
  · rintro ev ⟨s, s', rfl⟩
    have cm : ∀ (i : Int) (x y z : Str), CM i (tn x y z) := fun i x y z => by
      rcases tn_or x y z with z | z <;> rw [z] <;> exact CM.r (by decide) (by decide)
    refine ⟨a, b, d, rfl, a, c, e, rfl, cm _ _ _ _, a, b, e, rfl, cm _ _ _ _, a, c, d, rfl, cm _ _ _ _, ?_⟩
    refine iteLt (fun c1 => ?_) (fun c1 => ?_)
    · have e1 : vec a b c d e = vec4 a b c d e ++ [([], 1)] := by unfold vec odd4; rw [decide_eq_true c1]; rfl
      rw [e1] at q
      refine ⟨⟨_, rfl⟩, (by show 0 ≤ sizeLine; decide), _, .inr (sK []), rfl, rfl, rfl, (by show 4 < sizeLine; decide), ?_⟩
      have e2 : putD (tabD ((vec4 a b c d e).take 4)) (.inr (sK [])) (.int 1) = tabD (vec4 a b c d e ++ [([], 1)]) := put_new (t := vec4 a b c d e) (k := []) 1 (by simp [vec4, tK_nil])
      rw [← e2] at q
      exact q
    · have e1 : vec a b c d e = vec4 a b c d e := by unfold vec odd4; rw [decide_eq_false c1]; simp
      rw [e1] at q
      exact q
end

/-! the program's exchanges -/
section
variable {P : Program} {w : World} {K : PySem.W.Frag} {mg : Str → Option Value} {base : Heap} {f : Addr} {fd : FuncData}
theorem ok_triple (F : Fun K "triple" "triple" s_triple f fd) (T : Bl mg)   :
    FnOk P w K mg base CX0 1 f fd ["A", "B", "C"] (spP w K (phTri)) := by
  have sc := sc_triple
  refine F.okP sc_triple (fun ds C Z h => ?_) (fun cdv A outer s H E hr => ?_)
  · unfold phTri at h; first | (split at h <;> first | rfl | exact False.elim h) | (obtain ⟨rfl, _⟩ := h; rfl) | (obtain ⟨_, rfl, _⟩ := h; rfl) | (obtain ⟨_, _, rfl, _⟩ := h; rfl) | (obtain ⟨_, _, _, rfl, _⟩ := h; rfl) | (obtain ⟨_, _, _, _, rfl, _⟩ := h; rfl) | (obtain ⟨_, _, _, _, _, rfl, _⟩ := h; rfl) | (obtain ⟨_, _, _, _, _, _, rfl, _⟩ := h; rfl) | (obtain ⟨_, _, _, _, _, _, _, rfl, _⟩ := h; rfl) | (obtain ⟨_, _, _, _, _, _, _, _, rfl, _⟩ := h; rfl)
  refine ⟨_, (q_sone (q_ret (q_callTy c_tuple (by rfl) T.b_tuple PyProof.Rows.Boot.«tuple» (q_acons (QO.qe (q_callBO c_sortedS (by rfl) T.b_sorted PyProof.Rows.Boot.«sorted» (q_acons (QO.qe (q_lst (q_acons (q_v 0) (q_acons (q_v 1) (q_acons (q_v 2) q_anil))))) q_anil))) q_anil)))), fun ds C Z h => ?_⟩
  obtain ⟨a, b, c, rfl, q⟩ := h
  refine ⟨(by show 3 ≤ sizeLine; decide), ⟨[a, b, c], rfl, (by show 3 < 64; decide), fun ss' hp hs => ?_⟩⟩
  rw [Nm.sorted_srt hp hs]
  exact q
theorem count3 (a b c : Str) : ((([decide (b.cps.toList < a.cps.toList), decide (c.cps.toList < a.cps.toList), decide (c.cps.toList < b.cps.toList)] : List Bool).count true : Nat) : Int) = inv b a + inv c a + inv c b := by
  unfold inv
  cases decide (b.cps.toList < a.cps.toList) <;> cases decide (c.cps.toList < a.cps.toList) <;> cases decide (c.cps.toList < b.cps.toList) <;> rfl
theorem ok_turn (F : Fun K "turn" "turn" s_turn f fd) (T : Bl mg)   :
    FnOk P w K mg base CX0 1 f fd ["A", "B", "C"] (spP w K (phTurn)) := by
  have sc := sc_turn
  refine F.okP sc_turn (fun ds C Z h => ?_) (fun cdv A outer s H E hr => ?_)
  · unfold phTurn at h; first | (split at h <;> first | rfl | exact False.elim h) | (obtain ⟨rfl, _⟩ := h; rfl) | (obtain ⟨_, rfl, _⟩ := h; rfl) | (obtain ⟨_, _, rfl, _⟩ := h; rfl) | (obtain ⟨_, _, _, rfl, _⟩ := h; rfl) | (obtain ⟨_, _, _, _, rfl, _⟩ := h; rfl) | (obtain ⟨_, _, _, _, _, rfl, _⟩ := h; rfl) | (obtain ⟨_, _, _, _, _, _, rfl, _⟩ := h; rfl) | (obtain ⟨_, _, _, _, _, _, _, rfl, _⟩ := h; rfl) | (obtain ⟨_, _, _, _, _, _, _, _, rfl, _⟩ := h; rfl)
  refine ⟨_, (q_scons (q_set 3 sc.nd (q_cntB (QO.qe (q_lst (q_acons (q_cmp o_gtS (q_v 0) (q_v 1) (nomark _)) (q_acons (q_cmp o_gtS (q_v 0) (q_v 2) (nomark _)) (q_acons (q_cmp o_gtS (q_v 1) (q_v 2) (nomark _)) q_anil))))) q_bl))
    (q_sone (q_ret (q_ifE (q_tcmp o_eq (q_op o_mod (q_v 3) q_int) q_int (nomark _)) q_int (q_neg q_int))))), fun ds C Z h => ?_⟩
  obtain ⟨a, b, c, rfl, q⟩ := h
  refine ⟨(by show 3 ≤ sizeLine; decide), [decide (b.cps.toList < a.cps.toList), decide (c.cps.toList < a.cps.toList), decide (c.cps.toList < b.cps.toList)], rfl, (by decide), ?_⟩
  rw [count3]
  unfold tn at q
  refine iteLt (fun c1 => ?_) (fun c1 => ?_)
  · rw [if_pos c1] at q
    exact q
  · rw [if_neg c1] at q
    exact q
def phRests : Phi := fun ds R _ => ∃ a b c d e : Str, ds = [exD a b c d e] ∧ R (.val (tD a b c))
theorem ok_rests_on (F : Fun K "rests_on" "rests_on" s_rests_on f fd) (T : Bl mg)  (c_triple : Cal P w K mg base CX0 1 "triple" ["A", "B", "C"] (spP w K (phTri))) :
    FnOk P w K mg base CX0 2 f fd ["exchange"] (spP w K (phRests)) := by
  have sc := sc_rests_on
  refine F.okP sc_rests_on (fun ds C Z h => ?_) (fun cdv A outer s H E hr => ?_)
  · unfold phRests at h; first | (split at h <;> first | rfl | exact False.elim h) | (obtain ⟨rfl, _⟩ := h; rfl) | (obtain ⟨_, rfl, _⟩ := h; rfl) | (obtain ⟨_, _, rfl, _⟩ := h; rfl) | (obtain ⟨_, _, _, rfl, _⟩ := h; rfl) | (obtain ⟨_, _, _, _, rfl, _⟩ := h; rfl) | (obtain ⟨_, _, _, _, _, rfl, _⟩ := h; rfl) | (obtain ⟨_, _, _, _, _, _, rfl, _⟩ := h; rfl) | (obtain ⟨_, _, _, _, _, _, _, rfl, _⟩ := h; rfl) | (obtain ⟨_, _, _, _, _, _, _, _, rfl, _⟩ := h; rfl)
  refine ⟨_, (q_sone (q_ret (q_call c_triple (hr.mono (by decide)) (q_acons (q_ix (q_v 0) q_int (fun _ _ => rfl)) (q_acons (q_ix (q_v 0) q_int (fun _ _ => rfl)) (q_acons (q_ix (q_v 0) q_int (fun _ _ => rfl)) q_anil)))))), fun ds C Z h => ?_⟩
  obtain ⟨a, b, c, d, e, rfl, q⟩ := h
  exact ⟨a, b, c, rfl, q⟩
def spD (x y z : Str) : PyData := .tuple (strsD [x, y, z])
def phSpans : Phi := fun ds R _ => ∃ a b c d e : Str, ds = [exD a b c d e] ∧ R (.own (.lst [spD a b d, spD a c e, spD a b e, spD a c d]))
theorem ok_spans_of (F : Fun K "spans_of" "spans_of" s_spans_of f fd) (T : Bl mg)   :
    FnOk P w K mg base CX0 1 f fd ["exchange"] (spP w K (phSpans)) := by
  have sc := sc_spans_of
  refine F.okP sc_spans_of (fun ds C Z h => ?_) (fun cdv A outer s H E hr => ?_)
  · unfold phSpans at h; first | (split at h <;> first | rfl | exact False.elim h) | (obtain ⟨rfl, _⟩ := h; rfl) | (obtain ⟨_, rfl, _⟩ := h; rfl) | (obtain ⟨_, _, rfl, _⟩ := h; rfl) | (obtain ⟨_, _, _, rfl, _⟩ := h; rfl) | (obtain ⟨_, _, _, _, rfl, _⟩ := h; rfl) | (obtain ⟨_, _, _, _, _, rfl, _⟩ := h; rfl) | (obtain ⟨_, _, _, _, _, _, rfl, _⟩ := h; rfl) | (obtain ⟨_, _, _, _, _, _, _, rfl, _⟩ := h; rfl) | (obtain ⟨_, _, _, _, _, _, _, _, rfl, _⟩ := h; rfl)
  refine ⟨_, (q_scons (q_set 1 sc.nd (q_ix (q_v 0) q_int (fun _ _ => rfl)))
    (q_scons (q_set 2 sc.nd (q_ix (q_v 0) q_int (fun _ _ => rfl)))
    (q_scons (q_set 3 sc.nd (q_ix (q_v 0) q_int (fun _ _ => rfl)))
    (q_scons (q_set 4 sc.nd (q_ix (q_v 0) q_int (fun _ _ => rfl)))
    (q_scons (q_set 5 sc.nd (q_ix (q_v 0) q_int (fun _ _ => rfl)))
    (q_sone (q_retO (q_lst (q_acons (q_tup (q_acons (q_v 1) (q_acons (q_v 2) (q_acons (q_v 4) q_anil)))) (q_acons (q_tup (q_acons (q_v 1) (q_acons (q_v 3) (q_acons (q_v 5) q_anil)))) (q_acons (q_tup (q_acons (q_v 1) (q_acons (q_v 2) (q_acons (q_v 5) q_anil)))) (q_acons (q_tup (q_acons (q_v 1) (q_acons (q_v 3) (q_acons (q_v 4) q_anil)))) q_anil)))))))))))), fun ds C Z h => ?_⟩
  obtain ⟨a, b, c, d, e, rfl, q⟩ := h
  exact ⟨(by show 3 ≤ sizeLine; decide), (by show 3 ≤ sizeLine; decide), (by show 3 ≤ sizeLine; decide), (by show 3 ≤ sizeLine; decide), (by show 4 ≤ sizeLine; decide), q⟩
theorem ok_needs (F : Fun K "needs" "needs" s_needs f fd) (T : Bl mg)  (c_triple : Cal P w K mg base CX0 1 "triple" ["A", "B", "C"] (spP w K (phTri))) (c_spans_of : Cal P w K mg base CX0 1 "spans_of" ["exchange"] (spP w K (phSpans))) :
    FnOk P w K mg base CX0 2 f fd ["exchange"] (spP w K (phNeeds)) := by
  have sc := sc_needs
  refine F.okP sc_needs (fun ds C Z h => ?_) (fun cdv A outer s H E hr => ?_)
  · unfold phNeeds at h; first | (split at h <;> first | rfl | exact False.elim h) | (obtain ⟨rfl, _⟩ := h; rfl) | (obtain ⟨_, rfl, _⟩ := h; rfl) | (obtain ⟨_, _, rfl, _⟩ := h; rfl) | (obtain ⟨_, _, _, rfl, _⟩ := h; rfl) | (obtain ⟨_, _, _, _, rfl, _⟩ := h; rfl) | (obtain ⟨_, _, _, _, _, rfl, _⟩ := h; rfl) | (obtain ⟨_, _, _, _, _, _, rfl, _⟩ := h; rfl) | (obtain ⟨_, _, _, _, _, _, _, rfl, _⟩ := h; rfl) | (obtain ⟨_, _, _, _, _, _, _, _, rfl, _⟩ := h; rfl)
  refine ⟨_, (q_sone (q_retO (q_compL (cn := ["three"]) (fr := []) (js := []) (q_call c_spans_of (hr.mono (by decide)) (q_acons (q_v 0) q_anil)) rfl BlkOk.of
        (fun _ _ _ _ _ => (q_gn 0 (show ((["three"] : List Str) ++ (([] : List Str) ++ [accN])).Nodup by decide +kernel))) (fun _ _ _ _ _ => q_f0) (fun _ _ _ _ _ => (q_call c_triple (hr.mono (by decide)) (q_acons (q_ix (q_v 0) q_int (fun _ _ => rfl)) (q_acons (q_ix (q_v 0) q_int (fun _ _ => rfl)) (q_acons (q_ix (q_v 0) q_int (fun _ _ => rfl)) q_anil)))))))), fun ds C Z h => ?_⟩
  obtain ⟨a, b, c, d, e, rfl, q⟩ := h
  refine ⟨a, b, c, d, e, rfl, ?_⟩
  refine ⟨fun i acc => acc = [tD a b d, tD a c e, tD a b e, tD a c d].take i, rfl, ?_, ?_⟩
  · rintro i x acc hx rfl
    have hi : i < 4 := (List.getElem?_eq_some_iff.mp hx).1
    match i, hi, hx with
    | 0, _, hx => cases hx; exact ⟨a, b, d, rfl, rfl, (by show 0 < sizeLine; decide), rfl⟩
    | 1, _, hx => cases hx; exact ⟨a, c, e, rfl, rfl, (by show 1 < sizeLine; decide), rfl⟩
    | 2, _, hx => cases hx; exact ⟨a, b, e, rfl, rfl, (by show 2 < sizeLine; decide), rfl⟩
    | 3, _, hx => cases hx; exact ⟨a, c, d, rfl, rfl, (by show 3 < sizeLine; decide), rfl⟩
  · rintro acc rfl
    exact q
theorem odd_count (a b c d e : Str) : ((([tn a b d, tn a c e, tn a b e, tn a c d] : List Int).count (-1) : Nat) : Int) % 2 = 1 ↔ tn a b d * tn a c e * tn a b e * tn a c d = -1 := by
  rcases tn_or a b d with h1 | h1 <;> rcases tn_or a c e with h2 | h2 <;> rcases tn_or a b e with h3 | h3 <;> rcases tn_or a c d with h4 | h4 <;> rw [h1, h2, h3, h4] <;> decide
theorem puts4 {a b c d e : Str} (h : [a, b, c, d, e].Nodup) : putsD [] [(.inr (sK (tK a b d)), .int 1), (.inr (sK (tK a c e)), .int 1), (.inr (sK (tK a b e)), .int (-1)), (.inr (sK (tK a c d)), .int (-1))] = tabD (vec4 a b c d e) := by
  obtain ⟨h1, h2, h3, h4, h5, h6⟩ := vec_keys h
  show putD (putD (putD (putD (tabD []) (.inr (sK (tK a b d))) (.int 1)) (.inr (sK (tK a c e))) (.int 1)) (.inr (sK (tK a b e))) (.int (-1))) (.inr (sK (tK a c d))) (.int (-1)) = _
  rw [put_new (t := []) 1 (by simp), put_new 1 (by simp [h1]), put_new (-1) (by simp [h2, h4]), put_new (-1) (by simp [h3, h5, h6])]
  rfl
theorem ok_vector (F : Fun K "vector" "vector" s_vector f fd) (T : Bl mg)  (c_needs : Cal P w K mg base CX0 2 "needs" ["exchange"] (spP w K (phNeeds))) (c_turn : Cal P w K mg base CX0 1 "turn" ["A", "B", "C"] (spP w K (phTurn))) (c_spans_of : Cal P w K mg base CX0 1 "spans_of" ["exchange"] (spP w K (phSpans))) :
    FnOk P w K mg base CX0 3 f fd ["exchange"] (spP w K (phVec)) := by
  have sc := sc_vector
  refine F.okP sc_vector (fun ds C Z h => ?_) (fun cdv A outer s H E hr => ?_)
  · unfold phVec at h; first | (split at h <;> first | rfl | exact False.elim h) | (obtain ⟨rfl, _⟩ := h; rfl) | (obtain ⟨_, rfl, _⟩ := h; rfl) | (obtain ⟨_, _, rfl, _⟩ := h; rfl) | (obtain ⟨_, _, _, rfl, _⟩ := h; rfl) | (obtain ⟨_, _, _, _, rfl, _⟩ := h; rfl) | (obtain ⟨_, _, _, _, _, rfl, _⟩ := h; rfl) | (obtain ⟨_, _, _, _, _, _, rfl, _⟩ := h; rfl) | (obtain ⟨_, _, _, _, _, _, _, rfl, _⟩ := h; rfl) | (obtain ⟨_, _, _, _, _, _, _, _, rfl, _⟩ := h; rfl)
  refine ⟨_, (q_scons (q_set 1 sc.nd (q_call c_needs (hr.mono (by decide)) (q_acons (q_v 0) q_anil)))
    (q_scons (q_setO 2 sc.nd (q_disp hr (q_dc (q_ix (q_v 1) q_int (fun _ _ => rfl)) q_int (q_dc (q_ix (q_v 1) q_int (fun _ _ => rfl)) q_int (q_dc (q_ix (q_v 1) q_int (fun _ _ => rfl)) (q_neg q_int) (q_dc (q_ix (q_v 1) q_int (fun _ _ => rfl)) (q_neg q_int) q_dn))))))
    (q_scons (q_setCompL 3 sc.nd (cn := ["three"]) (fr := []) (js := []) (q_call c_spans_of (hr.mono (by decide)) (q_acons (q_v 0) q_anil)) rfl BlkOk.of
        (fun _ _ _ _ _ => (q_gn 0 (show ((["three"] : List Str) ++ (([] : List Str) ++ [accN])).Nodup by decide +kernel))) (fun _ _ _ _ _ => q_f0) (fun _ _ _ _ _ => (q_call c_turn (hr.mono (by decide)) (q_acons (q_ix (q_v 0) q_int (fun _ _ => rfl)) (q_acons (q_ix (q_v 0) q_int (fun _ _ => rfl)) (q_acons (q_ix (q_v 0) q_int (fun _ _ => rfl)) q_anil))))))
    (q_scons (q_if (q_tcmp o_eq (q_op o_mod (q_cntI (q_f 3) (q_neg q_int)) q_int) q_int (nomark _))
      (q_sone (q_dput 2 hr q_int (q_tup q_anil)))
      q_snil)
    (q_sone (q_retO (q_m 2))))))), fun ds C Z h => ?_⟩
  obtain ⟨a, b, c, d, e, rfl, h5, q⟩ := h
  refine ⟨a, b, c, d, e, rfl, ?_⟩
  refine ⟨.inr (sK (tK a c d)), (kd_sK _).symm, sK_ok _, .inr (sK (tK a b e)), (kd_sK _).symm, sK_ok _, .inr (sK (tK a c e)), (kd_sK _).symm, sK_ok _, .inr (sK (tK a b d)), (kd_sK _).symm, sK_ok _, rfl, (by show 4 ≤ 15; decide), ?_, ⟨trivial, trivial, trivial, trivial, trivial⟩, ?_⟩
  · intro kv hkv
    simp only [List.mem_cons, List.not_mem_nil, or_false] at hkv
    rcases hkv with rfl | rfl | rfl | rfl <;> exact .int _
  rw [puts4 h5.1]
  refine ⟨a, b, c, d, e, rfl, ?_⟩
  refine ⟨fun i acc => acc = intsD ([tn a b d, tn a c e, tn a b e, tn a c d].take i), rfl, ?_, ?_⟩
  · rintro i x acc hx rfl
    have hi : i < 4 := (List.getElem?_eq_some_iff.mp hx).1
    match i, hi, hx with
    | 0, _, hx => cases hx; exact ⟨a, b, d, rfl, rfl, (by show 0 < sizeLine; decide), rfl⟩
    | 1, _, hx => cases hx; exact ⟨a, c, e, rfl, rfl, (by show 1 < sizeLine; decide), rfl⟩
    | 2, _, hx => cases hx; exact ⟨a, b, e, rfl, rfl, (by show 2 < sizeLine; decide), rfl⟩
    | 3, _, hx => cases hx; exact ⟨a, c, d, rfl, rfl, (by show 3 < sizeLine; decide), rfl⟩
  · rintro acc rfl
    refine ⟨[tn a b d, tn a c e, tn a b e, tn a c d], rfl, (by decide), ?_⟩
    refine iteLt (fun c1 => ?_) (fun c1 => ?_)
    · have c2 := (odd_count a b c d e).mp c1
      have e1 : vec a b c d e = vec4 a b c d e ++ [([], 1)] := by unfold vec odd4; rw [decide_eq_true c2]; rfl
      rw [e1] at q
      refine ⟨⟨_, rfl⟩, (by show 0 ≤ sizeLine; decide), _, .inr (sK []), rfl, rfl, rfl, (by show 4 < sizeLine; decide), ?_⟩
      have e2 : putD (tabD (vec4 a b c d e)) (.inr (sK [])) (.int 1) = tabD (vec4 a b c d e ++ [([], 1)]) := put_new (t := vec4 a b c d e) (k := []) 1 (by simp [vec4, tK_nil])
      rw [← e2] at q
      exact q
    · have c2 : ¬ tn a b d * tn a c e * tn a b e * tn a c d = -1 := fun z => c1 ((odd_count a b c d e).mpr z)
      have e1 : vec a b c d e = vec4 a b c d e := by unfold vec odd4; rw [decide_eq_false c2]; simp
      rw [e1] at q
      exact q
end

/-! the law's own points -/
section
variable {P : Program} {w : World} {K : PySem.W.Frag} {mg : Str → Option Value} {base : Heap} {f : Addr} {fd : FuncData}
def prD (a b : Int) : PyData := .tuple [.int a, .int b]
def ptD (p : Ln.Pt) : PyData := .tuple [prD p.a p.b, prD p.c p.d]
def phMinus : Phi := fun ds R _ => ∃ (a b c d : Int) (n : Nat), ds = [prD a b, prD c d] ∧ (Sz n a ∧ Sz n b ∧ Sz n c ∧ Sz n d) ∧ n ≤ 1000000 ∧ R (.val (prD (a * d - c * b) (b * d)))
theorem ok__law_minus (F : Fun K "_law_minus" "_law_minus" s__law_minus f fd) (T : Bl mg)   :
    FnOk P w K mg base CX0 1 f fd ["_law_one", "_law_other"] (spP w K (phMinus)) := by
  have sc := sc__law_minus
  refine F.okP sc__law_minus (fun ds C Z h => ?_) (fun cdv A outer s H E hr => ?_)
  · unfold phMinus at h; first | (split at h <;> first | rfl | exact False.elim h) | (obtain ⟨rfl, _⟩ := h; rfl) | (obtain ⟨_, rfl, _⟩ := h; rfl) | (obtain ⟨_, _, rfl, _⟩ := h; rfl) | (obtain ⟨_, _, _, rfl, _⟩ := h; rfl) | (obtain ⟨_, _, _, _, rfl, _⟩ := h; rfl) | (obtain ⟨_, _, _, _, _, rfl, _⟩ := h; rfl) | (obtain ⟨_, _, _, _, _, _, rfl, _⟩ := h; rfl) | (obtain ⟨_, _, _, _, _, _, _, rfl, _⟩ := h; rfl) | (obtain ⟨_, _, _, _, _, _, _, _, rfl, _⟩ := h; rfl)
  refine ⟨_, (q_sone (q_ret (q_tup (q_acons (q_op o_sub (q_op o_mul (q_ix (q_v 0) q_int (fun _ _ => rfl)) (q_ix (q_v 1) q_int (fun _ _ => rfl))) (q_op o_mul (q_ix (q_v 1) q_int (fun _ _ => rfl)) (q_ix (q_v 0) q_int (fun _ _ => rfl)))) (q_acons (q_op o_mul (q_ix (q_v 0) q_int (fun _ _ => rfl)) (q_ix (q_v 1) q_int (fun _ _ => rfl))) q_anil))))), fun ds C Z h => ?_⟩
  obtain ⟨a, b, c, d, n, rfl, ⟨ha, hb, hc, hd⟩, hn, q⟩ := h
  exact ⟨CM.sz ha hd (by omega), CM.sz hc hb (by omega), CM.sz hb hd (by omega), (by show 2 ≤ sizeLine; decide), q⟩
def phShareBy : Phi := fun ds R _ => ∃ c : Int, ds = [.int c] ∧ ∀ t b : Int, Sz 41 t → Sz 4 b → 1 ≤ b → R (.val (prD t b))
theorem ok__law_share_by (F : Fun K "_law_share_by" "_law_share_by" s__law_share_by f fd) (T : Bl mg)   :
    FnOk P w K mg base CX0 1 f fd ["_law_cell"] (spP w K (phShareBy)) := by
  have sc := sc__law_share_by
  refine F.okP sc__law_share_by (fun ds C Z h => ?_) (fun cdv A outer s H E hr => ?_)
  · unfold phShareBy at h; first | (split at h <;> first | rfl | exact False.elim h) | (obtain ⟨rfl, _⟩ := h; rfl) | (obtain ⟨_, rfl, _⟩ := h; rfl) | (obtain ⟨_, _, rfl, _⟩ := h; rfl) | (obtain ⟨_, _, _, rfl, _⟩ := h; rfl) | (obtain ⟨_, _, _, _, rfl, _⟩ := h; rfl) | (obtain ⟨_, _, _, _, _, rfl, _⟩ := h; rfl) | (obtain ⟨_, _, _, _, _, _, rfl, _⟩ := h; rfl) | (obtain ⟨_, _, _, _, _, _, _, rfl, _⟩ := h; rfl) | (obtain ⟨_, _, _, _, _, _, _, _, rfl, _⟩ := h; rfl)
  refine ⟨_, (q_sone (q_ret (q_tup (q_acons (q_op o_sub (q_op o_mod (q_op o_div (q_v 0) q_int) (q_op o_mul q_int (q_op o_pow q_int q_int))) (q_op o_pow q_int q_int)) (q_acons (q_op o_add q_int (q_op o_mod (q_v 0) q_int)) q_anil))))), fun ds C Z h => ?_⟩
  obtain ⟨c, rfl, q⟩ := h
  have pw : CPow 10 12 := ⟨by decide, by decide, by decide⟩
  refine ⟨⟨by decide, sz9 (by decide)⟩, pw, CM.l (by decide) (by decide), (by decide), pw, (by decide), (by show 2 ≤ sizeLine; decide), q _ _ ?_ ?_ ?_⟩
  · show (c.fdiv 9 % (2 * 10 ^ 12) - 10 ^ 12).natAbs < 2 ^ 41
    have h1 := Int.emod_nonneg (c.fdiv 9) (show (2 * 10 ^ 12 : Int) ≠ 0 by decide)
    have h2 := Int.emod_lt_of_pos (c.fdiv 9) (show (0 : Int) < 2 * 10 ^ 12 by decide)
    omega
  · show (1 + c % 9).natAbs < 2 ^ 4
    omega
  · omega
def phWay : Phi := fun ds R _ => ∃ a0 b0 a1 b1 t0 t1 : Int, ds = [prD a0 b0, prD a1 b1, prD t0 t1] ∧ (Sz 41 a0 ∧ Sz 41 a1 ∧ Sz 41 t0) ∧ (Sz 4 b0 ∧ Sz 4 b1 ∧ Sz 4 t1) ∧ R (.val (prD (Ln.wyN a0 b0 a1 b1 t0 t1) (Ln.wyB b0 b1 t1)))
theorem way_sz {a0 b0 a1 b1 t0 t1 : Int} (h : Sz 41 a0 ∧ Sz 41 a1 ∧ Sz 41 t0) (g : Sz 4 b0 ∧ Sz 4 b1 ∧ Sz 4 t1) : Sz 100 (Ln.wyN a0 b0 a1 b1 t0 t1) ∧ Sz 100 (Ln.wyB b0 b1 t1) := by
  obtain ⟨h0, h1, h2⟩ := h
  obtain ⟨g0, g1, g2⟩ := g
  have s1 : Sz 53 (a0 * (b1 * b0) * t1) := (h0.mul (g1.mul g0)).mul g2
  have s2 : Sz 46 (a1 * b0 - a0 * b1) := (h1.mul g0).sub' (h0.mul g1)
  have s3 : Sz 91 (t0 * (a1 * b0 - a0 * b1) * b0) := (h2.mul s2).mul g0
  exact ⟨(Sz.add (k := 92) s1 s3 (by decide) (by decide)).mono (by decide), ((g0.mul (g1.mul g0)).mul g2).mono (by decide)⟩
theorem ok__law_way (F : Fun K "_law_way" "_law_way" s__law_way f fd) (T : Bl mg)  (c__law_minus : Cal P w K mg base CX0 1 "_law_minus" ["_law_one", "_law_other"] (spP w K (phMinus))) :
    FnOk P w K mg base CX0 2 f fd ["_law_one", "_law_other", "_law_t"] (spP w K (phWay)) := by
  have sc := sc__law_way
  refine F.okP sc__law_way (fun ds C Z h => ?_) (fun cdv A outer s H E hr => ?_)
  · unfold phWay at h; first | (split at h <;> first | rfl | exact False.elim h) | (obtain ⟨rfl, _⟩ := h; rfl) | (obtain ⟨_, rfl, _⟩ := h; rfl) | (obtain ⟨_, _, rfl, _⟩ := h; rfl) | (obtain ⟨_, _, _, rfl, _⟩ := h; rfl) | (obtain ⟨_, _, _, _, rfl, _⟩ := h; rfl) | (obtain ⟨_, _, _, _, _, rfl, _⟩ := h; rfl) | (obtain ⟨_, _, _, _, _, _, rfl, _⟩ := h; rfl) | (obtain ⟨_, _, _, _, _, _, _, rfl, _⟩ := h; rfl) | (obtain ⟨_, _, _, _, _, _, _, _, rfl, _⟩ := h; rfl)
  refine ⟨_, (q_scons (q_set 3 sc.nd (q_call c__law_minus (hr.mono (by decide)) (q_acons (q_v 1) (q_acons (q_v 0) q_anil))))
    (q_sone (q_ret (q_tup (q_acons (q_op o_add (q_op o_mul (q_op o_mul (q_ix (q_v 0) q_int (fun _ _ => rfl)) (q_ix (q_v 3) q_int (fun _ _ => rfl))) (q_ix (q_v 2) q_int (fun _ _ => rfl))) (q_op o_mul (q_op o_mul (q_ix (q_v 2) q_int (fun _ _ => rfl)) (q_ix (q_v 3) q_int (fun _ _ => rfl))) (q_ix (q_v 0) q_int (fun _ _ => rfl)))) (q_acons (q_op o_mul (q_op o_mul (q_ix (q_v 0) q_int (fun _ _ => rfl)) (q_ix (q_v 3) q_int (fun _ _ => rfl))) (q_ix (q_v 2) q_int (fun _ _ => rfl))) q_anil)))))), fun ds C Z h => ?_⟩
  obtain ⟨a0, b0, a1, b1, t0, t1, rfl, ⟨h0, h1, h2⟩, ⟨g0, g1, g2⟩, q⟩ := h
  have m : ∀ {n : Nat} {i : Int}, Sz n i → n ≤ 41 → Sz 41 i := fun z l => z.mono l
  have s2 : Sz 46 (a1 * b0 - a0 * b1) := (h1.mul g0).sub' (h0.mul g1)
  refine ⟨a1, b1, a0, b0, 41, rfl, ⟨h1, m g1 (by decide), h0, m g0 (by decide)⟩, by decide, ?_⟩
  exact ⟨CM.sz h0 (g1.mul g0) (by decide), CM.sz (h0.mul (g1.mul g0)) g2 (by decide), CM.sz h2 s2 (by decide), CM.sz (h2.mul s2) g0 (by decide), CM.sz g0 (g1.mul g0) (by decide), CM.sz (g0.mul (g1.mul g0)) g2 (by decide), (by show 2 ≤ sizeLine; decide), q⟩
/-- small enough -/
def PtZ (p : Ln.Pt) : Prop := Sz 100 p.a ∧ Sz 100 p.b ∧ Sz 100 p.c ∧ Sz 100 p.d
def nK (x : Str) : KD := .inl (.inr x)
def phSpan : Phi := fun ds R _ => ∃ (pd : List (KD × PyData)) (x y z : Str) (p q r : Ln.Pt), ds = [dictD pd, .tuple (strsD [x, y, z])] ∧ (valD pd (nK x) = some (ptD p) ∧ valD pd (nK y) = some (ptD q) ∧ valD pd (nK z) = some (ptD r)) ∧ (PtZ p ∧ PtZ q ∧ PtZ r) ∧ R (.val (prD (Ln.spN p q r) (Ln.spB p q r)))
theorem ok__law_span (F : Fun K "_law_span" "_law_span" s__law_span f fd) (T : Bl mg)  (c__law_minus : Cal P w K mg base CX0 1 "_law_minus" ["_law_one", "_law_other"] (spP w K (phMinus))) :
    FnOk P w K mg base CX0 2 f fd ["_law_places_here", "_law_row"] (spP w K (phSpan)) := by
  have sc := sc__law_span
  refine F.okP sc__law_span (fun ds C Z h => ?_) (fun cdv A outer s H E hr => ?_)
  · unfold phSpan at h; first | (split at h <;> first | rfl | exact False.elim h) | (obtain ⟨rfl, _⟩ := h; rfl) | (obtain ⟨_, rfl, _⟩ := h; rfl) | (obtain ⟨_, _, rfl, _⟩ := h; rfl) | (obtain ⟨_, _, _, rfl, _⟩ := h; rfl) | (obtain ⟨_, _, _, _, rfl, _⟩ := h; rfl) | (obtain ⟨_, _, _, _, _, rfl, _⟩ := h; rfl) | (obtain ⟨_, _, _, _, _, _, rfl, _⟩ := h; rfl) | (obtain ⟨_, _, _, _, _, _, _, rfl, _⟩ := h; rfl) | (obtain ⟨_, _, _, _, _, _, _, _, rfl, _⟩ := h; rfl)
  refine ⟨_, (q_scons (q_asg (QO.qe (q_compT (cn := ["_law_name"]) (fr := ["_law_places_here"]) (js := [0]) (q_v 1) rfl BlkOk.of
        (fun _ _ _ _ _ => (q_gn 0 (show ((["_law_name"] : List Str) ++ ((["_law_places_here"] : List Str) ++ [accN])).Nodup by decide +kernel))) (fun _ _ _ _ _ => q_f0) (fun _ _ _ _ _ => (q_dix hr (q_v 1) (q_v 0) (fun _ _ => rfl))))) (q_glst (n := 3) rfl (q_gcons (q_gn 2 sc.nd) (q_gcons (q_gn 3 sc.nd) (q_gcons (q_gn 4 sc.nd) q_gnil)))))
    (q_scons (q_par 5 6 rfl sc.nd (q_acons (q_call c__law_minus (hr.mono (by decide)) (q_acons (q_ix (q_v 3) q_int (fun _ _ => rfl)) (q_acons (q_ix (q_v 2) q_int (fun _ _ => rfl)) q_anil))) (q_acons (q_call c__law_minus (hr.mono (by decide)) (q_acons (q_ix (q_v 3) q_int (fun _ _ => rfl)) (q_acons (q_ix (q_v 2) q_int (fun _ _ => rfl)) q_anil))) q_anil)))
    (q_scons (q_par 7 8 rfl sc.nd (q_acons (q_call c__law_minus (hr.mono (by decide)) (q_acons (q_ix (q_v 4) q_int (fun _ _ => rfl)) (q_acons (q_ix (q_v 2) q_int (fun _ _ => rfl)) q_anil))) (q_acons (q_call c__law_minus (hr.mono (by decide)) (q_acons (q_ix (q_v 4) q_int (fun _ _ => rfl)) (q_acons (q_ix (q_v 2) q_int (fun _ _ => rfl)) q_anil))) q_anil)))
    (q_sone (q_ret (q_call c__law_minus (hr.mono (by decide)) (q_acons (q_tup (q_acons (q_op o_mul (q_ix (q_v 5) q_int (fun _ _ => rfl)) (q_ix (q_v 8) q_int (fun _ _ => rfl))) (q_acons (q_op o_mul (q_ix (q_v 5) q_int (fun _ _ => rfl)) (q_ix (q_v 8) q_int (fun _ _ => rfl))) q_anil))) (q_acons (q_tup (q_acons (q_op o_mul (q_ix (q_v 6) q_int (fun _ _ => rfl)) (q_ix (q_v 7) q_int (fun _ _ => rfl))) (q_acons (q_op o_mul (q_ix (q_v 6) q_int (fun _ _ => rfl)) (q_ix (q_v 7) q_int (fun _ _ => rfl))) q_anil))) q_anil)))))))), fun ds C Z h => ?_⟩
  obtain ⟨pd, x, y, z, p, q', r, rfl, ⟨v1, v2, v3⟩, ⟨⟨p1, p2, p3, p4⟩, ⟨q1, q2, q3, q4⟩, ⟨r1, r2, r3, r4⟩⟩, q⟩ := h
  refine ⟨fun i acc => acc = [ptD p, ptD q', ptD r].take i, rfl, ?_, ?_⟩
  · rintro i u acc hu rfl
    have hi : i < 3 := (List.getElem?_eq_some_iff.mp hu).1
    match i, hi, hu with
    | 0, _, hu => cases hu; exact ⟨pd, nK x, rfl, rfl, optC_of v1 ⟨rfl, (by show 0 < sizeLine; decide), rfl⟩⟩
    | 1, _, hu => cases hu; exact ⟨pd, nK y, rfl, rfl, optC_of v2 ⟨rfl, (by show 1 < sizeLine; decide), rfl⟩⟩
    | 2, _, hu => cases hu; exact ⟨pd, nK z, rfl, rfl, optC_of v3 ⟨rfl, (by show 2 < sizeLine; decide), rfl⟩⟩
  · rintro acc rfl
    refine ⟨rfl, ?_⟩
    have d1 : ∀ {a b c d : Int}, Sz 100 a → Sz 100 b → Sz 100 c → Sz 100 d → Sz 201 (a * d - c * b) ∧ Sz 201 (b * d) := fun ha hb hc hd => ⟨(ha.mul hd).sub' (hc.mul hb), (hb.mul hd).mono (by decide)⟩
    obtain ⟨x1, x2⟩ := d1 q1 q2 p1 p2
    obtain ⟨y1, y2⟩ := d1 q3 q4 p3 p4
    obtain ⟨u1, u2⟩ := d1 r1 r2 p1 p2
    obtain ⟨w1, w2⟩ := d1 r3 r4 p3 p4
    refine ⟨q'.a, q'.b, p.a, p.b, 100, rfl, ⟨q1, q2, p1, p2⟩, by decide, q'.c, q'.d, p.c, p.d, 100, rfl, ⟨q3, q4, p3, p4⟩, by decide, ?_⟩
    refine ⟨r.a, r.b, p.a, p.b, 100, rfl, ⟨r1, r2, p1, p2⟩, by decide, r.c, r.d, p.c, p.d, 100, rfl, ⟨r3, r4, p3, p4⟩, by decide, ?_⟩
    refine ⟨CM.sz x1 w1 (by decide), CM.sz x2 w2 (by decide), (by show 2 ≤ sizeLine; decide), CM.sz y1 u1 (by decide), CM.sz y2 u2 (by decide), (by show 2 ≤ sizeLine; decide), ?_⟩
    exact ⟨_, _, _, _, 402, rfl, ⟨x1.mul w1, x2.mul w2, y1.mul u1, y2.mul u2⟩, by decide, q⟩
theorem span_sz {p q r : Ln.Pt} (hp : PtZ p) (hq : PtZ q) (hr : PtZ r) : Sz 1000 (Ln.spN p q r) ∧ Sz 1000 (Ln.spB p q r) := by
  obtain ⟨p1, p2, p3, p4⟩ := hp
  obtain ⟨q1, q2, q3, q4⟩ := hq
  obtain ⟨r1, r2, r3, r4⟩ := hr
  have d1 : ∀ {a b c d : Int}, Sz 100 a → Sz 100 b → Sz 100 c → Sz 100 d → Sz 201 (a * d - c * b) ∧ Sz 201 (b * d) := fun ha hb hc hd => ⟨(ha.mul hd).sub' (hc.mul hb), (hb.mul hd).mono (by decide)⟩
  obtain ⟨x1, x2⟩ := d1 q1 q2 p1 p2
  obtain ⟨y1, y2⟩ := d1 q3 q4 p3 p4
  obtain ⟨u1, u2⟩ := d1 r1 r2 p1 p2
  obtain ⟨w1, w2⟩ := d1 r3 r4 p3 p4
  exact ⟨(((x1.mul w1).mul (y2.mul u2)).sub' ((y1.mul u1).mul (x2.mul w2))).mono (by decide), ((x2.mul w2).mul (y2.mul u2)).mono (by decide)⟩
end

section
variable {P : Program} {w : World} {K : PySem.W.Frag} {mg : Str → Option Value} {base : Heap} {f : Addr} {fd : FuncData}
theorem nK_ne {x y : Str} (h : x ≠ y) : nK x ≠ nK y := fun e => h (Sum.inr.inj (Sum.inl.inj e))
theorem putD_new {kvs : List (KD × PyData)} {k : KD} {d : PyData} (h : ∀ kv ∈ kvs, kv.1 ≠ k) : putD kvs k d = kvs ++ [(k, d)] := by
  unfold putD
  rw [show ixD kvs k = none from List.findIdx?_eq_none_iff.mpr fun kv hkv => decide_eq_false (h kv hkv)]
def pl5 (a b c d e : Str) (p0 p1 p2 p3 p4 : Ln.Pt) : List (KD × PyData) := [(nK a, ptD p0), (nK b, ptD p1), (nK c, ptD p2), (nK d, ptD p3), (nK e, ptD p4)]
/-- how the five points were drawn -/
structure Placed (p0 p1 p2 p3 p4 : Ln.Pt) : Prop where
  z0 : PtZ p0
  z1 : PtZ p1
  z2 : PtZ p2
  z3 : PtZ p3
  z4 : PtZ p4
  n : ∀ p ∈ [p0, p1, p2, p3, p4], p.b ≠ 0 ∧ p.d ≠ 0
  way : ∃ t0 t1 : Int, t1 ≠ 0 ∧ p2.a = Ln.wyN p0.a p0.b p1.a p1.b t0 t1 ∧ p2.b = Ln.wyB p0.b p1.b t1 ∧ p2.c = Ln.wyN p0.c p0.d p1.c p1.d t0 t1 ∧ p2.d = Ln.wyB p0.d p1.d t1
/-- a drawn point -/
def Dr (p : Ln.Pt) : Prop := (Sz 41 p.a ∧ Sz 4 p.b ∧ 1 ≤ p.b) ∧ Sz 41 p.c ∧ Sz 4 p.d ∧ 1 ≤ p.d
theorem Dr.z {p : Ln.Pt} (h : Dr p) : PtZ p := ⟨h.1.1.mono (by decide), h.1.2.1.mono (by decide), h.2.1.mono (by decide), h.2.2.1.mono (by decide)⟩
def phPlaces : Phi := fun ds R _ => ∃ (ns : List Int) (a b c d e : Str) (r : List Str), ds = [.list (intsD ns), .list (strsD (a :: b :: c :: d :: e :: r))] ∧ [a, b, c, d, e].Nodup ∧ ∀ p0 p1 p2 p3 p4 : Ln.Pt, Placed p0 p1 p2 p3 p4 → R (.own (.dct (pl5 a b c d e p0 p1 p2 p3 p4)))
theorem ok__law_places (F : Fun K "_law_places" "_law_places" s__law_places f fd) (T : Bl mg)  (c__law_share_by : Cal P w K mg base CX0 1 "_law_share_by" ["_law_cell"] (spP w K (phShareBy))) (c__law_number : Cal P w K mg base CX0 2 "_law_number" ["_law_script", "_law_k"] (spP w K (phNum))) (c__law_way : Cal P w K mg base CX0 2 "_law_way" ["_law_one", "_law_other", "_law_t"] (spP w K (phWay))) :
    FnOk P w K mg base CX0 3 f fd ["_law_script", "_law_names_here"] (spP w K (phPlaces)) := by
  have sc := sc__law_places
  refine F.okP sc__law_places (fun ds C Z h => ?_) (fun cdv A outer s H E hr => ?_)
  · unfold phPlaces at h; first | (split at h <;> first | rfl | exact False.elim h) | (obtain ⟨rfl, _⟩ := h; rfl) | (obtain ⟨_, rfl, _⟩ := h; rfl) | (obtain ⟨_, _, rfl, _⟩ := h; rfl) | (obtain ⟨_, _, _, rfl, _⟩ := h; rfl) | (obtain ⟨_, _, _, _, rfl, _⟩ := h; rfl) | (obtain ⟨_, _, _, _, _, rfl, _⟩ := h; rfl) | (obtain ⟨_, _, _, _, _, _, rfl, _⟩ := h; rfl) | (obtain ⟨_, _, _, _, _, _, _, rfl, _⟩ := h; rfl) | (obtain ⟨_, _, _, _, _, _, _, _, rfl, _⟩ := h; rfl)
  refine ⟨_, (q_scons (q_setO 2 sc.nd (q_lst q_anil))
    (q_scons (q_forR1 PassesOwn.never rfl (by rfl) T.b_range (q_acons q_int q_anil) (q_gn 3 sc.nd)
      (q_scons (q_set 4 sc.nd (q_call c__law_number (hr.mono (by decide)) (q_acons (q_v 0) (q_acons (q_op o_add q_int (q_v 3)) q_anil))))
    (q_sone (q_app 2 (q_tup (q_acons (q_call c__law_share_by (hr.mono (by decide)) (q_acons (q_v 4) q_anil)) (q_acons (q_call c__law_share_by (hr.mono (by decide)) (q_acons (q_op o_div (q_v 4) (q_op o_mul q_int (q_op o_pow q_int q_int))) q_anil)) q_anil)))))))
    (q_scons (q_set 5 sc.nd (q_call c__law_share_by (hr.mono (by decide)) (q_acons (q_call c__law_number (hr.mono (by decide)) (q_acons (q_v 0) (q_acons q_int q_anil))) q_anil)))
    (q_scons (q_set 6 sc.nd (q_tup (q_acons (q_call c__law_way (hr.mono (by decide)) (q_acons (q_ix (q_ixV 2 q_int (fun _ _ => rfl)) q_int (fun _ _ => rfl)) (q_acons (q_ix (q_ixV 2 q_int (fun _ _ => rfl)) q_int (fun _ _ => rfl)) (q_acons (q_v 5) q_anil)))) (q_acons (q_call c__law_way (hr.mono (by decide)) (q_acons (q_ix (q_ixV 2 q_int (fun _ _ => rfl)) q_int (fun _ _ => rfl)) (q_acons (q_ix (q_ixV 2 q_int (fun _ _ => rfl)) q_int (fun _ _ => rfl)) (q_acons (q_v 5) q_anil)))) q_anil))))
    (q_scons (q_setO 7 sc.nd q_dnew)
    (q_scons (q_forE PassesOwn.never rfl (by rfl) T.b_enumerate (QO.qe (q_lst (q_acons (q_ixV 2 q_int (fun _ _ => rfl)) (q_acons (q_ixV 2 q_int (fun _ _ => rfl)) (q_acons (q_v 6) (q_acons (q_ixV 2 q_int (fun _ _ => rfl)) (q_acons (q_ixV 2 q_int (fun _ _ => rfl)) q_anil))))))) (q_gtup (n := 2) rfl (q_gcons (q_gn 3 sc.nd) (q_gcons (q_gn 8 sc.nd) q_gnil)))
      (q_sone (q_dput 7 hr (q_v 8) (q_ix (q_v 1) (q_v 3) (fun _ _ => rfl)))))
    (q_sone (q_retO (q_m 7))))))))), fun ds C Z h => ?_⟩
  obtain ⟨ns, a, b, c, d, e, r, rfl, hn, q⟩ := h
  have pw : CPow 10 12 := ⟨by decide, by decide, by decide⟩
  refine ⟨(by show 0 ≤ sizeLine; decide), ⟨by decide, by decide⟩, ?_⟩
  refine ⟨fun i ev => ∃ (ps : List Ln.Pt) (s s' : Sl), ev = [.val (.list (intsD ns)), .val (.list (strsD (a :: b :: c :: d :: e :: r))), .own (.lst (ps.map ptD)), s, s', .unk, .unk, .unk, .unk] ∧ ps.length = i ∧ ∀ p ∈ ps, Dr p, ⟨[], _, _, rfl, rfl, fun p hp => nomatch hp⟩, ?_, ?_⟩
  · rintro i ev hi ⟨ps, s, s', rfl, hl, hp⟩
    have hi' : i < 4 := hi
    refine ⟨ns, 10 + (0 + (i : Int)), rfl, by omega, fun v => ?_⟩
    refine ⟨⟨_, rfl⟩, v, rfl, fun t1 b1 h1 h2 h3 => ⟨pw, CM.l (by decide) (by decide), ⟨by decide, sz9 (by decide)⟩, v.fdiv (18 * 10 ^ 12), rfl, fun t2 b2 g1 g2 g3 => ⟨(by show 2 ≤ sizeLine; decide), ?_, ?_⟩⟩⟩
    · rw [List.length_map, hl]
      exact small1000 (by omega)
    · refine ⟨ps ++ [⟨t1, b1, t2, b2⟩], _, _, by rw [List.map_append]; rfl, by rw [List.length_append, hl]; rfl, fun p hpp => ?_⟩
      rcases List.mem_append.mp hpp with z | z
      · exact hp p z
      · rw [List.mem_singleton.mp z]
        exact ⟨⟨h1, h2, h3⟩, g1, g2, g3⟩
  rintro ev ⟨ps, s, s', rfl, hl, hp⟩
  match ps, hl, hp with
  | [q0, q1, q2, q3], _, hp =>
    have d0 := hp q0 (by simp)
    have d1 := hp q1 (by simp)
    have d2 := hp q2 (by simp)
    have d3 := hp q3 (by simp)
    refine ⟨ns, 14, rfl, by decide, fun v => ⟨v, rfl, fun t0 t1 z0 z1 z2 => ?_⟩⟩
    refine ⟨⟨_, rfl⟩, ⟨_, rfl⟩, _, _, _, _, _, _, rfl, ⟨d0.1.1, d1.1.1, z0⟩, ⟨d0.1.2.1, d1.1.2.1, z1⟩, ⟨_, rfl⟩, ⟨_, rfl⟩, _, _, _, _, _, _, rfl, ⟨d0.2.1, d1.2.1, z0⟩, ⟨d0.2.2.1, d1.2.2.1, z1⟩, (by show 2 ≤ sizeLine; decide), ?_⟩
    have w1 := way_sz ⟨d0.1.1, d1.1.1, z0⟩ ⟨d0.1.2.1, d1.1.2.1, z1⟩
    have w2 := way_sz ⟨d0.2.1, d1.2.1, z0⟩ ⟨d0.2.2.1, d1.2.2.1, z1⟩
    obtain ⟨h1, h2, h3, h4, h5, h6, h7, h8, h9, h10⟩ := five_ne hn
    generalize hp2 : (⟨Ln.wyN q0.a q0.b q1.a q1.b t0 t1, Ln.wyB q0.b q1.b t1, Ln.wyN q0.c q0.d q1.c q1.d t0 t1, Ln.wyB q0.d q1.d t1⟩ : Ln.Pt) = p2
    have e2 : PyData.tuple [prD (Ln.wyN q0.a q0.b q1.a q1.b t0 t1) (Ln.wyB q0.b q1.b t1), prD (Ln.wyN q0.c q0.d q1.c q1.d t0 t1) (Ln.wyB q0.d q1.d t1)] = ptD p2 := by rw [← hp2]; rfl
    refine ⟨⟨_, rfl⟩, ⟨_, rfl⟩, ⟨_, rfl⟩, ⟨_, rfl⟩, (by show 5 ≤ sizeLine; decide), ?_⟩
    refine ⟨fun i ev => ∃ u u' : Sl, ev = [.val (.list (intsD ns)), .val (.list (strsD (a :: b :: c :: d :: e :: r))), .own (.lst [ptD q0, ptD q1, ptD q2, ptD q3]), u, s', .val (prD t0 t1), .val (ptD p2), .own (.dct ((pl5 a b c d e q0 q1 p2 q2 q3).take i)), u'], ⟨_, _, by rw [← e2]; rfl⟩, ?_, ?_⟩
    · rintro i x ev hx ⟨s1, s2, rfl⟩
      have hi : i < 5 := (List.getElem?_eq_some_iff.mp hx).1
      have at5 : ∀ (n : Nat) (x : PyData), (strsD (a :: b :: c :: d :: e :: r))[n]? = some x → atI (strsD (a :: b :: c :: d :: e :: r)) ((n : Nat) : Int) = some x := fun n x h => atI_nat h
      have n1 := nK_ne h1
      have n2 := nK_ne h2
      have n3 := nK_ne h3
      have n4 := nK_ne h4
      have n5 := nK_ne h5
      have n6 := nK_ne h6
      have n7 := nK_ne h7
      have n8 := nK_ne h8
      have n9 := nK_ne h9
      have n10 := nK_ne h10
      have step : ∀ (n : Nat) (k : KD) (v : PyData), (pl5 a b c d e q0 q1 p2 q2 q3)[n]? = some (k, v) → (∀ kv ∈ (pl5 a b c d e q0 q1 p2 q2 q3).take n, kv.1 ≠ k) → putD ((pl5 a b c d e q0 q1 p2 q2 q3).take n) k v = (pl5 a b c d e q0 q1 p2 q2 q3).take (n + 1) := fun n k v e1 e2 => by
        rw [putD_new e2, List.take_add_one, e1]
        rfl
      have ln : ∀ n, ((pl5 a b c d e q0 q1 p2 q2 q3).take n).length < sizeLine := fun n => by
        rw [List.length_take]
        exact small1000 (by show min n 5 ≤ 1000; omega)
      match i, hi, hx with
      | 0, _, hx =>
        cases hx
        exact ⟨rfl, ⟨_, rfl⟩, optC_of (at5 0 (.str a) rfl) ⟨_, nK a, rfl, rfl, rfl, ln 0, _, _, by rw [step 0 (nK a) (ptD q0) rfl (by simp)]; rfl⟩⟩
      | 1, _, hx =>
        cases hx
        exact ⟨rfl, ⟨_, rfl⟩, optC_of (at5 1 (.str b) rfl) ⟨_, nK b, rfl, rfl, rfl, ln 1, _, _, by rw [step 1 (nK b) (ptD q1) rfl (by simp [pl5, n1])]; rfl⟩⟩
      | 2, _, hx =>
        cases hx
        exact ⟨rfl, ⟨_, rfl⟩, optC_of (at5 2 (.str c) rfl) ⟨_, nK c, rfl, rfl, rfl, ln 2, _, _, by rw [show PyData.tuple [rzD (Rz.val (prD (Ln.wyN q0.a q0.b q1.a q1.b t0 t1) (Ln.wyB q0.b q1.b t1))), rzD (Rz.val (prD (Ln.wyN q0.c q0.d q1.c q1.d t0 t1) (Ln.wyB q0.d q1.d t1)))] = ptD p2 from e2, step 2 (nK c) (ptD p2) rfl (by simp [pl5, n2, n5])]; rfl⟩⟩
      | 3, _, hx =>
        cases hx
        exact ⟨rfl, ⟨_, rfl⟩, optC_of (at5 3 (.str d) rfl) ⟨_, nK d, rfl, rfl, rfl, ln 3, _, _, by rw [step 3 (nK d) (ptD q2) rfl (by simp [pl5, n3, n6, n8])]; rfl⟩⟩
      | 4, _, hx =>
        cases hx
        exact ⟨rfl, ⟨_, rfl⟩, optC_of (at5 4 (.str e) rfl) ⟨_, nK e, rfl, rfl, rfl, ln 4, _, _, by rw [step 4 (nK e) (ptD q3) rfl (by simp [pl5, n4, n7, n9, n10])]; rfl⟩⟩
    · rintro ev ⟨s1, s2, rfl⟩
      have ne : ∀ {i : Int}, 1 ≤ i → i ≠ 0 := fun h => by omega
      have m0 := Int.mul_ne_zero (Int.mul_ne_zero (ne d0.1.2.2) (Int.mul_ne_zero (ne d1.1.2.2) (ne d0.1.2.2))) (ne z2)
      have m1 := Int.mul_ne_zero (Int.mul_ne_zero (ne d0.2.2.2) (Int.mul_ne_zero (ne d1.2.2.2) (ne d0.2.2.2))) (ne z2)
      refine q q0 q1 p2 q2 q3 ⟨d0.z, d1.z, by rw [← hp2]; exact ⟨w1.1, w1.2, w2.1, w2.2⟩, d2.z, d3.z, fun p hp => ?_, t0, t1, ne z2, by rw [← hp2], by rw [← hp2], by rw [← hp2], by rw [← hp2]⟩
      simp only [List.mem_cons, List.not_mem_nil, or_false] at hp
      rcases hp with rfl | rfl | rfl | rfl | rfl
      · exact ⟨ne d0.1.2.2, ne d0.2.2.2⟩
      · exact ⟨ne d1.1.2.2, ne d1.2.2.2⟩
      · rw [← hp2]; exact ⟨m0, m1⟩
      · exact ⟨ne d2.1.2.2, ne d2.2.2.2⟩
      · exact ⟨ne d3.1.2.2, ne d3.2.2.2⟩
end

section
variable {P : Program} {w : World} {K : PySem.W.Frag} {mg : Str → Option Value} {base : Heap} {f : Addr} {fd : FuncData}
structure Acc where
  l0 : Int
  l1 : Int
  r0 : Int
  r1 : Int
def stp (pl : Str → Ln.Pt) (s : Acc) (p : List Str × Int) : Acc := match p.1 with
  | [x, y, z] => if p.2 = 1 then ⟨s.l0 * Ln.spN (pl x) (pl y) (pl z), s.l1 * Ln.spB (pl x) (pl y) (pl z), s.r0, s.r1⟩ else ⟨s.l0, s.l1, s.r0 * Ln.spN (pl x) (pl y) (pl z), s.r1 * Ln.spB (pl x) (pl y) (pl z)⟩
  | _ => s
def accZ (n : Nat) (s : Acc) : Prop := Sz n s.l0 ∧ Sz n s.l1 ∧ Sz n s.r0 ∧ Sz n s.r1
def rowOk (pd : List (KD × PyData)) (pl : Str → Ln.Pt) (row : List Str) : Prop := row = [] ∨ ∃ x y z, row = [x, y, z] ∧ ∀ m ∈ [x, y, z], Wd m ∧ valD pd (nK m) = some (ptD (pl m)) ∧ PtZ (pl m)
def phProd : Phi := fun ds R _ => ∃ (pd : List (KD × PyData)) (t : Tab) (pl : Str → Ln.Pt), ds = [dictD pd, dictD (tabD t)] ∧ (t.map (·.1)).Nodup ∧ t.length ≤ 5 ∧ (∀ p ∈ t, rowOk pd pl p.1) ∧
  R (.val (.tuple [prD (t.foldl (stp pl) ⟨1, 1, 1, 1⟩).l0 (t.foldl (stp pl) ⟨1, 1, 1, 1⟩).l1, prD (t.foldl (stp pl) ⟨1, 1, 1, 1⟩).r0 (t.foldl (stp pl) ⟨1, 1, 1, 1⟩).r1]))
theorem ok__law_products (F : Fun K "_law_products" "_law_products" s__law_products f fd) (T : Bl mg)  (c__law_span : Cal P w K mg base CX0 2 "_law_span" ["_law_places_here", "_law_row"] (spP w K (phSpan))) :
    FnOk P w K mg base CX0 3 f fd ["_law_places_here", "_law_found"] (spP w K (phProd)) := by
  have sc := sc__law_products
  refine F.okP sc__law_products (fun ds C Z h => ?_) (fun cdv A outer s H E hr => ?_)
  · unfold phProd at h; first | (split at h <;> first | rfl | exact False.elim h) | (obtain ⟨rfl, _⟩ := h; rfl) | (obtain ⟨_, rfl, _⟩ := h; rfl) | (obtain ⟨_, _, rfl, _⟩ := h; rfl) | (obtain ⟨_, _, _, rfl, _⟩ := h; rfl) | (obtain ⟨_, _, _, _, rfl, _⟩ := h; rfl) | (obtain ⟨_, _, _, _, _, rfl, _⟩ := h; rfl) | (obtain ⟨_, _, _, _, _, _, rfl, _⟩ := h; rfl) | (obtain ⟨_, _, _, _, _, _, _, rfl, _⟩ := h; rfl) | (obtain ⟨_, _, _, _, _, _, _, _, rfl, _⟩ := h; rfl)
  refine ⟨_, (q_scons (q_set 2 sc.nd (q_tup (q_acons q_int (q_acons q_int q_anil))))
    (q_scons (q_set 3 sc.nd (q_tup (q_acons q_int (q_acons q_int q_anil))))
    (q_scons (q_forD PassesOwn.never rfl (q_v 1) (q_gn 4 sc.nd)
      (q_sone (q_if (q_tcmp (o_neD hr) (q_v 4) (q_tup q_anil) (nomark _))
      (q_scons (q_set 5 sc.nd (q_call c__law_span (hr.mono (by decide)) (q_acons (q_v 0) (q_acons (q_v 4) q_anil))))
    (q_sone (q_if (q_tcmp o_eq (q_dix hr (q_v 1) (q_v 4) (fun _ _ => rfl)) q_int (nomark _))
      (q_sone (q_set 2 sc.nd (q_tup (q_acons (q_op o_mul (q_ix (q_v 2) q_int (fun _ _ => rfl)) (q_ix (q_v 5) q_int (fun _ _ => rfl))) (q_acons (q_op o_mul (q_ix (q_v 2) q_int (fun _ _ => rfl)) (q_ix (q_v 5) q_int (fun _ _ => rfl))) q_anil)))))
      (q_sone (q_set 3 sc.nd (q_tup (q_acons (q_op o_mul (q_ix (q_v 3) q_int (fun _ _ => rfl)) (q_ix (q_v 5) q_int (fun _ _ => rfl))) (q_acons (q_op o_mul (q_ix (q_v 3) q_int (fun _ _ => rfl)) (q_ix (q_v 5) q_int (fun _ _ => rfl))) q_anil))))))))
      q_snil)))
    (q_sone (q_ret (q_tup (q_acons (q_v 2) (q_acons (q_v 3) q_anil)))))))), fun ds C Z h => ?_⟩
  obtain ⟨pd, t, pl, rfl, hn, hl, hrow, q⟩ := h
  refine ⟨(by show 2 ≤ sizeLine; decide), (by show 2 ≤ sizeLine; decide), tabD t, rfl, ?_⟩
  refine ⟨fun i ev => ∃ (s : Acc) (u u' : Sl), ev = [.val (dictD pd), .val (dictD (tabD t)), .val (prD s.l0 s.l1), .val (prD s.r0 s.r1), u, u'] ∧ s = (t.take i).foldl (stp pl) ⟨1, 1, 1, 1⟩ ∧ accZ (1 + 1000 * i) s, ⟨_, _, _, rfl, rfl, by show (1 : Int).natAbs < 2 ^ 1; decide, by show (1 : Int).natAbs < 2 ^ 1; decide, by show (1 : Int).natAbs < 2 ^ 1; decide, by show (1 : Int).natAbs < 2 ^ 1; decide⟩, ?_, ?_⟩
  · rintro i x ev hx ⟨s, u, u', rfl, hs, za, zb, zc, zd⟩
    have hx' : (t.map fun p => kdD (.inr (sK p.1)))[i]? = some x := by
      rw [← hx]
      unfold tabD
      rw [List.map_map]
      rfl
    rw [List.getElem?_map] at hx'
    cases e : t[i]? with
    | none => rw [e] at hx'; cases hx'
    | some p =>
      rw [e] at hx'
      cases hx'
      have hi : i < t.length := (List.getElem?_eq_some_iff.mp e).1
      have v := val_tab (k := p.1) (v := p.2) hn (List.mem_of_getElem? e)
      have nx : (t.take (i + 1)).foldl (stp pl) ⟨1, 1, 1, 1⟩ = stp pl s p := by
        rw [List.take_add_one, e, hs, List.foldl_append]
        rfl
      have up : ∀ {j : Int}, Sz (1 + 1000 * i) j → Sz (1 + 1000 * (i + 1)) j := fun z => z.mono (by omega)
      rcases hrow p (List.mem_of_getElem? e) with hp | ⟨a, b, c, hp, hm⟩
      · refine ⟨(by show 0 ≤ sizeLine; decide), ?_, rfl, ?_⟩
        · show SeqAt.shaped (kdD (.inr (sK p.1))) = true
          rw [hp]
          rfl
        · show if (!PyData.eqv (kdD (.inr (sK p.1))) (.tuple [])) = true then _ else _
          rw [show PyData.eqv (kdD (.inr (sK p.1))) (.tuple []) = true by rw [hp]; rfl]
          refine ⟨s, _, _, rfl, ?_, up za, up zb, up zc, up zd⟩
          rw [nx]
          unfold stp
          rw [hp]
      · have wd : ∀ m ∈ p.1, Wd m := fun m h => (hm m (by rw [← hp]; exact h)).1
        have ma := hm a (by simp)
        have mb := hm b (by simp)
        have mc := hm c (by simp)
        obtain ⟨s1, s2⟩ := span_sz ma.2.2 mb.2.2 mc.2.2
        refine ⟨(by show 0 ≤ sizeLine; decide), ?_, rfl, ?_⟩
        · show SeqAt.shaped (kdD (.inr (sK p.1))) = true
          rw [kd_sK]
          exact shaped_strs wd
        · show if (!PyData.eqv (kdD (.inr (sK p.1))) (.tuple [])) = true then _ else _
          rw [show PyData.eqv (kdD (.inr (sK p.1))) (.tuple []) = false by rw [kd_sK, eqv_nil, hp]; rfl]
          refine ⟨pd, a, b, c, pl a, pl b, pl c, ?_, ⟨ma.2.1, mb.2.1, mc.2.1⟩, ⟨ma.2.2, mb.2.2, mc.2.2⟩, ?_⟩
          · show [dictD pd, kdD (.inr (sK p.1))] = _
            rw [kd_sK, hp]
          · refine ⟨tabD t, .inr (sK p.1), rfl, rfl, optC_of v ?_⟩
            refine iteLt (fun c1 => ?_) (fun c1 => ?_)
            · refine ⟨CM.sz za s1 (by omega), CM.sz zb s2 (by omega), (by show 2 ≤ sizeLine; decide), ?_⟩
              refine ⟨⟨s.l0 * Ln.spN (pl a) (pl b) (pl c), s.l1 * Ln.spB (pl a) (pl b) (pl c), s.r0, s.r1⟩, _, _, rfl, ?_, (za.mul s1).mono (by omega), (zb.mul s2).mono (by omega), up zc, up zd⟩
              rw [nx]
              unfold stp
              rw [hp]
              show _ = if p.2 = 1 then _ else _
              rw [if_pos c1]
            · refine ⟨CM.sz zc s1 (by omega), CM.sz zd s2 (by omega), (by show 2 ≤ sizeLine; decide), ?_⟩
              refine ⟨⟨s.l0, s.l1, s.r0 * Ln.spN (pl a) (pl b) (pl c), s.r1 * Ln.spB (pl a) (pl b) (pl c)⟩, _, _, rfl, ?_, up za, up zb, (zc.mul s1).mono (by omega), (zd.mul s2).mono (by omega)⟩
              rw [nx]
              unfold stp
              rw [hp]
              show _ = if p.2 = 1 then _ else _
              rw [if_neg c1]
  · rintro ev ⟨s, u, u', rfl, hs, _⟩
    rw [show (List.map (fun kv : KD × PyData => kdD kv.1) (tabD t)).length = t.length by unfold tabD; simp, List.take_length] at hs
    rw [← hs] at q
    exact ⟨(by show 2 ≤ sizeLine; decide), q⟩
end

section
/-- by name -/
def by5 {α : Type} (a b c d : Str) (v0 v1 v2 v3 v4 : α) (x : Str) : α := if x = a then v0 else if x = b then v1 else if x = c then v2 else if x = d then v3 else v4
theorem by5_at {α : Type} {a b c d e : Str} (h : [a, b, c, d, e].Nodup) (v0 v1 v2 v3 v4 : α) : by5 a b c d v0 v1 v2 v3 v4 a = v0 ∧ by5 a b c d v0 v1 v2 v3 v4 b = v1 ∧ by5 a b c d v0 v1 v2 v3 v4 c = v2 ∧ by5 a b c d v0 v1 v2 v3 v4 d = v3 ∧ by5 a b c d v0 v1 v2 v3 v4 e = v4 := by
  obtain ⟨h1, h2, h3, h4, h5, h6, h7, h8, h9, h10⟩ := five_ne h
  unfold by5
  refine ⟨?_, ?_, ?_, ?_, ?_⟩
  · simp
  · simp [Ne.symm h1]
  · simp [Ne.symm h2, Ne.symm h5]
  · simp [Ne.symm h3, Ne.symm h6, Ne.symm h8]
  · simp [Ne.symm h4, Ne.symm h7, Ne.symm h9, Ne.symm h10]
theorem valD_pl {a b c d e : Str} (h : [a, b, c, d, e].Nodup) (p0 p1 p2 p3 p4 : Ln.Pt) : ∀ x ∈ [a, b, c, d, e], valD (pl5 a b c d e p0 p1 p2 p3 p4) (nK x) = some (ptD (by5 a b c d p0 p1 p2 p3 p4 x)) := by
  obtain ⟨h1, h2, h3, h4, h5, h6, h7, h8, h9, h10⟩ := five_ne h
  obtain ⟨e0, e1, e2, e3, e4⟩ := by5_at h p0 p1 p2 p3 p4
  have n1 := nK_ne h1
  have n2 := nK_ne h2
  have n3 := nK_ne h3
  have n4 := nK_ne h4
  have n5 := nK_ne h5
  have n6 := nK_ne h6
  have n7 := nK_ne h7
  have n8 := nK_ne h8
  have n9 := nK_ne h9
  have n10 := nK_ne h10
  intro x hx
  simp only [List.mem_cons, List.not_mem_nil, or_false] at hx
  rcases hx with rfl | rfl | rfl | rfl | rfl
  · rw [e0]; simp [valD, pl5]
  · rw [e1]; simp [valD, pl5, n1]
  · rw [e2]; simp [valD, pl5, n2, n5]
  · rw [e3]; simp [valD, pl5, n3, n6, n8]
  · rw [e4]; simp [valD, pl5, n4, n7, n9, n10]
theorem placed_z {p0 p1 p2 p3 p4 : Ln.Pt} (h : Placed p0 p1 p2 p3 p4) (a b c d : Str) (x : Str) : PtZ (by5 a b c d p0 p1 p2 p3 p4 x) := by
  unfold by5
  split
  · exact h.z0
  split
  · exact h.z1
  split
  · exact h.z2
  split
  · exact h.z3
  · exact h.z4
/-- three names in order: the cross takes the turn's sign -/
theorem row_cr (X Y : Str → Int) {p q r : Str} (n1 : p ≠ q) (n2 : p ≠ r) (n3 : q ≠ r) : ∃ x y z, tK p q r = [x, y, z] ∧ Ln.cr X Y x y z = tn p q r * Ln.cr X Y p q r := by
  have s12 := Ln.swap12 X Y
  have s23 := Ln.swap23 X Y
  have iv : ∀ {u v : Str}, Nm.lt u v → inv u v = 1 := fun {u v} h => by unfold inv; rw [if_pos (decide_eq_true (show u.cps.toList < v.cps.toList from h))]
  have iv0 : ∀ {u v : Str}, ¬ Nm.lt u v → inv u v = 0 := fun {u v} h => by
    unfold inv
    rw [if_neg]
    simpa using (show ¬ u.cps.toList < v.cps.toList from h)
  unfold tK tn
  by_cases a : Nm.lt q p
  · have a' := Nm.asym a
    by_cases b : Nm.lt r p
    · have b' := Nm.asym b
      by_cases c : Nm.lt r q
      · refine ⟨r, q, p, by simp [Nm.srt, Nm.ins, a, b, c], ?_⟩
        rw [iv a, iv b, iv c, if_neg (by decide), s12 q r p, s23 q p r, s12 p q r]
        grind
      · refine ⟨q, r, p, by simp [Nm.srt, Nm.ins, a, b, c], ?_⟩
        rw [iv a, iv b, iv0 c, if_pos (by decide), s23 q p r, s12 p q r]
        grind
    · have b' := Nm.other (fun z => n2 z.symm) b
      have c : ¬ Nm.lt r q := fun z => b (Nm.tr z a)
      refine ⟨q, p, r, by simp [Nm.srt, Nm.ins, a, b, c], ?_⟩
      rw [iv a, iv0 b, iv0 c, if_neg (by decide), s12 p q r]
      grind
  · have a' := Nm.other (fun z => n1 z.symm) a
    by_cases b : Nm.lt r p
    · have c : Nm.lt r q := Nm.tr b a'
      refine ⟨r, p, q, by simp [Nm.srt, Nm.ins, a, b, c], ?_⟩
      rw [iv0 a, iv b, iv c, if_pos (by decide), s12 p r q, s23 p q r]
      grind
    · by_cases c : Nm.lt r q
      · refine ⟨p, r, q, by simp [Nm.srt, Nm.ins, a, b, c], ?_⟩
        rw [iv0 a, iv0 b, iv c, if_neg (by decide), s23 p q r]
        grind
      · refine ⟨p, q, r, by simp [Nm.srt, Nm.ins, a, b, c], ?_⟩
        rw [iv0 a, iv0 b, iv0 c, if_pos (by decide)]
        grind
/-- what the law weighs -/
theorem weighs {a b c d e : Str} (h : [a, b, c, d, e].Nodup) {p0 p1 p2 p3 p4 : Ln.Pt} (hp : Placed p0 p1 p2 p3 p4) :
    ∃ s : Acc, s = (vec a b c d e).foldl (stp (by5 a b c d p0 p1 p2 p3 p4)) ⟨1, 1, 1, 1⟩ ∧ accZ 2001 s ∧ s.l0 * s.r1 = (if odd4 a b c d e then -1 else 1) * s.r0 * s.l1 := by
  obtain ⟨h1, h2, h3, h4, h5, h6, h7, h8, h9, h10⟩ := five_ne h
  have nz := hp.n
  obtain ⟨L, hL, hc⟩ := Ln.common [(p0.a, p0.b), (p1.a, p1.b), (p2.a, p2.b), (p3.a, p3.b), (p4.a, p4.b), (p0.c, p0.d), (p1.c, p1.d), (p2.c, p2.d), (p3.c, p3.d), (p4.c, p4.d)] (by
    intro p hp'
    simp only [List.mem_cons, List.not_mem_nil, or_false] at hp'
    rcases hp' with rfl | rfl | rfl | rfl | rfl | rfl | rfl | rfl | rfl | rfl
    · exact (nz p0 (by simp)).1
    · exact (nz p1 (by simp)).1
    · exact (nz p2 (by simp)).1
    · exact (nz p3 (by simp)).1
    · exact (nz p4 (by simp)).1
    · exact (nz p0 (by simp)).2
    · exact (nz p1 (by simp)).2
    · exact (nz p2 (by simp)).2
    · exact (nz p3 (by simp)).2
    · exact (nz p4 (by simp)).2)
  obtain ⟨X0, x0⟩ := hc (p0.a, p0.b) (by simp)
  obtain ⟨X1, x1⟩ := hc (p1.a, p1.b) (by simp)
  obtain ⟨X2, x2⟩ := hc (p2.a, p2.b) (by simp)
  obtain ⟨X3, x3⟩ := hc (p3.a, p3.b) (by simp)
  obtain ⟨X4, x4⟩ := hc (p4.a, p4.b) (by simp)
  obtain ⟨Y0, y0⟩ := hc (p0.c, p0.d) (by simp)
  obtain ⟨Y1, y1⟩ := hc (p1.c, p1.d) (by simp)
  obtain ⟨Y2, y2⟩ := hc (p2.c, p2.d) (by simp)
  obtain ⟨Y3, y3⟩ := hc (p3.c, p3.d) (by simp)
  obtain ⟨Y4, y4⟩ := hc (p4.c, p4.d) (by simp)
  obtain ⟨e0, e1, e2, e3, e4⟩ := by5_at h p0 p1 p2 p3 p4
  obtain ⟨f0, f1, f2, f3, f4⟩ := by5_at h X0 X1 X2 X3 X4
  obtain ⟨g0, g1, g2, g3, g4⟩ := by5_at h Y0 Y1 Y2 Y3 Y4
  have pz := placed_z hp a b c d
  generalize by5 a b c d p0 p1 p2 p3 p4 = pl at *
  generalize by5 a b c d X0 X1 X2 X3 X4 = X at *
  generalize by5 a b c d Y0 Y1 Y2 Y3 Y4 = Y at *
  have pls : ∀ x ∈ [a, b, c, d, e], Ln.Pl pl X Y L x := fun x hx => by
    simp only [List.mem_cons, List.not_mem_nil, or_false] at hx
    rcases hx with rfl | rfl | rfl | rfl | rfl
    · exact ⟨by rw [e0, f0]; exact x0, by rw [e0, g0]; exact y0, by rw [e0]; exact (nz p0 (by simp)).1, by rw [e0]; exact (nz p0 (by simp)).2⟩
    · exact ⟨by rw [e1, f1]; exact x1, by rw [e1, g1]; exact y1, by rw [e1]; exact (nz p1 (by simp)).1, by rw [e1]; exact (nz p1 (by simp)).2⟩
    · exact ⟨by rw [e2, f2]; exact x2, by rw [e2, g2]; exact y2, by rw [e2]; exact (nz p2 (by simp)).1, by rw [e2]; exact (nz p2 (by simp)).2⟩
    · exact ⟨by rw [e3, f3]; exact x3, by rw [e3, g3]; exact y3, by rw [e3]; exact (nz p3 (by simp)).1, by rw [e3]; exact (nz p3 (by simp)).2⟩
    · exact ⟨by rw [e4, f4]; exact x4, by rw [e4, g4]; exact y4, by rw [e4]; exact (nz p4 (by simp)).1, by rw [e4]; exact (nz p4 (by simp)).2⟩
  have col : Ln.cr X Y a b c = 0 := by
    obtain ⟨t0, t1, nt, w1, w2, w3, w4⟩ := hp.way
    refine Ln.on_line (t0 := t0) nt ?_ ?_
    · rw [f0, f1, f2]
      refine Ln.way_is x0 x1 ?_ (nz p0 (by simp)).1 (nz p1 (by simp)).1
      rw [← w1, ← w2]
      exact x2
    · rw [g0, g1, g2]
      refine Ln.way_is y0 y1 ?_ (nz p0 (by simp)).2 (nz p1 (by simp)).2
      rw [← w3, ← w4]
      exact y2
  have pk := Ln.plucker X Y a b c d e col
  obtain ⟨u1, v1, w1, r1, c1⟩ := row_cr X Y h1 h3 h6
  obtain ⟨u2, v2, w2, r2, c2⟩ := row_cr X Y h2 h4 h9
  obtain ⟨u3, v3, w3, r3, c3⟩ := row_cr X Y h1 h4 h7
  obtain ⟨u4, v4, w4, r4, c4⟩ := row_cr X Y h2 h3 h8
  have mem : ∀ {p q r x y z m : Str}, tK p q r = [x, y, z] → p ∈ [a, b, c, d, e] → q ∈ [a, b, c, d, e] → r ∈ [a, b, c, d, e] → m ∈ [x, y, z] → m ∈ [a, b, c, d, e] := fun {p q r x y z m} e hp hq hr hm => by
    have := tK_mem (e ▸ hm : m ∈ tK p q r)
    simp only [List.mem_cons, List.not_mem_nil, or_false] at this
    rcases this with rfl | rfl | rfl <;> assumption
  have Is3 : ∀ {p q r x y z : Str}, tK p q r = [x, y, z] → p ∈ [a, b, c, d, e] → q ∈ [a, b, c, d, e] → r ∈ [a, b, c, d, e] → Ln.Is (Ln.spN (pl x) (pl y) (pl z)) (Ln.spB (pl x) (pl y) (pl z)) (Ln.cr X Y x y z) (L * L) := fun e hp hq hr =>
    Ln.span_is (pls _ (mem e hp hq hr (by simp))) (pls _ (mem e hp hq hr (by simp))) (pls _ (mem e hp hq hr (by simp)))
  have i1 := Is3 r1 (by simp) (by simp) (by simp)
  have i2 := Is3 r2 (by simp) (by simp) (by simp)
  have i3 := Is3 r3 (by simp) (by simp) (by simp)
  have i4 := Is3 r4 (by simp) (by simp) (by simp)
  have fold : (vec a b c d e).foldl (stp pl) ⟨1, 1, 1, 1⟩ = ⟨1 * Ln.spN (pl u1) (pl v1) (pl w1) * Ln.spN (pl u2) (pl v2) (pl w2), 1 * Ln.spB (pl u1) (pl v1) (pl w1) * Ln.spB (pl u2) (pl v2) (pl w2), 1 * Ln.spN (pl u3) (pl v3) (pl w3) * Ln.spN (pl u4) (pl v4) (pl w4), 1 * Ln.spB (pl u3) (pl v3) (pl w3) * Ln.spB (pl u4) (pl v4) (pl w4)⟩ := by
    unfold vec vec4
    rw [List.foldl_append, r1, r2, r3, r4]
    cases odd4 a b c d e <;> rfl
  have z1 : Sz 1 (1 : Int) := by show (1 : Int).natAbs < 2 ^ 1; decide
  have k1 := span_sz (pz u1) (pz v1) (pz w1)
  have k2 := span_sz (pz u2) (pz v2) (pz w2)
  have k3 := span_sz (pz u3) (pz v3) (pz w3)
  have k4 := span_sz (pz u4) (pz v4) (pz w4)
  refine ⟨_, fold.symm, ⟨(z1.mul k1.1).mul k2.1, (z1.mul k1.2).mul k2.2, (z1.mul k3.1).mul k4.1, (z1.mul k3.2).mul k4.2⟩, ?_⟩
  have hx : Ln.cr X Y u1 v1 w1 * Ln.cr X Y u2 v2 w2 = (if odd4 a b c d e then -1 else 1) * (Ln.cr X Y u3 v3 w3 * Ln.cr X Y u4 v4 w4) := by
    rw [c1, c2, c3, c4]
    have od : (if odd4 a b c d e = true then (-1 : Int) else 1) = tn a b d * tn a c e * tn a b e * tn a c d := by
      unfold odd4
      rcases tn_or a b d with h1 | h1 <;> rcases tn_or a c e with h2 | h2 <;> rcases tn_or a b e with h3 | h3 <;> rcases tn_or a c d with h4 | h4 <;> rw [h1, h2, h3, h4] <;> decide
    rw [od]
    have e1 : tn a b d * Ln.cr X Y a b d * (tn a c e * Ln.cr X Y a c e) = tn a b d * tn a c e * (Ln.cr X Y a b d * Ln.cr X Y a c e) := by grind
    rw [e1, pk]
    rcases tn_or a b e with h3 | h3 <;> rcases tn_or a c d with h4 | h4 <;> rw [h3, h4] <;> grind
  have fin := Ln.cross_eq (Int.mul_ne_zero hL hL) i1 i2 i3 i4 hx
  simp only [Int.one_mul]
  rw [fin]
end

section
variable {P : Program} {w : World} {K : PySem.W.Frag} {mg : Str → Option Value} {base : Heap} {f : Addr} {fd : FuncData}
theorem kit_list_list {K : PySem.W.Frag} : PySem.W.kitOne K (.type "list") (toVal (.ty "list")) = some true := by kernel_rfl
theorem kit_dict_dict {K : PySem.W.Frag} : PySem.W.kitOne K (.type "dict") (toVal (.ty "dict")) = some true := by kernel_rfl
theorem cut5 (a b c d e : Str) (r : List Str) : cutD (strsD (a :: b :: c :: d :: e :: r)) none (some 5) = strsD [a, b, c, d, e] := by
  unfold cutD
  rw [HT.sIx_none, show (some (5 : Int)) = some ((5 : Nat) : Int) from rfl, HT.sIx_nat, len_strsD, List.drop_zero, Nat.sub_zero, Nat.min_eq_left (by simp)]
  rfl
theorem five_of {a b c d e : Str} {r : List Str} (h : (a :: b :: c :: d :: e :: r).Nodup) (hw : ∀ x ∈ a :: b :: c :: d :: e :: r, Wd x) : Five a b c d e := by
  have p : (a :: b :: c :: d :: e :: r) = [a, b, c, d, e] ++ r := rfl
  rw [p] at h hw
  exact ⟨(List.nodup_append.mp h).1, fun x hx => hw x (List.mem_append_left _ hx)⟩
theorem eqv_strs : ∀ ss : List Str, PyData.eqvAll (strsD ss) (strsD ss) = true
  | [] => rfl
  | x :: r => by
    show (PyData.eqv (.str x) (.str x) && PyData.eqvAll (strsD r) (strsD r)) = true
    rw [eqv_strs r, Bool.and_true]
    show (x == x) = true
    exact beq_self_eq_true _
theorem eqv_tup (ss : List Str) : PyData.eqv (.tuple (strsD ss)) (.tuple (strsD ss)) = true := by
  simp only [PyData.eqv]
  exact eqv_strs ss
def needsD (a b c d e : Str) : List PyData := [tD a b d, tD a c e, tD a b e, tD a c d]
theorem eqv_needs (a b c d e : Str) : PyData.eqv (.list (needsD a b c d e)) (.list (needsD a b c d e)) = true := by
  have t : ∀ x y z, PyData.eqv (tD x y z) (tD x y z) = true := fun x y z => eqv_tup _
  simp only [PyData.eqv, needsD, PyData.eqvAll, t, Bool.and_self]
theorem wd_tK {a b c d e x y z : Str} (h : Five a b c d e) (hx : x ∈ [a, b, c, d, e]) (hy : y ∈ [a, b, c, d, e]) (hz : z ∈ [a, b, c, d, e]) : ∀ m ∈ tK x y z, Wd m := fun m hm => by
  have := tK_mem hm
  simp only [List.mem_cons, List.not_mem_nil, or_false] at this
  rcases this with rfl | rfl | rfl
  · exact h.2 _ hx
  · exact h.2 _ hy
  · exact h.2 _ hz
theorem shaped_needs {a b c d e : Str} (h : Five a b c d e) : SeqAt.shaped (.list (needsD a b c d e)) = true := by
  have l : ∀ {x y z : Str}, x ∈ [a, b, c, d, e] → y ∈ [a, b, c, d, e] → z ∈ [a, b, c, d, e] → PyData.canLay0 (tD x y z) = true := fun hx hy hz => by
    show PyData.canLay0 (.tuple _) = true
    rw [show ∀ l, PyData.canLay0 (.tuple l) = PyData.canLayAll0 l from fun l => by simp only [PyData.canLay0]]
    exact canLay_strs (wd_tK h hx hy hz)
  have dp : ∀ x y z : Str, PyData.depth (tD x y z) = 1 := fun x y z => by
    show PyData.depthAll _ + 1 = 1
    rw [depth_strs]
  show (PyData.canLay0 (.list (needsD a b c d e)) && decide (PyData.depth (.list (needsD a b c d e)) ≤ 64)) = true
  rw [show PyData.canLay0 (.list (needsD a b c d e)) = true by simp only [PyData.canLay0, needsD, PyData.canLayAll0, l (x := a) (y := b) (z := d) (by simp) (by simp) (by simp), l (x := a) (y := c) (z := e) (by simp) (by simp) (by simp), l (x := a) (y := b) (z := e) (by simp) (by simp) (by simp), l (x := a) (y := c) (z := d) (by simp) (by simp) (by simp), Bool.and_self], Bool.true_and]
  refine decide_eq_true ?_
  simp only [PyData.depth, needsD, PyData.depthAll, dp]
  decide
theorem ap_strs (D : PyData) (ss : List Str) : Ap D (.tuple (strsD ss)) := .tup fun x hx => by
  obtain ⟨y, _, rfl⟩ := List.mem_map.mp hx
  exact .str y
theorem ap_needs (D : PyData) (a b c d e : Str) : ∀ x ∈ needsD a b c d e, Ap D x := fun x hx => by
  simp only [needsD, List.mem_cons, List.not_mem_nil, or_false] at hx
  rcases hx with rfl | rfl | rfl | rfl <;> exact ap_strs _ _
theorem ap_tab (D : PyData) (t : Tab) : ∀ kv ∈ tabD t, Ap D kv.2 := fun kv hkv => by
  obtain ⟨p, _, rfl⟩ := List.mem_map.mp hkv
  exact .int _
theorem ap_pr (D : PyData) (i j : Int) : Ap D (prD i j) := .tup fun x hx => by
  simp only [List.mem_cons, List.not_mem_nil, or_false] at hx
  rcases hx with rfl | rfl <;> exact .int _
theorem eq_self {a b c d e : Str} (h : [a, b, c, d, e].Nodup) : eqDD (tabD (vec a b c d e)) (tabD (vec a b c d e)) = true := eq_tab (vec_nodup h) rfl fun p hp => hp
theorem mem_odd {a b c d e : Str} {p : List Str × Int} : p ∈ (if odd4 a b c d e then [([], 1)] else [] : Tab) ↔ odd4 a b c d e = true ∧ p = ([], 1) := by
  cases odd4 a b c d e <;> simp
theorem get_odd {a b c d e : Str} (h : [a, b, c, d, e].Nodup) : (valD (tabD (vec a b c d e)) (.inr [])).getD (.int 0) = .int (if odd4 a b c d e then 1 else 0) := by
  cases o : odd4 a b c d e with
  | true =>
    have m : (([] : List Str), (1 : Int)) ∈ vec a b c d e := by
      unfold vec
      exact List.mem_append_right _ (mem_odd.mpr ⟨o, rfl⟩)
    rw [show (.inr [] : KD) = .inr (sK []) from rfl, val_tab (vec_nodup h) m]
    rfl
  | false =>
    have e1 : vec a b c d e = vec4 a b c d e := by unfold vec; rw [o]; simp
    have : valD (tabD (vec a b c d e)) (.inr []) = none := by
      rw [e1]
      have n : ∀ x y z, ¬ (Sum.inr (sK (tK x y z)) : KD) = Sum.inr [] := fun x y z q => tK_nil x y z (inr_sK (b := []) q)
      simp [valD, tabD, vec4, n]
    rw [this]
    rfl
theorem row_ok {a b c d e : Str} (h : Five a b c d e) {p0 p1 p2 p3 p4 : Ln.Pt} (hp : Placed p0 p1 p2 p3 p4) : ∀ p ∈ vec a b c d e, rowOk (pl5 a b c d e p0 p1 p2 p3 p4) (by5 a b c d p0 p1 p2 p3 p4) p.1 := fun p hpm => by
  have one : ∀ {x y z : Str}, x ∈ [a, b, c, d, e] → y ∈ [a, b, c, d, e] → z ∈ [a, b, c, d, e] → rowOk (pl5 a b c d e p0 p1 p2 p3 p4) (by5 a b c d p0 p1 p2 p3 p4) (tK x y z) := fun {x y z} hx hy hz => by
    have l := tK_len x y z
    match eq : tK x y z, l with
    | [u, v, w], _ =>
      refine .inr ⟨u, v, w, rfl, fun m hm => ?_⟩
      have hm' : m ∈ tK x y z := by rw [eq]; exact hm
      have := tK_mem hm'
      have m5 : m ∈ [a, b, c, d, e] := by
        simp only [List.mem_cons, List.not_mem_nil, or_false] at this
        rcases this with rfl | rfl | rfl <;> assumption
      exact ⟨h.2 m m5, valD_pl h.1 p0 p1 p2 p3 p4 m m5, placed_z hp a b c d m⟩
  unfold vec at hpm
  rcases List.mem_append.mp hpm with z | z
  · simp only [vec4, List.mem_cons, List.not_mem_nil, or_false] at z
    rcases z with rfl | rfl | rfl | rfl <;> exact one (by simp) (by simp) (by simp)
  · obtain ⟨_, rfl⟩ := mem_odd.mp z
    exact .inl rfl
theorem vec_len5 (a b c d e : Str) : (vec a b c d e).length ≤ 5 := by
  unfold vec
  rw [List.length_append]
  show 4 + _ ≤ 5
  split <;> decide
theorem ok_law (F : Fun K "law" "law" s_law f fd) (T : Bl mg)  (c__law_names : Cal P w K mg base CX0 3 "_law_names" ["_law_script", "_law_at", "_law_many"] (spP w K (phNames))) (c_needs : Cal P w K mg base CX0 2 "needs" ["exchange"] (spP w K (phNeeds))) (c_vector : Cal P w K mg base CX0 3 "vector" ["exchange"] (spP w K (phVec))) (c__law_products : Cal P w K mg base CX0 3 "_law_products" ["_law_places_here", "_law_found"] (spP w K (phProd))) (c_rests_on : Cal P w K mg base CX0 2 "rests_on" ["exchange"] (spP w K (phRests))) (c__law_triple : Cal P w K mg base CX0 1 "_law_triple" ["_law_one", "_law_other", "_law_third"] (spP w K (phTri))) (c__law_places : Cal P w K mg base CX0 3 "_law_places" ["_law_script", "_law_names_here"] (spP w K (phPlaces))) (c__law_needs : Cal P w K mg base CX0 2 "_law_needs" ["_law_exchange"] (spP w K (phNeeds))) (c__law_vector : Cal P w K mg base CX0 3 "_law_vector" ["_law_exchange"] (spP w K (phVec))) :
    FnOk P w K mg base CX0 4 f fd ["_law_script"] (spP w K (phLaw)) := by
  have sc := sc_law
  refine F.okP sc_law (fun ds C Z h => ?_) (fun cdv A outer s H E hr => ?_)
  · unfold phLaw at h; first | (split at h <;> first | rfl | exact False.elim h) | (obtain ⟨rfl, _⟩ := h; rfl) | (obtain ⟨_, rfl, _⟩ := h; rfl) | (obtain ⟨_, _, rfl, _⟩ := h; rfl) | (obtain ⟨_, _, _, rfl, _⟩ := h; rfl) | (obtain ⟨_, _, _, _, rfl, _⟩ := h; rfl) | (obtain ⟨_, _, _, _, _, rfl, _⟩ := h; rfl) | (obtain ⟨_, _, _, _, _, _, rfl, _⟩ := h; rfl) | (obtain ⟨_, _, _, _, _, _, _, rfl, _⟩ := h; rfl) | (obtain ⟨_, _, _, _, _, _, _, _, rfl, _⟩ := h; rfl)
  refine ⟨_, (q_scons (q_set 1 sc.nd (q_call c__law_names (hr.mono (by decide)) (q_acons (q_v 0) (q_acons q_int (q_acons q_int q_anil)))))
    (q_scons (q_mid (q_if (q_tcmp o_lt (q_callB c_len (by rfl) T.b_len PyProof.Rows.Boot.«len» (q_acons (q_v 1) q_anil)) q_int (nomark _))
      (q_sone (q_set 1 sc.nd (QO.qe (q_lst (q_acons q_str (q_acons q_str (q_acons q_str (q_acons q_str (q_acons q_str q_anil)))))))))
      q_snil))
    (q_scons (q_mid (q_set 2 sc.nd (q_callTy c_tuple (by rfl) T.b_tuple PyProof.Rows.Boot.«tuple» (q_acons (QO.qe (q_sl (q_v 1) q_pno (q_p q_int))) q_anil))))
    (q_scons (q_if (q_tcmp (o_neD hr) (q_call c_rests_on (hr.mono (by decide)) (q_acons (q_v 2) q_anil)) (q_call c__law_triple (hr.mono (by decide)) (q_acons (q_ix (q_v 1) q_int (fun _ _ => rfl)) (q_acons (q_ix (q_v 1) q_int (fun _ _ => rfl)) (q_acons (q_ix (q_v 1) q_int (fun _ _ => rfl)) q_anil)))) (nomark _))
      (q_sone (q_ret q_bl))
      q_snil)
    (q_scons (q_setO 3 sc.nd (q_callO c_needs (hr.mono (by decide)) (q_acons (q_v 2) q_anil)))
    (q_scons (q_if (QW.qt (q_wor (q_tnot (q_tval (q_lend 3 (q_isi K (q_v 3) (by rfl) T.b_isinstance (by rfl) T.b_list PyProof.Rows.Boot.«list»)))) (q_wor1 (q_lendT 3 (q_tcmp (o_neD hr) (q_v 3) (q_call c__law_needs (hr.mono (by decide)) (q_acons (q_v 2) q_anil)) (nomark _))))))
      (q_sone (q_ret q_bl))
      q_snil)
    (q_scons (q_setO 4 sc.nd (q_callO c_vector (hr.mono (by decide)) (q_acons (q_v 2) q_anil)))
    (q_scons (q_if (QW.qt (q_wor (q_tnot (q_tval (q_lend 4 (q_isi K (q_v 4) (by rfl) T.b_isinstance (by rfl) T.b_dict PyProof.Rows.Boot.«dict»)))) (q_wor1 (q_lendT 4 (q_tcmp (o_neK hr) (q_v 4) (q_call c__law_vector (hr.mono (by decide)) (q_acons (q_v 2) q_anil)) (nomark _))))))
      (q_sone (q_ret q_bl))
      q_snil)
    (q_scons (q_if (q_tval (q_lend 4 (q_callB (c_any rfl) (by rfl) T.b_any PyProof.Rows.Boot.«any» (q_acons (QO.qe (q_compD (cn := ["_law_key"]) (fr := ["_law_found"]) (js := [4]) (q_v 4) rfl BlkOk.of
        (fun _ _ _ _ _ => (q_gn 0 (show ((["_law_key"] : List Str) ++ ((["_law_found"] : List Str) ++ [accN])).Nodup by decide +kernel))) (fun _ _ _ _ _ => q_f0) (fun _ _ _ _ _ => (q_isi K (q_dix hr (q_v 1) (q_v 0) (fun _ _ => rfl)) (by rfl) T.b_isinstance (by rfl) T.b_bool PyProof.Rows.Boot.«bool»)))) q_anil))))
      (q_sone (q_ret q_bl))
      q_snil)
    (q_scons (q_asg (q_lend 4 (q_call c__law_products (hr.mono (by decide)) (q_acons (q_call c__law_places (hr.mono (by decide)) (q_acons (q_v 0) (q_acons (q_v 1) q_anil))) (q_acons (q_v 4) q_anil)))) (q_gtup (n := 2) rfl (q_gcons (q_gn 5 sc.nd) (q_gcons (q_gn 6 sc.nd) q_gnil))))
    (q_scons (q_mid (q_set 7 sc.nd (q_ix (QO.qe (q_lst (q_acons q_int (q_acons (q_neg q_int) q_anil)))) (q_lend 4 (q_dget2 hr (q_v 4) (q_tup q_anil) q_int)) (fun _ _ => rfl))))
    (q_scons (q_if (q_tcmp o_ne (q_op o_mul (q_ix (q_v 5) q_int (fun _ _ => rfl)) (q_ix (q_v 6) q_int (fun _ _ => rfl))) (q_op o_mul (q_op o_mul (q_v 7) (q_ix (q_v 6) q_int (fun _ _ => rfl))) (q_ix (q_v 5) q_int (fun _ _ => rfl))) (nomark _))
      (q_sone (q_ret q_bl))
      q_snil)
    (q_scons (q_dput 4 hr q_int (q_tup (q_acons q_str q_anil)))
    (q_scons (q_clear 3)
    (q_sone (q_ret (q_and (q_cmp (o_eqK hr) (q_call c_vector (hr.mono (by decide)) (q_acons (q_v 2) q_anil)) (q_call c__law_vector (hr.mono (by decide)) (q_acons (q_v 2) q_anil)) (nomark _)) (q_one (q_cmp (o_eqD hr) (q_call c_needs (hr.mono (by decide)) (q_acons (q_v 2) q_anil)) (q_call c__law_needs (hr.mono (by decide)) (q_acons (q_v 2) q_anil)) (nomark _)))))))))))))))))))), fun ds C Z h => ?_⟩
  obtain ⟨ns, rfl, h63, q⟩ := h
  refine ⟨ns, 1, 9, rfl, by decide, by decide, fun ss hn hl hw => ?_⟩
  refine ⟨fun ev => ∃ (ss : List Str), ev = [.val (.list (intsD ns)), .val (.list (strsD ss)), .unk, .unk, .unk, .unk, .unk, .unk] ∧ ss.Nodup ∧ 5 ≤ ss.length ∧ ∀ x ∈ ss, Wd x, ?_, ?_⟩
  · show if decide (((strsD ss).length : Int) < 5) = true then _ else _
    rw [len_strsD]
    refine iteLt (fun c => ?_) (fun c => ?_)
    · refine ⟨(by show 5 ≤ sizeLine; decide), ["q", "a", "zz", "b", "k"], rfl, by decide +kernel, by decide, ?_⟩
      intro x hx
      have : ∀ x ∈ (["q", "a", "zz", "b", "k"] : List Str), 1 ≤ x.length ∧ x.length ≤ 8 ∧ ∀ c ∈ x.cps.toList, 97 ≤ c ∧ c ≤ 122 := by decide +kernel
      exact this x hx
    · exact ⟨ss, rfl, hn, by omega, hw⟩
  rintro ev ⟨ss, rfl, hn, hl, hw⟩
  match ss, hn, hl, hw with
  | a :: b :: c :: d :: e :: r, hn, hl, hw =>
    have h5 := five_of hn hw
    refine ⟨fun ev => ev = [.val (.list (intsD ns)), .val (.list (strsD (a :: b :: c :: d :: e :: r))), .val (exD a b c d e), .unk, .unk, .unk, .unk, .unk], ?_, ?_⟩
    · show [Sl.val (.list (intsD ns)), .val (.list (strsD (a :: b :: c :: d :: e :: r))), .val (.tuple (cutD (strsD (a :: b :: c :: d :: e :: r)) none (some 5))), .unk, .unk, .unk, .unk, .unk] = _
      rw [cut5]
      rfl
    rintro ev rfl
    have at5 : ∀ (n : Nat) (x : PyData), (strsD (a :: b :: c :: d :: e :: r))[n]? = some x → atI (strsD (a :: b :: c :: d :: e :: r)) ((n : Nat) : Int) = some x := fun n x h => atI_nat h
    have sh3 : SeqAt.shaped (tD a b c) = true := shaped_strs (wd_tK h5 (by simp) (by simp) (by simp))
    refine ⟨a, b, c, d, e, rfl, optC_of (at5 0 (.str a) rfl) (optC_of (at5 1 (.str b) rfl) (optC_of (at5 2 (.str c) rfl) ⟨a, b, c, rfl, sh3, sh3, iteBF (by show (!PyData.eqv (.tuple (strsD (tK a b c))) (.tuple (strsD (tK a b c)))) = false; rw [eqv_tup]; rfl) ?_⟩))⟩
    have shn := shaped_needs h5
    have apN : ∀ D : PyData, ApM D (.lst (needsD a b c d e)) := fun D => ap_needs D a b c d e
    refine ⟨a, b, c, d, e, rfl, ?_⟩
    refine ⟨true, kit_list_list, rfl, .bl _, ⟨trivial, trivial, trivial, trivial, trivial, trivial, trivial, trivial⟩, ?_⟩
    refine ⟨a, b, c, d, e, rfl, shn, shn, rfl, ⟨trivial, trivial, trivial, trivial, trivial, trivial, trivial, trivial⟩, iteBF (by show (!PyData.eqv (.list (needsD a b c d e)) (.list (needsD a b c d e))) = false; rw [eqv_needs]; rfl) ?_⟩
    refine ⟨a, b, c, d, e, rfl, h5, ?_⟩
    have ab4 : ∀ (D : PyData) (s0 s1 s2 s4 s5 s6 s7 : Sl), ApSl D s0 → ApSl D s1 → ApSl D s2 → ApSl D s5 → ApSl D s6 → ApSl D s7 → ApBut D 4 [s0, s1, s2, .own (.lst (needsD a b c d e)), s4, s5, s6, s7] := fun D _ _ _ _ _ _ _ h0 h1 h2 h5 h6 h7 => ⟨h0, h1, h2, apN D, h5, h6, h7, trivial⟩
    refine ⟨true, kit_dict_dict, rfl, .bl _, ab4 _ _ _ _ _ _ _ _ trivial trivial trivial trivial trivial trivial, ?_⟩
    refine ⟨a, b, c, d, e, rfl, h5, tabD (vec a b c d e), tabD (vec a b c d e), rfl, rfl, sh_tab _, sh_tab _, rfl, ab4 _ _ _ _ _ _ _ _ trivial trivial trivial trivial trivial trivial, iteBF (by show (!eqDD (tabD (vec a b c d e)) (tabD (vec a b c d e))) = false; rw [eq_self h5.1]; rfl) ?_⟩
    refine ⟨tabD (vec a b c d e), rfl, ?_⟩
    refine ⟨fun i acc => acc = List.replicate i (.bool false), rfl, ?_, ?_⟩
    · rintro i x acc hx rfl
      have hx' : ((vec a b c d e).map fun p => kdD (.inr (sK p.1)))[i]? = some x := by
        rw [← hx]
        unfold tabD
        rw [List.map_map]
        rfl
      have hi : i < 5 := by
        have := (List.getElem?_eq_some_iff.mp hx').1
        rw [List.length_map] at this
        exact Nat.lt_of_lt_of_le this (vec_len5 a b c d e)
      rw [List.getElem?_map] at hx'
      cases ep : (vec a b c d e)[i]? with
      | none => rw [ep] at hx'; cases hx'
      | some p =>
        rw [ep] at hx'
        cases hx'
        refine ⟨tabD (vec a b c d e), .inr (sK p.1), rfl, rfl, optC_of (val_tab (k := p.1) (v := p.2) (vec_nodup h5.1) (List.mem_of_getElem? ep)) ⟨false, kit_int_bool, rfl, ?_, ?_⟩⟩
        · rw [List.length_replicate]
          exact small1000 (by omega)
        · exact List.replicate_succ'.symm
    rintro acc rfl
    refine ⟨List.replicate (List.map (fun kv : KD × PyData => kdD kv.1) (tabD (vec a b c d e))).length false, by rw [List.map_replicate], rfl, .bl _, ab4 _ _ _ _ _ _ _ _ trivial trivial trivial trivial trivial trivial, iteBF (by
      rw [List.any_eq_false]
      intro x hx
      rw [List.eq_of_mem_replicate hx]
      decide) ?_⟩
    refine ⟨ns, a, b, c, d, e, r, rfl, h5.1, fun p0 p1 p2 p3 p4 hp => ?_⟩
    obtain ⟨s, hs, ⟨za, zb, zc, zd⟩, heq⟩ := weighs h5.1 hp
    refine ⟨pl5 a b c d e p0 p1 p2 p3 p4, vec a b c d e, by5 a b c d p0 p1 p2 p3 p4, rfl, vec_nodup h5.1, vec_len5 a b c d e, row_ok h5 hp, ?_⟩
    rw [← hs]
    refine ⟨rfl, .tup (fun x hx => ?_), ab4 _ _ _ _ _ _ _ _ trivial trivial trivial trivial trivial trivial, rfl, ?_⟩
    · simp only [List.mem_cons, List.not_mem_nil, or_false] at hx
      rcases hx with rfl | rfl <;> exact ap_pr _ _ _
    have zg : Sz 1 (if odd4 a b c d e = true then (-1 : Int) else 1) := by
      cases odd4 a b c d e
      · show (1 : Int).natAbs < 2 ^ 1; decide
      · show (-1 : Int).natAbs < 2 ^ 1; decide
    refine ⟨fun ev => ev = [.val (.list (intsD ns)), .val (.list (strsD (a :: b :: c :: d :: e :: r))), .val (exD a b c d e), .own (.lst (needsD a b c d e)), .own (.dct (tabD (vec a b c d e))), .val (prD s.l0 s.l1), .val (prD s.r0 s.r1), .val (.int (if odd4 a b c d e = true then (-1 : Int) else 1))], ?_, ?_⟩
    · refine ⟨(by show 2 ≤ sizeLine; decide), tabD (vec a b c d e), rfl, (by show 0 ≤ sizeLine; decide), .inr [], rfl, rfl, by rw [get_odd h5.1]; exact .int _, ab4 _ _ _ _ _ _ _ _ trivial trivial trivial trivial trivial trivial, ?_⟩
      show rhIx (.list [.int 1, .int (-1)]) ((valD (tabD (vec a b c d e)) (.inr [])).getD (.int 0)) _
      rw [get_odd h5.1]
      cases odd4 a b c d e <;> rfl
    rintro ev rfl
    refine ⟨CM.sz za zd (by decide), CM.sz zg zc (by decide), CM.sz (zg.mul zc) zb (by decide), ?_⟩
    refine iteNb (fun c1 => absurd heq c1) (fun c1 => ?_)
    refine ⟨⟨_, rfl⟩, (by show 1 ≤ sizeLine; decide), tabD (vec a b c d e), .inr (sK ["a"]), rfl, rfl, rfl, ?_, ?_⟩
    · unfold tabD
      rw [List.length_map]
      exact small1000 (Nat.le_trans (vec_len5 a b c d e) (by decide))
    refine ⟨a, b, c, d, e, rfl, h5, a, b, c, d, e, rfl, h5, tabD (vec a b c d e), tabD (vec a b c d e), rfl, rfl, sh_tab _, sh_tab _, iteBT (b := eqDD (tabD (vec a b c d e)) (tabD (vec a b c d e))) (eq_self h5.1) ⟨a, b, c, d, e, rfl, a, b, c, d, e, rfl, shn, shn, ?_⟩⟩
    show C (.val (.bool (PyData.eqv (.list (needsD a b c d e)) (.list (needsD a b c d e)))))
    rw [eqv_needs]
    exact q
end

section
variable {P : Program} {w : World} {K : PySem.W.Frag} {mg : Str → Option Value} {base : Heap} {f : Addr} {fd : FuncData}
theorem rps_ints {F : Hp} : ∀ ns : List Int, Rps w K F (ns.map V.int) (intsD ns)
  | [] => .nil
  | n :: r => .cons (.int n) (rps_ints r)
def spLaw (K : PySem.W.Frag) : Sp := fun vs H Q _ => ∃ (a : Addr) (ns : List Int), vs = [.ref a] ∧ SqL K H a (ns.map V.int) ∧ ns.length ≤ 63 ∧ ∀ H', Q (.bl true) H'
theorem law_imp {k : Nat} {ps : List Str} (F : FnOk P w K mg base CX0 k f fd ps (spP w K phLaw)) : FnOk P w K mg base CX0 k f fd ps (spLaw K) := F.imp fun vs H Q E h => by
  obtain ⟨a, ns, rfl, hS, h63, q⟩ := h
  exact ⟨H, [.list (intsD ns)], fun r => r = .val (.bool true), noX, Same.refl _, .cons (.lst hS (rps_ints ns)) .nil, ⟨ns, rfl, h63, rfl⟩, (fun r F' v H' g rr z => by
    subst z
    cases rr
    exact q H'), fun _ _ _ z => False.elim z⟩
end

theorem all_mk {l : PySem.W.OpenLaw} {w : World} {K : PySem.W.Frag} {h : Heap} {mg : Str → Option Value} {fa f1 f2 f3 f4 f5 f6 f7 f8 f9 f10 f11 f12 f13 f14 f15 f16 f17 f18 f19 f20 f21 : Addr} (X : K.In h) (G : h.Ns mainGlobals mg) (hfa : mg "law" = some (.ref fa))
    {od1 an1 od2 an2 od3 an3 od4 an4 od5 an5 od6 an6 od7 an7 od8 an8 od9 an9 od10 an10 od11 an11 od12 an12 od13 an13 od14 an14 od15 an15 od16 an16 od17 an17 od18 an18 od19 an19 od20 an20 od21 an21 : Option Addr} {sl1 sl2 sl3 sl4 sl5 sl6 sl7 sl8 sl9 sl10 sl11 sl12 sl13 sl14 sl15 sl16 sl17 sl18 sl19 sl20 sl21 : Array (Option Value)} {oc1 kV1 dc1 pm1 cd1 ct1 oc2 kV2 dc2 pm2 cd2 ct2 oc3 kV3 dc3 pm3 cd3 ct3 oc4 kV4 dc4 pm4 cd4 ct4 oc5 kV5 dc5 pm5 cd5 ct5 oc6 kV6 dc6 pm6 cd6 ct6 oc7 kV7 dc7 pm7 cd7 ct7 oc8 kV8 dc8 pm8 cd8 ct8 oc9 kV9 dc9 pm9 cd9 ct9 oc10 kV10 dc10 pm10 cd10 ct10 oc11 kV11 dc11 pm11 cd11 ct11 oc12 kV12 dc12 pm12 cd12 ct12 oc13 kV13 dc13 pm13 cd13 ct13 oc14 kV14 dc14 pm14 cd14 ct14 oc15 kV15 dc15 pm15 cd15 ct15 oc16 kV16 dc16 pm16 cd16 ct16 oc17 kV17 dc17 pm17 cd17 ct17 oc18 kV18 dc18 pm18 cd18 ct18 oc19 kV19 dc19 pm19 cd19 ct19 oc20 kV20 dc20 pm20 cd20 ct20 oc21 kV21 dc21 pm21 cd21 ct21 : Value}
    (a1 : PySem.W.nsIn K mainGlobals "_law_word_by" = some (some (.ref f1))) (l1 : K.lookup f1 = some ⟨oc1, od1, .func (PySem.W.fnOf "_law_word_by" "_law_word_by" (defArgs s__law_word_by) (defBody s__law_word_by) (defScope s__law_word_by) .none kV1 dc1 pm1 an1 cd1 ct1), sl1⟩) (c1 : PySem.W.codeIn K cd1 "_law_word_by" = true) (k1 : PySem.W.keepIn K (.ref f1) = true)
    (a2 : PySem.W.nsIn K mainGlobals "_law_cell_at" = some (some (.ref f2))) (l2 : K.lookup f2 = some ⟨oc2, od2, .func (PySem.W.fnOf "_law_cell_at" "_law_cell_at" (defArgs s__law_cell_at) (defBody s__law_cell_at) (defScope s__law_cell_at) .none kV2 dc2 pm2 an2 cd2 ct2), sl2⟩) (c2 : PySem.W.codeIn K cd2 "_law_cell_at" = true) (k2 : PySem.W.keepIn K (.ref f2) = true)
    (a3 : PySem.W.nsIn K mainGlobals "_law_number" = some (some (.ref f3))) (l3 : K.lookup f3 = some ⟨oc3, od3, .func (PySem.W.fnOf "_law_number" "_law_number" (defArgs s__law_number) (defBody s__law_number) (defScope s__law_number) .none kV3 dc3 pm3 an3 cd3 ct3), sl3⟩) (c3 : PySem.W.codeIn K cd3 "_law_number" = true) (k3 : PySem.W.keepIn K (.ref f3) = true)
    (a4 : PySem.W.nsIn K mainGlobals "_law_names" = some (some (.ref f4))) (l4 : K.lookup f4 = some ⟨oc4, od4, .func (PySem.W.fnOf "_law_names" "_law_names" (defArgs s__law_names) (defBody s__law_names) (defScope s__law_names) .none kV4 dc4 pm4 an4 cd4 ct4), sl4⟩) (c4 : PySem.W.codeIn K cd4 "_law_names" = true) (k4 : PySem.W.keepIn K (.ref f4) = true)
    (a5 : PySem.W.nsIn K mainGlobals "triple" = some (some (.ref f5))) (l5 : K.lookup f5 = some ⟨oc5, od5, .func (PySem.W.fnOf "triple" "triple" (defArgs s_triple) (defBody s_triple) (defScope s_triple) .none kV5 dc5 pm5 an5 cd5 ct5), sl5⟩) (c5 : PySem.W.codeIn K cd5 "triple" = true) (k5 : PySem.W.keepIn K (.ref f5) = true)
    (a6 : PySem.W.nsIn K mainGlobals "spans_of" = some (some (.ref f6))) (l6 : K.lookup f6 = some ⟨oc6, od6, .func (PySem.W.fnOf "spans_of" "spans_of" (defArgs s_spans_of) (defBody s_spans_of) (defScope s_spans_of) .none kV6 dc6 pm6 an6 cd6 ct6), sl6⟩) (c6 : PySem.W.codeIn K cd6 "spans_of" = true) (k6 : PySem.W.keepIn K (.ref f6) = true)
    (a7 : PySem.W.nsIn K mainGlobals "needs" = some (some (.ref f7))) (l7 : K.lookup f7 = some ⟨oc7, od7, .func (PySem.W.fnOf "needs" "needs" (defArgs s_needs) (defBody s_needs) (defScope s_needs) .none kV7 dc7 pm7 an7 cd7 ct7), sl7⟩) (c7 : PySem.W.codeIn K cd7 "needs" = true) (k7 : PySem.W.keepIn K (.ref f7) = true)
    (a8 : PySem.W.nsIn K mainGlobals "turn" = some (some (.ref f8))) (l8 : K.lookup f8 = some ⟨oc8, od8, .func (PySem.W.fnOf "turn" "turn" (defArgs s_turn) (defBody s_turn) (defScope s_turn) .none kV8 dc8 pm8 an8 cd8 ct8), sl8⟩) (c8 : PySem.W.codeIn K cd8 "turn" = true) (k8 : PySem.W.keepIn K (.ref f8) = true)
    (a9 : PySem.W.nsIn K mainGlobals "vector" = some (some (.ref f9))) (l9 : K.lookup f9 = some ⟨oc9, od9, .func (PySem.W.fnOf "vector" "vector" (defArgs s_vector) (defBody s_vector) (defScope s_vector) .none kV9 dc9 pm9 an9 cd9 ct9), sl9⟩) (c9 : PySem.W.codeIn K cd9 "vector" = true) (k9 : PySem.W.keepIn K (.ref f9) = true)
    (a10 : PySem.W.nsIn K mainGlobals "_law_minus" = some (some (.ref f10))) (l10 : K.lookup f10 = some ⟨oc10, od10, .func (PySem.W.fnOf "_law_minus" "_law_minus" (defArgs s__law_minus) (defBody s__law_minus) (defScope s__law_minus) .none kV10 dc10 pm10 an10 cd10 ct10), sl10⟩) (c10 : PySem.W.codeIn K cd10 "_law_minus" = true) (k10 : PySem.W.keepIn K (.ref f10) = true)
    (a11 : PySem.W.nsIn K mainGlobals "_law_span" = some (some (.ref f11))) (l11 : K.lookup f11 = some ⟨oc11, od11, .func (PySem.W.fnOf "_law_span" "_law_span" (defArgs s__law_span) (defBody s__law_span) (defScope s__law_span) .none kV11 dc11 pm11 an11 cd11 ct11), sl11⟩) (c11 : PySem.W.codeIn K cd11 "_law_span" = true) (k11 : PySem.W.keepIn K (.ref f11) = true)
    (a12 : PySem.W.nsIn K mainGlobals "_law_products" = some (some (.ref f12))) (l12 : K.lookup f12 = some ⟨oc12, od12, .func (PySem.W.fnOf "_law_products" "_law_products" (defArgs s__law_products) (defBody s__law_products) (defScope s__law_products) .none kV12 dc12 pm12 an12 cd12 ct12), sl12⟩) (c12 : PySem.W.codeIn K cd12 "_law_products" = true) (k12 : PySem.W.keepIn K (.ref f12) = true)
    (a13 : PySem.W.nsIn K mainGlobals "rests_on" = some (some (.ref f13))) (l13 : K.lookup f13 = some ⟨oc13, od13, .func (PySem.W.fnOf "rests_on" "rests_on" (defArgs s_rests_on) (defBody s_rests_on) (defScope s_rests_on) .none kV13 dc13 pm13 an13 cd13 ct13), sl13⟩) (c13 : PySem.W.codeIn K cd13 "rests_on" = true) (k13 : PySem.W.keepIn K (.ref f13) = true)
    (a14 : PySem.W.nsIn K mainGlobals "_law_triple" = some (some (.ref f14))) (l14 : K.lookup f14 = some ⟨oc14, od14, .func (PySem.W.fnOf "_law_triple" "_law_triple" (defArgs s__law_triple) (defBody s__law_triple) (defScope s__law_triple) .none kV14 dc14 pm14 an14 cd14 ct14), sl14⟩) (c14 : PySem.W.codeIn K cd14 "_law_triple" = true) (k14 : PySem.W.keepIn K (.ref f14) = true)
    (a15 : PySem.W.nsIn K mainGlobals "_law_share_by" = some (some (.ref f15))) (l15 : K.lookup f15 = some ⟨oc15, od15, .func (PySem.W.fnOf "_law_share_by" "_law_share_by" (defArgs s__law_share_by) (defBody s__law_share_by) (defScope s__law_share_by) .none kV15 dc15 pm15 an15 cd15 ct15), sl15⟩) (c15 : PySem.W.codeIn K cd15 "_law_share_by" = true) (k15 : PySem.W.keepIn K (.ref f15) = true)
    (a16 : PySem.W.nsIn K mainGlobals "_law_way" = some (some (.ref f16))) (l16 : K.lookup f16 = some ⟨oc16, od16, .func (PySem.W.fnOf "_law_way" "_law_way" (defArgs s__law_way) (defBody s__law_way) (defScope s__law_way) .none kV16 dc16 pm16 an16 cd16 ct16), sl16⟩) (c16 : PySem.W.codeIn K cd16 "_law_way" = true) (k16 : PySem.W.keepIn K (.ref f16) = true)
    (a17 : PySem.W.nsIn K mainGlobals "_law_places" = some (some (.ref f17))) (l17 : K.lookup f17 = some ⟨oc17, od17, .func (PySem.W.fnOf "_law_places" "_law_places" (defArgs s__law_places) (defBody s__law_places) (defScope s__law_places) .none kV17 dc17 pm17 an17 cd17 ct17), sl17⟩) (c17 : PySem.W.codeIn K cd17 "_law_places" = true) (k17 : PySem.W.keepIn K (.ref f17) = true)
    (a18 : PySem.W.nsIn K mainGlobals "_law_needs" = some (some (.ref f18))) (l18 : K.lookup f18 = some ⟨oc18, od18, .func (PySem.W.fnOf "_law_needs" "_law_needs" (defArgs s__law_needs) (defBody s__law_needs) (defScope s__law_needs) .none kV18 dc18 pm18 an18 cd18 ct18), sl18⟩) (c18 : PySem.W.codeIn K cd18 "_law_needs" = true) (k18 : PySem.W.keepIn K (.ref f18) = true)
    (a19 : PySem.W.nsIn K mainGlobals "_law_turn" = some (some (.ref f19))) (l19 : K.lookup f19 = some ⟨oc19, od19, .func (PySem.W.fnOf "_law_turn" "_law_turn" (defArgs s__law_turn) (defBody s__law_turn) (defScope s__law_turn) .none kV19 dc19 pm19 an19 cd19 ct19), sl19⟩) (c19 : PySem.W.codeIn K cd19 "_law_turn" = true) (k19 : PySem.W.keepIn K (.ref f19) = true)
    (a20 : PySem.W.nsIn K mainGlobals "_law_vector" = some (some (.ref f20))) (l20 : K.lookup f20 = some ⟨oc20, od20, .func (PySem.W.fnOf "_law_vector" "_law_vector" (defArgs s__law_vector) (defBody s__law_vector) (defScope s__law_vector) .none kV20 dc20 pm20 an20 cd20 ct20), sl20⟩) (c20 : PySem.W.codeIn K cd20 "_law_vector" = true) (k20 : PySem.W.keepIn K (.ref f20) = true)
    (a21 : PySem.W.nsIn K mainGlobals "law" = some (some (.ref f21))) (l21 : K.lookup f21 = some ⟨oc21, od21, .func (PySem.W.fnOf "law" "law" (defArgs s_law) (defBody s_law) (defScope s_law) .none kV21 dc21 pm21 an21 cd21 ct21), sl21⟩) (c21 : PySem.W.codeIn K cd21 "law" = true) (k21 : PySem.W.keepIn K (.ref f21) = true)
    (z_isinstance : PySem.W.nsIn K mainGlobals "isinstance" = some none)
    (z_int : PySem.W.nsIn K mainGlobals "int" = some none)
    (z_bool : PySem.W.nsIn K mainGlobals "bool" = some none)
    (z_abs : PySem.W.nsIn K mainGlobals "abs" = some none)
    (z_len : PySem.W.nsIn K mainGlobals "len" = some none)
    (z_range : PySem.W.nsIn K mainGlobals "range" = some none)
    (z_max : PySem.W.nsIn K mainGlobals "max" = some none)
    (z_tuple : PySem.W.nsIn K mainGlobals "tuple" = some none)
    (z_min : PySem.W.nsIn K mainGlobals "min" = some none)
    (z_sorted : PySem.W.nsIn K mainGlobals "sorted" = some none)
    (z_enumerate : PySem.W.nsIn K mainGlobals "enumerate" = some none)
    (z_list : PySem.W.nsIn K mainGlobals "list" = some none)
    (z_dict : PySem.W.nsIn K mainGlobals "dict" = some none)
    (z_str : PySem.W.nsIn K mainGlobals "str" = some none)
    (z_any : PySem.W.nsIn K mainGlobals "any" = some none)
    (z_all : PySem.W.nsIn K mainGlobals "all" = some none)
    (z_sum : PySem.W.nsIn K mainGlobals "sum" = some none)
    (z_zip : PySem.W.nsIn K mainGlobals "zip" = some none)
    (z_set : PySem.W.nsIn K mainGlobals "set" = some none)
    (z_reversed : PySem.W.nsIn K mainGlobals "reversed" = some none)
    : ∃ fd : FuncData, (∀ (s : Shared) (v : Value), BindsTo s fd ⟨[v], []⟩ [("_law_script", v)]) ∧ ∀ base : Heap, K.In base → base.Ns mainGlobals mg → FnOk l.prog w K mg base CX0 4 fa fd ["_law_script"] (spLaw K) := by
  have e := hfa.symm.trans (PySem.W.mg_of X G a21)
  cases e
  have F__law_word_by := fun_mk (st := s__law_word_by) l1 c1 k1
  have b__law_word_by := F__law_word_by.binds (ps := ["_law_cell"]) fun _ _ _ _ _ _ us hl => match us, hl with | [_], _ => rfl
  have m__law_word_by := PySem.W.mg_of X G a1
  have F__law_cell_at := fun_mk (st := s__law_cell_at) l2 c2 k2
  have b__law_cell_at := F__law_cell_at.binds (ps := ["_law_script", "_law_k"]) fun _ _ _ _ _ _ us hl => match us, hl with | [_, _], _ => rfl
  have m__law_cell_at := PySem.W.mg_of X G a2
  have F__law_number := fun_mk (st := s__law_number) l3 c3 k3
  have b__law_number := F__law_number.binds (ps := ["_law_script", "_law_k"]) fun _ _ _ _ _ _ us hl => match us, hl with | [_, _], _ => rfl
  have m__law_number := PySem.W.mg_of X G a3
  have F__law_names := fun_mk (st := s__law_names) l4 c4 k4
  have b__law_names := F__law_names.binds (ps := ["_law_script", "_law_at", "_law_many"]) fun _ _ _ _ _ _ us hl => match us, hl with | [_, _, _], _ => rfl
  have m__law_names := PySem.W.mg_of X G a4
  have F_triple := fun_mk (st := s_triple) l5 c5 k5
  have b_triple := F_triple.binds (ps := ["A", "B", "C"]) fun _ _ _ _ _ _ us hl => match us, hl with | [_, _, _], _ => rfl
  have m_triple := PySem.W.mg_of X G a5
  have F_spans_of := fun_mk (st := s_spans_of) l6 c6 k6
  have b_spans_of := F_spans_of.binds (ps := ["exchange"]) fun _ _ _ _ _ _ us hl => match us, hl with | [_], _ => rfl
  have m_spans_of := PySem.W.mg_of X G a6
  have F_needs := fun_mk (st := s_needs) l7 c7 k7
  have b_needs := F_needs.binds (ps := ["exchange"]) fun _ _ _ _ _ _ us hl => match us, hl with | [_], _ => rfl
  have m_needs := PySem.W.mg_of X G a7
  have F_turn := fun_mk (st := s_turn) l8 c8 k8
  have b_turn := F_turn.binds (ps := ["A", "B", "C"]) fun _ _ _ _ _ _ us hl => match us, hl with | [_, _, _], _ => rfl
  have m_turn := PySem.W.mg_of X G a8
  have F_vector := fun_mk (st := s_vector) l9 c9 k9
  have b_vector := F_vector.binds (ps := ["exchange"]) fun _ _ _ _ _ _ us hl => match us, hl with | [_], _ => rfl
  have m_vector := PySem.W.mg_of X G a9
  have F__law_minus := fun_mk (st := s__law_minus) l10 c10 k10
  have b__law_minus := F__law_minus.binds (ps := ["_law_one", "_law_other"]) fun _ _ _ _ _ _ us hl => match us, hl with | [_, _], _ => rfl
  have m__law_minus := PySem.W.mg_of X G a10
  have F__law_span := fun_mk (st := s__law_span) l11 c11 k11
  have b__law_span := F__law_span.binds (ps := ["_law_places_here", "_law_row"]) fun _ _ _ _ _ _ us hl => match us, hl with | [_, _], _ => rfl
  have m__law_span := PySem.W.mg_of X G a11
  have F__law_products := fun_mk (st := s__law_products) l12 c12 k12
  have b__law_products := F__law_products.binds (ps := ["_law_places_here", "_law_found"]) fun _ _ _ _ _ _ us hl => match us, hl with | [_, _], _ => rfl
  have m__law_products := PySem.W.mg_of X G a12
  have F_rests_on := fun_mk (st := s_rests_on) l13 c13 k13
  have b_rests_on := F_rests_on.binds (ps := ["exchange"]) fun _ _ _ _ _ _ us hl => match us, hl with | [_], _ => rfl
  have m_rests_on := PySem.W.mg_of X G a13
  have F__law_triple := fun_mk (st := s__law_triple) l14 c14 k14
  have b__law_triple := F__law_triple.binds (ps := ["_law_one", "_law_other", "_law_third"]) fun _ _ _ _ _ _ us hl => match us, hl with | [_, _, _], _ => rfl
  have m__law_triple := PySem.W.mg_of X G a14
  have F__law_share_by := fun_mk (st := s__law_share_by) l15 c15 k15
  have b__law_share_by := F__law_share_by.binds (ps := ["_law_cell"]) fun _ _ _ _ _ _ us hl => match us, hl with | [_], _ => rfl
  have m__law_share_by := PySem.W.mg_of X G a15
  have F__law_way := fun_mk (st := s__law_way) l16 c16 k16
  have b__law_way := F__law_way.binds (ps := ["_law_one", "_law_other", "_law_t"]) fun _ _ _ _ _ _ us hl => match us, hl with | [_, _, _], _ => rfl
  have m__law_way := PySem.W.mg_of X G a16
  have F__law_places := fun_mk (st := s__law_places) l17 c17 k17
  have b__law_places := F__law_places.binds (ps := ["_law_script", "_law_names_here"]) fun _ _ _ _ _ _ us hl => match us, hl with | [_, _], _ => rfl
  have m__law_places := PySem.W.mg_of X G a17
  have F__law_needs := fun_mk (st := s__law_needs) l18 c18 k18
  have b__law_needs := F__law_needs.binds (ps := ["_law_exchange"]) fun _ _ _ _ _ _ us hl => match us, hl with | [_], _ => rfl
  have m__law_needs := PySem.W.mg_of X G a18
  have F__law_turn := fun_mk (st := s__law_turn) l19 c19 k19
  have b__law_turn := F__law_turn.binds (ps := ["_law_one", "_law_other", "_law_third"]) fun _ _ _ _ _ _ us hl => match us, hl with | [_, _, _], _ => rfl
  have m__law_turn := PySem.W.mg_of X G a19
  have F__law_vector := fun_mk (st := s__law_vector) l20 c20 k20
  have b__law_vector := F__law_vector.binds (ps := ["_law_exchange"]) fun _ _ _ _ _ _ us hl => match us, hl with | [_], _ => rfl
  have m__law_vector := PySem.W.mg_of X G a20
  have F_law := fun_mk (st := s_law) l21 c21 k21
  have b_law := F_law.binds (ps := ["_law_script"]) fun _ _ _ _ _ _ us hl => match us, hl with | [_], _ => rfl
  have m_law := PySem.W.mg_of X G a21
  have n_isinstance := PySem.W.mg_none_of X G z_isinstance
  have n_int := PySem.W.mg_none_of X G z_int
  have n_bool := PySem.W.mg_none_of X G z_bool
  have n_abs := PySem.W.mg_none_of X G z_abs
  have n_len := PySem.W.mg_none_of X G z_len
  have n_range := PySem.W.mg_none_of X G z_range
  have n_max := PySem.W.mg_none_of X G z_max
  have n_tuple := PySem.W.mg_none_of X G z_tuple
  have n_min := PySem.W.mg_none_of X G z_min
  have n_sorted := PySem.W.mg_none_of X G z_sorted
  have n_enumerate := PySem.W.mg_none_of X G z_enumerate
  have n_list := PySem.W.mg_none_of X G z_list
  have n_dict := PySem.W.mg_none_of X G z_dict
  have n_str := PySem.W.mg_none_of X G z_str
  have n_any := PySem.W.mg_none_of X G z_any
  have n_all := PySem.W.mg_none_of X G z_all
  have n_sum := PySem.W.mg_none_of X G z_sum
  have n_zip := PySem.W.mg_none_of X G z_zip
  have n_set := PySem.W.mg_none_of X G z_set
  have n_reversed := PySem.W.mg_none_of X G z_reversed
  refine ⟨PySem.W.fnOf "law" "law" (defArgs s_law) (defBody s_law) (defScope s_law) .none kV21 dc21 pm21 an21 cd21 ct21, fun s v => .of_eq rfl, fun base _ _ => ?_⟩
  have T : Bl mg := ⟨n_isinstance, n_int, n_bool, n_abs, n_len, n_range, n_max, n_tuple, n_min, n_sorted, n_enumerate, n_list, n_dict, n_str, n_any, n_all, n_sum, n_zip, n_set, n_reversed⟩
  have c__law_word_by : Cal l.prog w K mg base CX0 1 "_law_word_by" ["_law_cell"] (spP w K (phWord)) := ⟨_, _, ok__law_word_by F__law_word_by T , b__law_word_by, F__law_word_by.kp, m__law_word_by⟩
  have c__law_cell_at : Cal l.prog w K mg base CX0 1 "_law_cell_at" ["_law_script", "_law_k"] (spP w K (phCell)) := ⟨_, _, ok__law_cell_at F__law_cell_at T , b__law_cell_at, F__law_cell_at.kp, m__law_cell_at⟩
  have c__law_number : Cal l.prog w K mg base CX0 2 "_law_number" ["_law_script", "_law_k"] (spP w K (phNum)) := ⟨_, _, ok__law_number F__law_number T  c__law_cell_at, b__law_number, F__law_number.kp, m__law_number⟩
  have c__law_names : Cal l.prog w K mg base CX0 3 "_law_names" ["_law_script", "_law_at", "_law_many"] (spP w K (phNames)) := ⟨_, _, ok__law_names F__law_names T  c__law_word_by c__law_number, b__law_names, F__law_names.kp, m__law_names⟩
  have c_triple : Cal l.prog w K mg base CX0 1 "triple" ["A", "B", "C"] (spP w K (phTri)) := ⟨_, _, ok_triple F_triple T , b_triple, F_triple.kp, m_triple⟩
  have c_spans_of : Cal l.prog w K mg base CX0 1 "spans_of" ["exchange"] (spP w K (phSpans)) := ⟨_, _, ok_spans_of F_spans_of T , b_spans_of, F_spans_of.kp, m_spans_of⟩
  have c_needs : Cal l.prog w K mg base CX0 2 "needs" ["exchange"] (spP w K (phNeeds)) := ⟨_, _, ok_needs F_needs T  c_triple c_spans_of, b_needs, F_needs.kp, m_needs⟩
  have c_turn : Cal l.prog w K mg base CX0 1 "turn" ["A", "B", "C"] (spP w K (phTurn)) := ⟨_, _, ok_turn F_turn T , b_turn, F_turn.kp, m_turn⟩
  have c_vector : Cal l.prog w K mg base CX0 3 "vector" ["exchange"] (spP w K (phVec)) := ⟨_, _, ok_vector F_vector T  c_needs c_turn c_spans_of, b_vector, F_vector.kp, m_vector⟩
  have c__law_minus : Cal l.prog w K mg base CX0 1 "_law_minus" ["_law_one", "_law_other"] (spP w K (phMinus)) := ⟨_, _, ok__law_minus F__law_minus T , b__law_minus, F__law_minus.kp, m__law_minus⟩
  have c__law_span : Cal l.prog w K mg base CX0 2 "_law_span" ["_law_places_here", "_law_row"] (spP w K (phSpan)) := ⟨_, _, ok__law_span F__law_span T  c__law_minus, b__law_span, F__law_span.kp, m__law_span⟩
  have c__law_products : Cal l.prog w K mg base CX0 3 "_law_products" ["_law_places_here", "_law_found"] (spP w K (phProd)) := ⟨_, _, ok__law_products F__law_products T  c__law_span, b__law_products, F__law_products.kp, m__law_products⟩
  have c_rests_on : Cal l.prog w K mg base CX0 2 "rests_on" ["exchange"] (spP w K (phRests)) := ⟨_, _, ok_rests_on F_rests_on T  c_triple, b_rests_on, F_rests_on.kp, m_rests_on⟩
  have c__law_triple : Cal l.prog w K mg base CX0 1 "_law_triple" ["_law_one", "_law_other", "_law_third"] (spP w K (phTri)) := ⟨_, _, ok__law_triple F__law_triple T , b__law_triple, F__law_triple.kp, m__law_triple⟩
  have c__law_share_by : Cal l.prog w K mg base CX0 1 "_law_share_by" ["_law_cell"] (spP w K (phShareBy)) := ⟨_, _, ok__law_share_by F__law_share_by T , b__law_share_by, F__law_share_by.kp, m__law_share_by⟩
  have c__law_way : Cal l.prog w K mg base CX0 2 "_law_way" ["_law_one", "_law_other", "_law_t"] (spP w K (phWay)) := ⟨_, _, ok__law_way F__law_way T  c__law_minus, b__law_way, F__law_way.kp, m__law_way⟩
  have c__law_places : Cal l.prog w K mg base CX0 3 "_law_places" ["_law_script", "_law_names_here"] (spP w K (phPlaces)) := ⟨_, _, ok__law_places F__law_places T  c__law_share_by c__law_number c__law_way, b__law_places, F__law_places.kp, m__law_places⟩
  have c__law_needs : Cal l.prog w K mg base CX0 2 "_law_needs" ["_law_exchange"] (spP w K (phNeeds)) := ⟨_, _, ok__law_needs F__law_needs T  c__law_triple, b__law_needs, F__law_needs.kp, m__law_needs⟩
  have c__law_turn : Cal l.prog w K mg base CX0 1 "_law_turn" ["_law_one", "_law_other", "_law_third"] (spP w K (phTurn)) := ⟨_, _, ok__law_turn F__law_turn T , b__law_turn, F__law_turn.kp, m__law_turn⟩
  have c__law_vector : Cal l.prog w K mg base CX0 3 "_law_vector" ["_law_exchange"] (spP w K (phVec)) := ⟨_, _, ok__law_vector F__law_vector T  c__law_needs c__law_turn, b__law_vector, F__law_vector.kp, m__law_vector⟩
  exact law_imp (ok_law F_law T  c__law_names c_needs c_vector c__law_products c_rests_on c__law_triple c__law_places c__law_needs c__law_vector)
theorem walk {l : PySem.W.OpenLaw} {q : Program} {loose : List Str} {XP : (Str → Option Value) → Heap → Prop} {YP : World → Heap → Prop} {d : DefRec} {K : Params → PySem.W.Frag} (hn : l.most = some 63) (hdf : d.params.defaults = [])
    (hY : ∀ (w : World) (h : Heap), YP w h → (K w.params).In h)
    (F : ∀ (w : World) (mg : Str → Option Value) (fa : Addr) (h : Heap), (K w.params).In h → h.Ns mainGlobals mg → mg d.name = some (.ref fa) →
      ∃ fd : FuncData, (∀ (s : Shared) (u : Value), BindsTo s fd ⟨[u], []⟩ [("_law_script", u)]) ∧ ∀ base : Heap, (K w.params).In base → base.Ns mainGlobals mg → FnOk l.prog w (K w.params) mg base CX0 4 fa fd ["_law_script"] (spLaw (K w.params))) :
    PySem.W.WalkO q loose XP YP l.row.toRowW d [] (fun f vs => PySem.call f vs) :=
  L2.walk_of (n := 63) (k := 4) (x := "_law_script") (CX := fun _ => CX0) (sp := fun w => spLaw (K w.params)) hn (by decide) hdf ⟨rfl, by decide, by decide⟩ hY F (fun _ _ a ns hl _ hS => ⟨a, ns, rfl, hS, hl, fun _ => rfl⟩) fun _ _ _ _ _ z => z
end Lk
open PySem PySem.W PyProof.Rows
set_option maxRecDepth 100000 in
set_option maxHeartbeats 0 in
theorem PySem.Challenge.cw_linesaid_k20_an_exchanges_vector_holds : PySem.Challenge.rw_linesaid_k20_an_exchanges_vector.Holds := by
  w_on; o_law; k_head; (case hw => w_witness2)
  k_fill
  refine Lk.walk (l := PySem.Challenge.rw_linesaid_k20_an_exchanges_vector) rfl rfl (fun w h Y => PySem.W.kIn_of Y) ?F
  case F =>
    intro w mg fa h KX G hmg
    refine' Lk.all_mk KX G hmg ?a1 ?l1 ?c1 ?k1 ?a2 ?l2 ?c2 ?k2 ?a3 ?l3 ?c3 ?k3 ?a4 ?l4 ?c4 ?k4 ?a5 ?l5 ?c5 ?k5 ?a6 ?l6 ?c6 ?k6 ?a7 ?l7 ?c7 ?k7 ?a8 ?l8 ?c8 ?k8 ?a9 ?l9 ?c9 ?k9 ?a10 ?l10 ?c10 ?k10 ?a11 ?l11 ?c11 ?k11 ?a12 ?l12 ?c12 ?k12 ?a13 ?l13 ?c13 ?k13 ?a14 ?l14 ?c14 ?k14 ?a15 ?l15 ?c15 ?k15 ?a16 ?l16 ?c16 ?k16 ?a17 ?l17 ?c17 ?k17 ?a18 ?l18 ?c18 ?k18 ?a19 ?l19 ?c19 ?k19 ?a20 ?l20 ?c20 ?k20 ?a21 ?l21 ?c21 ?k21 ?z_isinstance ?z_int ?z_bool ?z_abs ?z_len ?z_range ?z_max ?z_tuple ?z_min ?z_sorted ?z_enumerate ?z_list ?z_dict ?z_str ?z_any ?z_all ?z_sum ?z_zip ?z_set ?z_reversed
    (case a1 => k_is)
    (case l1 => k_is)
    (case c1 => k_is)
    (case k1 => k_is)
    (case a2 => k_is)
    (case l2 => k_is)
    (case c2 => k_is)
    (case k2 => k_is)
    (case a3 => k_is)
    (case l3 => k_is)
    (case c3 => k_is)
    (case k3 => k_is)
    (case a4 => k_is)
    (case l4 => k_is)
    (case c4 => k_is)
    (case k4 => k_is)
    (case a5 => k_is)
    (case l5 => k_is)
    (case c5 => k_is)
    (case k5 => k_is)
    (case a6 => k_is)
    (case l6 => k_is)
    (case c6 => k_is)
    (case k6 => k_is)
    (case a7 => k_is)
    (case l7 => k_is)
    (case c7 => k_is)
    (case k7 => k_is)
    (case a8 => k_is)
    (case l8 => k_is)
    (case c8 => k_is)
    (case k8 => k_is)
    (case a9 => k_is)
    (case l9 => k_is)
    (case c9 => k_is)
    (case k9 => k_is)
    (case a10 => k_is)
    (case l10 => k_is)
    (case c10 => k_is)
    (case k10 => k_is)
    (case a11 => k_is)
    (case l11 => k_is)
    (case c11 => k_is)
    (case k11 => k_is)
    (case a12 => k_is)
    (case l12 => k_is)
    (case c12 => k_is)
    (case k12 => k_is)
    (case a13 => k_is)
    (case l13 => k_is)
    (case c13 => k_is)
    (case k13 => k_is)
    (case a14 => k_is)
    (case l14 => k_is)
    (case c14 => k_is)
    (case k14 => k_is)
    (case a15 => k_is)
    (case l15 => k_is)
    (case c15 => k_is)
    (case k15 => k_is)
    (case a16 => k_is)
    (case l16 => k_is)
    (case c16 => k_is)
    (case k16 => k_is)
    (case a17 => k_is)
    (case l17 => k_is)
    (case c17 => k_is)
    (case k17 => k_is)
    (case a18 => k_is)
    (case l18 => k_is)
    (case c18 => k_is)
    (case k18 => k_is)
    (case a19 => k_is)
    (case l19 => k_is)
    (case c19 => k_is)
    (case k19 => k_is)
    (case a20 => k_is)
    (case l20 => k_is)
    (case c20 => k_is)
    (case k20 => k_is)
    (case a21 => k_is)
    (case l21 => k_is)
    (case c21 => k_is)
    (case k21 => k_is)
    (case z_isinstance => k_is)
    (case z_int => k_is)
    (case z_bool => k_is)
    (case z_abs => k_is)
    (case z_len => k_is)
    (case z_range => k_is)
    (case z_max => k_is)
    (case z_tuple => k_is)
    (case z_min => k_is)
    (case z_sorted => k_is)
    (case z_enumerate => k_is)
    (case z_list => k_is)
    (case z_dict => k_is)
    (case z_str => k_is)
    (case z_any => k_is)
    (case z_all => k_is)
    (case z_sum => k_is)
    (case z_zip => k_is)
    (case z_set => k_is)
    (case z_reversed => k_is)
