import PyProof.Rows.All
import Wide.All
import OpenK.AllK
import Wide.FinOn
import Lean
import PyProof.EqAt
import PyProof.EqKinds
import PyProof.TupleCall
import PyProof.SetKind
import PyProof.Rows.SortShell
import PyProof.SetRoads
import PyProof.ListNew
import PyProof.CollectWalk
import PyProof.Rows.SetFrom
import PyProof.NeKinds
import PyProof.IsiHeapPairs
import PyProof.IsiNone
import PyProof.IsiPairs
import PyProof.ZipIter
import PyProof.Draws
import PyProof.WalksMore
import PyProof.EnumMake
import PyProof.EnumFor
import PyProof.ListRange
import PyProof.RangeFor
import PyProof.DictUpdate
import PySem.Challenge.RW_fenlevel_k07_whole_an_open_ring_or_heigh
set_option Elab.async false
set_option linter.all false
set_option maxRecDepth 100000
/-! THE HAND LAYER, for ints, bools, texts, own classes, LISTS and tuples (index, slices, in, append, pop ..), calls, loops. Paste it whole ahead of your own text; what your proof does not reach may be deleted. -/
namespace L2
open PySem PySem.Spec PyProof.Rows

/-- a key: an int or a str -/
abbrev Key := Sum Int Str
def keyIs : Key → Value → Bool
  | .inl k, v => Value.isInt k v
  | .inr x, v => Value.isStrOf x v
def keyH (w : World) : Key → Int
  | .inl k => hashInt k
  | .inr x => hashStr w x
theorem keyIs_shape : ∀ {k : Key} {v : Value}, keyIs k v = true → (∃ i t, k = Sum.inl i ∧ v = Value.int i t) ∨ (∃ x t, k = Sum.inr x ∧ v = Value.str x t)
  | .inl i, v, h => by
    obtain ⟨t, e⟩ := Value.isInt_shape (k := i) (v := v) h
    exact .inl ⟨i, t, rfl, e⟩
  | .inr x, v, h => by
    obtain ⟨t, e⟩ := Value.isStrOf_shape (x := x) (v := v) h
    exact .inr ⟨x, t, rfl, e⟩
theorem keyIs_int (i : Int) (t : Tok) : keyIs (.inl i) (.int i t) = true := by simp [keyIs, Value.isInt]
theorem keyIs_str (x : Str) (t : Tok) : keyIs (.inr x) (.str x t) = true := by simp [keyIs, Value.isStrOf]
theorem key_ll (a b : Int) : decide ((Sum.inl a : Key) = Sum.inl b) = (a == b) := by
  by_cases e : a = b
  · subst e; simp
  · have h : ¬ (Sum.inl a : Key) = Sum.inl b := fun q => e (Sum.inl.inj q)
    rw [decide_eq_false h]
    exact (beq_eq_false_iff_ne.mpr e).symm
theorem key_rr (a b : Str) : decide ((Sum.inr a : Key) = Sum.inr b) = decide (a = b) := by
  by_cases e : a = b
  · subst e; simp
  · have h : ¬ (Sum.inr a : Key) = Sum.inr b := fun q => e (Sum.inr.inj q)
    rw [decide_eq_false h, decide_eq_false e]
theorem key_lr (a : Int) (b : Str) : decide ((Sum.inl a : Key) = Sum.inr b) = false := decide_eq_false (fun q => nomatch q)
theorem key_rl (a : Str) (b : Int) : decide ((Sum.inr a : Key) = Sum.inl b) = false := decide_eq_false (fun q => nomatch q)

def mixKind (prog : Program) (w : World) : PySem.KeyKind prog w Key where
  is := keyIs
  hash := keyH w
  inj := fun v a b ha hb => by
    rcases keyIs_shape ha with ⟨i, t, rfl, rfl⟩ | ⟨x, t, rfl, rfl⟩
    · rcases keyIs_shape hb with ⟨j, u, rfl, e⟩ | ⟨y, u, rfl, e⟩
      · injection e with e1 _; rw [e1]
      · exact nomatch e
    · rcases keyIs_shape hb with ⟨j, u, rfl, e⟩ | ⟨y, u, rfl, e⟩
      · exact nomatch e
      · injection e with e1 _; rw [e1]
  byValue := fun k v h => by
    rcases keyIs_shape h with ⟨i, t, rfl, rfl⟩ | ⟨x, t, rfl, rfl⟩ <;> rfl
  pyHash := fun hv h => by
    rcases keyIs_shape hv with ⟨i, t, rfl, rfl⟩ | ⟨x, t, rfl, rfl⟩
    · exact wpAny_pyHash_int h
    · exact wpAny_pyHash_str h
  eqBool := fun hu hv h => by
    rcases keyIs_shape hu with ⟨i, t, rfl, rfl⟩ | ⟨x, t, rfl, rfl⟩
    · rcases keyIs_shape hv with ⟨j, u, rfl, rfl⟩ | ⟨y, u, rfl, rfl⟩
      · rw [key_ll] at h; exact wpAny_eqBool_int h
      · rw [key_lr] at h; exact SeqAt.EqAt.int_str i t y u _ _ _ _ h
    · rcases keyIs_shape hv with ⟨j, u, rfl, rfl⟩ | ⟨y, u, rfl, rfl⟩
      · rw [key_rl] at h; exact SeqAt.EqAt.str_int x t j u _ _ _ _ h
      · rw [key_rr] at h; exact wpAny_eqBool_str h
  «strs» := fun k x t v h => by
    rcases keyIs_shape h with ⟨i, u, rfl, e⟩ | ⟨y, u, rfl, e⟩
    · exact nomatch e
    · injection e with e1 _
      subst e1
      cases v <;> rfl

theorem mixKind_is (prog : Program) (w : World) (k : Key) (v : Value) : (mixKind prog w).is k v = keyIs k v := rfl
theorem mixKind_int (prog : Program) (w : World) (i : Int) (t : Tok) : (mixKind prog w).is (.inl i) (.int i t) = true := keyIs_int i t
theorem mixKind_str (prog : Program) (w : World) (x : Str) (t : Tok) : (mixKind prog w).is (.inr x) (.str x t) = true := keyIs_str x t
end L2

namespace L2
open PySem PySem.Spec PyProof.Rows

/-- a value, without the heap -/
inductive V where
  | non | bl (b : Bool) | int (i : Int) | str (x : Str) | byt (b : Array UInt8) | flt (b : UInt64) | ref (a : Addr) | ty (n : String)
  deriving DecidableEq

def RelV : V → Value → Prop
  | .non, u => u = Value.none
  | .bl b, u => u = Value.bool b
  | .int i, u => ∃ t, u = Value.int i t
  | .str x, u => ∃ t, u = Value.str x t
  | .byt b, u => ∃ t, u = Value.bytes b t
  | .flt b, u => ∃ t, u = Value.float b t
  | .ref a, u => u = Value.ref a
  | .ty n, u => u = Value.type n

abbrev Vals : List V → List Value → Prop := Paired RelV
theorem Vals.length {xs : List V} {us : List Value} (r : Vals xs us) : xs.length = us.length := Paired.length r
theorem Vals.get : ∀ {xs : List V} {us : List Value} {i : Nat} {x : V}, Vals xs us → xs[i]? = some x → ∃ u, us[i]? = some u ∧ RelV x u
  | _, _, _, _, .nil, e => by simp at e
  | _, _, 0, _, .cons r _, e => by simp at e; subst e; exact ⟨_, rfl, r⟩
  | _, _, i + 1, x, .cons _ t, e => by
    obtain ⟨u, h1, h2⟩ := Vals.get (i := i) (x := x) t (by simpa using e)
    exact ⟨u, by simpa using h1, h2⟩
theorem Vals.set {x : V} {u : Value} (r : RelV x u) : ∀ {xs : List V} {us : List Value} (i : Nat), Vals xs us → Vals (xs.set i x) (us.set i u)
  | _, _, _, .nil => .nil
  | _, _, 0, .cons _ t => .cons r t
  | _, _, i + 1, .cons q t => .cons q (Vals.set r i t)
theorem Vals.append : ∀ {xs ys : List V} {us ws : List Value}, Vals xs us → Vals ys ws → Vals (xs ++ ys) (us ++ ws)
  | _, _, _, _, .nil, s => s
  | _, _, _, _, .cons r t, s => .cons r (Vals.append t s)
theorem Vals.take : ∀ {xs : List V} {us : List Value} (n : Nat), Vals xs us → Vals (xs.take n) (us.take n)
  | _, _, 0, _ => .nil
  | _, _, _ + 1, .nil => .nil
  | _, _, n + 1, .cons r t => .cons r (Vals.take n t)
theorem Vals.drop : ∀ {xs : List V} {us : List Value} (n : Nat), Vals xs us → Vals (xs.drop n) (us.drop n)
  | _, _, 0, r => r
  | _, _, _ + 1, .nil => .nil
  | _, _, n + 1, .cons _ t => Vals.drop n t
theorem Vals.none_of : ∀ {xs : List V} {us : List Value} {i : Nat}, Vals xs us → xs[i]? = none → us[i]? = none := fun {xs us i} r e => by
  have h1 := r.length
  have h2 : xs.length ≤ i := List.getElem?_eq_none_iff.mp e
  exact List.getElem?_eq_none_iff.mpr (by omega)

def RelO : Option V → Option Value → Prop
  | some v, some u => RelV v u
  | none, none => True
  | _, _ => False
def KV {κ : Type} : List (κ × V) → List (κ × Value) → Prop := Paired fun (p : κ × V) (q : κ × Value) => p.1 = q.1 ∧ RelV p.2 q.2

/-- a key of a dict (00_mix): an int or a text -/
def kV : Key → V
  | .inl i => .int i
  | .inr x => .str x

/-- what stands at a tracked address -/
inductive HO where
  /-- a list -/
  | lst (xs : List V)
  /-- a tuple (never changes) -/
  | tup (xs : List V)
  /-- a dict whose keys are ints and texts; one whose keys are tuples of ints and texts (the empty one is both) -/
  | dK (kvs : List (Key × V)) | dT (kvs : List (List Key × V))
  /-- a set of ints: its members, its size -/
  | set (S : Int → Bool) (n : Nat)
  /-- an instance of the class at C, its dict at dx, its attributes -/
  | ins (C dx : Addr) (fs : List (Str × V))
  /-- the dict of the instance at x -/
  | own (x : Addr)
  /-- the dict of an exception -/
  | xd (fs : List (Str × V))
  /-- a bound method, f of x -/
  | met (f x : Addr)
  /-- a range object lo, lo + 1, .. below hi -/
  | rng (lo hi : Int)
  /-- a thing that is known to the object (the script; a dict while a loop walks it): read, never written while it is so -/
  | frz (o : Obj) (u : HO)
  /-- a code object's table -/
  | tbl (ps : Array Value)
  /-- any other thing, by what is true of its one object (a def of one's own: SetO a S n := HO.ext fun h => ..) -/
  | ext (φ : Heap → Prop)

abbrev Hp := Addr → Option HO
def upd (H : Hp) (a : Addr) (o : HO) : Hp := fun b => if b = a then some o else H b
theorem upd_same {H : Hp} {a : Addr} {o : HO} : upd H a o a = some o := by unfold upd; rw [if_pos rfl]
theorem upd_ne {H : Hp} {a b : Addr} {o : HO} (h : b ≠ a) : upd H a o b = H b := by unfold upd; rw [if_neg h]
theorem upd_upd {H : Hp} {a : Addr} {o u : HO} : upd (upd H a o) a u = upd H a u := by
  funext b; unfold upd; split <;> rfl
/-- two objects of different content stand apart -/
theorem ne_of {H : Hp} {a b : Addr} {o u : HO} (h : H a = some o) (h' : H b = some u) (d : o ≠ u) : a ≠ b := by
  intro e; subst e; rw [h] at h'; exact d (Option.some.inj h')
theorem ne_of_none {H : Hp} {a b : Addr} {o : HO} (h : H a = some o) (h' : H b = none) : a ≠ b := by
  intro e; subst e; rw [h] at h'; cases h'

section
variable (P : Program) (w : World)
def ObjOk (H : Hp) (h : Heap) (a : Addr) : HO → Prop
  | .lst xs => xs.length ≤ sizeLine ∧ ∃ (its : List Value) (n : Nat), Vals xs its ∧ h.get? a = some { cls := .type "list", data := .seq its.toArray n }
  | .tup xs => xs.length ≤ sizeLine ∧ ∃ its : List Value, Vals xs its ∧ IsTup h a its.toArray
  | .dK kvs => kvs.length ≤ sizeLine ∧ (a == sysModules) = false ∧ ∃ vs, KV kvs vs ∧ h.DictOf (mixKind P w) a vs
  | .dT kvs => kvs.length ≤ sizeLine ∧ (a == sysModules) = false ∧ ∃ xs : List (List Key × Addr × Value),
      Paired (fun (p : List Key × V) (q : List Key × Addr × Value) => p.1 = q.1 ∧ H q.2.1 = some (.tup (p.1.map kV)) ∧ RelV p.2 q.2.2) kvs xs ∧
      ∃ o es ep, h.get? a = some o ∧ o.ExactDict ∧ o.data = .dict es ep ∧ es.toList = xs.map (entryOfKey (tupleKind (mixKind P w))) ∧ (xs.map (·.1)).Nodup
  | .set S n => h.SetOf (intKind P w) a S n
  | .ins C dx fs => H dx = some (.own a) ∧ fs.length ≤ 1000 ∧ dx ≠ a ∧ h.get? a = some (PySem.W.instObj C dx) ∧
      ∃ mA, h.Ns1 dx mA ∧ (∀ f, RelO (fs.lookup f) (mA f)) ∧ PySem.Within mA (fs.map (·.1))
  | .own _ => ∃ o, h.get? a = some o
  | .xd fs => ∃ mA, h.Ns1 a mA ∧ ∀ f, RelO (fs.lookup f) (mA f)
  | .rng lo hi => ∃ t u v, h.get? a = some { cls := .type "range", data := .fields #[.int lo t, .int hi u, .int 1 v] }
  | .frz o u => h.get? a = some o ∧ ObjOk H h a u
  | .tbl ps => h.get? a = some { cls := .none, data := .fields ps }
  | .met f x => h.get? a = some (PySem.W.methodObj (.ref f) (.ref x))
  | .ext φ => φ h ∧ (∃ o, h.get? a = some o) ∧ ∀ h1 h2 : Heap, φ h1 → (∀ o, h1.get? a = some o → h2.get? a = some o) → φ h2
/-- the abstract heap is held -/
def HOk (H : Hp) (h : Heap) : Prop := ∀ a o, H a = some o → ObjOk P w H h a o
end

section
variable {P : Program} {w : World} {H H' : Hp} {h h' : Heap} {a : Addr} {o : HO}
theorem ObjOk.lt (x : ObjOk P w H h a o) : a < h.objs.size := by
  cases o with
  | lst xs => obtain ⟨_, _, _, _, e⟩ := x; exact Heap.lt_size e
  | tup xs => obtain ⟨_, _, _, p⟩ := x; exact p.lt
  | dK kvs => obtain ⟨_, _, _, _, o, _, _, e, _⟩ := x; exact Heap.lt_size e
  | dT kvs => obtain ⟨_, _, _, _, o, _, _, e, _⟩ := x; exact Heap.lt_size e
  | set S n => obtain ⟨o, _, _, _, e, _⟩ := x; exact Heap.lt_size e
  | ins C dx fs => obtain ⟨_, _, _, e, _⟩ := x; exact Heap.lt_size e
  | own y => obtain ⟨_, e⟩ := x; exact Heap.lt_size e
  | xd fs => obtain ⟨_, ⟨_, _, _, e, _⟩, _⟩ := x; exact Heap.lt_size e
  | rng lo hi => obtain ⟨_, _, _, e⟩ := x; exact Heap.lt_size e
  | frz ob u => obtain ⟨e, _⟩ := x; exact Heap.lt_size e
  | tbl ps => exact Heap.lt_size (show h.get? a = some _ from x)
  | met f y => exact Heap.lt_size (show h.get? a = some _ from x)
  | ext φ => obtain ⟨_, ⟨_, e⟩, _⟩ := x; exact Heap.lt_size e
theorem Paired.mapP {α β : Type} {F G : α → β → Prop} : ∀ {l₁ : List α} {l₂ : List β}, Paired F l₁ l₂ → (∀ a b, F a b → G a b) → Paired G l₁ l₂
  | _, _, .nil, _ => .nil
  | _, _, .cons r t, f => .cons (f _ _ r) (Paired.mapP t f)
theorem Paired.imp' {α β : Type} {F G : α → β → Prop} (f : ∀ a b, F a b → G a b) {l₁ : List α} {l₂ : List β} (r : Paired F l₁ l₂) : Paired G l₁ l₂ := Paired.mapP r f
/-- what an object's description leans on: its own object, its own dict, the tuples -/
theorem ObjOk.stay (x : ObjOk P w H h a o) (k : ∀ b u, (b = a ∨ H b = some (.own a)) → h.get? b = some u → h'.get? b = some u)
    (ho : ∀ b, H b = some (.own a) → H' b = some (.own a)) (ht : ∀ b xs, H b = some (.tup xs) → H' b = some (.tup xs)) : ObjOk P w H' h' a o := by
  induction o with
  | lst xs => obtain ⟨z, its, n, r, e⟩ := x; exact ⟨z, its, n, r, k _ _ (.inl rfl) e⟩
  | tup xs => obtain ⟨z, its, r, ob, e, c⟩ := x; exact ⟨z, its, r, ob, k _ _ (.inl rfl) e, c⟩
  | dK kvs => obtain ⟨z, y, vs, r, ob, es, ep, e, c⟩ := x; exact ⟨z, y, vs, r, ob, es, ep, k _ _ (.inl rfl) e, c⟩
  | dT kvs =>
    obtain ⟨z, y, xs, r, ob, es, ep, e, c⟩ := x
    exact ⟨z, y, xs, Paired.mapP r fun p q z => ⟨z.1, ht _ _ z.2.1, z.2.2⟩, ob, es, ep, k _ _ (.inl rfl) e, c⟩
  | set S n => obtain ⟨ob, es, ep, t, e, c⟩ := x; exact ⟨ob, es, ep, t, k _ _ (.inl rfl) e, c⟩
  | ins C dx fs =>
    obtain ⟨d, z, ne, e, mA, ⟨od, es, ep, e2, c⟩, r⟩ := x
    exact ⟨ho _ d, z, ne, k _ _ (.inl rfl) e, mA, ⟨od, es, ep, k _ _ (.inr d) e2, c⟩, r⟩
  | own y => obtain ⟨ob, e⟩ := x; exact ⟨ob, k _ _ (.inl rfl) e⟩
  | xd fs => obtain ⟨mA, ⟨od, es, ep, e, c⟩, r⟩ := x; exact ⟨mA, ⟨od, es, ep, k _ _ (.inl rfl) e, c⟩, r⟩
  | rng lo hi => obtain ⟨t, u, v, e⟩ := x; exact ⟨t, u, v, k _ _ (.inl rfl) e⟩
  | frz ob u ih => obtain ⟨e, q⟩ := x; exact ⟨k _ _ (.inl rfl) e, ih q⟩
  | tbl ps =>
    have e : h.get? a = some { cls := .none, data := .fields ps } := x
    show h'.get? a = some { cls := .none, data := .fields ps }
    exact k a _ (.inl rfl) e
  | met f y =>
    have e : h.get? a = some (PySem.W.methodObj (.ref f) (.ref y)) := x
    show h'.get? a = some (PySem.W.methodObj (.ref f) (.ref y))
    exact k a _ (.inl rfl) e
  | ext φ => obtain ⟨p, ⟨o, e⟩, st⟩ := x; exact ⟨st _ _ p fun o q => k _ _ (.inl rfl) q, ⟨o, k _ _ (.inl rfl) e⟩, st⟩
theorem HOk.lt (x : HOk P w H h) (e : H a = some o) : a < h.objs.size := (x a o e).lt
theorem HOk.fresh (x : HOk P w H h) (e : h.objs.size ≤ a) : H a = none := by
  cases q : H a with
  | none => rfl
  | some u => exact absurd (Nat.lt_of_lt_of_le (x.lt q) e) (Nat.lt_irrefl _)
/-- every object of the heap is kept -/
theorem HOk.kept (x : HOk P w H h) (k : ∀ b u, h.get? b = some u → h'.get? b = some u) : HOk P w H h' := fun a o e =>
  (x a o e).stay (fun b u _ q => k b u q) (fun _ q => q) fun _ _ q => q
/-- a new object is laid and tracked -/
theorem HOk.laid (x : HOk P w H h) (k : ∀ b u, h.get? b = some u → h'.get? b = some u) (hp : h.objs.size ≤ a) (new : ObjOk P w (upd H a o) h' a o) : HOk P w (upd H a o) h' := fun b u e => by
  have hn := x.fresh hp
  by_cases hb : b = a
  · subst hb; rw [upd_same] at e; cases e; exact new
  · rw [upd_ne hb] at e
    exact (x b u e).stay (fun c v _ q => k c v q) (fun c q => by rw [upd_ne (ne_of_none q hn)]; exact q) fun c xs q => by rw [upd_ne (ne_of_none q hn)]; exact q
end

/-- what may be read as u: it is u, or a known u -/
def Rd (H : Hp) (a : Addr) (u : HO) : Prop := H a = some u ∨ ∃ o, H a = some (.frz o u)
theorem Rd.of {H : Hp} {a : Addr} {u : HO} (h : H a = some u) : Rd H a u := .inl h
theorem Rd.ok {P : Program} {w : World} {H : Hp} {h : Heap} {a : Addr} {u : HO} (r : Rd H a u) (x : HOk P w H h) : ObjOk P w H h a u := by
  rcases r with r | ⟨o, r⟩
  · exact x a u r
  · obtain ⟨_, q⟩ := x a _ r
    exact q
/-- what may be written -/
def Mut : Option HO → Prop
  | some (.lst _) => True
  | some (.dK _) => True
  | some (.dT _) => True
  | some (.set _ _) => True
  | some (.ins _ _ _) => True
  | some (.ext _) => True
  | _ => False
section
variable {P : Program} {w : World} {H : Hp} {h h' : Heap} {x e : Addr} {o' : HO}
/-- the object at e is changed: x itself, or the dict of the instance x -/
theorem HOk.write (ok : HOk P w H h) (mu : Mut (H x)) (he : e = x ∨ H e = some (.own x)) (k : ∀ b u, b ≠ e → h.get? b = some u → h'.get? b = some u) (heo : ∃ u, h'.get? e = some u)
    (new : ObjOk P w (upd H x o') h' x o') : HOk P w (upd H x o') h' := fun b u q => by
  have nown : ∀ c y, H c = some (.own y) → c ≠ x := fun c y r z => by subst z; rw [r] at mu; exact mu
  have ntup : ∀ c xs, H c = some (.tup xs) → c ≠ x := fun c xs r z => by subst z; rw [r] at mu; exact mu
  by_cases hb : b = x
  · subst hb; rw [upd_same] at q; cases q; exact new
  · rw [upd_ne hb] at q
    by_cases hbe : b = e
    · have q' : H b = some (.own x) := by
        rcases he with z | z
        · exact absurd (hbe.trans z) hb
        · rw [hbe]; exact z
      rw [q] at q'; cases q'
      obtain ⟨v, hv⟩ := heo
      exact ⟨v, by rw [hbe]; exact hv⟩
    · refine (ok b u q).stay (fun c v hc r => k c v ?_ r) (fun c r => by rw [upd_ne (nown c b r)]; exact r) fun c xs r => by rw [upd_ne (ntup c xs r)]; exact r
      rcases hc with rfl | hc
      · exact hbe
      · rintro rfl
        rcases he with z | z
        · exact nown c b hc z
        · rw [hc] at z; cases z; exact hb rfl
end

/-! ### kept unless tracked; of the frames at fs (the callers') the slots may change (an exception that passes writes there); of the records at ex (iterators) nothing is said -/
structure Un (fs ex : List Addr) (H H' : Hp) (h h' : Heap) : Prop where
  keep : ∀ b o, h.get? b = some o → H b = none → b ∉ fs → b ∉ ex → h'.get? b = some o
  slot : ∀ b o, h.get? b = some o → H b = none → b ∈ fs → b ∉ ex → ∃ sl, h'.get? b = some { o with slots := sl }
  free : ∀ b o, h.get? b = some o → H b = none → b ∉ ex → H' b = none
  there : ∀ b o, h.get? b = some o → b ∉ ex → ∃ o', h'.get? b = some o'
  tups : ∀ b xs, H b = some (.tup xs) → H' b = some (.tup xs)
  frzs : ∀ b o u, H b = some (.frz o u) → H' b = some (.frz o u)
  tbls : ∀ b ps, H b = some (.tbl ps) → ∃ more, H' b = some (.tbl (ps ++ more))
section
variable {fs fs' ex ex' : List Addr} {H H1 H2 : Hp} {h h1 h2 h' : Heap} {a x e : Addr} {o : HO}
theorem Un.any (u : Un fs ex H H1 h h1) {b : Addr} {ob : Obj} (q : h.get? b = some ob) (n : H b = none) (hx : b ∉ ex) : ∃ sl, h1.get? b = some { ob with slots := sl } := by
  by_cases hb : b ∈ fs
  · exact u.slot b ob q n hb hx
  · exact ⟨ob.slots, u.keep b ob q n hb hx⟩
theorem Un.trans (a : Un fs ex H H1 h h1) (b : Un fs ex H1 H2 h1 h2) : Un fs ex H H2 h h2 where
  keep := fun c ob q n hc hx => b.keep c ob (a.keep c ob q n hc hx) (a.free c ob q n hx) hc hx
  slot := fun c ob q n hc hx => by
    obtain ⟨sl, e1⟩ := a.slot c ob q n hc hx
    obtain ⟨sl', e2⟩ := b.slot c _ e1 (a.free c ob q n hx) hc hx
    exact ⟨sl', e2⟩
  free := fun c ob q n hx => by
    obtain ⟨o', e1⟩ := a.there c ob q hx
    exact b.free c o' e1 (a.free c ob q n hx) hx
  there := fun c ob q hx => by
    obtain ⟨o', e1⟩ := a.there c ob q hx
    exact b.there c o' e1 hx
  tups := fun c xs q => b.tups c xs (a.tups c xs q)
  frzs := fun c ob xs q => b.frzs c ob xs (a.frzs c ob xs q)
  tbls := fun c ps q => by
    obtain ⟨m1, e1⟩ := a.tbls c ps q
    obtain ⟨m2, e2⟩ := b.tbls c _ e1
    exact ⟨m1 ++ m2, by rw [e2, Array.append_assoc]⟩
theorem Un.kept (k : ∀ b u, h.get? b = some u → h'.get? b = some u) : Un fs ex H H h h' :=
  ⟨fun b ob q _ _ _ => k b ob q, fun b ob q _ _ _ => ⟨ob.slots, k b ob q⟩, fun _ _ _ n _ => n, fun b ob q _ => ⟨ob, k b ob q⟩, fun _ _ q => q, fun _ _ _ q => q, fun _ ps q => ⟨#[], by rw [q]; simp⟩⟩
theorem Un.refl : Un fs ex H H h h := Un.kept fun _ _ q => q
theorem Un.laid (k : ∀ b u, h.get? b = some u → h'.get? b = some u) (hp : h.objs.size ≤ a) (hn : H a = none) : Un fs ex H (upd H a o) h h' where
  keep := fun b u q _ _ _ => k b u q
  slot := fun b u q _ _ _ => ⟨u.slots, k b u q⟩
  free := fun b u q n _ => by rw [upd_ne (Nat.ne_of_lt (Nat.lt_of_lt_of_le (Heap.lt_size q) hp))]; exact n
  there := fun b u q _ => ⟨u, k b u q⟩
  tups := fun b xs q => by rw [upd_ne (ne_of_none q hn)]; exact q
  frzs := fun b u xs q => by rw [upd_ne (ne_of_none q hn)]; exact q
  tbls := fun b ps q => ⟨#[], by rw [upd_ne (ne_of_none q hn), q]; simp⟩
theorem Un.write (mu : Mut (H x)) (he : e = x ∨ H e = some (.own x)) (k : ∀ b u, b ≠ e → h.get? b = some u → h'.get? b = some u) (heo : ∃ u, h'.get? e = some u) : Un fs ex H (upd H x o) h h' := by
  have hx : ∀ b, H b = none → b ≠ x := fun b n z => by subst z; rw [n] at mu; exact mu
  have hb : ∀ b, H b = none → b ≠ e := fun b n z => by
    subst z
    rcases he with r | r
    · exact hx b n r
    · rw [n] at r; cases r
  have hm : ∀ b u, H b = some u → ¬ Mut (some u) → b ≠ x := fun b u q nm z => by subst z; rw [q] at mu; exact nm mu
  refine ⟨fun b u q n _ _ => k b u (hb b n) q, fun b u q n _ _ => ⟨u.slots, k b u (hb b n) q⟩, fun b u q n _ => by rw [upd_ne (hx b n)]; exact n, fun b u q _ => ?_,
    fun b xs q => by rw [upd_ne (hm b _ q fun z => z)]; exact q, fun b u xs q => by rw [upd_ne (hm b _ q fun z => z)]; exact q, fun b ps q => ⟨#[], by rw [upd_ne (hm b _ q fun z => z), q]; simp⟩⟩
  by_cases hbe : b = e
  · subst hbe; exact heo
  · exact ⟨u, k b u hbe q⟩
theorem Un.mono (u : Un fs ex H H1 h h1) (hs : ∀ b ∈ fs, b ∈ fs') (hx : ∀ b ∈ ex, b ∈ ex') : Un fs' ex' H H1 h h1 :=
  ⟨fun b ob q n hb he => u.keep b ob q n (fun z => hb (hs b z)) fun z => he (hx b z), fun _ _ q n _ he => u.any q n fun z => he (hx _ z), fun b ob q n he => u.free b ob q n fun z => he (hx b z), fun b ob q he => u.there b ob q fun z => he (hx b z), u.tups, u.frzs, u.tbls⟩
end

/-! ### the heap without what is tracked -/
def trk (h : Heap) (H : Hp) : List Addr := (List.range h.objs.size).filter fun a => (H a).isSome
def hidT (h : Heap) (H : Hp) : Heap := PySem.W.hideAll h (trk h H)
theorem hidT_size (h : Heap) (H : Hp) : (hidT h H).objs.size = h.objs.size := PySem.W.hideAll_size _ _
theorem hidT_get {h : Heap} {H : Hp} {b : Addr} {o : Obj} (e : h.get? b = some o) (n : H b = none) : (hidT h H).get? b = some o :=
  PySem.W.hideAll_get _ e fun hm => by
    have q : (H b).isSome = true := (List.mem_filter.mp hm).2
    rw [n] at q; simp at q
theorem of_hidT {h : Heap} {H : Hp} {b : Addr} {o : Obj} (e : (hidT h H).get? b = some o) : h.get? b = some o ∧ H b = none := by
  have e' : h.get? b = some o := PySem.W.of_hideAll (trk h H) e
  refine ⟨e', ?_⟩
  cases q : H b with
  | none => rfl
  | some x =>
    have hm : b ∈ trk h H := List.mem_filter.mpr ⟨List.mem_range.mpr (Heap.lt_size e'), by simp [q]⟩
    have z : (hidT h H).get? b = none := PySem.W.hideAll_none (trk h H) hm
    rw [z] at e; cases e

/-! ### OpenK's ledger, filled with every new object but one -/
def allNews (g h : Heap) (L : Addr) : List (Addr × Obj) := (List.range h.objs.size).filterMap fun a => if a = L ∨ (g.get? a).isSome = true then none else (h.get? a).map fun o => (a, o)
theorem mem_allNews {g h : Heap} {L a : Addr} {o : Obj} (h1 : a ≠ L) (h2 : g.get? a = none) (h3 : h.get? a = some o) : (a, o) ∈ allNews g h L :=
  List.mem_filterMap.mpr ⟨a, List.mem_range.mpr (Heap.lt_size h3), by simp [h1, h2, h3]⟩
theorem of_mem_allNews {g h : Heap} {L : Addr} {p : Addr × Obj} (hp : p ∈ allNews g h L) : p.1 ≠ L ∧ g.get? p.1 = none ∧ h.get? p.1 = some p.2 := by
  obtain ⟨b, _, e⟩ := List.mem_filterMap.mp hp
  split at e
  · cases e
  · rename_i hn
    cases q : h.get? b with
    | none => rw [q] at e; simp at e
    | some u =>
      rw [q] at e
      simp only [Option.map_some, Option.some.injEq] at e
      subst e
      refine ⟨fun z => hn (.inl z), ?_, q⟩
      show g.get? b = none
      cases r : g.get? b with
      | none => rfl
      | some v => exact (hn (.inr (by simp [r]))).elim
def rest (g h : Heap) (L d : Addr) : List (Addr × Obj) := (allNews g h L).filter fun p => decide (p.1 ≠ d)
theorem rest_ne {g h : Heap} {L d : Addr} : ∀ p ∈ rest g h L d, p.1 ≠ d := fun p hp => of_decide_eq_true (List.mem_filter.mp hp).2
theorem mem_rest {g h : Heap} {L d a : Addr} {o : Obj} (h1 : a ≠ L) (h2 : g.get? a = none) (h3 : h.get? a = some o) (h4 : a ≠ d) : (a, o) ∈ rest g h L d :=
  List.mem_filter.mpr ⟨mem_allNews h1 h2 h3, decide_eq_true h4⟩
theorem news_all {g h : Heap} {L : Addr} : News g L h (allNews g h L) := fun p hp => let ⟨a, b, c⟩ := of_mem_allNews hp; ⟨c, a, b⟩
theorem news_at {g h : Heap} {L d : Addr} {o : Obj} (h1 : d ≠ L) (h2 : g.get? d = none) (h3 : h.get? d = some o) : News g L h ((d, o) :: rest g h L d) := fun p hp => by
  rcases List.mem_cons.mp hp with rfl | hp
  · exact ⟨h3, h1, h2⟩
  · exact news_all p (List.mem_filter.mp hp).1
/-- behind a rule that changed d alone: all else but the frame is kept -/
theorem kept_of_news {g h h' : Heap} {L d : Addr} {m : Str → Option Value} (k : ∀ b o, g.get? b = some o → h.get? b = some o) (F : Fr g L h' m) (N : News g L h' (rest g h L d)) :
    ∀ b o, b ≠ L → b ≠ d → h.get? b = some o → h'.get? b = some o := fun b o h1 h2 e => by
  cases q : g.get? b with
  | some u =>
    have := k b u q
    rw [e] at this; cases this
    exact F.keep b _ q
  | none => exact (N (b, o) (mem_rest h1 q e h2)).1
end L2

namespace L2
open PySem PySem.Spec PyProof.Rows

/-- the module's facts, over the base: the heap at the law's entry without what is tracked there -/
structure Mod (K : PySem.W.Frag) (mg : Str → Option Value) (base : Heap) : Prop where
  kin : K.In base
  glob : base.Ns mainGlobals mg
  blt : ∃ mb, base.Ns builtinsNs mb ∧ ∀ x : Str, x ≠ "__name__" → mb x = bootBuiltins x
  nolimit : base.NoLimit

/-- the context: a def's body (or a comprehension's block) running. base: fixed through the whole law; s₀, H₀: the entry; outer: the frames whose slots others may change (a def's callers); stack: all frames that run;
   ex: iterators that were made ahead of the entry and are walked here (a comprehension's); fn: the names whose cells were made at the entry (a def: all; a comprehension's block: its own); calm: not within an except suite; pn: pins that every state bears; xe: what is wanted of an exception that leaves the code -/
structure Cx where
  prog : Program
  w : World
  K : PySem.W.Frag
  mg : Str → Option Value
  base : Heap
  A : Around
  N : List Str
  s₀ : Shared
  H₀ : Hp
  env : Env
  outer : List Env
  stack : List Env
  ex : List Addr
  fn : Str → Bool
  calm : Bool
  pn : List (Addr × Obj)
  xe : Value → Shared → Prop
/-- the callers' frames -/
def frs (l : List Env) : List Addr := l.filterMap (·.frame)
abbrev Cx.fs (X : Cx) : List Addr := frs X.outer

def Vis (sc : Scope) (x : Str) : Prop := sc.names.lookup x = some .local ∨ sc.names.lookup x = some .cell ∨ sc.names.lookup x = some .free
def Loc (sc : Scope) (x : Str) : Prop := sc.names.lookup x = some .local ∨ sc.names.lookup x = some .cell
def Look (env : Env) (h : Heap) (m : Str → Option Value) (x : Str) (u : Value) : Prop :=
  (env.kindOf x = some .local ∧ m x = some u) ∨ ((env.kindOf x = some .cell ∨ env.kindOf x = some .free) ∧ ∃ c, env.cells.lookup x = some c ∧ h.IsCell c (some u))

structure Cx.Ok (X : Cx) : Prop where
  mod : Mod X.K X.mg X.base
  kind : X.env.scope.kind = .function
  glob : X.env.globals = mainGlobals
  blt : X.env.builtins = builtinsNs
  above : X.s₀.heap.objs.size ≤ X.env.locals
  inj : ∀ x y c, X.env.cells.lookup x = some c → X.env.cells.lookup y = some c → x = y
  has : ∀ x, (X.env.kindOf x = some .cell ∨ X.env.kindOf x = some .free) → ∃ c, X.env.cells.lookup x = some c
  cab : ∀ x c, X.fn x = true → X.env.cells.lookup x = some c → X.s₀.heap.objs.size ≤ c
  hd : X.calm = true → X.A.handled = none
  frames : X.A.frames = some X.stack
  stk : X.stack = X.outer ∨ (X.stack = X.env :: X.outer ∧ X.env.frame = some X.env.locals)
  exf : ∀ b ∈ X.ex, b ≠ X.env.locals ∧ ∀ x c, X.env.cells.lookup x = some c → c ≠ b
  bs : ∀ b o, X.base.get? b = some o → X.s₀.heap.get? b = some o ∧ X.H₀ b = none
  bsz : X.base.objs.size ≤ X.s₀.heap.objs.size
  noex : ∀ b o, X.base.get? b = some o → b ∉ X.ex
  exfs : ∀ b ∈ X.ex, b ∉ X.fs
  funs : X.s₀.heap.FunFrames X.base X.outer
  frf : ∀ b ∈ X.fs, X.H₀ b = none

structure Inv (X : Cx) (pins : List (Addr × Obj)) (σ : List (Option V)) (H : Hp) (s : Shared) : Prop where
  ok : X.Ok
  os : s.os = X.s₀.os
  bare : AllBare s.gens
  base : Un X.fs X.ex X.H₀ H X.s₀.heap s.heap
  loc : ∃ m, s.heap.Ns X.env.locals m ∧ ∀ (i : Nat) (x : Str) (v : V), X.N[i]? = some x → σ[i]? = some (some v) → Vis X.env.scope x → ∃ u, RelV v u ∧ Look X.env s.heap m x u
  cell : ∀ x c, X.env.cells.lookup x = some c → ∃ v, s.heap.IsCell c v
  free : H X.env.locals = none
  freeC : ∀ x c, X.env.cells.lookup x = some c → H c = none
  pin : ∀ p ∈ X.pn ++ pins, s.heap.get? p.1 = some p.2 ∧ H p.1 = none ∧ p.1 ≠ X.env.locals ∧ p.1 ∉ X.fs ∧ ∀ v, p.2.data ≠ .cell v
  hok : HOk X.prog X.w H s.heap
  len : σ.length = X.N.length

section
variable {X : Cx} {pins : List (Addr × Obj)} {σ : List (Option V)} {H H' : Hp} {s : Shared} {h' : Heap}

theorem Cx.Ok.nofr (ok : X.Ok) {b : Addr} {o : Obj} (e : X.base.get? b = some o) : b ∉ X.fs := fun hb => by
  have := (ok.funs.mem hb).1
  rw [e] at this; cases this
theorem Inv.bs (I : Inv X pins σ H s) : ∀ b o, X.base.get? b = some o → s.heap.get? b = some o ∧ H b = none := fun b o e =>
  ⟨I.base.keep b o (I.ok.bs b o e).1 (I.ok.bs b o e).2 (I.ok.nofr e) (I.ok.noex b o e), I.base.free b o (I.ok.bs b o e).1 (I.ok.bs b o e).2 (I.ok.noex b o e)⟩
theorem Inv.bk (I : Inv X pins σ H s) : ∀ b o, X.base.get? b = some o → s.heap.get? b = some o := fun b o e => (I.bs b o e).1
theorem Inv.mod (I : Inv X pins σ H s) : Mod X.K X.mg X.base := I.ok.mod
theorem Inv.kIn (I : Inv X pins σ H s) : X.K.In s.heap := I.ok.mod.kin.keeps I.bk
theorem Inv.nolimit (I : Inv X pins σ H s) : s.heap.NoLimit := I.ok.mod.nolimit.keeps I.bk
/-- the frame over the base: for OpenK's rules (K.In X.base is I.mod.kin) -/
theorem Inv.fr (I : Inv X pins σ H s) : ∃ m, Fr X.base X.env.locals s.heap m :=
  let ⟨m, hn, _⟩ := I.loc
  ⟨m, hn, I.bk, Nat.le_trans I.ok.bsz I.ok.above⟩
theorem Inv.lt (I : Inv X pins σ H s) : X.env.locals < s.heap.objs.size := let ⟨_, hn, _⟩ := I.loc; hn.lt
theorem Inv.sz (I : Inv X pins σ H s) : X.s₀.heap.objs.size ≤ s.heap.objs.size := Nat.le_trans I.ok.above (Nat.le_of_lt I.lt)
theorem Inv.nofs (I : Inv X pins σ H s) {a : Addr} (h : s.heap.objs.size ≤ a) : a ∉ X.fs := fun hb => by
  obtain ⟨_, o, ho, _⟩ := I.ok.funs.mem hb
  exact absurd (Nat.lt_of_lt_of_le (Heap.lt_size ho) (Nat.le_trans I.sz h)) (Nat.lt_irrefl _)
theorem Inv.cne (I : Inv X pins σ H s) : ∀ x c, X.env.cells.lookup x = some c → c ≠ X.env.locals := fun x c e z => by
  obtain ⟨v, o, ho, hd⟩ := I.cell x c e
  obtain ⟨m, ⟨o', es, ep, ho', hd', _⟩, _⟩ := I.loc
  rw [z, ho'] at ho; cases ho; rw [hd'] at hd; cases hd
theorem Inv.funs (I : Inv X pins σ H s) : s.heap.FunFrames X.base X.outer := by
  have all : ∀ (l : List Env), (∀ b ∈ frs l, b ∈ X.fs) → X.s₀.heap.FunFrames X.base l → s.heap.FunFrames X.base l := by
    intro l
    induction l with
    | nil => intro _ _; trivial
    | cons env r ih =>
      intro hs hl
      obtain ⟨hk, ⟨L, o, hf, hn, ho, hd⟩, hr⟩ := hl
      have hL : L ∈ X.fs := hs L (by unfold frs; rw [List.filterMap_cons, hf]; exact List.mem_cons_self)
      obtain ⟨sl, e⟩ := I.base.slot L o ho (I.ok.frf L hL) hL fun z => I.ok.exfs L z hL
      exact ⟨hk, ⟨L, _, hf, hn, e, hd⟩, ih (fun b hb => hs b (by unfold frs; rw [List.filterMap_cons, hf]; exact List.mem_cons_of_mem _ hb)) hr⟩
  exact all X.outer (fun _ hb => hb) I.ok.funs

/-- the frames that run, for a call -/
theorem Inv.stack (I : Inv X pins σ H s) : s.heap.FunFrames X.base X.stack := by
  rcases I.ok.stk with e | ⟨e, hf⟩
  · rw [e]; exact I.funs
  · rw [e]
    obtain ⟨m, hn, _⟩ := I.loc
    refine .cons (by rw [I.ok.kind]; decide) hf hn ?_ I.funs
    exact Heap.get?_none_of_le (Nat.le_trans I.ok.bsz I.ok.above)
theorem Inv.stkSub (I : Inv X pins σ H s) : ∀ b ∈ frs X.stack, b ∈ X.env.locals :: X.fs := fun b hb => by
  rcases I.ok.stk with e | ⟨e, hf⟩
  · rw [e] at hb; exact List.mem_cons_of_mem _ hb
  · rw [e] at hb
    unfold frs at hb
    rw [List.filterMap_cons, hf] at hb
    exact hb
theorem Inv.stkFree (I : Inv X pins σ H s) : ∀ b ∈ frs X.stack, H b = none := fun b hb => by
  rcases List.mem_cons.mp (I.stkSub b hb) with e | hb
  · rw [e]; exact I.free
  · obtain ⟨_, o, ho, _⟩ := I.ok.funs.mem hb
    exact I.base.free b o ho (I.ok.frf b hb) fun z => I.ok.exfs b z hb

/-- THE STEP: the untracked objects but the frame and the records at ch are kept (the callers' frames up to slots), the frame's map is kept, the new abstract heap is held -/
theorem Inv.step {g' : Array GenState} {t' : Nat} {d' : Drawn} {ch : List Addr} (I : Inv X pins σ H s)
    (hch : ∀ b ∈ ch, (b ∈ X.ex ∨ X.s₀.heap.objs.size ≤ b) ∧ b ≠ X.env.locals ∧ (∀ x c, X.env.cells.lookup x = some c → c ≠ b) ∧ ∀ p ∈ X.pn ++ pins, p.1 ≠ b)
    (keep : ∀ b o, b ≠ X.env.locals → b ∉ X.fs → b ∉ ch → s.heap.get? b = some o → H b = none → h'.get? b = some o)
    (slot : ∀ b o, b ≠ X.env.locals → b ∈ X.fs → b ∉ ch → s.heap.get? b = some o → H b = none → ∃ sl, h'.get? b = some { o with slots := sl }) (free : ∀ b o, b ∉ ch → s.heap.get? b = some o → H b = none → H' b = none)
    (there : ∀ b o, b ∉ ch → s.heap.get? b = some o → ∃ o', h'.get? b = some o')
    (tups : ∀ b xs, H b = some (.tup xs) → H' b = some (.tup xs)) (frzs : ∀ b o u, H b = some (.frz o u) → H' b = some (.frz o u)) (tbls : ∀ b ps, H b = some (.tbl ps) → ∃ more, H' b = some (.tbl (ps ++ more)))
    (ns : ∀ m, s.heap.Ns X.env.locals m → h'.Ns X.env.locals m) (hok : HOk X.prog X.w H' h') (hg : AllBare g') :
    Inv X pins σ H' { s with heap := h', gens := g', drawn := d', toks := t' } := by
  have neL : ∀ b o, X.s₀.heap.get? b = some o → b ≠ X.env.locals := fun b o e => Nat.ne_of_lt (Nat.lt_of_lt_of_le (Heap.lt_size e) I.ok.above)
  have neC : ∀ b o, X.s₀.heap.get? b = some o → b ∉ X.ex → b ∉ ch := fun b o e hx hb => by
    rcases (hch b hb).1 with z | z
    · exact hx z
    · exact absurd (Nat.lt_of_lt_of_le (Heap.lt_size e) z) (Nat.lt_irrefl _)
  have cellK : ∀ x c, X.env.cells.lookup x = some c → ∀ v, s.heap.IsCell c v → h'.IsCell c v := fun x c e v ⟨o, ho, hd⟩ => by
    have nch : c ∉ ch := fun z => (hch c z).2.2.1 x c e rfl
    by_cases hc : c ∈ X.fs
    · obtain ⟨sl, q⟩ := slot c o (I.cne x c e) hc nch ho (I.freeC x c e)
      exact ⟨_, q, hd⟩
    · exact ⟨o, keep c o (I.cne x c e) hc nch ho (I.freeC x c e), hd⟩
  refine ⟨I.ok, I.os, hg, ⟨fun b o e n hb hx => ?_, fun b o e n hb hx => ?_, fun b o e n hx => ?_, fun b o e hx => ?_, fun b xs e => tups b xs (I.base.tups b xs e), fun b o xs e => frzs b o xs (I.base.frzs b o xs e), fun b ps e => ?_⟩, ?_, fun x c e => ?_, ?_, fun x c e => ?_, fun p hp => ?_, hok, I.len⟩
  · exact keep b o (neL b o e) hb (neC b o e hx) (I.base.keep b o e n hb hx) (I.base.free b o e n hx)
  · obtain ⟨sl, e1⟩ := I.base.slot b o e n hb hx
    obtain ⟨sl', e2⟩ := slot b _ (neL b o e) hb (neC b o e hx) e1 (I.base.free b o e n hx)
    exact ⟨sl', e2⟩
  · obtain ⟨o', e1⟩ := I.base.there b o e hx
    exact free b o' (neC b o e hx) e1 (I.base.free b o e n hx)
  · obtain ⟨o', e1⟩ := I.base.there b o e hx
    exact there b o' (neC b o e hx) e1
  · obtain ⟨m1, e1⟩ := I.base.tbls b ps e
    obtain ⟨m2, e2⟩ := tbls b _ e1
    exact ⟨m1 ++ m2, by rw [e2, Array.append_assoc]⟩
  · obtain ⟨m, hn, hl⟩ := I.loc
    refine ⟨m, ns m hn, fun i x v e1 e2 e3 => ?_⟩
    obtain ⟨u, r, l⟩ := hl i x v e1 e2 e3
    refine ⟨u, r, ?_⟩
    rcases l with l | ⟨k, c, e, z⟩
    · exact .inl l
    · exact .inr ⟨k, c, e, cellK x c e _ z⟩
  · obtain ⟨v, z⟩ := I.cell x c e
    exact ⟨v, cellK x c e v z⟩
  · obtain ⟨m, ⟨o, _, _, ho, _⟩, _⟩ := I.loc
    exact free _ o (fun z => (hch _ z).2.1 rfl) ho I.free
  · obtain ⟨v, o, ho, hd⟩ := I.cell x c e
    exact free c o (fun z => (hch c z).2.2.1 x c e rfl) ho (I.freeC x c e)
  · obtain ⟨e, n, ne, nf, d⟩ := I.pin p hp
    have nch : p.1 ∉ ch := fun z => (hch p.1 z).2.2.2 p hp rfl
    exact ⟨keep p.1 p.2 ne nf nch e n, free p.1 p.2 nch e n, ne, nf, d⟩
/-- .. where the frame's own object is kept too -/
theorem Inv.un {t' : Nat} (I : Inv X pins σ H s) (u : Un X.fs [] H H' s.heap h') (hok : HOk X.prog X.w H' h') : Inv X pins σ H' { s with heap := h', toks := t' } := by
  obtain ⟨m, ⟨o, es, ep, ho, r⟩, _⟩ := id I.loc
  obtain ⟨sl, hL⟩ := u.any ho I.free (by simp)
  exact I.step (g' := s.gens) (d' := s.drawn) (ch := []) (fun _ z => nomatch z) (fun b o _ hb _ e n => u.keep b o e n hb (by simp)) (fun b o _ hb _ e n => u.slot b o e n hb (by simp)) (fun b o _ e n => u.free b o e n (by simp)) (fun b o _ e => u.there b o e (by simp)) u.tups u.frzs u.tbls (fun m' hm => by
    obtain ⟨o', es', ep', ho', r'⟩ := hm
    rw [ho] at ho'; cases ho'
    exact ⟨_, es', ep', hL, r'⟩) hok I.bare
/-- behind a call (or a comprehension's block): the slots of this frame may have changed too, the records at ch may have turned -/
theorem Inv.call {g' : Array GenState} {t' : Nat} {d' : Drawn} {ch : List Addr} (I : Inv X pins σ H s) (u : Un (frs X.stack) ch H H' s.heap h') (hok : HOk X.prog X.w H' h') (hg : AllBare g')
    (hch : ∀ b ∈ ch, (b ∈ X.ex ∨ X.s₀.heap.objs.size ≤ b) ∧ b ≠ X.env.locals ∧ (∀ x c, X.env.cells.lookup x = some c → c ≠ b) ∧ ∀ p ∈ X.pn ++ pins, p.1 ≠ b) :
    Inv X pins σ H' { s with heap := h', gens := g', drawn := d', toks := t' } := by
  obtain ⟨m, ⟨o, es, ep, ho, r⟩, _⟩ := id I.loc
  obtain ⟨sl, hL⟩ := u.any ho I.free fun z => (hch _ z).2.1 rfl
  exact I.step (ch := ch) hch (fun b o hL hb hc e n => u.keep b o e n (fun z => (List.mem_cons.mp (I.stkSub b z)).elim hL hb) hc) (fun b o _ _ hc e n => u.any e n hc) (fun b o hc e n => u.free b o e n hc) (fun b o hc e => u.there b o e hc) u.tups u.frzs u.tbls (fun m' hm => by
    obtain ⟨o', es', ep', ho', r'⟩ := hm
    rw [ho] at ho'; cases ho'
    exact ⟨_, es', ep', hL, r'⟩) hok hg
/-- an untracked record of ours (an iterator) has turned -/
theorem Inv.turned {t' : Nat} {it : Addr} (I : Inv X pins σ H s) (k : ∀ b o, b ≠ it → s.heap.get? b = some o → h'.get? b = some o) (hn : H it = none) (hL : it ≠ X.env.locals)
    (h1 : it ∈ X.ex ∨ X.s₀.heap.objs.size ≤ it) (h2 : ∀ x c, X.env.cells.lookup x = some c → c ≠ it) (h3 : ∀ p ∈ X.pn ++ pins, p.1 ≠ it) : Inv X pins σ H { s with heap := h', toks := t' } := by
  have nit : ∀ b u, H b = some u → b ≠ it := fun b u e z => by rw [z, hn] at e; cases e
  refine I.step (g' := s.gens) (d' := s.drawn) (ch := [it]) (fun b hb => ?_) (fun b o _ _ hc e _ => k b o (fun z => hc (by simp [z])) e) (fun b o _ _ hc e _ => ⟨o.slots, k b o (fun z => hc (by simp [z])) e⟩) (fun _ _ _ _ n => n)
    (fun b o hc e => ⟨o, k b o (fun z => hc (by simp [z])) e⟩) (fun _ _ e => e) (fun _ _ _ e => e) (fun b ps e => ⟨#[], by rw [e]; simp⟩) (fun m hm => ?_) (fun b u e => ?_) I.bare
  · have e : b = it := by simpa using hb
    subst e
    exact ⟨h1, hL, h2, h3⟩
  · obtain ⟨o, es, ep, ho, r⟩ := hm
    exact ⟨o, es, ep, k _ o (Ne.symm hL) ho, r⟩
  · refine (I.hok b u e).stay (fun c v hc q => k c v ?_ q) (fun _ q => q) fun _ _ q => q
    rcases hc with z | z
    · rw [z]; exact nit b u e
    · exact nit c _ z
theorem Inv.tok (I : Inv X pins σ H s) (t : Nat) : Inv X pins σ H { s with toks := t } := I.un (h' := s.heap) (t' := t) Un.refl I.hok
/-- all objects kept -/
theorem Inv.kept {t' : Nat} (I : Inv X pins σ H s) (k : ∀ b u, s.heap.get? b = some u → h'.get? b = some u) : Inv X pins σ H { s with heap := h', toks := t' } := I.un (Un.kept k) (I.hok.kept k)
/-- a new object laid and tracked -/
theorem Inv.laid {a : Addr} {o : HO} {t' : Nat} (I : Inv X pins σ H s) (k : ∀ b u, s.heap.get? b = some u → h'.get? b = some u) (hp : s.heap.objs.size ≤ a) (new : ObjOk X.prog X.w (upd H a o) h' a o) :
    Inv X pins σ (upd H a o) { s with heap := h', toks := t' } := I.un (Un.laid k hp (I.hok.fresh hp)) (I.hok.laid k hp new)
/-- an object written -/
theorem Inv.write {x e : Addr} {o : HO} {t' : Nat} (I : Inv X pins σ H s) (mu : Mut (H x)) (he : e = x ∨ H e = some (.own x)) (k : ∀ b u, b ≠ e → s.heap.get? b = some u → h'.get? b = some u) (heo : ∃ u, h'.get? e = some u)
    (new : ObjOk X.prog X.w (upd H x o) h' x o) : Inv X pins σ (upd H x o) { s with heap := h', toks := t' } := I.un (Un.write mu he k heo) (I.hok.write mu he k heo new)
/-- forgetting slots, pins -/
theorem Inv.weak {σ' : List (Option V)} (I : Inv X pins σ H s) (hl : σ'.length = σ.length) (w : ∀ (i : Nat) v, σ'[i]? = some (some v) → σ[i]? = some (some v)) : Inv X pins σ' H s :=
  ⟨I.ok, I.os, I.bare, I.base, let ⟨m, hn, hl'⟩ := I.loc; ⟨m, hn, fun i x v e1 e2 e3 => hl' i x v e1 (w i v e2) e3⟩, I.cell, I.free, I.freeC, I.pin, I.hok, hl.trans I.len⟩
theorem Inv.pins_of {pins' : List (Addr × Obj)} (I : Inv X pins σ H s) (h : ∀ p ∈ pins', s.heap.get? p.1 = some p.2 ∧ H p.1 = none ∧ p.1 ≠ X.env.locals ∧ p.1 ∉ X.fs ∧ ∀ v, p.2.data ≠ .cell v) : Inv X pins' σ H s :=
  ⟨I.ok, I.os, I.bare, I.base, I.loc, I.cell, I.free, I.freeC, fun p hp => (List.mem_append.mp hp).elim (fun z => I.pin p (List.mem_append_left _ z)) (h p), I.hok, I.len⟩

theorem nodup_ix {N : List Str} (hN : N.Nodup) {i j : Nat} {x : Str} (a : N[i]? = some x) (b : N[j]? = some x) : i = j := by
  obtain ⟨h1, e1⟩ := List.getElem?_eq_some_iff.mp a
  obtain ⟨h2, e2⟩ := List.getElem?_eq_some_iff.mp b
  exact (List.getElem_inj hN).mp (e1.trans e2.symm)

/-- a name is stored; what changed -/
theorem store_ok2 {M : Model} {A : Around} {E : Value → Shared → Prop} {i : Nat} {x : Str} {v : V} {u : Value} {Q : Unit → Shared → Prop} (I : Inv X pins σ H s) (hN : X.N.Nodup) (hi : X.N[i]? = some x) (hx : Loc X.env.scope x) (r : RelV v u)
    (h : ∀ s', Inv X pins (σ.set i (some v)) H s' → (∃ a, Heap.SameBut a s.heap s'.heap ∧ (a = X.env.locals ∨ X.env.cells.lookup x = some a)) → Q () s') (hf : X.fn x = true ∨ X.env.scope.names.lookup x = some .local := by first | exact .inl rfl | exact .inr rfl | assumption) : wpAny M A (storeName X.env x u) Q E s := by
  obtain ⟨m, hn, hl⟩ := id I.loc
  have hcls : (X.env.scope.kind == .class || (X.env.scope.kind == .module && X.env.locals != X.env.globals)) = false := by rw [I.ok.kind]; rfl
  have hiσ : i < σ.length := by rw [I.len]; exact (List.getElem?_eq_some_iff.mp hi).1
  have cne := I.cne
  have tracked : ∀ {a : Addr} {h' : Heap}, (∃ o, s.heap.get? a = some o ∧ H a = none) → Heap.SameBut a s.heap h' → HOk X.prog X.w H h' := fun {a h'} ha hs b ob e => by
    obtain ⟨_, _, hfree⟩ := ha
    refine (I.hok b ob e).stay (fun c w' hc q => (hs.2 c ?_).trans q) (fun _ q => q) fun _ _ q => q
    rintro rfl
    rcases hc with rfl | hc
    · rw [hfree] at e; cases e
    · rw [hfree] at hc; cases hc
  rcases hx with hk | hk
  · refine wpAny_storeName_local hk hn (fun h' hn' hs => ?_) hcls
    obtain ⟨oL, _, _, hoL, _⟩ := id hn
    refine h _ ⟨I.ok, I.os, I.bare, ⟨fun b o e n hb hx => ?_, fun b o e n hb hx => ?_, I.base.free, fun b o e hx => ?_, I.base.tups, I.base.frzs, I.base.tbls⟩, ⟨_, hn', fun j y v' e1 e2 e3 => ?_⟩, fun y c e => ?_, I.free, I.freeC, fun p hp => ?_, tracked ⟨oL, hoL, I.free⟩ hs, by simpa using I.len⟩ ⟨_, hs, .inl rfl⟩
    · exact (hs.2 b (Nat.ne_of_lt (Nat.lt_of_lt_of_le (Heap.lt_size e) I.ok.above))).trans (I.base.keep b o e n hb hx)
    · obtain ⟨sl, e1⟩ := I.base.slot b o e n hb hx
      exact ⟨sl, (hs.2 b (Nat.ne_of_lt (Nat.lt_of_lt_of_le (Heap.lt_size e) I.ok.above))).trans e1⟩
    · obtain ⟨o', e1⟩ := I.base.there b o e hx
      exact ⟨o', (hs.2 b (Nat.ne_of_lt (Nat.lt_of_lt_of_le (Heap.lt_size e) I.ok.above))).trans e1⟩
    · by_cases hj : j = i
      · subst hj
        rw [hi] at e1; cases e1
        rw [List.getElem?_set_self hiσ] at e2
        cases e2
        exact ⟨u, r, .inl ⟨hk, by simp⟩⟩
      · rw [List.getElem?_set_ne (Ne.symm hj)] at e2
        obtain ⟨u', r', q⟩ := hl j y v' e1 e2 e3
        refine ⟨u', r', ?_⟩
        rcases q with ⟨k, e⟩ | ⟨k, c, e, z⟩
        · refine .inl ⟨k, ?_⟩
          have : y ≠ x := fun e => hj (nodup_ix hN e1 (e ▸ hi))
          simp [this, e]
        · exact .inr ⟨k, c, e, z.sameBut hs (cne y c e)⟩
    · obtain ⟨w', z⟩ := I.cell y c e
      exact ⟨w', z.sameBut hs (cne y c e)⟩
    · obtain ⟨e, n, ne, nf, d⟩ := I.pin p hp
      exact ⟨(hs.2 p.1 ne).trans e, n, ne, nf, d⟩
  · have hfn : X.fn x = true := by
      rcases hf with z | z
      · exact z
      · rw [z] at hk; cases hk
    obtain ⟨c, hc⟩ := I.ok.has x (.inl hk)
    obtain ⟨w', z⟩ := I.cell x c hc
    refine wpAny_storeName_cell I.ok.kind hk hc z (fun h' hc' hs => ?_)
    obtain ⟨oc, hoc, hocd⟩ := id z
    refine h { s with heap := h' } ⟨I.ok, I.os, I.bare, ⟨fun b o e n hb hx => ?_, fun b o e n hb hx => ?_, I.base.free, fun b o e hx => ?_, I.base.tups, I.base.frzs, I.base.tbls⟩, ⟨m, hn.sameBut hs (Ne.symm (cne x c hc)), fun j y v' e1 e2 e3 => ?_⟩, fun y c' e => ?_, I.free, I.freeC, fun p hp => ?_, tracked ⟨oc, hoc, I.freeC x c hc⟩ hs, by simpa using I.len⟩ ⟨c, hs, .inr hc⟩
    · exact (hs.2 b (Nat.ne_of_lt (Nat.lt_of_lt_of_le (Heap.lt_size e) (I.ok.cab x c hfn hc)))).trans (I.base.keep b o e n hb hx)
    · obtain ⟨sl, e1⟩ := I.base.slot b o e n hb hx
      exact ⟨sl, (hs.2 b (Nat.ne_of_lt (Nat.lt_of_lt_of_le (Heap.lt_size e) (I.ok.cab x c hfn hc)))).trans e1⟩
    · obtain ⟨o', e1⟩ := I.base.there b o e hx
      exact ⟨o', (hs.2 b (Nat.ne_of_lt (Nat.lt_of_lt_of_le (Heap.lt_size e) (I.ok.cab x c hfn hc)))).trans e1⟩
    · by_cases hj : j = i
      · subst hj
        rw [hi] at e1; cases e1
        rw [List.getElem?_set_self hiσ] at e2
        cases e2
        exact ⟨u, r, .inr ⟨.inl hk, c, hc, hc'⟩⟩
      · rw [List.getElem?_set_ne (Ne.symm hj)] at e2
        obtain ⟨u', r', q⟩ := hl j y v' e1 e2 e3
        refine ⟨u', r', ?_⟩
        rcases q with q | ⟨k, c', e, z'⟩
        · exact .inl q
        · refine .inr ⟨k, c', e, z'.sameBut hs ?_⟩
          rintro rfl
          exact hj (nodup_ix hN e1 (I.ok.inj _ _ _ e hc ▸ hi))
    · by_cases hcc : c' = c
      · subst hcc; exact ⟨_, hc'⟩
      · obtain ⟨w2, z2⟩ := I.cell y c' e
        exact ⟨w2, z2.sameBut hs hcc⟩
    · obtain ⟨e, n, ne, nf, d⟩ := I.pin p hp
      refine ⟨(hs.2 p.1 ?_).trans e, n, ne, nf, d⟩
      intro q
      rw [q, hoc] at e
      have q' : oc = p.2 := Option.some.inj e
      exact d w' (by rw [← q']; exact hocd)
theorem store_ok {M : Model} {A : Around} {E : Value → Shared → Prop} {i : Nat} {x : Str} {v : V} {u : Value} {Q : Unit → Shared → Prop} (I : Inv X pins σ H s) (hN : X.N.Nodup) (hi : X.N[i]? = some x) (hx : Loc X.env.scope x) (r : RelV v u)
    (h : ∀ s', Inv X pins (σ.set i (some v)) H s' → Q () s') (hf : X.fn x = true ∨ X.env.scope.names.lookup x = some .local := by first | exact .inl rfl | exact .inr rfl | assumption) : wpAny M A (storeName X.env x u) Q E s :=
  store_ok2 I hN hi hx r (fun s' I' _ => h s' I') hf
/-- behind a call or a block, the state as it is -/
theorem Inv.call' {s' : Shared} {ch : List Addr} (I : Inv X pins σ H s) (ho : s'.os = s.os) (u : Un (frs X.stack) ch H H' s.heap s'.heap) (hok : HOk X.prog X.w H' s'.heap) (hg : AllBare s'.gens)
    (hch : ∀ b ∈ ch, (b ∈ X.ex ∨ X.s₀.heap.objs.size ≤ b) ∧ b ≠ X.env.locals ∧ (∀ x c, X.env.cells.lookup x = some c → c ≠ b) ∧ ∀ p ∈ X.pn ++ pins, p.1 ≠ b) : Inv X pins σ H' s' := by
  obtain ⟨h', g', d', t', o'⟩ := s'
  have e : o' = s.os := ho
  subst e
  exact I.call (g' := g') (t' := t') (d' := d') u hok hg hch
end

/-! ### the judgements -/
/-- an exception: its class, its own dict's address (where it has one), the abstract heap behind it -/
abbrev XK := Value → Option Addr → Hp → Prop
abbrev St := List (Option V)
abbrev VK := V → Hp → Prop
/-- an expression's reading; a test's; an argument list's -/
abbrev TE := St → Hp → VK → Prop
abbrev TT := St → Hp → (Bool → Hp → Prop) → Prop
abbrev TA := St → Hp → (List V → Hp → Prop) → Prop
/-- what is wanted behind a statement -/
structure Ends where
  nx : St → Hp → Prop
  rt : VK
  bk : St → Hp → Prop := fun _ _ => False
  ct : St → Hp → Prop := fun _ _ => False
abbrev TS := Ends → St → Hp → Prop

def EP (X : Cx) (pins : List (Addr × Obj)) (σ : St) (Q : VK) (u : Value) (s' : Shared) : Prop := ∃ v H', Inv X pins σ H' s' ∧ RelV v u ∧ Q v H'
def TP (X : Cx) (pins : List (Addr × Obj)) (σ : St) (Q : Bool → Hp → Prop) (b : Bool) (s' : Shared) : Prop := ∃ H', Inv X pins σ H' s' ∧ Q b H'
def AP (X : Cx) (pins : List (Addr × Obj)) (σ : St) (Q : List V → Hp → Prop) (us : List Value) (s' : Shared) : Prop := ∃ vs H', Inv X pins σ H' s' ∧ Vals vs us ∧ Q vs H'
def SP (X : Cx) (pins : List (Addr × Obj)) (D : Ends) (f : Flow) (s' : Shared) : Prop :=
  match f with
  | .next => ∃ σ' H', Inv X pins σ' H' s' ∧ D.nx σ' H'
  | .brk => ∃ σ' H', Inv X pins σ' H' s' ∧ D.bk σ' H'
  | .cont => ∃ σ' H', Inv X pins σ' H' s' ∧ D.ct σ' H'
  | .ret u => ∃ v σ' H', Inv X pins σ' H' s' ∧ RelV v u ∧ D.rt v H'

def PE (X : Cx) (e : Expr) (t : TE) : Prop :=
  ∀ (pins : List (Addr × Obj)) (s : Shared) (σ : St) (H : Hp) (Q : VK), Inv X pins σ H s → t σ H Q → wpAny (model X.prog X.w) X.A (eval e X.env) (EP X pins σ Q) X.xe s
def PT (X : Cx) (e : Expr) (t : TT) : Prop :=
  ∀ (pins : List (Addr × Obj)) (s : Shared) (σ : St) (H : Hp) (Q : Bool → Hp → Prop), Inv X pins σ H s → t σ H Q → wpAny (model X.prog X.w) X.A (isTrue e X.env (eval e X.env)) (TP X pins σ Q) X.xe s
/-- a test whatever its 'whole' is (and, or) -/
def PW (X : Cx) (e : Expr) (t : TT) : Prop :=
  ∀ (whole : Sem Value) (pins : List (Addr × Obj)) (s : Shared) (σ : St) (H : Hp) (Q : Bool → Hp → Prop), Inv X pins σ H s → t σ H Q → wpAny (model X.prog X.w) X.A (isTrue e X.env whole) (TP X pins σ Q) X.xe s
theorem PW.pt {X : Cx} {e : Expr} {t : TT} (h : PW X e t) : PT X e t := h _
/-- an argument list (no star), from the left -/
def PA (X : Cx) (es : List Expr) (t : TA) : Prop :=
  ∀ (pos : Pos) (pins : List (Addr × Obj)) (s : Shared) (σ : St) (H : Hp) (Q : List V → Hp → Prop), Inv X pins σ H s → t σ H Q → wpAny (model X.prog X.w) X.A (spliced (backTo pos (starEach es X.env))) (AP X pins σ Q) X.xe s
def PS (X : Cx) (st : Stmt) (t : TS) : Prop :=
  ∀ (pins : List (Addr × Obj)) (s : Shared) (σ : St) (H : Hp) (D : Ends), Inv X pins σ H s → t D σ H → wpAny (model X.prog X.w) X.A (exec st X.env) (SP X pins D) X.xe s
def PSs (X : Cx) (st : List Stmt) (t : TS) : Prop :=
  ∀ (pins : List (Addr × Obj)) (s : Shared) (σ : St) (H : Hp) (D : Ends), Inv X pins σ H s → t D σ H → wpAny (model X.prog X.w) X.A (execs st X.env) (SP X pins D) X.xe s
/-- weaken the end -/
theorem thn {α : Type} {t : Sem α} {Q Q' : α → Shared → Prop} {M : Model} {A : Around} {E : Value → Shared → Prop} {s : Shared} (h : wpAny M A t Q E s) (hQ : ∀ a s, Q a s → Q' a s) : wpAny M A t Q' E s := wpAny_mono h hQ fun _ _ x => x
end L2

namespace L2
open PySem PySem.Spec PyProof.Rows
section
variable {X : Cx}

/-- two expressions in a row -/
theorem bin {a b : Expr} {ta tb : TE} (ha : PE X a ta) (hb : PE X b tb) {pins : List (Addr × Obj)} {s : Shared} {σ : St} {H : Hp} {R : V → V → Hp → Prop} (I : Inv X pins σ H s) (h : ta σ H fun x H1 => tb σ H1 fun y H2 => R x y H2)
    {α : Type} {Q : α → Shared → Prop} {f : Value → Value → Sem α}
    (hf : ∀ v u s2 x y H2, Inv X pins σ H2 s2 → RelV x v → RelV y u → R x y H2 → wpAny (model X.prog X.w) X.A (f v u) Q X.xe s2) :
    wpAny (model X.prog X.w) X.A (eval a X.env) (fun v s₁ => wpAny (model X.prog X.w) X.A (eval b X.env) (fun u s₂ => wpAny (model X.prog X.w) X.A (f v u) Q X.xe s₂) X.xe s₁) X.xe s := by
  refine thn (ha pins s σ H _ I h) fun v s1 ⟨x, H1, I1, r1, q1⟩ => ?_
  refine thn (hb pins s1 σ H1 _ I1 q1) fun u s2 ⟨y, H2, I2, r2, q2⟩ => ?_
  exact hf v u s2 x y H2 I2 r1 r2 q2

/-! ### names and constants -/
def tVar (i : Nat) : TE := fun σ H Q => ∃ v, σ[i]? = some (some v) ∧ Q v H
def tC (v : V) : TE := fun _ H Q => Q v H
theorem pe_var {i : Nat} {x : Str} {pos : Pos} (hN : X.N[i]? = some x) (hv : Vis X.env.scope x) (hd : (x == ("__debug__" : Str)) = false := by decide) (hcd : (x == ("__classdict__" : Str)) = false := by decide) : PE X (.Name x pos) (tVar i) := by
  intro pins s σ H Q I h
  obtain ⟨v, e, h⟩ := h
  obtain ⟨m, hn, hl⟩ := I.loc
  obtain ⟨u, r, l⟩ := hl i x v hN e hv
  have fin : EP X pins σ Q u s := ⟨v, H, I, r, h⟩
  rcases l with ⟨hk, hm⟩ | ⟨hk, c, hc, hcell⟩
  · exact wpAny_Name (wpAny_loadName_local I.ok.kind hk hn hm fin) hd
  · rcases hk with hk | hk
    · exact wpAny_Name (wpAny_loadName_cell I.ok.kind hk hc hcell fin) hd
    · exact wpAny_Name (wpAny_loadName_free I.ok.kind hk hc hcell fin hcd) hd
theorem pe_int {i j pos} : PE X (.Constant (.int i) j pos) (tC (.int i)) := fun _ _ _ H _ I h => wpAny_Constant_int ⟨.int i, H, I.tok _, ⟨_, rfl⟩, h⟩
theorem pe_bl {b j pos} : PE X (.Constant (.bool b) j pos) (tC (.bl b)) := fun _ _ _ H _ I h => Constant_bool ⟨.bl b, H, I, rfl, h⟩
theorem pe_non {j pos} : PE X (.Constant .none j pos) (tC .non) := fun _ _ _ H _ I h => Constant_none ⟨.non, H, I, rfl, h⟩
theorem pe_str {x j pos} : PE X (.Constant (.str x) j pos) (tC (.str x)) := fun _ _ _ H _ I h => Calls.Constant_str ⟨.str x, H, I.tok _, ⟨_, rfl⟩, h⟩

/-- a global name of the def -/
def Gl (X : Cx) (x : Str) : Prop := X.env.kindOf x = some .globalImplicit
theorem ld_glob {E : Value → Shared → Prop} {pins : List (Addr × Obj)} {s : Shared} {σ : St} {H : Hp} {x : Str} {u : Value} {pos : Pos} {Q : Value → Shared → Prop} (I : Inv X pins σ H s) (hg : Gl X x) (hm : X.mg x = some u) (h : Q u s)
    (hd : (x == ("__debug__" : Str)) = false := by decide) : wpAny (model X.prog X.w) X.A (eval (.Name x pos) X.env) Q E s :=
  Calls.Name_function_global I.ok.kind hg (Calls.loadGlobal_global (by rw [I.ok.glob]; exact I.mod.glob.keeps I.bk) hm h) hd
theorem ld_blt {E : Value → Shared → Prop} {pins : List (Addr × Obj)} {s : Shared} {σ : St} {H : Hp} {x : Str} {u : Value} {pos : Pos} {Q : Value → Shared → Prop} (I : Inv X pins σ H s) (hg : Gl X x) (hm : X.mg x = none) (hv : bootBuiltins x = some u) (h : Q u s)
    (hn : x ≠ "__name__" := by decide) (hd : (x == ("__debug__" : Str)) = false := by decide) : wpAny (model X.prog X.w) X.A (eval (.Name x pos) X.env) Q E s := by
  obtain ⟨mb, h1, h2⟩ := I.mod.blt
  exact Calls.Name_function_global I.ok.kind hg (Calls.loadGlobal_builtin (by rw [I.ok.glob]; exact I.mod.glob.keeps I.bk) hm (by rw [I.ok.blt]; exact h1.keeps I.bk) ((h2 x hn).trans hv) h) hd
/-- a module's constant, a class, a function, as a value -/
theorem pe_glob {x : Str} {v : V} {u : Value} {pos : Pos} (hg : Gl X x) (hm : X.mg x = some u) (r : RelV v u) (hd : (x == ("__debug__" : Str)) = false := by decide) : PE X (.Name x pos) (tC v) :=
  fun _ _ _ H _ I h => ld_glob I hg hm ⟨v, H, I, r, h⟩ hd
theorem pe_bltn {x : Str} {v : V} {u : Value} {pos : Pos} (hg : Gl X x) (hm : X.mg x = none) (hv : bootBuiltins x = some u) (r : RelV v u) (hn : x ≠ "__name__" := by decide) (hd : (x == ("__debug__" : Str)) = false := by decide) : PE X (.Name x pos) (tC v) :=
  fun _ _ _ H _ I h => ld_blt I hg hm hv ⟨v, H, I, r, h⟩ hn hd

/-! ### arithmetic -/
/-- two ints -/
def t2I (ta tb : TE) (k : Int → Int → Hp → Prop) : St → Hp → Prop := fun σ H => ta σ H fun x H1 => tb σ H1 fun y H2 => ∃ i j, x = .int i ∧ y = .int j ∧ k i j H2
def tAdd (ta tb : TE) : TE := fun σ H Q => t2I ta tb (fun i j H2 => Q (.int (i + j)) H2) σ H
def tSub (ta tb : TE) : TE := fun σ H Q => t2I ta tb (fun i j H2 => Q (.int (i - j)) H2) σ H
/-- the left factor below 2^64 -/
def tMul (ta tb : TE) : TE := fun σ H Q => t2I ta tb (fun i j H2 => (-(2 ^ 64) < i ∧ i < 2 ^ 64) ∧ Q (.int (i * j)) H2) σ H
variable {a b : Expr} {ta tb : TE} {pos : Pos}
theorem pe_add (ha : PE X a ta) (hb : PE X b tb) : PE X (.BinOp a .Add b pos) (tAdd ta tb) := by
  intro pins s σ H Q I h
  refine wpAny_BinOp (bin ha hb I h fun v u s2 x y H2 I2 rx ry q => ?_)
  obtain ⟨i, j, rfl, rfl, q⟩ := q
  obtain ⟨t, rfl⟩ := rx
  obtain ⟨t', rfl⟩ := ry
  exact add_int ⟨.int _, H2, I2.tok _, ⟨_, rfl⟩, q⟩
theorem pe_sub (ha : PE X a ta) (hb : PE X b tb) : PE X (.BinOp a .Sub b pos) (tSub ta tb) := by
  intro pins s σ H Q I h
  refine wpAny_BinOp (bin ha hb I h fun v u s2 x y H2 I2 rx ry q => ?_)
  obtain ⟨i, j, rfl, rfl, q⟩ := q
  obtain ⟨t, rfl⟩ := rx
  obtain ⟨t', rfl⟩ := ry
  exact sub_int ⟨.int _, H2, I2.tok _, ⟨_, rfl⟩, q⟩
theorem pe_mul (ha : PE X a ta) (hb : PE X b tb) : PE X (.BinOp a .Mult b pos) (tMul ta tb) := by
  intro pins s σ H Q I h
  refine wpAny_BinOp (bin ha hb I h fun v u s2 x y H2 I2 rx ry q => ?_)
  obtain ⟨i, j, rfl, rfl, ⟨q1, q2⟩, q⟩ := q
  obtain ⟨t, rfl⟩ := rx
  obtain ⟨t', rfl⟩ := ry
  exact mul_int ⟨.int _, H2, I2.tok _, ⟨_, rfl⟩, q⟩ (.of_left (intBits_le_64 q1 q2))

/-! ### comparisons -/
def PC (X : Cx) (op : CmpOp) (a b : Expr) (t : TE) : Prop :=
  ∀ (pins : List (Addr × Obj)) (s : Shared) (σ : St) (H : Hp) (Q : VK), Inv X pins σ H s → t σ H Q →
    wpAny (model X.prog X.w) X.A (eval a X.env) (fun v s₁ => wpAny (model X.prog X.w) X.A (eval b X.env) (fun u s₂ => wpAny (model X.prog X.w) X.A (compareOp op v u) (EP X pins σ Q) X.xe s₂) X.xe s₁) X.xe s
theorem nobehind (b : Expr) {op : CmpOp} (h : op ≠ .In) (h2 : op ≠ .NotIn) : behindInMarks op b = false := by
  have e1 : (op == CmpOp.In) = false := by cases op <;> first | rfl | exact absurd rfl h
  have e2 : (op == CmpOp.NotIn) = false := by cases op <;> first | rfl | exact absurd rfl h2
  cases b <;> simp [behindInMarks, e1, e2]
def tCmp (p : Int → Int → Bool) (ta tb : TE) : TE := fun σ H Q => t2I ta tb (fun i j H2 => Q (.bl (p i j)) H2) σ H
abbrev tLt : TE → TE → TE := tCmp fun i j => decide (i < j)
abbrev tLe : TE → TE → TE := tCmp fun i j => decide (i ≤ j)
abbrev tGt : TE → TE → TE := tCmp fun i j => decide (j < i)
abbrev tGe : TE → TE → TE := tCmp fun i j => decide (j ≤ i)
abbrev tEqI : TE → TE → TE := tCmp fun i j => decide (i = j)
abbrev tNeI : TE → TE → TE := tCmp fun i j => !decide (i = j)
/-- a comparison of two ints, by its rule -/
theorem pc_int {op : CmpOp} {p : Int → Int → Bool} (ha : PE X a ta) (hb : PE X b tb)
    (rule : ∀ (i j : Int) (t u : Tok) (Q : Value → Shared → Prop) (s : Shared), Q (.bool (p i j)) s → wpAny (model X.prog X.w) X.A (compareOp op (.int i t) (.int j u)) Q X.xe s) : PC X op a b (tCmp p ta tb) := by
  intro pins s σ H Q I h
  refine bin ha hb I h fun v u s2 x y H2 I2 rx ry q => ?_
  obtain ⟨i, j, rfl, rfl, q⟩ := q
  obtain ⟨t, rfl⟩ := rx
  obtain ⟨t', rfl⟩ := ry
  exact rule i j t t' _ s2 ⟨.bl _, H2, I2, rfl, q⟩
theorem pc_lt (ha : PE X a ta) (hb : PE X b tb) : PC X .Lt a b (tLt ta tb) := pc_int ha hb fun _ _ _ _ _ _ h => lt_int h
theorem pc_le (ha : PE X a ta) (hb : PE X b tb) : PC X .LtE a b (tLe ta tb) := pc_int ha hb fun _ _ _ _ _ _ h => le_int h
theorem pc_gt (ha : PE X a ta) (hb : PE X b tb) : PC X .Gt a b (tGt ta tb) := pc_int ha hb fun _ _ _ _ _ _ h => gt_int h
theorem pc_ge (ha : PE X a ta) (hb : PE X b tb) : PC X .GtE a b (tGe ta tb) := pc_int ha hb fun _ _ _ _ _ _ h => ge_int h
theorem pc_eqI (ha : PE X a ta) (hb : PE X b tb) : PC X .Eq a b (tEqI ta tb) := pc_int ha hb fun _ _ _ _ _ _ h => eq_int (by rw [Bool.beq_eq_decide_eq]; exact h)
theorem pc_neI (ha : PE X a ta) (hb : PE X b tb) : PC X .NotEq a b (tNeI ta tb) := pc_int ha hb fun _ _ _ _ _ _ h => ne_int (by rw [bne, Bool.beq_eq_decide_eq]; exact h)
/-- is None -/
def tIsN (ta : TE) : TE := fun σ H Q => ta σ H fun x H1 => Q (.bl (decide (x = .non))) H1
def tNotN (ta : TE) : TE := fun σ H Q => ta σ H fun x H1 => Q (.bl (!decide (x = .non))) H1
theorem RelV.none_iff {x : V} {v : Value} (r : RelV x v) : (v == Value.none) = decide (x = .non) := by
  cases x with
  | non => cases r; rfl
  | bl _ => cases r; rfl
  | int _ => obtain ⟨t, rfl⟩ := r; rfl
  | str _ => obtain ⟨t, rfl⟩ := r; rfl
  | byt _ => obtain ⟨t, rfl⟩ := r; rfl
  | flt _ => obtain ⟨t, rfl⟩ := r; rfl
  | ref _ => cases r; rfl
  | ty _ => cases r; rfl
theorem pc_isN {j pos'} (ha : PE X a ta) : PC X .Is a (.Constant .none j pos') (tIsN ta) := by
  intro pins s σ H Q I h
  refine thn (ha pins s σ H _ I h) fun v s1 ⟨x, H1, I1, r1, q1⟩ => ?_
  exact Constant_none (is_none_gen ⟨.bl _, H1, I1, by rw [r1.none_iff]; rfl, q1⟩)
theorem pc_notN {j pos'} (ha : PE X a ta) : PC X .IsNot a (.Constant .none j pos') (tNotN ta) := by
  intro pins s σ H Q I h
  refine thn (ha pins s σ H _ I h) fun v s1 ⟨x, H1, I1, r1, q1⟩ => ?_
  exact Constant_none (isnot_none_gen ⟨.bl _, H1, I1, by rw [r1.none_iff]; rfl, q1⟩)
/-- a comparison as a value, as a test -/
def tB (t : TE) : TT := fun σ H Q => t σ H fun x H1 => ∃ c, x = .bl c ∧ Q c H1
theorem pe_cmp {op : CmpOp} {t : TE} (h : PC X op a b t) (h1 : behindInMarks op b = false := by first | exact nobehind _ (by decide) (by decide) | rfl) : PE X (.Compare a [op] [b] pos) t := fun pins s σ H Q I hw => wpAny_Compare1 (h pins s σ H Q I hw) h1
theorem pt_cmp {op : CmpOp} {t : TE} (h : PC X op a b t) (h1 : behindInMarks op b = false := by first | exact nobehind _ (by decide) (by decide) | rfl) : PT X (.Compare a [op] [b] pos) (tB t) := by
  intro pins s σ H Q I hw
  refine wpAny_isTrue_Compare1 (thn (h pins s σ H _ I hw) fun v s1 h1 => thn h1 fun u s2 h2 => thn h2 fun c s3 ⟨x, H1, I1, r1, q1⟩ => ?_) h1
  obtain ⟨d, rfl, q⟩ := q1
  cases r1
  exact wpAny_truthy_bool ⟨H1, I1, q⟩
/-- an expression whose value is a bool, as a test -/
theorem pt_val {e : Expr} {t : TE} (h : PE X e t) (he : ∀ whole, isTrue e X.env whole = (do let v ← whole; standAt e.pos; holding [v] (truthy v)) := by intro _; rfl) : PT X e (tB t) := by
  intro pins s σ H Q I hw
  refine isTrue_plain (thn (h pins s σ H _ I hw) fun v s1 ⟨x, H1, I1, r1, q1⟩ => ?_) (he _)
  obtain ⟨d, rfl, q⟩ := q1
  cases r1
  exact wpAny_truthy_bool ⟨H1, I1, q⟩

/-! ### and, or, not -/
variable {tA tB' : TT} {rest : List Expr}
def tAnd (t u : TT) : TT := fun σ H Q => t σ H fun c H1 => if c = true then u σ H1 Q else Q false H1
def tOr (t u : TT) : TT := fun σ H Q => t σ H fun c H1 => if c = true then Q true H1 else u σ H1 Q
def tNot (t : TT) : TT := fun σ H Q => t σ H fun c H1 => Q (!c) H1
theorem pw_and1 (ha : PT X a tA) : PW X (.BoolOp .And [a] pos) tA := by
  intro wh pins s σ H Q I h
  refine isTrue_and (thn (ha pins s σ H Q I h) fun c s1 e => ?_)
  cases c with
  | true => exact isTrue_and_nil e
  | false => exact e
theorem pw_or1 (ha : PT X a tA) : PW X (.BoolOp .Or [a] pos) tA := by
  intro wh pins s σ H Q I h
  refine isTrue_or (thn (ha pins s σ H Q I h) fun c s1 e => ?_)
  cases c with
  | false => exact isTrue_or_nil e
  | true => exact e
theorem pw_and (ha : PT X a tA) (hb : PW X (.BoolOp .And (b :: rest) pos) tB') : PW X (.BoolOp .And (a :: b :: rest) pos) (tAnd tA tB') := by
  intro wh pins s σ H Q I h
  refine isTrue_and (thn (ha pins s σ H _ I h) fun c s1 ⟨H1, I1, q1⟩ => ?_)
  cases c with
  | true => exact hb wh pins s1 σ H1 Q I1 q1
  | false => exact ⟨H1, I1, q1⟩
theorem pw_or (ha : PT X a tA) (hb : PW X (.BoolOp .Or (b :: rest) pos) tB') : PW X (.BoolOp .Or (a :: b :: rest) pos) (tOr tA tB') := by
  intro wh pins s σ H Q I h
  refine isTrue_or (thn (ha pins s σ H _ I h) fun c s1 ⟨H1, I1, q1⟩ => ?_)
  cases c with
  | true => exact ⟨H1, I1, q1⟩
  | false => exact hb wh pins s1 σ H1 Q I1 q1
theorem pt_not (ha : PT X a tA) : PT X (.UnaryOp .Not a pos) (tNot tA) := by
  intro pins s σ H Q I h
  exact isTrue_not (ha pins s σ H (fun c H1 => Q (!c) H1) I h)
/-- .. as values (bools) -/
def tAndV (ta tb : TE) : TE := fun σ H Q => ta σ H fun x H1 => ∃ c, x = .bl c ∧ if c = true then tb σ H1 Q else Q (.bl false) H1
def tOrV (ta tb : TE) : TE := fun σ H Q => ta σ H fun x H1 => ∃ c, x = .bl c ∧ if c = true then Q (.bl true) H1 else tb σ H1 Q
def tNotV (ta : TE) : TE := fun σ H Q => ta σ H fun x H1 => ∃ c, x = .bl c ∧ Q (.bl (!c)) H1
theorem pe_one {op} {t : TE} (h : PE X a t) : PE X (.BoolOp op [a] pos) t := fun pins s σ H Q I hw => BoolOp_one (h pins s σ H Q I hw)
theorem pe_and (ha : PE X a ta) (hb : PE X (.BoolOp .And (b :: rest) pos) tb) : PE X (.BoolOp .And (a :: b :: rest) pos) (tAndV ta tb) := by
  intro pins s σ H Q I h
  refine BoolOp_and (thn (ha pins s σ H _ I h) fun v s1 ⟨x, H1, I1, r1, q1⟩ => ?_)
  obtain ⟨c, rfl, q1⟩ := q1
  cases r1
  refine wpAny_truthy_bool ?_
  cases c with
  | true => exact hb pins s1 σ H1 Q I1 q1
  | false => exact ⟨.bl false, H1, I1, rfl, q1⟩
theorem pe_or (ha : PE X a ta) (hb : PE X (.BoolOp .Or (b :: rest) pos) tb) : PE X (.BoolOp .Or (a :: b :: rest) pos) (tOrV ta tb) := by
  intro pins s σ H Q I h
  refine BoolOp_or (thn (ha pins s σ H _ I h) fun v s1 ⟨x, H1, I1, r1, q1⟩ => ?_)
  obtain ⟨c, rfl, q1⟩ := q1
  cases r1
  refine wpAny_truthy_bool ?_
  cases c with
  | false => exact hb pins s1 σ H1 Q I1 q1
  | true => exact ⟨.bl true, H1, I1, rfl, q1⟩
theorem pe_not (ha : PE X a ta) : PE X (.UnaryOp .Not a pos) (tNotV ta) := by
  intro pins s σ H Q I h
  refine UnaryOp_ (thn (ha pins s σ H _ I h) fun v s1 ⟨x, H1, I1, r1, q1⟩ => ?_)
  obtain ⟨c, rfl, q1⟩ := q1
  cases r1
  exact not_of (wpAny_truthy_bool ⟨.bl (!c), H1, I1, rfl, q1⟩)
/-- a if t else b -/
def tIf (t : TT) (ta tb : TE) : TE := fun σ H Q => t σ H fun c H1 => if c = true then ta σ H1 Q else tb σ H1 Q
theorem pe_ifExp {c : Expr} (hc : PT X c tA) (ha : PE X a ta) (hb : PE X b tb) : PE X (.IfExp c a b pos) (tIf tA ta tb) := by
  intro pins s σ H Q I h
  refine wpAny_IfExp (thn (hc pins s σ H _ I h) fun d s1 ⟨H1, I1, q1⟩ => ?_)
  cases d with
  | true => exact ha pins s1 σ H1 Q I1 q1
  | false => exact hb pins s1 σ H1 Q I1 q1
end
end L2

namespace L2
open PySem PySem.Spec PyProof.Rows

/-! ### a list, a tuple that is read: tracked, frozen, or an object of the module -/
def SqL (K : PySem.W.Frag) (H : Hp) (a : Addr) (xs : List V) : Prop :=
  Rd H a (.lst xs) ∨
    ∃ (o : Obj) (its : Array Value) (n : Nat), K.lookup a = some o ∧ o.cls = .type "list" ∧ o.dict = none ∧ o.data = .seq its n ∧ its.size ≤ sizeLine ∧ Vals xs its.toList
def SqT (K : PySem.W.Frag) (H : Hp) (a : Addr) (xs : List V) : Prop :=
  Rd H a (.tup xs) ∨
    ∃ (o : Obj) (its : Array Value) (n : Nat), K.lookup a = some o ∧ o.cls = .type "tuple" ∧ o.data = .seq its n ∧ its.size ≤ sizeLine ∧ Vals xs its.toList
def absV : Value → Option V
  | .none => some .non
  | .bool b => some (.bl b)
  | .int i _ => some (.int i)
  | .str x _ => some (.str x)
  | .bytes b _ => some (.byt b)
  | .float b _ => some (.flt b)
  | .ref a => some (.ref a)
  | .type n => some (.ty n)
  | _ => none
theorem RelV.abs {x : V} {u : Value} (r : RelV x u) : absV u = some x := by
  cases x with
  | non => cases r; rfl
  | bl _ => cases r; rfl
  | int _ => obtain ⟨t, rfl⟩ := r; rfl
  | str _ => obtain ⟨t, rfl⟩ := r; rfl
  | byt _ => obtain ⟨t, rfl⟩ := r; rfl
  | flt _ => obtain ⟨t, rfl⟩ := r; rfl
  | ref _ => cases r; rfl
  | ty _ => cases r; rfl
theorem RelV.inj {x y : V} {u : Value} (r : RelV x u) (q : RelV y u) : x = y := Option.some.inj (r.abs.symm.trans q.abs)
theorem Vals.inj : ∀ {xs ys : List V} {us : List Value}, Vals xs us → Vals ys us → xs = ys
  | _, _, _, .nil, .nil => rfl
  | _, _, _, .cons r t, .cons r' t' => by rw [r.inj r', Vals.inj t t']
section
variable {X : Cx} {pins : List (Addr × Obj)} {σ : St} {H : Hp} {s : Shared} {a : Addr} {xs ys : List V}
theorem SqL.of {K : PySem.W.Frag} (h : H a = some (.lst xs)) : SqL K H a xs := .inl (.inl h)
theorem SqT.of {K : PySem.W.Frag} (h : H a = some (.tup xs)) : SqT K H a xs := .inl (.inl h)
theorem Inv.list (I : Inv X pins σ H s) (h : SqL X.K H a xs) : ∃ its : List Value, Vals xs its ∧ PlainL s.heap a its.toArray ∧ xs.length ≤ sizeLine := by
  rcases h with h | ⟨o, its, n, hk, hc, hd, hs, hz, r⟩
  · obtain ⟨z, its, n, r, e⟩ := h.ok I.hok
    exact ⟨its, r, ⟨_, n, e, rfl, rfl, rfl⟩, z⟩
  · refine ⟨its.toList, r, ⟨o, n, I.kIn a o hk, hc, hd, by simpa using hs⟩, ?_⟩
    have e := r.length
    simp only [Array.length_toList] at e
    omega
theorem Inv.tuple (I : Inv X pins σ H s) (h : SqT X.K H a xs) : ∃ its : List Value, Vals xs its ∧ IsTup s.heap a its.toArray ∧ xs.length ≤ sizeLine := by
  rcases h with h | ⟨o, its, n, hk, hc, hs, hz, r⟩
  · obtain ⟨z, its, r, p⟩ := h.ok I.hok
    exact ⟨its, r, p, z⟩
  · refine ⟨its.toList, r, ⟨o, I.kIn a o hk, hc, n, by simpa using hs⟩, ?_⟩
    have e := r.length
    simp only [Array.length_toList] at e
    omega
theorem Inv.list_inj (I : Inv X pins σ H s) (h : SqL X.K H a xs) (h' : SqL X.K H a ys) : xs = ys := by
  obtain ⟨its, r, ⟨o, n, e, _, _, d⟩, _⟩ := I.list h
  obtain ⟨its', r', ⟨o', n', e', _, _, d'⟩, _⟩ := I.list h'
  rw [e] at e'; cases e'
  rw [d] at d'
  injection d' with d1 _
  have : its = its' := by simpa using congrArg Array.toList d1
  subst this
  exact r.inj r'
theorem Inv.tuple_inj (I : Inv X pins σ H s) (h : SqT X.K H a xs) (h' : SqT X.K H a ys) : xs = ys := by
  obtain ⟨its, r, ⟨o, e, _, n, d⟩, _⟩ := I.tuple h
  obtain ⟨its', r', ⟨o', e', _, n', d'⟩, _⟩ := I.tuple h'
  rw [e] at e'; cases e'
  rw [d] at d'
  injection d' with d1 _
  have : its = its' := by simpa using congrArg Array.toList d1
  subst this
  exact r.inj r'
end

/-! ### another wish about exceptions -/
abbrev Cx.wish (X : Cx) (E : Value → Shared → Prop) : Cx := { X with xe := E }
/-- no exception leaves -/
abbrev Cx.nox (X : Cx) : Cx := X.wish fun _ _ => False
theorem Cx.Ok.wish {X : Cx} (ok : X.Ok) (E : Value → Shared → Prop) : (X.wish E).Ok :=
  ⟨ok.mod, ok.kind, ok.glob, ok.blt, ok.above, ok.inj, ok.has, ok.cab, ok.hd, ok.frames, ok.stk, ok.exf, ok.bs, ok.bsz, ok.noex, ok.exfs, ok.funs, ok.frf⟩
theorem Cx.Ok.unwish {X : Cx} {E : Value → Shared → Prop} (ok : (X.wish E).Ok) : X.Ok :=
  ⟨ok.mod, ok.kind, ok.glob, ok.blt, ok.above, ok.inj, ok.has, ok.cab, ok.hd, ok.frames, ok.stk, ok.exf, ok.bs, ok.bsz, ok.noex, ok.exfs, ok.funs, ok.frf⟩
section
variable {X : Cx} {pins : List (Addr × Obj)} {σ : St} {H : Hp} {s : Shared} {E : Value → Shared → Prop}
theorem Inv.wish (I : Inv X pins σ H s) (E : Value → Shared → Prop) : Inv (X.wish E) pins σ H s := ⟨I.ok.wish E, I.os, I.bare, I.base, I.loc, I.cell, I.free, I.freeC, I.pin, I.hok, I.len⟩
theorem Inv.unwish (I : Inv (X.wish E) pins σ H s) : Inv X pins σ H s := ⟨I.ok.unwish, I.os, I.bare, I.base, I.loc, I.cell, I.free, I.freeC, I.pin, I.hok, I.len⟩
theorem SP.unwish {D : Ends} {f : Flow} {s' : Shared} (h : SP (X.wish E) pins D f s') : SP X pins D f s' := by
  cases f with
  | next => obtain ⟨σ', H', I, q⟩ := h; exact ⟨σ', H', I.unwish, q⟩
  | brk => obtain ⟨σ', H', I, q⟩ := h; exact ⟨σ', H', I.unwish, q⟩
  | cont => obtain ⟨σ', H', I, q⟩ := h; exact ⟨σ', H', I.unwish, q⟩
  | ret u => obtain ⟨v, σ', H', I, r, q⟩ := h; exact ⟨v, σ', H', I.unwish, r, q⟩
theorem PE.nox {e : Expr} {t : TE} (h : PE X.nox e t) : PE X e t := fun pins s σ H Q I hw =>
  wpAny_mono (h pins s σ H Q (I.wish _) hw) (fun _ _ ⟨v, H', I', r, q⟩ => ⟨v, H', I'.unwish, r, q⟩) fun _ _ z => False.elim z
theorem PT.nox {e : Expr} {t : TT} (h : PT X.nox e t) : PT X e t := fun pins s σ H Q I hw =>
  wpAny_mono (h pins s σ H Q (I.wish _) hw) (fun _ _ ⟨H', I', q⟩ => ⟨H', I'.unwish, q⟩) fun _ _ z => False.elim z
theorem PSs.nox {st : List Stmt} {t : TS} (h : PSs X.nox st t) : PSs X st t := fun pins s σ H D I hw =>
  wpAny_mono (h pins s σ H D (I.wish _) hw) (fun _ _ q => q.unwish) fun _ _ z => False.elim z
end

/-! ### blocks and small statements -/
section
variable {X : Cx} {st : Stmt} {rest : List Stmt} {t u : TS} {e : Expr} {te : TE} {pos : Pos}
def tNext : TS := fun D σ H => D.nx σ H
def tSeq (t u : TS) : TS := fun D σ H => t { D with nx := u D } σ H
theorem pss_nil : PSs X [] tNext := fun _ _ σ H _ I h => wpAny_execs_nil ⟨σ, H, I, h⟩
theorem pss_cons (h1 : PS X st t) (h2 : PSs X rest u) : PSs X (st :: rest) (tSeq t u) := by
  intro pins s σ H D I h
  refine wpAny_execs_cons (thn (h1 pins s σ H { D with nx := u D } I h) fun f s1 q => ?_)
  cases f with
  | next =>
    obtain ⟨σ', H', I', q⟩ := q
    exact h2 pins s1 σ' H' D I' q
  | ret v => exact q
  | brk => exact q
  | cont => exact q
theorem pss_one (h1 : PS X st t) : PSs X [st] t := by
  intro pins s σ H D I h
  refine wpAny_execs_cons (thn (h1 pins s σ H D I h) fun f s1 q => ?_)
  cases f with
  | next => exact wpAny_execs_nil q
  | ret v => exact q
  | brk => exact q
  | cont => exact q
def tBreak : TS := fun D σ H => D.bk σ H
def tCont : TS := fun D σ H => D.ct σ H
theorem ps_pass : PS X (.Pass pos) tNext := fun _ _ σ H _ I h => wpAny_Pass ⟨σ, H, I, h⟩
theorem ps_break : PS X (.Break pos) tBreak := fun _ _ σ H _ I h => wpAny_Break ⟨σ, H, I, h⟩
theorem ps_continue : PS X (.Continue pos) tCont := fun _ _ σ H _ I h => wpAny_Continue ⟨σ, H, I, h⟩
/-- in a def's body nothing is shown -/
theorem Inv.quiet {pins : List (Addr × Obj)} {σ : St} {H : Hp} {s : Shared} (I : Inv X pins σ H s) : interactive X.env = false := by simp [interactive, I.ok.kind]
/-- a docstring -/
theorem ps_doc {x j pos pos'} : PS X (.Expr (.Constant (.str x) j pos) pos') tNext := fun _ s σ H _ I h => wpAny_Expr (Calls.Constant_str (show SP X _ _ .next { s with toks := s.toks + 1 } from ⟨σ, H, I.tok _, h⟩)) I.quiet
/-- an expression whose value is dropped -/
def tDrop (te : TE) : TS := fun D σ H => te σ H fun _ H1 => D.nx σ H1
theorem ps_expr (he : PE X e te) (hs : swapsWith e none pos.line X.env = pure false := by rfl) : PS X (.Expr e pos) (tDrop te) := by
  intro pins s σ H D I h
  exact wpAny_Expr_any (thn (he pins s σ H _ I h) fun v s1 ⟨x, H1, I1, r1, q1⟩ => ⟨σ, H1, I1, q1⟩) I.quiet hs
def tRet (te : TE) : TS := fun D σ H => te σ H D.rt
theorem ps_ret (he : PE X e te) : PS X (.Return (some e) pos) (tRet te) := by
  intro pins s σ H D I h
  exact wpAny_Return_some (thn (he pins s σ H _ I h) fun v s1 ⟨x, H1, I1, r1, q1⟩ => ⟨x, σ, H1, I1, r1, q1⟩)
def tRetN : TS := fun D _ H => D.rt .non H
theorem ps_retN : PS X (.Return none pos) tRetN := fun _ _ σ H _ I h => wpAny_Return_none ⟨.non, σ, H, I, rfl, h⟩
def tIfS (c : TT) (t u : TS) : TS := fun D σ H => c σ H fun b H1 => if b = true then t D σ H1 else u D σ H1
theorem ps_if {c : Expr} {a b : List Stmt} {tc : TT} (hc : PT X c tc) (ha : PSs X a t) (hb : PSs X b u) : PS X (.If c a b pos) (tIfS tc t u) := by
  intro pins s σ H D I h
  refine wpAny_If (thn (hc pins s σ H _ I h) fun d s1 ⟨H1, I1, q1⟩ => ?_)
  cases d with
  | true => exact ha pins s1 σ H1 D I1 q1
  | false => exact hb pins s1 σ H1 D I1 q1
/-- code that the proof never comes to -/
def tNever : TS := fun _ _ _ => False
theorem ps_never : PS X st tNever := fun _ _ _ _ _ _ h => h.elim
theorem pss_never {sts : List Stmt} : PSs X sts tNever := fun _ _ _ _ _ _ h => h.elim
end

/-! ### targets -/
abbrev TG := V → St → Hp → (St → Hp → Prop) → Prop
abbrev TGs := List V → St → Hp → (St → Hp → Prop) → Prop
def PG (X : Cx) (target : Expr) (t : TG) : Prop :=
  ∀ (pins : List (Addr × Obj)) (s : Shared) (σ : St) (H : Hp) (v : V) (u : Value) (Q : St → Hp → Prop), Inv X pins σ H s → RelV v u → t v σ H Q →
    wpAny (model X.prog X.w) X.A (assign target X.env u) (fun _ s' => ∃ σ' H', Inv X pins σ' H' s' ∧ Q σ' H') X.xe s
/-- several targets, one after another -/
def PGs (X : Cx) (ts : List Expr) (t : TGs) : Prop :=
  ∀ (pins : List (Addr × Obj)) (s : Shared) (σ : St) (H : Hp) (vs : List V) (us : List Value) (Q : St → Hp → Prop), Inv X pins σ H s → Vals vs us → t vs σ H Q →
    wpAny (model X.prog X.w) X.A (assignInOrder ((assignEach ts X.env).map (·.2)) us) (fun _ s' => ∃ σ' H', Inv X pins σ' H' s' ∧ Q σ' H') X.xe s
/-- o[i] = v, by values -/
abbrev TSet := V → V → V → Hp → (Hp → Prop) → Prop
def PSet (X : Cx) (t : TSet) : Prop :=
  ∀ (pins : List (Addr × Obj)) (s : Shared) (σ : St) (H : Hp) (o i v : V) (ov iv u : Value) (Q : Hp → Prop), Inv X pins σ H s → RelV o ov → RelV i iv → RelV v u → t o i v H Q →
    wpAny (model X.prog X.w) X.A (setItem ov iv u) (fun _ s' => ∃ H', Inv X pins σ H' s' ∧ Q H') X.xe s
/-- a op= b, by values -/
abbrev TIp := V → V → Hp → VK → Prop
def PIp (X : Cx) (op : Operator) (t : TIp) : Prop :=
  ∀ (pins : List (Addr × Obj)) (s : Shared) (σ : St) (H : Hp) (x y : V) (v u : Value) (Q : VK), Inv X pins σ H s → RelV x v → RelV y u → t x y H Q →
    wpAny (model X.prog X.w) X.A (inplaceOp op v u) (EP X pins σ Q) X.xe s
section
variable {X : Cx} {pos : Pos}
def gName (i : Nat) : TG := fun v σ H Q => Q (σ.set i (some v)) H
theorem pg_name {i : Nat} {x : Str} (hN : X.N.Nodup) (hi : X.N[i]? = some x) (hx : Loc X.env.scope x) (hf : X.fn x = true ∨ X.env.scope.names.lookup x = some .local := by first | exact .inl rfl | exact .inr rfl | assumption) : PG X (.Name x pos) (gName i) := by
  intro pins s σ H v u Q I r h
  exact wpAny_assign_Name (store_ok I hN hi hx r (fun s' I' => ⟨_, H, I', h⟩) hf)
def gNil : TGs := fun vs σ H Q => vs = [] ∧ Q σ H
def gCons (t : TG) (u : TGs) : TGs := fun vs σ H Q => ∃ v r, vs = v :: r ∧ t v σ H fun σ' H' => u r σ' H' Q
theorem pgs_nil : PGs X [] gNil := by
  intro pins s σ H vs us Q I r h
  obtain ⟨e, h⟩ := h
  subst e
  cases r
  exact assignInOrder_nil ⟨σ, H, I, h⟩
theorem pgs_cons {e : Expr} {es : List Expr} {t : TG} {u : TGs} (h1 : PG X e t) (h2 : PGs X es u)
    (hs : (assignEach (e :: es) X.env).map (·.2) = assign e X.env :: (assignEach es X.env).map (·.2) := by rfl) : PGs X (e :: es) (gCons t u) := by
  intro pins s σ H vs us Q I r h
  obtain ⟨v, vr, e1, h⟩ := h
  subst e1
  cases r with
  | cons r rr =>
    rw [hs]
    refine assignInOrder_cons (thn (h1 pins s σ H _ _ _ I r h) fun _ s1 ⟨σ1, H1, I1, q1⟩ => ?_)
    exact h2 pins s1 σ1 H1 _ _ Q I1 rr q1
/-- (a, b, ..) = a tuple of that length -/
def gTup (K : PySem.W.Frag) (n : Nat) (t : TGs) : TG := fun v σ H Q => ∃ a xs, v = .ref a ∧ SqT K H a xs ∧ xs.length = n ∧ t xs σ H Q
theorem pg_tup {es : List Expr} {k : Nat} {t : TGs} {n : Nat} (hc : X.calm = true) (h : PGs X es t)
    (hn : (assignEach es X.env).length = n := by rfl) (hst : (assignEach es X.env).findIdx? (·.1) = none := by rfl) : PG X (.Tuple es k pos) (gTup X.K n t) := by
  intro pins s σ H v u Q I r hw
  obtain ⟨a, xs, e1, hq, hl, hw⟩ := hw
  subst e1
  cases r
  obtain ⟨its, rv, ht, hz⟩ := I.tuple hq
  refine assign_Tuple_tuple (I.ok.hd hc) ht (by simp [hn, ← hl, rv.length]) hst fun h' hx => ?_
  have I1 : Inv X pins σ H { s with heap := h' } := I.kept (t' := s.toks) fun b o e => hx b o (Nat.ne_of_lt (Heap.lt_size e)) e
  exact h pins _ σ H xs _ Q I1 (by simpa using rv) hw
/-- o[i] = .. -/
def gSub (to ti : TE) (t : TSet) : TG := fun v σ H Q => to σ H fun o H1 => ti σ H1 fun i H2 => t o i v H2 fun H3 => Q σ H3
theorem pg_sub {o i : Expr} {to ti : TE} {t : TSet} (ho : PE X o to) (hi : PE X i ti) (hs : PSet X t)
    (ha : ∀ v, assign (.Subscript o i pos) X.env v = (do
      let ov ← holding [v] (eval o X.env)
      let iv ← holding [v, ov] (eval i X.env)
      standAt pos
      holding [v, ov, iv] (setItem ov iv v)
      release [v, ov, iv] []) := by intro _; rfl) : PG X (.Subscript o i pos) (gSub to ti t) := by
  intro pins s σ H v u Q I r h
  rw [ha]
  refine wpAny_bind (wpAny_holding (thn (ho pins s σ H _ I h) fun ov s1 ⟨x, H1, I1, r1, q1⟩ => ?_))
  refine wpAny_bind (wpAny_holding (thn (hi pins s1 σ H1 _ I1 q1) fun iv s2 ⟨y, H2, I2, r2, q2⟩ => ?_))
  refine wpAny_bind (wpAny_standAt (wpAny_bind (wpAny_holding (thn (hs pins s2 σ H2 x y v ov iv u _ I2 r1 r2 r q2) fun _ s3 ⟨H3, I3, q3⟩ => ?_))))
  exact wpAny_release ⟨σ, H3, I3, q3⟩
/-- target = value -/
def tAsg (te : TE) (g : TG) : TS := fun D σ H => te σ H fun x H1 => g x σ H1 D.nx
theorem ps_asg {tg e : Expr} {te : TE} {g : TG} (he : PE X e te) (hg : PG X tg g) (hs : swapsWithSole [tg] e pos.line X.env = pure false := by rfl) (hw : swappedStores [tg] e X.env = pure none := by rfl)
    (h1 : (assignEach [tg] X.env).map (·.2) = [assign tg X.env] := by rfl) : PS X (.Assign [tg] e pos) (tAsg te g) := by
  intro pins s σ H D I h
  refine wpAny_Assign_stores (thn (he pins s σ H _ I h) fun v s1 ⟨x, H1, I1, r1, q1⟩ => ?_) hs hw
  rw [h1]
  exact thn (hg pins s1 σ H1 x v _ I1 r1 q1) fun _ s2 q => q
/-- name = value -/
theorem ps_set {i : Nat} {x : Str} {e : Expr} {te : TE} {pos' : Pos} (hN : X.N.Nodup) (hi : X.N[i]? = some x) (hx : Loc X.env.scope x) (he : PE X e te) (hs : swapsWith e (some (.Name x pos')) pos.line X.env = pure false := by rfl) (hf : X.fn x = true ∨ X.env.scope.names.lookup x = some .local := by first | exact .inl rfl | exact .inr rfl | assumption) :
    PS X (.Assign [.Name x pos'] e pos) (tAsg te (gName i)) := by
  intro pins s σ H D I h
  refine wpAny_Assign_Name (thn (he pins s σ H _ I h) fun v s1 ⟨y, H1, I1, r1, q1⟩ => ?_) hs
  exact store_ok I1 hN hi hx r1 (fun s2 I2 => ⟨_, H1, I2, q1⟩) hf
/-- a, b = x, y with plain local names: stored from the right; the pair itself is not tracked (the opening rows as in PyProof/Rows/TupAssign.lean:23) -/
def tPar (i j : Nat) (ta : TA) : TS := fun D σ H => ta σ H fun vs H1 => ∃ v w, vs = [v, w] ∧ D.nx ((σ.set i (some v)).set j (some w)) H1
theorem ps_par {i j : Nat} {x y : Str} {a b : Expr} {ta : TA} {px py pt : Pos} {kt k2 pt2} (hc : X.calm = true) (hN : X.N.Nodup) (hi : X.N[i]? = some x) (hj : X.N[j]? = some y) (hij : i ≠ j)
    (hx : X.env.scope.names.lookup x = some .local) (hy : X.env.scope.names.lookup y = some .local) (ha : PA X [a, b] ta)
    (hw : swappedStores [.Tuple [.Name x px, .Name y py] kt pt] (.Tuple [a, b] k2 pt2) X.env = pure (some [x, y]))
    (hs : swapsWithSole [.Tuple [.Name x px, .Name y py] kt pt] (.Tuple [a, b] k2 pt2) pos.line X.env = pure false := by rfl) :
    PS X (.Assign [.Tuple [.Name x px, .Name y py] kt pt] (.Tuple [a, b] k2 pt2) pos) (tPar i j ta) := by
  intro pins s σ H D I h
  rw [exec_Assign_arm]
  refine wpAny_bind (wpAny_standAt ?_)
  rw [hs]
  refine wpAny_bind (wpAny_pure ?_)
  rw [if_neg (by decide)]
  refine wpAny_bind (Tuple_ (thn (ha _ pins s σ H _ I h) fun us s1 ⟨vs, H1, I1, r1, q1⟩ => ?_))
  obtain ⟨v, w, e1, q1⟩ := q1
  subst e1
  obtain ⟨u1, u2, rfl, rv, rw'⟩ : ∃ u1 u2, us = [u1, u2] ∧ RelV v u1 ∧ RelV w u2 := by
    cases r1 with
    | cons p q =>
      cases q with
      | cons p' q' =>
        cases q'
        exact ⟨_, _, rfl, p, p'⟩
  refine wpAny_newObj_type ?_ (by show 2 ≤ sizeLine; decide)
  have I2 : Inv X pins σ H1 { s1 with heap := s1.heap.push { cls := .type "tuple", data := .seq [u1, u2].toArray } } := I1.kept (t' := s1.toks) fun b o e => Heap.get?_push_of_some _ e
  rw [hw]
  refine wpAny_bind (wpAny_pure ?_)
  show wpAny (model X.prog X.w) X.A (do rule "assign.swapped-stores"; let items ← unpackItems (.ref s1.heap.objs.size) 2 none; assignInOrder [fun v => bindName X.env y v, fun v => bindName X.env x v] items.reverse; pure Flow.next) _ _ _
  refine wpAny_bind (wpAny_rule (wpAny_bind (unpackItems_tuple (items := #[u1, u2]) (I.ok.hd hc) (IsTup.new s1.heap _) fun h' hx' => ?_)))
  have I3 := I2.kept (h' := h') (t' := s1.toks) fun b o e => hx' b o (Nat.ne_of_lt (Heap.lt_size e)) e
  show wpAny _ _ (assignInOrder [fun v => bindName X.env y v, fun v => bindName X.env x v] [u2, u1] >>= fun _ => pure Flow.next) _ _ _
  refine wpAny_bind (assignInOrder_cons (wpAny_bindName (store_ok I3 hN hj (.inl hy) rw' (fun s2 I4 => ?_) (.inr hy))))
  refine assignInOrder_cons (wpAny_bindName (store_ok I4 hN hi (.inl hx) rv (fun s3 I5 => assignInOrder_nil (wpAny_pure ?_)) (.inr hx)))
  rw [List.set_comm _ _ (Ne.symm hij)] at I5
  exact ⟨_, H1, I5, q1⟩
/-- name op= e -/
def tAug (i : Nat) (te : TE) (ti : TIp) : TS := fun D σ H => ∃ x, σ[i]? = some (some x) ∧ te σ H fun y H1 => ti x y H1 fun z H2 => D.nx (σ.set i (some z)) H2
theorem ps_aug {i : Nat} {x : Str} {e : Expr} {te : TE} {op : Operator} {ti : TIp} {pos' : Pos} (hN : X.N.Nodup) (hi : X.N[i]? = some x) (hx : Loc X.env.scope x) (he : PE X e te) (ho : PIp X op ti) (hf : X.fn x = true ∨ X.env.scope.names.lookup x = some .local := by first | exact .inl rfl | exact .inr rfl | assumption) :
    PS X (.AugAssign (.Name x pos') op e pos) (tAug i te ti) := by
  intro pins s σ H D I h
  obtain ⟨v, e1, h⟩ := h
  obtain ⟨m, hn, hl⟩ := I.loc
  have vis : Vis X.env.scope x := by rcases hx with k | k; exact .inl k; exact .inr (.inl k)
  obtain ⟨u, r, l⟩ := hl i x v hi e1 vis
  refine wpAny_AugAssign_Name ?_
  have go : wpAny (model X.prog X.w) X.A (eval e X.env) (fun w s₂ => wpAny (model X.prog X.w) X.A (inplaceOp op u w) (fun r s₃ => wpAny (model X.prog X.w) X.A (storeName X.env x r) (fun _ => SP X pins D .next) X.xe s₃) X.xe s₂) X.xe s := by
    refine thn (he pins s σ H _ I h) fun w s1 ⟨y, H1, I1, r1, q1⟩ => ?_
    refine thn (ho pins s1 σ H1 v y u w _ I1 r r1 q1) fun z s2 ⟨zv, H2, I2, r2, q2⟩ => ?_
    exact store_ok I2 hN hi hx r2 (fun s3 I3 => ⟨_, H2, I3, q2⟩) hf
  rcases l with ⟨hk, hm⟩ | ⟨hk, c, hc, hcell⟩
  · exact wpAny_loadName_local I.ok.kind hk hn hm go
  · rcases hk with hk | hk
    · exact wpAny_loadName_cell I.ok.kind hk hc hcell go
    · rcases hx with k | k
      · have : X.env.scope.names.lookup x = some .free := hk
        rw [k] at this; cases this
      · have : X.env.scope.names.lookup x = some .free := hk
        rw [k] at this; cases this
/-- o[i] op= e -/
def tAugS (to ti te : TE) (tget : V → V → Hp → VK → Prop) (tip : TIp) (tset : TSet) : TS := fun D σ H => to σ H fun o H1 => ti σ H1 fun i H2 => tget o i H2 fun x H3 => te σ H3 fun y H4 => tip x y H4 fun z H5 => tset o i z H5 fun H6 => D.nx σ H6
/-- o[i], by values -/
def PGet (X : Cx) (t : V → V → Hp → VK → Prop) : Prop :=
  ∀ (pins : List (Addr × Obj)) (s : Shared) (σ : St) (H : Hp) (o i : V) (ov iv : Value) (Q : VK), Inv X pins σ H s → RelV o ov → RelV i iv → t o i H Q →
    wpAny (model X.prog X.w) X.A (getItem ov iv) (EP X pins σ Q) X.xe s
theorem ps_augS {o i e : Expr} {to ti te : TE} {tget : V → V → Hp → VK → Prop} {tip : TIp} {tset : TSet} {op : Operator} {tpos : Pos} (ho : PE X o to) (hi : PE X i ti) (hg : PGet X tget) (he : PE X e te) (hp : PIp X op tip) (hs : PSet X tset)
    (ha : ∀ ov iv new, augStore i ov iv new = (do holding [new, ov, iv] (setItem ov iv new); release [new, ov, iv] []; pure .next) := by intros; rfl) : PS X (.AugAssign (.Subscript o i tpos) op e pos) (tAugS to ti te tget tip tset) := by
  intro pins s σ H D I h
  refine wpAny_AugAssign_SubscriptAny (thn (ho pins s σ H _ I h) fun ov s1 ⟨x1, H1, I1, r1, q1⟩ => ?_) ha
  refine thn (hi pins s1 σ H1 _ I1 q1) fun iv s2 ⟨x2, H2, I2, r2, q2⟩ => ?_
  refine thn (hg pins s2 σ H2 x1 x2 ov iv _ I2 r1 r2 q2) fun old s3 ⟨x3, H3, I3, r3, q3⟩ => ?_
  refine thn (he pins s3 σ H3 _ I3 q3) fun v s4 ⟨x4, H4, I4, r4, q4⟩ => ?_
  refine thn (hp pins s4 σ H4 x3 x4 old v _ I4 r3 r4 q4) fun new s5 ⟨x5, H5, I5, r5, q5⟩ => ?_
  exact thn (hs pins s5 σ H5 x1 x2 x5 ov iv new _ I5 r1 r2 r5 q5) fun _ s6 ⟨H6, I6, q6⟩ => ⟨σ, H6, I6, q6⟩
/-- ints -/
def ipI (f : Int → Int → Int) : TIp := fun x y H Q => ∃ i j, x = .int i ∧ y = .int j ∧ Q (.int (f i j)) H
theorem ip_add : PIp X .Add (ipI fun i j => i + j) := by
  intro pins s σ H x y v u Q I r1 r2 h
  obtain ⟨i, j, e1, e2, q⟩ := h
  subst e1; subst e2
  obtain ⟨t, rfl⟩ := r1
  obtain ⟨t', rfl⟩ := r2
  exact iadd_int ⟨.int _, H, I.tok _, ⟨_, rfl⟩, q⟩
theorem ip_sub : PIp X .Sub (ipI fun i j => i - j) := by
  intro pins s σ H x y v u Q I r1 r2 h
  obtain ⟨i, j, e1, e2, q⟩ := h
  subst e1; subst e2
  obtain ⟨t, rfl⟩ := r1
  obtain ⟨t', rfl⟩ := r2
  exact isub_int ⟨.int _, H, I.tok _, ⟨_, rfl⟩, q⟩
end

/-! ### while -/
section
variable {X : Cx} {pos : Pos}
/-- the invariant W with its measure -/
def tWhile (c : TT) (tb : TS) : TS := fun D σ H => ∃ W : Nat → St → Hp → Prop, (∃ m, W m σ H) ∧ ∀ m σ H, W m σ H →
  c σ H fun b H1 => if b = true then ∃ N : St → Hp → Prop, (∀ σ' H', N σ' H' → ∃ m', m' < m ∧ W m' σ' H') ∧ tb { D with nx := N, ct := N, bk := D.nx } σ H1 else D.nx σ H1
theorem ps_while {c : Expr} {body : List Stmt} {tc : TT} {tb : TS} (hp : PassesOwn (model X.prog X.w) X.A X.env X.xe) (hc : PT X c tc) (hb : PSs X body tb) : PS X (.While c body [] pos) (tWhile tc tb) := by
  intro pins s σ H D I h
  obtain ⟨W, ⟨m0, w0⟩, turn⟩ := h
  refine wpAny_While (codeAny_whileLoop (fun n s' => ∃ σ' H', Inv X pins σ' H' s' ∧ W n σ' H') ?_ m0 ⟨σ, H, I, w0⟩)
  rintro n s1 ⟨σ1, H1, I1, w1⟩
  refine wpAny_passesOwn hp (thn (hc pins s1 σ1 H1 _ I1 (turn n σ1 H1 w1)) fun b s2 ⟨H2, I2, q2⟩ => ?_)
  cases b with
  | true =>
    obtain ⟨N, hN, q2⟩ := q2
    rw [if_pos rfl]
    refine wpAny_passesOwn hp (thn (hb pins s2 σ1 H2 _ I2 q2) fun f s3 q3 => ?_)
    cases f with
    | next =>
      obtain ⟨σ3, H3, I3, n3⟩ := q3
      obtain ⟨m', hm, w3⟩ := hN σ3 H3 n3
      exact ⟨m', hm, σ3, H3, I3, w3⟩
    | cont =>
      obtain ⟨σ3, H3, I3, n3⟩ := q3
      obtain ⟨m', hm, w3⟩ := hN σ3 H3 n3
      exact ⟨m', hm, σ3, H3, I3, w3⟩
    | brk => exact q3
    | ret v => exact q3
  | false =>
    rw [if_neg Bool.false_ne_true]
    exact wpAny_execs_nil ⟨σ1, H2, I2, q2⟩
end

/-! ### what a loop or a comprehension walks -/
/-- at turn i: it yields x (the heap may grow), or it stops -/
structure It where
  go : Nat → Hp → Prop
  yld : Nat → Hp → V → Hp → Prop
  stop : Nat → Hp → Prop
/-- the iterator's own objects may turn: they are not the frame's, not pinned, younger than the entry (or a comprehension's own) -/
def FpOk (X : Cx) (pins : List (Addr × Obj)) (H : Hp) (b : Addr) : Prop :=
  H b = none ∧ b ≠ X.env.locals ∧ b ∉ X.fs ∧ (b ∈ X.ex ∨ X.s₀.heap.objs.size ≤ b) ∧ (∀ x c, X.env.cells.lookup x = some c → c ≠ b) ∧ ∀ p ∈ X.pn ++ pins, p.1 ≠ b
theorem Inv.fpOk {X : Cx} {pins : List (Addr × Obj)} {σ : St} {H H' : Hp} {s : Shared} {b : Addr} (I : Inv X pins σ H s) (hb : s.heap.objs.size ≤ b) (hn : H' b = none) : FpOk X pins H' b := by
  refine ⟨hn, Nat.ne_of_gt (Nat.lt_of_lt_of_le I.lt hb), I.nofs hb, .inr (Nat.le_trans I.sz hb), fun x c e z => ?_, fun p hp z => ?_⟩
  · obtain ⟨v, q⟩ := I.cell x c e
    exact absurd (Nat.lt_of_lt_of_le q.lt (by rw [z]; exact hb)) (Nat.lt_irrefl _)
  · exact absurd (Nat.lt_of_lt_of_le (Heap.lt_size (I.pin p hp).1) (by rw [z]; exact hb)) (Nat.lt_irrefl _)
structure Turn (P : Program) (w : World) (K : PySem.W.Frag) (tg : Expr) (J : It) (fp : List Addr) (it : Addr) (tn : Nat → Heap → Prop) : Prop where
  mem : it ∈ fp
  obj : ∀ i h, tn i h → ∀ b ∈ fp, ∃ o, h.get? b = some o ∧ ∀ v, o.data ≠ .cell v
  keep : ∀ i h h', tn i h → (∀ b ∈ fp, ∀ o, h.get? b = some o → h'.get? b = some o) → tn i h'
  item : ∀ (X : Cx), X.prog = P → X.w = w → X.K = K → X.calm = true → ∀ (i : Nat) (pins : List (Addr × Obj)) (s : Shared) (σ : St) (H : Hp) (E : Value → Shared → Prop), Inv X pins σ H s → (∀ b ∈ fp, FpOk X pins H b) → tn i s.heap → J.go i H →
    wpAny (model P w) X.A (pyNext (.ref it)) (fun r s1 => ∃ u, r = some u ∧
      wpAny (model P w) X.A (letOwnedTupleGo tg (.ref it) u) (fun _ s2 => ∃ x H', Inv X pins σ H' s2 ∧ RelV x u ∧ J.yld i H x H' ∧ tn (i + 1) s2.heap ∧ ∀ b ∈ fp, H' b = none) E s1) E s
  done : ∀ (X : Cx), X.prog = P → X.w = w → X.K = K → X.calm = true → ∀ (i : Nat) (pins : List (Addr × Obj)) (s : Shared) (σ : St) (H : Hp) (E : Value → Shared → Prop), Inv X pins σ H s → (∀ b ∈ fp, FpOk X pins H b) → tn i s.heap → J.stop i H →
    wpAny (model P w) X.A (pyNext (.ref it)) (fun r s1 => r = none ∧ Inv X pins σ H s1) E s
  self : ∀ (A : Around) (i : Nat) (s : Shared) (Q : Value → Shared → Prop) (E : Value → Shared → Prop), tn i s.heap → Q (.ref it) s → wpAny (model P w) A (pyIter (.ref it)) Q E s
abbrev TI := St → Hp → (It → Hp → Prop) → Prop
/-- an iterator has come -/
def PIE (X : Cx) (pins : List (Addr × Obj)) (σ : St) (tg : Expr) (R : It → Hp → Prop) (itv : Value) (s2 : Shared) : Prop :=
  ∃ (it : Addr) (fp : List Addr) (tn : Nat → Heap → Prop) (J : It) (H' : Hp), itv = .ref it ∧ Inv X pins σ H' s2 ∧ Turn X.prog X.w X.K tg J fp it tn ∧ tn 0 s2.heap ∧ (∀ b ∈ fp, FpOk X pins H' b) ∧ R J H'
def PI (X : Cx) (tg iter : Expr) (wi : TI) : Prop :=
  ∀ (pins : List (Addr × Obj)) (s : Shared) (σ : St) (H : Hp) (R : It → Hp → Prop), Inv X pins σ H s → wi σ H R →
    wpAny (model X.prog X.w) X.A (eval iter X.env) (fun v s1 => wpAny (model X.prog X.w) X.A (pyIter v) (PIE X pins σ tg R) X.xe s1) X.xe s

/-- the step ahead of the store is nothing for an iterator that keeps no tuple -/
theorem go_of {M : Model} {A : Around} {E : Value → Shared → Prop} {s : Shared} {tg : Expr} {it : Addr} {u : Value} {o : Obj} {n : String} {vs : Array Value} {Q : Unit → Shared → Prop} (ho : s.heap.get? it = some o) (hc : o.cls = .type n) (hd : o.data = .fields vs)
    (hn : ["enumerate", "zip", "dict_itemiterator", "dict_reverseitemiterator", "odict_iterator", "itertools.zip_longest", "itertools.pairwise"].contains n = false) (hQ : Q () s) : wpAny M A (letOwnedTupleGo tg (.ref it) u) Q E s := by
  unfold letOwnedTupleGo
  cases tg <;> first
    | exact wpAny_pure hQ
    | (cases u <;> first
        | exact wpAny_pure hQ
        | (refine wpAny_bind (wpAny_load ho ?_)
           rw [hc, hd]
           show wpAny M A (if (["enumerate", "zip", "dict_itemiterator", "dict_reverseitemiterator", "odict_iterator", "itertools.zip_longest", "itertools.pairwise"].contains n && vs[0]? == some (rawInt _)) = true then _ else _) Q E s
           rw [if_neg (by intro h; rw [hn, Bool.false_and] at h; cases h)]
           exact wpAny_pure hQ))

/-- the list at a, as it stands at each turn (a loop may append to it) -/
def Itl (K : PySem.W.Frag) (a : Addr) : It :=
  ⟨fun i H => ∃ xs x, SqL K H a xs ∧ xs[i]? = some x, fun i H x H' => H' = H ∧ ∀ xs, SqL K H a xs → xs[i]? = some x, fun i H => ∃ xs, SqL K H a xs ∧ xs.length ≤ i⟩
def Itt (K : PySem.W.Frag) (a : Addr) : It :=
  ⟨fun i H => ∃ xs x, SqT K H a xs ∧ xs[i]? = some x, fun i H x H' => H' = H ∧ ∀ xs, SqT K H a xs → xs[i]? = some x, fun i H => ∃ xs, SqT K H a xs ∧ xs.length ≤ i⟩
/-- lo, lo + 1, .. (n of them) -/
def Itr (lo : Int) (n : Nat) : It := ⟨fun i _ => i < n, fun i H x H' => H' = H ∧ x = .int (lo + i), fun i _ => n ≤ i⟩
theorem turn_list {P : Program} {w : World} {K : PySem.W.Frag} {tg : Expr} (a it : Addr) : Turn P w K tg (Itl K a) [it] it (fun i h => h.IsListIter it a i) where
  mem := by simp
  obj := fun i h st b hb => by
    have e : b = it := by simpa using hb
    subst e
    obtain ⟨o, e, c, d⟩ := st
    exact ⟨o, e, fun v z => by rw [d] at z; cases z⟩
  keep := fun i h h' st k => st.at fun o e => k it (by simp) o e
  item := by
    intro X hP hw hK hc i pins s σ H E I hf st hg
    subst hP hw hK
    obtain ⟨xs, x, hq, hx⟩ := hg
    obtain ⟨its, rv, p, hz⟩ := I.list hq
    obtain ⟨u, hu, ru⟩ := rv.get hx
    obtain ⟨f0, f1, f2, f3, f4, f5⟩ := hf it (by simp)
    refine wpAny_pyNext_list_item st p.isList (x := u) (by simpa using hu) fun h' st' sb => ?_
    have I1 : Inv X pins σ H { s with heap := h' } := I.turned (t' := s.toks) (fun b o hb e => (sb.2 b hb).trans e) f0 f1 f3 f4 f5
    obtain ⟨o, e, c, d⟩ := id st'
    exact ⟨u, rfl, go_of (s := { s with heap := h' }) e c d (by decide) ⟨x, H, I1, ru, ⟨rfl, fun ys hy => by rw [I.list_inj hy hq]; exact hx⟩, st', fun b hb => (hf b hb).1⟩⟩
  done := by
    intro X hP hw hK hc i pins s σ H E I hf st hg
    subst hP hw hK
    obtain ⟨xs, hq, hx⟩ := hg
    obtain ⟨its, rv, p, hz⟩ := I.list hq
    obtain ⟨f0, f1, f2, f3, f4, f5⟩ := hf it (by simp)
    have hl := rv.length
    exact wpAny_pyNext_list_end (I.ok.hd hc) st p.isList (by simp; omega) fun h' eb => ⟨rfl, I.turned (t' := s.toks) (fun b o hb e => eb b o hb e) f0 f1 f3 f4 f5⟩
  self := fun _ _ _ _ _ st h => wpAny_pyIter_listiter st h
theorem turn_tuple {P : Program} {w : World} {K : PySem.W.Frag} {tg : Expr} (a it : Addr) : Turn P w K tg (Itt K a) [it] it (fun i h => h.IsTupleIter it a i) where
  mem := by simp
  obj := fun i h st b hb => by
    have e : b = it := by simpa using hb
    subst e
    obtain ⟨o, e, c, d⟩ := st
    exact ⟨o, e, fun v z => by rw [d] at z; cases z⟩
  keep := fun i h h' st k => st.at fun o e => k it (by simp) o e
  item := by
    intro X hP hw hK hc i pins s σ H E I hf st hg
    subst hP hw hK
    obtain ⟨xs, x, hq, hx⟩ := hg
    obtain ⟨its, rv, p, hz⟩ := I.tuple hq
    obtain ⟨u, hu, ru⟩ := rv.get hx
    obtain ⟨f0, f1, f2, f3, f4, f5⟩ := hf it (by simp)
    refine wpAny_pyNext_tuple_item st (show s.heap.IsTuple a its.toArray from p) (x := u) (by simpa using hu) fun h' st' sb => ?_
    have I1 : Inv X pins σ H { s with heap := h' } := I.turned (t' := s.toks) (fun b o hb e => (sb.2 b hb).trans e) f0 f1 f3 f4 f5
    obtain ⟨o, e, c, d⟩ := id st'
    exact ⟨u, rfl, go_of (s := { s with heap := h' }) e c d (by decide) ⟨x, H, I1, ru, ⟨rfl, fun ys hy => by rw [I.tuple_inj hy hq]; exact hx⟩, st', fun b hb => (hf b hb).1⟩⟩
  done := by
    intro X hP hw hK hc i pins s σ H E I hf st hg
    subst hP hw hK
    obtain ⟨xs, hq, hx⟩ := hg
    obtain ⟨its, rv, p, hz⟩ := I.tuple hq
    obtain ⟨f0, f1, f2, f3, f4, f5⟩ := hf it (by simp)
    have hl := rv.length
    exact wpAny_pyNext_tuple_end (I.ok.hd hc) st (show s.heap.IsTuple a its.toArray from p) (by simp; omega) fun h' eb => ⟨rfl, I.turned (t' := s.toks) (fun b o hb e => eb b o hb e) f0 f1 f3 f4 f5⟩
  self := fun _ _ _ _ _ st h => wpAny_pyIter_tupleiter st h
theorem turn_range {P : Program} {w : World} {K : PySem.W.Frag} {tg : Expr} (it : Addr) (lo : Int) (n : Nat) : Turn P w K tg (Itr lo n) [it] it (fun i h => IsRangeIter h it (lo + (i : Nat) * 1) ((n : Int) - (i : Nat)) 1) where
  mem := by simp
  obj := fun i h st b hb => by
    have e : b = it := by simpa using hb
    subst e
    exact ⟨_, st, fun v z => by
      have z' : Data.fields _ = Data.cell v := z
      cases z'⟩
  keep := fun i h h' st k => k it (by simp) _ st
  item := by
    intro X hP hw hK hc i pins s σ H E I hf st hg
    subst hP hw hK
    obtain ⟨f0, f1, f2, f3, f4, f5⟩ := hf it (by simp)
    have W := Walks.range (prog := X.prog) (w := X.w) (I.ok.hd hc) it lo 1 n
    refine W.item i s _ _ hg st fun v h' tk hv st' kk => ?_
    obtain ⟨t, rfl⟩ := hv
    have I1 : Inv X pins σ H { s with heap := h', toks := tk } := I.turned (fun b o hb e => kk b o (by simpa using hb) e) f0 f1 f3 f4 f5
    refine ⟨_, rfl, go_of (s := { s with heap := h', toks := tk }) (n := "range_iterator") st' rfl rfl (by decide) ⟨.int (lo + i), H, I1, ⟨t, ?_⟩, ⟨rfl, rfl⟩, st', fun b hb => (hf b hb).1⟩⟩
    rw [Int.mul_one]
  done := by
    intro X hP hw hK hc i pins s σ H E I hf st hg
    subst hP hw hK
    obtain ⟨f0, f1, f2, f3, f4, f5⟩ := hf it (by simp)
    exact wpAny_pyNext_range_end (I.ok.hd hc) st (by have : n ≤ i := hg; omega) fun h' eb => ⟨rfl, I.turned (t' := s.toks) (fun b o hb e => eb b o hb e) f0 f1 f3 f4 f5⟩
  self := fun _ _ _ _ _ st h => wpAny_pyIter_rangeiter st h
end L2

namespace L2
open PySem PySem.Spec PyProof.Rows
section
variable {X : Cx} {tg : Expr}
def iList (K : PySem.W.Frag) (tl : TE) : TI := fun σ H R => tl σ H fun x H1 => ∃ a, x = .ref a ∧ (∃ xs, SqL K H1 a xs) ∧ R (Itl K a) H1
def iTup (K : PySem.W.Frag) (tl : TE) : TI := fun σ H R => tl σ H fun x H1 => ∃ a, x = .ref a ∧ (∃ xs, SqT K H1 a xs) ∧ R (Itt K a) H1
theorem pi_list {l : Expr} {tl : TE} (hl : PE X l tl) : PI X tg l (iList X.K tl) := by
  intro pins s σ H R I h
  refine thn (hl pins s σ H _ I h) fun v s1 ⟨x, H1, I1, r1, q1⟩ => ?_
  obtain ⟨a, e, ⟨xs, hq⟩, q⟩ := q1
  subst e
  cases r1
  obtain ⟨its, rv, p, hz⟩ := I1.list hq
  refine wpAny_pyIter_list p.isList ?_
  refine ⟨s1.heap.objs.size, [s1.heap.objs.size], _, _, H1, rfl, I1.kept (t' := s1.toks) fun b o e => Heap.get?_push_of_some _ e, turn_list a _, ⟨_, Heap.get?_push_size _ rfl, rfl, rfl⟩, fun b hb => ?_, q⟩
  have e : b = s1.heap.objs.size := by simpa using hb
  subst e
  exact I1.fpOk (Nat.le_refl _) (I1.hok.fresh (Nat.le_refl _))
theorem pi_tup {l : Expr} {tl : TE} (hl : PE X l tl) : PI X tg l (iTup X.K tl) := by
  intro pins s σ H R I h
  refine thn (hl pins s σ H _ I h) fun v s1 ⟨x, H1, I1, r1, q1⟩ => ?_
  obtain ⟨a, e, ⟨xs, hq⟩, q⟩ := q1
  subst e
  cases r1
  obtain ⟨its, rv, p, hz⟩ := I1.tuple hq
  refine wpAny_pyIter_tuple (show s1.heap.IsTuple a its.toArray from p) ?_
  refine ⟨s1.heap.objs.size, [s1.heap.objs.size], _, _, H1, rfl, I1.kept (t' := s1.toks) fun b o e => Heap.get?_push_of_some _ e, turn_tuple a _, ⟨_, Heap.get?_push_size _ rfl, rfl, rfl⟩, fun b hb => ?_, q⟩
  have e : b = s1.heap.objs.size := by simpa using hb
  subst e
  exact I1.fpOk (Nat.le_refl _) (I1.hok.fresh (Nat.le_refl _))
/-- a range object just made, walked -/
theorem range_it {pins : List (Addr × Obj)} {σ : St} {H : Hp} {s : Shared} {R : It → Hp → Prop} {E : Value → Shared → Prop} {lo hi : Int} {t u v : Tok} {tk : Nat} (I : Inv X pins σ H s) (h1 : -(2 ^ 62) ≤ lo) (h2 : lo < 2 ^ 62) (h3 : -(2 ^ 62) ≤ hi) (h4 : hi < 2 ^ 62)
    (q : R (Itr lo (hi - lo).toNat) H) : wpAny (model X.prog X.w) X.A (pyIter (.ref s.heap.objs.size)) (PIE X pins σ tg R) E { s with heap := s.heap.push { cls := .type "range", data := .fields #[.int lo t, .int hi u, .int 1 v] }, toks := tk } := by
  refine wpAny_pyIter_range (IsRange.new ..) (small_one h1 h2 h3 h4) ?_
  have I1 : Inv X pins σ H { s with heap := s.heap.push { cls := .type "range", data := .fields #[.int lo t, .int hi u, .int 1 v] }, toks := tk } := I.kept fun b o e => Heap.get?_push_of_some _ e
  refine ⟨(s.heap.push { cls := .type "range", data := .fields #[.int lo t, .int hi u, .int 1 v] }).objs.size, [(s.heap.push { cls := .type "range", data := .fields #[.int lo t, .int hi u, .int 1 v] }).objs.size], _, _, H, rfl,
    I1.kept (t' := tk) fun b o e => Heap.get?_push_of_some _ e, turn_range _ lo (hi - lo).toNat, ?_, fun b hb => ?_, q⟩
  · have e1 : lo + ((0 : Nat) : Int) * 1 = lo := by simp
    have e2 : (((hi - lo).toNat : Nat) : Int) - ((0 : Nat) : Int) = Builtin.Range.rangeSize lo hi 1 := by rw [rangeSize_one]; split <;> omega
    show IsRangeIter _ _ (lo + ((0 : Nat) : Int) * 1) ((((hi - lo).toNat : Nat) : Int) - ((0 : Nat) : Int)) 1
    rw [e1, e2]
    exact Heap.get?_push_size _ rfl
  · have e : b = (s.heap.push { cls := .type "range", data := .fields #[.int lo t, .int hi u, .int 1 v] }).objs.size := by simpa using hb
    subst e
    exact I1.fpOk (Nat.le_refl _) (I1.hok.fresh (Nat.le_refl _))
def iRng1 (ta : TA) : TI := fun σ H R => ta σ H fun vs H1 => ∃ j : Int, vs = [.int j] ∧ -(2 ^ 62) ≤ j ∧ j < 2 ^ 62 ∧ R (Itr 0 j.toNat) H1
def iRng2 (ta : TA) : TI := fun σ H R => ta σ H fun vs H1 => ∃ i j : Int, vs = [.int i, .int j] ∧ (-(2 ^ 62) ≤ i ∧ i < 2 ^ 62 ∧ -(2 ^ 62) ≤ j ∧ j < 2 ^ 62) ∧ R (Itr i (j - i).toNat) H1
theorem pi_range1 {a : Expr} {ta : TA} {p pos : Pos} (hg : Gl X "range") (hm : X.mg "range" = none) (ha : PA X [a] ta) (hs : starEach [a] X.env = [(false, eval a X.env)] := by rfl) : PI X tg (.Call (.Name "range" p) [a] [] pos) (iRng1 ta) := by
  intro pins s σ H R I h
  refine Call_ (ld_blt I hg hm boot_range (PyProof.Rows.callWith_type1 (thn (ha pos pins s σ H _ I h) fun us s1 ⟨vs, H1, I1, r1, q1⟩ => ?_) hs rfl))
  obtain ⟨j, e, q1, q2, q⟩ := q1
  subst e
  cases r1 with
  | cons r rr =>
    cases rr
    obtain ⟨t, rfl⟩ := r
    exact call_range_1 (range_it I1 (by omega) (by omega) q1 q2 (by simpa using q))
theorem pi_range2 {a b : Expr} {ta : TA} {p pos : Pos} (hg : Gl X "range") (hm : X.mg "range" = none) (ha : PA X [a, b] ta) (hs : starEach [a, b] X.env = [(false, eval a X.env), (false, eval b X.env)] := by rfl) (hs2 : starEach [b] X.env = [(false, eval b X.env)] := by rfl) :
    PI X tg (.Call (.Name "range" p) [a, b] [] pos) (iRng2 ta) := by
  intro pins s σ H R I h
  refine Call_ (ld_blt I hg hm boot_range (PyProof.Rows.callWith_type1 (thn (ha pos pins s σ H _ I h) fun us s1 ⟨vs, H1, I1, r1, q1⟩ => ?_) (by rw [hs, hs2]) (by rw [hs2]; rfl)))
  obtain ⟨i, j, e, ⟨q1, q2, q3, q4⟩, q⟩ := q1
  subst e
  cases r1 with
  | cons r rr =>
    cases rr with
    | cons r' rr =>
      cases rr
      obtain ⟨t, rfl⟩ := r
      obtain ⟨t', rfl⟩ := r'
      exact call_range_2 (range_it I1 q1 q2 q3 q4 q)

/-! ### for -/
/-- W: the invariant by the turn and a measure; N: what the body is to reach -/
def tFor (wi : TI) (g : TG) (tb : TS) : TS := fun D σ H => wi σ H fun J H1 => ∃ W : Nat → Nat → St → Hp → Prop, (∃ m, W 0 m σ H1) ∧ ∀ i m σ H, W i m σ H →
  (J.stop i H ∧ D.nx σ H) ∨ (J.go i H ∧ ∃ N : St → Hp → Prop, (∀ σ' H', N σ' H' → ∃ m', m' < m ∧ W (i + 1) m' σ' H') ∧ ∀ x H', J.yld i H x H' → g x σ H' fun σ2 H2 => tb { D with nx := N, ct := N, bk := D.nx } σ2 H2)
/-- the records at fp as they stand -/
def pinsAt (fp : List Addr) (h : Heap) : List (Addr × Obj) := fp.filterMap fun b => (h.get? b).map fun o => (b, o)
theorem mem_pinsAt {fp : List Addr} {h : Heap} {b : Addr} {o : Obj} (hb : b ∈ fp) (e : h.get? b = some o) : (b, o) ∈ pinsAt fp h := List.mem_filterMap.mpr ⟨b, hb, by rw [e]; rfl⟩
theorem of_pinsAt {fp : List Addr} {h : Heap} {p : Addr × Obj} (hp : p ∈ pinsAt fp h) : p.1 ∈ fp ∧ h.get? p.1 = some p.2 := by
  obtain ⟨b, hb, e⟩ := List.mem_filterMap.mp hp
  cases q : h.get? b with
  | none => rw [q] at e; cases e
  | some o =>
    rw [q] at e
    have e' : (b, o) = p := Option.some.inj e
    subst e'
    exact ⟨hb, q⟩
theorem Inv.pinned {pins : List (Addr × Obj)} {σ : St} {H : Hp} {s : Shared} {fp : List Addr} (I : Inv X pins σ H s) (hf : ∀ b ∈ fp, FpOk X pins H b) (ho : ∀ b ∈ fp, ∃ o, s.heap.get? b = some o ∧ ∀ v, o.data ≠ .cell v) : Inv X (pins ++ pinsAt fp s.heap) σ H s :=
  I.pins_of fun p hp => (List.mem_append.mp hp).elim (fun z => I.pin p (List.mem_append_right _ z)) fun z => by
    obtain ⟨hb, e⟩ := of_pinsAt z
    obtain ⟨f0, f1, f2, _⟩ := hf p.1 hb
    obtain ⟨o, e', d⟩ := ho p.1 hb
    rw [e] at e'; cases e'
    exact ⟨e, f0, f1, f2, d⟩
theorem Inv.unpinned {pins pl : List (Addr × Obj)} {σ : St} {H : Hp} {s : Shared} (I : Inv X (pins ++ pl) σ H s) : Inv X pins σ H s := I.pins_of fun p hp => I.pin p (List.mem_append_right _ (List.mem_append_left _ hp))
theorem ps_for {iter : Expr} {body : List Stmt} {wi : TI} {g : TG} {tb : TS} {pos : Pos} (hp : PassesOwn (model X.prog X.w) X.A X.env X.xe) (hc : X.calm = true) (hi : PI X tg iter wi) (hg : PG X tg g) (hb : PSs X body tb)
    (hs : ∀ x, foldedSetIterable iter X.env x = pure x := by intro _; rfl) : PS X (.For tg iter body [] pos) (tFor wi g tb) := by
  intro pins s σ H D I h
  refine wpAny_For (thn (hi pins s σ H _ I h) fun v s1 h1 => thn h1 fun itv s2 h2 => ?_) hs
  obtain ⟨it, fp, tn, J, H2, e, I2, T, st2, f2, W, ⟨m0, w0⟩, turn⟩ := h2
  subst e
  -- what stays true of the iterator's objects through the loop
  have stat : ∀ {H' : Hp}, (∀ b ∈ fp, H' b = none) → ∀ b ∈ fp, FpOk X pins H' b := fun hn b hb => ⟨hn b hb, (f2 b hb).2⟩
  refine codeAny_forLoop_any (fun n s' => ∃ i σ' H', Inv X pins σ' H' s' ∧ tn i s'.heap ∧ (∀ b ∈ fp, H' b = none) ∧ W i n σ' H') ?_ m0 ⟨0, σ, H2, I2, st2, fun b hb => (f2 b hb).1, w0⟩
  rintro n s3 ⟨i, σ3, H3, I3, st3, fr3, w3⟩
  rcases turn i n σ3 H3 w3 with ⟨stop, qn⟩ | ⟨go, N, hN, step⟩
  · refine wpAny_passesOwn hp (thn (T.done X rfl rfl rfl hc i pins s3 σ3 H3 X.xe I3 (stat fr3) st3 stop) fun r s4 ⟨hr, I4⟩ => ?_)
    subst hr
    exact wpAny_execs_nil ⟨σ3, H3, I4, qn⟩
  · refine wpAny_passesOwn hp (thn (T.item X rfl rfl rfl hc i pins s3 σ3 H3 X.xe I3 (stat fr3) st3 go) fun r s4 ⟨u, hr, h4⟩ => ?_)
    subst hr
    refine wpAny_passesOwn hp (thn h4 fun _ s5 ⟨x, H5, I5, r5, y5, st5, fr5⟩ => ?_)
    have I5' := I5.pinned (stat fr5) (T.obj _ _ st5)
    refine wpAny_passesOwn hp (thn (hg _ s5 σ3 H5 x u _ I5' r5 (step x H5 y5)) fun _ s6 ⟨σ6, H6, I6, q6⟩ => ?_)
    refine wpAny_passesOwn hp (thn (hb _ s6 σ6 H6 _ I6 q6) fun f s7 q7 => ?_)
    have again : ∀ {σ7 : St} {H7 : Hp}, Inv X (pins ++ pinsAt fp s5.heap) σ7 H7 s7 → N σ7 H7 → ∃ m, m < n ∧ ∃ i σ' H', Inv X pins σ' H' s7 ∧ tn i s7.heap ∧ (∀ b ∈ fp, H' b = none) ∧ W i m σ' H' := fun {σ7 H7} I7 n7 => by
      obtain ⟨m', hm, w7⟩ := hN σ7 H7 n7
      refine ⟨m', hm, i + 1, σ7, H7, I7.unpinned, T.keep _ _ _ st5 fun b hb o e => (I7.pin (b, o) (List.mem_append_right _ (List.mem_append_right _ (mem_pinsAt hb e)))).1, fun b hb => ?_, w7⟩
      obtain ⟨o, e, d⟩ := T.obj _ _ st5 b hb
      exact (I7.pin (b, o) (List.mem_append_right _ (List.mem_append_right _ (mem_pinsAt hb e)))).2.1
    cases f with
    | next => obtain ⟨σ7, H7, I7, n7⟩ := q7; exact again I7 n7
    | cont => obtain ⟨σ7, H7, I7, n7⟩ := q7; exact again I7 n7
    | brk => obtain ⟨σ7, H7, I7, q7⟩ := q7; exact ⟨σ7, H7, I7.unpinned, q7⟩
    | ret v => obtain ⟨x7, σ7, H7, I7, r7, q7⟩ := q7; exact ⟨x7, σ7, H7, I7.unpinned, r7, q7⟩
end

/-! ### the forms one uses -/
/-- over a list that the body leaves as it is -/
theorem for_list {K : PySem.W.Frag} {a : Addr} {xs : List V} {g : TG} {tb : TS} {D : Ends} {σ : St} {H : Hp} (Pv : Nat → St → Hp → Prop) (h0 : Pv 0 σ H) (hl : ∀ i σ H, i ≤ xs.length → Pv i σ H → SqL K H a xs)
    (hs : ∀ i x σ H, xs[i]? = some x → Pv i σ H → g x σ H fun σ2 H2 => tb { D with nx := Pv (i + 1), ct := Pv (i + 1), bk := D.nx } σ2 H2) (hd : ∀ σ H, Pv xs.length σ H → D.nx σ H) :
    ∃ W : Nat → Nat → St → Hp → Prop, (∃ m, W 0 m σ H) ∧ ∀ i m σ H, W i m σ H →
      ((Itl K a).stop i H ∧ D.nx σ H) ∨ ((Itl K a).go i H ∧ ∃ N : St → Hp → Prop, (∀ σ' H', N σ' H' → ∃ m', m' < m ∧ W (i + 1) m' σ' H') ∧ ∀ x H', (Itl K a).yld i H x H' → g x σ H' fun σ2 H2 => tb { D with nx := N, ct := N, bk := D.nx } σ2 H2) := by
  refine ⟨fun i m σ H => m = xs.length - i ∧ i ≤ xs.length ∧ Pv i σ H, ⟨xs.length, by simp, Nat.zero_le _, h0⟩, ?_⟩
  rintro i m σ H ⟨rfl, hi, p⟩
  have q := hl i σ H hi p
  by_cases hlt : i < xs.length
  · refine .inr ⟨⟨xs, xs[i], q, by simp [hlt]⟩, Pv (i + 1), fun σ' H' p' => ⟨xs.length - (i + 1), by omega, rfl, hlt, p'⟩, fun x H' y => ?_⟩
    obtain ⟨e, y⟩ := y
    subst e
    exact hs i x σ _ (y xs q) p
  · have e : i = xs.length := by omega
    subst e
    exact .inl ⟨⟨xs, q, Nat.le_refl _⟩, hd σ H p⟩
theorem for_tup {K : PySem.W.Frag} {a : Addr} {xs : List V} {g : TG} {tb : TS} {D : Ends} {σ : St} {H : Hp} (Pv : Nat → St → Hp → Prop) (h0 : Pv 0 σ H) (hl : ∀ i σ H, i ≤ xs.length → Pv i σ H → SqT K H a xs)
    (hs : ∀ i x σ H, xs[i]? = some x → Pv i σ H → g x σ H fun σ2 H2 => tb { D with nx := Pv (i + 1), ct := Pv (i + 1), bk := D.nx } σ2 H2) (hd : ∀ σ H, Pv xs.length σ H → D.nx σ H) :
    ∃ W : Nat → Nat → St → Hp → Prop, (∃ m, W 0 m σ H) ∧ ∀ i m σ H, W i m σ H →
      ((Itt K a).stop i H ∧ D.nx σ H) ∨ ((Itt K a).go i H ∧ ∃ N : St → Hp → Prop, (∀ σ' H', N σ' H' → ∃ m', m' < m ∧ W (i + 1) m' σ' H') ∧ ∀ x H', (Itt K a).yld i H x H' → g x σ H' fun σ2 H2 => tb { D with nx := N, ct := N, bk := D.nx } σ2 H2) := by
  refine ⟨fun i m σ H => m = xs.length - i ∧ i ≤ xs.length ∧ Pv i σ H, ⟨xs.length, by simp, Nat.zero_le _, h0⟩, ?_⟩
  rintro i m σ H ⟨rfl, hi, p⟩
  have q := hl i σ H hi p
  by_cases hlt : i < xs.length
  · refine .inr ⟨⟨xs, xs[i], q, by simp [hlt]⟩, Pv (i + 1), fun σ' H' p' => ⟨xs.length - (i + 1), by omega, rfl, hlt, p'⟩, fun x H' y => ?_⟩
    obtain ⟨e, y⟩ := y
    subst e
    exact hs i x σ _ (y xs q) p
  · have e : i = xs.length := by omega
    subst e
    exact .inl ⟨⟨xs, q, Nat.le_refl _⟩, hd σ H p⟩
theorem for_range {lo : Int} {n : Nat} {g : TG} {tb : TS} {D : Ends} {σ : St} {H : Hp} (Pv : Nat → St → Hp → Prop) (h0 : Pv 0 σ H)
    (hs : ∀ i σ H, i < n → Pv i σ H → g (.int (lo + i)) σ H fun σ2 H2 => tb { D with nx := Pv (i + 1), ct := Pv (i + 1), bk := D.nx } σ2 H2) (hd : ∀ σ H, Pv n σ H → D.nx σ H) :
    ∃ W : Nat → Nat → St → Hp → Prop, (∃ m, W 0 m σ H) ∧ ∀ i m σ H, W i m σ H →
      ((Itr lo n).stop i H ∧ D.nx σ H) ∨ ((Itr lo n).go i H ∧ ∃ N : St → Hp → Prop, (∀ σ' H', N σ' H' → ∃ m', m' < m ∧ W (i + 1) m' σ' H') ∧ ∀ x H', (Itr lo n).yld i H x H' → g x σ H' fun σ2 H2 => tb { D with nx := N, ct := N, bk := D.nx } σ2 H2) := by
  refine ⟨fun i m σ H => m = n - i ∧ i ≤ n ∧ Pv i σ H, ⟨n, by simp, Nat.zero_le _, h0⟩, ?_⟩
  rintro i m σ H ⟨rfl, hi, p⟩
  by_cases hlt : i < n
  · refine .inr ⟨hlt, Pv (i + 1), fun σ' H' p' => ⟨n - (i + 1), by omega, rfl, hlt, p'⟩, fun x H' y => ?_⟩
    obtain ⟨e, y⟩ := y
    subst e y
    exact hs i σ _ hlt p
  · have e : i = n := by omega
    subst e
    exact .inl ⟨Nat.le_refl _, hd σ H p⟩
/-- while, by a word and a measure of the state -/
theorem while_by {c : TT} {tb : TS} {D : Ends} {σ : St} {H : Hp} (Pv : St → Hp → Prop) (μ : St → Hp → Nat) (h0 : Pv σ H)
    (hs : ∀ σ H, Pv σ H → c σ H fun b H1 => if b = true then tb { D with nx := fun σ' H' => Pv σ' H' ∧ μ σ' H' < μ σ H, ct := fun σ' H' => Pv σ' H' ∧ μ σ' H' < μ σ H, bk := D.nx } σ H1 else D.nx σ H1)
    (mono : ∀ σ H Q Q', (∀ b H1, Q b H1 → Q' b H1) → c σ H Q → c σ H Q') : tWhile c tb D σ H := by
  refine ⟨fun m σ H => m = μ σ H ∧ Pv σ H, ⟨_, rfl, h0⟩, ?_⟩
  rintro m σ H ⟨rfl, p⟩
  refine mono σ H _ _ (fun b H1 q => ?_) (hs σ H p)
  cases b with
  | true => exact ⟨_, fun σ' H' ⟨p', l⟩ => ⟨_, l, rfl, p'⟩, q⟩
  | false => exact q
end L2

namespace L2
open PySem PySem.Spec PyProof.Rows

abbrev R2 := V → V → Hp → VK → Prop
/-- a two-place operation on values: f is binaryOp op, inplaceOp op or compareOp op -/
def OpR (X : Cx) (f : Value → Value → Sem Value) (r : R2) : Prop :=
  ∀ (pins : List (Addr × Obj)) (s : Shared) (σ : St) (H : Hp) (x y : V) (v u : Value) (Q : VK), Inv X pins σ H s → RelV x v → RelV y u → r x y H Q →
    wpAny (model X.prog X.w) X.A (f v u) (EP X pins σ Q) X.xe s
/-- a one-place operation -/
def UnR (X : Cx) (f : Value → Sem Value) (r : V → Hp → VK → Prop) : Prop :=
  ∀ (pins : List (Addr × Obj)) (s : Shared) (σ : St) (H : Hp) (x : V) (v : Value) (Q : VK), Inv X pins σ H s → RelV x v → r x H Q →
    wpAny (model X.prog X.w) X.A (f v) (EP X pins σ Q) X.xe s
/-- a call of a value that is known (a builtin, a type) with values -/
def CallR (X : Cx) (f : Value) (r : List V → Hp → VK → Prop) : Prop :=
  ∀ (pins : List (Addr × Obj)) (s : Shared) (σ : St) (H : Hp) (xs : List V) (us : List Value) (Q : VK), Inv X pins σ H s → Vals xs us → r xs H Q →
    wpAny (model X.prog X.w) X.A (call f us) (EP X pins σ Q) X.xe s
/-- a value's truth -/
def TruR (X : Cx) (r : V → Hp → (Bool → Hp → Prop) → Prop) : Prop :=
  ∀ (pins : List (Addr × Obj)) (s : Shared) (σ : St) (H : Hp) (x : V) (v : Value) (Q : Bool → Hp → Prop), Inv X pins σ H s → RelV x v → r x H Q →
    wpAny (model X.prog X.w) X.A (truthy v) (TP X pins σ Q) X.xe s

def tOp (r : R2) (ta tb : TE) : TE := fun σ H Q => ta σ H fun x H1 => tb σ H1 fun y H2 => r x y H2 Q
def tUn (r : V → Hp → VK → Prop) (ta : TE) : TE := fun σ H Q => ta σ H fun x H1 => r x H1 Q
/-- ints in, under C, and a value out -/
def rI (C : Int → Int → Prop) (g : Int → Int → V) : R2 := fun x y H Q => ∃ i j, x = .int i ∧ y = .int j ∧ C i j ∧ Q (g i j) H
def rI0 (g : Int → Int → V) : R2 := fun x y H Q => ∃ i j, x = .int i ∧ y = .int j ∧ Q (g i j) H
def rU (g : Int → V) : V → Hp → VK → Prop := fun x H Q => ∃ i, x = .int i ∧ Q (g i) H

section
variable {X : Cx} {a b c : Expr} {ta tb tc : TE} {pos : Pos}

theorem binT (ha : PE X a ta) (hb : PE X b tb) {pins : List (Addr × Obj)} {s : Shared} {σ : St} {H : Hp} {R : V → V → Hp → Prop} (I : Inv X pins σ H s)
    (h : ta σ H fun x H1 => tb σ H1 fun y H2 => R x y H2) {Q : Value → Shared → Prop} {f : Value → Value → Sem Value}
    (hf : ∀ v u s2 x y H2, Inv X pins σ H2 s2 → RelV x v → RelV y u → R x y H2 → wpAny (model X.prog X.w) X.A (f v u) Q X.xe s2) :
    wpAny (model X.prog X.w) X.A (eval a X.env) (fun v s₁ => wpAny (model X.prog X.w) X.A (eval b X.env) (fun u s₂ => wpAny (model X.prog X.w) X.A (f v u) Q X.xe s₂) X.xe s₁) X.xe s := by
  refine thn (ha pins s σ H _ I h) fun v s1 ⟨x, H1, I1, r1, q1⟩ => ?_
  refine thn (hb pins s1 σ H1 _ I1 q1) fun u s2 ⟨y, H2, I2, r2, q2⟩ => ?_
  exact hf v u s2 x y H2 I2 r1 r2 q2

theorem pe_op {op : Operator} {r : R2} (ho : OpR X (binaryOp op) r) (ha : PE X a ta) (hb : PE X b tb) : PE X (.BinOp a op b pos) (tOp r ta tb) := by
  intro pins s σ H Q I h
  exact wpAny_BinOp (binT ha hb I h fun v u s2 x y H2 I2 rx ry q => ho pins s2 σ H2 x y v u Q I2 rx ry q)
theorem pe_un {op : UnaryOp} {r : V → Hp → VK → Prop} (ho : UnR X (unaryOp op) r) (ha : PE X a ta) : PE X (.UnaryOp op a pos) (tUn r ta) := by
  intro pins s σ H Q I h
  exact UnaryOp_ (thn (ha pins s σ H _ I h) fun v s1 ⟨x, H1, I1, r1, q1⟩ => ho pins s1 σ H1 x v Q I1 r1 q1)
/-- a op= e at a name: the name's slot i -/
theorem augR {op : Operator} {r : R2} (ho : OpR X (inplaceOp op) r) {pins : List (Addr × Obj)} {s : Shared} {σ : St} {H : Hp} {x y : V} {v u : Value} {Q : VK} (I : Inv X pins σ H s)
    (rx : RelV x v) (ry : RelV y u) (q : r x y H Q) : wpAny (model X.prog X.w) X.A (inplaceOp op v u) (EP X pins σ Q) X.xe s := ho pins s σ H x y v u Q I rx ry q

/-! ### ints -/
theorem opI {f : Value → Value → Sem Value} {C : Int → Int → Prop} {g : Int → Int → Int}
    (rule : ∀ (i j : Int) (t u : Tok) (s : Shared) (Q : Value → Shared → Prop) (E : Value → Shared → Prop), C i j → Q (.int (g i j) s.toks) { s with toks := s.toks + 1 } → wpAny (model X.prog X.w) X.A (f (.int i t) (.int j u)) Q E s) :
    OpR X f (rI C fun i j => .int (g i j)) := by
  intro pins s σ H x y v u Q I rx ry h
  obtain ⟨i, j, rfl, rfl, hc, q⟩ := h
  obtain ⟨t, rfl⟩ := rx
  obtain ⟨t', rfl⟩ := ry
  exact rule i j t t' s _ _ hc ⟨.int (g i j), H, I.tok _, ⟨_, rfl⟩, q⟩
theorem opI0 {f : Value → Value → Sem Value} {g : Int → Int → Int}
    (rule : ∀ (i j : Int) (t u : Tok) (s : Shared) (Q : Value → Shared → Prop) (E : Value → Shared → Prop), Q (.int (g i j) s.toks) { s with toks := s.toks + 1 } → wpAny (model X.prog X.w) X.A (f (.int i t) (.int j u)) Q E s) :
    OpR X f (rI0 fun i j => .int (g i j)) := by
  intro pins s σ H x y v u Q I rx ry h
  obtain ⟨i, j, rfl, rfl, q⟩ := h
  obtain ⟨t, rfl⟩ := rx
  obtain ⟨t', rfl⟩ := ry
  exact rule i j t t' s _ _ ⟨.int (g i j), H, I.tok _, ⟨_, rfl⟩, q⟩
theorem opB0 {f : Value → Value → Sem Value} {g : Int → Int → Bool}
    (rule : ∀ (i j : Int) (t u : Tok) (s : Shared) (Q : Value → Shared → Prop) (E : Value → Shared → Prop), Q (.bool (g i j)) s → wpAny (model X.prog X.w) X.A (f (.int i t) (.int j u)) Q E s) :
    OpR X f (rI0 fun i j => .bl (g i j)) := by
  intro pins s σ H x y v u Q I rx ry h
  obtain ⟨i, j, rfl, rfl, q⟩ := h
  obtain ⟨t, rfl⟩ := rx
  obtain ⟨t', rfl⟩ := ry
  exact rule i j t t' s _ _ ⟨.bl (g i j), H, I, rfl, q⟩

def CDiv (i j : Int) : Prop := 0 < j ∧ j < 1073741824
def CDivN (i j : Int) : Prop := j ≠ 0 ∧ j.natAbs < 1073741824
def CPow (i j : Int) : Prop := 0 ≤ j ∧ j ≤ 1000000 ∧ i.natAbs < 2 ^ 64
def CMul (i j : Int) : Prop := (-(2 ^ 64) < i ∧ i < 2 ^ 64) ∨ (-(2 ^ 64) < j ∧ j < 2 ^ 64)
theorem CMul.ok {i j : Int} (h : CMul i j) : IntMulOk i j := by
  rcases h with ⟨h1, h2⟩ | ⟨h1, h2⟩
  · exact .of_left (intBits_le_64 h1 h2)
  · exact .of_right (intBits_le_64 h1 h2)
theorem two_pow_nn (k : Nat) : (0 : Int) ≤ 2 ^ k := by
  rw [two_pow_cast]
  exact Int.natCast_nonneg _

theorem op_add : OpR X (binaryOp .Add) (rI0 fun i j => .int (i + j)) := opI0 fun _ _ _ _ _ _ _ q => add_int q
theorem op_sub : OpR X (binaryOp .Sub) (rI0 fun i j => .int (i - j)) := opI0 fun _ _ _ _ _ _ _ q => sub_int q
theorem op_mul : OpR X (binaryOp .Mult) (rI CMul fun i j => .int (i * j)) := opI fun _ _ _ _ _ _ _ hc q => mul_int q hc.ok
/-- // by a positive divisor -/
theorem op_fdiv : OpR X (binaryOp .FloorDiv) (rI CDiv fun i j => .int (i / j)) := opI fun i j _ _ _ _ _ hc q => by
  have h1 : (0 : Int) < j := hc.1
  have h2 : j < 1073741824 := hc.2
  exact floordiv_int (by omega) (by rw [Int.fdiv_eq_ediv_of_nonneg i (by omega)]; exact q) (.inl (PyProof.noPylong_small (by omega)))
theorem op_fdivN : OpR X (binaryOp .FloorDiv) (rI CDivN fun i j => .int (i.fdiv j)) := opI fun _ _ _ _ _ _ _ hc q => floordiv_int hc.1 q (.inl (PyProof.noPylong_small hc.2))
/-- % by a positive divisor of any size -/
theorem op_mod : OpR X (binaryOp .Mod) (rI (fun _ j => 0 < j) fun i j => .int (i % j)) := opI fun i j _ _ _ _ _ hc q => by
  have h1 : (0 : Int) < j := hc
  exact mod_int' (by omega) (by rw [Int.fmod_eq_emod_of_nonneg i (by omega)]; exact q)
theorem op_modN : OpR X (binaryOp .Mod) (rI (fun _ j => j ≠ 0) fun i j => .int (i.fmod j)) := opI fun _ _ _ _ _ _ _ hc q => mod_int' hc q
theorem op_pow : OpR X (binaryOp .Pow) (rI CPow fun i j => .int (i ^ j.toNat)) := opI fun _ _ _ _ _ _ _ hc q => pow_int_small hc.1 hc.2.1 hc.2.2 q
theorem op_shl : OpR X (binaryOp .LShift) (rI CPow fun i j => .int (i * 2 ^ j.toNat)) := opI fun _ _ _ _ _ _ _ hc q => lshift_int_small hc.1 hc.2.1 hc.2.2 q
theorem op_shr : OpR X (binaryOp .RShift) (rI (fun _ j => 0 ≤ j) fun i j => .int (i / 2 ^ j.toNat)) := opI fun i j _ _ _ _ _ hc q =>
  rshift_int hc (by rw [Int.fdiv_eq_ediv_of_nonneg i (two_pow_nn _)]; exact q)
theorem op_and : OpR X (binaryOp .BitAnd) (rI0 fun i j => .int (Builtin.bitAnd i j)) := opI0 fun _ _ _ _ _ _ _ q => and_int q
theorem op_or : OpR X (binaryOp .BitOr) (rI0 fun i j => .int (Builtin.bitOr i j)) := opI0 fun _ _ _ _ _ _ _ q => or_int q
theorem op_xor : OpR X (binaryOp .BitXor) (rI0 fun i j => .int (Builtin.bitXor i j)) := opI0 fun _ _ _ _ _ _ _ q => xor_int q

theorem iop_add : OpR X (inplaceOp .Add) (rI0 fun i j => .int (i + j)) := opI0 fun _ _ _ _ _ _ _ q => iadd_int q
theorem iop_sub : OpR X (inplaceOp .Sub) (rI0 fun i j => .int (i - j)) := opI0 fun _ _ _ _ _ _ _ q => isub_int q
theorem iop_mul : OpR X (inplaceOp .Mult) (rI CMul fun i j => .int (i * j)) := opI fun _ _ _ _ _ _ _ hc q => imul_int q hc.ok
theorem iop_fdiv : OpR X (inplaceOp .FloorDiv) (rI CDiv fun i j => .int (i / j)) := opI fun i j _ _ _ _ _ hc q => by
  have h1 : (0 : Int) < j := hc.1
  have h2 : j < 1073741824 := hc.2
  exact ifloordiv_int (by omega) (by rw [Int.fdiv_eq_ediv_of_nonneg i (by omega)]; exact q) (.inl (PyProof.noPylong_small (by omega)))
theorem iop_mod : OpR X (inplaceOp .Mod) (rI (fun _ j => 0 < j) fun i j => .int (i % j)) := opI fun i j _ _ _ _ _ hc q => by
  have h1 : (0 : Int) < j := hc
  exact imod_int (by omega) (by rw [Int.fmod_eq_emod_of_nonneg i (by omega)]; exact q)
theorem iop_shl : OpR X (inplaceOp .LShift) (rI CPow fun i j => .int (i * 2 ^ j.toNat)) := opI fun _ _ _ _ _ _ _ hc q => ilshift_int_small hc.1 hc.2.1 hc.2.2 q
theorem iop_shr : OpR X (inplaceOp .RShift) (rI (fun _ j => 0 ≤ j) fun i j => .int (i / 2 ^ j.toNat)) := opI fun i j _ _ _ _ _ hc q =>
  irshift_int hc (by rw [Int.fdiv_eq_ediv_of_nonneg i (two_pow_nn _)]; exact q)
theorem iop_and : OpR X (inplaceOp .BitAnd) (rI0 fun i j => .int (Builtin.bitAnd i j)) := opI0 fun _ _ _ _ _ _ _ q => iand_int q
theorem iop_or : OpR X (inplaceOp .BitOr) (rI0 fun i j => .int (Builtin.bitOr i j)) := opI0 fun _ _ _ _ _ _ _ q => ior_int q
theorem iop_xor : OpR X (inplaceOp .BitXor) (rI0 fun i j => .int (Builtin.bitXor i j)) := opI0 fun _ _ _ _ _ _ _ q => ixor_int q

theorem unI {f : Value → Sem Value} {g : Int → Int}
    (rule : ∀ (i : Int) (t : Tok) (s : Shared) (Q : Value → Shared → Prop) (E : Value → Shared → Prop), Q (.int (g i) s.toks) { s with toks := s.toks + 1 } → wpAny (model X.prog X.w) X.A (f (.int i t)) Q E s) :
    UnR X f (rU fun i => .int (g i)) := by
  intro pins s σ H x v Q I rx h
  obtain ⟨i, rfl, q⟩ := h
  obtain ⟨t, rfl⟩ := rx
  exact rule i t s _ _ ⟨.int (g i), H, I.tok _, ⟨_, rfl⟩, q⟩
theorem un_neg : UnR X (unaryOp .USub) (rU fun i => .int (-i)) := unI fun _ _ _ _ _ q => neg_int q
theorem un_inv : UnR X (unaryOp .Invert) (rU fun i => .int (Builtin.bitNot i)) := unI fun _ _ _ _ _ q => invert_int q

/-! ### bools among ints: n += (a < b) -/
theorem op_add_ib : OpR X (binaryOp .Add) (fun x y H Q => ∃ i k, x = .int i ∧ y = .bl k ∧ Q (.int (i + b2i k)) H) := by
  intro pins s σ H x y v u Q I rx ry h
  obtain ⟨i, k, rfl, rfl, q⟩ := h
  obtain ⟨t, rfl⟩ := rx
  cases ry
  exact add_int_bool ⟨.int (i + b2i k), H, I.tok _, ⟨_, rfl⟩, q⟩
end

/-! ### comparisons -/
/-- the scalars that == tells apart as data does -/
def scal : V → V → Bool
  | .non, .non => true | .non, .int _ => true | .int _, .non => true | .non, .bl _ => true | .bl _, .non => true | .non, .str _ => true | .str _, .non => true
  | .int _, .int _ => true | .bl _, .bl _ => true | .str _, .str _ => true | .byt _, .byt _ => true
  | .int _, .str _ => true | .str _, .int _ => true | .bl _, .str _ => true | .str _, .bl _ => true
  | _, _ => false
def rEq : R2 := fun x y H Q => scal x y = true ∧ Q (.bl (decide (x = y))) H
def rNe : R2 := fun x y H Q => scal x y = true ∧ Q (.bl (!decide (x = y))) H

theorem dec_int {i j : Int} : decide (V.int i = V.int j) = (i == j) := by
  rw [Bool.eq_iff_iff]
  simp
theorem dec_bl {i j : Bool} : decide (V.bl i = V.bl j) = (i == j) := by
  rw [Bool.eq_iff_iff]
  simp
theorem dec_str {i j : Str} : decide (V.str i = V.str j) = (i == j) := by
  rw [Bool.eq_iff_iff]
  simp
theorem dec_byt {i j : Array UInt8} : decide (V.byt i = V.byt j) = (i.toList == j.toList) := by
  rw [Bool.eq_iff_iff]
  cases i
  cases j
  simp

section
variable {X : Cx} {a b c : Expr} {ta tb tc : TE} {pos : Pos}
theorem fin_bl {pins : List (Addr × Obj)} {σ : St} {H : Hp} {s : Shared} {Q : VK} {k k' : Bool} (I : Inv X pins σ H s) (q : Q (.bl k) H) (e : k = k') : EP X pins σ Q (.bool k') s := by
  subst e
  exact ⟨.bl k, H, I, rfl, q⟩
theorem op_eq : OpR X (compareOp .Eq) rEq := by
  intro pins s σ H x y v u Q I rx ry h
  obtain ⟨hs, q⟩ := h
  cases x with
  | non =>
    cases rx
    cases y with
    | non => cases ry; exact PySem.EqNone.eq_none_none (fin_bl I q (by simp))
    | bl j => cases ry; exact PySem.EqNone.eq_none_bool (fin_bl I q (by simp))
    | int j => obtain ⟨t', rfl⟩ := ry; exact PySem.EqNone.eq_none_int (fin_bl I q (by simp))
    | str j => obtain ⟨t', rfl⟩ := ry; exact PySem.EqNone.eq_none_str (fin_bl I q (by simp))
    | _ => exact absurd (show false = true from hs) Bool.false_ne_true
  | bl i =>
    cases rx
    cases y with
    | non => cases ry; exact PySem.EqNone.eq_bool_none (fin_bl I q (by simp))
    | bl j => cases ry; exact eq_bool (fin_bl I q dec_bl)
    | str j => obtain ⟨t', rfl⟩ := ry; exact PySem.EqMixed.eq_bool_str (fin_bl I q (by simp))
    | _ => exact absurd (show false = true from hs) Bool.false_ne_true
  | int i =>
    obtain ⟨t, rfl⟩ := rx
    cases y with
    | non => cases ry; exact PySem.EqNone.eq_int_none (fin_bl I q (by simp))
    | int j => obtain ⟨t', rfl⟩ := ry; exact eq_int (fin_bl I q dec_int)
    | str j => obtain ⟨t', rfl⟩ := ry; exact PySem.EqMixed.eq_int_str (fin_bl I q (by simp))
    | _ => exact absurd (show false = true from hs) Bool.false_ne_true
  | str i =>
    obtain ⟨t, rfl⟩ := rx
    cases y with
    | non => cases ry; exact PySem.EqNone.eq_str_none (fin_bl I q (by simp))
    | bl j => cases ry; exact PySem.EqMixed.eq_str_bool (fin_bl I q (by simp))
    | int j => obtain ⟨t', rfl⟩ := ry; exact PySem.EqMixed.eq_str_int (fin_bl I q (by simp))
    | str j => obtain ⟨t', rfl⟩ := ry; exact eq_str (fin_bl I q dec_str)
    | _ => exact absurd (show false = true from hs) Bool.false_ne_true
  | byt i =>
    obtain ⟨t, rfl⟩ := rx
    cases y with
    | byt j => obtain ⟨t', rfl⟩ := ry; exact PySem.W.eq_bytes (fin_bl I q dec_byt)
    | _ => exact absurd (show false = true from hs) Bool.false_ne_true
  | _ => cases y <;> exact absurd (show false = true from hs) Bool.false_ne_true
theorem op_ne : OpR X (compareOp .NotEq) rNe := by
  intro pins s σ H x y v u Q I rx ry h
  obtain ⟨hs, q⟩ := h
  cases x with
  | non =>
    cases rx
    cases y with
    | non => cases ry; exact PySem.EqNone.ne_none_none (fin_bl I q (by simp))
    | bl j => cases ry; exact PySem.EqNone.ne_none_bool (fin_bl I q (by simp))
    | int j => obtain ⟨t', rfl⟩ := ry; exact PySem.EqNone.ne_none_int (fin_bl I q (by simp))
    | str j => obtain ⟨t', rfl⟩ := ry; exact PySem.EqNone.ne_none_str (fin_bl I q (by simp))
    | _ => exact absurd (show false = true from hs) Bool.false_ne_true
  | bl i =>
    cases rx
    cases y with
    | non => cases ry; exact PySem.EqNone.ne_bool_none (fin_bl I q (by simp))
    | bl j => cases ry; exact ne_bool (fin_bl I q (congrArg not dec_bl))
    | str j => obtain ⟨t', rfl⟩ := ry; exact PySem.EqMixed.ne_bool_str (fin_bl I q (by simp))
    | _ => exact absurd (show false = true from hs) Bool.false_ne_true
  | int i =>
    obtain ⟨t, rfl⟩ := rx
    cases y with
    | non => cases ry; exact PySem.EqNone.ne_int_none (fin_bl I q (by simp))
    | int j => obtain ⟨t', rfl⟩ := ry; exact ne_int (fin_bl I q (congrArg not dec_int))
    | str j => obtain ⟨t', rfl⟩ := ry; exact PySem.EqMixed.ne_int_str (fin_bl I q (by simp))
    | _ => exact absurd (show false = true from hs) Bool.false_ne_true
  | str i =>
    obtain ⟨t, rfl⟩ := rx
    cases y with
    | non => cases ry; exact PySem.EqNone.ne_str_none (fin_bl I q (by simp))
    | bl j => cases ry; exact PySem.EqMixed.ne_str_bool (fin_bl I q (by simp))
    | int j => obtain ⟨t', rfl⟩ := ry; exact PySem.EqMixed.ne_str_int (fin_bl I q (by simp))
    | str j => obtain ⟨t', rfl⟩ := ry; exact ne_str (fin_bl I q (congrArg not dec_str))
    | _ => exact absurd (show false = true from hs) Bool.false_ne_true
  | byt i =>
    obtain ⟨t, rfl⟩ := rx
    cases y with
    | byt j => obtain ⟨t', rfl⟩ := ry; exact PySem.W.ne_bytes (fin_bl I q (congrArg not dec_byt))
    | _ => exact absurd (show false = true from hs) Bool.false_ne_true
  | _ => cases y <;> exact absurd (show false = true from hs) Bool.false_ne_true

theorem op_lt : OpR X (compareOp .Lt) (rI0 fun i j => .bl (decide (i < j))) := opB0 fun _ _ _ _ _ _ _ q => lt_int q
theorem op_le : OpR X (compareOp .LtE) (rI0 fun i j => .bl (decide (i ≤ j))) := opB0 fun _ _ _ _ _ _ _ q => le_int q
theorem op_gt : OpR X (compareOp .Gt) (rI0 fun i j => .bl (decide (j < i))) := opB0 fun _ _ _ _ _ _ _ q => gt_int q
theorem op_ge : OpR X (compareOp .GtE) (rI0 fun i j => .bl (decide (j ≤ i))) := opB0 fun _ _ _ _ _ _ _ q => ge_int q
theorem op_lt_str : OpR X (compareOp .Lt) (fun x y H Q => ∃ i j, x = .str i ∧ y = .str j ∧ Q (.bl (decide (i.cps.toList < j.cps.toList))) H) := by
  intro pins s σ H x y v u Q I rx ry h
  obtain ⟨i, j, rfl, rfl, q⟩ := h
  obtain ⟨t, rfl⟩ := rx
  obtain ⟨t', rfl⟩ := ry
  exact lt_str (fin_bl I q rfl)
/-- the one string within the other -/
theorem op_in_str : OpR X (compareOp .In) (fun x y H Q => ∃ i j, x = .str i ∧ y = .str j ∧ Q (.bl (!(Builtin.Str.occurrences j i 0 j.length 1).isEmpty)) H) := by
  intro pins s σ H x y v u Q I rx ry h
  obtain ⟨i, j, rfl, rfl, q⟩ := h
  obtain ⟨t, rfl⟩ := rx
  obtain ⟨t', rfl⟩ := ry
  exact in_str (fin_bl I q rfl)

/-- is None, is not None: the right side a value none -/
theorem op_isN : OpR X (compareOp .Is) (fun x y H Q => y = .non ∧ Q (.bl (decide (x = .non))) H) := by
  intro pins s σ H x y v u Q I rx ry h
  obtain ⟨rfl, q⟩ := h
  cases ry
  refine is_none_gen (fin_bl I q ?_)
  cases x <;> first
    | (cases rx; rfl)
    | (obtain ⟨t, rfl⟩ := rx; rfl)
theorem op_notN : OpR X (compareOp .IsNot) (fun x y H Q => y = .non ∧ Q (.bl (!decide (x = .non))) H) := by
  intro pins s σ H x y v u Q I rx ry h
  obtain ⟨rfl, q⟩ := h
  cases ry
  refine isnot_none_gen (fin_bl I q ?_)
  cases x <;> first
    | (cases rx; rfl)
    | (obtain ⟨t, rfl⟩ := rx; rfl)

theorem op_notin_str : OpR X (compareOp .NotIn) (fun x y H Q => ∃ i j, x = .str i ∧ y = .str j ∧ Q (.bl (!(!(Builtin.Str.occurrences j i 0 j.length 1).isEmpty))) H) := by
  intro pins s σ H x y v u Q I rx ry h
  obtain ⟨i, j, rfl, rfl, q⟩ := h
  obtain ⟨t, rfl⟩ := rx
  obtain ⟨t', rfl⟩ := ry
  exact notIn_str (fin_bl I q rfl)
/-- is, is not of two objects that are tracked lists or instances -/
def isObj : HO → Bool
  | .lst _ => true
  | .ins _ _ _ => true
  | _ => false
theorem obj_there {pins : List (Addr × Obj)} {s : Shared} {σ : St} {H : Hp} {a : Addr} {o : HO} (I : Inv X pins σ H s) (h : H a = some o) (p : isObj o = true) : ∃ ob, s.heap.get? a = some ob ∧ ob.cls ≠ .type "tuple" := by
  cases o with
  | lst xs =>
    obtain ⟨_, its, n, _, e⟩ : xs.length ≤ sizeLine ∧ ∃ (its : List Value) (n : Nat), Vals xs its ∧ s.heap.get? a = some { cls := .type "list", data := .seq its.toArray n } := I.hok a _ h
    exact ⟨_, e, (by show Value.type "list" ≠ .type "tuple"; decide +kernel)⟩
  | ins C dx fs =>
    have x := I.hok a _ h
    obtain ⟨_, _, _, e, _⟩ := x
    exact ⟨_, e, (by show Value.ref C ≠ .type "tuple"; exact fun z => by cases z)⟩
  | _ => exact absurd (show false = true from p) Bool.false_ne_true
theorem op_is_ref : OpR X (compareOp .Is) (fun x y H Q => ∃ a b oa ob, x = .ref a ∧ y = .ref b ∧ H a = some oa ∧ isObj oa = true ∧ H b = some ob ∧ isObj ob = true ∧ Q (.bl (decide (a = b))) H) := by
  intro pins s σ H x y v u Q I rx ry h
  obtain ⟨a, b, oa, ob, rfl, rfl, ha, pa, hb, pb, q⟩ := h
  cases rx
  cases ry
  obtain ⟨o1, e1, n1⟩ := obj_there I ha pa
  obtain ⟨o2, e2, _⟩ := obj_there I hb pb
  by_cases z : a = b
  · subst z
    exact wpAny_is_ref_self (fin_bl I q (by simp))
  · exact wpAny_is_ref_other z e1 e2 n1 (fin_bl I q (by simp [z]))
theorem op_isnot_ref : OpR X (compareOp .IsNot) (fun x y H Q => ∃ a b oa ob, x = .ref a ∧ y = .ref b ∧ H a = some oa ∧ isObj oa = true ∧ H b = some ob ∧ isObj ob = true ∧ Q (.bl (!decide (a = b))) H) := by
  intro pins s σ H x y v u Q I rx ry h
  obtain ⟨a, b, oa, ob, rfl, rfl, ha, pa, hb, pb, q⟩ := h
  cases rx
  cases ry
  obtain ⟨o1, e1, n1⟩ := obj_there I ha pa
  obtain ⟨o2, e2, _⟩ := obj_there I hb pb
  by_cases z : a = b
  · subst z
    exact wpAny_isNot_ref_self (fin_bl I q (by simp))
  · exact wpAny_isNot_ref_other z e1 e2 n1 (fin_bl I q (by simp [z]))

/-- two rules for one operation: by cases -/
theorem OpR.or {f : Value → Value → Sem Value} {r r' : R2} (h : OpR X f r) (h' : OpR X f r') : OpR X f (fun x y H Q => r x y H Q ∨ r' x y H Q) := by
  intro pins s σ H x y v u Q I rx ry q
  rcases q with q | q
  · exact h pins s σ H x y v u Q I rx ry q
  · exact h' pins s σ H x y v u Q I rx ry q

theorem nomark (b : Expr) {op : CmpOp} (h : op ≠ .In := by decide) (h2 : op ≠ .NotIn := by decide) : behindInMarks op b = false := by
  have e1 : (op == CmpOp.In) = false := by cases op <;> first | rfl | exact absurd rfl h
  have e2 : (op == CmpOp.NotIn) = false := by cases op <;> first | rfl | exact absurd rfl h2
  cases b <;> simp [behindInMarks, e1, e2]
/-- a comparison as a value; hm: nomark b, or (for in, not in) by with_unfolding_all rfl -/
theorem pe_cmpR {op : CmpOp} {r : R2} (ho : OpR X (compareOp op) r) (ha : PE X a ta) (hb : PE X b tb) (hm : behindInMarks op b = false) : PE X (.Compare a [op] [b] pos) (tOp r ta tb) := by
  intro pins s σ H Q I h
  exact wpAny_Compare1 (binT ha hb I h fun v u s2 x y H2 I2 rx ry q => ho pins s2 σ H2 x y v u Q I2 rx ry q) hm
/-- a reading of a value as a test -/
def tTest (t : TE) : TT := fun σ H Q => t σ H fun x H' => ∃ k, x = .bl k ∧ Q k H'
theorem pt_cmpR {op : CmpOp} {r : R2} (ho : OpR X (compareOp op) r) (ha : PE X a ta) (hb : PE X b tb) (hm : behindInMarks op b = false) : PT X (.Compare a [op] [b] pos) (tTest (tOp r ta tb)) := by
  intro pins s σ H Q I h
  refine wpAny_isTrue_Compare1 (thn (ha pins s σ H _ I h) fun v s1 ⟨x, H1, I1, r1, q1⟩ => thn (hb pins s1 σ H1 _ I1 q1) fun u s2 ⟨y, H2, I2, r2, q2⟩ =>
    thn (ho pins s2 σ H2 x y v u _ I2 r1 r2 q2) fun c s3 ⟨z, H3, I3, r3, k, e, q3⟩ => ?_) hm
  subst e
  cases r3
  exact wpAny_truthy_bool ⟨H3, I3, q3⟩
/-- a op1 b op2 c -/
def tChain (r r' : R2) (ta tb tc : TE) : TE := fun σ H Q => ta σ H fun x H1 => tb σ H1 fun y H2 => r x y H2 fun z H3 => ∃ k, z = .bl k ∧
  (if k = true then tc σ H3 fun w' H4 => r' y w' H4 Q else Q (.bl false) H3)
theorem pe_chain {op op' : CmpOp} {r r' : R2} (ho : OpR X (compareOp op) r) (ho' : OpR X (compareOp op') r') (ha : PE X a ta) (hb : PE X b tb) (hc : PE X c tc)
    (hm : lastMarks [op, op'] [b, c] = false := by with_unfolding_all rfl) : PE X (.Compare a [op, op'] [b, c] pos) (tChain r r' ta tb tc) := by
  intro pins s σ H Q I h
  refine Compare_chain (thn (ha pins s σ H _ I h) fun v s1 ⟨x, H1, I1, r1, q1⟩ => chain_link (thn (hb pins s1 σ H1 _ I1 q1) fun u s2 ⟨y, H2, I2, r2, q2⟩ =>
    thn (ho pins s2 σ H2 x y v u _ I2 r1 r2 q2) fun d s3 ⟨z, H3, I3, r3, k, e, q3⟩ => ?_)) hm
  subst e
  cases r3
  refine wpAny_truthy_bool ?_
  cases k with
  | false => exact ite_ff ⟨.bl false, H3, I3, rfl, q3⟩
  | true => exact ite_tt (chain_last (thn (hc pins s3 σ H3 _ I3 q3) fun w' s4 ⟨z', H4, I4, r4, q4⟩ => ho' pins s4 σ H4 y z' u w' Q I4 r2 r4 q4))
theorem pt_chain {op op' : CmpOp} {r r' : R2} (ho : OpR X (compareOp op) r) (ho' : OpR X (compareOp op') r') (ha : PE X a ta) (hb : PE X b tb) (hc : PE X c tc)
    (hm : lastMarks [op, op'] [b, c] = false := by with_unfolding_all rfl) : PT X (.Compare a [op, op'] [b, c] pos) (tTest (tChain r r' ta tb tc)) := by
  intro pins s σ H Q I h
  refine isTrue_chain (thn (ha pins s σ H _ I h) fun v s1 ⟨x, H1, I1, r1, q1⟩ => test_link (thn (hb pins s1 σ H1 _ I1 q1) fun u s2 ⟨y, H2, I2, r2, q2⟩ =>
    thn (ho pins s2 σ H2 x y v u _ I2 r1 r2 q2) fun d s3 ⟨z, H3, I3, r3, k, e, q3⟩ => ?_)) hm
  subst e
  cases r3
  refine wpAny_truthy_bool ?_
  cases k with
  | false =>
    obtain ⟨k', e', q'⟩ := q3
    cases e'
    exact ite_ff ⟨H3, I3, q'⟩
  | true =>
    refine ite_tt (test_last (thn (hc pins s3 σ H3 _ I3 q3) fun w' s4 ⟨z', H4, I4, r4, q4⟩ => thn (ho' pins s4 σ H4 y z' u w' _ I4 r2 r4 q4) fun d' s5 ⟨z2, H5, I5, r5, k2, e2, q5⟩ => ?_))
    subst e2
    cases r5
    exact wpAny_truthy_bool ⟨H5, I5, q5⟩

/-! ### truth -/
/-- a value's truth by the abstract heap -/
def TruV (K : PySem.W.Frag) (x : V) (H : Hp) (k : Bool) : Prop :=
  match x with
  | .non => k = false
  | .bl b => k = b
  | .int i => k = (i != 0)
  | .str y => y.length ≤ sizeLine ∧ k = ((y.length : Int) != 0)
  | .byt y => y.size ≤ sizeLine ∧ k = ((y.size : Int) != 0)
  | .ref p => (∃ xs, SqL K H p xs ∧ k = !xs.isEmpty) ∨ (∃ xs, SqT K H p xs ∧ k = !xs.isEmpty) ∨ ∃ kvs, H p = some (.dK kvs) ∧ k = !kvs.isEmpty
  | _ => False
theorem isEmpty_kv {κ : Type} {kvs : List (κ × V)} {vs : List (κ × Value)} (r : KV kvs vs) : (!vs.isEmpty) = !kvs.isEmpty := by
  cases r <;> rfl
theorem isEmpty_of {xs : List V} {its : List Value} (r : Vals xs its) : (!its.toArray.isEmpty) = !xs.isEmpty := by
  cases r <;> simp
theorem line63 : (sizeLine : Nat) < 2 ^ 63 := by rw [sizeLine_eq]; decide
theorem tru_ok : TruR X (fun x H Q => ∃ k, TruV X.K x H k ∧ Q k H) := by
  intro pins s σ H x v Q I rx h
  obtain ⟨k, e, q⟩ := h
  have hl := line63
  have hs : sizeLine = 16777216 := sizeLine_eq
  cases x with
  | non =>
    cases rx
    have e' : k = false := e
    subst e'
    exact truthy_none ⟨H, I, q⟩
  | bl b =>
    cases rx
    have e' : k = b := e
    subst e'
    exact wpAny_truthy_bool ⟨H, I, q⟩
  | int i =>
    obtain ⟨t, rfl⟩ := rx
    have e' : k = (i != 0) := e
    subst e'
    exact PySem.P.truthy_int ⟨H, I, q⟩
  | str y =>
    obtain ⟨t, rfl⟩ := rx
    obtain ⟨hy, e'⟩ : y.length ≤ sizeLine ∧ k = ((y.length : Int) != 0) := e
    subst e'
    exact PySem.P.truthy_str (by omega) ⟨H, I.tok _, q⟩
  | byt y =>
    obtain ⟨t, rfl⟩ := rx
    obtain ⟨hy, e'⟩ : y.size ≤ sizeLine ∧ k = ((y.size : Int) != 0) := e
    subst e'
    exact PySem.W.truthy_bytes (by omega) ⟨H, I.tok _, q⟩
  | ref p =>
    cases rx
    have e' : (∃ xs, SqL X.K H p xs ∧ k = !xs.isEmpty) ∨ (∃ xs, SqT X.K H p xs ∧ k = !xs.isEmpty) ∨ ∃ kvs, H p = some (.dK kvs) ∧ k = !kvs.isEmpty := e
    rcases e' with ⟨xs, hx, e'⟩ | ⟨xs, hx, e'⟩ | ⟨kvs, hx, e'⟩
    · subst e'
      obtain ⟨its, r, pl, hz⟩ := I.list hx
      have hlen := r.length
      exact wpAny_truthy_list pl.isList (by simp only [List.size_toArray]; omega) ⟨H, I.tok _, by rw [isEmpty_of r]; exact q⟩
    · subst e'
      obtain ⟨its, r, pl, hz⟩ := I.tuple hx
      have hlen := r.length
      exact truthy_tuple pl (by simp only [List.size_toArray]; omega) ⟨H, I.tok _, by rw [isEmpty_of r]; exact q⟩
    · subst e'
      obtain ⟨hz, hS, vs, r, m⟩ : kvs.length ≤ sizeLine ∧ (p == sysModules) = false ∧ ∃ vs, KV kvs vs ∧ s.heap.DictOf (mixKind X.prog X.w) p vs := I.hok p _ hx
      have hlen : kvs.length = vs.length := Paired.length r
      exact wpAny_truthy_dict hS m (by omega) ⟨H, I.tok _, by rw [isEmpty_kv r]; exact q⟩
  | _ => exact (show False from e).elim
/-- any expression whose test is its value's truth (a name, a call, a subscript, a field ..: he by fun _ => rfl) -/
theorem pt_truth (ha : PE X a ta) (he : ∀ whole, isTrue a X.env whole = (do let v ← whole; standAt a.pos; holding [v] (truthy v))) :
    PT X a (fun σ H Q => ta σ H fun x H' => ∃ k, TruV X.K x H' k ∧ Q k H') := by
  intro pins s σ H Q I h
  exact isTrue_plain (thn (ha pins s σ H _ I h) fun v s1 ⟨x, H1, I1, r1, q1⟩ => tru_ok pins s1 σ H1 x v Q I1 r1 q1) (he _)

/-! ### strs and bytes -/
theorem pe_byt {x : List UInt8} {k : Nat} : PE X (.Constant (.bytes x) k pos) (fun _ H Q => Q (.byt x.toArray) H) := fun _ _ _ H _ I h => PySem.W.Constant_bytes ⟨.byt x.toArray, H, I.tok _, ⟨_, rfl⟩, h⟩
theorem op_add_str : OpR X (binaryOp .Add) (fun x y H Q => ∃ i j, x = .str i ∧ y = .str j ∧ i.length + j.length ≤ sizeLine ∧ Q (.str (i ++ j)) H) := by
  intro pins s σ H x y v u Q I rx ry h
  obtain ⟨i, j, rfl, rfl, hz, q⟩ := h
  obtain ⟨t, rfl⟩ := rx
  obtain ⟨t', rfl⟩ := ry
  exact add_str (fun t' tk => ⟨.str (i ++ j), H, I.tok _, ⟨_, rfl⟩, q⟩) hz
theorem iop_add_str : OpR X (inplaceOp .Add) (fun x y H Q => ∃ i j, x = .str i ∧ y = .str j ∧ i.length + j.length ≤ sizeLine ∧ Q (.str (i ++ j)) H) := by
  intro pins s σ H x y v u Q I rx ry h
  obtain ⟨i, j, rfl, rfl, hz, q⟩ := h
  obtain ⟨t, rfl⟩ := rx
  obtain ⟨t', rfl⟩ := ry
  exact iadd_str (fun t' tk => ⟨.str (i ++ j), H, I.tok _, ⟨_, rfl⟩, q⟩) hz
theorem op_add_byt : OpR X (binaryOp .Add) (fun x y H Q => ∃ i j, x = .byt i ∧ y = .byt j ∧ i.size + j.size ≤ 16777216 ∧ Q (.byt (i ++ j)) H) := by
  intro pins s σ H x y v u Q I rx ry h
  obtain ⟨i, j, rfl, rfl, hz, q⟩ := h
  obtain ⟨t, rfl⟩ := rx
  obtain ⟨t', rfl⟩ := ry
  exact PySem.W.KBy.add_bytes hz (fun t' tk => ⟨.byt (i ++ j), H, I.tok _, ⟨_, rfl⟩, q⟩)

def PlainIxT (b : Expr) : Prop := ∀ o i, subscripted b false o i = operate [o, i] (getItem o i)
/-- s[i], 0 ≤ i < len -/
theorem pe_item_str (ha : PE X a ta) (hb : PE X b tb) (hs : PlainIxT b) :
    PE X (.Subscript a b pos) (tOp (fun x y H Q => ∃ z i c, x = .str z ∧ y = .int i ∧ 0 ≤ i ∧ i < 2 ^ 63 ∧ i < z.length ∧ z.cps[i.toNat]? = some c ∧ Q (.str ⟨#[c]⟩) H) ta tb) := by
  intro pins s σ H Q I h
  refine Subscript_ (binT ha hb I h fun v u s2 x y H2 I2 rx ry q => ?_)
  obtain ⟨z, i, c, rfl, rfl, h0, h63, h1, hc, q⟩ := q
  obtain ⟨t, rfl⟩ := rx
  obtain ⟨t', rfl⟩ := ry
  have e : seqIndex? i z.length = some i.toNat := PySem.StrLaws.seqIndex_nonneg h0 h1
  exact tail_any (typeIs_str s2 z t) slot_str_getitem.lookup (getItem_str (c := c) (by
    have e1 : decide (i < -(2 ^ 63 : Int)) = false := decide_eq_false (by omega)
    have e2 : decide (i ≥ 2 ^ 63) = false := decide_eq_false (by omega)
    rw [e1, e2] <;> rfl) (by rw [e]; exact hc) ⟨.str ⟨#[c]⟩, H2, I2.tok _, ⟨_, rfl⟩, q⟩) (hs _ _)
/-- b[i], 0 ≤ i < len -/
theorem pe_item_byt (ha : PE X a ta) (hb : PE X b tb) (hs : PlainIxT b) :
    PE X (.Subscript a b pos) (tOp (fun x y H Q => ∃ (z : List UInt8) (i : Int), x = .byt z.toArray ∧ y = .int i ∧ z.length ≤ sizeLine ∧ 0 ≤ i ∧ i < z.length ∧ Q (.int ((z.getD i.toNat 0).toNat : Nat)) H) ta tb) := by
  intro pins s σ H Q I h
  refine Subscript_ (binT ha hb I h fun v u s2 x y H2 I2 rx ry q => ?_)
  obtain ⟨z, i, rfl, rfl, hz, h0, h1, q⟩ := q
  obtain ⟨t, rfl⟩ := rx
  obtain ⟨t', rfl⟩ := ry
  have hl : sizeLine = 16777216 := sizeLine_eq
  exact tail_any (PySem.W.typeIs_bytes s2 z.toArray t) PySem.W.FB.slot_bytes_getitem.lookup (PySem.W.getItem_bytes (by omega) h0 h1 ⟨.int ((z.getD i.toNat 0).toNat : Nat), H2, I2.tok _, ⟨_, rfl⟩, q⟩) (hs _ _)

/-! ### scalar builtins, by CallR -/
theorem vals1 {x : V} {us : List Value} (r : Vals [x] us) : ∃ u, us = [u] ∧ RelV x u := by
  cases r with
  | cons r1 r2 => cases r2; exact ⟨_, rfl, r1⟩
theorem vals2 {x y : V} {us : List Value} (r : Vals [x, y] us) : ∃ u w', us = [u, w'] ∧ RelV x u ∧ RelV y w' := by
  cases r with
  | cons r1 r2 =>
    cases r2 with
    | cons r3 r4 => cases r4; exact ⟨_, _, rfl, r1, r3⟩
theorem call_abs : CallR X (.builtin "abs") (fun xs H Q => ∃ i, xs = [.int i] ∧ Q (.int (if i < 0 then -i else i)) H) := by
  intro pins s σ H xs us Q I r h
  obtain ⟨i, rfl, q⟩ := h
  obtain ⟨u, rfl, t, rfl⟩ := vals1 r
  exact call_abs_int fun u tk => ⟨.int (if i < 0 then -i else i), H, I.tok _, ⟨_, rfl⟩, q⟩
theorem call_max2 (hc : X.calm = true) : CallR X (.builtin "max") (fun xs H Q => ∃ i j, xs = [.int i, .int j] ∧ Q (.int (if j > i then j else i)) H) := by
  intro pins s σ H xs us Q I r h
  obtain ⟨i, j, rfl, q⟩ := h
  obtain ⟨u, w', rfl, ⟨t, rfl⟩, ⟨t', rfl⟩⟩ := vals2 r
  refine max_two_ints (I.ok.hd hc) fun h' tk k => ⟨_, H, I.kept k, ?_, q⟩
  by_cases hj : j > i
  · rw [if_pos hj, if_pos hj]; exact ⟨_, rfl⟩
  · rw [if_neg hj, if_neg hj]; exact ⟨_, rfl⟩
theorem call_min2 (hc : X.calm = true) : CallR X (.builtin "min") (fun xs H Q => ∃ i j, xs = [.int i, .int j] ∧ Q (.int (if j < i then j else i)) H) := by
  intro pins s σ H xs us Q I r h
  obtain ⟨i, j, rfl, q⟩ := h
  obtain ⟨u, w', rfl, ⟨t, rfl⟩, ⟨t', rfl⟩⟩ := vals2 r
  refine min_two_ints (I.ok.hd hc) fun h' tk k => ⟨_, H, I.kept k, ?_, q⟩
  by_cases hj : j < i
  · rw [if_pos hj, if_pos hj]; exact ⟨_, rfl⟩
  · rw [if_neg hj, if_neg hj]; exact ⟨_, rfl⟩
theorem call_int1 : CallR X (.type "int") (fun xs H Q => (∃ i, xs = [.int i] ∧ Q (.int i) H) ∨ ∃ k, xs = [.bl k] ∧ Q (.int (if k then 1 else 0)) H) := by
  intro pins s σ H xs us Q I r h
  rcases h with ⟨i, rfl, q⟩ | ⟨k, rfl, q⟩
  · obtain ⟨u, rfl, t, rfl⟩ := vals1 r
    exact call_int_int ⟨.int i, H, I, ⟨_, rfl⟩, q⟩
  · obtain ⟨u, rfl, r1⟩ := vals1 r
    cases r1
    exact call_int_bool ⟨.int (if k then 1 else 0), H, I.tok _, ⟨_, rfl⟩, q⟩
theorem call_bool1 : CallR X (.type "bool") (fun xs H Q => (∃ i, xs = [.int i] ∧ Q (.bl (i != 0)) H) ∨ ∃ k, xs = [.bl k] ∧ Q (.bl k) H) := by
  intro pins s σ H xs us Q I r h
  rcases h with ⟨i, rfl, q⟩ | ⟨k, rfl, q⟩
  · obtain ⟨u, rfl, t, rfl⟩ := vals1 r
    exact call_bool_int ⟨.bl (i != 0), H, I, rfl, q⟩
  · obtain ⟨u, rfl, r1⟩ := vals1 r
    cases r1
    exact call_bool_bool ⟨.bl k, H, I, rfl, q⟩
theorem call_str_int : CallR X (.type "str") (fun xs H Q => ∃ i, xs = [.int i] ∧ i.natAbs.log2 < 1920 ∧ Q (.str (toString i)) H) := by
  intro pins s σ H xs us Q I r h
  obtain ⟨i, rfl, hz, q⟩ := h
  obtain ⟨u, rfl, t, rfl⟩ := vals1 r
  exact PySem.P.str_of_int hz ⟨.str _, H, I.tok _, ⟨_, rfl⟩, q⟩
theorem call_ord : CallR X (.builtin "ord") (fun xs H Q => ∃ x, xs = [.str x] ∧ x.length = 1 ∧ Q (.int (x.cps.getD 0 0 : Nat)) H) := by
  intro pins s σ H xs us Q I r h
  obtain ⟨x, rfl, hz, q⟩ := h
  obtain ⟨u, rfl, t, rfl⟩ := vals1 r
  exact ord_of_one hz ⟨.int _, H, I.tok _, ⟨_, rfl⟩, q⟩
theorem call_chr : CallR X (.builtin "chr") (fun xs H Q => ∃ i, xs = [.int i] ∧ 0 ≤ i ∧ i ≤ 1114111 ∧ Q (.str ⟨#[i.toNat]⟩) H) := by
  intro pins s σ H xs us Q I r h
  obtain ⟨i, rfl, h0, h1, q⟩ := h
  obtain ⟨u, rfl, t, rfl⟩ := vals1 r
  exact chr_of_range h0 h1 ⟨.str _, H, I.tok _, ⟨_, rfl⟩, q⟩
/-- len of a str, a bytes, a list, a tuple -/
def LenV (K : PySem.W.Frag) (x : V) (H : Hp) (n : Nat) : Prop :=
  match x with
  | .str y => y.length ≤ sizeLine ∧ n = y.length
  | .byt y => y.size ≤ sizeLine ∧ n = y.size
  | .ref p => (∃ xs, SqL K H p xs ∧ n = xs.length) ∨ ∃ xs, SqT K H p xs ∧ n = xs.length
  | _ => False
theorem call_len : CallR X (.builtin "len") (fun xs H Q => ∃ x n, xs = [x] ∧ LenV X.K x H n ∧ Q (.int n) H) := by
  intro pins s σ H xs us Q I r h
  obtain ⟨x, n, rfl, e, q⟩ := h
  obtain ⟨u, rfl, rx⟩ := vals1 r
  have hl := line63
  have hs : sizeLine = 16777216 := sizeLine_eq
  cases x with
  | str y =>
    obtain ⟨t, rfl⟩ := rx
    obtain ⟨hy, e'⟩ : y.length ≤ sizeLine ∧ n = y.length := e
    subst e'
    exact len_str (by omega) ⟨.int _, H, I.tok _, ⟨_, rfl⟩, q⟩
  | byt y =>
    obtain ⟨t, rfl⟩ := rx
    obtain ⟨hy, e'⟩ : y.size ≤ sizeLine ∧ n = y.size := e
    subst e'
    exact PySem.W.len_bytes (by omega) ⟨.int _, H, I.tok _, ⟨_, rfl⟩, q⟩
  | ref p =>
    cases rx
    have e' : (∃ xs, SqL X.K H p xs ∧ n = xs.length) ∨ ∃ xs, SqT X.K H p xs ∧ n = xs.length := e
    rcases e' with ⟨xs, hx, e'⟩ | ⟨xs, hx, e'⟩
    · subst e'
      obtain ⟨its, r', pl, hz⟩ := I.list hx
      have hlen := r'.length
      exact Calls.call_len_list pl.isList (by simp only [List.size_toArray]; omega) ⟨.int xs.length, H, I.tok _, ⟨_, by simp only [List.size_toArray]; rw [hlen]⟩, q⟩
    · subst e'
      obtain ⟨its, r', pl, hz⟩ := I.tuple hx
      have hlen := r'.length
      exact len_tuple pl (by simp only [List.size_toArray]; omega) ⟨.int xs.length, H, I.tok _, ⟨_, by simp only [List.size_toArray]; rw [hlen]⟩, q⟩
  | _ => exact (show False from e).elim
/-- divmod: a new tuple -/
theorem call_divmod : CallR X (.builtin "divmod") (fun xs H Q => ∃ i j, xs = [.int i, .int j] ∧ CDiv i j ∧ ∀ p, H p = none → Q (.ref p) (upd H p (.tup [.int (i / j), .int (i % j)]))) := by
  intro pins s σ H xs us Q I r h
  obtain ⟨i, j, rfl, ⟨h1, h2⟩, q⟩ := h
  obtain ⟨u, w', rfl, ⟨t, rfl⟩, ⟨t', rfl⟩⟩ := vals2 r
  refine divmod_int (by omega) ?_ (.inl (PyProof.noPylong_small (by omega)))
  rw [Int.fdiv_eq_ediv_of_nonneg i (by omega), Int.fmod_eq_emod_of_nonneg i (by omega)]
  have hn : H s.heap.objs.size = none := I.hok.fresh (Nat.le_refl _)
  refine ⟨.ref s.heap.objs.size, _, ?_, rfl, q _ hn⟩
  refine I.laid (fun b o e => Heap.get?_push_of_some _ e) (Nat.le_refl _) ⟨by simp only [List.length_cons, List.length_nil]; rw [sizeLine_eq]; decide, [.int (i / j) s.toks, .int (i % j) (s.toks + 1)], .cons ⟨_, rfl⟩ (.cons ⟨_, rfl⟩ .nil), ?_⟩
  exact ⟨_, Heap.get?_push_size s.heap rfl, rfl, 0, rfl⟩
end
end L2

namespace L2
open PySem PySem.Spec PyProof.Rows

/-! ### an instance, its attributes a map -/
structure ObjM (h : Heap) (x dx C : Addr) (mA : Str → Option Value) : Prop where
  obj : h.get? x = some (PySem.W.instObj C dx)
  ns : h.Ns1 dx mA
  ne : dx ≠ x

theorem lookIn_ns {h : Heap} {dx : Addr} {mA : Str → Option Value} (n : h.Ns1 dx mA) : ∃ od, h.get? dx = some od ∧ ∀ name, PySem.W.lookIn name od = some (mA name) := by
  obtain ⟨o, es, ep, ho, hd, hk, _, hm⟩ := n
  refine ⟨o, ho, fun name => ?_⟩
  have e := hm name
  unfold nsFind findBy at e
  rw [← Array.find?_toList] at e
  unfold PySem.W.lookIn
  rw [hd]
  dsimp only
  split
  · rename_i y q
    rw [q] at e
    exact congrArg some e
  · rename_i q
    rw [q] at e
    have a : es.toList.any (·.refKey) = false := by
      rw [List.any_eq_false]
      intro y hy
      obtain ⟨z, t, hkey⟩ := hk y (Array.mem_toList_iff.mp hy)
      simp [DictEntry.refKey, hkey]
    have a' : ¬ es.toList.any (·.refKey) = true := by rw [a]; exact Bool.false_ne_true
    rw [if_neg a']
    exact congrArg some e

theorem ObjM.look {h : Heap} {x dx C : Addr} {mA : Str → Option Value} (I : ObjM h x dx C mA) : ∃ od, PySem.W.InstAt h x (PySem.W.instObj C dx) C (some od) ∧ ∀ name, PySem.W.lookIn name od = some (mA name) :=
  let ⟨od, ho, hl⟩ := lookIn_ns I.ns
  ⟨od, ⟨I.obj, rfl, rfl, ho⟩, hl⟩

section
variable {prog : Program} {w : World} {A : Around} {E : Value → Shared → Prop} {s : Shared} {K : PySem.W.Frag} {x dx C f : Addr} {mA : Str → Option Value} {name : Str} {v : Value}

theorem get_map {expr : Bool} {Q : Value → Shared → Prop} (X : K.In s.heap) (I : ObjM s.heap x dx C mA) (hg : PySem.W.plainGet K C name = true) (hh : PySem.W.hasDictIn K C = true)
    (ha : PySem.W.findIn K (.ref C) name = some none) (hv : mA name = some v) (hv' : PySem.W.handedIn v = true) (h : Q v { s with toks := s.toks + 1 }) :
    wpAny (model prog w) A (getAttr (.ref x) name expr) Q E s := by
  obtain ⟨od, J, hl⟩ := I.look
  exact PySem.W.get_value X J (PySem.W.plainGet_of hg).1 (PySem.W.findObj_own hh ha rfl (by rw [hl, hv])) hv' h

theorem get_const {expr : Bool} {a : Value} {Q : Value → Shared → Prop} (X : K.In s.heap) (I : ObjM s.heap x dx C mA) (hg : PySem.W.plainGet K C name = true) (hh : PySem.W.hasDictIn K C = true)
    (ha : PySem.W.findIn K (.ref C) name = some (some a)) (hn : PySem.W.specialIn K a "__get__" = some none) (hc : PySem.W.copiedNames.contains name = false) (hv : mA name = none) (hv' : PySem.W.handedIn a = true)
    (h : Q a { s with toks := s.toks + 1 }) : wpAny (model prog w) A (getAttr (.ref x) name expr) Q E s := by
  obtain ⟨od, J, hl⟩ := I.look
  exact PySem.W.get_value X J (PySem.W.plainGet_of hg).1 (PySem.W.findObj_cls hh ha hn hv' hc (by rw [hl, hv])) hv' h

theorem get_meth {pl : Sem Bool} {Q : Value × List Value → Shared → Prop} (X : K.In s.heap) (I : ObjM s.heap x dx C mA) (hg : PySem.W.plainGet K C name = true)
    (hf : PySem.W.findIn K (.ref C) name = some (some (.ref f))) (ht : PySem.W.isFn K (.ref f) = true) (hv : mA name = none) (h : Q (.ref f, [.ref x]) s) :
    wpAny (model prog w) A (getMethod (.ref x) name pl) Q E s := by
  obtain ⟨od, J, hl⟩ := I.look
  exact PySem.W.method_fn X J (PySem.W.plainGet_of hg).1 (PySem.W.plainGet_of hg).2 hf (beq_iff_eq.mp ht) (by show (PySem.W.lookIn name od).map (·.isSome) = some false; rw [hl, hv]; rfl) h

theorem set_map {ns : List Str} {Q : Unit → Shared → Prop} (X : K.In s.heap) (I : ObjM s.heap x dx C mA)
    (hs : PySem.W.findIn K (.ref C) "__setattr__" = some (some (.builtin "object.__setattr__"))) (hp : PySem.W.plainOver K C = true) (ht : PySem.W.takerIn K C name = some none) (hh : PySem.W.hasDictIn K C = true)
    (hw : PySem.Within mA ns) (hsz : ns.length ≤ sizeLine)
    (h : ∀ h', ObjM h' x dx C (fun y => if y = name then some v else mA y) → Heap.SameBut dx s.heap h' → Q () { s with heap := h', toks := s.toks + 2 }) :
    wpAny (model prog w) A (setAttr (.ref x) name v) Q E s := by
  obtain ⟨od, J, hl⟩ := I.look
  refine PySem.W.set_plain X J hs (PySem.W.osa_open (s := { s with toks := s.toks + 1 }) (r := none) X J hp ht fun b => ?_)
  obtain ⟨cd, hc, hd'⟩ := PySem.W.any_some hh
  have hx : s.heap.get? x = some ⟨.ref C, some dx, .plain, #[]⟩ := I.obj
  refine wpAny_bind (wpAny_pure (wpAny_bind (wpAny_bind (wpAny_loadPart hx (wpAny_bind (PySem.W.Looks.here (s := { s with toks := s.toks + 1 }) (PySem.W.looks_clsIn X hc) ?_))))))
  rw [hd']
  refine wpAny_pure (a := some dx) (wpAny_bind (wpAny_pure (wpAny_bind ?_)))
  refine wpAny_nsSet1 (s := { s with toks := s.toks + 1 }) I.ns fun h' hn2 hs2 => ?_
  obtain ⟨oD, esD, epD, hoD, hdD, hcD⟩ := hn2.count (PySem.Within.cons name v hw)
  refine wpAny_bind (wpAny_lookBehind hoD (by rw [hdD]; exact pastItsLine_dict (Nat.le_trans hcD (by rw [List.length_cons]; omega))) ?_)
  exact wpAny_pure (h _ ⟨(hs2.2 _ (Ne.symm I.ne)).trans I.obj, hn2, I.ne⟩ hs2)

/-- C(..): the dict at the heap's end, the instance behind it; then its __init__ -/
theorem make_map {R : Result → Shared → Prop} {vs : List Value} {kw : List (Str × Value)} (X : K.In s.heap) (hm : PySem.W.makesIn K C = true)
    (hi : PySem.W.findIn K (.ref C) "__init__" = some (some (.ref f))) (hf : PySem.W.typeIn K (.ref f) = some (.type "function"))
    (h : codeAny (model prog w) (A.under (.builtin "type.__call__" ⟨.ref C :: vs, kw⟩)) (.call (.ref f) ⟨.ref (s.heap.objs.size + 1) :: vs, kw⟩) (PySem.W.InitBack (s.heap.objs.size + 1) R)
      { s with heap := (s.heap.push PySem.W.emptyDict).push (PySem.W.instObj C s.heap.objs.size) }) :
    codeAny (model prog w) A (.call (.ref C) ⟨vs, kw⟩) R s := by
  obtain ⟨hh, g, d, t, os⟩ := s
  exact PySem.W.make_core (PySem.W.makes_of X hm) (PySem.W.looks_findIn X hi) (fun self => PySem.W.bind_fn X self hf) (.inl rfl) h
/-- C() where there is no __init__ but object's -/
theorem make_map0 {R : Result → Shared → Prop} (X : K.In s.heap) (hm : PySem.W.makesIn K C = true)
    (hi : PySem.W.findIn K (.ref C) "__init__" = some (some (.builtin "object.__init__")))
    (hb : ∀ self, PySem.W.Looks (model prog w) s.heap (bindSpecial (.builtin "object.__init__") self) (.builtin "object.__init__", [self]))
    (h : codeAny (model prog w) (A.under (.builtin "type.__call__" ⟨[.ref C], []⟩)) (.call (.builtin "object.__init__") ⟨[.ref (s.heap.objs.size + 1)], []⟩) (PySem.W.InitBack (s.heap.objs.size + 1) R)
      { s with heap := (s.heap.push PySem.W.emptyDict).push (PySem.W.instObj C s.heap.objs.size) }) :
    codeAny (model prog w) A (.call (.ref C) ⟨[], []⟩) R s := by
  obtain ⟨hh, g, d, t, os⟩ := s
  exact PySem.W.make_core (PySem.W.makes_of X hm) (PySem.W.looks_findIn X hi) hb (.inr ⟨rfl, rfl⟩) h
end

/-! ### the attributes as a list of pairs -/
def putF (f : Str) (v : V) : List (Str × V) → List (Str × V)
  | [] => [(f, v)]
  | (g, x) :: r => if g = f then (g, v) :: r else (g, x) :: putF f v r
theorem lookup_putF (f g : Str) (v : V) : ∀ fs : List (Str × V), (putF f v fs).lookup g = if g = f then some v else fs.lookup g
  | [] => by
    show List.lookup g [(f, v)] = _
    by_cases h : g = f
    · have hb : (g == f) = true := beq_iff_eq.mpr h
      simp only [List.lookup, hb, if_pos h]
    · have hb : (g == f) = false := beq_eq_false_iff_ne.mpr h
      simp only [List.lookup, hb, if_neg h]
  | (k, x) :: r => by
    have ih := lookup_putF f g v r
    rw [show putF f v ((k, x) :: r) = (if k = f then (k, v) :: r else (k, x) :: putF f v r) from rfl]
    by_cases hk : k = f
    · rw [if_pos hk]
      by_cases h : g = k
      · have hb : (g == k) = true := beq_iff_eq.mpr h
        simp only [List.lookup, hb, if_pos (h.trans hk)]
      · have hb : (g == k) = false := beq_eq_false_iff_ne.mpr h
        simp only [List.lookup, hb, if_neg (fun e : g = f => h (e.trans hk.symm))]
    · rw [if_neg hk]
      by_cases h : g = k
      · have hb : (g == k) = true := beq_iff_eq.mpr h
        simp only [List.lookup, hb, if_neg (fun e : g = f => hk (h.symm.trans e))]
      · have hb : (g == k) = false := beq_eq_false_iff_ne.mpr h
        simp only [List.lookup, hb]
        exact ih
theorem keys_putF (f : Str) (v : V) : ∀ fs : List (Str × V), f ∈ (putF f v fs).map (·.1) ∧ ∀ g, g ∈ fs.map (·.1) → g ∈ (putF f v fs).map (·.1)
  | [] => ⟨by simp [putF], fun g h => by simp at h⟩
  | (k, x) :: r => by
    obtain ⟨i1, i2⟩ := keys_putF f v r
    rw [show putF f v ((k, x) :: r) = (if k = f then (k, v) :: r else (k, x) :: putF f v r) from rfl]
    by_cases hk : k = f
    · rw [if_pos hk]
      subst hk
      exact ⟨by simp, fun g h => by simpa using h⟩
    · rw [if_neg hk]
      refine ⟨?_, fun g h => ?_⟩
      · rw [List.map_cons]
        exact List.mem_cons_of_mem _ i1
      · rw [List.map_cons] at h ⊢
        rcases List.mem_cons.mp h with e | e
        · exact List.mem_cons.mpr (.inl e)
        · exact List.mem_cons_of_mem _ (i2 g e)
theorem length_putF (f : Str) (v : V) : ∀ fs : List (Str × V), (putF f v fs).length ≤ fs.length + 1
  | [] => by simp [putF]
  | (k, x) :: r => by
    have ih := length_putF f v r
    rw [show putF f v ((k, x) :: r) = (if k = f then (k, v) :: r else (k, x) :: putF f v r) from rfl]
    by_cases hk : k = f
    · rw [if_pos hk, List.length_cons, List.length_cons]; omega
    · rw [if_neg hk, List.length_cons, List.length_cons]; omega

theorem RelO.some_of {v : V} {o : Option Value} (r : RelO (some v) o) : ∃ u, o = some u ∧ RelV v u := by
  cases o with
  | none => exact (show False from r).elim
  | some u => exact ⟨u, rfl, r⟩
theorem RelO.none_of {o : Option Value} (r : RelO none o) : o = none := by
  cases o with
  | none => rfl
  | some u => exact (show False from r).elim
theorem handed_of {v : V} {u : Value} (r : RelV v u) : PySem.W.handedIn u = true := by
  cases v with
  | non => cases (show u = Value.none from r); rfl
  | bl b => cases (show u = Value.bool b from r); rfl
  | int i => obtain ⟨t, e⟩ := (show ∃ t, u = Value.int i t from r); cases e; rfl
  | str x => obtain ⟨t, e⟩ := (show ∃ t, u = Value.str x t from r); cases e; rfl
  | byt b => obtain ⟨t, e⟩ := (show ∃ t, u = Value.bytes b t from r); cases e; rfl
  | flt b => obtain ⟨t, e⟩ := (show ∃ t, u = Value.float b t from r); cases e; rfl
  | ref a => cases (show u = Value.ref a from r); rfl
  | ty n => cases (show u = Value.type n from r); rfl

section
variable {P : Program} {w : World} {H H' : Hp} {h h' : Heap} {a C dx : Addr} {fs fs' : List (Str × V)}
theorem ins_get (hok : HOk P w H h) (e : H a = some (.ins C dx fs)) : ∃ mA, ObjM h a dx C mA ∧ (∀ f, RelO (fs.lookup f) (mA f)) ∧ PySem.Within mA (fs.map (·.1)) ∧ fs.length ≤ 1000 ∧ H dx = some (.own a) := by
  obtain ⟨d, z, ne, ob, mA, n, r, q⟩ := (show ObjOk P w H h a (.ins C dx fs) from hok a _ e)
  exact ⟨mA, ⟨ob, n, ne⟩, r, q, z, d⟩
end

/-! ### what of the text a class must have -/
structure Cls (K : PySem.W.Frag) (C : Addr) : Prop where
  pg : PySem.W.plainGet K C Str.empty = true
  hd : PySem.W.hasDictIn K C = true
  po : PySem.W.plainOver K C = true
  sa : PySem.W.findIn K (.ref C) "__setattr__" = some (some (.builtin "object.__setattr__"))
theorem Cls.get {K : PySem.W.Frag} {C : Addr} (c : Cls K C) (f : Str) : PySem.W.plainGet K C f = true := c.pg
/-- no class of it has the name -/
def NoAttr (K : PySem.W.Frag) (C : Addr) (f : Str) : Prop := PySem.W.findIn K (.ref C) f = some none
theorem NoAttr.taker {K : PySem.W.Frag} {C : Addr} {f : Str} (n : NoAttr K C f) : PySem.W.takerIn K C f = some none := by
  unfold PySem.W.takerIn
  rw [show PySem.W.findIn K (.ref C) f = some none from n]
  rfl
/-- a constant of the class -/
structure Con (K : PySem.W.Frag) (C : Addr) (f : Str) (v : V) (u : Value) : Prop where
  at_ : PySem.W.findIn K (.ref C) f = some (some u)
  rel : RelV v u
  get : PySem.W.specialIn K u "__get__" = some none
  cp : PySem.W.copiedNames.contains f = false
/-- a method: a plain def of the class or of one above it -/
structure Meth (K : PySem.W.Frag) (C : Addr) (m : Str) (f : Addr) : Prop where
  at_ : PySem.W.findIn K (.ref C) m = some (some (.ref f))
  fn : PySem.W.isFn K (.ref f) = true
  kp : PySem.W.keepIn K (.ref f) = true

section
variable {X : Cx} {pins : List (Addr × Obj)} {σ : St} {H : Hp} {s : Shared} {a C dx : Addr} {fs : List (Str × V)} {f : Str} {v : V} {A : Around} {E : Value → Shared → Prop}

theorem getattr_ok {b : Bool} {Q : Value → Shared → Prop} (I : Inv X pins σ H s) (e : H a = some (.ins C dx fs)) (c : Cls X.K C) (n : NoAttr X.K C f) (l : fs.lookup f = some v)
    (h : ∀ u s', Inv X pins σ H s' → RelV v u → Q u s') : wpAny (model X.prog X.w) A (getAttr (.ref a) f b) Q E s := by
  obtain ⟨mA, O, r, _, _, _⟩ := ins_get I.hok e
  obtain ⟨u, hu, ru⟩ := RelO.some_of (v := v) (o := mA f) (by rw [← l]; exact r f)
  exact get_map I.kIn O (c.get f) c.hd n hu (handed_of ru) (h u _ (I.tok _) ru)

theorem getcon_ok {b : Bool} {u : Value} {Q : Value → Shared → Prop} (I : Inv X pins σ H s) (e : H a = some (.ins C dx fs)) (c : Cls X.K C) (k : Con X.K C f v u) (l : fs.lookup f = none)
    (h : ∀ s', Inv X pins σ H s' → Q u s') : wpAny (model X.prog X.w) A (getAttr (.ref a) f b) Q E s := by
  obtain ⟨mA, O, r, _, _, _⟩ := ins_get I.hok e
  have hn : mA f = none := RelO.none_of (by rw [← l]; exact r f)
  exact get_const I.kIn O (c.get f) c.hd k.at_ k.get k.cp hn (handed_of k.rel) (h _ (I.tok _))

theorem getmeth_ok {m : Str} {g : Addr} {pl : Sem Bool} {Q : Value × List Value → Shared → Prop} (I : Inv X pins σ H s) (e : H a = some (.ins C dx fs)) (c : Cls X.K C) (k : Meth X.K C m g) (l : fs.lookup m = none)
    (h : Q (.ref g, [.ref a]) s) : wpAny (model X.prog X.w) A (getMethod (.ref a) m pl) Q E s := by
  obtain ⟨mA, O, r, _, _, _⟩ := ins_get I.hok e
  have hn : mA m = none := RelO.none_of (by rw [← l]; exact r m)
  exact get_meth I.kIn O (c.get m) k.at_ k.fn hn h

theorem setattr_ok {y : V} {u : Value} {Q : Unit → Shared → Prop} (I : Inv X pins σ H s) (e : H a = some (.ins C dx fs)) (c : Cls X.K C) (n : NoAttr X.K C f) (hl : fs.length < 1000) (ry : RelV y u)
    (h : ∀ s', Inv X pins σ (upd H a (.ins C dx (putF f y fs))) s' → Q () s') : wpAny (model X.prog X.w) A (setAttr (.ref a) f u) Q E s := by
  obtain ⟨mA, O, r, wi, _, ho⟩ := ins_get I.hok e
  have hz : (fs.map (·.1)).length ≤ sizeLine := by rw [List.length_map, sizeLine_eq]; omega
  refine set_map I.kIn O c.sa c.po n.taker c.hd wi hz fun h' O' sb => h _ ?_
  have hd : ∃ o, h'.get? dx = some o := let ⟨o, _, _, e', _⟩ := O'.ns; ⟨o, e'⟩
  refine I.write (x := a) (e := dx) (by rw [e]; exact True.intro) (.inr ho) (fun b q hb z => (sb.2 b hb).trans z) hd ?_
  refine ⟨by rw [upd_ne O.ne]; exact ho, ?_, O.ne, O'.obj, _, O'.ns, fun g => ?_, fun g hg => ?_⟩
  · have := length_putF f y fs; omega
  · show RelO ((putF f y fs).lookup g) (if g = f then some u else mA g)
    rw [lookup_putF]
    by_cases q : g = f
    · rw [if_pos q, if_pos q]; exact ry
    · rw [if_neg q, if_neg q]; exact r g
  · by_cases q : g = f
    · rw [q]; exact (keys_putF f y fs).1
    · refine (keys_putF f y fs).2 g (wi g fun z => hg ?_)
      show (if g = f then some u else mA g) = none
      rw [if_neg q]; exact z

/-- a new instance, tracked, without attributes -/
theorem Inv.made (I : Inv X pins σ H s) : Inv X pins σ (upd (upd H s.heap.objs.size (.own (s.heap.objs.size + 1))) (s.heap.objs.size + 1) (.ins C s.heap.objs.size []))
    { s with heap := (s.heap.push PySem.W.emptyDict).push (PySem.W.instObj C s.heap.objs.size) } := by
  have e1 : (s.heap.push PySem.W.emptyDict).get? s.heap.objs.size = some PySem.W.emptyDict := Heap.get?_push_size s.heap rfl
  have e2 : ((s.heap.push PySem.W.emptyDict).push (PySem.W.instObj C s.heap.objs.size)).get? (s.heap.objs.size + 1) = some (PySem.W.instObj C s.heap.objs.size) := by
    have := Heap.get?_push_size (s.heap.push PySem.W.emptyDict) (o := PySem.W.instObj C s.heap.objs.size) rfl
    rwa [Heap.size_push] at this
  have e3 : (s.heap.push PySem.W.emptyDict).Ns s.heap.objs.size (fun _ => none) := ⟨PySem.W.emptyDict, #[], _, e1, rfl, (fun e he => absurd he (by simp)), fun _ => rfl⟩
  have I1 := I.laid (a := s.heap.objs.size) (o := .own (s.heap.objs.size + 1)) (h' := s.heap.push PySem.W.emptyDict) (t' := s.toks) (fun b u q => Heap.get?_push_of_some _ q) (Nat.le_refl _) ⟨_, e1⟩
  refine I1.laid (a := s.heap.objs.size + 1) (o := .ins C s.heap.objs.size []) (t' := s.toks) (fun b u q => Heap.get?_push_of_some _ q) (Nat.le_of_eq (Heap.size_push _ _)) ?_
  have ne : s.heap.objs.size ≠ s.heap.objs.size + 1 := Nat.ne_of_lt (Nat.lt_succ_self _)
  refine ⟨by rw [upd_ne ne, upd_same], Nat.zero_le _, ne, e2, fun _ => none, (Heap.Ns1.of_empty e3).at fun o q => Heap.get?_push_of_some _ q, fun _ => True.intro, fun y hy => absurd rfl hy⟩

/-- e.f where nothing but the object is asked: through attributeBase (super) and the last hold -/
theorem attr_of {prog : Program} {w : World} {env : Env} {e : Expr} {f : Str} {pos : Pos} {s : Shared} {Q : Value → Shared → Prop} (hb : attributeBase e f env (eval e env) = eval e env)
    (h : wpAny (model prog w) A (eval e env) (fun o s₁ => wpAny (model prog w) A (getAttr o f true) Q E s₁) E s) : wpAny (model prog w) A (eval (.Attribute e f pos) env) Q E s :=
  Attribute_any_ h (by rw [arm_eval_Attribute, hb])
end

/-! ### readings and rules -/
/-- e.f, an attribute of the instance -/
def tFld (K : PySem.W.Frag) (ta : TE) (f : Str) : TE := fun σ H Q => ta σ H fun x H1 => ∃ a C dx fs v, x = .ref a ∧ H1 a = some (.ins C dx fs) ∧ Cls K C ∧ NoAttr K C f ∧ fs.lookup f = some v ∧ Q v H1
/-- e.f, a constant of the class -/
def tCon (K : PySem.W.Frag) (ta : TE) (f : Str) : TE := fun σ H Q => ta σ H fun x H1 => ∃ a C dx fs v u, x = .ref a ∧ H1 a = some (.ins C dx fs) ∧ Cls K C ∧ Con K C f v u ∧ fs.lookup f = none ∧ Q v H1
/-- e.f = value -/
def sFld (K : PySem.W.Frag) (ta tv : TE) (f : Str) : TS := fun D σ H => tv σ H fun y H1 => ta σ H1 fun x H2 => ∃ a C dx fs, x = .ref a ∧ H2 a = some (.ins C dx fs) ∧ Cls K C ∧ NoAttr K C f ∧ fs.length < 1000 ∧
  D.nx σ (upd H2 a (.ins C dx (putF f y fs)))
/-- an augmented operator on two values -/
def InOp (X : Cx) (op : Operator) (rd : V → V → Hp → VK → Prop) : Prop :=
  ∀ (pins : List (Addr × Obj)) (s : Shared) (σ : St) (H : Hp) (x y : V) (u v : Value) (Q : VK), Inv X pins σ H s → RelV x u → RelV y v → rd x y H Q → wpAny (model X.prog X.w) X.A (inplaceOp op u v) (EP X pins σ Q) X.xe s
/-- e.f op= value -/
def sFldAug (K : PySem.W.Frag) (ta tv : TE) (rd : V → V → Hp → VK → Prop) (f : Str) : TS := fun D σ H => ta σ H fun x H1 => ∃ a C dx fs v, x = .ref a ∧ H1 a = some (.ins C dx fs) ∧ Cls K C ∧ NoAttr K C f ∧ fs.lookup f = some v ∧
  tv σ H1 fun y H2 => rd v y H2 fun z H3 => ∃ dx' fs', H3 a = some (.ins C dx' fs') ∧ fs'.length < 1000 ∧ D.nx σ (upd H3 a (.ins C dx' (putF f z fs')))

section
variable {X : Cx} {o e value : Expr} {f : Str} {pos pos' tpos : Pos} {ta tv : TE}
theorem pe_fld (he : PE X e ta) (hb : attributeBase e f X.env (eval e X.env) = eval e X.env) : PE X (.Attribute e f pos) (tFld X.K ta f) := by
  intro pins s σ H Q I h
  refine attr_of hb (thn (he pins s σ H _ I h) fun u s1 ⟨x, H1, I1, rx, a, C, dx, fs, v, ex, ea, c, n, l, q⟩ => ?_)
  subst ex
  obtain rfl : u = Value.ref a := rx
  exact getattr_ok I1 ea c n l fun u' s2 I2 ru => ⟨v, H1, I2, ru, q⟩
theorem pe_con (he : PE X e ta) (hb : attributeBase e f X.env (eval e X.env) = eval e X.env) : PE X (.Attribute e f pos) (tCon X.K ta f) := by
  intro pins s σ H Q I h
  refine attr_of hb (thn (he pins s σ H _ I h) fun u s1 ⟨x, H1, I1, rx, a, C, dx, fs, v, u0, ex, ea, c, k, l, q⟩ => ?_)
  subst ex
  obtain rfl : u = Value.ref a := rx
  exact getcon_ok I1 ea c k l fun s2 I2 => ⟨v, H1, I2, k.rel, q⟩
theorem ps_fld (ha : PE X o ta) (hv : PE X value tv) (hs : swapsWith value (some (.Attribute o f pos')) pos.line X.env = pure false) : PS X (.Assign [.Attribute o f pos'] value pos) (sFld X.K ta tv f) := by
  intro pins s σ H D I h
  refine plainObj_wpAny_Assign_Attribute (thn (hv pins s σ H _ I h) fun u s1 ⟨y, H1, I1, ry, q⟩ => thn (ha pins s1 σ H1 _ I1 q) fun ov s2 ⟨x, H2, I2, rx, a, C, dx, fs, ex, ea, c, n, l, q2⟩ => ?_) hs
  subst ex
  obtain rfl : ov = Value.ref a := rx
  exact setattr_ok I2 ea c n l ry fun s3 I3 => ⟨σ, _, I3, q2⟩
theorem ps_fldaug {op : Operator} {rd : V → V → Hp → VK → Prop} (ha : PE X o ta) (hv : PE X value tv) (hop : InOp X op rd) : PS X (.AugAssign (.Attribute o f tpos) op value pos) (sFldAug X.K ta tv rd f) := by
  intro pins s σ H D I h
  refine wpAny_AugAssign_AttributeAny (thn (ha pins s σ H _ I h) fun ov s1 ⟨x, H1, I1, rx, a, C, dx, fs, v, ex, ea, c, n, l, q⟩ => ?_)
  subst ex
  obtain rfl : ov = Value.ref a := rx
  refine getattr_ok I1 ea c n l fun u s2 I2 ru => thn (hv pins s2 σ H1 _ I2 q) fun w3 s3 ⟨y, H2, I3, ry, q3⟩ => thn (hop pins s3 σ H2 v y u w3 _ I3 ru ry q3) fun w4 s4 ⟨z, H3, I4, rz, dx', fs', ea', l', q4⟩ => ?_
  exact setattr_ok I4 ea' c n l' rz fun s5 I5 => ⟨σ, _, I5, q4⟩
def rAdd : V → V → Hp → VK → Prop := fun x y H Q => ∃ i j, x = .int i ∧ y = .int j ∧ Q (.int (i + j)) H
def rSub : V → V → Hp → VK → Prop := fun x y H Q => ∃ i j, x = .int i ∧ y = .int j ∧ Q (.int (i - j)) H
theorem in_add : InOp X .Add rAdd := by
  rintro pins s σ H x y u v Q I rx ry ⟨i, j, rfl, rfl, q⟩
  obtain ⟨t, rfl⟩ := (show ∃ t, u = Value.int i t from rx)
  obtain ⟨t', rfl⟩ := (show ∃ t', v = Value.int j t' from ry)
  exact PyProof.Rows.iadd_int ⟨.int (i + j), H, I.tok _, ⟨_, rfl⟩, q⟩
theorem in_sub : InOp X .Sub rSub := by
  rintro pins s σ H x y u v Q I rx ry ⟨i, j, rfl, rfl, q⟩
  obtain ⟨t, rfl⟩ := (show ∃ t, u = Value.int i t from rx)
  obtain ⟨t', rfl⟩ := (show ∃ t', v = Value.int j t' from ry)
  exact PyProof.Rows.isub_int ⟨.int (i - j), H, I.tok _, ⟨_, rfl⟩, q⟩

/-- what is between an instance and its method: the tree of a method call -/
theorem methcall_of {pl : Sem Bool} {m : Str} {apos : Pos} {args : List Expr} {pins : List (Addr × Obj)} {s : Shared} {σ : St} {H : Hp} {Q : Value → Shared → Prop} {te : TE} (he : PE X e te) (I : Inv X pins σ H s)
    (h : te σ H fun x H1 => ∃ a C dx fs g, x = .ref a ∧ H1 a = some (.ins C dx fs) ∧ Cls X.K C ∧ Meth X.K C m g ∧ fs.lookup m = none ∧
      ∀ s1, Inv X pins σ H1 s1 → wpAny (model X.prog X.w) X.A (callWith pos (.ref g) [.ref a] (backTo pos (starEach args X.env)) (backToKw pos (keywordEach [] X.env))) Q X.xe s1)
    (ht : eval (.Call (.Attribute e m apos) args [] pos) X.env = (do
      let ov ← eval e X.env
      standAt apos.atName
      let (f, first) ← holding [ov] (getMethod ov m pl)
      callWith pos f first (backTo pos (starEach args X.env)) (backToKw pos (keywordEach [] X.env)))) :
    wpAny (model X.prog X.w) X.A (eval (.Call (.Attribute e m apos) args [] pos) X.env) Q X.xe s := by
  refine PySem.W.methodCall_KW (pl := pl) (thn (he pins s σ H _ I h) fun u s1 ⟨x, H1, I1, rx, a, C, dx, fs, g, ex, ea, c, k, l, q⟩ => ?_) ht
  subst ex
  obtain rfl : u = Value.ref a := rx
  exact getmeth_ok I1 ea c k l (q s1 I1)
end

/-! ### isinstance -/
section
variable {X : Cx} {pins : List (Addr × Obj)} {σ : St} {H : Hp} {s : Shared} {A : Around} {E : Value → Shared → Prop} {Q : Value → Shared → Prop} {c : Value} {b : Bool}
/-- the type of a value, as the fragment's deciders take it; for an instance its class -/
inductive TyOf (K : PySem.W.Frag) (H : Hp) : V → Value → Prop where
  | non : TyOf K H .non (.type "NoneType")
  | bl (x : Bool) : TyOf K H (.bl x) (.type "bool")
  | int (i : Int) : TyOf K H (.int i) (.type "int")
  | str (x : Str) : TyOf K H (.str x) (.type "str")
  | flt (x : UInt64) : TyOf K H (.flt x) (.type "float")
  | lst {a : Addr} {xs : List V} (e : H a = some (.lst xs)) : TyOf K H (.ref a) (.type "list")
  | frz {a : Addr} {o : Obj} {xs : List V} (e : H a = some (.frz o (.lst xs))) : TyOf K H (.ref a) (.type "list")
  | tup {a : Addr} {xs : List V} (e : H a = some (.tup xs)) : TyOf K H (.ref a) (.type "tuple")
  | dK {a : Addr} {kvs : List (Key × V)} (e : H a = some (.dK kvs)) : TyOf K H (.ref a) (.type "dict")
  | dT {a : Addr} {kvs : List (List Key × V)} (e : H a = some (.dT kvs)) : TyOf K H (.ref a) (.type "dict")
  | ins {a C dx : Addr} {fs : List (Str × V)} (e : H a = some (.ins C dx fs)) (cl : Cls K C) (ha : PySem.W.findIn K (.ref C) "__class__" = some (some (.builtin "object.__class__")))
      (hn : PySem.W.specialIn K (.builtin "object.__class__") "__get__" = some (some (.builtin "getset_descriptor.__get__"))) (htk : PySem.W.takesIn K (.builtin "object.__class__") = some true)
      (hm : PySem.W.mroIn K C (.type "object") = some true) : TyOf K H (.ref a) (.ref C)
/-- isinstance(x, c) for one class c, a built-in or an own one: kitOne's answer -/
theorem isinst_ok {x : V} {u t : Value} (I : Inv X pins σ H s) (rx : RelV x u) (ty : TyOf X.K H x t) (e : PySem.W.kitOne X.K t c = some b) (h : ∀ tk, Q (.bool b) { s with toks := tk }) :
    wpAny (model X.prog X.w) A (call (.builtin "isinstance") [u, c]) Q E s := by
  cases ty with
  | non => cases (show u = Value.none from rx); exact PySem.W.kia_one PySem.W.kitx_none I.kIn True.intro e (fun z => nomatch z) h
  | bl y => cases (show u = Value.bool y from rx); exact PySem.W.kia_one PySem.W.kitx_bool I.kIn True.intro e (fun z => nomatch z) h
  | int i => obtain ⟨t, q⟩ := (show ∃ t, u = Value.int i t from rx); cases q; exact PySem.W.kia_one PySem.W.kitx_int I.kIn True.intro e (fun z => nomatch z) h
  | str y => obtain ⟨t, q⟩ := (show ∃ t, u = Value.str y t from rx); cases q; exact PySem.W.kia_one PySem.W.kitx_str I.kIn True.intro e (fun z => nomatch z) h
  | flt y => obtain ⟨t, q⟩ := (show ∃ t, u = Value.float y t from rx); cases q; exact PySem.W.kia_one PySem.W.kitx_float I.kIn True.intro e (fun z => nomatch z) h
  | @lst a xs ea =>
    cases (show u = Value.ref a from rx)
    obtain ⟨_, _, n, _, h1⟩ := (show ObjOk X.prog X.w H s.heap a (.lst xs) from I.hok a _ ea)
    exact PySem.W.kia_one PySem.W.kitx_list I.kIn ⟨_, h1, rfl⟩ e (fun z => nomatch z) h
  | @frz a ob xs ea =>
    cases (show u = Value.ref a from rx)
    obtain ⟨_, _, _, n, _, h1⟩ := (show ObjOk X.prog X.w H s.heap a (.frz ob (.lst xs)) from I.hok a _ ea)
    exact PySem.W.kia_one PySem.W.kitx_list I.kIn ⟨_, h1, rfl⟩ e (fun z => nomatch z) h
  | @tup a xs ea =>
    cases (show u = Value.ref a from rx)
    obtain ⟨_, _, _, p⟩ := (show ObjOk X.prog X.w H s.heap a (.tup xs) from I.hok a _ ea)
    obtain ⟨o, h1, h2, _⟩ := p
    exact PySem.W.kia_one PySem.W.kitx_tuple I.kIn ⟨o, h1, h2⟩ e (fun z => nomatch z) h
  | @dK a kvs ea =>
    cases (show u = Value.ref a from rx)
    obtain ⟨_, _, vs, _, p⟩ := (show ObjOk X.prog X.w H s.heap a (.dK kvs) from I.hok a _ ea)
    obtain ⟨o, es, ep, h1, h2, _⟩ := p
    exact PySem.W.kia_one PySem.W.kitx_dict I.kIn ⟨o, h1, h2.1⟩ e (fun z => nomatch z) h
  | @dT a kvs ea =>
    cases (show u = Value.ref a from rx)
    obtain ⟨_, _, xs, _, o, es, ep, h1, h2, _⟩ := (show ObjOk X.prog X.w H s.heap a (.dT kvs) from I.hok a _ ea)
    exact PySem.W.kia_one PySem.W.kitx_dict I.kIn ⟨o, h1, h2.1⟩ e (fun z => nomatch z) h
  | @ins a C dx fs ea cl ha hn htk hm =>
    cases (show u = Value.ref a from rx)
    obtain ⟨mA, O, _⟩ := ins_get I.hok ea
    obtain ⟨od, J, _⟩ := O.look
    exact PySem.W.kia_one (PySem.W.kitx_own (cl.get _) cl.hd ha hn htk hm) I.kIn J e (fun z => nomatch z) h
end
end L2

namespace L2
open PySem PySem.Spec PyProof.Rows

/-! ### room -/
structure Room (k : Nat) (A : Around) : Prop where
  hd : A.handled = none
  dp : A.depth + 3 * k + 5 < recursionLimit
  un : A.units + 16 * k + 200 < cLine
theorem Room.mono {j k : Nat} {A : Around} (r : Room k A) (h : j ≤ k) : Room j A := ⟨r.hd, by have := r.dp; omega, by have := r.un; omega⟩
theorem Room.deeper {k : Nat} {A : Around} (r : Room (k + 1) A) (env : Env) : Room k (A.deeper env) :=
  ⟨r.hd, by have := r.dp; show A.depth + 1 + 3 * k + 5 < _; omega, by have := r.un; show A.units + 3 + 16 * k + 200 < _; omega⟩
theorem Room.in1 {k : Nat} {A : Around} (r : Room (k + 1) A) : Room k A.in1 :=
  ⟨r.hd, by have := r.dp; show A.depth + 3 * k + 5 < _; omega, by have := r.un; show A.units + 1 + 16 * k + 200 < _; omega⟩
theorem make_depth {A : Around} {C : Addr} {us : List Value} {kw : List (Str × Value)} : (A.under (.builtin "type.__call__" ⟨.ref C :: us, kw⟩)).depth = A.depth + 1 := by
  first | rfl | simp [Around.under, Code.weight, Code.isCreation, Code.isGuard, Code.isCaller, Code.frames, Code.isFrame, guardIds]
theorem make_units {A : Around} {C : Addr} {us : List Value} {kw : List (Str × Value)} : (A.under (.builtin "type.__call__" ⟨.ref C :: us, kw⟩)).units = A.units + 1 := by
  first | rfl | simp [Around.under, Code.cUnits, Code.frames, Code.isFrame]
theorem Room.make {k : Nat} {A : Around} (r : Room (k + 1) A) (C : Addr) (us : List Value) (kw : List (Str × Value)) : Room k (A.under (.builtin "type.__call__" ⟨.ref C :: us, kw⟩)) :=
  ⟨r.hd, by have := r.dp; rw [make_depth]; omega, by have := r.un; rw [make_units]; omega⟩
theorem Room.depth {k : Nat} {A : Around} (r : Room k A) : A.depth < recursionLimit := by have := r.dp; omega
theorem Room.units {k : Nat} {A : Around} (r : Room k A) : A.units + 64 < cLine := by have := r.un; omega
theorem Room.units0 {k : Nat} {A : Around} (r : Room k A) : A.units < cLine := by have := r.un; omega

/-! ### argument lists and displays -/
def tNil : TA := fun _ H Q => Q [] H
def tCons (ta : TE) (tr : TA) : TA := fun σ H Q => ta σ H fun x H1 => tr σ H1 fun xs H2 => Q (x :: xs) H2
section
variable {X : Cx} {e : Expr} {es : List Expr} {te : TE} {t : TA} {pos : Pos}
theorem pa_nil : PA X [] tNil := fun _ _ _ _ H Q I h => Calls.spliced_nil ⟨[], H, I, .nil, h⟩
theorem pa_cons (ha : PE X e te) (hr : PA X es t) (hs : starEach (e :: es) X.env = (false, eval e X.env) :: starEach es X.env := by rfl) : PA X (e :: es) (tCons te t) := by
  intro pos pins s σ H Q I h
  rw [hs]
  show wpAny _ _ (spliced ((false, eval e X.env) :: backTo pos (starEach es X.env))) _ _ s
  refine Calls.spliced_cons (thn (ha pins s σ H _ I h) fun u s1 ⟨x, H1, I1, r1, q1⟩ => ?_)
  exact thn (hr pos pins s1 σ H1 _ I1 q1) fun us s2 ⟨xs, H2, I2, r2, q2⟩ => ⟨x :: xs, H2, I2, .cons r1 r2, q2⟩

/-- a tuple, a list of written items -/
def tTup (t : TA) : TE := fun σ H Q => t σ H fun xs H1 => xs.length ≤ sizeLine ∧ ∀ p, H1 p = none → Q (.ref p) (upd H1 p (.tup xs))
def tLst (t : TA) : TE := fun σ H Q => t σ H fun xs H1 => xs.length ≤ sizeLine ∧ ∀ p, H1 p = none → Q (.ref p) (upd H1 p (.lst xs))
theorem pe_tup {x1} (h : PA X es t) : PE X (.Tuple es x1 pos) (tTup t) := by
  intro pins s σ H Q I hq
  refine wpAny_Tuple_spliced (thn (h pos pins s σ H _ I hq) fun us s1 ⟨xs, H1, I1, r, z, q⟩ => ⟨by rw [← r.length]; exact z, ?_⟩)
  have hf : H1 s1.heap.objs.size = none := I1.hok.fresh (Nat.le_refl _)
  refine ⟨.ref s1.heap.objs.size, upd H1 s1.heap.objs.size (.tup xs), I1.laid (t' := s1.toks) (fun b u e => Heap.get?_push_of_some _ e) (Nat.le_refl _) ?_, rfl, q _ hf⟩
  exact ⟨z, us, r, ⟨_, Heap.get?_push_size _ rfl, rfl, _, rfl⟩⟩
theorem pe_lst (h : PA X es t) : PE X (.List es pos) (tLst t) := by
  intro pins s σ H Q I hq
  refine wpAny_List_spliced (thn (h pos pins s σ H _ I hq) fun us s1 ⟨xs, H1, I1, r, z, q⟩ => ⟨by rw [← r.length]; exact z, ?_⟩)
  have hf : H1 s1.heap.objs.size = none := I1.hok.fresh (Nat.le_refl _)
  refine ⟨.ref s1.heap.objs.size, upd H1 s1.heap.objs.size (.lst xs), I1.laid (t' := s1.toks) (fun b u e => Heap.get?_push_of_some _ e) (Nat.le_refl _) ?_, rfl, q _ hf⟩
  exact ⟨z, us, 0, r, Heap.get?_push_size _ rfl⟩
end

/-! ### what a def promises -/
/-- a def's promise: the bound arguments in the parameters' order, the heap, the wanted end, the wanted exception -/
abbrev Sp := List V → Hp → VK → XK → Prop
/-- how an exception lies behind a call (file 08 gives it): the callers' frames, abstract heap and state ahead of the call, the wish, the exception, the state -/
abbrev CXT := List Env → Hp → Shared → XK → Value → Shared → Prop

/-- the state at a call -/
structure Env0 (P : Program) (w : World) (K : PySem.W.Frag) (mg : Str → Option Value) (base : Heap) (A : Around) (outer : List Env) (s : Shared) (H : Hp) : Prop where
  frames : A.frames = some outer
  mod : Mod K mg base
  bs : ∀ b o, base.get? b = some o → s.heap.get? b = some o ∧ H b = none
  bsz : base.objs.size ≤ s.heap.objs.size
  funs : s.heap.FunFrames base outer
  frf : ∀ b ∈ frs outer, H b = none
  hok : HOk P w H s.heap
  bare : AllBare s.gens
/-- a call's end -/
def CE (outer : List Env) (P : Program) (w : World) (H : Hp) (s : Shared) (Q : VK) (u : Value) (s' : Shared) : Prop :=
  ∃ v H', s'.os = s.os ∧ AllBare s'.gens ∧ Un (frs outer) [] H H' s.heap s'.heap ∧ HOk P w H' s'.heap ∧ RelV v u ∧ Q v H'
def CR (CX : CXT) (outer : List Env) (P : Program) (w : World) (H : Hp) (s : Shared) (Q : VK) (E : XK) (r : Result) (s' : Shared) : Prop :=
  match r with
  | .ok (.ret u) => CE outer P w H s Q u s'
  | .ok _ => False
  | .error e => CX outer H s E e s'
structure FnOk (P : Program) (w : World) (K : PySem.W.Frag) (mg : Str → Option Value) (base : Heap) (CX : CXT) (k : Nat) (f : Addr) (fd : FuncData) (ps : List Str) (sp : Sp) : Prop where
  len : ∀ vs H Q E, sp vs H Q E → vs.length = ps.length
  run : ∀ (A : Around) (outer : List Env) (s : Shared) (H : Hp) (args : Args) (us : List Value) (vs : List V) (Q : VK) (E : XK), Room k A → Env0 P w K mg base A outer s H → BindsTo s fd args (ps.zip us) → Vals vs us → sp vs H Q E →
    codeAny (model P w) A (.call (.ref f) args) (CR CX outer P w H s Q E) s
theorem FnOk.mono {P : Program} {w : World} {K : PySem.W.Frag} {mg : Str → Option Value} {base : Heap} {CX : CXT} {j k : Nat} {f : Addr} {fd : FuncData} {ps : List Str} {sp : Sp} (F : FnOk P w K mg base CX j f fd ps sp) (h : j ≤ k) :
    FnOk P w K mg base CX k f fd ps sp := ⟨F.len, fun A outer s H args us vs Q E hr => F.run A outer s H args us vs Q E (hr.mono h)⟩
/-- a weaker promise -/
theorem FnOk.imp {P : Program} {w : World} {K : PySem.W.Frag} {mg : Str → Option Value} {base : Heap} {CX : CXT} {k : Nat} {f : Addr} {fd : FuncData} {ps : List Str} {sp sp' : Sp} (F : FnOk P w K mg base CX k f fd ps sp)
    (h : ∀ vs H Q E, sp' vs H Q E → sp vs H Q E) : FnOk P w K mg base CX k f fd ps sp' :=
  ⟨fun vs H Q E q => F.len vs H Q E (h _ _ _ _ q), fun A outer s H args us vs Q E hr he hb hv hs => F.run A outer s H args us vs Q E hr he hb hv (h _ _ _ _ hs)⟩

theorem Env0.make {P : Program} {w : World} {K : PySem.W.Frag} {mg : Str → Option Value} {base : Heap} {A : Around} {outer : List Env} {s : Shared} {H : Hp} (e : Env0 P w K mg base A outer s H) (C : Addr) (us : List Value) (kw : List (Str × Value)) :
    Env0 P w K mg base (A.under (.builtin "type.__call__" ⟨.ref C :: us, kw⟩)) outer s H := ⟨by first | exact e.frames | (simpa [Around.under, Code.envs, Code.isFrame, pushEnvs] using e.frames), e.mod, e.bs, e.bsz, e.funs, e.frf, e.hok, e.bare⟩
theorem Env0.in1 {P : Program} {w : World} {K : PySem.W.Frag} {mg : Str → Option Value} {base : Heap} {A : Around} {outer : List Env} {s : Shared} {H : Hp} (e : Env0 P w K mg base A outer s H) :
    Env0 P w K mg base A.in1 outer s H := ⟨e.frames, e.mod, e.bs, e.bsz, e.funs, e.frf, e.hok, e.bare⟩

section
variable {X : Cx} {pins : List (Addr × Obj)} {σ : St} {H : Hp} {s s' : Shared}
/-- from a body: what a callee wants -/
theorem Inv.env0 (I : Inv X pins σ H s) : Env0 X.prog X.w X.K X.mg X.base X.A X.stack s H :=
  ⟨I.ok.frames, I.ok.mod, I.bs, Nat.le_trans I.ok.bsz I.sz, I.stack, I.stkFree, I.hok, I.bare⟩
/-- behind a call -/
theorem Inv.after {Q : VK} {u : Value} (I : Inv X pins σ H s) (h : CE X.stack X.prog X.w H s Q u s') : EP X pins σ Q u s' := by
  obtain ⟨v, H', os, bare, un, hok, r, q⟩ := h
  obtain ⟨hh, g, d, t, os'⟩ := s'
  obtain rfl : os' = s.os := os
  exact ⟨v, H', I.call (h' := hh) (g' := g) (d' := d) (t' := t) (ch := []) un hok bare (fun b z => absurd z (by simp)), r, q⟩
end

/-! ### calls -/
/-- f(..): the written arguments, then the defaults dvs; E: what is wanted of an exception -/
def tCall (sp : Sp) (dvs : List V) (E : XK) (t : TA) : TE := fun σ H Q => t σ H fun vs H1 => sp (vs ++ dvs) H1 Q E
/-- o.m(..) of an instance of the class at C -/
def tMeth (C : Addr) (m : Str) (sp : Sp) (dvs : List V) (E : XK) (ta : TE) (t : TA) : TE := fun σ H Q => ta σ H fun x H1 => ∃ a dx fs, x = .ref a ∧ H1 a = some (.ins C dx fs) ∧ fs.lookup m = none ∧
  t σ H1 fun vs H2 => sp (x :: (vs ++ dvs)) H2 Q E
/-- C(..): a new instance and its dict, then __init__ -/
def tMake (C : Addr) (sp : Sp) (dvs : List V) (E : XK) (t : TA) : TE := fun σ H Q => t σ H fun vs H1 => ∀ x dx, H1 x = none → H1 dx = none → dx ≠ x →
  sp (.ref x :: (vs ++ dvs)) (upd (upd H1 dx (.own x)) x (.ins C dx [])) (fun v H2 => v = .non ∧ Q (.ref x) H2) E

/-- how the parameters are bound: us the positional arguments, kw the keywords' values by name, ds the defaults that fill up -/
def Binds (K : PySem.W.Frag) (fd : FuncData) (ps : List Str) (ds : List Value) : Prop :=
  ∀ (s : Shared) (us : List Value), K.In s.heap → (us ++ ds).length = ps.length → BindsTo s fd ⟨us, []⟩ (ps.zip (us ++ ds))
/-- every parameter is given -/
theorem Binds.all {K : PySem.W.Frag} {fd : FuncData} {ps : List Str} (h : ∀ us : List Value, us.length = ps.length → bindArgs fd ⟨us, []⟩ = pure (ps.zip us)) : Binds K fd ps [] := fun s us _ hl => by
  rw [List.append_nil] at hl ⊢
  exact .of_eq (h us hl)

/-- an exception of a callee reaches what this body wants of exceptions -/
def Passes (CX : CXT) (X : Cx) (E : XK) : Prop := ∀ (pins : List (Addr × Obj)) (σ : St) (H : Hp) (s : Shared) (e : Value) (s' : Shared), Inv X pins σ H s → CX X.stack H s E e s' → X.xe e s'

section
variable {X : Cx} {CX : CXT} {k : Nat} {f C : Addr} {fd : FuncData} {ps : List Str} {sp : Sp} {dvs : List V} {ds : List Value} {E : XK} {x m : Str} {p pos apos : Pos} {e o : Expr} {es : List Expr} {ta : TE} {t : TA}

/-- the callee runs -/
theorem run_fn {pins : List (Addr × Obj)} {σ : St} {H : Hp} {s : Shared} {Q : VK} {us : List Value} {vs : List V} (F : FnOk X.prog X.w X.K X.mg X.base CX k f fd ps sp) (hr : Room k X.A) (hb : Binds X.K fd ps ds) (hd : Vals dvs ds) (hx : Passes CX X E)
    (I : Inv X pins σ H s) (r : Vals vs us) (h : sp (vs ++ dvs) H Q E) : wpAny (model X.prog X.w) X.A (call (.ref f) us) (EP X pins σ Q) X.xe s := by
  have r2 : Vals (vs ++ dvs) (us ++ ds) := r.append hd
  have hl : (us ++ ds).length = ps.length := by rw [← r2.length]; exact F.len _ _ _ _ h
  refine wpAny_call (codeAny_mono (F.run X.A X.stack s H ⟨us, []⟩ (us ++ ds) (vs ++ dvs) Q E hr I.env0 (hb s us I.kIn hl) r2 h) fun r s' hq => ?_)
  cases r with
  | error e => exact hx pins σ H s e s' I hq
  | ok fl =>
    cases fl with
    | ret u => exact I.after hq
    | next => exact False.elim hq
    | brk => exact False.elim hq
    | cont => exact False.elim hq

theorem pe_call (F : FnOk X.prog X.w X.K X.mg X.base CX k f fd ps sp) (hr : Room k X.A) (hg : Gl X x) (hm : X.mg x = some (.ref f)) (hk : PySem.W.keepIn X.K (.ref f) = true) (hb : Binds X.K fd ps ds) (hd : Vals dvs ds) (hx : Passes CX X E)
    (ha : PA X (e :: es) t) (hdb : (x == ("__debug__" : Str)) = false := by decide) (he : starEach (e :: es) X.env = (false, eval e X.env) :: starEach es X.env := by rfl) (hpl : (backTo pos (starEach es X.env)).any (·.1) = false := by rfl) :
    PE X (.Call (.Name x p) (e :: es) [] pos) (tCall sp dvs E t) := by
  intro pins s σ H Q I h
  refine wpAny_Call_Name_kw (ld_glob I hg hm ?_ hdb)
  refine PySem.W.callWith_K (h₀ := X.base) I.ok.mod.kin hk (thn (ha pos pins s σ H _ I h) fun us s1 ⟨vs, H1, I1, r, q⟩ => ⟨I1.kIn, ?_⟩) he hpl
  exact run_fn F hr hb hd hx I1 r q
theorem pe_call0 (F : FnOk X.prog X.w X.K X.mg X.base CX k f fd ps sp) (hr : Room k X.A) (hg : Gl X x) (hm : X.mg x = some (.ref f)) (hk : PySem.W.keepIn X.K (.ref f) = true) (hb : Binds X.K fd ps ds) (hd : Vals dvs ds) (hx : Passes CX X E)
    (hdb : (x == ("__debug__" : Str)) = false := by decide) : PE X (.Call (.Name x p) [] [] pos) (tCall sp dvs E tNil) := by
  intro pins s σ H Q I h
  refine wpAny_Call_Name_kw (ld_glob I hg hm ?_ hdb)
  exact PySem.W.callWith_K0 I.kIn hk (run_fn (us := []) F hr hb hd hx I .nil h)

/-- o.m(e, ..) -/
theorem pe_meth {pl : Sem Bool} (he : PE X o ta) (c : Cls X.K C) (hm : Meth X.K C m f) (F : FnOk X.prog X.w X.K X.mg X.base CX k f fd ps sp) (hr : Room k X.A) (hb : Binds X.K fd ps ds) (hd : Vals dvs ds) (hx : Passes CX X E) (ha : PA X (e :: es) t)
    (hst : starEach (e :: es) X.env = (false, eval e X.env) :: starEach es X.env := by rfl) (hpl : (backTo pos (starEach es X.env)).any (·.1) = false := by rfl)
    (ht : eval (.Call (.Attribute o m apos) (e :: es) [] pos) X.env = (do
      let ov ← eval o X.env
      standAt apos.atName
      let (f, first) ← holding [ov] (getMethod ov m pl)
      callWith pos f first (backTo pos (starEach (e :: es) X.env)) (backToKw pos (keywordEach [] X.env))) := by rfl) :
    PE X (.Call (.Attribute o m apos) (e :: es) [] pos) (tMeth C m sp dvs E ta t) := by
  intro pins s σ H Q I h
  refine PySem.W.methodCall_KW (pl := pl) (thn (he pins s σ H _ I h) fun u s1 ⟨x, H1, I1, rx, a, dx, fs, ex, ea, l, q⟩ => ?_) ht
  subst ex
  obtain rfl : u = Value.ref a := rx
  refine getmeth_ok I1 ea c hm l ?_
  refine PySem.W.callWith_K (first := [.ref a]) (h₀ := X.base) I.ok.mod.kin hm.kp (thn (ha pos pins s1 σ H1 _ I1 q) fun us s2 ⟨vs, H2, I2, r, q2⟩ => ⟨I2.kIn, ?_⟩) hst hpl
  exact run_fn (us := .ref a :: us) (vs := .ref a :: vs) F hr hb hd hx I2 (.cons rfl r) q2
/-- o.m() -/
theorem pe_meth0 {pl : Sem Bool} (he : PE X o ta) (c : Cls X.K C) (hm : Meth X.K C m f) (F : FnOk X.prog X.w X.K X.mg X.base CX k f fd ps sp) (hr : Room k X.A) (hb : Binds X.K fd ps ds) (hd : Vals dvs ds) (hx : Passes CX X E)
    (ht : eval (.Call (.Attribute o m apos) [] [] pos) X.env = (do
      let ov ← eval o X.env
      standAt apos.atName
      let (f, first) ← holding [ov] (getMethod ov m pl)
      callWith pos f first (backTo pos (starEach [] X.env)) (backToKw pos (keywordEach [] X.env))) := by rfl) :
    PE X (.Call (.Attribute o m apos) [] [] pos) (tMeth C m sp dvs E ta tNil) := by
  intro pins s σ H Q I h
  refine PySem.W.methodCall_KW (pl := pl) (thn (he pins s σ H _ I h) fun u s1 ⟨x, H1, I1, rx, a, dx, fs, ex, ea, l, q⟩ => ?_) ht
  subst ex
  obtain rfl : u = Value.ref a := rx
  refine getmeth_ok I1 ea c hm l ?_
  exact PySem.W.callWith_K0 (first := [.ref a]) I1.kIn hm.kp (run_fn (us := [.ref a]) (vs := [.ref a]) F hr hb hd hx I1 (.cons rfl .nil) q)

/-- what a class must have to be made -/
structure Mk (K : PySem.W.Frag) (C f : Addr) : Prop where
  makes : PySem.W.makesIn K C = true
  init : PySem.W.findIn K (.ref C) "__init__" = some (some (.ref f))
  fn : PySem.W.isFn K (.ref f) = true
  kp : PySem.W.keepIn K (.ref C) = true

theorem run_make {pins : List (Addr × Obj)} {σ : St} {H : Hp} {s : Shared} {Q : VK} {us : List Value} {vs : List V} (M : Mk X.K C f) (F : FnOk X.prog X.w X.K X.mg X.base CX k f fd ps sp) (hr : Room (k + 1) X.A) (hb : Binds X.K fd ps ds) (hd : Vals dvs ds)
    (hx : Passes CX X E) (I : Inv X pins σ H s) (r : Vals vs us)
    (h : ∀ x dx, H x = none → H dx = none → dx ≠ x → sp (.ref x :: (vs ++ dvs)) (upd (upd H dx (.own x)) x (.ins C dx [])) (fun v H2 => v = .non ∧ Q (.ref x) H2) E) :
    wpAny (model X.prog X.w) X.A (call (.ref C) us) (EP X pins σ Q) X.xe s := by
  have hq := h (s.heap.objs.size + 1) s.heap.objs.size (I.hok.fresh (Nat.le_succ _)) (I.hok.fresh (Nat.le_refl _)) (Nat.ne_of_lt (Nat.lt_succ_self _))
  have I2 := Inv.made (C := C) I
  have r2 : Vals (V.ref (s.heap.objs.size + 1) :: (vs ++ dvs)) (Value.ref (s.heap.objs.size + 1) :: (us ++ ds)) := .cons rfl (r.append hd)
  have hl : (Value.ref (s.heap.objs.size + 1) :: us ++ ds).length = ps.length := by
    have e := r2.length
    rw [F.len _ _ _ _ hq] at e
    exact e.symm
  refine wpAny_call (make_map (f := f) I.kIn M.makes M.init (beq_iff_eq.mp M.fn) (codeAny_mono (F.run _ X.stack _ _ ⟨Value.ref (s.heap.objs.size + 1) :: us, []⟩ (Value.ref (s.heap.objs.size + 1) :: (us ++ ds)) _ _ E (hr.make C us [])
    (I2.env0.make C us []) (hb _ (Value.ref (s.heap.objs.size + 1) :: us) I2.kIn hl) r2 hq) fun r s' hq' => ?_))
  cases r with
  | error e => exact hx pins σ _ _ e s' I2 hq'
  | ok fl =>
    cases fl with
    | ret u =>
      obtain ⟨v, H', I3, rv, ev, q3⟩ := I2.after hq'
      subst ev
      exact ⟨rv, ⟨V.ref (s.heap.objs.size + 1), H', I3, rfl, q3⟩⟩
    | next => exact False.elim hq'
    | brk => exact False.elim hq'
    | cont => exact False.elim hq'
theorem pe_make (M : Mk X.K C f) (F : FnOk X.prog X.w X.K X.mg X.base CX k f fd ps sp) (hr : Room (k + 1) X.A) (hg : Gl X x) (hm : X.mg x = some (.ref C)) (hb : Binds X.K fd ps ds) (hd : Vals dvs ds) (hx : Passes CX X E)
    (ha : PA X (e :: es) t) (hdb : (x == ("__debug__" : Str)) = false := by decide) (he : starEach (e :: es) X.env = (false, eval e X.env) :: starEach es X.env := by rfl) (hpl : (backTo pos (starEach es X.env)).any (·.1) = false := by rfl) :
    PE X (.Call (.Name x p) (e :: es) [] pos) (tMake C sp dvs E t) := by
  intro pins s σ H Q I h
  refine wpAny_Call_Name_kw (ld_glob I hg hm ?_ hdb)
  refine PySem.W.callWith_K (h₀ := X.base) I.ok.mod.kin M.kp (thn (ha pos pins s σ H _ I h) fun us s1 ⟨vs, H1, I1, r, q⟩ => ⟨I1.kIn, ?_⟩) he hpl
  exact run_make M F hr hb hd hx I1 r q
theorem pe_make0 (M : Mk X.K C f) (F : FnOk X.prog X.w X.K X.mg X.base CX k f fd ps sp) (hr : Room (k + 1) X.A) (hg : Gl X x) (hm : X.mg x = some (.ref C)) (hb : Binds X.K fd ps ds) (hd : Vals dvs ds) (hx : Passes CX X E)
    (hdb : (x == ("__debug__" : Str)) = false := by decide) : PE X (.Call (.Name x p) [] [] pos) (tMake C sp dvs E tNil) := by
  intro pins s σ H Q I h
  refine wpAny_Call_Name_kw (ld_glob I hg hm ?_ hdb)
  exact PySem.W.callWith_K0 I.kIn M.kp (run_make (us := []) M F hr hb hd hx I .nil h)
end

/-! ### keywords -/
/-- the values of the keywords, from the left -/
def PK (X : Cx) (kws : List Keyword) (t : TA) : Prop :=
  ∀ (pos : Pos) (pins : List (Addr × Obj)) (s : Shared) (σ : St) (H : Hp) (Q : List V → Hp → Prop), Inv X pins σ H s → t σ H Q → wpAny (model X.prog X.w) X.A (evalAll ((backToKw pos (keywordEach kws X.env)).map (·.2))) (AP X pins σ Q) X.xe s
section
variable {X : Cx} {CX : CXT} {k : Nat} {f C : Addr} {fd : FuncData} {ps ks : List Str} {sp : Sp} {E : XK} {x m : Str} {p pos apos kpos : Pos} {e o : Expr} {es : List Expr} {kws : List Keyword} {te ta : TE} {t tk : TA} {nm : Option Str}
theorem pk_nil : PK X [] tNil := fun _ _ _ _ H Q I h => wpAny_evalAll_nil ⟨[], H, I, .nil, h⟩
theorem pk_cons (ha : PE X e te) (hr : PK X kws t) : PK X (⟨nm, e, kpos⟩ :: kws) (tCons te t) := by
  intro pos pins s σ H Q I h
  show wpAny _ _ (evalAll ((do let v ← eval e X.env; standAt pos; pure v) :: (backToKw pos (keywordEach kws X.env)).map (·.2))) _ _ s
  refine wpAny_evalAll_cons (wpAny_bind (thn (ha pins s σ H _ I h) fun u s1 ⟨x, H1, I1, r1, q1⟩ => wpAny_bind (wpAny_standAt (wpAny_pure ?_))))
  exact thn (hr pos pins s1 σ H1 _ I1 q1) fun us s2 ⟨xs, H2, I2, r2, q2⟩ => ⟨x :: xs, H2, I2, .cons r1 r2, q2⟩

/-- how a call with keywords binds: g puts the positional values us and the keywords' values ws (names ks) in the parameters' order, defaults among them -/
structure KBinds (K : PySem.W.Frag) (fd : FuncData) (ps ks : List Str) (g : List Value → List Value → List Value) (gV : List V → List V → List V) : Prop where
  to : ∀ (s : Shared) (us ws : List Value), K.In s.heap → (g us ws).length = ps.length → BindsTo s fd ⟨us, ks.zip ws⟩ (ps.zip (g us ws))
  rel : ∀ {vs : List V} {us : List Value} {zs : List V} {ws : List Value}, Vals vs us → Vals zs ws → Vals (gV vs zs) (g us ws)
def tCallK (sp : Sp) (gV : List V → List V → List V) (E : XK) (t tk : TA) : TE := fun σ H Q => t σ H fun vs H1 => tk σ H1 fun zs H2 => sp (gV vs zs) H2 Q E
variable {g : List Value → List Value → List Value} {gV : List V → List V → List V}
theorem run_fnk {pins : List (Addr × Obj)} {σ : St} {H : Hp} {s : Shared} {Q : VK} {us ws : List Value} {vs zs : List V} (F : FnOk X.prog X.w X.K X.mg X.base CX k f fd ps sp) (hr : Room k X.A) (hb : KBinds X.K fd ps ks g gV) (hx : Passes CX X E)
    (I : Inv X pins σ H s) (r : Vals vs us) (rz : Vals zs ws) (h : sp (gV vs zs) H Q E) : wpAny (model X.prog X.w) X.A (call (.ref f) us (ks.zip ws)) (EP X pins σ Q) X.xe s := by
  have r2 := hb.rel r rz
  have hl : (g us ws).length = ps.length := by rw [← r2.length]; exact F.len _ _ _ _ h
  refine wpAny_call (codeAny_mono (F.run X.A X.stack s H ⟨us, ks.zip ws⟩ (g us ws) (gV vs zs) Q E hr I.env0 (hb.to s us ws I.kIn hl) r2 h) fun r s' hq => ?_)
  cases r with
  | error e => exact hx pins σ H s e s' I hq
  | ok fl =>
    cases fl with
    | ret u => exact I.after hq
    | next => exact False.elim hq
    | brk => exact False.elim hq
    | cont => exact False.elim hq
/-- f(e, .., k = v, ..) -/
theorem pe_callK (F : FnOk X.prog X.w X.K X.mg X.base CX k f fd ps sp) (hr : Room k X.A) (hg : Gl X x) (hm : X.mg x = some (.ref f)) (hk : PySem.W.keepIn X.K (.ref f) = true) (hb : KBinds X.K fd ps ks g gV) (hx : Passes CX X E)
    (ha : PA X (e :: es) t) (hkw : PK X kws tk) (hall : (backToKw pos (keywordEach kws X.env)).all (·.1.isSome) = true := by rfl) (hks : (backToKw pos (keywordEach kws X.env)).filterMap (·.1) = ks := by rfl)
    (hdb : (x == ("__debug__" : Str)) = false := by decide) (he : starEach (e :: es) X.env = (false, eval e X.env) :: starEach es X.env := by rfl)
    (hpl : ((backTo pos (starEach (e :: es) X.env)).any (·.1) || (backToKw pos (keywordEach kws X.env)).any (·.1.isNone)) = false := by rfl) :
    PE X (.Call (.Name x p) (e :: es) kws pos) (tCallK sp gV E t tk) := by
  intro pins s σ H Q I h
  refine wpAny_Call_Name_kw (ld_glob I hg hm ?_ hdb)
  refine PySem.W.callWith_KW (h₀ := X.base) I.ok.mod.kin hk hall (thn (ha pos pins s σ H _ I h) fun us s1 ⟨vs, H1, I1, r, q⟩ => ?_) hpl he
  refine thn (hkw pos pins s1 σ H1 _ I1 q) fun ws s2 ⟨zs, H2, I2, rz, q2⟩ => ⟨I2.kIn, ?_⟩
  rw [hks]
  exact run_fnk F hr hb hx I2 r rz q2
end

/-! ### a def's body keeps its promise -/
/-- names: the parameters first -/
structure FnScope (N P : List Str) (sc : Scope) : Prop where
  kind : sc.kind = .function
  co : sc.isCoroutine = false
  gen : sc.isGenerator = false
  nd : N.Nodup
  pre : N.take P.length = P
  par : ∀ x ∈ P, sc.names.lookup x = some .local ∨ sc.names.lookup x = some .cell
  nofree : ∀ y ∈ sc.names, y.2 ≠ .free

theorem bindL_out {kindOf : Str → Option NameKind} {x : Str} : ∀ {binds : List (Str × Value)} {m : Str → Option Value}, (∀ v, (x, v) ∉ binds) → bindL kindOf binds m x = m x
  | [], _, _ => rfl
  | (n, v) :: r, m, h => by
    unfold bindL
    rw [bindL_out fun w hw => h w (List.mem_cons_of_mem _ hw)]
    split
    · have : x ≠ n := by rintro rfl; exact h v List.mem_cons_self
      simp [this]
    · rfl
theorem bindC_out {kindOf : Str → Option NameKind} {x : Str} : ∀ {binds : List (Str × Value)} {m : Str → Option Value}, (∀ v, (x, v) ∉ binds) → bindC kindOf binds m x = m x
  | [], _, _ => rfl
  | (n, v) :: r, m, h => by
    unfold bindC
    rw [bindC_out fun w hw => h w (List.mem_cons_of_mem _ hw)]
    split
    · rfl
    · have : x ≠ n := by rintro rfl; exact h v List.mem_cons_self
      simp [this]
theorem bindL_get {kindOf : Str → Option NameKind} {x : Str} {v : Value} : ∀ {P : List Str} {vs : List Value} {i : Nat} {m : Str → Option Value}, P.Nodup → P[i]? = some x → vs[i]? = some v → kindOf x = some .local →
    bindL kindOf (P.zip vs) m x = some v
  | [], _, _, _, _, h, _, _ => by simp at h
  | _ :: _, [], _, _, _, _, h, _ => by simp at h
  | p :: P, w :: vs, 0, m, nd, h1, h2, hk => by
    simp at h1 h2; subst h1; subst h2
    show bindL kindOf ((p, w) :: P.zip vs) m p = _
    unfold bindL
    rw [bindL_out fun v hv => (List.nodup_cons.mp nd).1 (List.of_mem_zip hv).1, if_pos hk]
    simp
  | p :: P, w :: vs, i + 1, m, nd, h1, h2, hk => by
    show bindL kindOf ((p, w) :: P.zip vs) m x = _
    unfold bindL
    exact bindL_get (i := i) (List.nodup_cons.mp nd).2 (by simpa using h1) (by simpa using h2) hk
theorem bindC_get {kindOf : Str → Option NameKind} {x : Str} {v : Value} : ∀ {P : List Str} {vs : List Value} {i : Nat} {m : Str → Option Value}, P.Nodup → P[i]? = some x → vs[i]? = some v → kindOf x ≠ some .local →
    bindC kindOf (P.zip vs) m x = some v
  | [], _, _, _, _, h, _, _ => by simp at h
  | _ :: _, [], _, _, _, _, h, _ => by simp at h
  | p :: P, w :: vs, 0, m, nd, h1, h2, hk => by
    simp at h1 h2; subst h1; subst h2
    show bindC kindOf ((p, w) :: P.zip vs) m p = _
    unfold bindC
    rw [bindC_out fun v hv => (List.nodup_cons.mp nd).1 (List.of_mem_zip hv).1, if_neg hk]
    simp
  | p :: P, w :: vs, i + 1, m, nd, h1, h2, hk => by
    show bindC kindOf ((p, w) :: P.zip vs) m x = _
    unfold bindC
    exact bindC_get (i := i) (List.nodup_cons.mp nd).2 (by simpa using h1) (by simpa using h2) hk

/-- the names' values at the entry -/
def start (N : List Str) (vs : List V) : St := vs.map some ++ List.replicate (N.length - vs.length) none

/-- the context of a def's body, at its entry; an exception leaves the frame, then lies as CX says -/
def cxOf (CX : CXT) (P : Program) (w : World) (K : PySem.W.Frag) (mg : Str → Option Value) (base : Heap) (N : List Str) (qual : Str) (scope : Scope) (f : Addr) (cd : Value) (A : Around) (outer : List Env) (s : Shared) (H : Hp) (E : XK) : Cx where
  prog := P
  w := w
  K := K
  mg := mg
  base := base
  A := A.deeper (envOfC qual scope s.heap.objs.size f cd)
  N := N
  s₀ := s
  H₀ := H
  env := envOfC qual scope s.heap.objs.size f cd
  outer := outer
  stack := envOfC qual scope s.heap.objs.size f cd :: outer
  ex := []
  calm := true
  fn := fun _ => true
  pn := []
  xe := fun e s' => wpAny (model P w) (A.deeper (envOfC qual scope s.heap.objs.size f cd)) (leaving (envOfC qual scope s.heap.objs.size f cd) e) (fun _ s'' => CX outer H s E e s'') (fun e' s'' => CX outer H s E e' s'') s'

theorem cell_has {sc : Scope} {n : Nat} {x : Str} (h : sc.names.lookup x = some .cell) : ∃ c, (cellsFrom n sc.names []).lookup x = some c := by
  have q := PySem.W.cellsFrom_some sc.names n [] (.inl h)
  exact Option.isSome_iff_exists.mp q

theorem inv_start {CX : CXT} {P : Program} {w : World} {K : PySem.W.Frag} {mg : Str → Option Value} {base : Heap} {N ps : List Str} {qual : Str} {scope : Scope} {f : Addr} {cd : Value} {A : Around} {outer : List Env} {s s1 : Shared} {H : Hp} {E : XK} {us : List Value} {vs : List V}
    (S : FnScope N ps scope) (hd : A.handled = none) (e0 : Env0 P w K mg base A outer s H) (hl : vs.length = ps.length) (r : Vals vs us)
    (x : InCallC s s.heap.objs.size (bindL (envOfC qual scope s.heap.objs.size f cd).kindOf (ps.zip us) fun _ => none) (cellsFrom (s.heap.objs.size + 1) scope.names []) (bindC (envOfC qual scope s.heap.objs.size f cd).kindOf (ps.zip us) fun _ => none) s1) :
    Inv (cxOf CX P w K mg base N qual scope f cd A outer s H E) [] (start N vs) H s1 := by
  have hpl : ps.length ≤ N.length := by have := congrArg List.length S.pre; rw [List.length_take] at this; omega
  obtain ⟨h1, tk, rfl, hk⟩ := x.done
  have noA : ∀ b : Addr, b ∉ (cxOf CX P w K mg base N qual scope f cd A outer s H E).ex := fun b z => absurd (show b ∈ ([] : List Addr) from z) (by simp)
  refine ⟨⟨e0.mod, S.kind, rfl, rfl, Nat.le_refl _, fun y z c h1 h2 => ?_, fun y hy => ?_, fun y c _ h => ?_, fun _ => hd, Around.frames_deeper e0.frames, .inr ⟨rfl, rfl⟩, fun b z => absurd z (noA b), e0.bs, e0.bsz, fun b _ _ => noA b, fun b z => absurd z (noA b), e0.funs, e0.frf⟩,
    rfl, e0.bare, Un.kept hk, ⟨_, x.toInCall.ns, fun i y v h1 h2 h3 => ?_⟩, fun y c h => ⟨_, x.cell y c h⟩, e0.hok.fresh (Nat.le_refl _), fun y c h => ?_, fun p hp => absurd (show p ∈ ([] : List (Addr × Obj)) from hp) (by simp), e0.hok.kept hk, ?_⟩
  · exact name_of_addr x.apart (PySem.mem_of_lookup h1) (PySem.mem_of_lookup h2)
  · have hy : scope.names.lookup y = some .cell ∨ scope.names.lookup y = some .free := hy
    rcases hy with hy | hy
    · exact cell_has hy
    · exact absurd rfl (S.nofree _ (PySem.mem_of_lookup hy))
  · exact Nat.le_of_lt (x.above y c (PySem.mem_of_lookup h))
  · have hi : i < vs.length := by
      unfold start at h2
      by_cases hi : i < vs.length
      · exact hi
      · rw [List.getElem?_append_right (by simpa using hi)] at h2
        rw [List.getElem?_replicate] at h2
        split at h2 <;> cases h2
    have ha : vs[i]? = some v := by
      unfold start at h2
      rw [List.getElem?_append_left (by simpa using hi), List.getElem?_map] at h2
      cases e : vs[i]? with
      | none => rw [e] at h2; cases h2
      | some a => rw [e] at h2; cases h2; rfl
    obtain ⟨u, hu, rv⟩ := r.get ha
    have hp : ps[i]? = some y := by
      rw [← S.pre, List.getElem?_take_of_lt (by omega)]; exact h1
    have ndP : ps.Nodup := by rw [← S.pre]; exact S.nd.sublist (List.take_sublist _ _)
    refine ⟨u, rv, ?_⟩
    rcases S.par y (List.mem_of_getElem? hp) with k | k
    · exact .inl ⟨k, bindL_get ndP hp hu k⟩
    · obtain ⟨c, e⟩ := cell_has (n := s.heap.objs.size + 1) k
      refine .inr ⟨.inl k, c, e, ?_⟩
      have q := x.cell y c e
      rw [bindC_get ndP hp hu (by show scope.names.lookup y ≠ _; rw [k]; decide)] at q
      exact q
  · exact e0.hok.fresh (Nat.le_of_lt (x.above y c (PySem.mem_of_lookup h)))
  · unfold start
    show _ = N.length
    rw [List.length_append, List.length_map, List.length_replicate]
    omega

/-- THE RULE: a def (or a method) of the text, by its body. The body's reading t is chosen for each entry; it is run at the parameters' values -/
theorem fn_of {CX : CXT} {P : Program} {w : World} {K : PySem.W.Frag} {mg : Str → Option Value} {base : Heap} {k : Nat} {f : Addr} {name qual : Str} {params : Arguments} {body : List Stmt} {scope : Scope} {dV kV doc pm cdv ct oc : Value} {an od : Option Addr}
    {osl : Array (Option Value)} {N ps : List Str} {sp : Sp} (lk : K.lookup f = some ⟨oc, od, .func (PySem.W.fnOf name qual params body scope dV kV doc pm an cdv ct), osl⟩) (hcd : PySem.W.codeIn K cdv qual = true) (S : FnScope N ps scope)
    (len : ∀ vs H Q E, sp vs H Q E → vs.length = ps.length)
    (hbody : ∀ (A : Around) (outer : List Env) (s : Shared) (H : Hp) (vs : List V) (Q : VK) (E : XK), Room k (A.deeper (envOfC qual scope s.heap.objs.size f cdv)) → sp vs H Q E →
      ∃ t, PSs (cxOf CX P w K mg base N qual scope f cdv A outer s H E) body t ∧ t { nx := fun _ H' => Q .non H', rt := Q } (start N vs) H) :
    FnOk P w K mg base CX (k + 1) f (PySem.W.fnOf name qual params body scope dV kV doc pm an cdv ct) ps sp := by
  refine ⟨len, fun A outer s H args us vs Q E hr e0 hb r hsp => ?_⟩
  have hl := len _ _ _ _ hsp
  have KX : K.In s.heap := e0.mod.kin.keeps fun b o e => (e0.bs b o e).1
  have lim : s.heap.NoLimit := e0.mod.nolimit.keeps fun b o e => (e0.bs b o e).1
  have hkind : ∀ y ∈ ps.zip us, scope.names.lookup y.1 = some .local ∨ (scope.names.lookup y.1 = some .cell ∧ ((cellsFrom (s.heap.objs.size + 1) scope.names []).lookup y.1).isSome = true) := fun ⟨n, v⟩ hy => by
    rcases S.par n (List.of_mem_zip hy).1 with q | q
    · exact .inl q
    · exact .inr ⟨q, PySem.W.cellsFrom_some _ _ _ (.inl q)⟩
  refine codeAny_call_function hr.depth (KX _ _ lk) rfl S.co S.gen rfl (PySem.W.codeRec_of KX hcd) (hb _ _ _ _ ?_)
  refine wpAny_newFunctionEnv_cells S.kind hkind fun env he s1 x => ?_
  subst he
  refine ⟨lim.keeps x.toInCall.keep, codeAny_func ?_⟩
  obtain ⟨t, ht, hq⟩ := hbody A outer s H vs Q E (hr.deeper _) hsp
  have I : Inv (cxOf CX P w K mg base N qual scope f cdv A outer s H E) [] (start N vs) H s1 := inv_start S hr.hd e0 hl r x
  refine wpAny_mono (ht [] s1 (start N vs) H _ I hq) (fun fl s' hs => ?_) fun e s' hs => hs
  have fin : ∀ {σ' : St} {H' : Hp} {v : V} {u : Value}, Inv (cxOf CX P w K mg base N qual scope f cdv A outer s H E) [] σ' H' s' → RelV v u → Q v H' → CE outer P w H s Q u s' :=
    fun {σ' H' v u} J rv q => ⟨v, H', J.os, J.bare, J.base, J.hok, rv, q⟩
  cases fl with
  | ret u =>
    obtain ⟨v, σ', H', J, rv, q⟩ := hs
    exact fin J rv q
  | next =>
    obtain ⟨σ', H', J, q⟩ := hs
    exact fin (v := V.non) (u := Value.none) J rfl q
  | brk =>
    obtain ⟨_, _, _, q⟩ := hs
    exact False.elim q
  | cont =>
    obtain ⟨_, _, _, q⟩ := hs
    exact False.elim q
end L2

namespace L2
open PySem PySem.Spec PyProof.Rows
section
variable {X : Cx} {x : Str} {p pos : Pos} {e : Expr} {es : List Expr} {t : TA} {id T : String} {r : List V → Hp → VK → Prop}

def tCB (r : List V → Hp → VK → Prop) (t : TA) : TE := fun σ H Q => t σ H fun vs H1 => r vs H1 Q
/-- f(e, ..), f a built-in function -/
theorem pe_callB (hc : CallR X (.builtin id) r) (hg : Gl X x) (hm : X.mg x = none) (hv : bootBuiltins x = some (.builtin id)) (ha : PA X (e :: es) t) (hn : x ≠ "__name__" := by decide) (hdb : (x == ("__debug__" : Str)) = false := by decide)
    (he : starEach (e :: es) X.env = (false, eval e X.env) :: starEach es X.env := by rfl) (hpl : (backTo pos (starEach es X.env)).any (·.1) = false := by rfl) : PE X (.Call (.Name x p) (e :: es) [] pos) (tCB r t) := by
  intro pins s σ H Q I h
  refine wpAny_Call_Name_kw (ld_blt I hg hm hv ?_ hn hdb)
  exact PyProof.Rows.callWith_builtin1 (thn (ha pos pins s σ H _ I h) fun us s1 ⟨vs, H1, I1, r1, q1⟩ => hc pins s1 σ H1 vs us Q I1 r1 q1) he hpl
/-- T(e, ..), T a built-in type -/
theorem pe_callTy (hc : CallR X (.type T) r) (hg : Gl X x) (hm : X.mg x = none) (hv : bootBuiltins x = some (.type T)) (ha : PA X (e :: es) t) (hn : x ≠ "__name__" := by decide) (hdb : (x == ("__debug__" : Str)) = false := by decide)
    (he : starEach (e :: es) X.env = (false, eval e X.env) :: starEach es X.env := by rfl) (hpl : (backTo pos (starEach es X.env)).any (·.1) = false := by rfl) : PE X (.Call (.Name x p) (e :: es) [] pos) (tCB r t) := by
  intro pins s σ H Q I h
  refine wpAny_Call_Name_kw (ld_blt I hg hm hv ?_ hn hdb)
  exact PyProof.Rows.callWith_type1 (thn (ha pos pins s σ H _ I h) fun us s1 ⟨vs, H1, I1, r1, q1⟩ => hc pins s1 σ H1 vs us Q I1 r1 q1) he hpl
/-- T() -/
theorem pe_callTy0 (hc : CallR X (.type T) r) (hg : Gl X x) (hm : X.mg x = none) (hv : bootBuiltins x = some (.type T)) (hn : x ≠ "__name__" := by decide) (hdb : (x == ("__debug__" : Str)) = false := by decide) :
    PE X (.Call (.Name x p) [] [] pos) (tCB r tNil) := by
  intro pins s σ H Q I h
  refine wpAny_Call_Name_kw (ld_blt I hg hm hv ?_ hn hdb)
  exact PyProof.Rows.callWith_type0 (hc pins s σ H [] [] Q I .nil h)
end
end L2

namespace HT
open PySem PyProof.Rows

/-- t < u of tuples of ints -/
def lexLt : List Int → List Int → Bool
  | [], [] => false
  | [], _ :: _ => true
  | _ :: _, [] => false
  | x :: xs, y :: ys => if x = y then lexLt xs ys else decide (x < y)
theorem lexLt_cons (x y : Int) (xs ys : List Int) : lexLt (x :: xs) (y :: ys) = if x = y then lexLt xs ys else decide (x < y) := rfl
theorem lexLt_nil_nil : lexLt [] [] = false := rfl
theorem lexLt_nil_cons (y : Int) (ys : List Int) : lexLt [] (y :: ys) = true := rfl
theorem lexLt_cons_nil (x : Int) (xs : List Int) : lexLt (x :: xs) [] = false := rfl

theorem eqAt_int (A : Around) (s : Shared) (a : Int) (t : Tok) (c : Int) (u : Tok) : ∃ e, SeqAt.EqAt A s (.int a t) (.int c u) e ∧ (e = true ↔ a = c) :=
  ⟨(a == c), SeqAt.EqAt.int_int a t c u, by simp⟩
theorem rcLt_int (A : Around) (s : Shared) (a : Int) (t : Tok) (c : Int) (u : Tok) (prog : Program) (w : World) (E : Value → Shared → Prop) (Q : Value → Shared → Prop) (h : Q (.bool (decide (a < c))) s) :
    wpAny (model prog w) A (richCompare .Lt (.int a t) (.int c u)) Q E s :=
  (PyProof.Rows.lt_int h : wpAny (model prog w) A (compareOp .Lt (.int a t) (.int c u)) Q E s)

section
open PySem.SeqAt
open PySem.AutoSeq1 (wpAny_loadPart')
open PySem.MeetsSeq PySem.MeetsSeq2 PySem.MeetsSeq3

theorem tuple_lt_ints (l b : Addr) (items items2 : Array Value) (n n2 : Nat) (dd dd2 : Option Addr) (sl sl2 : Array (Option Value)) (ns ms : List Int) (hi : IntsAre items.toList ns) (hj : IntsAre items2.toList ms) :
    Meets (Builtin.«tuple.__lt__» ⟨[.ref l, .ref b], []⟩)
      (fun _ R s => s.heap.get? l = some { cls := .type "tuple", dict := dd, data := .seq items n, slots := sl } ∧ s.heap.get? b = some { cls := .type "tuple", dict := dd2, data := .seq items2 n2, slots := sl2 } ∧
        R (.ok (.ret (.bool (lexLt ns ms)))) s) :=
  .of_wp fun prog w A R s h => by
    obtain ⟨hp, g, d, tk, os⟩ := s; obtain ⟨hl, hb, h⟩ := h
    have f2 := AutoSeq1.sub_tuple_tuple
    have z1 : items.size = ns.length := by rw [← hi.length]; simp
    have z2 : items2.size = ms.length := by rw [← hj.length]; simp
    wp_walk using wpAny_loadPart' hl, wpAny_loadPart' hb, wpAny_forIn_list _ (fun rest b s' => b.1 = none ∧ s' = ⟨hp, g, d, tk, os⟩ ∧ ∃ (vs ws : List Value) (ns' ms' : List Int), rest = vs.zip ws ∧
      IntsAre vs ns' ∧ IntsAre ws ms' ∧ ns'.length + items2.size = ms'.length + items.size ∧ R (.ok (.ret (.bool (lexLt ns' ms')))) ⟨hp, g, d, tk, os⟩) _
    case turn =>
      rintro ⟨y, x⟩ rest b s' ⟨hb', rfl, vs, ws, ns', ms', hz, hvi, hwi, hlen, hR⟩
      cases hvi with
      | nil => rw [List.zip_nil_left] at hz; cases hz
      | cons a t hvi' =>
        cases hwi with
        | nil => rw [List.zip_nil_right] at hz; cases hz
        | cons c u hwi' =>
          rw [List.zip_cons_cons] at hz
          injection hz with hyx hrest
          injection hyx with hy hx
          subst hy hx
          rw [lexLt_cons] at hR
          simp only [List.length_cons] at hlen
          obtain ⟨e, he, hiff⟩ := eqAt_int A.in1 ⟨hp, g, d, tk, os⟩ a t c u
          refine wpAny_bind (he prog w _ _ ?_)
          cases e with
          | true =>
            rw [if_pos (hiff.mp rfl)] at hR
            wp_walk
            exact ⟨rfl, rfl, _, _, _, _, hrest, hvi', hwi', by omega, hR⟩
          | false =>
            rw [if_neg (fun q => absurd (hiff.mpr q) Bool.false_ne_true)] at hR
            have hri := rcLt_int A.in1 ⟨hp, g, d, tk, os⟩ a t c u prog w
            wp_walk using hri
            exact ⟨_, rfl, by simpa using hR⟩
    case fin =>
      rintro ⟨b1, b2⟩ s' ⟨hb', rfl, vs, ws, ns', ms', hz, hvi, hwi, hlen, hR⟩
      simp only at hb'
      subst hb'
      have hv : lexLt ns' ms' = decide (items.size < items2.size) := by
        cases hvi with
        | nil =>
          cases hwi with
          | nil =>
            simp only [List.length_nil] at hlen
            rw [lexLt_nil_nil]
            exact (decide_eq_false (by omega)).symm
          | cons c u hw =>
            simp only [List.length_nil, List.length_cons] at hlen
            rw [lexLt_nil_cons]
            exact (decide_eq_true (by omega)).symm
        | cons a t hv =>
          cases hwi with
          | nil =>
            simp only [List.length_nil, List.length_cons] at hlen
            rw [lexLt_cons_nil]
            exact (decide_eq_false (by omega)).symm
          | cons c u hw =>
            rw [List.zip_cons_cons] at hz
            cases hz
      rw [hv] at hR
      wp_walk
      exact ⟨_, rfl, by simpa [Builtin.Tuple.tupleCompareSizes] using hR⟩
    case h =>
      exact ⟨rfl, rfl, items.toList, items2.toList, ns, ms, rfl, hi, hj, by omega, h⟩
end

section
variable {prog : Program} {w : World} {A : Around} {E : Value → Shared → Prop} {s : Shared}

theorem lt_tupInts {l b : Addr} {items items2 : Array Value} {ns ms : List Int} {Q : Value → Shared → Prop} (hl : IsTup s.heap l items) (hb : IsTup s.heap b items2) (hi : IntsAre items.toList ns) (hj : IntsAre items2.toList ms)
    (hu : A.units < cLine) (h : Q (.bool (lexLt ns ms)) s) : wpAny (model prog w) A (compareOp .Lt (.ref l) (.ref b)) Q E s := by
  obtain ⟨⟨cls, dd, data, sl⟩, ho, hc, n, hd⟩ := id hl
  obtain ⟨⟨cls2, dd2, data2, sl2⟩, ho2, hc2, n2, hd2⟩ := id hb
  simp only at hc hd hc2 hd2
  subst hc hd hc2 hd2
  exact richCompare_meets_room (op := .Lt) ⟨_, ho, rfl⟩ ⟨_, ho2, rfl⟩ PySem.F.slot_tuple_lt PySem.F.entry_tuple_lt (PySem.F.args_tuple_lt_2 _ _) (tuple_lt_ints l b items items2 n n2 dd dd2 sl sl2 ns ms hi hj)
    ⟨ho, ho2, show Value.bool (lexLt ns ms) ≠ Value.notImplemented ∧ Q (.bool (lexLt ns ms)) s from ⟨(fun x => nomatch x), h⟩⟩ hu

/-- t + u, t not empty -/
theorem cat_tup {t b : Addr} {vs ws : List Value} {Q : Value → Shared → Prop} (ht : IsTup s.heap t vs.toArray) (hb : IsTup s.heap b ws.toArray) (hv : vs ≠ [])
    (h1 : ws = [] → Q (.ref t) s) (h2 : ws ≠ [] → Q (.ref s.heap.objs.size) { s with heap := s.heap.push { cls := .type "tuple", data := .seq (vs ++ ws).toArray } })
    (hsz : vs.length + ws.length ≤ sizeLine) : wpAny (model prog w) A (binaryOp .Add (.ref t) (.ref b)) Q E s := by
  obtain ⟨⟨cls, dd, data, sl⟩, ho, hc, n, hd⟩ := id ht
  obtain ⟨⟨cls2, dd2, data2, sl2⟩, ho2, hc2, n2, hd2⟩ := id hb
  simp only at hc hd hc2 hd2
  subst hc hd hc2 hd2
  have e : vs.toArray ++ ws.toArray = (vs ++ ws).toArray := by simp
  by_cases hw : ws = []
  · exact concat_meets ⟨_, ho, rfl⟩ ⟨_, ho2, rfl⟩ noFill_tuple_add seq_tuple_add PySem.F.slot_tuple_add PySem.F.entry_tuple_add (PySem.F.args_tuple_add_2 _ _)
      (tuple_addW1 t b vs.toArray ws.toArray n n2 dd dd2 sl sl2 (by simpa using hv) (by simp [hw])) ⟨ho, ho2, h1 hw⟩
  · refine concat_meets ⟨_, ho, rfl⟩ ⟨_, ho2, rfl⟩ noFill_tuple_add seq_tuple_add PySem.F.slot_tuple_add PySem.F.entry_tuple_add (PySem.F.args_tuple_add_2 _ _)
      (tuple_addW2 t b vs.toArray ws.toArray n n2 dd dd2 sl sl2 (by simpa using hv) (by simpa using hw) (by rw [List.size_toArray, List.size_toArray]; exact hsz)) ⟨ho, ho2, ?_⟩
    rw [e]
    exact h2 hw

/-! ### t[a:b], not the whole -/
/-- a slice's bound as a place among n (d where it is left out) -/
def sIx (n d : Nat) : Option Int → Nat
  | none => d
  | some v => if v < 0 then (v + (n : Int)).toNat else min v.toNat n
theorem sIx_none (n d : Nat) : sIx n d none = d := rfl
theorem sIx_nat (n d k : Nat) : sIx n d (some (k : Int)) = min k n := by
  show (if (k : Int) < 0 then ((k : Int) + (n : Int)).toNat else min (k : Int).toNat n) = min k n
  rw [if_neg (by omega), Int.toNat_natCast]
theorem sIx_le (n d : Nat) (hd : d ≤ n) (o : Option Int) : sIx n d o ≤ n := by
  cases o with
  | none => exact hd
  | some v =>
    show (if v < 0 then (v + (n : Int)).toNat else min v.toNat n) ≤ n
    by_cases hv : v < 0
    · rw [if_pos hv]; omega
    · rw [if_neg hv]; exact Nat.min_le_right _ _
theorem clip_eq (v : Int) (n d : Nat) : (if v < 0 then max (v + (n : Int)) 0 else min v (n : Int)) = ((sIx n d (some v) : Nat) : Int) := by
  show (if v < 0 then max (v + (n : Int)) 0 else min v (n : Int)) = (((if v < 0 then (v + (n : Int)).toNat else min v.toNat n) : Nat) : Int)
  by_cases hv : v < 0
  · simp only [if_pos hv]; omega
  · simp only [if_neg hv]; omega
theorem adjust_gen (lo hi : Option Int) (n : Nat) : Builtin.Slice.sliceAdjust lo hi 1 (n : Int) = (((sIx n 0 lo : Nat) : Int), ((sIx n n hi : Nat) : Int)) := by
  have h1 : ¬ ((1 : Int) < 0) := by omega
  unfold Builtin.Slice.sliceAdjust
  simp only [h1, if_false]
  refine Prod.ext ?_ ?_
  · cases lo with
    | none => rfl
    | some v => exact clip_eq v n 0
  · cases hi with
    | none => rfl
    | some v => exact clip_eq v n n
theorem places_gen (i j : Nat) : Builtin.Slice.slicePlaces (i : Int) (j : Int) 1 = j - i := by
  unfold Builtin.Slice.slicePlaces
  have h1 : (1 : Int) > 0 := by omega
  simp only [h1, if_true, Int.ediv_one]
  split <;> omega
theorem slicePart_ {v : Value} {o : Option Int} {Q : Option Int → Shared → Prop} (p : IsPart v o) (h : Q o s) : wpAny (model prog w) A (Builtin.Slice.slicePartIndex v) Q E s := by
  cases p with
  | none => exact slicePart_none h
  | int i t => exact slicePart_int h
theorem sliceApplied_gen {sl : Addr} {vl vu : Value} {lo hi : Option Int} {n : Nat} {Q : Int × Int × Nat → Shared → Prop} (hs : s.heap.IsSliceOf sl vl vu .none) (pl : IsPart vl lo) (pu : IsPart vu hi)
    (h : Q (((sIx n 0 lo : Nat) : Int), 1, sIx n n hi - sIx n 0 lo) s) : wpAny (model prog w) A (Builtin.Slice.sliceApplied (.ref sl) (pure (n : Int))) Q E s := by
  obtain ⟨os, hos, hcs, hds⟩ := id hs
  unfold Builtin.Slice.sliceApplied Builtin.Slice.sliceFields
  refine wpAny_bind (wpAny_bind (wpAny_field hos hds (x := vl) rfl (wpAny_bind (wpAny_field hos hds (x := vu) rfl (wpAny_bind (wpAny_field hos hds (x := .none) rfl (wpAny_pure ?_)))))))
  refine wpAny_bind (slicePart_none ?_)
  show wpAny _ _ (if ((1 : Int) == 0) = true then _ else _) _ _ s
  rw [if_neg (by decide)]
  refine wpAny_bind (slicePart_ pl (wpAny_bind (slicePart_ pu (wpAny_bind (wpAny_pure ?_)))))
  show wpAny _ _ (match Builtin.Slice.sliceAdjust lo hi 1 (n : Int) with | (lo, hi) => pure (lo, (1 : Int), Builtin.Slice.slicePlaces lo hi 1)) _ _ s
  rw [adjust_gen lo hi n]
  show wpAny _ _ (pure (((sIx n 0 lo : Nat) : Int), (1 : Int), Builtin.Slice.slicePlaces ((sIx n 0 lo : Nat) : Int) ((sIx n n hi : Nat) : Int) 1)) _ _ s
  rw [places_gen]
  exact wpAny_pure h
theorem pick_gen (xs : Array Value) (i k : Nat) : ((List.range k).filterMap fun (m : Nat) => xs[((i : Int) + (m : Int) * 1).toNat]?).toArray = ((xs.toList.drop i).take k).toArray := by
  have e : (fun (m : Nat) => xs[((i : Int) + (m : Int) * 1).toNat]?) = fun m => xs[i + m]? := by
    funext m
    have : ((i : Int) + (m : Int) * 1).toNat = i + m := by omega
    rw [this]
  rw [e]
  have := pick_run xs i k
  rw [List.filterMap_map] at this
  have e2 : ((fun x => xs[x]?) ∘ fun x => i + x) = fun m => xs[i + m]? := rfl
  rw [e2] at this
  rw [this]

theorem getItem_tuple_cut {t sl : Addr} {items : Array Value} {vl vu : Value} {lo hi : Option Int} {Q : Value → Shared → Prop} (ht : IsTup s.heap t items) (hs : s.heap.IsSliceOf sl vl vu .none) (pl : IsPart vl lo) (pu : IsPart vu hi)
    (hw : ¬ (sIx items.size 0 lo = 0 ∧ sIx items.size items.size hi = items.size))
    (h : Q (.ref s.heap.objs.size) { s with heap := s.heap.push { cls := .type "tuple", data := .seq ((items.toList.drop (sIx items.size 0 lo)).take (sIx items.size items.size hi - sIx items.size 0 lo)).toArray } })
    (hsz : items.size ≤ sizeLine) : wpAny (model prog w) A (getItem (.ref t) (.ref sl)) Q E s := by
  have htake : sizeOk (.seq ((items.toList.drop (sIx items.size 0 lo)).take (sIx items.size items.size hi - sIx items.size 0 lo)).toArray) := by
    show ((items.toList.drop (sIx items.size 0 lo)).take (sIx items.size items.size hi - sIx items.size 0 lo)).toArray.size ≤ sizeLine
    rw [List.size_toArray, List.length_take, List.length_drop, Array.length_toList]
    omega
  have hj : sIx items.size items.size hi ≤ items.size := sIx_le _ _ (Nat.le_refl _) hi
  obtain ⟨os, hos, hcs, hds⟩ := id hs
  have hTs : s.TypeIs (.ref sl) "slice" := ⟨os, hos, hcs⟩
  unfold getItem
  try with_reducible refine wpAny_holding ?_
  first | refine wpAny_bind (wpAny_pure ?_) | skip
  refine wpAny_bind (wpAny_sequenceKey ht.typeIs (by decide) ?_)
  refine wpAny_bind (wpAny_callSpecial?_slot (name := Str.ofString "__getitem__") ht.typeIs PyProof.Rows.slot_tuple_getitem
    (wpAny_call_entry PyProof.Rows.slot_tuple_getitem ht.typeIs entry_tuple_getitem ?_ (args_tuple_getitem _ _)))
  show wpAny _ _ (Builtin.Tuple.tupleItemsOf (.ref t) >>= _) _ _ s
  refine wpAny_bind (tupleItemsOf_ ht ?_)
  refine wpAny_bind (wpAny_typeOf hTs ?_)
  rw [if_pos (by decide)]
  refine wpAny_bind (sliceApplied_gen hs pl pu ?_)
  have hno : ¬ ((((sIx items.size 0 lo : Nat) : Int) == 0 && (1 : Int) == 1 && (sIx items.size items.size hi - sIx items.size 0 lo) == items.size) = true) := by
    intro q
    rw [Bool.and_eq_true, Bool.and_eq_true] at q
    have q1 : ((sIx items.size 0 lo : Nat) : Int) = 0 := eq_of_beq q.1.1
    have q2 : sIx items.size items.size hi - sIx items.size 0 lo = items.size := eq_of_beq q.2
    exact hw ⟨by omega, by omega⟩
  show wpAny _ _ (if (((sIx items.size 0 lo : Nat) : Int) == 0 && (1 : Int) == 1 && (sIx items.size items.size hi - sIx items.size 0 lo) == items.size) = true then _ else _) _ _ s
  rw [if_neg hno, pick_gen]
  first
    | exact wpAny_bind (m := Builtin.Tuple.tupleExact _) (wpAny_newObj_type (wpAny_pure ⟨_, rfl, wpAny_pure h⟩) htake)
    | exact wpAny_bind (m := Builtin.Tuple.tupleExact _) (wpAny_newObj_type (wpAny_bind (wpAny_pure (wpAny_pure ⟨_, rfl, wpAny_pure h⟩))) htake)
    | exact wpAny_bind (wpAny_bind (m := Builtin.Tuple.tupleExact _) (wpAny_newObj_type (wpAny_pure (wpAny_pure ⟨_, rfl, wpAny_pure h⟩)) htake))
    | exact wpAny_bind (wpAny_bind (m := Builtin.Tuple.tupleExact _) (wpAny_newObj_type (wpAny_pure ⟨_, rfl, wpAny_pure h⟩) htake))
end
end HT

namespace L2
open PySem PySem.Spec PyProof.Rows

/-! ### the parts of a slice -/
abbrev TO := St → Hp → (Option Int → Hp → Prop) → Prop
/-- a slice's part (left out, or an int) -/
def PO (X : Cx) (e : Option Expr) (t : TO) : Prop :=
  ∀ (pins : List (Addr × Obj)) (s : Shared) (σ : St) (H : Hp) (Q : Option Int → Hp → Prop), Inv X pins σ H s → t σ H Q →
    wpAny (model X.prog X.w) X.A (evalPart e X.env) (fun u s' => ∃ o H', Inv X pins σ H' s' ∧ IsPart u o ∧ Q o H') X.xe s
def tNoPart : TO := fun _ H Q => Q none H
def tPart (t : TE) : TO := fun σ H Q => t σ H fun x H1 => ∃ i, x = .int i ∧ Q (some i) H1

theorem intsAre_of {ns : List Int} : ∀ {us : List Value}, Vals (ns.map V.int) us → IntsAre us ns := by
  induction ns with
  | nil => intro us r; rw [List.map_nil] at r; cases r; exact .nil
  | cons n ns ih =>
    intro us r
    rw [List.map_cons] at r
    cases r with
    | cons r1 r2 =>
      obtain ⟨t, e⟩ := r1
      subst e
      exact .cons n t (ih r2)

section
variable {X : Cx} {e : Expr} {te : TE} {lo hi : Option Expr} {tl th : TO} {pos p2 : Pos}

theorem po_none : PO X none tNoPart := by
  intro pins s σ H Q I h
  rw [evalPart_none]
  exact wpAny_pure ⟨none, H, I, .none, h⟩
theorem po_some (h : PE X e te) : PO X (some e) (tPart te) := by
  intro pins s σ H Q I hw
  rw [evalPart_some]
  refine thn (h pins s σ H _ I hw) fun u s1 ⟨x, H1, I1, r1, q1⟩ => ?_
  obtain ⟨i, rfl, q⟩ := q1
  obtain ⟨t, rfl⟩ := r1
  exact ⟨some i, H1, I1, .int i t, q⟩

/-- what a slice of a value is, by values: the slice object stands at sl -/
def SlR (X : Cx) (r : V → Option Int → Option Int → Hp → VK → Prop) : Prop :=
  ∀ (pins : List (Addr × Obj)) (s : Shared) (σ : St) (H : Hp) (x : V) (v vl vu : Value) (lo hi : Option Int) (sl : Addr) (Q : VK), Inv X pins σ H s → RelV x v → s.heap.IsSliceOf sl vl vu .none → IsPart vl lo → IsPart vu hi → r x lo hi H Q →
    ∃ T id, typeLookup (.type T) "__getitem__" = pure (some (.builtin id)) ∧ s.TypeIs v T ∧ wpAny (model X.prog X.w) X.A (getItem v (.ref sl)) (EP X pins σ Q) X.xe s
theorem SlR.or {r r' : V → Option Int → Option Int → Hp → VK → Prop} (h : SlR X r) (h' : SlR X r') : SlR X (fun x lo hi H Q => r x lo hi H Q ∨ r' x lo hi H Q) := by
  intro pins s σ H x v vl vu lo hi sl Q I rx hs pl pu q
  rcases q with q | q
  · exact h pins s σ H x v vl vu lo hi sl Q I rx hs pl pu q
  · exact h' pins s σ H x v vl vu lo hi sl Q I rx hs pl pu q
def tSl (r : V → Option Int → Option Int → Hp → VK → Prop) (te : TE) (tl th : TO) : TE := fun σ H Q => te σ H fun x H1 => tl σ H1 fun l H2 => th σ H2 fun u H3 => r x l u H3 Q
/-- a[lo:hi], any a -/
theorem pe_slice {r : V → Option Int → Option Int → Hp → VK → Prop} (hr : SlR X r) (he : PE X e te) (hl : PO X lo tl) (hu : PO X hi th) : PE X (.Subscript e (.Slice lo hi none p2) pos) (tSl r te tl th) := by
  intro pins s σ H Q I h
  refine Subscript_ (thn (he pins s σ H _ I h) fun v s1 ⟨x, H1, I1, r1, q1⟩ => ?_)
  refine wpAny_Slice (thn (hl pins s1 σ H1 _ I1 q1) fun vl s2 ⟨l, H2, I2, pl, q2⟩ => thn (hu pins s2 σ H2 _ I2 q2) fun vu s3 ⟨u, H3, I3, pu, q3⟩ => ?_)
  rw [evalPart_none]
  refine wpAny_pure ?_
  have I4 : Inv X pins σ H3 { s3 with heap := s3.heap.push { cls := .type "slice", data := .fields #[vl, vu, .none] } } := I3.kept (t' := s3.toks) fun b ob q => Heap.get?_push_of_some _ q
  obtain ⟨T, id, hT, ht, hg⟩ := hr pins { s3 with heap := s3.heap.push { cls := .type "slice", data := .fields #[vl, vu, .none] } } σ H3 x v vl vu l u s3.heap.objs.size Q I4 r1 (Heap.IsSliceOf.new ..) pl pu q3
  show wpAny (model X.prog X.w) X.A (subscriptTail e (.Slice lo hi none p2) v (.ref s3.heap.objs.size)) (EP X pins σ Q) X.xe { s3 with heap := s3.heap.push { cls := .type "slice", data := .fields #[vl, vu, .none] } }
  exact tail_any (ops := [.ref s3.heap.objs.size, v]) ht hT hg (by with_unfolding_all rfl)

/-- the items of xs[lo:hi] -/
def cutV (xs : List V) (lo hi : Option Int) : List V := (xs.drop (HT.sIx xs.length 0 lo)).take (HT.sIx xs.length xs.length hi - HT.sIx xs.length 0 lo)
theorem cutV_length (xs : List V) (lo hi : Option Int) : (cutV xs lo hi).length ≤ xs.length := by
  unfold cutV
  rw [List.length_take, List.length_drop]
  omega
/-- t[lo:hi], not the whole of it (the whole would be t itself) -/
def rSlT (K : PySem.W.Frag) : V → Option Int → Option Int → Hp → VK → Prop := fun x lo hi H Q => ∃ a xs, x = .ref a ∧ SqT K H a xs ∧
  ¬ (HT.sIx xs.length 0 lo = 0 ∧ HT.sIx xs.length xs.length hi = xs.length) ∧ ∀ p, H p = none → Q (.ref p) (upd H p (.tup (cutV xs lo hi)))
theorem sl_tup : SlR X (rSlT X.K) := by
  intro pins s σ H x v vl vu lo hi sl Q I rx hs pl pu h
  obtain ⟨a, xs, rfl, hx, hw, q⟩ := h
  cases rx
  obtain ⟨its, r, ht, hz⟩ := I.tuple hx
  have hlen : its.toArray.size = xs.length := by rw [List.size_toArray]; exact r.length.symm
  refine ⟨"tuple", _, PyProof.Rows.slot_tuple_getitem.lookup, ht.typeIs, ?_⟩
  refine HT.getItem_tuple_cut ht hs pl pu (by rw [hlen]; exact hw) ?_ (by rw [hlen]; exact hz)
  rw [hlen]
  refine ⟨.ref s.heap.objs.size, _, I.laid (t' := s.toks) (o := .tup (cutV xs lo hi)) (fun b ob q => Heap.get?_push_of_some _ q) (Nat.le_refl _) ?_, rfl, q _ (I.hok.fresh (Nat.le_refl _))⟩
  exact ⟨Nat.le_trans (cutV_length xs lo hi) hz, _, (r.drop (HT.sIx xs.length 0 lo)).take (HT.sIx xs.length xs.length hi - HT.sIx xs.length 0 lo), IsTup.new _ _⟩

/-! ### t < u, t + u -/
def rLtT (K : PySem.W.Frag) : R2 := fun x y H Q => ∃ a b ns ms, x = .ref a ∧ y = .ref b ∧ SqT K H a (ns.map V.int) ∧ SqT K H b (ms.map V.int) ∧ Q (.bl (HT.lexLt ns ms)) H
theorem op_ltT (hu : X.A.units < cLine) : OpR X (compareOp .Lt) (rLtT X.K) := by
  intro pins s σ H x y v u Q I rx ry h
  obtain ⟨a, b, ns, ms, rfl, rfl, ha, hb, q⟩ := h
  cases rx
  cases ry
  obtain ⟨its, r1, p1, _⟩ := I.tuple ha
  obtain ⟨its2, r2, p2, _⟩ := I.tuple hb
  have i1 : IntsAre its.toArray.toList ns := intsAre_of r1
  have i2 : IntsAre its2.toArray.toList ms := intsAre_of r2
  exact HT.lt_tupInts p1 p2 i1 i2 hu ⟨.bl (HT.lexLt ns ms), H, I, rfl, q⟩
/-- t + u, t not empty: u empty gives t itself -/
def rCatT (K : PySem.W.Frag) : R2 := fun x y H Q => ∃ a b xs ys, x = .ref a ∧ y = .ref b ∧ SqT K H a xs ∧ SqT K H b ys ∧ xs ≠ [] ∧ xs.length + ys.length ≤ sizeLine ∧
  (ys = [] → Q (.ref a) H) ∧ (ys ≠ [] → ∀ p, H p = none → Q (.ref p) (upd H p (.tup (xs ++ ys))))
theorem Vals.nil_iff {xs : List V} {us : List Value} (r : Vals xs us) : us = [] ↔ xs = [] := by
  cases r with
  | nil => simp
  | cons _ _ => simp
theorem op_catT : OpR X (binaryOp .Add) (rCatT X.K) := by
  intro pins s σ H x y v u Q I rx ry h
  obtain ⟨a, b, xs, ys, rfl, rfl, ha, hb, hx, hz, q1, q2⟩ := h
  cases rx
  cases ry
  obtain ⟨its, r1, p1, _⟩ := I.tuple ha
  obtain ⟨its2, r2, p2, _⟩ := I.tuple hb
  refine HT.cat_tup p1 p2 (fun z => hx (r1.nil_iff.mp z)) (fun z => ⟨.ref a, H, I, rfl, q1 (r2.nil_iff.mp z)⟩) (fun z => ?_) (by rw [← r1.length, ← r2.length]; exact hz)
  refine ⟨.ref s.heap.objs.size, _, I.laid (t' := s.toks) (o := .tup (xs ++ ys)) (fun b ob q => Heap.get?_push_of_some _ q) (Nat.le_refl _) ?_, rfl, q2 (fun w => z (r2.nil_iff.mpr w)) _ (I.hok.fresh (Nat.le_refl _))⟩
  exact ⟨by rw [List.length_append]; exact hz, _, r1.append r2, IsTup.new _ _⟩
/-- tuple(t) -/
theorem call_tupleT : CallR X (.type "tuple") (fun xs H Q => ∃ a ys, xs = [.ref a] ∧ SqT X.K H a ys ∧ Q (.ref a) H) := by
  intro pins s σ H xs us Q I r h
  obtain ⟨a, ys, rfl, ha, q⟩ := h
  obtain ⟨u, rfl, ru⟩ := vals1 r
  cases ru
  obtain ⟨its, _, p1, _⟩ := I.tuple ha
  exact call_tuple_same (items := its.toArray) p1 ⟨.ref a, H, I, rfl, q⟩
end
end L2

namespace L2
open PySem PySem.Spec PyProof.Rows

/-! ### places -/
/-- the place that an index of any sign means -/
def ixN (n : Nat) (i : Int) : Option Nat := if 0 ≤ i then (if i < n then some i.toNat else none) else if -(n : Int) ≤ i then some (i + n).toNat else none
def atI {α : Type} (xs : List α) (i : Int) : Option α := (ixN xs.length i).bind fun j => xs[j]?
theorem ixN_seq {n : Nat} {i : Int} {j : Nat} (h : ixN n i = some j) : seqIndex? i n = some j ∧ j < n ∧ -(n : Int) ≤ i ∧ i < n := by
  unfold ixN at h
  by_cases h0 : 0 ≤ i
  · rw [if_pos h0] at h
    by_cases h1 : i < n
    · rw [if_pos h1] at h
      have e : i.toNat = j := Option.some.inj h
      exact ⟨by rw [seqIndex_of h0 h1, e], by omega, by omega, h1⟩
    · rw [if_neg h1] at h; cases h
  · rw [if_neg h0] at h
    by_cases h1 : -(n : Int) ≤ i
    · rw [if_pos h1] at h
      have e : (i + n).toNat = j := Option.some.inj h
      exact ⟨by rw [seqIndex_neg (by omega) h1, e], by omega, h1, by omega⟩
    · rw [if_neg h1] at h; cases h
theorem atI_get {α : Type} {xs : List α} {i : Int} {v : α} (h : atI xs i = some v) : ∃ j, seqIndex? i xs.length = some j ∧ xs[j]? = some v ∧ j < xs.length ∧ -(xs.length : Int) ≤ i ∧ i < xs.length := by
  unfold atI at h
  cases e : ixN xs.length i with
  | none => rw [e] at h; cases h
  | some j =>
    rw [e] at h
    obtain ⟨h1, h2, h3, h4⟩ := ixN_seq e
    exact ⟨j, h1, h, h2, h3, h4⟩
theorem atI_nat {α : Type} {xs : List α} {j : Nat} {v : α} (h : xs[j]? = some v) : atI xs (j : Int) = some v := by
  have hj : j < xs.length := (List.getElem?_eq_some_iff.mp h).1
  have e : ixN xs.length (j : Int) = some j := by
    unfold ixN
    rw [if_pos (by omega), if_pos (by omega)]; simp
  unfold atI; rw [e]; exact h
theorem atI_last {α : Type} (xs : List α) (v : α) : atI (xs ++ [v]) (-1) = some v := by
  have hl : (xs ++ [v]).length = xs.length + 1 := by simp
  have e : ixN (xs ++ [v]).length (-1) = some xs.length := by
    unfold ixN
    rw [hl, if_neg (by decide), if_pos (by omega)]
    congr 1
    omega
  unfold atI
  rw [e]
  show (xs ++ [v])[xs.length]? = some v
  simp

/-! ### what may be subscripted -/
/-- what stands as an index of a plain subscript -/
def PlainIx (b : Expr) : Prop := ∀ o i, subscripted b false o i = operate [o, i] (getItem o i)
/-- a subscript by values -/
def IxR (X : Cx) (r : R2) : Prop :=
  ∀ (value slice : Expr) (pins : List (Addr × Obj)) (s : Shared) (σ : St) (H : Hp) (x y : V) (v u : Value) (Q : VK), Inv X pins σ H s → RelV x v → RelV y u → r x y H Q →
    subscripted slice false v u = operate [v, u] (getItem v u) → wpAny (model X.prog X.w) X.A (subscriptTail value slice v u) (EP X pins σ Q) X.xe s
/-- a call of a builtin's method by values: the receiver, the arguments -/
def MtR (X : Cx) (id : String) (r : V → List V → Hp → VK → Prop) : Prop :=
  ∀ (pins : List (Addr × Obj)) (s : Shared) (σ : St) (H : Hp) (x : V) (xs : List V) (v : Value) (us : List Value) (Q : VK), Inv X pins σ H s → RelV x v → Vals xs us → r x xs H Q →
    wpAny (model X.prog X.w) X.A (call (.builtin id) (v :: us)) (EP X pins σ Q) X.xe s
section
variable {X : Cx} {a b : Expr} {ta tb : TE} {pos : Pos}
theorem IxR.or {r r' : R2} (h : IxR X r) (h' : IxR X r') : IxR X (fun x y H Q => r x y H Q ∨ r' x y H Q) := by
  intro value slice pins s σ H x y v u Q I rx ry q hs
  rcases q with q | q
  · exact h value slice pins s σ H x y v u Q I rx ry q hs
  · exact h' value slice pins s σ H x y v u Q I rx ry q hs
theorem MtR.or {id : String} {r r' : V → List V → Hp → VK → Prop} (h : MtR X id r) (h' : MtR X id r') : MtR X id (fun x xs H Q => r x xs H Q ∨ r' x xs H Q) := by
  intro pins s σ H x xs v us Q I rx rs q
  rcases q with q | q
  · exact h pins s σ H x xs v us Q I rx rs q
  · exact h' pins s σ H x xs v us Q I rx rs q
/-- a[b] -/
theorem pe_ix {r : R2} (hr : IxR X r) (ha : PE X a ta) (hb : PE X b tb) (hs : PlainIx b) : PE X (.Subscript a b pos) (tOp r ta tb) := by
  intro pins s σ H Q I h
  exact Subscript_ (binT ha hb I h fun v u s2 x y H2 I2 rx ry q => hr a b pins s2 σ H2 x y v u Q I2 rx ry q (hs _ _))

def rIxL (K : PySem.W.Frag) : R2 := fun x y H Q => ∃ p xs i v, x = .ref p ∧ y = .int i ∧ SqL K H p xs ∧ atI xs i = some v ∧ Q v H
def rIxT (K : PySem.W.Frag) : R2 := fun x y H Q => ∃ p xs i v, x = .ref p ∧ y = .int i ∧ SqT K H p xs ∧ atI xs i = some v ∧ Q v H
def rIxS : R2 := fun x y H Q => ∃ z i c, x = .str z ∧ y = .int i ∧ z.length ≤ sizeLine ∧ atI z.cps.toList i = some c ∧ Q (.str ⟨#[c]⟩) H
theorem ix_list : IxR X (rIxL X.K) := by
  intro value slice pins s σ H x y v u Q I rx ry h hs
  obtain ⟨p, xs, i, z, rfl, rfl, hq, he, q⟩ := h
  cases rx
  obtain ⟨t, rfl⟩ := ry
  obtain ⟨its, r, pl, hz⟩ := I.list hq
  obtain ⟨j, h1, h2, h3, h4, h5⟩ := atI_get he
  obtain ⟨w, ew, rw'⟩ := r.get h2
  have hl := r.length
  have hn := line63
  have fin : EP X pins σ Q w s := ⟨z, H, I, rw', q⟩
  by_cases h0 : 0 ≤ i
  · have hj : i.toNat = j := by
      rw [seqIndex_of h0 h5] at h1
      exact Option.some.inj h1
    exact item_listR pl.isList h0 (by omega) (by rw [hj]; simpa using ew) fin hs
  · have hj : (i + (its.toArray.size : Int)).toNat = j := by
      rw [seqIndex_neg (by omega) h4] at h1
      rw [List.size_toArray, ← hl]
      exact Option.some.inj h1
    exact subscriptTail_builtinR (x := w) pl.isList.typeIs slot_list_getitem.lookup
      (wpAny_getItem_list_neg (Q := fun r s' => r = w ∧ EP X pins σ Q r s') pl.isList (by omega) (by rw [List.size_toArray] <;> omega) (by omega) (by rw [hj]; simpa using ew) ⟨rfl, fin⟩) hs
theorem ix_tup : IxR X (rIxT X.K) := by
  intro value slice pins s σ H x y v u Q I rx ry h hs
  obtain ⟨p, xs, i, z, rfl, rfl, hq, he, q⟩ := h
  cases rx
  obtain ⟨t, rfl⟩ := ry
  obtain ⟨its, r, pl, hz⟩ := I.tuple hq
  obtain ⟨j, h1, h2, h3, h4, h5⟩ := atI_get he
  obtain ⟨w, ew, rw'⟩ := r.get h2
  have hl := r.length
  have hn := line63
  have fin : EP X pins σ Q w s := ⟨z, H, I, rw', q⟩
  exact subscriptTail_builtinR (x := w) pl.typeIs slot_tuple_getitem.lookup
    (getItem_tuple (j := j) (Q := fun r s' => r = w ∧ EP X pins σ Q r s') pl (by omega) (by omega) (by rw [List.size_toArray, ← hl]; exact h1) (by simpa using ew) ⟨rfl, fin⟩) hs
theorem ix_str : IxR X rIxS := by
  intro value slice pins s σ H x y v u Q I rx ry h hs
  obtain ⟨z, i, c, rfl, rfl, hz, he, q⟩ := h
  obtain ⟨t, rfl⟩ := rx
  obtain ⟨t', rfl⟩ := ry
  obtain ⟨j, h1, h2, h3, h4, h5⟩ := atI_get he
  have hl : z.cps.toList.length = z.length := by simp [Str.length]
  rw [hl] at h1 h4 h5
  have hn := line63
  exact tail_any (typeIs_str s z t) slot_str_getitem.lookup (getItem_str (c := c) (by
    have e1 : decide (i < -(2 ^ 63 : Int)) = false := decide_eq_false (by omega)
    have e2 : decide (i ≥ 2 ^ 63) = false := decide_eq_false (by omega)
    rw [e1, e2, Bool.or_false]) (by rw [h1]; simpa using h2) ⟨.str ⟨#[c]⟩, H, I.tok _, ⟨_, rfl⟩, q⟩) hs
/-- list, tuple or str -/
def rIx (K : PySem.W.Frag) : R2 := fun x y H Q => rIxL K x y H Q ∨ rIxT K x y H Q ∨ rIxS x y H Q
theorem ix_seq : IxR X (rIx X.K) := ix_list.or (ix_tup.or ix_str)

/-! ### xs[i] = v, any sign -/
/-- the list's object behind a store -/
theorem mapSeq_set (its : List Value) (n j : Nat) (u : Value) : Obj.mapSeq (·.setIfInBounds j u) { cls := .type "list", data := .seq its.toArray n } = { cls := .type "list", data := .seq (its.set j u).toArray n } := by
  simp [Obj.mapSeq]
theorem Inv.lst {pins : List (Addr × Obj)} {σ : St} {H : Hp} {s : Shared} {p : Addr} {xs : List V} (I : Inv X pins σ H s) (h : H p = some (.lst xs)) :
    ∃ (its : List Value) (n : Nat), Vals xs its ∧ s.heap.get? p = some { cls := .type "list", data := .seq its.toArray n } ∧ xs.length ≤ sizeLine := by
  obtain ⟨z, its, n, r, e⟩ := I.hok p _ h
  exact ⟨its, n, r, e, z⟩
/-- the list at p is written by an update of its object -/
theorem Inv.lstUpd {pins : List (Addr × Obj)} {σ : St} {H : Hp} {s : Shared} {p : Addr} {xs ys : List V} {its its' : List Value} {n n' : Nat} {f : Obj → Obj} (I : Inv X pins σ H s) (h : H p = some (.lst xs))
    (ho : s.heap.get? p = some { cls := .type "list", data := .seq its.toArray n }) (hf : f { cls := .type "list", data := .seq its.toArray n } = { cls := .type "list", data := .seq its'.toArray n' }) (r : Vals ys its') (hz : ys.length ≤ sizeLine) (t : Nat) :
    Inv X pins σ (upd H p (.lst ys)) { s with heap := s.heap.update p f, toks := t } := by
  have e : (s.heap.update p f).get? p = some { cls := .type "list", data := .seq its'.toArray n' } := by
    rw [Heap.get?_update_self f ho (by rw [hf] <;> rfl), hf]
  refine I.write (x := p) (e := p) (by rw [h]; trivial) (.inl rfl) (fun b u hb q => (Heap.get?_update_other _ _ (Ne.symm hb)).trans q) ⟨_, e⟩ ?_
  exact ⟨hz, its', n', r, e⟩
def rSetL : V → V → V → Hp → (Hp → Prop) → Prop := fun o i v H Q => ∃ p xs k j, o = .ref p ∧ i = .int k ∧ H p = some (.lst xs) ∧ ixN xs.length k = some j ∧ Q (upd H p (.lst (xs.set j v)))
theorem set_list : PSet X rSetL := by
  intro pins s σ H o i v ov iv u Q I ro ri rv h
  obtain ⟨p, xs, k, j, rfl, rfl, hp, hj, q⟩ := h
  cases ro
  obtain ⟨t, rfl⟩ := ri
  obtain ⟨its, n, r, ho, hz⟩ := I.lst hp
  obtain ⟨h1, h2, h3, h4⟩ := ixN_seq hj
  have hl := r.length
  have hn := line63
  have I' : Inv X pins σ (upd H p (.lst (xs.set j v))) { s with heap := s.heap.update p (Obj.mapSeq (·.setIfInBounds j u)) } :=
    I.lstUpd hp ho (mapSeq_set its n j u) (r.set rv j) (by rw [List.length_set]; exact hz) s.toks
  by_cases h0 : 0 ≤ k
  · have hk : k.toNat = j := by
      rw [seqIndex_of h0 h4] at h1
      exact Option.some.inj h1
    exact PySem.W.ki_setAt ho h0 (by omega) (by rw [List.size_toArray, ← hl]; exact h4) (by rw [hk]; exact ⟨_, I', q⟩)
  · have hk : (k + (its.toArray.size : Int)).toNat = j := by
      rw [seqIndex_neg (by omega) h3] at h1
      rw [List.size_toArray, ← hl]
      exact Option.some.inj h1
    exact PySem.W.ki_setBack ho (by omega) (by rw [List.size_toArray, ← hl]; exact h3) (by omega) (by rw [hk]; exact ⟨_, I', q⟩)

/-! ### slices -/
theorem slice_bounds (lo hi : Option Int) (n : Nat) : (sliceBounds lo hi none n).1 = ((HT.sIx n 0 lo : Nat) : Int) ∧ (sliceBounds lo hi none n).2.1 = ((HT.sIx n n hi : Nat) : Int) ∧ (sliceBounds lo hi none n).2.2 = 1 := by
  refine ⟨?_, ?_, rfl⟩
  · cases lo with
    | none => simp [sliceBounds, HT.sIx]
    | some i =>
      simp only [sliceBounds, HT.sIx, Option.getD_none, show (1 : Int) > 0 by decide, if_true]
      by_cases h : i < 0
      · simp only [h, if_true] <;> omega
      · simp only [h, if_false] <;> omega
  · cases hi with
    | none => simp [sliceBounds, HT.sIx]
    | some i =>
      simp only [sliceBounds, HT.sIx, Option.getD_none, show (1 : Int) > 0 by decide, if_true]
      by_cases h : i < 0
      · simp only [h, if_true] <;> omega
      · simp only [h, if_false] <;> omega
theorem slicePick_cut (its : List Value) (lo hi : Option Int) : slicePick its.toArray lo hi none = ((its.drop (HT.sIx its.length 0 lo)).take (HT.sIx its.length its.length hi - HT.sIx its.length 0 lo)).toArray := by
  obtain ⟨h1, h2, h3⟩ := slice_bounds lo hi its.toArray.size
  unfold slicePick
  rw [h1, h2, h3]
  simp only [sliceRange_one, pick_run, List.size_toArray] <;> rfl
/-- xs[lo:hi] of a list: a new list -/
def rSlL (K : PySem.W.Frag) : V → Option Int → Option Int → Hp → VK → Prop := fun x lo hi H Q => ∃ a xs, x = .ref a ∧ SqL K H a xs ∧ ∀ p, H p = none → Q (.ref p) (upd H p (.lst (cutV xs lo hi)))
theorem sl_list : SlR X (rSlL X.K) := by
  intro pins s σ H x v vl vu lo hi sl Q I rx hs pl pu h
  obtain ⟨a, xs, rfl, hx, q⟩ := h
  cases rx
  obtain ⟨its, r, ht, hz⟩ := I.list hx
  have hlen := r.length
  refine ⟨"list", _, slot_list_getitem.lookup, ht.isList.typeIs, ?_⟩
  refine wpAny_getItem_list_slice ht.isList hs pl pu .none (by simp) ?_ (by rw [List.size_toArray] <;> omega)
  rw [slicePick_cut, ← hlen]
  refine ⟨.ref s.heap.objs.size, _, I.laid (t' := s.toks) (o := .lst (cutV xs lo hi)) (fun b ob q => Heap.get?_push_of_some _ q) (Nat.le_refl _) ?_, rfl, q _ (I.hok.fresh (Nat.le_refl _))⟩
  exact ⟨Nat.le_trans (cutV_length xs lo hi) hz, _, 0, (r.drop (HT.sIx xs.length 0 lo)).take (HT.sIx xs.length xs.length hi - HT.sIx xs.length 0 lo), Heap.get?_push_size _ rfl⟩

/-! ### in, not in: flat items -/
def flatV : V → Bool
  | .non => true
  | .bl _ => true
  | .int _ => true
  | .str _ => true
  | _ => false
/-- == of flat values -/
def eqV : V → V → Bool
  | .non, .non => true
  | .bl a, .bl b => a == b
  | .bl a, .int b => (if a then 1 else 0) == b
  | .int a, .bl b => a == (if b then 1 else 0)
  | .int a, .int b => a == b
  | .str a, .str b => a == b
  | _, _ => false
theorem eqAt_V {A : Around} {s : Shared} {y x : V} {u v : Value} (ry : RelV y u) (rx : RelV x v) (fy : flatV y = true) (fx : flatV x = true) : SeqAt.EqAt A s u v (eqV y x) := by
  cases y with
  | non =>
    cases ry
    cases x with
    | non => cases rx; exact SeqAt.EqAt.same _
    | bl b => cases rx; exact SeqAt.EqAt.none_bool b
    | int b => obtain ⟨t, rfl⟩ := rx; exact SeqAt.EqAt.none_int b t
    | str b => obtain ⟨t, rfl⟩ := rx; exact SeqAt.EqAt.none_str b t
    | _ => exact absurd (show false = true from fx) Bool.false_ne_true
  | bl a =>
    cases ry
    cases x with
    | non => cases rx; exact SeqAt.EqAt.bool_none a
    | bl b => cases rx; exact SeqAt.EqAt.bool_bool a b
    | int b => obtain ⟨t, rfl⟩ := rx; exact SeqAt.EqAt.bool_int a b t
    | str b => obtain ⟨t, rfl⟩ := rx; exact SeqAt.EqAt.bool_str a b t
    | _ => exact absurd (show false = true from fx) Bool.false_ne_true
  | int a =>
    obtain ⟨t', rfl⟩ := ry
    cases x with
    | non => cases rx; exact SeqAt.EqAt.int_none a t'
    | bl b => cases rx; exact SeqAt.EqAt.int_bool a t' b
    | int b => obtain ⟨t, rfl⟩ := rx; exact SeqAt.EqAt.int_int a t' b t
    | str b => obtain ⟨t, rfl⟩ := rx; exact SeqAt.EqAt.int_str a t' b t
    | _ => exact absurd (show false = true from fx) Bool.false_ne_true
  | str a =>
    obtain ⟨t', rfl⟩ := ry
    cases x with
    | non => cases rx; exact SeqAt.EqAt.str_none a t'
    | bl b => cases rx; exact SeqAt.EqAt.str_bool a t' b
    | int b => obtain ⟨t, rfl⟩ := rx; exact SeqAt.EqAt.str_int a t' b t
    | str b => obtain ⟨t, rfl⟩ := rx; exact SeqAt.EqAt.str_str a t' b t
    | _ => exact absurd (show false = true from fx) Bool.false_ne_true
  | _ => exact absurd (show false = true from fy) Bool.false_ne_true
/-- the items' answers, read off the values (a value's own answer does not lean on its token) -/
def eqU (x : V) (u : Value) : Bool := match u with
  | .none => eqV .non x
  | .bool b => eqV (.bl b) x
  | .int i _ => eqV (.int i) x
  | .str z _ => eqV (.str z) x
  | _ => false
theorem eqU_of {x y : V} {u : Value} (r : RelV y u) (f : flatV y = true) : eqU x u = eqV y x := by
  cases y with
  | non => cases r; rfl
  | bl b => cases r; rfl
  | int i => obtain ⟨t, rfl⟩ := r; rfl
  | str z => obtain ⟨t, rfl⟩ := r; rfl
  | _ => exact absurd (show false = true from f) Bool.false_ne_true
theorem any_eqU {x : V} : ∀ {xs : List V} {us : List Value}, Vals xs us → xs.all flatV = true → us.any (eqU x) = xs.any fun y => eqV y x
  | _, _, .nil, _ => rfl
  | y :: xs, u :: us, .cons r t, f => by
    rw [List.all_cons, Bool.and_eq_true] at f
    rw [List.any_cons, List.any_cons, eqU_of r f.1, any_eqU t f.2]
theorem mem_eqAt {A : Around} {s : Shared} {x : V} {v : Value} (rx : RelV x v) (fx : flatV x = true) : ∀ {xs : List V} {us : List Value}, Vals xs us → xs.all flatV = true → ∀ u ∈ us, SeqAt.EqAt A s u v (eqU x u)
  | _, _, .nil, _ => fun u hu => by cases hu
  | y :: xs, u :: us, .cons r t, f => fun u' hu => by
    rw [List.all_cons, Bool.and_eq_true] at f
    rcases List.mem_cons.mp hu with rfl | hu
    · rw [eqU_of r f.1]; exact eqAt_V r rx f.1 fx
    · exact mem_eqAt rx fx t f.2 u' hu
def inV (x : V) (xs : List V) : Bool := xs.any fun y => eqV y x
/-- x in a list or tuple of flat items -/
def rIn (K : PySem.W.Frag) (neg : Bool) : R2 := fun x y H Q => ∃ p xs, y = .ref p ∧ (SqL K H p xs ∨ SqT K H p xs) ∧ flatV x = true ∧ xs.all flatV = true ∧ Q (.bl (if neg then !inV x xs else inV x xs)) H
theorem op_in_seq : OpR X (compareOp .In) (rIn X.K false) := by
  intro pins s σ H x y v u Q I rx ry h
  obtain ⟨p, xs, rfl, hq, fx, fs, q⟩ := h
  cases ry
  rcases hq with hq | hq
  · obtain ⟨its, r, pl, hz⟩ := I.list hq
    refine SeqAt.in_listAt (eqU x) pl.isList (fun w hw => mem_eqAt rx fx r fs w (by simpa using hw)) ⟨.bl _, H, I, rfl, ?_⟩
    rw [show its.toArray.any (eqU x) = its.any (eqU x) by simp, any_eqU r fs]
    exact q
  · obtain ⟨its, r, pl, hz⟩ := I.tuple hq
    refine SeqAt.in_tupleAt (eqU x) pl (fun w hw => mem_eqAt rx fx r fs w (by simpa using hw)) ⟨.bl _, H, I, rfl, ?_⟩
    rw [show its.toArray.any (eqU x) = its.any (eqU x) by simp, any_eqU r fs]
    exact q
theorem op_notIn_seq : OpR X (compareOp .NotIn) (rIn X.K true) := by
  intro pins s σ H x y v u Q I rx ry h
  obtain ⟨p, xs, rfl, hq, fx, fs, q⟩ := h
  cases ry
  rcases hq with hq | hq
  · obtain ⟨its, r, pl, hz⟩ := I.list hq
    refine SeqAt.notIn_listAt (eqU x) pl.isList (fun w hw => mem_eqAt rx fx r fs w (by simpa using hw)) ⟨.bl _, H, I, rfl, ?_⟩
    rw [show its.toArray.any (eqU x) = its.any (eqU x) by simp, any_eqU r fs]
    exact q
  · obtain ⟨its, r, pl, hz⟩ := I.tuple hq
    refine SeqAt.notIn_tupleAt (eqU x) pl (fun w hw => mem_eqAt rx fx r fs w (by simpa using hw)) ⟨.bl _, H, I, rfl, ?_⟩
    rw [show its.toArray.any (eqU x) = its.any (eqU x) by simp, any_eqU r fs]
    exact q
theorem op_notIn_str : OpR X (compareOp .NotIn) (fun x y H Q => ∃ i j, x = .str i ∧ y = .str j ∧ Q (.bl (!(!(Builtin.Str.occurrences j i 0 j.length 1).isEmpty))) H) := by
  intro pins s σ H x y v u Q I rx ry h
  obtain ⟨i, j, rfl, rfl, q⟩ := h
  obtain ⟨t, rfl⟩ := rx
  obtain ⟨t', rfl⟩ := ry
  exact notIn_str ⟨.bl _, H, I, rfl, q⟩

/-! ### len, list(x), tuple(x) of any list or tuple that is read -/
theorem call_len_seq : CallR X (.builtin "len") (fun xs H Q => ∃ p ys, xs = [.ref p] ∧ (SqL X.K H p ys ∨ SqT X.K H p ys) ∧ Q (.int ys.length) H) := by
  intro pins s σ H xs us Q I r h
  obtain ⟨p, ys, rfl, hq, q⟩ := h
  obtain ⟨u, rfl, rx⟩ := vals1 r
  cases rx
  have hn := line63
  rcases hq with hq | hq
  · obtain ⟨its, r', pl, hz⟩ := I.list hq
    have hlen := r'.length
    exact Calls.call_len_list pl.isList (by simp only [List.size_toArray] <;> omega) ⟨.int ys.length, H, I.tok _, ⟨s.toks + 1, by rw [List.size_toArray, hlen]⟩, q⟩
  · obtain ⟨its, r', pl, hz⟩ := I.tuple hq
    have hlen := r'.length
    exact len_tuple pl (by simp only [List.size_toArray] <;> omega) ⟨.int ys.length, H, I.tok _, ⟨s.toks + 1, by rw [List.size_toArray, hlen]⟩, q⟩
theorem call_len_str : CallR X (.builtin "len") (fun xs H Q => ∃ z, xs = [.str z] ∧ z.length ≤ sizeLine ∧ Q (.int z.length) H) := by
  intro pins s σ H xs us Q I r h
  obtain ⟨z, rfl, hz, q⟩ := h
  obtain ⟨u, rfl, t, rfl⟩ := vals1 r
  have hn := line63
  exact len_str (by omega) ⟨.int z.length, H, I.tok _, ⟨_, rfl⟩, q⟩
theorem CallR.or {f : Value} {r r' : List V → Hp → VK → Prop} (h : CallR X f r) (h' : CallR X f r') : CallR X f (fun xs H Q => r xs H Q ∨ r' xs H Q) := by
  intro pins s σ H xs us Q I rs q
  rcases q with q | q
  · exact h pins s σ H xs us Q I rs q
  · exact h' pins s σ H xs us Q I rs q
theorem call_list_of : CallR X (.type "list") (fun xs H Q => ∃ p ys, xs = [.ref p] ∧ (SqL X.K H p ys ∨ SqT X.K H p ys) ∧ ∀ l, H l = none → Q (.ref l) (upd H l (.lst ys))) := by
  intro pins s σ H xs us Q I r h
  obtain ⟨p, ys, rfl, hq, q⟩ := h
  obtain ⟨u, rfl, rx⟩ := vals1 r
  cases rx
  have fin : ∀ (its : List Value), Vals ys its → ys.length ≤ sizeLine → ∀ (h' : Heap) (c' : Nat), (∀ b o', s.heap.get? b = some o' → h'.get? b = some o') →
      h'.get? s.heap.objs.size = some { cls := .type "list", dict := none, data := .seq its.toArray c', slots := #[] } → EP X pins σ Q (.ref s.heap.objs.size) { s with heap := h' } := fun its r' hz h' c' kp e =>
    ⟨.ref s.heap.objs.size, _, I.laid (t' := s.toks) kp (Nat.le_refl _) (show ObjOk X.prog X.w _ h' _ (.lst ys) from ⟨hz, its, c', r', e⟩), rfl, q _ (I.hok.fresh (Nat.le_refl _))⟩
  rcases hq with hq | hq
  · obtain ⟨its, r', pl, hz⟩ := I.list hq
    have hlen := r'.length
    obtain ⟨o, ho, hc, n, hd⟩ := pl.isList
    exact call_list_seq p (.inl rfl) ho hc hd (fun h' c' kp e => fin its r' hz h' c' kp e) (by simp only [List.size_toArray] <;> omega)
  · obtain ⟨its, r', pl, hz⟩ := I.tuple hq
    have hlen := r'.length
    obtain ⟨o, ho, hc, n, hd⟩ := pl
    exact call_list_seq p (.inr rfl) ho hc hd (fun h' c' kp e => fin its r' hz h' c' kp e) (by simp only [List.size_toArray] <;> omega)
theorem call_tuple_of : CallR X (.type "tuple") (fun xs H Q => ∃ p ys, xs = [.ref p] ∧ ((SqL X.K H p ys ∧ ∀ l, H l = none → Q (.ref l) (upd H l (.tup ys))) ∨ (SqT X.K H p ys ∧ Q (.ref p) H))) := by
  intro pins s σ H xs us Q I r h
  obtain ⟨p, ys, rfl, h⟩ := h
  obtain ⟨u, rfl, rx⟩ := vals1 r
  cases rx
  rcases h with ⟨hq, q⟩ | ⟨hq, q⟩
  · obtain ⟨its, r', pl, hz⟩ := I.list hq
    have hlen := r'.length
    refine call_tuple_list pl.isList (fun h' kp => ?_) (by simp only [List.size_toArray] <;> omega)
    have I1 : Inv X pins σ H { s with heap := h' } := I.kept (t' := s.toks) kp
    have I2 : Inv X pins σ (upd H h'.objs.size (.tup ys)) { s with heap := h'.push { cls := .type "tuple", data := .seq its.toArray } } :=
      I1.laid (t' := s.toks) (fun b o e => Heap.get?_push_of_some _ e) (Nat.le_refl _) (show ObjOk X.prog X.w _ _ _ (.tup ys) from ⟨hz, its, r', IsTup.new _ _⟩)
    exact ⟨.ref h'.objs.size, _, I2, rfl, q _ (I1.hok.fresh (Nat.le_refl _))⟩
  · obtain ⟨its, r', pl, hz⟩ := I.tuple hq
    exact call_tuple_same pl ⟨.ref p, H, I, rfl, q⟩

/-! ### the call of a builtin's method: o.m(..) -/
/-- the value is of that builtin type -/
def tyV (K : PySem.W.Frag) (T : String) (x : V) (H : Hp) : Prop := match x with
  | .str _ => T = "str"
  | .int _ => T = "int"
  | .ref p => (T = "list" ∧ ∃ xs, SqL K H p xs) ∨ (T = "tuple" ∧ ∃ o, K.lookup p = some o ∧ o.cls = .type "tuple" ∧ o.dict = none) ∨
      (T = "dict" ∧ ((∃ kvs, H p = some (.dK kvs)) ∨ ∃ kvs, H p = some (.dT kvs))) ∨ (T = "set" ∧ ∃ S n, H p = some (.set S n))
  | _ => False
theorem tyV_is {pins : List (Addr × Obj)} {σ : St} {H : Hp} {s : Shared} {T : String} {x : V} {v : Value} (I : Inv X pins σ H s) (r : RelV x v) (ty : tyV X.K T x H) :
    s.TypeIs v T ∧ ∀ a, v = .ref a → ∃ ob, s.heap.get? a = some ob ∧ ob.dict = none := by
  cases x with
  | str z =>
    obtain ⟨t, rfl⟩ := r
    cases (show T = "str" from ty)
    exact ⟨typeIs_str s z t, fun _ e => nomatch e⟩
  | int i =>
    obtain ⟨t, rfl⟩ := r
    cases (show T = "int" from ty)
    exact ⟨typeIs_int s i t, fun _ e => nomatch e⟩
  | ref p =>
    cases r
    rcases ty with ⟨rfl, xs, hq⟩ | ⟨rfl, o, hk, hc, hd⟩ | ⟨rfl, hk⟩ | ⟨rfl, S, n, hk⟩
    · obtain ⟨its, _, pl, _⟩ := I.list hq
      refine ⟨pl.isList.typeIs, fun a e => ?_⟩
      cases e
      obtain ⟨o, n, e, c, hd, _⟩ := pl
      exact ⟨o, e, hd⟩
    · refine ⟨⟨o, I.kIn p o hk, hc⟩, fun a e => ?_⟩
      cases e
      exact ⟨o, I.kIn _ o hk, hd⟩
    · have z : ∃ o, s.heap.get? p = some o ∧ o.ExactDict := by
        rcases hk with ⟨kvs, hk⟩ | ⟨kvs, hk⟩
        · obtain ⟨_, _, _, _, o, _, _, e, ex, _⟩ := I.hok p _ hk
          exact ⟨o, e, ex⟩
        · obtain ⟨_, _, _, _, o, _, _, e, ex, _⟩ := I.hok p _ hk
          exact ⟨o, e, ex⟩
      obtain ⟨o, e, ex⟩ := z
      refine ⟨⟨o, e, ex.1⟩, fun a e2 => ?_⟩
      cases e2
      exact ⟨o, e, ex.2.1⟩
    · obtain ⟨o, _, _, _, e, ex, _⟩ := I.hok p _ hk
      refine ⟨⟨o, e, ex.1⟩, fun a e2 => ?_⟩
      cases e2
      exact ⟨o, e, ex.2.1⟩
  | _ => exact False.elim ty
def tBM0 (K : PySem.W.Frag) (T : String) (r : V → List V → Hp → VK → Prop) (to : TE) : TE := fun σ H Q => to σ H fun x H1 => tyV K T x H1 ∧ r x [] H1 Q
def tBM (K : PySem.W.Frag) (T : String) (r : V → List V → Hp → VK → Prop) (to : TE) (t : TA) : TE := fun σ H Q => to σ H fun x H1 => tyV K T x H1 ∧ t σ H1 fun xs H2 => r x xs H2 Q
variable {o e : Expr} {es : List Expr} {to : TE} {t : TA} {name : Str} {apos cpos : Pos} {T id : String} {r : V → List V → Hp → VK → Prop}
theorem pe_bm0 (pa : PlainAttrs T) (slot : Slot T name id) (hty : typeOf (.builtin id) = pure (.type "method_descriptor")) (hm : MtR X id r) (ho : PE X o to)
    (hbase : attributeBase o name X.env (eval o X.env) = eval o X.env := by rfl) (hline : (apos.endLine == cpos.line) = true := by rfl) : PE X (.Call (.Attribute o name apos) [] [] cpos) (tBM0 X.K T r to) := by
  intro pins s σ H Q I h
  refine wpAny_Call_method0_late hbase hline (thn (ho pins s σ H _ I h) fun v s1 ⟨x, H1, I1, r1, ty, q1⟩ => ?_)
  obtain ⟨h1, h2⟩ := tyV_is I1 r1 ty
  exact ⟨T, id, pa, slot, hty, h1, h2, Calls.callWith_builtin rfl (PySem.evalArgs_none (hm pins s1 σ H1 x [] v [] Q I1 r1 .nil q1))⟩
theorem pe_bm (pa : PlainAttrs T) (slot : Slot T name id) (hty : typeOf (.builtin id) = pure (.type "method_descriptor")) (hm : MtR X id r) (ho : PE X o to) (ha : PA X (e :: es) t)
    (hbase : attributeBase o name X.env (eval o X.env) = eval o X.env := by rfl)
    (hfew : ((backTo cpos (starEach (e :: es) X.env)).all (fun x => !x.1) && (backToKw cpos (keywordEach [] X.env)).all (fun x => x.1.isSome)
      && decide ((e :: es).length + ([] : List Keyword).length + (if ([] : List Keyword).isEmpty then 0 else 1) < 30)) = true := by rfl)
    (hline : (apos.endLine == cpos.line) = true := by rfl) (hs : starEach (e :: es) X.env = (false, eval e X.env) :: starEach es X.env := by rfl) (hplain : (backTo cpos (starEach es X.env)).any (·.1) = false := by rfl) :
    PE X (.Call (.Attribute o name apos) (e :: es) [] cpos) (tBM X.K T r to t) := by
  intro pins s σ H Q I h
  refine wpAny_Call_method_late hbase hfew hline rfl (thn (ho pins s σ H _ I h) fun v s1 ⟨x, H1, I1, r1, ty, q1⟩ => ?_)
  obtain ⟨h1, h2⟩ := tyV_is I1 r1 ty
  refine ⟨T, id, pa, slot, hty, h1, h2, ?_⟩
  have hA := ha cpos pins s1 σ H1 _ I1 q1
  rw [hs] at hA ⊢
  refine Calls.callWith_builtin (by show (false || (backTo cpos (starEach es X.env)).any (·.1)) = false; rw [hplain] <;> rfl) (Calls.evalArgs_plain ?_)
  exact thn hA fun us s2 ⟨vs, H2, I2, r2, q2⟩ => hm pins s2 σ H2 x vs v us Q I2 r1 r2 q2
/- xs.append(e), list.index on a module's tuple .. are MtR facts of 06m -/
end
end L2

namespace L2
open PySem PySem.Spec PyProof.Rows

def MtM (X : Cx) (id : String) (r : V → List V → Hp → VK → Prop) : Prop :=
  ∀ (pins : List (Addr × Obj)) (s : Shared) (σ : St) (H : Hp) (x : V) (xs : List V) (v : Value) (us : List Value) (Q : VK), Inv X pins σ H s → RelV x v → Vals xs us → r x xs H Q →
    wpAny (model X.prog X.w) X.A (call (.builtin id) (v :: us)) (EP X pins σ Q) X.xe s

/-! ### lists of values -/
theorem Vals.one : ∀ {x : V} {us : List Value}, Vals [x] us → ∃ u, us = [u] ∧ RelV x u
  | _, _, .cons r .nil => ⟨_, rfl, r⟩
theorem Vals.two : ∀ {x y : V} {us : List Value}, Vals [x, y] us → ∃ u v, us = [u, v] ∧ RelV x u ∧ RelV y v
  | _, _, _, .cons r (.cons q .nil) => ⟨_, _, rfl, r, q⟩
theorem Vals.zero : ∀ {us : List Value}, Vals [] us → us = []
  | _, .nil => rfl
theorem Vals.dropLast {xs : List V} {us : List Value} (h : Vals xs us) : Vals xs.dropLast us.dropLast := by
  induction h with
  | nil => exact .nil
  | cons r t ih =>
    cases t with
    | nil => exact .nil
    | cons q t' => exact .cons r ih
theorem Vals.eraseIdx : ∀ {xs : List V} {us : List Value} (i : Nat), Vals xs us → Vals (xs.eraseIdx i) (us.eraseIdx i)
  | _, _, _, .nil => .nil
  | _, _, 0, .cons _ t => t
  | _, _, i + 1, .cons r t => .cons r (Vals.eraseIdx i t)
theorem Vals.reverse {xs : List V} {us : List Value} (h : Vals xs us) : Vals xs.reverse us.reverse := by
  induction h with
  | nil => exact .nil
  | cons r t ih => rw [List.reverse_cons, List.reverse_cons]; exact Vals.append ih (.cons r .nil)
theorem Vals.rep {xs : List V} {us : List Value} (h : Vals xs us) : ∀ k : Nat, Vals (List.replicate k xs).flatten (List.replicate k us).flatten
  | 0 => .nil
  | k + 1 => by
    rw [List.replicate_succ, List.replicate_succ, List.flatten_cons, List.flatten_cons]
    exact Vals.append h (Vals.rep h k)
theorem erase_last {α : Type} (l : List α) : l.eraseIdx (l.length - 1) = l.dropLast := by
  induction l with
  | nil => rfl
  | cons a r ih =>
    cases r with
    | nil => rfl
    | cons b r =>
      have e : (a :: b :: r).length - 1 = ((b :: r).length - 1) + 1 := by
        have h1 : (a :: b :: r).length = r.length + 2 := rfl
        have h2 : (b :: r).length = r.length + 1 := rfl
        omega
      rw [e, List.eraseIdx_cons_succ, ih]
      all_goals rfl
theorem len_erase {α : Type} : ∀ (l : List α) (i : Nat), (l.eraseIdx i).length ≤ l.length
  | [], _ => Nat.le_refl _
  | _ :: _, 0 => Nat.le_succ _
  | _ :: r, i + 1 => Nat.succ_le_succ (len_erase r i)
theorem foldl_rep (its : List Value) : ∀ (k : Nat) (acc : List Value),
    List.foldl (fun x1 x2 => x1 ++ x2) acc.toArray (List.replicate k its.toArray) = (acc ++ (List.replicate k its).flatten).toArray
  | 0, acc => by simp
  | k + 1, acc => by
    have e : acc.toArray ++ its.toArray = (acc ++ its).toArray := by simp
    have e2 : (acc ++ its) ++ (List.replicate k its).flatten = acc ++ (List.replicate (k + 1) its).flatten := by
      rw [List.replicate_succ, List.flatten_cons, List.append_assoc]
    rw [← e2, ← foldl_rep its k (acc ++ its), ← e, List.replicate_succ, List.foldl_cons]

section
variable {X : Cx} {pins : List (Addr × Obj)} {σ : St} {H : Hp} {s : Shared} {l b : Addr} {xs ys zs : List V}

/-! ### the two steps: a tracked list is rewritten, a new list is laid -/
theorem Inv.lset {its its' : List Value} {n : Nat} {f : Array Value → Array Value} {t' : Nat} (I : Inv X pins σ H s) (hH : H l = some (.lst xs))
    (e : s.heap.get? l = some { cls := .type "list", data := .seq its.toArray n }) (hf : f its.toArray = its'.toArray) (hv : Vals ys its') (hz : ys.length ≤ sizeLine) :
    Inv X pins σ (upd H l (.lst ys)) { s with heap := s.heap.update l (Obj.mapSeq f), toks := t' } := by
  have q := PySem.IsL.update e f
  rw [hf] at q
  refine I.write (x := l) (e := l) (by rw [hH]; exact trivial) (.inl rfl) (fun b' u hb hu => (Heap.get?_update_other s.heap (Obj.mapSeq f) (Ne.symm hb)).trans hu) ⟨_, q⟩ ?_
  exact ⟨hz, its', _, hv, q⟩
theorem Inv.lnew {its : List Value} {t' : Nat} (I : Inv X pins σ H s) (hv : Vals ys its) (hz : ys.length ≤ sizeLine) :
    Inv X pins σ (upd H s.heap.objs.size (.lst ys)) { s with heap := s.heap.push { cls := .type "list", data := .seq its.toArray }, toks := t' } :=
  I.laid (fun _ _ q => Heap.get?_push_of_some _ q) (Nat.le_refl _) ⟨hz, its, 0, hv, Heap.get?_push_size _ rfl⟩
theorem Inv.fresh (I : Inv X pins σ H s) : H s.heap.objs.size = none := I.hok.fresh (Nat.le_refl _)
theorem Inv.lstM (I : Inv X pins σ H s) (hH : H l = some (.lst xs)) : xs.length ≤ sizeLine ∧ ∃ (its : List Value) (n : Nat), Vals xs its ∧ xs.length = its.length ∧ s.heap.get? l = some { cls := .type "list", data := .seq its.toArray n } := by
  obtain ⟨z, its, n, r, e⟩ := I.hok l _ hH
  exact ⟨z, its, n, r, r.length, e⟩

theorem notLongL {n : Nat} (h : n ≤ sizeLine) : Builtin.List.listTooLong n = false := by
  unfold Builtin.List.listTooLong
  exact decide_eq_false (by omega)
end

section
variable {X : Cx}

/-! ### methods -/
def rAppend : V → List V → Hp → VK → Prop := fun x vs H Q => ∃ l xs y, x = .ref l ∧ vs = [y] ∧ H l = some (.lst xs) ∧ xs.length < sizeLine ∧ Q .non (upd H l (.lst (xs ++ [y])))
theorem mt_append : MtM X "list.append" rAppend := by
  intro pins s σ H x vs v us Q I rx rv h
  obtain ⟨l, xs, y, rfl, rfl, hH, hz, q⟩ := h
  cases rx
  obtain ⟨u, rfl, ru⟩ := rv.one
  obtain ⟨z, its, n, r, hl, e⟩ := I.lstM hH
  refine call_meets F.slot_list_append ⟨_, e, rfl⟩ F.entry_list_append (F.args_list_append_2 _ _) (PySem.list_append l its.toArray n u (by rw [List.size_toArray]; omega)) ⟨e, ?_⟩
  refine ⟨.non, _, I.lset (its' := its ++ [u]) hH e (by simp) (r.append (.cons ru .nil)) ?_, rfl, q⟩
  rw [List.length_append, List.length_singleton]
  omega

def rExtend : V → List V → Hp → VK → Prop := fun x vs H Q => ∃ l b xs zs, x = .ref l ∧ vs = [.ref b] ∧ H l = some (.lst xs) ∧ H b = some (.lst zs) ∧ xs.length + zs.length ≤ sizeLine ∧ Q .non (upd H l (.lst (xs ++ zs)))
theorem mt_extend : MtM X "list.extend" rExtend := by
  intro pins s σ H x vs v us Q I rx rv h
  obtain ⟨l, b, xs, zs, rfl, rfl, hH, hB, hz, q⟩ := h
  cases rx
  obtain ⟨u, rfl, ru⟩ := rv.one
  cases ru
  obtain ⟨z, its, n, r, hl, e⟩ := I.lstM hH
  obtain ⟨z2, its2, n2, r2, hl2, e2⟩ := I.lstM hB
  have hsz : its.toArray.size + its2.toArray.size ≤ sizeLine := by rw [List.size_toArray, List.size_toArray]; omega
  have hlong : ¬ (!its.toArray.isEmpty && Builtin.List.listTooLong (its.toArray.size + its2.toArray.size)) = true := by
    rw [notLongL hsz, Bool.and_false]
    exact Bool.false_ne_true
  refine call_meets F.slot_list_extend ⟨_, e, rfl⟩ F.entry_list_extend (F.args_list_extend_2 _ _)
    (AutoSeq1.list_extend_list_list_0 l its.toArray n b its2.toArray n2 hlong (by rw [List.size_toArray]; omega) (by omega)) ⟨e, e2, ?_⟩
  refine ⟨.non, _, I.lset (its' := its ++ its2) hH e (by simp) (r.append r2) ?_, rfl, q⟩
  rw [List.length_append]
  omega

def rPop : V → List V → Hp → VK → Prop := fun x vs H Q => ∃ l xs y, x = .ref l ∧ vs = [] ∧ H l = some (.lst xs) ∧ xs[xs.length - 1]? = some y ∧ Q y (upd H l (.lst xs.dropLast))
theorem mt_pop : MtM X "list.pop" rPop := by
  intro pins s σ H x vs v us Q I rx rv h
  obtain ⟨l, xs, y, rfl, rfl, hH, hy, q⟩ := h
  cases rx
  have hus := rv.zero
  subst hus
  obtain ⟨z, its, n, r, hl, e⟩ := I.lstM hH
  obtain ⟨u, hu, ru⟩ := r.get hy
  have hy' : its.toArray[its.toArray.size - 1]? = some u := by
    show its.toArray[its.length - 1]? = some u
    rw [← Array.getElem?_toList, ← hl]
    exact hu
  refine call_meets F.slot_list_pop ⟨_, e, rfl⟩ F.entry_list_pop (F.args_list_pop_1 _) (MeetsSeq.list_pop_last l its.toArray n u hy' (by rw [List.size_toArray]; omega)) ⟨e, ?_⟩
  refine ⟨y, _, I.lset (its' := its.dropLast) hH e ?_ r.dropLast ?_, ru, q⟩
  · show its.toArray.eraseIdxIfInBounds (its.toArray.size - 1) = its.dropLast.toArray
    rw [List.size_toArray, List.eraseIdxIfInBounds_toArray, erase_last]
  · rw [List.length_dropLast]
    omega

def rPopAt : V → List V → Hp → VK → Prop := fun x vs H Q => ∃ l xs i k y, x = .ref l ∧ vs = [.int i] ∧ H l = some (.lst xs) ∧ -(2 ^ 63) ≤ i ∧ i < 2 ^ 63 ∧ seqIndex? i xs.length = some k ∧ xs[k]? = some y ∧ Q y (upd H l (.lst (xs.eraseIdx k)))
theorem mt_popAt : MtM X "list.pop" rPopAt := by
  intro pins s σ H x vs v us Q I rx rv h
  obtain ⟨l, xs, i, k, y, rfl, rfl, hH, h1, h2, hk, hy, q⟩ := h
  cases rx
  obtain ⟨u, rfl, ru⟩ := rv.one
  obtain ⟨t, rfl⟩ := ru
  obtain ⟨z, its, n, r, hl, e⟩ := I.lstM hH
  obtain ⟨w, hw, rw'⟩ := r.get hy
  refine call_meets F.slot_list_pop ⟨_, e, rfl⟩ F.entry_list_pop (F.args_list_pop_2 _ _)
    (MeetsSeq.list_pop_at l its.toArray n i t k w (fitsIndex_both h1 h2) (by rw [List.size_toArray, ← hl]; exact hk) (by rw [← Array.getElem?_toList]; exact hw) (by rw [List.size_toArray]; omega)) ⟨e, ?_⟩
  refine ⟨y, _, I.lset (its' := its.eraseIdx k) hH e ?_ (r.eraseIdx k) ?_, rw', q⟩
  · show its.toArray.eraseIdxIfInBounds k = (its.eraseIdx k).toArray
    rw [List.eraseIdxIfInBounds_toArray]
  · have := len_erase xs k
    omega

def rReverse : V → List V → Hp → VK → Prop := fun x vs H Q => ∃ l xs, x = .ref l ∧ vs = [] ∧ H l = some (.lst xs) ∧ Q .non (upd H l (.lst xs.reverse))
theorem mt_reverse : MtM X "list.reverse" rReverse := by
  intro pins s σ H x vs v us Q I rx rv h
  obtain ⟨l, xs, rfl, rfl, hH, q⟩ := h
  cases rx
  have hus := rv.zero
  subst hus
  obtain ⟨z, its, n, r, hl, e⟩ := I.lstM hH
  refine call_meets F.slot_list_reverse ⟨_, e, rfl⟩ F.entry_list_reverse (F.args_list_reverse_1 _) (AutoSeq1.list_reverse_list_0 l its.toArray n (by rw [List.size_toArray]; omega)) ⟨e, ?_⟩
  refine ⟨.non, _, I.lset (its' := its.reverse) hH e (by simp) r.reverse ?_, rfl, q⟩
  rw [List.length_reverse]
  omega

def rClear : V → List V → Hp → VK → Prop := fun x vs H Q => ∃ l xs, x = .ref l ∧ vs = [] ∧ H l = some (.lst xs) ∧ Q .non (upd H l (.lst []))
theorem mt_clear : MtM X "list.clear" rClear := by
  intro pins s σ H x vs v us Q I rx rv h
  obtain ⟨l, xs, rfl, rfl, hH, q⟩ := h
  cases rx
  have hus := rv.zero
  subst hus
  obtain ⟨z, its, n, r, hl, e⟩ := I.lstM hH
  refine call_meets F.slot_list_clear ⟨_, e, rfl⟩ F.entry_list_clear (F.args_list_clear_1 _) (AutoSeq1.list_clear_list_0 l its.toArray n (by rw [List.size_toArray]; omega)) ⟨e, ?_⟩
  exact ⟨.non, _, I.lset (its' := []) (ys := []) hH e rfl .nil (Nat.zero_le _), rfl, q⟩

/-! ### list + list, list += list, list * int -/
def rCat : R2 := fun x y H Q => ∃ l b xs zs, x = .ref l ∧ y = .ref b ∧ H l = some (.lst xs) ∧ H b = some (.lst zs) ∧ xs.length + zs.length ≤ sizeLine ∧ ∀ p, H p = none → Q (.ref p) (upd H p (.lst (xs ++ zs)))
theorem op_cat : OpR X (binaryOp .Add) rCat := by
  intro pins s σ H x y v u Q I rx ry h
  obtain ⟨l, b, xs, zs, rfl, rfl, hH, hB, hz, q⟩ := h
  cases rx
  cases ry
  obtain ⟨z, its, n, r, hl, e⟩ := I.lstM hH
  obtain ⟨z2, its2, n2, r2, hl2, e2⟩ := I.lstM hB
  refine PySem.P.add_list e e2 ?_ (by rw [List.size_toArray, List.size_toArray]; omega)
  have ea : its.toArray ++ its2.toArray = (its ++ its2).toArray := by simp
  rw [ea]
  exact ⟨.ref _, _, I.lnew (t' := s.toks) (r.append r2) (by rw [List.length_append]; omega), rfl, q _ I.fresh⟩
/-- a list times an int (a negative one is nothing) -/
def rRep : R2 := fun x y H Q => ∃ l k xs, x = .ref l ∧ y = .int k ∧ H l = some (.lst xs) ∧ -(2 ^ 63) ≤ k ∧ k < 2 ^ 63 ∧ xs.length * k.toNat ≤ sizeLine ∧
  ∀ p, H p = none → Q (.ref p) (upd H p (.lst (List.replicate k.toNat xs).flatten))
theorem len_rep {α : Type} (xs : List α) (k : Nat) : (List.replicate k xs).flatten.length = k * xs.length := by
  induction k with
  | zero => simp
  | succ k ih => rw [List.replicate_succ, List.flatten_cons, List.length_append, ih, Nat.succ_mul, Nat.add_comm]
theorem op_rep : OpR X (binaryOp .Mult) rRep := by
  intro pins s σ H x y v u Q I rx ry h
  obtain ⟨l, k, xs, rfl, rfl, hH, h1, h2, hz, q⟩ := h
  cases rx
  obtain ⟨t, rfl⟩ := ry
  obtain ⟨z, its, n, r, hl, e⟩ := I.lstM hH
  have hlen : its.toArray.size * k.toNat ≤ sizeLine := by rw [List.size_toArray, ← hl]; exact hz
  have hcap : ¬ its.toArray.size * k.toNat > (2 ^ 63 - 1) / 8 := by
    have : (sizeLine : Nat) ≤ (2 ^ 63 - 1) / 8 := by decide
    omega
  have hfit : ¬ (!Builtin.List.listFitsIndex k) = true := by
    rw [fitsIndex_both h1 h2]
    exact Bool.false_ne_true
  have hlong : ¬ Builtin.List.listTooLong (its.toArray.size * k.toNat) = true := by
    rw [notLongL hlen]
    exact Bool.false_ne_true
  have hnew : List.foldl (fun x1 x2 => x1 ++ x2) #[] (List.replicate (if its.toArray.isEmpty = true then 0 else k.toNat) its.toArray) = (List.replicate k.toNat its).flatten.toArray := by
    have f0 : ∀ m : Nat, List.foldl (fun x1 x2 => x1 ++ x2) #[] (List.replicate m its.toArray) = (List.replicate m its).flatten.toArray := fun m => by
      have := foldl_rep its m []
      rw [List.nil_append] at this
      exact this
    rw [f0]
    cases its with
    | nil => simp
    | cons a r' => rw [if_neg (by simp)]
  refine wpAny_binaryOp_repeat_ref (T := "list") (U := "int") (by decide) ⟨_, e, rfl⟩ (fun s' => typeIs_int s' k t) noFill_list_mul F.fills_int_mul F.slot_int_rmul repeat_list F.slot_int_index.lookup
    (call_meets F.slot_int_rmul (typeIs_int s k t) F.entry_int_rmul (F.args_int_rmul_2 _ _) (int___rmul___int_list k t l its.toArray n)
      ⟨e, rfl, ⟨_, e, rfl⟩, call_meets F.slot_list_mul ⟨_, e, rfl⟩ F.entry_list_mul (F.args_list_mul_2 _ _) (AutoListH.list___mul___list_int_3 l its.toArray n k t hfit hcap hlong) ⟨e, ?_⟩⟩)
  rw [hnew]
  exact ⟨.ref _, _, I.lnew (t' := s.toks) (r.rep k.toNat) (by rw [len_rep, Nat.mul_comm]; exact hz), rfl, q _ I.fresh⟩

/-! ### del xs[i] -/
theorem del_list {pins : List (Addr × Obj)} {s : Shared} {σ : St} {H : Hp} {l : Addr} {xs : List V} {i : Int} {t : Tok} {k : Nat} {Q : Unit → Shared → Prop} (I : Inv X pins σ H s) (hH : H l = some (.lst xs))
    (h1 : -(2 ^ 63) ≤ i) (h2 : i < 2 ^ 63) (hk : seqIndex? i xs.length = some k) (h : ∀ s', Inv X pins σ (upd H l (.lst (xs.eraseIdx k))) s' → Q () s') :
    wpAny (model X.prog X.w) X.A (delItem (.ref l) (.int i t)) Q X.xe s := by
  obtain ⟨z, its, n, r, hl, e⟩ := I.lstM hH
  refine PySem.P.delItem_list (k := k) e (fitsIndex_both h1 h2) (by rw [List.size_toArray, ← hl]; exact hk) (h _ ?_) (by rw [List.size_toArray]; omega)
  refine I.lset (its' := its.eraseIdx k) (t' := s.toks) hH e ?_ (r.eraseIdx k) ?_
  · show its.toArray.eraseIdxIfInBounds k = (its.eraseIdx k).toArray
    rw [List.eraseIdxIfInBounds_toArray]
  · have := len_erase xs k
    omega
end

/-! ### xs[a:b] = ys -/
section
variable {prog : Program} {w : World} {A : Around} {E : Value → Shared → Prop} {s : Shared}
theorem splice_eq (its its2 : List Value) (a c : Nat) : its.toArray.extract 0 a ++ its2.toArray ++ its.toArray.extract c its.toArray.size = (its.take a ++ its2 ++ its.drop c).toArray := by
  apply Array.toList_inj.mp
  first
    | (simp
       exact List.take_of_length_le (by simp))
    | simp [List.take_of_length_le]
    | simp
theorem bounds_run {a c n : Nat} (hac : a ≤ c) (hc : c ≤ n) : sliceBounds (some (a : Int)) (some (c : Int)) none n = ((a : Int), (c : Int), 1) := by
  simp only [sliceBounds, Option.getD_none]
  have h1 : ¬ ((a : Int) < 0) := by omega
  have h2 : ¬ ((c : Int) < 0) := by omega
  simp only [h1, h2, if_false, show (1 : Int) > 0 by decide, if_true]
  congr 1
  · omega
  · congr 1; omega
set_option maxRecDepth 100000 in
/-- list.__setitem__ with a slice of step one and another list -/
theorem setItem_slice {l b sl : Addr} {items new : Array Value} {n n2 : Nat} {vl vu : Value} {a c : Nat} {Q : Unit → Shared → Prop}
    (e : s.heap.get? l = some { cls := .type "list", data := .seq items n }) (e2 : s.heap.get? b = some { cls := .type "list", data := .seq new n2 }) (hne : l ≠ b)
    (hs : s.heap.IsSliceOf sl vl vu .none) (pl : IsPart vl (some (a : Int))) (pu : IsPart vu (some (c : Int))) (hac : a ≤ c) (hc : c ≤ items.size)
    (hsz : items.size + new.size ≤ sizeLine) (h : Q () { s with heap := s.heap.update l (Obj.mapSeq fun xs => xs.extract 0 a ++ new ++ xs.extract c xs.size) }) :
    wpAny (model prog w) A (setItem (.ref l) (.ref sl) (.ref b)) Q E s := by
  have hl : s.heap.IsList l items := PySem.IsL.isList e
  have hb : s.heap.IsList b new := PySem.IsL.isList e2
  obtain ⟨os, hos, hcs, hds⟩ := id hs
  have hTs : s.TypeIs (.ref sl) "slice" := ⟨os, hos, hcs⟩
  have hstep : ¬ ((rawPart none == rawInt 0) = true) := Bool.false_ne_true
  have hsame : Builtin.List.listSameRef (.ref l) (.ref b) = false := by
    unfold Builtin.List.listSameRef
    exact beq_eq_false_iff_ne.mpr hne
  have hmax : (max (a : Int) (c : Int)).toNat = c := by omega
  have hz' : ((fun xs : Array Value => xs.extract 0 a ++ new ++ xs.extract c xs.size) items).size ≤ sizeLine + 1 := by
    simp only [Array.size_append, Array.size_extract]
    omega
  unfold setItem
  try with_reducible refine wpAny_holding ?_
  first | refine wpAny_bind (wpAny_pure ?_) | skip
  refine wpAny_bind (wpAny_sequenceKey hl.typeIs (by decide) ?_)
  refine wpAny_bind (wpAny_callSpecial?_slot (name := Str.ofString "__setitem__") hl.typeIs slot_list_setitem
    (wpAny_call_entry slot_list_setitem hl.typeIs entry_list_setitem ?_ (args_list_setitem _ _ _)))
  show wpAny _ _ (Builtin.List.listSubscript? (.ref sl) >>= _) _ _ s
  refine wpAny_bind ?_
  unfold Builtin.List.listSubscript?
  refine wpAny_bind (wpAny_specialOf hTs slice_no_index ?_)
  simp only [Option.isNone_none, if_true]
  refine wpAny_pure ?_
  show wpAny _ _ (typeOf (.ref sl) >>= _) _ _ s
  refine wpAny_bind (wpAny_typeOf hTs ?_)
  first
    | rw [if_neg (by decide)]
    | refine PySem.W.KFB.if_not (by decide) ?_
  rw [listSliceParts_eq]
  refine wpAny_bind (wpAny_bind (wpAny_field hos hds (x := .none) rfl (wpAny_bind (wpAny_listPart .none ?_))))
  rw [if_neg hstep]
  refine wpAny_bind (wpAny_field hos hds (x := vl) rfl (wpAny_bind (wpAny_listPart pl ?_)))
  refine wpAny_bind (wpAny_field hos hds (x := vu) rfl (wpAny_bind (wpAny_listPart pu (wpAny_pure ?_))))
  first
    | simp only [hsame, Bool.false_eq_true, if_false]
    | refine PySem.W.KFB.if_not hsame ?_
    | (dsimp only
       rw [if_neg (by rw [hsame]; exact Bool.false_ne_true)])
  refine wpAny_bind (m := Builtin.List.listAllItems (.ref b) "must assign iterable to extended slice") ?_
  unfold Builtin.List.listAllItems
  refine wpAny_bind (wpAny_typeOf hb.typeIs ?_)
  first
    | refine PySem.W.KFB.if_so (by decide) ?_
    | rw [if_pos (by decide)]
    | simp only [beq_self_eq_true, Bool.true_or, if_true]
  unfold Builtin.List.listItems
  refine wpAny_bind (wpAny_seqItems e2 rfl (wpAny_pure ?_))
  refine wpAny_bind (wpAny_bind (wpAny_seqItems e rfl (wpAny_pure ?_)))
  refine wpAny_bind (wpAny_of_eq ((sliceIndices_raw (some (a : Int)) (some (c : Int)) none items.size (by simp)).trans (congrArg (pure : Int × Int × Int → Sem (Int × Int × Int)) (bounds_run hac hc))) ?_)
  show wpAny _ _ (if ((1 : Int) == 1) = true then _ else _) _ _ s
  rw [if_pos (by decide)]
  refine wpAny_bind (wpAny_rule ?_)
  first
    | simp only [notLongL hsz, Bool.false_eq_true, if_false]
    | refine PySem.W.KFB.if_not (notLongL hsz) ?_
  first | refine wpAny_bind (wpAny_pure ?_) | skip
  show wpAny _ _ (updateSeq l (fun xs => xs.extract 0 ((a : Int)).toNat ++ new ++ xs.extract (max (a : Int) (c : Int)).toNat xs.size) >>= _) _ _ s
  rw [hmax, Int.toNat_natCast]
  refine wpAny_bind (wpAny_updateSeq (hz := Nat.le_trans (Nat.le_add_right _ _) hsz) (_hz' := hz') e rfl ?_)
  refine wpAny_bind (wpAny_letGo ?_)
  first
    | exact wpAny_bind (wpAny_pure (wpAny_pure ⟨.none, rfl, wpAny_pure h⟩))
    | exact wpAny_pure ⟨.none, rfl, wpAny_pure h⟩
end

section
variable {X : Cx}
/-- xs[a:c] = ys of another list, at the value level: sl is the slice object that was just made -/
theorem set_slice {pins : List (Addr × Obj)} {s : Shared} {σ : St} {H : Hp} {l b sl : Addr} {xs ys : List V} {a c : Int} {vl vu : Value} {Q : Unit → Shared → Prop} (I : Inv X pins σ H s)
    (hH : H l = some (.lst xs)) (hB : H b = some (.lst ys)) (hne : l ≠ b) (hs : s.heap.IsSliceOf sl vl vu .none) (ra : RelV (.int a) vl) (rc : RelV (.int c) vu) (h0 : 0 ≤ a) (hac : a ≤ c) (hc : c ≤ xs.length)
    (hz : xs.length + ys.length ≤ sizeLine) (h : ∀ s', Inv X pins σ (upd H l (.lst (xs.take a.toNat ++ ys ++ xs.drop c.toNat))) s' → Q () s') :
    wpAny (model X.prog X.w) X.A (setItem (.ref l) (.ref sl) (.ref b)) Q X.xe s := by
  obtain ⟨ta, rfl⟩ := ra
  obtain ⟨tc, rfl⟩ := rc
  obtain ⟨z, its, n, r, hl, e⟩ := I.lstM hH
  obtain ⟨z2, its2, n2, r2, hl2, e2⟩ := I.lstM hB
  obtain ⟨a', rfl⟩ := Int.eq_ofNat_of_zero_le h0
  obtain ⟨c', rfl⟩ := Int.eq_ofNat_of_zero_le (Int.le_trans h0 hac)
  simp only [Int.toNat_natCast] at h
  refine setItem_slice (a := a') (c := c') e e2 hne hs (.int _ _) (.int _ _) (by omega) (by rw [List.size_toArray]; omega) (by rw [List.size_toArray, List.size_toArray]; omega) (h _ ?_)
  refine I.lset (its' := its.take a' ++ its2 ++ its.drop c') (t' := s.toks) hH e ?_ (Vals.append (Vals.append (r.take _) r2) (r.drop _)) ?_
  · exact splice_eq its its2 a' c'
  · rw [List.length_append, List.length_append, List.length_take, List.length_drop]
    omega
end
end L2

namespace Att
open PySem PySem.W PySem.Calls PyProof.Rows

/-! ### the script -/
theorem ints_of_wellAll {P : Params} {h : Heap} : ∀ (ns : List Int) (vs : List Value), WellAll P h vs (ns.map WData.int) → IntsAre vs ns := by
  intro ns
  induction ns with
  | nil =>
    intro vs w
    rw [List.map_nil] at w
    cases w
    exact .nil
  | cons n ns ih =>
    intro vs w
    rw [List.map_cons] at w
    cases w with
    | cons a b =>
      cases a
      exact .cons _ _ (ih _ b)

theorem script_of {l : OpenLaw} {n : Nat} (hn : l.most = some n) {P : Params} {h : Heap} {args : List WData} {vals : List Value}
    (hpre : l.row.toRowW.claim.pre args = true) (hwl : WellAll P h vals args) :
    ∃ a vs ns, vals = [Value.ref a] ∧ args = [WData.list (ns.map WData.int)] ∧ h.get? a = some { cls := .type "list", data := .seq vs.toArray } ∧ IntsAre vs ns ∧ ns.length ≤ n := by
  have hsh : WShape.hasAll [] args [.list .int] = true := (pre_splitW hpre).1
  have hc : l.pre.holds [] { args := args } = true := (pre_splitW hpre).2
  obtain ⟨d, r, rfl, h1, h2⟩ := hasAllW_cons hsh
  obtain rfl := hasAllW_nil h2
  obtain ⟨xs, rfl, h3⟩ := hasW_list h1
  obtain ⟨ns, rfl⟩ := items_int h3
  have hlen : ns.length ≤ n := by
    unfold OpenLaw.pre at hc
    have h4 : (WTm.not (.lt (.lit (.int (n : Int))) (.len (.arg 0)))).holds [] { args := [.list (ns.map .int)] } = true := by
      have h4 := (holds_andW hc).1
      rw [hn] at h4
      exact h4
    have h5 := condW_of h4 (w_not (w_lt w_lit (w_len_list (w_arg rfl))))
    rw [List.length_map] at h5
    refine Nat.le_of_not_lt fun q => ?_
    have q' : (n : Int) < ((ns.length : Nat) : Int) := by omega
    first
      | (rw [decide_eq_true q'] at h5; exact absurd h5 (by decide))
      | (simp at h5; omega)
  cases hwl with
  | cons w1 w2 =>
    cases w2
    cases w1 with
    | list ho hall => exact ⟨_, _, ns, rfl, rfl, ho, ints_of_wellAll ns _ hall, hlen⟩

theorem post_true (l : OpenLaw) (args : List WData) : l.row.toRowW.claim.post args (.bool true) args = true :=
  postW_of (r := l.row.toRowW) (X := (true == true))
    (show WShape.has [] (.bool true) .bool = true by first | rfl | decide | simp [WShape.has, WShape.arms, WShape.armsAll])
    (show (WTm.eq .res (.lit (.bool true))).value [] { args := args, res := some (.bool true), after := args } = some (.bool (true == true)) from w_eq_bool (w_res rfl) w_lit) rfl

/-! ### the attachment: holds_open's last premise (the goal 'hc' behind k_head) from a wpAny of the law's body -/
theorem attach {l : OpenLaw} {n : Nat} {q : Program} {loose : List Str} {XP : (Str → Option Value) → Heap → Prop} {YP : World → Heap → Prop} {d : DefRec} {x : Str}
    (hn : l.most = some n) (hdf : d.params.defaults = [])
    (hbind : ∀ pm cd doc v : Value, bindArgs (docDef d.name d.params d.body d.scope pm cd doc) ⟨[v], []⟩ = pure [(x, v)])
    (hx : d.scope.names.lookup x = some .local ∨ d.scope.names.lookup x = some .cell)
    (hk : d.scope.kind = .function) (hco : d.scope.isCoroutine = false) (hgen : d.scope.isGenerator = false)
    (body : ∀ (w : World) (s₀ s₁ s : Shared) (mg mb : Str → Option Value) (fa : Addr) (o : Obj) (pm cd doc : Value) (a : Addr) (vs : List Value) (ns : List Int),
      Ground q loose [] XP w s₀ mg mb s₁.heap → YP w s₁.heap →
      s₁.heap.get? fa = some o → o.data = .func (docDef d.name d.params d.body d.scope pm cd doc) → s₁.heap.CodeRec cd d.name → mg d.name = some (.ref fa) →
      s₁.heap.get? a = some { cls := .type "list", data := .seq vs.toArray } → IntsAre vs ns → ns.length ≤ n →
      s.gens = #[] → s.os = s₁.os →
      Fr s₁.heap s₁.heap.objs.size s.heap (bindL (envOfC d.name d.scope s₁.heap.objs.size fa cd).kindOf [(x, .ref a)] fun _ => none) →
      Cl s₁.heap.objs.size (cellsFrom (s₁.heap.objs.size + 1) d.scope.names []) s.heap (bindC (envOfC d.name d.scope s₁.heap.objs.size fa cd).kindOf [(x, .ref a)] fun _ => none) →
      wpAny (model l.prog w) (callerA.deeper (envOfC d.name d.scope s₁.heap.objs.size fa cd)) (execs d.body (envOfC d.name d.scope s₁.heap.objs.size fa cd))
        (fun f s' => f = .ret (.bool true) ∧ OldK s₁.heap s'.heap ∧ s'.os = s₁.os ∧ AllBare s'.gens) (fun _ _ => False) s) :
    WalkO q loose XP YP l.row.toRowW d [] (fun f vs => PySem.call f vs) := by
  intro w s₀ s₁ mg mb G Y fa o pm cd doc dV kV ho hd hcd hD hmg hg args vals as hpre hlay hrd hwl hlo
  obtain rfl : dV = .none := Dflts.none hD hdf
  obtain rfl : kV = .none := Dflts.noKw hD
  obtain ⟨a, vs, ns, rfl, rfl, hobj, hints, hlen⟩ := script_of hn hpre hwl
  refine enter_call ?_
  refine call_cells_ret (o := o) (by rw [depth_caller]; decide) ho (fd_plain hd) G.T.nolimit hcd (hbind pm cd doc (.ref a)) (fun y hy => ?_) (fun h₁ tk F X => ?_) hco hgen hk
  · obtain rfl : y = (x, Value.ref a) := List.mem_singleton.mp hy
    rcases hx with e | e
    · exact .inl e
    · exact .inr ⟨e, cellsFrom_some _ _ _ (.inl e)⟩
  · refine wpAny_mono (body w s₀ s₁ { s₁ with heap := h₁, toks := tk } mg mb fa o pm cd doc a vs ns G Y ho (fd_plain hd) hcd hmg hobj hints hlen hg rfl F X) (fun f s' hq => ?_) (fun _ _ hq => hq)
    obtain ⟨rfl, h2, h3, h4⟩ := hq
    exact ⟨.inl ⟨.bool true, .bool true, [], rfl, fun _ => rfl, .bool true, post_true l _, fun _ => ⟨List.Pairwise.nil, fun _ hm => (nomatch hm)⟩⟩, h2, h3, h4⟩

/-- the same from a codeAny of the CALL (for a layer whose function contracts speak of calls) -/
theorem attach_call {l : OpenLaw} {n : Nat} {q : Program} {loose : List Str} {XP : (Str → Option Value) → Heap → Prop} {YP : World → Heap → Prop} {d : DefRec}
    (hn : l.most = some n) (hdf : d.params.defaults = [])
    (call : ∀ (w : World) (s₀ s₁ : Shared) (mg mb : Str → Option Value) (fa : Addr) (o : Obj) (pm cd doc : Value) (a : Addr) (vs : List Value) (ns : List Int),
      Ground q loose [] XP w s₀ mg mb s₁.heap → YP w s₁.heap →
      s₁.heap.get? fa = some o → o.data = .func (docDef d.name d.params d.body d.scope pm cd doc) → s₁.heap.CodeRec cd d.name → mg d.name = some (.ref fa) →
      s₁.heap.get? a = some { cls := .type "list", data := .seq vs.toArray } → IntsAre vs ns → ns.length ≤ n → s₁.gens = #[] →
      codeAny (model l.prog w) callerA (.call (.ref fa) ⟨[.ref a], []⟩) (fun r s' => r = .ok (.ret (.bool true)) ∧ OldK s₁.heap s'.heap ∧ s'.os = s₁.os ∧ AllBare s'.gens) s₁) :
    WalkO q loose XP YP l.row.toRowW d [] (fun f vs => PySem.call f vs) := by
  intro w s₀ s₁ mg mb G Y fa o pm cd doc dV kV ho hd hcd hD hmg hg args vals as hpre hlay hrd hwl hlo
  obtain rfl : dV = .none := Dflts.none hD hdf
  obtain rfl : kV = .none := Dflts.noKw hD
  obtain ⟨a, vs, ns, rfl, rfl, hobj, hints, hlen⟩ := script_of hn hpre hwl
  refine enter_call (codeAny_mono (call w s₀ s₁ mg mb fa o pm cd doc a vs ns G Y ho (fd_plain hd) hcd hmg hobj hints hlen hg) fun r s' hq => ?_)
  obtain ⟨rfl, h2, h3, h4⟩ := hq
  exact ⟨.inl ⟨.bool true, .bool true, [], rfl, fun _ => rfl, .bool true, post_true l _, fun _ => ⟨List.Pairwise.nil, fun _ hm => (nomatch hm)⟩⟩, h2, h3, h4⟩

/-- the same where the top left finished generators (o_head chose holds_openN): nothing may have changed at all and no generator may be left -/
theorem attachN {l : OpenLaw} {n : Nat} {q : Program} {loose : List Str} {XP : (Str → Option Value) → Heap → Prop} {YP : World → Heap → Prop} {d : DefRec} {x : Str}
    (hn : l.most = some n) (hdf : d.params.defaults = [])
    (hbind : ∀ pm cd doc v : Value, bindArgs (docDef d.name d.params d.body d.scope pm cd doc) ⟨[v], []⟩ = pure [(x, v)])
    (hx : d.scope.names.lookup x = some .local ∨ d.scope.names.lookup x = some .cell)
    (hk : d.scope.kind = .function) (hco : d.scope.isCoroutine = false) (hgen : d.scope.isGenerator = false)
    (body : ∀ (w : World) (s₀ s₁ s : Shared) (mg mb : Str → Option Value) (fa : Addr) (o : Obj) (pm cd doc : Value) (a : Addr) (vs : List Value) (ns : List Int),
      Ground q loose [] XP w s₀ mg mb s₁.heap → YP w s₁.heap →
      s₁.heap.get? fa = some o → o.data = .func (docDef d.name d.params d.body d.scope pm cd doc) → s₁.heap.CodeRec cd d.name → mg d.name = some (.ref fa) →
      s₁.heap.get? a = some { cls := .type "list", data := .seq vs.toArray } → IntsAre vs ns → ns.length ≤ n →
      s.gens = #[] → s.os = s₁.os →
      Fr s₁.heap s₁.heap.objs.size s.heap (bindL (envOfC d.name d.scope s₁.heap.objs.size fa cd).kindOf [(x, .ref a)] fun _ => none) →
      Cl s₁.heap.objs.size (cellsFrom (s₁.heap.objs.size + 1) d.scope.names []) s.heap (bindC (envOfC d.name d.scope s₁.heap.objs.size fa cd).kindOf [(x, .ref a)] fun _ => none) →
      wpAny (model l.prog w) (callerA.deeper (envOfC d.name d.scope s₁.heap.objs.size fa cd)) (execs d.body (envOfC d.name d.scope s₁.heap.objs.size fa cd))
        (fun f s' => f = .ret (.bool true) ∧ (∀ b o, s₁.heap.get? b = some o → s'.heap.get? b = some o) ∧ s'.os = s₁.os ∧ s'.gens = #[]) (fun _ _ => False) s) :
    WalkN q loose XP YP l.row.toRowW d [] (fun f vs => PySem.call f vs) := by
  intro w s₀ s₁ mg mb G Y fa o pm cd doc dV kV ho hd hcd hD hmg hg args vals as hpre hlay hrd hwl hlo
  obtain rfl : dV = .none := Dflts.none hD hdf
  obtain rfl : kV = .none := Dflts.noKw hD
  obtain ⟨a, vs, ns, rfl, rfl, hobj, hints, hlen⟩ := script_of hn hpre hwl
  refine enter_callW ?_
  refine call_cells_ret (o := o) (by rw [depth_caller]; decide) ho (fd_plain hd) G.T.nolimit hcd (hbind pm cd doc (.ref a)) (fun y hy => ?_) (fun h₁ tk F X => ?_) hco hgen hk
  · obtain rfl : y = (x, Value.ref a) := List.mem_singleton.mp hy
    rcases hx with e | e
    · exact .inl e
    · exact .inr ⟨e, cellsFrom_some _ _ _ (.inl e)⟩
  · refine wpAny_mono (body w s₀ s₁ { s₁ with heap := h₁, toks := tk } mg mb fa o pm cd doc a vs ns G Y ho (fd_plain hd) hcd hmg hobj hints hlen hg rfl F X) (fun f s' hq => ?_) (fun _ _ hq => hq)
    obtain ⟨rfl, h2, h3, h4⟩ := hq
    exact ⟨.inl ⟨.bool true, .bool true, [], rfl, fun _ => rfl, .bool true, post_true l _, fun _ => ⟨List.Pairwise.nil, fun _ hm => (nomatch hm)⟩⟩, h2, h3, h4⟩

/-! ### rules over ANY heap (no ledger) from facts about the written part K: the library's own take a ledger (News) for what they write -/
section
variable {prog : Program} {w : World} {A : Around} {E : Value → Shared → Prop} {s : Shared} {K : Frag}

/-- a def of the module, or a method (qual 'C.m'), entered: the frame is the next address; cells behind it -/
theorem call_fn {R : Result → Shared → Prop} {name qual : Str} {params : Arguments} {body : List Stmt} {scope : Scope} {dV kV doc pm cdv ct oc : Value} {an od : Option Addr} {osl : Array (Option Value)} {f : Addr} {args : Args} {binds : List (Str × Value)}
    (X : K.In s.heap) (hlim : s.heap.NoLimit) (ho : K.lookup f = some ⟨oc, od, .func (fnOf name qual params body scope dV kV doc pm an cdv ct), osl⟩) (hcd : codeIn K cdv qual = true) (hroom : A.depth < recursionLimit)
    (hbind : BindsTo s (fnOf name qual params body scope dV kV doc pm an cdv ct) args binds)
    (hkind : (binds.all fun y => scope.names.lookup y.1 == some .local || scope.names.lookup y.1 == some .cell) = true)
    (h : ∀ s₁, InCallC s s.heap.objs.size (bindL (envOfC qual scope s.heap.objs.size f cdv).kindOf binds fun _ => none) (cellsFrom (s.heap.objs.size + 1) scope.names [])
        (bindC (envOfC qual scope s.heap.objs.size f cdv).kindOf binds fun _ => none) s₁ →
      wpAny (model prog w) (A.deeper (envOfC qual scope s.heap.objs.size f cdv)) (execs body (envOfC qual scope s.heap.objs.size f cdv))
        (fun fl s' => R (.ok (.ret (match fl with | .ret v => v | _ => .none))) s')
        (fun e s' => wpAny (model prog w) (A.deeper (envOfC qual scope s.heap.objs.size f cdv)) (leaving (envOfC qual scope s.heap.objs.size f cdv) e) (fun _ s'' => R (.error e) s'') (fun e' s'' => R (.error e') s'') s') s₁)
    (hco : scope.isCoroutine = false) (hgen : scope.isGenerator = false) (hk : scope.kind = .function) : codeAny (model prog w) A (.call (.ref f) args) R s := by
  refine codeAny_call_function hroom (X _ _ ho) rfl hco hgen rfl (codeRec_of X hcd) (hbind _ _ _ _ ?_)
  refine wpAny_newFunctionEnv_cells hk (kindsX hkind _) fun env he s₁ x => ?_
  subst he
  exact ⟨hlim.keeps x.toInCall.keep, codeAny_func (h s₁ x)⟩

/-- C(..): dict at size, instance at size + 1, then __init__ -/
theorem make_obj {R : Result → Shared → Prop} {C fI : Addr} {rest : List Value} {kw : List (Str × Value)}
    (X : K.In s.heap) (hm : makesIn K C = true) (hi : findIn K (.ref C) "__init__" = some (some (.ref fI))) (hf : isFn K (.ref fI) = true)
    (h : codeAny (model prog w) (A.under (.builtin "type.__call__" ⟨.ref C :: rest, kw⟩)) (.call (.ref fI) ⟨.ref (s.heap.objs.size + 1) :: rest, kw⟩) (InitBack (s.heap.objs.size + 1) R)
      { s with heap := (s.heap.push emptyDict).push (instObj C s.heap.objs.size) }) : codeAny (model prog w) A (.call (.ref C) ⟨rest, kw⟩) R s := by
  obtain ⟨hh, g, d, t, os⟩ := s
  exact make_core (makes_of X hm) (looks_findIn X hi) (fun self => bind_fn X self (beq_iff_eq.mp hf)) (.inl rfl) h

/-- x.name where the instance's dict holds the name and the class does not -/
theorem get_field {x C : Addr} {ox : Obj} {es : List DictEntry} {n : Nat} {name : Str} {expr : Bool} {v : Value} {Q : Value → Shared → Prop}
    (X : K.In s.heap) (I : PySem.W.InstAt s.heap x ox C (some (dictOf es n))) (hg : plainGet K C name = true) (hh : hasDictIn K C = true) (ha : findIn K (.ref C) name = some none)
    (hl : getL name es = some (some v)) (hv : handedIn v = true) (h : Q v { s with toks := s.toks + 1 }) : wpAny (model prog w) A (getAttr (.ref x) name expr) Q E s :=
  get_value X I (plainGet_of hg).1 (findObj_own hh ha rfl hl) hv h

/-- x.m(..): the method found in the class -/
theorem get_method {x C f : Addr} {ox : Obj} {es : List DictEntry} {n : Nat} {name : Str} {pl : Sem Bool} {Q : Value × List Value → Shared → Prop}
    (X : K.In s.heap) (I : PySem.W.InstAt s.heap x ox C (some (dictOf es n))) (hg : plainGet K C name = true) (hf : findIn K (.ref C) name = some (some (.ref f))) (ht : isFn K (.ref f) = true)
    (hl : getL name es = some none) (h : Q (.ref f, [.ref x]) s) : wpAny (model prog w) A (getMethod (.ref x) name pl) Q E s :=
  method_fn X I (plainGet_of hg).1 (plainGet_of hg).2 hf (beq_iff_eq.mp ht) (by show (lookIn name (dictOf es n)).map _ = _; rw [lookIn_dict, hl]; rfl) h

/-! the whole heap as the ledger: makes every rule that writes through a ledger a rule over any heap -/
def noObjs (h : Heap) : Heap := { h with objs := #[] }
theorem noObjs_get (h : Heap) (b : Addr) : (noObjs h).get? b = none := by
  cases e : (noObjs h).get? b with
  | none => rfl
  | some o => exact absurd (Heap.lt_size e) (Nat.not_lt_zero _)
def ledger (h : Heap) (L d : Addr) : List (Addr × Obj) := (List.range h.objs.size).filterMap fun a => if a = L ∨ a = d then none else (h.get? a).map fun o => (a, o)
theorem mem_ledger {h : Heap} {L d a : Addr} {o : Obj} : (a, o) ∈ ledger h L d ↔ a ≠ L ∧ a ≠ d ∧ h.get? a = some o := by
  unfold ledger
  rw [List.mem_filterMap]
  constructor
  · rintro ⟨b, _, e⟩
    split at e
    · cases e
    · rename_i hb
      obtain ⟨o', ho, e'⟩ := Option.map_eq_some_iff.mp e
      cases e'
      exact ⟨fun q => hb (.inl q), fun q => hb (.inr q), ho⟩
  · rintro ⟨n1, n2, ho⟩
    refine ⟨a, List.mem_range.mpr (Heap.lt_size ho), ?_⟩
    rw [if_neg (show ¬ (a = L ∨ a = d) from fun q => q.elim n1 n2), ho] <;> rfl
theorem news_ledger {h : Heap} {L d : Addr} {od : Obj} (hne : d ≠ L) (ho : h.get? d = some od) : News (noObjs h) L h ([] ++ (d, od) :: ledger h L d) := by
  rintro ⟨a, o⟩ hp
  rcases List.mem_cons.mp hp with e | hp
  · cases e
    exact ⟨ho, hne, noObjs_get _ _⟩
  · obtain ⟨n1, n2, e⟩ := mem_ledger.mp hp
    exact ⟨e, n1, noObjs_get _ _⟩
theorem fr_all {h : Heap} {L : Addr} {m : Str → Option Value} (n : h.Ns L m) : Fr (noObjs h) L h m :=
  ⟨n, fun b o e => (by rw [noObjs_get] at e; cases e), Nat.zero_le _⟩
/-- Upd of the head entry (for append_K, setItem_K ..) -/
theorem upd_ledger {h : Heap} {L d : Addr} {o o' : Obj} : Upd d o o' ((d, o) :: ledger h L d) ((d, o') :: ledger h L d) :=
  .head fun ⟨_, _⟩ hp => (mem_ledger.mp hp).2.1

/-- x.name = v over any heap: L is any namespace of the heap (the frame's, say): its map stays, its object is not told; all else but the dict stays -/
theorem set_field {x C dx L : Addr} {ox : Obj} {m : Str → Option Value} {es es' : List DictEntry} {n n' : Nat} {name : Str} {v : Value} {Q : Unit → Shared → Prop}
    (X : K.In s.heap) (I : PySem.W.InstAt s.heap x ox C (some (dictOf es n))) (hd : ox.dict = some dx) (hL : s.heap.Ns L m) (hne : dx ≠ L)
    (hs : findIn K (.ref C) "__setattr__" = some (some (.builtin "object.__setattr__"))) (hp : plainOver K C = true) (ht : takerIn K C name = some none) (hh : hasDictIn K C = true) (hl : (getL name es).isSome = true)
    (e : (putL name (PyData.keyHash w.params name) (.str name (s.toks + 1)) v es, putN name es n) = (es', n')) (hz : es'.length ≤ 1000)
    (h : ∀ h' : Heap, h'.Ns L m → h'.get? dx = some (dictOf es' n') → (∀ b o, b ≠ dx → b ≠ L → s.heap.get? b = some o → h'.get? b = some o) → Q () { s with heap := h', toks := s.toks + 2 }) :
    wpAny (model prog w) A (setAttr (.ref x) name v) Q E s := by
  obtain ⟨e1, e2⟩ := Prod.mk.inj e
  have hdx : s.heap.get? dx = some (dictOf es n) := by
    have := I.dict
    rw [hd] at this
    exact this
  refine set_plain X I hs (osa_dict (s := { s with toks := s.toks + 1 }) (h₀ := noObjs s.heap) (L := L) (m := m) (od := dictOf es n) (od' := dictOf es' n') (es := es') (n := n') (pre := []) (post := ledger s.heap L dx)
    (fr_all hL) (news_ledger hne hdx) X I hd hp ht hh hl (fun _ q => nomatch q) (fun ⟨_, _⟩ q => (mem_ledger.mp q).2.1) (by rw [putName_dict, e1, e2]) rfl hz fun h' F' N' => ?_)
  exact h h' F'.ns (N'.get (List.Mem.head _)) fun b o n1 n2 ho => N'.get (List.Mem.tail _ (mem_ledger.mpr ⟨n2, n1, ho⟩))
end
end Att

namespace L2
open PySem PySem.Spec PyProof.Rows

theorem vals_ints : ∀ {vs : List Value} {ns : List Int}, IntsAre vs ns → Vals (ns.map V.int) vs
  | _, _, .nil => .nil
  | _, _, .cons n t h => .cons ⟨t, rfl⟩ (vals_ints h)

/-- nothing is tracked but the script, known to the object (or it is an object of the module) -/
def Only (H : Hp) : Prop := ∀ b, H b = none ∨ ∃ o xs, H b = some (.frz o (.lst xs))

/-- THE HEAD: the law's promise, at the heap behind the top. F, the promise of the law's def, may use that base is part of the heap (so K.In base, base.Ns mainGlobals mg stand in Mod) -/
theorem law_call {P : Program} {w : World} {K : PySem.W.Frag} {mg mb : Str → Option Value} {CX : CXT} {k : Nat} {fa a : Addr} {fd : FuncData} {x : Str} {sp : Sp} {s₁ : Shared} {vs : List Value} {ns : List Int}
    (KX : K.In s₁.heap) (hns : s₁.heap.Ns mainGlobals mg) (hb : s₁.heap.Ns builtinsNs mb) (hbb : ∀ x : Str, x ≠ "__name__" → mb x = bootBuiltins x) (hlim : s₁.heap.NoLimit) (hg : s₁.gens = #[])
    (ha : s₁.heap.get? a = some { cls := .type "list", data := .seq vs.toArray }) (hi : IntsAre vs ns) (hl : ns.length ≤ sizeLine) (hr : Room k callerA)
    (F : ∀ base : Heap, K.In base → base.Ns mainGlobals mg → FnOk P w K mg base CX k fa fd [x] sp) (hbind : ∀ (s : Shared) (u : Value), BindsTo s fd ⟨[u], []⟩ [(x, u)])
    (hsp : ∀ H : Hp, Only H → SqL K H a (ns.map V.int) → sp [.ref a] H (fun v _ => v = .bl true) fun _ _ _ => False)
    (hCX : ∀ H e s', CX [] H s₁ (fun _ _ _ => False) e s' → False) :
    codeAny (model P w) callerA (.call (.ref fa) ⟨[.ref a], []⟩) (fun r s' => r = .ok (.ret (.bool true)) ∧ OldK s₁.heap s'.heap ∧ s'.os = s₁.os ∧ AllBare s'.gens) s₁ := by
  have rv := vals_ints hi
  have lenV := hi.length
  -- from an abstract heap in which nothing but the script may be tracked
  have core : ∀ H : Hp, Only H → SqL K H a (ns.map V.int) → HOk P w H s₁.heap → (∀ b, H b ≠ none → b = a) → (H a ≠ none → K.lookup a = none) →
      codeAny (model P w) callerA (.call (.ref fa) ⟨[.ref a], []⟩) (fun r s' => r = .ok (.ret (.bool true)) ∧ OldK s₁.heap s'.heap ∧ s'.os = s₁.os ∧ AllBare s'.gens) s₁ := by
    intro H hO hS hok hA hK
    have base_of : ∀ {b : Addr} {o : Obj}, s₁.heap.get? b = some o → H b = none → (hidT s₁.heap H).get? b = some o := fun e n => hidT_get e n
    have noA : ∀ {b : Addr} {o : Obj} {es : Array DictEntry} {ep : Nat}, s₁.heap.get? b = some o → o.data = .dict es ep → H b = none := fun {b o es ep} e d => by
      cases q : H b with
      | none => rfl
      | some u =>
        have e' : b = a := hA b (by rw [q]; simp)
        subst e'
        rw [ha] at e; cases e
        have d' : Data.seq vs.toArray _ = Data.dict es ep := d
        cases d'
    have nsK : ∀ {b : Addr} {m : Str → Option Value}, s₁.heap.Ns b m → (hidT s₁.heap H).Ns b m := fun {b m} ⟨o, es, ep, e, d, r⟩ => ⟨o, es, ep, base_of e (noA e d), d, r⟩
    have hKb : K.In (hidT s₁.heap H) := fun b o e => base_of (KX b o e) (by
      cases q : H b with
      | none => rfl
      | some u =>
        have e' : b = a := hA b (by rw [q]; simp)
        subst e'
        rw [hK (by rw [q]; simp)] at e; cases e)
    have hM : Mod K mg (hidT s₁.heap H) := ⟨hKb, nsK hns, ⟨mb, nsK hb, hbb⟩, let ⟨mc, h1, h2⟩ := hlim; ⟨mc, nsK h1, h2⟩⟩
    have e0 : Env0 P w K mg (hidT s₁.heap H) callerA [] s₁ H := ⟨rfl, hM, fun b o e => of_hidT e, Nat.le_of_eq (hidT_size _ _), trivial, fun b hb => absurd (show b ∈ ([] : List Addr) from hb) (by simp), hok, .of_eq hg⟩
    refine codeAny_mono ((F _ hKb (nsK hns)).run callerA [] s₁ H ⟨[.ref a], []⟩ [.ref a] [.ref a] _ _ hr e0 (hbind s₁ (.ref a)) (.cons rfl .nil) (hsp H hO hS)) fun r s' h => ?_
    cases r with
    | error e => exact (hCX H e s' h).elim
    | ok fl =>
      cases fl with
      | next => exact False.elim h
      | brk => exact False.elim h
      | cont => exact False.elim h
      | ret u =>
        obtain ⟨v, H', os, bare, un, hok', r', q⟩ := h
        have q' : v = .bl true := q
        subst q'
        obtain rfl : u = Value.bool true := r'
        refine ⟨rfl, OldK.of_keep fun b o e => ?_, os, bare⟩
        cases q : H b with
        | none => exact un.keep b o e q (by intro z; exact absurd (show b ∈ ([] : List Addr) from z) (by simp)) (by simp)
        | some u =>
          rcases hO b with z | ⟨ob, xs, z⟩
          · rw [q] at z; cases z
          · have z2 := un.frzs b ob _ z
            obtain ⟨e1, _⟩ := hok b _ z
            obtain ⟨e2, _⟩ := hok' b _ z2
            rw [e] at e1; cases e1
            exact e2
  cases hk : K.lookup a with
  | some o =>
    -- the script is one of the module's own objects
    have e := KX a o hk
    rw [ha] at e
    cases e
    refine core (fun _ => none) (fun _ => .inl rfl) (.inr ⟨_, vs.toArray, _, hk, rfl, rfl, rfl, by rw [List.size_toArray, lenV]; exact hl, by simpa using rv⟩) (fun b u z => by have z' : (none : Option HO) = some u := z; cases z') (fun b z => absurd rfl z) fun z => absurd rfl z
  | none =>
    refine core (fun b => if b = a then some (.frz { cls := .type "list", data := .seq vs.toArray } (.lst (ns.map V.int))) else none) (fun b => ?_) (.inl (.inr ⟨{ cls := .type "list", data := .seq vs.toArray }, if_pos rfl⟩)) (fun b u z => ?_) (fun b z => ?_) fun _ => hk
    · by_cases hb : b = a
      · exact .inr ⟨_, _, if_pos hb⟩
      · exact .inl (if_neg hb)
    · by_cases hb : b = a
      · have z' := (if_pos hb).symm.trans z
        cases z'
        subst hb
        exact ⟨ha, by rw [List.length_map]; exact hl, vs, _, rv, ha⟩
      · have z' := (if_neg hb).symm.trans z
        cases z'
    · by_cases hb : b = a
      · exact hb
      · exact absurd (if_neg hb) z
end L2

namespace L2
open PySem PySem.Spec PyProof.Rows

abbrev KOf {K : PySem.W.Frag} {h : Heap} (_ : K.In h) : PySem.W.Frag := K

/-- the goal that k_head leaves (case hc), from the law's promise. F gives the function object fd (K's own) once, then the promise over every base -/
theorem walk_of {l : PySem.W.OpenLaw} {n k : Nat} {q : Program} {loose : List Str} {XP : (Str → Option Value) → Heap → Prop} {YP : World → Heap → Prop} {d : DefRec} {K : Params → PySem.W.Frag} {CX : World → CXT} {sp : World → Sp} {x : Str}
    (hn : l.most = some n) (hn2 : n ≤ sizeLine) (hdf : d.params.defaults = []) (hr : Room k callerA)
    (hY : ∀ (w : World) (h : Heap), YP w h → (K w.params).In h)
    (F : ∀ (w : World) (mg : Str → Option Value) (fa : Addr) (h : Heap), (K w.params).In h → h.Ns mainGlobals mg → mg d.name = some (.ref fa) →
      ∃ fd : FuncData, (∀ (s : Shared) (u : Value), BindsTo s fd ⟨[u], []⟩ [(x, u)]) ∧
        ∀ base : Heap, (K w.params).In base → base.Ns mainGlobals mg → FnOk l.prog w (K w.params) mg base (CX w) k fa fd [x] (sp w))
    (hsp : ∀ (w : World) (H : Hp) (a : Addr) (ns : List Int), ns.length ≤ n → Only H → SqL (K w.params) H a (ns.map V.int) → sp w [.ref a] H (fun v _ => v = .bl true) fun _ _ _ => False)
    (hCX : ∀ (w : World) (H : Hp) (s : Shared) (e : Value) (s' : Shared), CX w [] H s (fun _ _ _ => False) e s' → False) :
    PySem.W.WalkO q loose XP YP l.row.toRowW d [] (fun f vs => PySem.call f vs) := by
  refine Att.attach_call hn hdf fun w s₀ s₁ mg mb fa o pm cd doc a vs ns G Y ho hd hcd hmg hobj hints hlen hg => ?_
  have KX := hY w _ Y
  obtain ⟨fd, hb, hF⟩ := F w mg fa _ KX G.T.g hmg
  exact law_call KX G.T.g G.T.b G.T.builtins G.T.nolimit hg hobj hints (Nat.le_trans hlen hn2) hr hF hb (fun H hO hS => hsp w H a ns hlen hO hS) fun H e s' => hCX w H s₁ e s'
/-- the same where the promise hangs on the written part alone: (sp := My.sp_law), no hole under a binder -/
theorem walk_ofK {l : PySem.W.OpenLaw} {n k : Nat} {q : Program} {loose : List Str} {XP : (Str → Option Value) → Heap → Prop} {YP : World → Heap → Prop} {d : DefRec} {K : Params → PySem.W.Frag} {CX : CXT} {sp : PySem.W.Frag → Sp} {x : Str}
    (hn : l.most = some n) (hn2 : n ≤ sizeLine) (hdf : d.params.defaults = []) (hr : Room k callerA)
    (hY : ∀ (w : World) (h : Heap), YP w h → (K w.params).In h)
    (F : ∀ (w : World) (mg : Str → Option Value) (fa : Addr) (h : Heap), (K w.params).In h → h.Ns mainGlobals mg → mg d.name = some (.ref fa) →
      ∃ fd : FuncData, (∀ (s : Shared) (u : Value), BindsTo s fd ⟨[u], []⟩ [(x, u)]) ∧
        ∀ base : Heap, (K w.params).In base → base.Ns mainGlobals mg → FnOk l.prog w (K w.params) mg base CX k fa fd [x] (sp (K w.params)))
    (hsp : ∀ (K : PySem.W.Frag) (H : Hp) (a : Addr) (ns : List Int), ns.length ≤ n → Only H → SqL K H a (ns.map V.int) → sp K [.ref a] H (fun v _ => v = .bl true) fun _ _ _ => False)
    (hCX : ∀ (H : Hp) (s : Shared) (e : Value) (s' : Shared), CX [] H s (fun _ _ _ => False) e s' → False) :
    PySem.W.WalkO q loose XP YP l.row.toRowW d [] (fun f vs => PySem.call f vs) :=
  walk_of (K := K) (CX := fun _ => CX) (sp := fun w => sp (K w.params)) hn hn2 hdf hr hY F (fun w H a ns h1 h2 h3 => hsp (K w.params) H a ns h1 h2 h3) fun _ H s e s' => hCX H s e s'
end L2

/- THE LAST THEOREM (shape; LID, My.* are yours):
   My.Adr: a structure of the addresses that your layer names (classes, functions); My.Txt K t: a structure (Prop) of the equations over K;
   My.txt_mk : {K} {implicit addresses ..} (e1 : nsIn K mainGlobals "law" = some (some (.ref f))) (e2 : K.lookup f = some ⟨oc, od, .func (fnOf "law" "law" params body scope dV kV doc pm an cdv ct), sl⟩) (e3 : codeIn K cdv "law" = true) .. : ∃ t, My.Txt K t

set_option maxRecDepth 100000 in
set_option maxHeartbeats 0 in
theorem PySem.Challenge.cw_LID_holds : PySem.Challenge.rw_LID.Holds := by
  w_on; o_law; k_head; (case hw => w_witness2)
  k_fill
  refine L2.walk_of (l := PySem.Challenge.rw_LID) (n := 63) (k := 40) (x := "script") (CX := fun w => ..) (sp := fun _ => My.sp_law) rfl (by decide) rfl ⟨rfl, by decide, by decide⟩ (fun w h Y => PySem.W.kIn_of Y) ?F ?S ?C
  case F =>
    intro w mg fa h KX G hmg
    have T : ∃ t, My.Txt (L2.KOf KX) t := by
      dsimp only [L2.KOf]                          -- K must stand as «<heap const> w.params» for k_is
      refine' My.txt_mk ?e1 ?e2 ?e3 ..
      (case e1 => PySem.W.k_is)                    -- in the order: a name -> its address -> its object -> its parts
      (case e2 => PySem.W.k_is)
      ..
    obtain ⟨t, T⟩ := T
    have e0 := hmg.symm.trans (PySem.W.mg_of KX G T.law)
    cases e0                                       -- fa is the law's own address
    exact ⟨_, fun s u => .of_eq rfl, fun base kb nb => My.law_fn T kb nb⟩     -- if «.of_eq rfl» comes too early: refine' ⟨_, ?b, fun base kb nb => My.law_fn T kb nb⟩; exact fun s u => .of_eq rfl
  case S => exact fun w H a ns hl hO hS => ..
  case C => exact ..
(the tactic k_is has no namespace: write k_is) -/

/-! SHORT WORDS over the layer: a def of the text, its body, what a loop and a test want. -/
namespace L2
open PySem PySem.Spec PyProof.Rows

/-! ### the text by places -/
/-- the j-th statement of a class's body -/
def inClass (s : Stmt) (j : Nat) : Stmt := match s with
  | .ClassDef _ _ _ body _ _ _ _ _ _ _ => body.getD j (.Pass ⟨0, 0, 0, 0⟩)
  | _ => .Pass ⟨0, 0, 0, 0⟩
def defArgs (s : Stmt) : Arguments := match s with
  | .FunctionDef _ a _ _ _ _ _ _ _ _ => a
  | _ => { posonlyargs := [], args := [], vararg := none, kwonlyargs := [], kw_defaults := [], kwarg := none, defaults := [] }
def defBody (s : Stmt) : List Stmt := match s with
  | .FunctionDef _ _ b _ _ _ _ _ _ _ => b
  | _ => []
def defScope (s : Stmt) : Scope := match s with
  | .FunctionDef _ _ _ _ _ _ sc _ _ _ => sc
  | _ => { kind := .function, names := [], isGenerator := false, isCoroutine := false }

/-! ### no exception leaves a def -/
abbrev CX0 : CXT := fun _ _ _ _ _ _ => False
abbrev E0 : XK := fun _ _ _ => False
theorem pass0 {X : Cx} : Passes CX0 X E0 := fun _ _ _ _ _ _ _ h => h.elim

/-! ### a def (or method) of the text as it stands behind the top -/
structure Fun (K : PySem.W.Frag) (x qual : Str) (st : Stmt) (f : Addr) (fd : FuncData) : Prop where
  ex : ∃ (oc : Value) (od : Option Addr) (kV doc pm : Value) (an : Option Addr) (cdv ct : Value) (osl : Array (Option Value)),
    fd = PySem.W.fnOf x qual (defArgs st) (defBody st) (defScope st) .none kV doc pm an cdv ct ∧ K.lookup f = some ⟨oc, od, .func fd, osl⟩ ∧ PySem.W.codeIn K cdv qual = true
  kp : PySem.W.keepIn K (.ref f) = true
section
variable {P : Program} {w : World} {K : PySem.W.Frag} {mg : Str → Option Value} {base : Heap}
/-- THE RULE for a def: its body as a term of rules, and the reading of that term -/
theorem Fun.ok {x qual : Str} {st : Stmt} {f : Addr} {fd : FuncData} {N ps : List Str} {k : Nat} {sp : Sp} (F : Fun K x qual st f fd) (S : FnScope N ps (defScope st)) (len : ∀ vs H Q E, sp vs H Q E → vs.length = ps.length)
    (hbody : ∀ (cdv : Value) (A : Around) (outer : List Env) (s : Shared) (H : Hp) (vs : List V) (Q : VK) (E : XK), Room k (A.deeper (envOfC qual (defScope st) s.heap.objs.size f cdv)) → sp vs H Q E →
      ∃ t, PSs (cxOf CX0 P w K mg base N qual (defScope st) f cdv A outer s H E).nox (defBody st) t ∧ t { nx := fun _ H' => Q .non H', rt := Q } (start N vs) H) : FnOk P w K mg base CX0 (k + 1) f fd ps sp := by
  obtain ⟨oc, od, kV, doc, pm, an, cdv, ct, osl, rfl, lk, hcd⟩ := F.ex
  refine fn_of lk hcd S len fun A outer s H vs Q E hr hsp => ?_
  obtain ⟨t, h, q⟩ := hbody cdv A outer s H vs Q E hr hsp
  exact ⟨t, h.nox, q⟩
/-- how its arguments bind (no defaults): h is «fun _ _ _ _ _ _ us hl => match us, hl with | [_, _], _ => rfl», one _ a parameter -/
theorem Fun.binds {x qual : Str} {st : Stmt} {f : Addr} {fd : FuncData} {ps : List Str} (F : Fun K x qual st f fd)
    (h : ∀ (kV doc pm : Value) (an : Option Addr) (cdv ct : Value) (us : List Value), us.length = ps.length → bindArgs (PySem.W.fnOf x qual (defArgs st) (defBody st) (defScope st) .none kV doc pm an cdv ct) ⟨us, []⟩ = pure (ps.zip us)) : Binds K fd ps [] := by
  obtain ⟨oc, od, kV, doc, pm, an, cdv, ct, osl, rfl, lk, hcd⟩ := F.ex
  exact .all (h kV doc pm an cdv ct)
theorem fun_mk {x qual : Str} {st : Stmt} {f : Addr} {oc : Value} {od an : Option Addr} {osl : Array (Option Value)} {kV doc pm cdv ct : Value} (l : K.lookup f = some ⟨oc, od, .func (PySem.W.fnOf x qual (defArgs st) (defBody st) (defScope st) .none kV doc pm an cdv ct), osl⟩)
    (c : PySem.W.codeIn K cdv qual = true) (k : PySem.W.keepIn K (.ref f) = true) : Fun K x qual st f (PySem.W.fnOf x qual (defArgs st) (defBody st) (defScope st) .none kV doc pm an cdv ct) := ⟨⟨oc, od, kV, doc, pm, an, cdv, ct, osl, rfl, l, c⟩, k⟩
end
theorem hu_of {A : Around} {k : Nat} (hr : Room k A) : A.units + 1 < cLine := Nat.lt_of_le_of_lt (Nat.add_le_add_left (by decide : 1 ≤ 64) _) hr.units
theorem small1000 {n : Nat} (h : n ≤ 1000) : n < sizeLine := Nat.lt_of_le_of_lt h (by decide)

/-! ### expressions in short: the name that stands in the i-th slot -/
section
variable {X : Cx}
theorem pv (i : Nat) {x : Str} {pos : Pos} (hN : X.N[i]? = some x := by rfl) (hv : Vis X.env.scope x := by first | exact Or.inl rfl | exact Or.inr (Or.inl rfl) | exact Or.inr (Or.inr rfl)) (hd : (x == ("__debug__" : Str)) = false := by decide)
    (hcd : (x == ("__classdict__" : Str)) = false := by decide) : PE X (.Name x pos) (tVar i) := pe_var hN hv hd hcd
end

/-! ### tests -/
theorem iteF {A B : Prop} (h : B) : if false = true then A else B := by
  rw [if_neg Bool.false_ne_true]
  exact h
theorem iteT {A B : Prop} (h : A) : if true = true then A else B := by
  rw [if_pos rfl]
  exact h
theorem ite2 {c A B : Prop} [Decidable c] (h1 : c → A) (h2 : ¬ c → B) : if c then A else B := by
  by_cases h : c
  · rw [if_pos h]
    exact h1 h
  · rw [if_neg h]
    exact h2 h
theorem iteNS {c A B : Prop} [Decidable c] (hc : c) (h : B) : if (!decide c) = true then A else B := by
  rw [decide_eq_true hc]
  exact iteF h

/-! ### heaps -/
/-- all that was tracked is as it was -/
def Same (H H' : Hp) : Prop := ∀ b o, H b = some o → H' b = some o
theorem Same.refl (H : Hp) : Same H H := fun _ _ h => h
theorem Same.trans {H H1 H2 : Hp} (a : Same H H1) (b : Same H1 H2) : Same H H2 := fun c o h => b c o (a c o h)
theorem Same.free {H H' : Hp} (e : Same H H') {l : Addr} (h : H' l = Option.none) : H l = Option.none := by
  cases q : H l with
  | none => rfl
  | some o =>
    rw [e l o q] at h
    cases h
theorem Same.seq {K : PySem.W.Frag} {H H' : Hp} {a : Addr} {xs : List V} (e : Same H H') (h : SqL K H a xs) : SqL K H' a xs := by
  rcases h with (h | ⟨o, h⟩) | h
  · exact .inl (.inl (e _ _ h))
  · exact .inl (.inr ⟨o, e _ _ h⟩)
  · exact .inr h

end L2

set_option Elab.async false
set_option linter.all false
set_option maxRecDepth 100000
set_option maxHeartbeats 4000000
/-! list comprehensions over the layer's contexts -/
namespace L2
open PySem PySem.Spec PyProof.Rows

/-! ### the names of a comprehension's block -/
/-- a block's slots at a turn's start: its own names are empty, the others stand as the def has them -/
def subOf (σ : St) : Option Nat → Option V
  | none => none
  | some j => (σ[j]?).join
def subSt (sub : List (Option Nat)) (σ : St) : St := sub.map (subOf σ)
theorem subSt_len (sub : List (Option Nat)) (σ : St) : (subSt sub σ).length = sub.length := by unfold subSt; simp
theorem subSt_get {sub : List (Option Nat)} {σ : St} {i : Nat} {v : V} (h : (subSt sub σ)[i]? = some (some v)) : ∃ j, sub[i]? = some (some j) ∧ σ[j]? = some (some v) := by
  unfold subSt at h
  rw [List.getElem?_map] at h
  cases e : sub[i]? with
  | none => rw [e] at h; cases h
  | some o =>
    rw [e] at h
    have h' : subOf σ o = some v := Option.some.inj h
    cases o with
    | none => cases h'
    | some j =>
      refine ⟨j, rfl, ?_⟩
      have h2 : (σ[j]?).join = some v := h'
      cases e2 : σ[j]? with
      | none => rw [e2] at h2; cases h2
      | some w => rw [e2] at h2; exact congrArg some h2

def compOk (N : List Str) (osc sc : Scope) (Nc : List Str) (sub : List (Option Nat)) : Bool :=
  decide (sc.kind = .function) && sc.names.all (fun y => decide (y.2 ≠ .cell)) && sc.names.all (fun y => !decide (y.2 = .local) || decide (sc.names.lookup y.1 = some .local)) && decide (sub.length = Nc.length) &&
  (Nc.zip sub).all (fun p => match p.2 with | none => true | some j => decide (N[j]? = some p.1) && decide (sc.names.lookup p.1 = some .free)) &&
  sc.names.all (fun y => !decide (y.2 = .free) || (decide (osc.names.lookup y.1 = some .cell) || decide (osc.names.lookup y.1 = some .free)))

structure CompScope (N : List Str) (osc sc : Scope) (Nc : List Str) (sub : List (Option Nat)) : Prop where
  kind : sc.kind = .function
  nocell : ∀ y ∈ sc.names, y.2 ≠ .cell
  names : ∀ y ∈ sc.names, y.2 = .local → sc.names.lookup y.1 = some .local
  len : sub.length = Nc.length
  vis : ∀ (i j : Nat) (x : Str), Nc[i]? = some x → sub[i]? = some (some j) → N[j]? = some x ∧ sc.names.lookup x = some .free
  frees : ∀ y ∈ sc.names, y.2 = .free → osc.names.lookup y.1 = some .cell ∨ osc.names.lookup y.1 = some .free
theorem CompScope.of {N : List Str} {osc sc : Scope} {Nc : List Str} {sub : List (Option Nat)} (h : compOk N osc sc Nc sub = true) : CompScope N osc sc Nc sub := by
  unfold compOk at h
  simp only [Bool.and_eq_true, List.all_eq_true, decide_eq_true_eq, Bool.or_eq_true, Bool.not_eq_true', decide_eq_false_iff_not] at h
  obtain ⟨⟨⟨⟨⟨h1, h2⟩, h3⟩, h4⟩, h5⟩, h6⟩ := h
  refine ⟨h1, h2, fun y hy e => (h3 y hy).elim (fun z => absurd e z) id, h4, fun i j x e1 e2 => ?_, fun y hy e => (h6 y hy).elim (fun z => absurd e z) id⟩
  have hz : (Nc.zip sub)[i]? = some (x, some j) := by
    rw [List.getElem?_zip_eq_some]
    exact ⟨e1, e2⟩
  have q := h5 (x, some j) (List.mem_of_getElem? hz)
  simp only [Bool.and_eq_true, decide_eq_true_eq] at q
  exact q

/-! ### the closure -/
def clOf (cells : List (Str × Addr)) : List (Str × NameKind) → List (Str × Addr) → List (Str × Addr)
  | [], acc => acc
  | (n, k) :: r, acc => clOf cells r (if k = .free then (n, (cells.lookup n).getD 0) :: acc else acc)
theorem closureFor_go {env : Env} : ∀ (names : List (Str × NameKind)) (acc : List (Str × Addr)), (∀ y ∈ names, y.2 = .free → ∃ c, env.cells.lookup y.1 = some c) →
    (forIn names acc fun x r => match x with | (name, kind) => if (kind == NameKind.free) = true then do let a ← cellOf env name; pure (ForInStep.yield ((name, a) :: r)) else pure (ForInStep.yield r) : Sem (List (Str × Addr))) = pure (clOf env.cells names acc) := by
  intro names
  induction names with
  | nil => intro acc _; rfl
  | cons y r ih =>
    intro acc h
    obtain ⟨n, k⟩ := y
    have ih' := ih (if k = .free then (n, (env.cells.lookup n).getD 0) :: acc else acc) fun y hy => h y (List.mem_cons_of_mem _ hy)
    rw [List.forIn_cons]
    by_cases hk : k = .free
    · subst hk
      obtain ⟨c, hc⟩ := h (n, .free) List.mem_cons_self rfl
      have e1 : cellOf env n = pure c := by unfold cellOf; rw [hc]
      simp only [beq_self_eq_true, if_true, e1, pure_bind]
      unfold clOf
      rw [hc] at ih' ⊢
      simpa using ih'
    · have hb : (k == NameKind.free) = false := by simpa using hk
      simp only [hb, Bool.false_eq_true, if_false, pure_bind]
      unfold clOf
      rw [if_neg hk] at ih' ⊢
      exact ih'
theorem clOf_mem {cells : List (Str × Addr)} : ∀ (names : List (Str × NameKind)) (acc : List (Str × Addr)), (∀ y ∈ names, y.2 = .free → ∃ c, cells.lookup y.1 = some c) → (∀ p ∈ acc, cells.lookup p.1 = some p.2) →
    ∀ p ∈ clOf cells names acc, cells.lookup p.1 = some p.2 := by
  intro names
  induction names with
  | nil => intro acc _ h; exact h
  | cons y r ih =>
    intro acc h ha
    obtain ⟨n, k⟩ := y
    refine ih _ (fun y hy => h y (List.mem_cons_of_mem _ hy)) ?_
    by_cases hk : k = .free
    · rw [if_pos hk]
      intro p hp
      rcases List.mem_cons.mp hp with e | e
      · subst e
        obtain ⟨c, hc⟩ := h (n, k) List.mem_cons_self hk
        show cells.lookup n = some ((cells.lookup n).getD 0)
        have hc' : cells.lookup n = some c := hc
        rw [hc']; rfl
      · exact ha p e
    · rw [if_neg hk]; exact ha
theorem clOf_keep {cells : List (Str × Addr)} {p : Str × Addr} : ∀ (names : List (Str × NameKind)) (acc : List (Str × Addr)), p ∈ acc → p ∈ clOf cells names acc := by
  intro names
  induction names with
  | nil => intro acc h; exact h
  | cons y r ih =>
    intro acc h
    obtain ⟨n, k⟩ := y
    refine ih _ ?_
    by_cases hk : k = .free
    · rw [if_pos hk]; exact List.mem_cons_of_mem _ h
    · rw [if_neg hk]; exact h
theorem clOf_has {cells : List (Str × Addr)} {x : Str} : ∀ (names : List (Str × NameKind)) (acc : List (Str × Addr)), (x, NameKind.free) ∈ names → ∃ c, (x, c) ∈ clOf cells names acc := by
  intro names
  induction names with
  | nil => intro acc h; cases h
  | cons y r ih =>
    intro acc h
    obtain ⟨n, k⟩ := y
    rcases List.mem_cons.mp h with e | e
    · cases e
      refine ⟨(cells.lookup x).getD 0, ?_⟩
      unfold clOf
      refine clOf_keep _ _ ?_
      rw [if_pos rfl]
      exact List.mem_cons_self
    · exact ih _ e
theorem lookup_of_mem {α : Type} {x : Str} {c : α} : ∀ {l : List (Str × α)}, (x, c) ∈ l → ∃ d, l.lookup x = some d
  | [], h => by cases h
  | (y, d) :: r, h => by
    by_cases e : x = y
    · subst e; exact ⟨d, by simp [List.lookup]⟩
    · have hb : (x == y) = false := beq_eq_false_iff_ne.mpr e
      rcases List.mem_cons.mp h with q | q
      · cases q; exact absurd rfl e
      · obtain ⟨d', q'⟩ := lookup_of_mem q
        exact ⟨d', by simp only [List.lookup, hb]; exact q'⟩
theorem closureFor_some {scope : Scope} {env : Env} (h : ∀ y ∈ scope.names, y.2 = .free → ∃ c, env.cells.lookup y.1 = some c) :
    ∃ cl, closureFor scope env = pure cl ∧ (∀ x c, cl.lookup x = some c → env.cells.lookup x = some c) ∧ ∀ x, scope.names.lookup x = some .free → ∃ c, cl.lookup x = some c := by
  refine ⟨clOf env.cells scope.names [], ?_, fun x c e => ?_, fun x e => ?_⟩
  · unfold closureFor
    show (forIn scope.names ([] : List (Str × Addr)) (fun x r => match x with | (name, kind) => if (kind == NameKind.free) = true then do let a ← cellOf env name; pure (ForInStep.yield ((name, a) :: r)) else pure (ForInStep.yield r)) >>= fun cs => pure cs : Sem (List (Str × Addr))) = _
    rw [closureFor_go scope.names [] h, pure_bind]
  · exact clOf_mem scope.names [] h (fun p hp => nomatch hp) (x, c) (PySem.mem_of_lookup e)
  · obtain ⟨c, hc⟩ := clOf_has (cells := env.cells) scope.names [] (PySem.mem_of_lookup e)
    exact lookup_of_mem hc

/-! ### the relabelled scope -/
theorem lookup_relabel_free {env : Env} : ∀ {names : List (Str × NameKind)} {x : Str}, names.lookup x = some .free →
    (names.map fun (n, k) => if (k == NameKind.free && env.scope.kind == .function && env.kindOf n == some .cell) then (n, NameKind.cell) else (n, k)).lookup x = some .cell ∨
    (names.map fun (n, k) => if (k == NameKind.free && env.scope.kind == .function && env.kindOf n == some .cell) then (n, NameKind.cell) else (n, k)).lookup x = some .free
  | [], _, h => by simp at h
  | (n, k) :: r, x, h => by
    have ih := @lookup_relabel_free env r x
    show List.lookup x ((if (k == NameKind.free && env.scope.kind == .function && env.kindOf n == some .cell) = true then (n, NameKind.cell) else (n, k)) :: _) = _ ∨ List.lookup x ((if (k == NameKind.free && env.scope.kind == .function && env.kindOf n == some .cell) = true then (n, NameKind.cell) else (n, k)) :: _) = _
    cases hx : x == n with
    | true =>
      simp only [List.lookup_cons, hx] at h
      cases h
      by_cases hc : (NameKind.free == NameKind.free && env.scope.kind == .function && env.kindOf n == some .cell) = true
      · rw [if_pos hc]; left; simp only [List.lookup_cons, hx]
      · rw [if_neg hc]; right; simp only [List.lookup_cons, hx]
    | false =>
      simp only [List.lookup_cons, hx] at h
      by_cases hc : (k == NameKind.free && env.scope.kind == .function && env.kindOf n == some .cell) = true
      · rw [if_pos hc]; simp only [List.lookup_cons, hx]; exact ih h
      · rw [if_neg hc]; simp only [List.lookup_cons, hx]; exact ih h
theorem relabel_free_of {env : Env} : ∀ {names : List (Str × NameKind)} {x : Str}, (∀ y ∈ names, y.2 ≠ .cell) →
    ((names.map fun (n, k) => if (k == NameKind.free && env.scope.kind == .function && env.kindOf n == some .cell) then (n, NameKind.cell) else (n, k)).lookup x = some .cell ∨
    (names.map fun (n, k) => if (k == NameKind.free && env.scope.kind == .function && env.kindOf n == some .cell) then (n, NameKind.cell) else (n, k)).lookup x = some .free) → names.lookup x = some .free
  | [], _, _, h => by simp at h
  | (n, k) :: r, x, nc, h => by
    have ih := @relabel_free_of env r x fun y hy => nc y (List.mem_cons_of_mem _ hy)
    have nk : k ≠ .cell := nc (n, k) List.mem_cons_self
    have h' : List.lookup x ((if (k == NameKind.free && env.scope.kind == .function && env.kindOf n == some .cell) = true then (n, NameKind.cell) else (n, k)) :: (r.map fun (n, k) => if (k == NameKind.free && env.scope.kind == .function && env.kindOf n == some .cell) then (n, NameKind.cell) else (n, k))) = some .cell ∨ List.lookup x ((if (k == NameKind.free && env.scope.kind == .function && env.kindOf n == some .cell) = true then (n, NameKind.cell) else (n, k)) :: (r.map fun (n, k) => if (k == NameKind.free && env.scope.kind == .function && env.kindOf n == some .cell) then (n, NameKind.cell) else (n, k))) = some .free := h
    clear h
    by_cases hc : (k == NameKind.free && env.scope.kind == .function && env.kindOf n == some .cell) = true
    · rw [if_pos hc] at h'
      have kf : k = .free := by
        rw [Bool.and_eq_true, Bool.and_eq_true] at hc
        exact beq_iff_eq.mp hc.1.1
      cases hx : x == n with
      | true => simp only [List.lookup_cons, hx]; rw [kf]
      | false => simp only [List.lookup_cons, hx] at h' ⊢; exact ih h'
    · rw [if_neg hc] at h'
      cases hx : x == n with
      | true =>
        simp only [List.lookup_cons, hx] at h' ⊢
        rcases h' with e | e
        · exact absurd (Option.some.inj e) nk
        · exact e
      | false => simp only [List.lookup_cons, hx] at h' ⊢; exact ih h'

/-! ### the context of a block -/
def cxComp (X : Cx) (Nc : List Str) (scope : Scope) (cl : List (Str × Addr)) (L : Addr) (s₀ : Shared) (H₀ : Hp) (ex : List Addr) : Cx :=
  { X with N := Nc, s₀ := s₀, H₀ := H₀, env := compEnvC scope cl L X.env, outer := X.stack, ex := ex, fn := fun _ => false, pn := [], xe := fun _ _ => False }

/-- a target stores own names alone -/
def GKeep (sub : List (Option Nat)) (g : TG) : Prop := ∀ v σ H (Q : St → Hp → Prop), g v σ H Q → g v σ H fun σ2 H2 => Q σ2 H2 ∧ ∀ (i j : Nat), sub[i]? = some (some j) → σ2[i]? = σ[i]?
def GKeeps (sub : List (Option Nat)) (g : TGs) : Prop := ∀ v σ H (Q : St → Hp → Prop), g v σ H Q → g v σ H fun σ2 H2 => Q σ2 H2 ∧ ∀ (i j : Nat), sub[i]? = some (some j) → σ2[i]? = σ[i]?
theorem gk_name {sub : List (Option Nat)} {i : Nat} (h : sub[i]? = some none) : GKeep sub (gName i) := fun v σ H Q q => by
  refine ⟨q, fun k j e => ?_⟩
  have ne : i ≠ k := fun z => by subst z; rw [h] at e; cases e
  rw [List.getElem?_set_ne ne]
theorem gks_nil {sub : List (Option Nat)} : GKeeps sub gNil := fun _ _ _ _ ⟨e, q⟩ => ⟨e, q, fun _ _ _ => rfl⟩
/-- monotone targets -/
def GMono (g : TG) : Prop := ∀ v σ H (Q Q' : St → Hp → Prop), (∀ σ2 H2, Q σ2 H2 → Q' σ2 H2) → g v σ H Q → g v σ H Q'
def GsMono (g : TGs) : Prop := ∀ v σ H (Q Q' : St → Hp → Prop), (∀ σ2 H2, Q σ2 H2 → Q' σ2 H2) → g v σ H Q → g v σ H Q'
theorem gm_name {i : Nat} : GMono (gName i) := fun _ _ _ _ _ f q => f _ _ q
theorem gms_nil : GsMono gNil := fun _ _ _ _ _ f ⟨e, q⟩ => ⟨e, f _ _ q⟩
theorem gms_cons {t : TG} {u : TGs} (h1 : GMono t) (h2 : GsMono u) : GsMono (gCons t u) := fun v σ H Q Q' f ⟨x, r, e, q⟩ => ⟨x, r, e, h1 _ _ _ _ _ (fun σ2 H2 z => h2 _ _ _ _ _ f z) q⟩
theorem gm_tup {K : PySem.W.Frag} {n : Nat} {t : TGs} (h : GsMono t) : GMono (gTup K n t) := fun v σ H Q Q' f ⟨a, xs, e, s, l, q⟩ => ⟨a, xs, e, s, l, h _ _ _ _ _ f q⟩
theorem gks_cons {sub : List (Option Nat)} {t : TG} {u : TGs} (h1 : GKeep sub t) (m1 : GMono t) (h2 : GKeeps sub u) (m2 : GsMono u) : GKeeps sub (gCons t u) := fun v σ H Q ⟨x, r, e, q⟩ => by
  refine ⟨x, r, e, ?_⟩
  refine m1 _ _ _ _ _ (fun σ2 H2 z => ?_) (h1 _ _ _ _ q)
  obtain ⟨z, k⟩ := z
  refine m2 _ _ _ _ _ (fun σ3 H3 y => ?_) (h2 _ _ _ _ z)
  exact ⟨y.1, fun i j e => (y.2 i j e).trans (k i j e)⟩
theorem gk_tup {K : PySem.W.Frag} {sub : List (Option Nat)} {n : Nat} {t : TGs} (h : GKeeps sub t) : GKeep sub (gTup K n t) := fun v σ H Q ⟨a, xs, e, s, l, q⟩ => ⟨a, xs, e, s, l, h _ _ _ _ q⟩

/-- the tests of a clause -/
def PIfs (X : Cx) (ifs : List Expr) (t : TT) : Prop :=
  ∀ (pins : List (Addr × Obj)) (s : Shared) (σ : St) (H : Hp) (Q : Bool → Hp → Prop), Inv X pins σ H s → t σ H Q →
    wpAny (model X.prog X.w) X.A (forIn ifs true fun c r => if r = true then do let ok ← isTrue c X.env (eval c X.env); pure (ForInStep.yield ok) else pure (ForInStep.yield r)) (TP X pins σ Q) X.xe s
def tNoIf : TT := fun _ H Q => Q true H
theorem pif0 {X : Cx} : PIfs X [] tNoIf := fun _ _ _ H _ I h => wpAny_tests_nil ⟨H, I, h⟩
theorem pif1 {X : Cx} {c : Expr} {t : TT} (h : PT X c t) : PIfs X [c] t := fun pins s σ H Q I q => wpAny_tests_one (h pins s σ H Q I q)

/-- a list's making: W by the turn, a measure, the items so far, the heap -/
def tLWalk (g : TG) (tc : TT) (te : TE) (σc : St) (l : Addr) (J : It) (H1 : Hp) (Q : VK) : Prop :=
  ∃ W : Nat → Nat → List V → Hp → Prop, (∃ m, W 0 m [] (upd H1 l (.lst []))) ∧ ∀ i m xs H2, W i m xs H2 → H2 l = some (.lst xs) ∧
    ((J.stop i H2 ∧ Q (.ref l) H2) ∨ (J.go i H2 ∧ ∃ N : List V → Hp → Prop, (∀ xs' H', N xs' H' → ∃ m', m' < m ∧ W (i + 1) m' xs' H') ∧
      ∀ x H', J.yld i H2 x H' → g x σc H' fun σ2 H3 => tc σ2 H3 fun b H4 => if b = true then te σ2 H4 fun y H5 => H5 l = some (.lst xs) ∧ xs.length < sizeLine ∧ N (xs ++ [y]) (upd H5 l (.lst (xs ++ [y]))) else N xs H4))
def tLComp (sub : List (Option Nat)) (wi : TI) (g : TG) (tc : TT) (te : TE) : TE := fun σ H Q => wi σ H fun J H1 => ∀ l, H1 l = none → tLWalk g tc te (subSt sub σ) l J H1 Q

section
variable {X : Cx} {pins : List (Addr × Obj)} {σ : St} {H : Hp} {s : Shared} {scope : Scope} {Nc : List Str} {sub : List (Option Nat)} {elt tg iter : Expr} {ifs : List Expr} {pos : Pos} {g : TG} {tc : TT} {te : TE}

theorem cxComp_ok {cl : List (Str × Addr)} {fp : List Addr} {it : Addr} {J : It} {tn : Nat → Heap → Prop} (I : Inv X pins σ H s) (hS : CompScope X.N X.env.scope scope Nc sub)
    (hcl : ∀ x c, cl.lookup x = some c → X.env.cells.lookup x = some c) (hcl2 : ∀ x, scope.names.lookup x = some .free → ∃ c, cl.lookup x = some c)
    (hf : ∀ b ∈ fp, FpOk X pins H b) (hlt : ∀ b ∈ fp, b < s.heap.objs.size) : (cxComp X Nc scope cl s.heap.objs.size s H fp).Ok where
  mod := I.ok.mod
  kind := hS.kind
  glob := I.ok.glob
  blt := I.ok.blt
  above := Nat.le_refl _
  inj := fun x y c e1 e2 => I.ok.inj x y c (hcl x c e1) (hcl y c e2)
  has := fun x h => hcl2 x (relabel_free_of (env := X.env) hS.nocell h)
  cab := fun x c h => by cases h
  hd := I.ok.hd
  frames := I.ok.frames
  stk := .inl rfl
  exf := fun b hb => ⟨Nat.ne_of_lt (hlt b hb), fun x c e => (hf b hb).2.2.2.2.1 x c (hcl x c e)⟩
  bs := I.bs
  bsz := Nat.le_trans I.ok.bsz I.sz
  noex := fun b o e hb => by
    rcases (hf b hb).2.2.2.1 with z | z
    · exact I.ok.noex b o e z
    · exact absurd (Nat.lt_of_lt_of_le (Heap.lt_size e) (Nat.le_trans I.ok.bsz z)) (Nat.lt_irrefl _)
  exfs := fun b hb hq => by
    rcases List.mem_cons.mp (I.stkSub b hq) with z | z
    · exact (hf b hb).2.1 z
    · exact (hf b hb).2.2.1 z
  funs := I.stack
  frf := I.stkFree

/-- the block's invariant at its start -/
theorem cxComp_start {cl : List (Str × Addr)} {fp : List Addr} {h1 : Heap} {t' : Nat} {m : Str → Option Value} (I : Inv X pins σ H s) (hS : CompScope X.N X.env.scope scope Nc sub)
    (hcl : ∀ x c, cl.lookup x = some c → X.env.cells.lookup x = some c) (hcl2 : ∀ x, scope.names.lookup x = some .free → ∃ c, cl.lookup x = some c)
    (ok : (cxComp X Nc scope cl s.heap.objs.size s H fp).Ok) (hn : h1.Ns s.heap.objs.size m) (hk : ∀ b o, s.heap.get? b = some o → h1.get? b = some o) :
    Inv (cxComp X Nc scope cl s.heap.objs.size s H fp) [] (subSt sub σ) H { s with heap := h1, toks := t' } where
  ok := ok
  os := rfl
  bare := I.bare
  base := Un.kept hk
  loc := by
    refine ⟨m, hn, fun i x v e1 e2 _ => ?_⟩
    obtain ⟨j, e3, e4⟩ := subSt_get e2
    obtain ⟨e5, e6⟩ := hS.vis i j x e1 e3
    obtain ⟨m', _, hl⟩ := I.loc
    have hfr : X.env.kindOf x = some .cell ∨ X.env.kindOf x = some .free := hS.frees (x, .free) (PySem.mem_of_lookup e6) rfl
    obtain ⟨u, r, l⟩ := hl j x v e5 e4 (.inr hfr)
    refine ⟨u, r, ?_⟩
    rcases l with ⟨k, _⟩ | ⟨_, c, e, z⟩
    · rcases hfr with q | q
      · rw [k] at q; cases q
      · rw [k] at q; cases q
    · obtain ⟨c', e'⟩ := hcl2 x e6
      have := hcl x c' e'
      rw [e] at this; cases this
      exact .inr ⟨lookup_relabel_free (env := X.env) e6, c, e', z.keeps hk⟩
  cell := fun x c e => by
    obtain ⟨v, z⟩ := I.cell x c (hcl x c e)
    exact ⟨v, z.keeps hk⟩
  free := I.hok.fresh (Nat.le_refl _)
  freeC := fun x c e => I.freeC x c (hcl x c e)
  pin := fun p hp => absurd (show p ∈ ([] : List (Addr × Obj)) from hp) (by simp)
  hok := I.hok.kept hk
  len := (subSt_len sub σ).trans hS.len

/-- behind the block -/
theorem cxComp_end {cl : List (Str × Addr)} {fp : List Addr} {pinsC : List (Addr × Obj)} {σc : St} {H' : Hp} {s' : Shared} (I : Inv X pins σ H s) (hf : ∀ b ∈ fp, FpOk X pins H b)
    (J : Inv (cxComp X Nc scope cl s.heap.objs.size s H fp) pinsC σc H' s') : Inv X pins σ H' s' :=
  I.call' (ch := fp) J.os J.base J.hok J.bare fun b hb => ⟨(hf b hb).2.2.2.1, (hf b hb).2.1, (hf b hb).2.2.2.2.1, (hf b hb).2.2.2.2.2⟩

/-- the block's run: RR is reached with the list made -/
theorem comp_run {cl : List (Str × Addr)} {fp : List Addr} {it : Addr} {J : It} {tn : Nat → Heap → Prop} {E : Value → Shared → Prop} {Q : VK} {RR : Value → Addr → Result → Shared → Prop}
    (hc : X.calm = true) (I : Inv X pins σ H s) (hS : CompScope X.N X.env.scope scope Nc sub)
    (hcl : ∀ x c, cl.lookup x = some c → X.env.cells.lookup x = some c) (hcl2 : ∀ x, scope.names.lookup x = some .free → ∃ c, cl.lookup x = some c)
    (T : Turn X.prog X.w X.K tg J fp it tn) (st : tn 0 s.heap) (hf : ∀ b ∈ fp, FpOk X pins H b)
    (hg : ∀ cl L s0 H0 ex, PG (cxComp X Nc scope cl L s0 H0 ex) tg g) (gk : GKeep sub g)
    (hi : ∀ cl L s0 H0 ex, PIfs (cxComp X Nc scope cl L s0 H0 ex) ifs tc) (he : ∀ cl L s0 H0 ex, PE (cxComp X Nc scope cl L s0 H0 ex) elt te)
    (gm : GMono g) (q : ∀ l, H l = none → tLWalk g tc te (subSt sub σ) l J H Q)
    (hRR : ∀ l C H' s' m, Inv X pins σ H' s' → Q (.ref l) H' → s'.heap.Ns C m → s.heap.objs.size ≤ C → H' C = none → RR (.ref l) C (.ok .next) s') :
    wpAny (model X.prog X.w) X.A (newList []) (fun acc s₃ => wpAny (model X.prog X.w) X.A (newFunctionEnv scope X.env.globals cl [] X.env.qual none .none (some X.env)) (fun cenv s₄ =>
      codeAny (model X.prog X.w) X.A (.compStart (.ListComp elt [⟨tg, iter, ifs, 0⟩] scope pos) 0 (.ref it) acc { cenv with scope := relabel scope X.env }) (RR acc cenv.locals) s₄) E s₃) E s := by
  have hlt : ∀ b ∈ fp, b < s.heap.objs.size := fun b hb => let ⟨o, e, _⟩ := T.obj _ _ st b hb; Heap.lt_size e
  have hl0 : H s.heap.objs.size = none := I.hok.fresh (Nat.le_refl _)
  obtain ⟨W, ⟨m0, w0⟩, turn⟩ := q s.heap.objs.size hl0
  refine wpAny_newObj_type ?_
  -- the list is laid
  have I3 : Inv X pins σ (upd H s.heap.objs.size (.lst [])) { s with heap := s.heap.push { cls := .type "list", data := .seq ([] : List Value).toArray }, toks := s.toks } := I.lnew (its := []) .nil (Nat.zero_le _)
  generalize hs3 : ({ s with heap := s.heap.push { cls := .type "list", data := .seq ([] : List Value).toArray }, toks := s.toks } : Shared) = s3 at I3
  have e3 : ({ s with heap := s.heap.push { cls := .type "list", data := .seq ([] : List Value).toArray } } : Shared) = s3 := hs3
  have k3 : ∀ b o, s.heap.get? b = some o → s3.heap.get? b = some o := fun b o e => by rw [← hs3]; exact Heap.get?_push_of_some _ e
  have z3 : s.heap.objs.size ≤ s3.heap.objs.size := by rw [← hs3]; show _ ≤ (s.heap.push _).objs.size; rw [Heap.size_push]; exact Nat.le_succ _
  have f3 : ∀ b ∈ fp, FpOk X pins (upd H s.heap.objs.size (.lst [])) b := fun b hb => ⟨by rw [upd_ne (Nat.ne_of_lt (hlt b hb))]; exact (hf b hb).1, (hf b hb).2⟩
  have lt3 : ∀ b ∈ fp, b < s3.heap.objs.size := fun b hb => Nat.lt_of_lt_of_le (hlt b hb) z3
  have st3 : tn 0 s3.heap := T.keep _ _ _ st fun b _ o e => k3 b o e
  refine wpAny_newFunctionEnv hS.nocell (by intro y hy; simp at hy) (fun h₁ hns₁ hsb₁ => ?_) hS.kind
  have k4 : ∀ b o, s3.heap.get? b = some o → h₁.get? b = some o := fun b o e => hsb₁.extBut b o (Nat.ne_of_lt (Heap.lt_size e)) (Heap.get?_push_of_some _ e)
  have ok4 := cxComp_ok (J := J) (it := it) (tn := tn) I3 hS hcl hcl2 f3 lt3
  have I4 := cxComp_start (t' := s3.toks + ([] : List (Str × Value)).length) I3 hS hcl hcl2 ok4 hns₁ k4
  have st4 : tn 0 h₁ := T.keep _ _ _ st3 fun b _ o e => k4 b o e
  -- what stays true of the iterator's objects
  have stat : ∀ {H' : Hp}, (∀ b ∈ fp, H' b = none) → ∀ b ∈ fp, FpOk (cxComp X Nc scope cl s3.heap.objs.size s3 (upd H s.heap.objs.size (.lst [])) fp) [] H' b := fun hn b hb =>
    ⟨hn b hb, (ok4.exf b hb).1, ok4.exfs b hb, .inl hb, (ok4.exf b hb).2, fun p hp => absurd (show p ∈ ([] : List (Addr × Obj)) from hp) (by simp)⟩
  have loop : ∀ s₄ : Shared, s₄ = { s3 with heap := h₁, toks := s3.toks + ([] : List (Str × Value)).length } →
      codeAny (model X.prog X.w) X.A (.compLoop (.ListComp elt [⟨tg, iter, ifs, 0⟩] scope pos) 0 (.ref it) (.ref s.heap.objs.size) (compEnvC scope cl s3.heap.objs.size X.env)) (RR (.ref s.heap.objs.size) s3.heap.objs.size) s₄ := by
    rintro s₄ rfl
    refine codeAny_loop rfl (fun n s' => ∃ i xs H', Inv (cxComp X Nc scope cl s3.heap.objs.size s3 (upd H s.heap.objs.size (.lst [])) fp) [] (subSt sub σ) H' s' ∧ tn i s'.heap ∧ (∀ b ∈ fp, H' b = none) ∧ W i n xs H') ?_ m0
      ⟨0, [], _, I4, st4, fun b hb => (f3 b hb).1, w0⟩
    rintro n s5 ⟨i, xs, H5, I5, st5, fr5, w5⟩
    show wpAny _ X.A ((compTurn (.ListComp elt [⟨tg, iter, ifs, 0⟩] scope pos) 0 (.ref it) (.ref s.heap.objs.size) (compEnvC scope cl s3.heap.objs.size X.env)).onRaise (fun x => do noteFrame x (compEnvC scope cl s3.heap.objs.size X.env); theTreesLotGoes x)) _ _ s5
    refine wpAny_noted ?_
    rw [compTurn_list]
    refine wpAny_bind (wpAny_standAt (wpAny_bind ?_))
    obtain ⟨hl5, w5⟩ := turn i n xs H5 w5
    rcases w5 with ⟨stop, qn⟩ | ⟨go, N, hN, step⟩
    · refine thn (T.done (cxComp X Nc scope cl s3.heap.objs.size s3 (upd H s.heap.objs.size (.lst [])) fp) rfl rfl rfl hc i [] s5 (subSt sub σ) H5 _ I5 (stat fr5) st5 stop) fun r s6 ⟨hr, I6⟩ => ?_
      subst hr
      obtain ⟨m6, hn6, _⟩ := I6.loc
      exact wpAny_pure (hRR _ _ H5 s6 m6 (cxComp_end I3 f3 I6) qn hn6 z3 I6.free)
    · refine thn (T.item (cxComp X Nc scope cl s3.heap.objs.size s3 (upd H s.heap.objs.size (.lst [])) fp) rfl rfl rfl hc i [] s5 (subSt sub σ) H5 _ I5 (stat fr5) st5 go) fun r s6 ⟨u, hr, h6⟩ => ?_
      subst hr
      refine wpAny_bind (thn h6 fun _ s7 ⟨x, H7, I7, r7, y7, st7, fr7⟩ => ?_)
      have I7' := I7.pinned (stat fr7) (T.obj _ _ st7)
      have again : ∀ {σ8 : St} {H8 : Hp} {ys : List V} {s8 : Shared}, Inv (cxComp X Nc scope cl s3.heap.objs.size s3 (upd H s.heap.objs.size (.lst [])) fp) ([] ++ pinsAt fp s7.heap) σ8 H8 s8 → (∀ (i j : Nat), sub[i]? = some (some j) → σ8[i]? = (subSt sub σ)[i]?) → N ys H8 →
          ∃ m, m < n ∧ ∃ i xs H', Inv (cxComp X Nc scope cl s3.heap.objs.size s3 (upd H s.heap.objs.size (.lst [])) fp) [] (subSt sub σ) H' s8 ∧ tn i s8.heap ∧ (∀ b ∈ fp, H' b = none) ∧ W i m xs H' := fun {σ8 H8 ys s8} I8 k8 n8 => by
        obtain ⟨m', hm, w8⟩ := hN ys H8 n8
        refine ⟨m', hm, i + 1, ys, H8, ?_, T.keep _ _ _ st7 fun b hb o e => (I8.pin (b, o) (List.mem_append_right _ (List.mem_append_right _ (mem_pinsAt hb e)))).1, fun b hb => ?_, w8⟩
        · refine I8.unpinned.weak ?_ fun k v e => ?_
          · rw [I8.len]; exact (subSt_len sub σ).trans hS.len
          · obtain ⟨j, e1, _⟩ := subSt_get e
            rw [k8 k j e1]; exact e
        · obtain ⟨o, e, d⟩ := T.obj _ _ st7 b hb
          exact (I8.pin (b, o) (List.mem_append_right _ (List.mem_append_right _ (mem_pinsAt hb e)))).2.1
      refine wpAny_bind (wpAny_mono (hg cl _ s3 _ fp _ s7 (subSt sub σ) H7 x u _ I7' r7 (gk _ _ _ _ (step x H7 y7))) (fun _ s8 ⟨σ8, H8, I8, q8, k8⟩ => ?_) fun _ _ z => False.elim z)
      refine wpAny_bind (wpAny_mono (hi cl _ s3 _ fp _ s8 σ8 H8 _ I8 q8) (fun ok s9 ⟨H9, I9, q9⟩ => ?_) fun _ _ z => False.elim z)
      cases ok with
      | false => exact wpAny_pure ⟨rfl, again I9 k8 q9⟩
      | true =>
        refine wpAny_bind (wpAny_bind (wpAny_mono (he cl _ s3 _ fp _ s9 σ8 H9 _ I9 q9) (fun xv s10 ⟨y, H10, I10, r10, hl10, hz, q10⟩ => ?_) fun _ _ z => False.elim z))
        refine wpAny_bind (wpAny_mono (mt_append (X := (cxComp X Nc scope cl s3.heap.objs.size s3 (upd H s.heap.objs.size (.lst [])) fp)) _ s10 σ8 H10 (.ref s.heap.objs.size) [y] (.ref s.heap.objs.size) [xv] (fun _ H11 => N (xs ++ [y]) H11) I10 rfl (.cons r10 .nil) ⟨_, xs, y, rfl, rfl, hl10, hz, q10⟩) (fun _ s11 ⟨_, H11, I11, _, q11⟩ => ?_) fun _ _ z => False.elim z)
        exact wpAny_pure (wpAny_pure ⟨rfl, again I11 k8 q11⟩)
  exact codeAny_compStart_list (loop _ rfl) (T.self _ 0 _ _ _ st4 (loop _ rfl))

theorem free_cells (I : Inv X pins σ H s) (hS : CompScope X.N X.env.scope scope Nc sub) : ∀ y ∈ scope.names, y.2 = .free → ∃ c, X.env.cells.lookup y.1 = some c := fun y hy e =>
  I.ok.has y.1 (hS.frees y hy e)

/-- a list comprehension of one clause, as a value -/
theorem pe_lcomp {wi : TI} (hc : X.calm = true) (hS : CompScope X.N X.env.scope scope Nc sub) (hI : PI X tg iter wi)
    (hg : ∀ cl L s0 H0 ex, PG (cxComp X Nc scope cl L s0 H0 ex) tg g) (gk : GKeep sub g) (gm : GMono g)
    (hi : ∀ cl L s0 H0 ex, PIfs (cxComp X Nc scope cl L s0 H0 ex) ifs tc) (he : ∀ cl L s0 H0 ex, PE (cxComp X Nc scope cl L s0 H0 ex) elt te)
    (hs : ∀ x, foldedSetIterable iter X.env x = pure x := by intro _; rfl) : PE X (.ListComp elt [⟨tg, iter, ifs, 0⟩] scope pos) (tLComp sub wi g tc te) := by
  intro pins s σ H Q I h
  obtain ⟨cl, hcl0, hcl, hcl2⟩ := closureFor_some (free_cells I hS)
  rw [eval_ListComp]
  refine wpAny_comprehension_free (use := none) rfl hs hcl0 hS.kind hS.names ?_
  refine thn (hI pins s σ H _ I h) fun xv s1 h1 => thn h1 fun itv s2 h2 => ?_
  obtain ⟨it, fp, tn, J, H2, e, I2, T, st2, f2, q⟩ := h2
  subst e
  refine comp_run hc I2 hS hcl hcl2 T st2 f2 hg gk hi he gm q fun l C H' s' m I' q' hn hC hfr => ?_
  refine ⟨m, hn, fun h' sb => ?_⟩
  have nL : C ≠ X.env.locals := Nat.ne_of_gt (Nat.lt_of_lt_of_le I2.lt hC)
  refine ⟨.ref l, H', ?_, rfl, q'⟩
  exact I'.turned (it := C) (t' := s'.toks) (fun b o hb e => (sb.2 b hb).trans e) hfr nL (.inr (Nat.le_trans I2.sz hC)) (fun x c e z => by
    obtain ⟨v, w⟩ := I2.cell x c e
    exact absurd (Nat.lt_of_lt_of_le w.lt (by rw [z]; exact hC)) (Nat.lt_irrefl _)) fun p hp z =>
    absurd (Nat.lt_of_lt_of_le (Heap.lt_size (I2.pin p hp).1) (by rw [z]; exact hC)) (Nat.lt_irrefl _)

/-- name = [.. for ..] on one line: the name is stored ahead of the block's names' going -/
theorem ps_setL {wi : TI} {i : Nat} {y : Str} {py spos : Pos} (hc : X.calm = true) (hN : X.N.Nodup) (hiN : X.N[i]? = some y) (hy : X.env.scope.names.lookup y = some .local) (hS : CompScope X.N X.env.scope scope Nc sub) (hI : PI X tg iter wi)
    (hg : ∀ cl L s0 H0 ex, PG (cxComp X Nc scope cl L s0 H0 ex) tg g) (gk : GKeep sub g) (gm : GMono g)
    (hi : ∀ cl L s0 H0 ex, PIfs (cxComp X Nc scope cl L s0 H0 ex) ifs tc) (he : ∀ cl L s0 H0 ex, PE (cxComp X Nc scope cl L s0 H0 ex) elt te)
    (hsw : swapsWith (.ListComp elt [⟨tg, iter, ifs, 0⟩] scope pos) (some (.Name y py)) spos.line X.env = pure true := by rfl)
    (hs : ∀ x, foldedSetIterable iter X.env x = pure x := by intro _; rfl) : PS X (.Assign [.Name y py] (.ListComp elt [⟨tg, iter, ifs, 0⟩] scope pos) spos) (tAsg (tLComp sub wi g tc te) (gName i)) := by
  intro pins s σ H D I h
  obtain ⟨cl, hcl0, hcl, hcl2⟩ := closureFor_some (free_cells I hS)
  rw [exec_Assign_Name_used _ _ _ _ hsw]
  refine wpAny_bind (wpAny_standAt (wpAny_bind ?_))
  show wpAny _ X.A (do let _ ← comprehension (.ListComp elt [⟨tg, iter, ifs, 0⟩] scope pos) scope X.env _ (newList []) false (eval iter X.env) (some (assign (.Name y py) X.env))) _ _ s
  refine wpAny_bind (wpAny_mono (wpAny_comprehension_free (use := some (assign (.Name y py) X.env)) (Q := fun _ s' => SP X pins D .next s') rfl hs hcl0 hS.kind hS.names
    (thn (hI pins s σ H _ I h) fun xv s1 h1 => thn h1 fun itv s2 h2 => ?_)) (fun _ s' hq => wpAny_pure (wpAny_pure hq)) fun _ _ e => e)
  obtain ⟨it, fp, tn, J, H2, e, I2, T, st2, f2, q⟩ := h2
  subst e
  refine comp_run hc I2 hS hcl hcl2 T st2 f2 hg gk hi he gm q fun l C H' s' m I' q' hn hC hfr => ?_
  have nL : C ≠ X.env.locals := Nat.ne_of_gt (Nat.lt_of_lt_of_le I2.lt hC)
  show wpAny _ X.A (assign (.Name y py) X.env (.ref l)) _ _ _
  refine wpAny_assign_Name (store_ok2 I' hN hiN (.inl hy) (v := .ref l) rfl (fun s6 I6 ⟨a, sb6, ha⟩ => ?_) (.inr hy))
  have nA : C ≠ a := fun z => by
    rcases ha with e | e
    · exact nL (z.trans e)
    · obtain ⟨v, w⟩ := I2.cell y a e
      exact absurd (Nat.lt_of_lt_of_le w.lt (by rw [← z]; exact hC)) (Nat.lt_irrefl _)
  refine ⟨m, hn.sameBut sb6 nA, fun h' sb => ?_⟩
  refine ⟨_, H', I6.turned (it := C) (t' := s6.toks) (fun b o hb e => (sb.2 b hb).trans e) hfr nL (.inr (Nat.le_trans I2.sz hC)) (fun x c e z => by
    obtain ⟨v, w⟩ := I2.cell x c e
    exact absurd (Nat.lt_of_lt_of_le w.lt (by rw [z]; exact hC)) (Nat.lt_irrefl _)) (fun p hp z =>
    absurd (Nat.lt_of_lt_of_le (Heap.lt_size (I2.pin p hp).1) (by rw [z]; exact hC)) (Nat.lt_irrefl _)), q'⟩
end

/-! ### the forms one uses -/
theorem comp_list {K : PySem.W.Frag} {a l : Addr} {ys : List V} {g : TG} {tc : TT} {te : TE} {σc : St} {H1 : Hp} {Q : VK} (Pv : Nat → List V → Hp → Prop) (h0 : Pv 0 [] (upd H1 l (.lst [])))
    (hl : ∀ i xs H, i ≤ ys.length → Pv i xs H → SqL K H a ys ∧ H l = some (.lst xs))
    (hs : ∀ i x xs H, ys[i]? = some x → Pv i xs H → g x σc H fun σ2 H3 => tc σ2 H3 fun b H4 => if b = true then te σ2 H4 fun y H5 => H5 l = some (.lst xs) ∧ xs.length < sizeLine ∧ Pv (i + 1) (xs ++ [y]) (upd H5 l (.lst (xs ++ [y]))) else Pv (i + 1) xs H4)
    (hd : ∀ xs H, Pv ys.length xs H → Q (.ref l) H) : tLWalk g tc te σc l (Itl K a) H1 Q := by
  refine ⟨fun i m xs H => m = ys.length - i ∧ i ≤ ys.length ∧ Pv i xs H, ⟨ys.length, by simp, Nat.zero_le _, h0⟩, ?_⟩
  rintro i m xs H ⟨rfl, hi, p⟩
  obtain ⟨q, hll⟩ := hl i xs H hi p
  refine ⟨hll, ?_⟩
  by_cases hlt : i < ys.length
  · refine .inr ⟨⟨ys, ys[i], q, by simp [hlt]⟩, Pv (i + 1), fun xs' H' p' => ⟨ys.length - (i + 1), by omega, rfl, hlt, p'⟩, fun x H' y => ?_⟩
    obtain ⟨e, y⟩ := y
    subst e
    exact hs i x xs _ (y ys q) p
  · have e : i = ys.length := by omega
    subst e
    exact .inl ⟨⟨ys, q, Nat.le_refl _⟩, hd xs H p⟩
theorem comp_range {l : Addr} {lo : Int} {n : Nat} {g : TG} {tc : TT} {te : TE} {σc : St} {H1 : Hp} {Q : VK} (Pv : Nat → List V → Hp → Prop) (h0 : Pv 0 [] (upd H1 l (.lst [])))
    (hl : ∀ i xs H, i ≤ n → Pv i xs H → H l = some (.lst xs))
    (hs : ∀ i xs H, i < n → Pv i xs H → g (.int (lo + i)) σc H fun σ2 H3 => tc σ2 H3 fun b H4 => if b = true then te σ2 H4 fun y H5 => H5 l = some (.lst xs) ∧ xs.length < sizeLine ∧ Pv (i + 1) (xs ++ [y]) (upd H5 l (.lst (xs ++ [y]))) else Pv (i + 1) xs H4)
    (hd : ∀ xs H, Pv n xs H → Q (.ref l) H) : tLWalk g tc te σc l (Itr lo n) H1 Q := by
  refine ⟨fun i m xs H => m = n - i ∧ i ≤ n ∧ Pv i xs H, ⟨n, by simp, Nat.zero_le _, h0⟩, ?_⟩
  rintro i m xs H ⟨rfl, hi, p⟩
  refine ⟨hl i xs H hi p, ?_⟩
  by_cases hlt : i < n
  · refine .inr ⟨hlt, Pv (i + 1), fun xs' H' p' => ⟨n - (i + 1), by omega, rfl, hlt, p'⟩, fun x H' y => ?_⟩
    obtain ⟨e, y⟩ := y
    subst e y
    exact hs i xs _ hlt p
  · have e : i = n := by omega
    subst e
    exact .inl ⟨Nat.le_refl _, hd xs H p⟩
end L2

set_option Elab.async false
set_option linter.all false
set_option maxHeartbeats 1000000
namespace L2
open PySem

/-! ### the places of a set's table -/
def Up (xs : Array Nat) : Prop := xs.toList.Pairwise (· < ·)
theorem Up.lt {xs : Array Nat} (h : Up xs) {i j a b : Nat} (hij : i < j) (ha : xs[i]? = some a) (hb : xs[j]? = some b) : a < b := by
  obtain ⟨h1, e1⟩ := Array.getElem?_eq_some_iff.mp ha
  obtain ⟨h2, e2⟩ := Array.getElem?_eq_some_iff.mp hb
  have := List.pairwise_iff_getElem.mp h i j (by simpa using h1) (by simpa using h2) hij
  simp only [Array.getElem_toList] at this
  omega

theorem below_go (xs : Array Nat) (j : Nat) (hu : Up xs) : ∀ (fuel lo hi : Nat), hi - lo ≤ fuel → lo ≤ hi → hi ≤ xs.size → (∀ i a, i < lo → xs[i]? = some a → a < j) → (∀ i a, hi ≤ i → xs[i]? = some a → j ≤ a) →
    SetTable.below.go xs j fuel lo hi ≤ xs.size ∧ (∀ i a, i < SetTable.below.go xs j fuel lo hi → xs[i]? = some a → a < j) ∧ (∀ i a, SetTable.below.go xs j fuel lo hi ≤ i → xs[i]? = some a → j ≤ a) := by
  intro fuel
  induction fuel with
  | zero =>
    intro lo hi h1 h2 h3 h4 h5
    have e : lo = hi := by omega
    subst e
    unfold SetTable.below.go
    exact ⟨h3, h4, h5⟩
  | succ fuel ih =>
    intro lo hi h1 h2 h3 h4 h5
    unfold SetTable.below.go
    by_cases hl : lo < hi
    · rw [if_pos hl]
      have hm : (lo + hi) / 2 < hi := by omega
      have hm2 : lo ≤ (lo + hi) / 2 := by omega
      have hs : (lo + hi) / 2 < xs.size := by omega
      have hg : xs[(lo + hi) / 2]? = some xs[(lo + hi) / 2] := Array.getElem?_eq_getElem hs
      have hd : xs.getD ((lo + hi) / 2) j = xs[(lo + hi) / 2] := by simp [Array.getD, hs]
      dsimp only
      rw [hd]
      by_cases hc : xs[(lo + hi) / 2] < j
      · rw [if_pos hc]
        refine ih _ _ (by omega) (by omega) h3 (fun i a hi' ha => ?_) h5
        by_cases e : i = (lo + hi) / 2
        · subst e; rw [hg] at ha; cases ha; exact hc
        · have := hu.lt (show i < (lo + hi) / 2 by omega) ha hg
          omega
      · rw [if_neg hc]
        refine ih _ _ (by omega) hm2 (by omega) h4 (fun i a hi' ha => ?_)
        by_cases e : i = (lo + hi) / 2
        · subst e; rw [hg] at ha; cases ha; omega
        · have := hu.lt (show (lo + hi) / 2 < i by omega) hg ha
          omega
    · rw [if_neg hl]
      have e : lo = hi := by omega
      subst e
      exact ⟨h3, h4, h5⟩
theorem below_ok {xs : Array Nat} (hu : Up xs) (j : Nat) : SetTable.below xs j ≤ xs.size ∧ (∀ i a, i < SetTable.below xs j → xs[i]? = some a → a < j) ∧ (∀ i a, SetTable.below xs j ≤ i → xs[i]? = some a → j ≤ a) := by
  unfold SetTable.below
  exact below_go xs j hu xs.size 0 xs.size (by omega) (by omega) (Nat.le_refl _) (fun i a h => absurd h (Nat.not_lt_zero _)) (fun i a h e => by
    obtain ⟨h1, _⟩ := Array.getElem?_eq_some_iff.mp e
    omega)
/-- the place behind the i-th one is the next -/
theorem below_next {xs : Array Nat} (hu : Up xs) {i a : Nat} (h : xs[i]? = some a) : SetTable.below xs (a + 1) = i + 1 := by
  obtain ⟨h1, h2, h3⟩ := below_ok hu (a + 1)
  obtain ⟨hi, _⟩ := Array.getElem?_eq_some_iff.mp h
  have c1 : ¬ SetTable.below xs (a + 1) ≤ i := fun z => by have := h3 i a z h; omega
  have c2 : ¬ i + 1 < SetTable.below xs (a + 1) := fun z => by
    have hs : i + 1 < xs.size := by omega
    have e2 : xs[i + 1]? = some xs[i + 1] := Array.getElem?_eq_getElem hs
    have := h2 (i + 1) _ z e2
    have := hu.lt (Nat.lt_succ_self i) h e2
    omega
  omega
theorem below_zero (xs : Array Nat) (hu : Up xs) : SetTable.below xs 0 = 0 := by
  obtain ⟨h1, h2, _⟩ := below_ok hu 0
  by_cases h : 0 < SetTable.below xs 0
  · have hs : 0 < xs.size := by omega
    have := h2 0 _ h (Array.getElem?_eq_getElem hs)
    omega
  · omega

/-- what a set's table keeps: growing places, no dummies, the leading -/
structure TabOk (led : Bool) (t : SetTable) : Prop where
  up : Up t.place
  nod : t.dummies = #[]
  led : t.led = led
theorem TabOk.fresh (f m : Nat) (led : Bool) : TabOk led (SetTable.fresh f m led) := ⟨by simp [Up, SetTable.fresh], rfl, rfl⟩
theorem TabOk.standIn {led : Bool} {t : SetTable} (h : TabOk led t) (n : Nat) : TabOk led (t.standIn n) :=
  ⟨by simp only [Up, SetTable.standIn, Array.toList_range]; exact List.pairwise_lt_range, rfl, h.led⟩
theorem TabOk.orStandIn {led : Bool} {t : SetTable} (h : TabOk led t) (n : Nat) : TabOk led (t.orStandIn n) := by
  unfold SetTable.orStandIn
  split
  · exact h
  · exact h.standIn n
theorem TabOk.plainOff {led : Bool} {t : SetTable} (h : TabOk led t) : TabOk led { t with plain := false } := ⟨h.up, h.nod, h.led⟩
theorem has_nil (j : Nat) : SetTable.has #[] j = false := by simp [SetTable.has]
theorem TabOk.put {led : Bool} {t : SetTable} (h : TabOk led t) {j : Nat} (hj : t.place[SetTable.below t.place j]? ≠ some j) : TabOk led (t.put j).1 := by
  refine ⟨?_, ?_, h.led⟩
  · show (SetTable.insertAt t.place (SetTable.below t.place j) j).toList.Pairwise (· < ·)
    rw [SetTable.toList_insertAt]
    obtain ⟨h1, h2, h3⟩ := below_ok h.up j
    have e := List.take_append_drop (SetTable.below t.place j) t.place.toList
    have hp : (t.place.toList.take (SetTable.below t.place j) ++ t.place.toList.drop (SetTable.below t.place j)).Pairwise (· < ·) := by rw [e]; exact h.up
    obtain ⟨p1, p2, p3⟩ := List.pairwise_append.mp hp
    have lo : ∀ a ∈ t.place.toList.take (SetTable.below t.place j), a < j := fun a ha => by
      obtain ⟨i, hi, e⟩ := List.mem_take_iff_getElem.mp ha
      exact h2 i a (by omega) (by rw [← e]; simp only [Array.getElem_toList]; exact Array.getElem?_eq_getElem _)
    have hi : ∀ a ∈ t.place.toList.drop (SetTable.below t.place j), j < a := fun a ha => by
      obtain ⟨i, hi, e⟩ := List.mem_drop_iff_getElem.mp ha
      have hs : SetTable.below t.place j + i < t.place.size := by simp at hi; omega
      have ea : t.place[SetTable.below t.place j + i]? = some a := by rw [← e]; simp only [Array.getElem_toList]; exact Array.getElem?_eq_getElem _
      have g1 := h3 _ a (Nat.le_add_right _ _) ea
      by_cases z : j = a
      · exfalso
        by_cases z2 : i = 0
        · subst z2; rw [Nat.add_zero, ← z] at ea; exact hj ea
        · have hs0 : SetTable.below t.place j < t.place.size := by omega
          have e0 : t.place[SetTable.below t.place j]? = some t.place[SetTable.below t.place j] := Array.getElem?_eq_getElem hs0
          have g2 := h3 _ _ (Nat.le_refl _) e0
          have g3 := h.up.lt (show SetTable.below t.place j < SetTable.below t.place j + i by omega) e0 ea
          omega
      · omega
    refine List.pairwise_append.mpr ⟨p1, List.pairwise_cons.mpr ⟨hi, p2⟩, fun a ha b hb => ?_⟩
    rcases List.mem_cons.mp hb with z | z
    · subst z; exact lo a ha
    · exact p3 a ha b z
  · show (if SetTable.has t.dummies j = true then _ else _) = _
    rw [h.nod, has_nil]
    simp
theorem probe_empty {t : SetTable} (hd : t.dummies = #[]) (f : Nat → Int) (h : Int) : ∀ (fuel : Nat) (p : SetTable.Probe), p.dummy = none → ∀ j d, SetTable.probe.go t f h fuel p = some (.empty j d) → d = none ∧ t.place[SetTable.below t.place j]? ≠ some j := by
  intro fuel
  induction fuel with
  | zero => intro p _ j d e; unfold SetTable.probe.go at e; cases e
  | succ fuel ih =>
    intro p hp j d e
    unfold SetTable.probe.go at e
    have adv : ∀ q : SetTable.Probe, q.dummy = none → (t.advance q).dummy = none := fun q hq => by
      unfold SetTable.advance
      split
      · exact hq
      · exact hq
    cases hs : t.slot p.j with
    | empty =>
      rw [hs] at e
      injection e with e
      injection e with e1 e2
      subst e1 e2
      refine ⟨hp, fun z => ?_⟩
      unfold SetTable.slot at hs
      simp only [z, beq_self_eq_true, if_true] at hs
      cases hs
    | dummy =>
      exfalso
      unfold SetTable.slot at hs
      rw [hd, has_nil] at hs
      by_cases z : t.place[SetTable.below t.place p.j]? = some p.j
      · simp [z] at hs
      · simp [z] at hs
    | live i =>
      rw [hs] at e
      dsimp only at e
      split at e
      · cases e
      · exact ih _ (adv p hp) j d e
theorem TabOk.layNew {led : Bool} {t : SetTable} (h : TabOk led t) (es : Array (Int × Value)) (hh : Int) (x : Value) : TabOk led (PySem.layNew t es hh x).2.1 := by
  unfold PySem.layNew
  cases e : t.freeSlot hh with
  | none => exact h.standIn _
  | some r =>
    obtain ⟨slot, wd⟩ := r
    unfold SetTable.freeSlot at e
    cases e2 : t.probe (fun _ => hh + 1) hh (t.probeStart hh) with
    | none => rw [e2] at e; cases e
    | some m =>
      rw [e2] at e
      cases m with
      | candidate _ _ _ => cases e
      | empty j d =>
        obtain ⟨z1, z2⟩ := probe_empty h.nod (fun _ => hh + 1) hh (10 * SetTable.turns t.mask) (t.probeStart hh) rfl j d (by unfold SetTable.probe at e2; exact e2)
        subst z1
        injection e with e
        injection e with e3 e4
        subst e3
        exact (h.put z2).orStandIn _
theorem TabOk.relayAll {led : Bool} {t : SetTable} (h : TabOk led t) (es : Array (Int × Value)) (wanted : Nat) : TabOk led (PySem.relayAll t es wanted).2.1 := by
  unfold PySem.relayAll
  cases e : t.relaid (es.map (·.1)) wanted with
  | none => exact h.standIn _
  | some r =>
    obtain ⟨t', order⟩ := r
    dsimp only
    have ok : TabOk led t' := by
      unfold SetTable.relaid SetTable.laid at e
      cases e1 : SetTable.layClean (SetTable.sizeAbove wanted - 1) (es.map (·.1)) with
      | none => rw [e1] at e; cases e
      | some owner =>
        rw [e1] at e
        injection e with e
        injection e with e2 e3
        subst e2
        refine ⟨?_, rfl, h.led⟩
        show List.Pairwise (· < ·) _
        simp only [List.toList_toArray, List.pairwise_map]
        refine List.Pairwise.filterMap (R := (· < ·)) _ ?_ List.pairwise_lt_range
        intro a a' haa b hb b' hb'
        simp only [Option.mem_def, Option.map_eq_some_iff] at hb hb'
        obtain ⟨k, _, q⟩ := hb
        obtain ⟨k', _, q'⟩ := hb'
        subst q q'
        exact haa
    split
    · exact ok
    · exact h.standIn _
end L2

set_option Elab.async false
set_option linter.all false
set_option maxRecDepth 100000
set_option maxHeartbeats 4000000
namespace L2
open PySem PyProof.Rows

theorem slot_setiter_next : Slot "set_iterator" "__next__" "set_iterator.__next__" :=
  .of (owner := "set_iterator") (n := "__next__") (by rw [typeLookup_type, builtinLookup_eq_fast]; kernel_rfl) (by decide +kernel) (by decide +kernel) (by decide +kernel)
    (by first | exact .inl (by decide +kernel) | exact .inr (by decide +kernel)) (by rw [isSubtype_type]; kernel_rfl)
theorem slot_setiter_iter : Slot "set_iterator" "__iter__" "set_iterator.__iter__" :=
  .of (owner := "set_iterator") (n := "__iter__") (by rw [typeLookup_type, builtinLookup_eq_fast]; kernel_rfl) (by decide +kernel) (by decide +kernel) (by decide +kernel)
    (by first | exact .inl (by decide +kernel) | exact .inr (by decide +kernel)) (by rw [isSubtype_type]; kernel_rfl)
theorem entry_setiter_next : entryFor table "set_iterator.__next__" = some Builtin.«set_iterator.__next__» := entryFor_of_fast (by kernel_rfl)
theorem args_setiter_next (a : Value) : argsOk "set_iterator.__next__" ⟨[a], []⟩ := by unfold argsOk; kernel_rfl
theorem entry_set_iter : entryFor table "set.__iter__" = some Builtin.«frozenset.__iter__» :=
  entryFor_alias (id' := "frozenset.__iter__") (by kernel_rfl) rfl (by decide +kernel) (by kernel_rfl)
theorem args_set_iter (a : Value) : argsOk "set.__iter__" ⟨[a], []⟩ := by unfold argsOk; kernel_rfl

/-- the set's own record -/
structure SetRec (w : World) (h : Heap) (a : Addr) (es : Array (Int × Value)) (ep : Nat) (t : SetTable) : Prop where
  at_ : h.get? a = some { cls := .type "set", dict := none, data := .set es ep t }
  fits : t.fits es.size = true
  tab : TabOk (!w.params.followText "set-order") t
theorem SetRec.keep {w : World} {h h' : Heap} {a : Addr} {es : Array (Int × Value)} {ep : Nat} {t : SetTable} (r : SetRec w h a es ep t) (k : ∀ o, h.get? a = some o → h'.get? a = some o) : SetRec w h' a es ep t := ⟨k _ r.at_, r.fits, r.tab⟩

theorem erase_perm {α : Type} {l : List α} {i : Nat} (h : i < l.length) : (l[i] :: l.eraseIdx i).Perm l := by
  have e : l = l.take i ++ l[i] :: l.drop (i + 1) := by rw [List.getElem_cons_drop, List.take_append_drop]
  have e2 : l.eraseIdx i = l.take i ++ l.drop (i + 1) := List.eraseIdx_eq_take_drop_succ l i
  rw [e2]
  exact List.perm_middle.symm.trans (List.Perm.of_eq e.symm)
theorem pick_perm {α : Type} (next : Nat → Nat) : ∀ (fuel k : Nat) (left : List α) (out : Array α), left.length ≤ fuel → (pickOrder.go next fuel k left out).toList.Perm (out.toList ++ left) := by
  intro fuel
  induction fuel with
  | zero =>
    intro k left out h
    have e : left = [] := List.eq_nil_of_length_eq_zero (by omega)
    subst e
    unfold pickOrder.go
    rw [List.append_nil]
  | succ fuel ih =>
    intro k left out h
    unfold pickOrder.go
    cases hl : left with
    | nil => simp
    | cons x r =>
      have hi : next k % (x :: r).length < (x :: r).length := Nat.mod_lt _ (by simp)
      have e : (x :: r)[next k % (x :: r).length]? = some (x :: r)[next k % (x :: r).length] := List.getElem?_eq_getElem hi
      rw [e]
      dsimp only
      refine (ih _ _ _ (by rw [List.length_eraseIdx, if_pos hi]; rw [hl] at h; omega)).trans ?_
      rw [Array.toList_push, List.append_assoc, List.singleton_append]
      exact (erase_perm hi).append_left _
theorem pickOrder_perm {α : Type} (next : Nat → Nat) (xs : Array α) : (pickOrder next xs).toList.Perm xs.toList := by
  unfold pickOrder
  have := pick_perm next xs.size 0 xs.toList #[] (by simp)
  simpa using this

section
variable {prog : Program} {w : World} {A : Around} {E : Value → Shared → Prop} {s : Shared}

theorem wpAny_choose {M : Model} {src : Source} {n : Nat} {Q : Nat → Shared → Prop} (hn : n ≠ 0) (h : ∀ i d, i < n → Q i { s with drawn := d }) : wpAny M A (choose src n) Q E s := fun _ _ _ => ⟨hn, h _ _ (Nat.mod_lt _ (Nat.pos_of_ne_zero hn))⟩
theorem wpAny_drawOrder {α : Type} : ∀ (n : Nat) (xs : List α) (s : Shared) {M : Model} {Q : List α → Shared → Prop}, xs.length ≤ n → (∀ ys d, ys.Perm xs → Q ys { s with drawn := d }) → wpAny M A (drawOrder n xs) Q E s := by
  intro n
  induction n with
  | zero =>
    intro xs s M Q h hq
    have e : xs = [] := List.eq_nil_of_length_eq_zero (by omega)
    subst e
    unfold drawOrder
    exact wpAny_pure (hq [] s.drawn (.refl _))
  | succ n ih =>
    intro xs s M Q h hq
    cases xs with
    | nil => unfold drawOrder; exact wpAny_pure (hq [] s.drawn (.refl _))
    | cons x r =>
      unfold drawOrder
      refine wpAny_bind (wpAny_choose (by simp) fun i d hi => ?_)
      have e : (x :: r)[i]? = some (x :: r)[i] := List.getElem?_eq_getElem hi
      rw [e]
      dsimp only
      refine wpAny_bind (ih _ _ (by rw [List.length_eraseIdx, if_pos hi]; omega) fun ys d' hp => wpAny_pure ?_)
      exact hq _ d' ((hp.cons _).trans (erase_perm hi))

theorem wp_byText {Q : Bool → Shared → Prop} (h : Q (w.params.followText "set-order") s) : wpAny (model prog w) A setsByText Q E s := by
  unfold setsByText
  exact wpAny_bind (wpAny_askSetting (wpAny_pure h))
variable {a : Addr} {es : Array (Int × Value)} {ep : Nat} {t : SetTable}
theorem wp_state {Q : Array (Int × Value) × Nat × SetTable → Shared → Prop} (r : SetRec w s.heap a es ep t) (h : Q (es, ep, t) s) : wpAny (model prog w) A (setState a) Q E s := wpAny_setState_of r.at_ rfl r.fits h
theorem wp_walk_text {Q : Array (Int × Value) → Shared → Prop} (r : SetRec w s.heap a es ep t) (ht : w.params.followText "set-order" = true) (h : Q (pickOrder (w.params.setOrder a ep) es) s) : wpAny (model prog w) A (setWalk a) Q E s := by
  unfold setWalk
  refine wpAny_bind (wp_state r ?_)
  dsimp only
  refine wpAny_bind (wp_byText ?_)
  rw [if_pos ht]
  exact wpAny_bind (wpAny_askSetting (wpAny_pure h))
theorem wp_next_text {slot given : Nat} {Q : Option (Value × Nat) → Shared → Prop} (r : SetRec w s.heap a es ep t) (ht : w.params.followText "set-order" = true)
    (h : Q (((pickOrder (w.params.setOrder a ep) es)[given]?).map fun e => (e.2, slot)) s) : wpAny (model prog w) A (setNext a slot given ep) Q E s := by
  unfold setNext
  refine wpAny_bind (wp_state r ?_)
  dsimp only
  refine wpAny_bind (wp_byText ?_)
  rw [if_pos ht]
  simp only [bne_self_eq_false, Bool.false_eq_true, if_false]
  exact wpAny_bind (wp_walk_text r ht (wpAny_pure h))
theorem wp_next_plain {slot given ep' : Nat} {Q : Option (Value × Nat) → Shared → Prop} (r : SetRec w s.heap a es ep t) (ht : w.params.followText "set-order" = false) (hd : (!t.plain && decide (es.size > 1)) = false)
    (h : Q (match es[SetTable.below t.place slot]?, t.place[SetTable.below t.place slot]? with | some (_, x), some j => some (x, j + 1) | _, _ => none) s) : wpAny (model prog w) A (setNext a slot given ep') Q E s := by
  unfold setNext
  refine wpAny_bind (wp_state r ?_)
  dsimp only
  refine wpAny_bind (wp_byText ?_)
  rw [if_neg (by rw [ht]; exact Bool.false_ne_true)]
  show wpAny _ _ (if (!t.plain && decide (es.size > 1)) = true then _ else _) _ _ _
  rw [if_neg (by rw [hd]; exact Bool.false_ne_true)]
  have hl : t.led = true := by have := r.tab.led; rw [ht] at this; exact this
  show wpAny _ _ ((if (!t.led && !es.isEmpty) = true then unsupported "set:maker-not-led" else pure ()) >>= _) _ _ _
  rw [if_neg (by rw [hl]; simp)]
  exact wpAny_bind (wpAny_pure (wpAny_pure h))
theorem wp_drawn {Q : Bool → Shared → Prop} (r : SetRec w s.heap a es ep t) (h : Q (!w.params.followText "set-order" && (!t.plain && decide (es.size > 1))) s) : wpAny (model prog w) A (setDrawn a) Q E s := by
  unfold setDrawn
  refine wpAny_bind (wp_state r ?_)
  dsimp only
  exact wpAny_bind (wp_byText (wpAny_pure h))

/-- how an iterator of the set goes on: the items that it gives, in their order -/
def Goes (w : World) (a p : Addr) (es : Array (Int × Value)) (ep : Nat) (t : SetTable) (first : Value) (ord : List (Int × Value)) (i : Nat) (h : Heap) : Prop :=
  (w.params.followText "set-order" = true ∧ ord = (pickOrder (w.params.setOrder a ep) es).toList ∧ ∃ k tk, first = .int k tk) ∨
  (w.params.followText "set-order" = false ∧ ∃ ps n, first = .ref p ∧ h.get? p = some { cls := .type "tuple", data := .seq ps n } ∧ ps.size = es.size ∧ ord.length = es.size ∧ ∀ (j : Nat) e, ord[j]? = some e → ∃ k : Nat, ps[j]? = some (rawInt k) ∧ es[k]? = some e) ∨
  (w.params.followText "set-order" = false ∧ (!t.plain && decide (es.size > 1)) = false ∧ ord = es.toList ∧ ∃ k : Nat, first = rawInt k ∧ SetTable.below t.place k = i)
structure IterAt (w : World) (h : Heap) (it a p : Addr) (es : Array (Int × Value)) (ep : Nat) (t : SetTable) (ord : List (Int × Value)) (i : Nat) : Prop where
  rc : SetRec w h a es ep t
  rec' : ∃ first, h.get? it = some { cls := .type "set_iterator", data := .fields #[first, rawInt i, .ref a, rawInt es.size, rawInt ep] } ∧ Goes w a p es ep t first ord i h
  len : ord.length = es.size
end
end L2

set_option Elab.async false
set_option linter.all false
set_option maxRecDepth 100000
set_option maxHeartbeats 4000000
namespace L2
open PySem PyProof.Rows
theorem setiter_ne : ¬ (Value.type "set_iterator" = Value.type "set") := by decide +kernel
theorem setiter_ne_tup : ¬ (Value.type "set_iterator" = Value.type "tuple") := by decide +kernel
section
variable {prog : Program} {w : World} {A : Around} {E : Value → Shared → Prop} {s : Shared} {it a p : Addr} {es : Array (Int × Value)} {ep : Nat} {t : SetTable} {ord : List (Int × Value)} {i : Nat}

theorem IterAt.ty (x : IterAt w s.heap it a p es ep t ord i) : s.TypeIs (.ref it) "set_iterator" := let ⟨_, e, _⟩ := x.rec'; ⟨_, e, rfl⟩
theorem IterAt.ne (x : IterAt w s.heap it a p es ep t ord i) : a ≠ it := fun z => by
  obtain ⟨f, e, _⟩ := x.rec'
  have q := x.rc.at_
  rw [z, e] at q
  exact setiter_ne (congrArg Obj.cls (Option.some.inj q))

/-- the iterator's record after a turn -/
theorem iter_turn {h h' : Heap} {f f' : Value} (x : IterAt w h it a p es ep t ord i) (hg' : Goes w a p es ep t f' ord (i + 1) h')
    (hs : Heap.SameBut it h h') (e' : h'.get? it = some { cls := .type "set_iterator", data := .fields #[f', rawInt (i + 1 : Nat), .ref a, rawInt es.size, rawInt ep] }) : IterAt w h' it a p es ep t ord (i + 1) := by
  have ne : a ≠ it := fun z => by
    obtain ⟨f, e, _⟩ := x.rec'
    have q := x.rc.at_
    rw [z, e] at q
    exact setiter_ne (congrArg Obj.cls (Option.some.inj q))
  exact ⟨x.rc.keep fun o e => (hs.2 a ne).trans e, ⟨f', e', hg'⟩, x.len⟩

theorem wp_setnext_item {e : Int × Value} {Q : Option Value → Shared → Prop} (x : IterAt w s.heap it a p es ep t ord i) (he : ord[i]? = some e)
    (hQ : ∀ h', IterAt w h' it a p es ep t ord (i + 1) → Heap.SameBut it s.heap h' → Q (some e.2) { s with heap := h' }) : wpAny (model prog w) A (pyNext (.ref it)) Q E s := by
  obtain ⟨f, hf, hg⟩ := id x.rec'
  unfold pyNext
  refine wpAny_bind (wpAny_attempt (wpAny_callSpecial?_slot (name := Str.ofString "__next__") x.ty slot_setiter_next
    (wpAny_call_entry slot_setiter_next x.ty entry_setiter_next ?_ (args_setiter_next _))))
  unfold Builtin.«set_iterator.__next__»
  refine wpAny_bind (m := slotArgs "__next__" 0 _) (wpAny_pure ?_)
  dsimp only
  refine wpAny_bind (wpAny_fieldsOf hf rfl ?_)
  dsimp only [rawInt]
  refine wpAny_bind (wpAny_setEntries_of x.rc.at_ rfl x.rc.fits ?_)
  simp only [bne_self_eq_false, Bool.false_eq_true, if_false]
  have ei : ((i : Int) + 1) = ((i + 1 : Nat) : Int) := by omega
  rcases hg with ⟨ht, ho, k, tk, rfl⟩ | ⟨ht, ps, n, rfl, hp, hz, hl, hP⟩ | ⟨ht, hd, ho, k, rfl, hb⟩
  · dsimp only
    simp only [Int.toNat_natCast]
    refine wpAny_bind (wp_next_text x.rc ht ?_)
    have e1 : (pickOrder (w.params.setOrder a ep) es)[i]? = some e := by rw [← Array.getElem?_toList, ← ho]; exact he
    rw [e1]
    dsimp only [Option.map]
    refine wpAny_bind (wpAny_setField_rec hf (by simp) fun h1 e1 s1 => ?_)
    refine wpAny_bind (wpAny_setField_rec (s := { s with heap := h1 }) e1 (by simp) fun h2 e2 s2 => ?_)
    refine wpAny_pure ⟨e.2, rfl, wpAny_pure (hQ h2 (iter_turn (f := .int k tk) (f' := .int (k.toNat : Nat) 0) x (.inl ⟨ht, ho, _, _, rfl⟩) (s1.trans s2) ?_) (s1.trans s2))⟩
    rw [e2, ei]; rfl
  · dsimp only
    refine wpAny_bind (wpAny_seqItems hp rfl ?_)
    obtain ⟨k, e1, e2⟩ := hP i e he
    simp only [Int.toNat_natCast, e1, rawInt]
    refine wpAny_bind ?_
    unfold setNextDrawn
    refine wpAny_bind (wp_state x.rc ?_)
    simp only [bne_self_eq_false, Bool.false_eq_true, if_false, e2]
    refine wpAny_pure ?_
    refine wpAny_bind (wpAny_setField_rec hf (by simp) fun h2 e2 s2 => ?_)
    have nep : p ≠ it := fun z => by rw [z, hf] at hp; exact setiter_ne_tup (congrArg Obj.cls (Option.some.inj hp))
    refine wpAny_pure ⟨e.2, rfl, wpAny_pure (hQ h2 (iter_turn (f := .ref p) (f' := .ref p) x (.inr (.inl ⟨ht, ps, n, rfl, (s2.2 p nep).trans hp, hz, hl, hP⟩)) s2 ?_) s2)⟩
    rw [e2, ei]; rfl
  · dsimp only [rawInt]
    simp only [Int.toNat_natCast]
    refine wpAny_bind (wp_next_plain x.rc ht hd ?_)
    have e1 : es[i]? = some e := by rw [← Array.getElem?_toList, ← ho]; exact he
    have hi : i < es.size := (Array.getElem?_eq_some_iff.mp e1).1
    have hps : t.place.size = es.size := by
      have := x.rc.fits
      simp only [SetTable.fits, Bool.and_eq_true, beq_iff_eq, decide_eq_true_eq] at this
      exact this.1
    have e3 : t.place[i]? = some t.place[i] := Array.getElem?_eq_getElem (by omega)
    rw [hb, e1, e3]
    dsimp only
    refine wpAny_bind (wpAny_setField_rec hf (by simp) fun h1 e1 s1 => ?_)
    refine wpAny_bind (wpAny_setField_rec (s := { s with heap := h1 }) e1 (by simp) fun h2 e2 s2 => ?_)
    refine wpAny_pure ⟨e.2, rfl, wpAny_pure (hQ h2 (iter_turn (f := rawInt k) (f' := rawInt (t.place[i] + 1 : Nat)) x (.inr (.inr ⟨ht, hd, ho, t.place[i] + 1, rfl, below_next x.rc.tab.up e3⟩)) (s1.trans s2) ?_) (s1.trans s2))⟩
    rw [e2, ei]; rfl

theorem stop_end {s1 : Shared} {A' : Around} {Q : Option Value → Shared → Prop} (hh : A'.handled = none) (h : ∀ h', (∀ b o, s1.heap.get? b = some o → h'.get? b = some o) → Q none { s1 with heap := h' }) {R : Fin → Shared → Prop} :
    wpAny (model prog w) A' (do let x ← newExc (Value.type "StopIteration") []; raiseNew x : Sem Fin) R (fun e s' => wpAny (model prog w) A (do
          let b ← isInstance e (Value.type "StopIteration")
          if b = true then pure none else throw e) Q E s') s1 := by
  refine wpAny_bind ?_
  simp only [newExc, newTuple]
  refine wpAny_bind (wpAny_newObj_type ?_ (by size_fits))
  refine wpAny_bind (m := firstArgMember _ _) (wpAny_of_eq (a := Value.none) (by first | rfl | (simp only [firstArgMember]; rfl)) ?_)
  refine wpAny_newObj_type ?_ (by size_fits)
  simp only [raiseNew]
  refine wpAny_bind (wpAny_handled ?_)
  rw [hh]
  refine wpAny_bind (wpAny_pure (wpAny_throw ?_))
  refine wpAny_bind (wpAny_isInstance (T := "StopIteration") (b := true) ⟨_, Heap.get?_push_size _ rfl, rfl⟩ isSubtype_stop ?_)
  exact wpAny_pure (h _ fun b o e => Heap.get?_push_of_some _ (Heap.get?_push_of_some _ e))

theorem wp_setnext_end {Q : Option Value → Shared → Prop} (hh : A.handled = none) (x : IterAt w s.heap it a p es ep t ord i) (he : i = es.size)
    (hQ : ∀ h', (∀ b o, b ≠ it → s.heap.get? b = some o → h'.get? b = some o) → Q none { s with heap := h' }) : wpAny (model prog w) A (pyNext (.ref it)) Q E s := by
  obtain ⟨f, hf, hg⟩ := id x.rec'
  unfold pyNext
  refine wpAny_bind (wpAny_attempt (wpAny_callSpecial?_slot (name := Str.ofString "__next__") x.ty slot_setiter_next
    (wpAny_call_entry slot_setiter_next x.ty entry_setiter_next ?_ (args_setiter_next _))))
  unfold Builtin.«set_iterator.__next__»
  refine wpAny_bind (m := slotArgs "__next__" 0 _) (wpAny_pure ?_)
  dsimp only
  refine wpAny_bind (wpAny_fieldsOf hf rfl ?_)
  dsimp only [rawInt]
  refine wpAny_bind (wpAny_setEntries_of x.rc.at_ rfl x.rc.fits ?_)
  simp only [bne_self_eq_false, Bool.false_eq_true, if_false]
  rcases hg with ⟨ht, ho, k, tk, rfl⟩ | ⟨ht, ps, n, rfl, hp, hz, hl, hP⟩ | ⟨ht, hd, ho, k, rfl, hb⟩
  · dsimp only
    simp only [Int.toNat_natCast]
    refine wpAny_bind (wp_next_text x.rc ht ?_)
    have e1 : (pickOrder (w.params.setOrder a ep) es)[i]? = none := by
      rw [← Array.getElem?_toList, ← ho]
      exact List.getElem?_eq_none_iff.mpr (by rw [x.len]; omega)
    rw [e1]
    dsimp only [Option.map]
    refine wpAny_bind (wpAny_setField_rec hf (by simp) fun h1 e1 s1 => ?_)
    exact stop_end (A' := A.in1) (s1 := { s with heap := h1 }) hh fun h' k => hQ h' fun b o nb e => k b o ((s1.2 b nb).trans e)
  · dsimp only
    refine wpAny_bind (wpAny_seqItems hp rfl ?_)
    have e1 : ps[i]? = none := by simp; omega
    simp only [Int.toNat_natCast, e1]
    refine wpAny_bind (wpAny_setField_rec hf (by simp) fun h1 e1 s1 => ?_)
    refine wpAny_bind (wpAny_setField_rec (s := { s with heap := h1 }) e1 (by simp) fun h2 e2 s2 => ?_)
    exact stop_end (A' := A.in1) (s1 := { s with heap := h2 }) hh fun h' k => hQ h' fun b o nb e => k b o (((s1.trans s2).2 b nb).trans e)
  · dsimp only [rawInt]
    simp only [Int.toNat_natCast]
    refine wpAny_bind (wp_next_plain x.rc ht hd ?_)
    have e1 : es[i]? = none := by simp; omega
    rw [hb, e1]
    dsimp only
    refine wpAny_bind (wpAny_setField_rec hf (by simp) fun h1 e1 s1 => ?_)
    exact stop_end (A' := A.in1) (s1 := { s with heap := h1 }) hh fun h' k => hQ h' fun b o nb e => k b o ((s1.2 b nb).trans e)

/-- iter(s) -/
theorem wp_setiter {Q : Value → Shared → Prop} (r : SetRec w s.heap a es ep t) (hz : es.size ≤ sizeLine)
    (hQ : ∀ it p h' d ord, s.heap.objs.size ≤ it → (p = a ∨ s.heap.objs.size ≤ p) → (∀ b o, s.heap.get? b = some o → h'.get? b = some o) → ord.Perm es.toList → IterAt w h' it a p es ep t ord 0 → Q (.ref it) { s with heap := h', drawn := d }) :
    wpAny (model prog w) A (pyIter (.ref a)) Q E s := by
  have hT : s.TypeIs (.ref a) "set" := ⟨_, r.at_, rfl⟩
  refine wpAny_pyIter_slot hT F.slot_set_iter (wpAny_call_entry F.slot_set_iter hT entry_set_iter ?_ (args_set_iter _))
  unfold Builtin.«frozenset.__iter__» Builtin.Frozenset.slot0
  refine wpAny_bind (wpAny_bind (m := slotArgs "__iter__" 0 _) (wpAny_pure ?_))
  dsimp only
  unfold Builtin.Frozenset.addrOf
  refine wpAny_pure ?_
  refine wpAny_bind (m := Builtin.Frozenset.sizeOf a) ?_
  unfold Builtin.Frozenset.sizeOf
  refine wpAny_bind (wpAny_setEntries_of r.at_ rfl r.fits (wpAny_pure ?_))
  refine wpAny_bind (wp_drawn r ?_)
  by_cases hdr : (!w.params.followText "set-order" && (!t.plain && decide (es.size > 1))) = true
  · rw [if_pos hdr]
    have ht : w.params.followText "set-order" = false := by
      rw [Bool.and_eq_true] at hdr
      simpa using hdr.1
    refine wpAny_bind (wpAny_drawOrder es.size (List.range es.size) s (by simp) fun ys d hp => ?_)
    have hyl : ys.length = es.size := by rw [hp.length_eq]; simp
    refine wpAny_bind (wpAny_newTuple ?_ (by rw [List.length_map, hyl]; exact hz))
    refine wpAny_bind (m := setEpoch a) ?_
    unfold setEpoch
    have r1 : SetRec w (s.heap.push { cls := .type "tuple", data := .seq (ys.map fun (i : Nat) => rawInt i).toArray }) a es ep t := r.keep fun o e => Heap.get?_push_of_some _ e
    refine wpAny_bind (wp_state (s := { s with heap := s.heap.push { cls := .type "tuple", data := .seq (ys.map fun (i : Nat) => rawInt i).toArray }, drawn := d }) r1 (wpAny_pure ?_))
    refine wpAny_bind (wpAny_newObj_type ?_ (by size_fits))
    refine wpAny_pure ⟨_, rfl, "set_iterator", _, ⟨_, Heap.get?_push_size _ rfl, rfl⟩, slot_setiter_next.lookup, ?_⟩
    refine hQ _ s.heap.objs.size _ d (ys.filterMap fun j => es[j]?) ?_ (.inr (Nat.le_refl _)) (fun b o e => Heap.get?_push_of_some _ (Heap.get?_push_of_some _ e)) ?_ ?_
    · show s.heap.objs.size ≤ (s.heap.push _).objs.size
      rw [Heap.size_push]; omega
    · exact (hp.filterMap _).trans (List.Perm.of_eq (filterMap_getElem?_range es))
    · have all : ∀ j ∈ ys, ∃ e, es[j]? = some e := fun j hj => by
        have := hp.mem_iff.mp hj
        exact ⟨_, Array.getElem?_eq_getElem (List.mem_range.mp this)⟩
      have key : ∀ (l : List Nat), (∀ j ∈ l, ∃ e, es[j]? = some e) → (l.filterMap fun j => es[j]?).length = l.length ∧ ∀ (k : Nat) e, (l.filterMap fun j => es[j]?)[k]? = some e → ∃ j, l[k]? = some j ∧ es[j]? = some e := by
        intro l
        induction l with
        | nil => intro _; exact ⟨rfl, fun k e h => by simp at h⟩
        | cons j r ih =>
          intro h
          obtain ⟨e0, he0⟩ := h j List.mem_cons_self
          obtain ⟨i1, i2⟩ := ih fun j hj => h j (List.mem_cons_of_mem _ hj)
          rw [List.filterMap_cons_some (b := e0) he0]
          refine ⟨by rw [List.length_cons, List.length_cons, i1], fun k e hk => ?_⟩
          cases k with
          | zero => simp at hk; subst hk; exact ⟨j, rfl, he0⟩
          | succ k => simpa using i2 k e (by simpa using hk)
      obtain ⟨k1, k2⟩ := key ys all
      refine ⟨r1.keep fun o e => Heap.get?_push_of_some _ e, ⟨_, Heap.get?_push_size _ rfl, .inr (.inl ⟨ht, _, _, rfl, Heap.get?_push_of_some _ (Heap.get?_push_size _ rfl), by simp [hyl], by rw [k1]; exact hyl, fun j e hj => ?_⟩)⟩, by rw [k1]; exact hyl⟩
      obtain ⟨k, e1, e2⟩ := k2 j e hj
      exact ⟨k, by simp [e1], e2⟩
  · rw [if_neg hdr]
    refine wpAny_bind (wpAny_pure ?_)
    refine wpAny_bind (m := setEpoch a) ?_
    unfold setEpoch
    refine wpAny_bind (wp_state r (wpAny_pure ?_))
    refine wpAny_bind (wpAny_newObj_type ?_ (by size_fits))
    refine wpAny_pure ⟨_, rfl, "set_iterator", _, ⟨_, Heap.get?_push_size _ rfl, rfl⟩, slot_setiter_next.lookup, ?_⟩
    cases ht : w.params.followText "set-order" with
    | true =>
      have hp := pickOrder_perm (w.params.setOrder a ep) es
      refine hQ _ a _ s.drawn (pickOrder (w.params.setOrder a ep) es).toList (Nat.le_refl _) (.inl rfl) (fun b o e => Heap.get?_push_of_some _ e) hp ?_
      exact ⟨r.keep fun o e => Heap.get?_push_of_some _ e, ⟨_, Heap.get?_push_size _ rfl, .inl ⟨ht, rfl, _, _, rfl⟩⟩, by rw [hp.length_eq]; simp⟩
    | false =>
      have hd : (!t.plain && decide (es.size > 1)) = false := by rw [ht] at hdr; simpa using hdr
      refine hQ _ a _ s.drawn es.toList (Nat.le_refl _) (.inl rfl) (fun b o e => Heap.get?_push_of_some _ e) (.refl _) ?_
      exact ⟨r.keep fun o e => Heap.get?_push_of_some _ e, ⟨_, Heap.get?_push_size _ rfl, .inr (.inr ⟨ht, hd, rfl, 0, rfl, below_zero _ r.tab.up⟩)⟩, by simp⟩
end
end L2

set_option Elab.async false
set_option linter.all false
set_option maxRecDepth 100000
set_option maxHeartbeats 4000000
namespace L2
open PySem PyProof.Rows

theorem nodup_len : ∀ {ks xs : List Int}, ks.Nodup → (∀ x ∈ ks, x ∈ xs) → ks.length ≤ xs.length
  | [], _, _, _ => Nat.zero_le _
  | k :: r, xs, nd, h => by
    obtain ⟨n1, n2⟩ := List.nodup_cons.mp nd
    have hk : k ∈ xs := h k List.mem_cons_self
    have ih := nodup_len (xs := xs.erase k) n2 fun x hx => (List.mem_erase_of_ne (show x ≠ k from fun z => n1 (z ▸ hx))).mpr (h x (List.mem_cons_of_mem _ hx))
    rw [List.length_erase_of_mem hk] at ih
    have : 0 < xs.length := List.length_pos_of_mem hk
    rw [List.length_cons]
    omega
def keyV : Value → Int
  | .int k _ => k
  | _ => 0
def keys (es : Array (Int × Value)) : List Int := es.toList.map fun e => keyV e.2
def AllInt (es : Array (Int × Value)) : Prop := ∀ e ∈ es.toList, ∃ k t, e = (hashInt k, Value.int k t)
/-- a set of the ints in xs -/
structure SetInts (w : World) (h : Heap) (a : Addr) (xs : List Int) : Prop where
  ex : ∃ es ep t, SetRec w h a es ep t ∧ AllInt es ∧ es.size < scanBound ∧ (keys es).Nodup ∧ ∀ k, k ∈ keys es ↔ k ∈ xs
theorem SetInts.keep {w : World} {h h' : Heap} {a : Addr} {xs : List Int} (r : SetInts w h a xs) (k : ∀ o, h.get? a = some o → h'.get? a = some o) : SetInts w h' a xs :=
  let ⟨es, ep, t, r1, r2⟩ := r.ex
  ⟨es, ep, t, r1.keep k, r2⟩
theorem AllInt.elems {prog : Program} {w : World} {es : Array (Int × Value)} (h : AllInt es) : ElemsOf (intKind prog w) es.toList := fun e he => by
  obtain ⟨k, t, rfl⟩ := h e he
  exact ⟨⟨k, intKind_is _ _ _ _, rfl⟩, rfl⟩
theorem AllInt.perm {es es' : Array (Int × Value)} (h : AllInt es) (p : es'.toList.Perm es.toList) : AllInt es' := fun e he => h e (p.mem_iff.mp he)
theorem mem_keys {prog : Program} {w : World} {es : Array (Int × Value)} (h : AllInt es) (k : Int) : k ∈ keys es ↔ ∃ e ∈ es.toList, (intKind prog w).is k e.2 = true := by
  unfold keys
  rw [List.mem_map]
  constructor
  · rintro ⟨e, he, rfl⟩
    obtain ⟨k, t, rfl⟩ := h e he
    exact ⟨_, he, intKind_is _ _ _ _⟩
  · rintro ⟨e, he, q⟩
    obtain ⟨k', t, rfl⟩ := h e he
    exact ⟨_, he, ((intKind prog w).inj _ _ _ q (intKind_is _ _ _ _)).symm⟩

section
variable {prog : Program} {w : World} {A : Around} {E : Value → Shared → Prop} {s : Shared} {a : Addr}

theorem rec_store {h : Heap} {es es' : Array (Int × Value)} {ep : Nat} {t t' : SetTable} (r : SetRec w h a es ep t) (hf : t'.fits es'.size = true) (ht : TabOk (!w.params.followText "set-order") t') :
    SetRec w (h.update a (Obj.putSet es' t')) a es' (ep + 1) t' := by
  refine ⟨?_, hf, ht⟩
  have q := Heap.get?_update_self (Obj.putSet es' t') r.at_ (by rw [putSet_of es' t' rfl]; rfl)
  rw [putSet_of es' t' rfl] at q
  exact q

/-- one int more -/
theorem wp_add_int {k : Int} {tk : Tok} {xs : List Int} {Q : Bool → Shared → Prop} (r : SetInts w s.heap a xs) (hr : xs.length + 1 < scanBound)
    (h : ∀ b h', Heap.SameBut a s.heap h' → SetInts w h' a (k :: xs) → Q b { s with heap := h' }) : wpAny (model prog w) A (setAddHashed a (.int k tk) (hashInt k)) Q E s := by
  obtain ⟨es, ep, t, r1, ai, hb, nd, hm⟩ := r.ex
  have hkey : (intKind prog w).is k (.int k tk) = true := intKind_is _ _ _ _
  have hlen : es.size ≤ xs.length := by
    have e1 : es.size = (keys es).length := by unfold keys; simp
    rw [e1]
    exact nodup_len nd fun x hx => (hm x).mp hx
  unfold setAddHashed setAddHashedIn
  refine wpAny_holding (wpAny_bind (wp_state r1 ?_))
  dsimp only
  rw [byScan_of (knd := intKind prog w) rfl hb ai.elems]
  simp only [↓reduceIte]
  unfold setAddByScan
  refine wpAny_bind (wpAny_bind (wpAny_rule ?_))
  refine wpAny_bind (wpAny_setScan_of (knd := intKind prog w) hkey r1.at_ rfl r1.fits ai.elems ?_)
  cases hr2 : List.findIdx? (fun e => (intKind prog w).is k e.2) es.toList with
  | some j =>
    dsimp only
    obtain ⟨hj, hpj, _⟩ := List.findIdx?_eq_some_iff_getElem.mp hr2
    have hk : k ∈ xs := (hm k).mp ((mem_keys (prog := prog) (w := w) ai k).mpr ⟨_, List.getElem_mem hj, hpj⟩)
    refine wpAny_pure (wpAny_pure ?_)
    exact h _ s.heap (Heap.SameBut.refl a s.heap) ⟨es, ep, t, r1, ai, hb, nd, fun k' => by
      rw [hm k', List.mem_cons]
      exact ⟨.inr, fun z => z.elim (fun e => e ▸ hk) id⟩⟩
  | none =>
    dsimp only
    have hk : k ∉ keys es := fun hk => by
      obtain ⟨e, he, q⟩ := (mem_keys (prog := prog) (w := w) ai k).mp hk
      have := List.findIdx?_eq_none_iff.mp hr2 e he
      rw [q] at this; cases this
    have hperm := layNew_perm t es (hashInt k) (.int k tk)
    have hfits := layNew_fits t es (hashInt k) (.int k tk)
    have htab := r1.tab.layNew es (hashInt k) (.int k tk)
    have hgw : ∀ (b : Bool) {s₁ : Shared} {Q' : Unit → Shared → Prop}, Q' () s₁ → wpAny (model prog w) A (match b with | true => rule "set.scan.the-table-gave-way" | false => pure ()) Q' E s₁ :=
      fun b s₁ Q' hq => by cases b <;> first | exact wpAny_pure hq | exact wpAny_rule hq
    show wpAny (model prog w) A (match layNew t es (hashInt k) (.int k tk) with | _ => _) _ _ _
    generalize layNew t es (hashInt k) (.int k tk) = L at hperm hfits htab ⊢
    obtain ⟨es1, t1, wd, gave⟩ := L
    dsimp only at hperm hfits htab ⊢
    rw [Array.toList_push] at hperm
    have ai1 : AllInt es1 := fun e he => by
      rcases List.mem_append.mp (hperm.mem_iff.mp he) with z | z
      · exact ai e z
      · rw [List.mem_singleton] at z; exact ⟨k, tk, z⟩
    have kp : (keys es1).Perm (keys es ++ [k]) := by
      have := hperm.map fun e : Int × Value => keyV e.2
      rw [List.map_append] at this
      exact this
    have hz1 : es1.size = es.size + 1 := by
      have := hperm.length_eq
      rw [List.length_append] at this
      simpa using this
    have hb1 : es1.size < scanBound := by omega
    have nd1 : (keys es1).Nodup := kp.nodup_iff.mpr (List.nodup_append.mpr ⟨nd, by simp, fun x hx y hy => by rw [List.mem_singleton] at hy; subst hy; exact fun z => hk (z ▸ hx)⟩)
    have hm1 : ∀ k', k' ∈ keys es1 ↔ k' ∈ k :: xs := fun k' => by
      rw [kp.mem_iff, List.mem_append, List.mem_singleton, List.mem_cons, hm k']
      exact or_comm
    refine wpAny_bind (hgw _ ?_)
    -- the table as it is stored: plain stays or goes
    have fin : ∀ t2 : SetTable, t2.fits es1.size = true → TabOk (!w.params.followText "set-order") t2 → wpAny (model prog w) A (do
        storeSet a es1 t2
        if (!wd && t2.tooFull) = true then do
            (match (relayAll t2 es1 (SetTable.grown es1.size)).2.2 with | true => rule "set.scan.the-table-gave-way" | false => pure ())
            storeSet a (relayAll t2 es1 (SetTable.grown es1.size)).1 (relayAll t2 es1 (SetTable.grown es1.size)).2.1
            pure (some true)
          else pure (some true)) (fun x s' => wpAny (model prog w) A (match x with | some added => pure added | none => setAddHashedIn a (.int k tk) (hashInt k) 99999) Q E s') E s := fun t2 hf2 ht2 => by
      refine wpAny_bind (wpAny_storeSet_of r1.at_ rfl ?_ (fits_of_scanBound hb1))
      have r2 := rec_store (es' := es1) (t' := t2) r1 hf2 ht2
      split
      · have hp2 := relayAll_perm t2 es1 (SetTable.grown es1.size)
        have hf3 := relayAll_fits t2 es1 (SetTable.grown es1.size)
        have ht3 := ht2.relayAll es1 (SetTable.grown es1.size)
        generalize relayAll t2 es1 (SetTable.grown es1.size) = R at hp2 hf3 ht3 ⊢
        obtain ⟨es2, t3, gave2⟩ := R
        dsimp only at hp2 hf3 ht3 ⊢
        have hz2 : es2.size = es1.size := by simpa using hp2.length_eq
        have kp2 : (keys es2).Perm (keys es1) := hp2.map _
        refine wpAny_bind (hgw _ ?_)
        refine wpAny_bind (wpAny_storeSet_of (s := { s with heap := _ }) r2.at_ rfl ?_ (fits_of_scanBound (by omega)))
        refine wpAny_pure (wpAny_pure ?_)
        exact h _ _ ((Heap.SameBut.update ..).trans (Heap.SameBut.update ..)) ⟨es2, _, t3, rec_store r2 hf3 ht3, ai1.perm hp2, by omega, kp2.nodup_iff.mpr nd1, fun k' => (kp2.mem_iff).trans (hm1 k')⟩
      · refine wpAny_pure (wpAny_pure ?_)
        exact h _ _ (Heap.SameBut.update ..) ⟨es1, _, t2, r2, ai1, hb1, nd1, hm1⟩
    split
    · refine wpAny_bind ?_
      rw [hashByValue_scannable 8 rfl]
      refine wpAny_pure ?_
      split
      · exact fin t1 hfits htab
      · exact fin _ (SetTable.fits_plain_off hfits) htab.plainOff
    · refine wpAny_bind (wpAny_pure ?_)
      simp only [↓reduceIte]
      exact fin t1 hfits htab
end
end L2

set_option Elab.async false
set_option linter.all false
set_option maxRecDepth 100000
set_option maxHeartbeats 4000000
namespace L2
open PySem PyProof.Rows
section
variable {prog : Program} {w : World} {A : Around} {R : Result → Shared → Prop} {I S : Addr} {fp wr : List Addr} {n : Nat} {P : Nat → Value → Prop} {St : Nat → Heap → Prop}

/-- set.update over ints -/
theorem update_ints (W : Walks prog w A.in1 I fp wr n P St) (hSf : S ∉ fp) (val : Nat → Int) (hval : ∀ i v, P i v → ∃ t, v = .int (val i) t) (hb : n + 1 < scanBound) :
    ∀ (k i : Nat) (s : Shared), n - i = k → i ≤ n → St i s.heap → SetInts w s.heap S ((List.range i).map val).reverse →
      (∀ h' tk, (∀ b o, b ∉ S :: wr → s.heap.get? b = some o → h'.get? b = some o) → SetInts w h' S ((List.range n).map val).reverse → R (.ok (.ret .none)) { s with heap := h', toks := tk }) →
      codeAny (model prog w) A (.builtin "set.update.loop" ⟨[.ref S, .ref I], []⟩) R s := by
  have hSw : S ∉ wr := fun h => hSf (W.sub _ h)
  intro k
  induction k with
  | zero =>
    intro i s hk hi hst hS hR
    have hin : i = n := by omega
    subst hin
    refine codeAny_builtin PyProof.Rows.F.entry_set_update_loop ?_
    rw [Around.under_plainId PyProof.Rows.F.plain_set_update_loop _]
    show wpAny _ A.in1 (pyNext (.ref I) >>= _) _ _ s
    refine wpAny_bind (W.done s _ _ hst fun h' tk hm => wpAny_pure ?_)
    exact hR h' tk (fun b o hb' e => hm b o (fun z => hb' (List.mem_cons_of_mem _ z)) e) (hS.keep fun o e => hm S o hSw e)
  | succ k ih =>
    intro i s hk hi hst hS hR
    have hlt : i < n := by omega
    refine codeAny_builtin PyProof.Rows.F.entry_set_update_loop ?_
    rw [Around.under_plainId PyProof.Rows.F.plain_set_update_loop _]
    show wpAny _ A.in1 (pyNext (.ref I) >>= _) _ _ s
    refine wpAny_bind (W.item i s _ _ hlt hst fun v h1 tk1 hP hst' hm => ?_)
    obtain ⟨t, rfl⟩ := hval i v hP
    show wpAny _ A.in1 (holding [Value.int (val i) t] (setAdd S (.int (val i) t)) >>= _) _ _ _
    refine wpAny_bind (wpAny_holding ?_)
    unfold setAdd
    refine wpAny_holding (wpAny_bind ((intKind prog w).pyHash (k := val i) (intKind_is _ _ _ _) ?_))
    refine wp_add_int (s := { s with heap := h1, toks := tk1 + 1 }) (xs := ((List.range i).map val).reverse) (hS.keep fun o e => hm S o hSw e) (by simp; omega) fun b h2 sb hS2 => ?_
    refine wpAny_pure ⟨plainId_quiet PyProof.Rows.F.plain_set_update_loop _, ih (i + 1) _ (by omega) hlt (W.frame _ _ _ hst' fun b hb o e => (sb.2 b (fun z => hSf (z ▸ hb))).trans e) ?_ fun h3 tk3 hm3 hS3 => ?_⟩
    · rw [List.range_succ, List.map_append, List.reverse_append]
      exact hS2
    · exact hR h3 tk3 (fun b o hb' e => hm3 b o hb' ((sb.2 b (fun z => hb' (z ▸ List.mem_cons_self))).trans (hm b o (fun z => hb' (List.mem_cons_of_mem _ z)) e))) hS3
end

section
variable {prog : Program} {w : World} {A : Around} {E : Value → Shared → Prop} {s : Shared}
theorem code_set_new {a : Value} {Q₁ : Value → Shared → Prop}
    (h : Q₁ (.ref s.heap.objs.size) { s with heap := s.heap.push { cls := .type "set", dict := none, data := .set #[] 0 (.fresh 0 0 (!w.params.followText "set-order")) } }) :
    codeAny (model prog w) A (.call (.builtin "set.__new__") ⟨[.type "set", a], []⟩) (wants Q₁ E) s := by
  refine codeAny_of_tree ?_
  show wpAny _ A.in1 (do checkBuiltinCall "set.__new__" ⟨[.type "set", a], []⟩; again (.builtin "set.__new__" ⟨[.type "set", a], []⟩)) _ _ s
  refine wpAny_bind (wpAny_of_eq (PySem.F.newCall_set_1 a) (wpAny_pure ⟨plainId_quiet PySem.F.plain_set_new _, codeAny_builtin PySem.F.entry_set_new ?_⟩))
  rw [Around.under_plainId PySem.F.plain_set_new _]
  unfold Builtin.«set.__new__» Builtin.Frozenset.newClass
  have hsub := sub_set_self
  obtain ⟨hp, g, d, tk, os⟩ := s
  dsimp only
  wp_walk
  refine wpAny_askSetting (wpAny_pure ?_)
  dsimp only
  simp only [newObj]
  exact wpAny_bind (wpAny_alloc (wpAny_pure (wpAny_pure h)))
theorem fresh_ints {h : Heap} : SetInts w (h.push { cls := .type "set", dict := none, data := .set #[] 0 (.fresh 0 0 (!w.params.followText "set-order")) }) h.objs.size [] :=
  ⟨#[], 0, _, ⟨Heap.get?_push_size _ rfl, by rfl, TabOk.fresh _ _ _⟩, fun e he => by simp at he, by decide, by simp [keys], fun k => by simp [keys]⟩

/-- set(xs) of a list of ints -/
theorem wp_set_of_list {l : Addr} {items : Array Value} {ns : List Int} {Q : Value → Shared → Prop} (hh : A.handled = none) (hl : s.heap.IsList l items) (hi : IntsAre items.toList ns) (hb : items.size + 1 < scanBound)
    (h : ∀ (h' : Heap) (tk : Nat), SetInts w h' s.heap.objs.size ns → (∀ b o, s.heap.get? b = some o → h'.get? b = some o) → Q (.ref s.heap.objs.size) { s with heap := h', toks := tk }) :
    wpAny (model prog w) A (call (.type "set") [.ref l]) Q E s := by
  obtain ⟨c, tl, hmro⟩ := PySem.F.called_set.mro
  have hmade := PySem.F.called_set.made
  have hsub := PySem.F.called_set.sub
  refine wpAny_call (codeAny_of_tree ?_)
  show wpAny _ _ (callAny (.type "set") _) _ _ _
  refine wpAny_pure ⟨Code.quiet_builtin _ (by decide +kernel), codeAny_builtin PySem.F.entry_type_call ?_⟩
  rw [Around.under_plain (weight_type_call_type "set" [.ref l] []) rfl]
  have h1 := PySem.F.called_set.notType
  have h2 := PySem.F.called_set.canCreate
  have hct := PySem.F.typeCall_set_1 (.ref l)
  repeat (any_goals (first | assumption | wp_step))
  refine codeAny_mono (code_set_new (a := .ref l) (E := E) (Q₁ := fun obj s₁ => obj = .ref s.heap.objs.size ∧ s₁ = { s with heap := s.heap.push { cls := .type "set", dict := none, data := .set #[] 0 (.fresh 0 0 (!w.params.followText "set-order")) } }) ⟨rfl, rfl⟩) fun r s₁ hr => ?_
  cases r with
  | error e => exact hr
  | ok fl =>
    cases fl with
    | ret obj =>
      obtain ⟨rfl, rfl⟩ := hr
      have hSI0 : SetInts w (s.heap.push { cls := .type "set", dict := none, data := .set #[] 0 (.fresh 0 0 (!w.params.followText "set-order")) }) s.heap.objs.size [] := fresh_ints
      generalize (!w.params.followText "set-order") = led at hSI0 ⊢
      have hS : (s.heap.push { cls := .type "set", dict := none, data := .set #[] 0 (.fresh 0 0 led) }).get? s.heap.objs.size = some { cls := .type "set", dict := none, data := .set #[] 0 (.fresh 0 0 led) } := Heap.get?_push_size _ rfl
      have hT : Shared.TypeIs { s with heap := s.heap.push { cls := .type "set", dict := none, data := .set #[] 0 (.fresh 0 0 led) } } (.ref s.heap.objs.size) "set" := ⟨_, hS, rfl⟩
      have hSI : SetInts w (s.heap.push { cls := .type "set", dict := none, data := .set #[] 0 (.fresh 0 0 led) }) s.heap.objs.size [] := hSI0
      have hli := PySem.F.called_set.init.lookup
      have hbi := PySem.F.called_set.init.bind (.ref s.heap.objs.size)
      repeat (any_goals (first | assumption | wp_step))
      refine codeAny_mono (codeAny_call_builtin (R := wants (fun r s₂ => r = .none ∧ ∃ h' tk, s₂ = { s with heap := h', toks := tk } ∧ SetInts w h' s.heap.objs.size ns ∧ (∀ b o, s.heap.get? b = some o → h'.get? b = some o)) E)
        PySem.F.called_set.init.plain PySem.F.entry_set_init (check_set_init_1 hT ?_)) fun r₂ s₂ hr₂ => ?_
      · obtain ⟨ol, hol, hcl, nl, hdl⟩ := hl
        obtain ⟨ocls, odict, odata, oslots⟩ := ol
        simp only at hcl hdl
        subst hcl; subst hdl
        have hol' : (s.heap.push { cls := .type "set", dict := none, data := .set #[] 0 (.fresh 0 0 led) }).get? l = some { cls := .type "list", dict := odict, data := .seq items nl, slots := oslots } := Heap.get?_push_of_some _ hol
        have hsls := PySem.F.sub_list_set
        have hslf := PySem.F.sub_list_frozenset
        have hne : (Value.type "list" == Value.type "dict") = false := by decide
        have hl1 : (s.heap.push { cls := .type "set", dict := none, data := .set #[] 0 (.fresh 0 0 led) }).IsList l items := ⟨_, hol', rfl, nl, rfl⟩
        unfold Builtin.«set.__init__» noKeywords Builtin.Frozenset.updateFrom
        generalize hPI : pyIter = PI
        wp_walk
        subst hPI
        refine wpAny_pyIter_list hl1 ?_
        refine wpAny_bind (wpAny_runValue ?_)
        have hlS : l < s.heap.objs.size := Heap.lt_size hol
        have hzO : (s.heap.push { cls := .type "set", dict := none, data := .set #[] 0 (.fresh 0 0 led) }).objs.size = s.heap.objs.size + 1 := Heap.size_push _ _
        have hneI : l ≠ (s.heap.push { cls := .type "set", dict := none, data := .set #[] 0 (.fresh 0 0 led) }).objs.size := by rw [hzO]; exact Nat.ne_of_lt (Nat.lt_succ_of_lt hlS)
        have hval : ∀ (i : Nat) (v : Value), items[i]? = some v → ∃ t, v = .int ((fun i => ns.getD i 0) i) t := fun i v hv =>
          IntsAre.int_at hi i v (by rw [Array.getElem?_toList]; exact hv)
        have hnl : items.size = ns.length := by rw [← hi.length]; simp
        have hns : ((List.range items.size).map fun i => ns.getD i 0) = ns := by
          apply List.ext_getElem
          · simp [hnl]
          · intro j h1 h2; simp [List.getD, List.getElem?_eq_getElem h2]
        refine update_ints (Walks.list (by simp [hh]) _ l hneI items) (by rw [hzO]; simp only [List.mem_cons, List.not_mem_nil, or_false, not_or]; exact ⟨Nat.ne_of_lt (Nat.lt_succ_self _), Nat.ne_of_gt hlS⟩) (fun i => ns.getD i 0) hval hb (items.size - 0) 0 _ (by omega) (Nat.zero_le _)
          ⟨⟨_, Heap.get?_push_size _ rfl, rfl, rfl⟩, (hl1.push _)⟩ ?hS0 ?hR
        case hS0 => exact hSI.keep fun o e => Heap.get?_push_of_some _ e
        case hR =>
          intro h' tk hm hS'
          rw [hns] at hS'
          refine wpAny_pure ?_
          show wpAny _ _ (ret Value.none) _ _ _
          refine wpAny_pure ⟨rfl, h', tk, rfl, ?_, fun b o e => ?_⟩
          · obtain ⟨es, ep, t, q1, q2, q3, q4, q5⟩ := hS'.ex
            exact ⟨es, ep, t, q1, q2, q3, q4, fun k => by rw [q5 k, List.mem_reverse]⟩
          · have hb1 := Heap.lt_size e
            exact hm b o (by rw [hzO]; simp only [List.mem_cons, List.not_mem_nil, or_false, not_or]; exact ⟨Nat.ne_of_lt hb1, Nat.ne_of_lt (Nat.lt_succ_of_lt hb1)⟩) (Heap.get?_push_of_some _ (Heap.get?_push_of_some _ e))
      · cases r₂ with
        | error e => exact hr₂
        | ok fl₂ =>
          cases fl₂ with
          | ret r =>
            obtain ⟨rfl, h', tk, rfl, hS', hk'⟩ := hr₂
            repeat (any_goals (first | assumption | wp_step))
            exact h _ _ hS' hk'
          | _ => exact hr₂.elim
    | _ => exact hr.elim
end
end L2

set_option Elab.async false
set_option linter.all false
set_option maxRecDepth 100000
set_option maxHeartbeats 4000000
namespace L2
open PySem PyProof.Rows
theorem split_set_len : splitId "set.__len__" = some ("set", "__len__") := by decide +kernel
theorem entry_setiter_iter : entryFor table "set_iterator.__iter__" = some Builtin.«dict_keyiterator.__iter__» :=
  entryFor_alias (id' := "dict_keyiterator.__iter__") (by kernel_rfl) rfl (by decide +kernel) (by kernel_rfl)
theorem args_setiter_iter (a : Value) : argsOk "set_iterator.__iter__" ⟨[a], []⟩ := by unfold argsOk; kernel_rfl

theorem IterAt.frame {w : World} {h h' : Heap} {it a p : Addr} {es : Array (Int × Value)} {ep : Nat} {t : SetTable} {ord : List (Int × Value)} {i : Nat} (x : IterAt w h it a p es ep t ord i)
    (k : ∀ b ∈ [it, a, p], ∀ o, h.get? b = some o → h'.get? b = some o) : IterAt w h' it a p es ep t ord i := by
  obtain ⟨f, e, g⟩ := x.rec'
  refine ⟨x.rc.keep fun o e => k a (by simp) o e, ⟨f, k it (by simp) _ e, ?_⟩, x.len⟩
  rcases g with g | ⟨ht, ps, n, e1, e2, r⟩ | g
  · exact .inl g
  · exact .inr (.inl ⟨ht, ps, n, e1, k p (by simp) _ e2, r⟩)
  · exact .inr (.inr g)

theorem wp_ifT {M : Model} {A : Around} {E : Value → Shared → Prop} {s : Shared} {α : Type} {c : Prop} [Decidable c] {x y : Sem α} {Q : α → Shared → Prop} (hc : c) (h : wpAny M A x Q E s) : wpAny M A (if c then x else y) Q E s := by rw [if_pos hc]; exact h
theorem wp_ifF {M : Model} {A : Around} {E : Value → Shared → Prop} {s : Shared} {α : Type} {c : Prop} [Decidable c] {x y : Sem α} {Q : α → Shared → Prop} (hc : ¬ c) (h : wpAny M A y Q E s) : wpAny M A (if c then x else y) Q E s := by rw [if_neg hc]; exact h
section
variable {prog : Program} {w : World} {A : Around} {E : Value → Shared → Prop} {s : Shared}

/-- the set's walk, as the library's loops take it -/
theorem set_walks {it a p : Addr} {es : Array (Int × Value)} {ep : Nat} {t : SetTable} {ord : List (Int × Value)} (hh : A.handled = none) (hl : ord.length = es.size) :
    Walks prog w A it [it, a, p] [it] es.size (fun i v => ∃ e, ord[i]? = some e ∧ v = e.2) (fun i h => IterAt w h it a p es ep t ord i) where
  sub := fun b hb => by simp at hb; simp [hb]
  frame := fun i h h' st k => st.frame k
  item := fun i s Q E' hi st hQ => by
    have e : ord[i]? = some ord[i] := List.getElem?_eq_getElem (by omega)
    refine wp_setnext_item st e fun h' st' sb => ?_
    exact hQ _ h' s.toks ⟨_, e, rfl⟩ st' fun b o hb e => (sb.2 b (by simpa using hb)).trans e
  done := fun s Q E' st hQ => wp_setnext_end hh st rfl fun h' k => hQ h' s.toks fun b o hb e => k b o (by simpa using hb) e
  self := fun i s Q E' st hQ => by
    refine wpAny_pyIter_slot st.ty slot_setiter_iter (wpAny_call_entry slot_setiter_iter st.ty entry_setiter_iter ?_ (args_setiter_iter _))
    show wpAny _ _ (ret (.ref it)) _ _ s
    exact wpAny_pure ⟨_, rfl, "set_iterator", _, st.ty, slot_setiter_next.lookup, hQ⟩

theorem ints_of_keys : ∀ (l : List (Int × Value)), (∀ e ∈ l, ∃ k t, e = (hashInt k, Value.int k t)) → IntsAre (l.map (·.2)) (l.map fun e => keyV e.2)
  | [], _ => .nil
  | e :: r, h => by
    obtain ⟨k, t, rfl⟩ := h e List.mem_cons_self
    exact .cons k t (ints_of_keys r fun e he => h e (List.mem_cons_of_mem _ he))

/-- the items of a set, in some order -/
theorem collect_ints {a : Addr} {xs : List Int} {Q : List Value → Shared → Prop} (hh : A.handled = none) (r : SetInts w s.heap a xs)
    (h : ∀ vs ns h' d tk, IntsAre vs ns → ns.Nodup → (∀ k, k ∈ ns ↔ k ∈ xs) → (∀ b o, s.heap.get? b = some o → h'.get? b = some o) → s.heap.objs.size < h'.objs.size → Q vs { s with heap := h', drawn := d, toks := tk }) :
    wpAny (model prog w) A (collect (.ref a)) Q E s := by
  obtain ⟨es, ep, t, r1, ai, hb, nd, hm⟩ := r.ex
  have hz : es.size ≤ sizeLine := fits_of_scanBound hb
  unfold collect
  refine wpAny_bind (wpAny_runValue (codeAny_builtin entry_proto_collect' ?_))
  show wpAny _ _ (do again (.builtin "list.__iadd__" ⟨[← newList [], .ref a], []⟩)) _ _ s
  refine wpAny_bind (wpAny_newList (wpAny_pure ⟨Code.quiet_builtin _ (by decide +kernel), codeAny_builtin entry_list_iadd' ?_⟩))
  show wpAny _ A.in1 (Builtin.List.listExtendWith (.ref s.heap.objs.size) (.ref a) (.ref s.heap.objs.size)) _ _ { s with heap := s.heap.push (seqObj "list" #[] 0) }
  have ra : SetRec w (s.heap.push (seqObj "list" #[] 0)) a es ep t := r1.keep fun o e => Heap.get?_push_of_some _ e
  have hTa : Shared.TypeIs { s with heap := s.heap.push (seqObj "list" #[] 0) } (.ref a) "set" := ⟨_, ra.at_, rfl⟩
  have alt : a < s.heap.objs.size := Heap.lt_size r1.at_
  unfold Builtin.List.listExtendWith
  refine wpAny_bind (wpAny_typeOf hTa ?_)
  have h1 : Builtin.List.listSameRef (.ref s.heap.objs.size) (.ref a) = false := by simp [Builtin.List.listSameRef, Nat.ne_of_gt alt]
  have h2 : (Value.type "set" == Value.type "list") = false := by decide
  have h3 : (Value.type "set" == Value.type "tuple") = false := by decide
  simp only [h1, h2, h3, Bool.or_false, Bool.false_eq_true, if_false]
  refine wpAny_bind (wp_setiter ra hz fun it p h2 d ord hit hp k2 pm x => ?_)
  have lt2 : s.heap.objs.size < it := Nat.lt_of_lt_of_le (by rw [Heap.size_push]; exact Nat.lt_succ_self _) hit
  have hTb : Shared.TypeIs { s with heap := h2, drawn := d } (.ref a) "set" := ⟨_, x.rc.at_, rfl⟩
  refine wpAny_bind (wpAny_holding ?_)
  unfold Builtin.List.listLengthHint
  refine wpAny_bind (wpAny_specialOf hTb PySem.F.slot_set_len.lookup ?_)
  dsimp only
  rw [split_set_len]
  dsimp only
  refine wpAny_bind (wpAny_isInstance hTb sub_set_self ?_)
  refine wp_ifF (by decide) ?_
  refine wp_ifT (by decide +kernel) ?_
  refine wpAny_bind (wpAny_typeOf hTb ?_)
  refine wpAny_pure ?_
  refine wp_ifT (by decide +kernel) ?_
  refine wpAny_bind (wpAny_rule ?_)
  have hS1 : h2.get? s.heap.objs.size = some { cls := .type "list", data := .seq #[] } := k2 _ _ (Heap.get?_push_size _ rfl)
  refine wpAny_bind ?_
  show wpAny _ A.in1 (updateSeq s.heap.objs.size (·.push .none) >>= fun _ => updateSeq s.heap.objs.size (·.pop)) _ _ _
  refine wpAny_bind (wpAny_updateSeq (s := { s with heap := h2, drawn := d }) hS1 rfl ?_)
  have hS2 := Heap.get?_update_self (Obj.mapSeq (·.push Value.none)) hS1 rfl
  refine wpAny_updateSeq (hz := by seq_fits) hS2 rfl ?_
  have hS3 := Heap.get?_update_self (Obj.mapSeq (·.pop)) hS2 rfl
  have oth : ∀ b o, b ≠ s.heap.objs.size → h2.get? b = some o → ((h2.update s.heap.objs.size (Obj.mapSeq (·.push Value.none))).update s.heap.objs.size (Obj.mapSeq (·.pop))).get? b = some o := fun b o hb e =>
    (Heap.get?_update_other _ _ (Ne.symm hb)).trans ((Heap.get?_update_other _ _ (Ne.symm hb)).trans e)
  have nS : s.heap.objs.size ∉ [it, a, p] := by
    simp only [List.mem_cons, List.not_mem_nil, or_false, not_or]
    refine ⟨Nat.ne_of_lt lt2, Nat.ne_of_gt alt, ?_⟩
    rcases hp with z | z
    · rw [z]; exact Nat.ne_of_gt alt
    · exact Nat.ne_of_lt (Nat.lt_of_lt_of_le (by rw [Heap.size_push]; exact Nat.lt_succ_self _) z)
  have W := (set_walks (prog := prog) (w := w) (A := A.in1) (it := it) (a := a) (p := p) (es := es) (ep := ep) (t := t) (ord := ord) hh x.len).toS
  have x3 : IterAt w ((h2.update s.heap.objs.size (Obj.mapSeq (·.push Value.none))).update s.heap.objs.size (Obj.mapSeq (·.pop))) it a p es ep t ord 0 := x.frame fun b hb o e => oth b o (fun z => nS (z ▸ hb)) e
  refine wpAny_pure ⟨plainId_quiet PySem.F.plain_extend_loop _, codeAny_extend_loopS W hz _ nS _ es.size 0 _ _ _ rfl (Nat.zero_le _) x3 hS3 (ItemsOf.nil _) fun s' acc' c' hm' hS' hacc => ?_⟩
  refine wpAny_bind (wpAny_load hS' ?_)
  refine wpAny_pure ?_
  have ev : acc'.toList = ord.map (·.2) := by
    apply List.ext_getElem
    · rw [Array.length_toList, hacc.1, List.length_map, x.len]
    · intro j j1 j2
      obtain ⟨e, e1, e2⟩ := hacc.2 j acc'.toList[j] (by rw [← Array.getElem?_toList]; exact List.getElem?_eq_getElem j1)
      rw [e2, List.getElem_map]
      rw [List.getElem?_eq_getElem (by simpa using j2)] at e1
      rw [Option.some.inj e1]
  have hord : ∀ e ∈ ord, ∃ k t, e = (hashInt k, Value.int k t) := fun e he => ai e (pm.mem_iff.mp he)
  have kp : (ord.map fun e => keyV e.2).Perm (keys es) := pm.map _
  obtain ⟨hh', g', d', tk', o'⟩ := s'
  have eg : g' = s.gens := hm'.gens
  have ed : d' = d := hm'.drawn
  have eo : o' = s.os := hm'.os
  subst eg ed eo
  refine h acc'.toList (ord.map fun e => keyV e.2) hh' d' tk' (by rw [ev]; exact ints_of_keys ord hord) (kp.nodup_iff.mpr nd) (fun k => (kp.mem_iff).trans (hm k)) (fun b o e => ?_) (Heap.lt_size hS')
  have hb1 := Heap.lt_size e
  exact hm'.heap b o (by
    simp only [List.mem_cons, List.not_mem_nil, or_false, not_or]
    exact ⟨Nat.ne_of_lt hb1, Nat.ne_of_lt (Nat.lt_trans hb1 lt2)⟩) (oth b o (Nat.ne_of_lt hb1) (k2 b o (Heap.get?_push_of_some _ e)))

/-- sorted(s) of a set of ints -/
theorem wp_sorted_set {a : Addr} {xs : List Int} {Q : Value → Shared → Prop} (hh : A.handled = none) (r : SetInts w s.heap a xs) (h64 : xs.length < 64)
    (h : ∀ l (out : List Value) ns' h' d tk n, IntsAre out ns' → ns'.Pairwise (· < ·) → (∀ k, k ∈ ns' ↔ k ∈ xs) → s.heap.objs.size ≤ l → h'.get? l = some { cls := .type "list", data := .seq out.toArray n } →
      (∀ b o, s.heap.get? b = some o → h'.get? b = some o) → Q (.ref l) { s with heap := h', drawn := d, toks := tk }) :
    wpAny (model prog w) A (call (.builtin "sorted") [.ref a]) Q E s := by
  refine Calls.call_function_entry kind_sorted plain_sorted entry_sorted (args_sorted1 _) ?_
  unfold Builtin.«sorted»
  refine wpAny_bind (m := checkCount "sorted" 1 1 _) (wpAny_pure ?_)
  refine wpAny_bind (collect_ints (A := A.in1) hh r fun vs ns h1 d tk hI hnd hm k1 hz1 => ?_)
  have hl : vs.length < 64 := by
    have e := hI.length
    have := nodup_len hnd fun x hx => (hm x).mp hx
    omega
  refine wpAny_bind (wpAny_newList ?_ (by rw [sizeLine_eq]; omega))
  have hoL : (h1.push (seqObj "list" vs.toArray 0)).get? h1.objs.size = some (seqObj "list" vs.toArray 0) := Heap.get?_push_size _ rfl
  refine wpAny_bind (wpAny_holding (wpAny_call_entry slot_list_sort ⟨_, hoL, rfl⟩ entry_list_sort (list_sort_tree hoL hI hl fun out ns' a1 a2 a3 => ⟨_, rfl, ?_⟩) (args_list_sort _)))
  refine wpAny_pure ⟨_, rfl, ?_⟩
  obtain ⟨n, hat⟩ := sortedHeap_at (out := out) hoL
  refine h h1.objs.size out.toList ns' _ d tk n a1 ?_ (fun k => a2.mem_iff.trans (hm k)) (Nat.le_of_lt hz1) hat fun b o e => ?_
  · have nd' : ns'.Nodup := a2.nodup_iff.mpr hnd
    exact (List.pairwise_iff_getElem.mpr fun i j hi hj hij => by
      have q1 := List.pairwise_iff_getElem.mp a3 i j hi hj hij
      have q2 : ns'[i] ≠ ns'[j] := fun z => absurd ((List.getElem_inj nd').mp z) (Nat.ne_of_lt hij)
      omega)
  · have hb := Heap.lt_size (k1 b o e)
    rw [sortedHeap_old (Nat.ne_of_lt hb) (by rw [size_push']; exact Nat.lt_succ_of_lt hb)]
    exact Heap.get?_push_of_some _ (k1 b o e)
end
end L2

set_option Elab.async false
set_option linter.all false
set_option maxRecDepth 100000
set_option maxHeartbeats 4000000
namespace L2
open PySem PySem.Spec PyProof.Rows

/-! ### sets of ints -/
def SetO (w : World) (a : Addr) (xs : List Int) : HO := .ext fun h => SetInts w h a xs
section
variable {X : Cx}
theorem set_objOk {P : Program} {w : World} {H : Hp} {h : Heap} {a : Addr} {xs : List Int} (r : SetInts w h a xs) : ObjOk P w H h a (SetO w a xs) :=
  ⟨r, let ⟨_, _, _, q, _⟩ := r.ex; ⟨_, q.at_⟩, fun h1 h2 q k => q.keep k⟩
theorem call_set_of (hc : X.calm = true) : CallR X (.type "set") (fun vs H Q => ∃ (p : Addr) (ns : List Int), vs = [.ref p] ∧ SqL X.K H p (ns.map V.int) ∧ ns.length + 1 < scanBound ∧ ∀ l, H l = none → Q (.ref l) (upd H l (SetO X.w l ns))) := by
  intro pins s σ H vs us Q I r h
  obtain ⟨p, ns, rfl, hq, hb, q⟩ := h
  obtain ⟨u, rfl, rx⟩ := vals1 r
  cases rx
  obtain ⟨its, r', pl, hz⟩ := I.list hq
  have hlen := r'.length
  rw [List.length_map] at hlen
  refine wp_set_of_list (ns := ns) (I.ok.hd hc) pl.isList (by simpa using intsAre_of r') (by simp only [List.size_toArray]; omega) fun h' tk hS hk => ?_
  exact ⟨.ref s.heap.objs.size, _, I.laid hk (Nat.le_refl _) (set_objOk hS), rfl, q _ I.fresh⟩
theorem vals_int : ∀ {vs : List Value} {ns : List Int}, IntsAre vs ns → Vals (ns.map V.int) vs
  | _, _, .nil => .nil
  | _, _, .cons n t r => .cons ⟨t, rfl⟩ (vals_int r)
theorem call_sorted_set (hc : X.calm = true) : CallR X (.builtin "sorted") (fun vs H Q => ∃ p xs, vs = [.ref p] ∧ H p = some (SetO X.w p xs) ∧ xs.length < 64 ∧
    ∀ (l : Addr) (ns : List Int), H l = none → ns.Pairwise (· < ·) → (∀ k : Int, k ∈ ns ↔ k ∈ xs) → Q (.ref l) (upd H l (.lst (ns.map V.int)))) := by
  intro pins s σ H vs us Q I r h
  obtain ⟨p, xs, rfl, hq, hb, q⟩ := h
  obtain ⟨u, rfl, rx⟩ := vals1 r
  cases rx
  have hS : SetInts X.w s.heap p xs := (I.hok p _ hq).1
  refine wp_sorted_set (I.ok.hd hc) hS hb fun l out ns' h' d tk n hI hp hm hl he hk => ?_
  have hn : H l = none := I.hok.fresh hl
  have hle : (ns'.map V.int).length ≤ sizeLine := by
    have := nodup_len (hp.imp fun h => Int.ne_of_lt h) fun x hx => (hm x).mp hx
    rw [List.length_map, sizeLine_eq]; omega
  refine ⟨.ref l, upd H l (.lst (ns'.map V.int)), ?_, rfl, q l ns' hn hp hm⟩
  exact I.call (ch := []) (Un.laid hk hl hn) (I.hok.laid hk hl ⟨hle, out, n, vals_int hI, he⟩) I.bare fun b hb => absurd hb (by simp)

/-! ### isinstance -/
inductive IsI (K : PySem.W.Frag) (H : Hp) : V → String → Bool → Prop
  | bl_bool (b) : IsI K H (.bl b) "bool" true
  | bl_int (b) : IsI K H (.bl b) "int" true
  | bl_list (b) : IsI K H (.bl b) "list" false
  | bl_tuple (b) : IsI K H (.bl b) "tuple" false
  | bl_str (b) : IsI K H (.bl b) "str" false
  | int_bool (i) : IsI K H (.int i) "bool" false
  | int_int (i) : IsI K H (.int i) "int" true
  | int_list (i) : IsI K H (.int i) "list" false
  | int_tuple (i) : IsI K H (.int i) "tuple" false
  | int_str (i) : IsI K H (.int i) "str" false
  | non_bool : IsI K H .non "bool" false
  | non_int : IsI K H .non "int" false
  | non_list : IsI K H .non "list" false
  | non_tuple : IsI K H .non "tuple" false
  | non_str : IsI K H .non "str" false
  | str_bool (i) : IsI K H (.str i) "bool" false
  | str_int (i) : IsI K H (.str i) "int" false
  | str_list (i) : IsI K H (.str i) "list" false
  | str_tuple (i) : IsI K H (.str i) "tuple" false
  | str_str (i) : IsI K H (.str i) "str" true
  | list_bool (p xs) : SqL K H p xs → IsI K H (.ref p) "bool" false
  | list_int (p xs) : SqL K H p xs → IsI K H (.ref p) "int" false
  | list_list (p xs) : SqL K H p xs → IsI K H (.ref p) "list" true
  | list_tuple (p xs) : SqL K H p xs → IsI K H (.ref p) "tuple" false
  | list_str (p xs) : SqL K H p xs → IsI K H (.ref p) "str" false
  | tuple_bool (p xs) : SqT K H p xs → IsI K H (.ref p) "bool" false
  | tuple_int (p xs) : SqT K H p xs → IsI K H (.ref p) "int" false
  | tuple_list (p xs) : SqT K H p xs → IsI K H (.ref p) "list" false
  | tuple_tuple (p xs) : SqT K H p xs → IsI K H (.ref p) "tuple" true
  | tuple_str (p xs) : SqT K H p xs → IsI K H (.ref p) "str" false
theorem call_isi : CallR X (.builtin "isinstance") (fun vs H Q => ∃ x T b, vs = [x, .ty T] ∧ IsI X.K H x T b ∧ Q (.bl b) H) := by
  intro pins s σ H vs us Q I r h
  obtain ⟨x, T, b, rfl, hi, q⟩ := h
  obtain ⟨u, w', rfl, rx, ry⟩ := vals2 r
  cases ry
  have f0 : EP X pins σ Q (.bool b) s := ⟨.bl b, H, I, rfl, q⟩
  have f1 : EP X pins σ Q (.bool b) { s with toks := s.toks + 1 } := ⟨.bl b, H, I.tok _, rfl, q⟩
  cases hi with
  | bl_bool => cases rx; exact IsiPair.bool_bool f0
  | bl_int => cases rx; exact IsiPair.bool_int f0
  | bl_list => cases rx; exact IsiPair.bool_list f1
  | bl_tuple => cases rx; exact IsiPair.bool_tuple f1
  | bl_str => cases rx; exact IsiPair.bool_str f1
  | int_bool => obtain ⟨t, rfl⟩ := rx; exact IsiPair.int_bool f1
  | int_int => obtain ⟨t, rfl⟩ := rx; exact IsiPair.int_int f0
  | int_list => obtain ⟨t, rfl⟩ := rx; exact IsiPair.int_list f1
  | int_tuple => obtain ⟨t, rfl⟩ := rx; exact IsiPair.int_tuple f1
  | int_str => obtain ⟨t, rfl⟩ := rx; exact IsiPair.int_str f1
  | non_bool => cases rx; exact IsiPair.NoneType_bool f1
  | non_int => cases rx; exact IsiPair.NoneType_int f1
  | non_list => cases rx; exact IsiPair.NoneType_list f1
  | non_tuple => cases rx; exact IsiPair.NoneType_tuple f1
  | non_str => cases rx; exact IsiPair.NoneType_str f1
  | str_bool => obtain ⟨t, rfl⟩ := rx; exact IsiPair.str_bool f1
  | str_int => obtain ⟨t, rfl⟩ := rx; exact IsiPair.str_int f1
  | str_list => obtain ⟨t, rfl⟩ := rx; exact IsiPair.str_list f1
  | str_tuple => obtain ⟨t, rfl⟩ := rx; exact IsiPair.str_tuple f1
  | str_str => obtain ⟨t, rfl⟩ := rx; exact IsiPair.str_str f0
  | list_bool p xs h => cases rx; obtain ⟨_, _, ⟨o, n, e, c, _⟩, _⟩ := I.list h; exact IsiPair.list_bool e c f1
  | list_int p xs h => cases rx; obtain ⟨_, _, ⟨o, n, e, c, _⟩, _⟩ := I.list h; exact IsiPair.list_int e c f1
  | list_list p xs h => cases rx; obtain ⟨_, _, ⟨o, n, e, c, _⟩, _⟩ := I.list h; exact IsiPair.list_list e c f0
  | list_tuple p xs h => cases rx; obtain ⟨_, _, ⟨o, n, e, c, _⟩, _⟩ := I.list h; exact IsiPair.list_tuple e c f1
  | list_str p xs h => cases rx; obtain ⟨_, _, ⟨o, n, e, c, _⟩, _⟩ := I.list h; exact IsiPair.list_str e c f1
  | tuple_bool p xs h => cases rx; obtain ⟨_, _, ⟨o, e, c, _⟩, _⟩ := I.tuple h; exact IsiPair.tuple_bool e c f1
  | tuple_int p xs h => cases rx; obtain ⟨_, _, ⟨o, e, c, _⟩, _⟩ := I.tuple h; exact IsiPair.tuple_int e c f1
  | tuple_list p xs h => cases rx; obtain ⟨_, _, ⟨o, e, c, _⟩, _⟩ := I.tuple h; exact IsiPair.tuple_list e c f1
  | tuple_tuple p xs h => cases rx; obtain ⟨_, _, ⟨o, e, c, _⟩, _⟩ := I.tuple h; exact IsiPair.tuple_tuple e c f0
  | tuple_str p xs h => cases rx; obtain ⟨_, _, ⟨o, e, c, _⟩, _⟩ := I.tuple h; exact IsiPair.tuple_str e c f1

/-! ### all, any of a list of bools -/
theorem bools_at {bs : List Bool} : ∀ {us : List Value}, Vals (bs.map V.bl) us → ∀ (i : Nat) v, us[i]? = some v → v = .bool (bs.getD i false) := by
  induction bs with
  | nil => intro us r i v h; cases r; simp at h
  | cons b bs ih =>
    intro us r i v h
    rw [List.map_cons] at r
    cases r with
    | cons r1 r2 =>
      cases i with
      | zero => simp at h; subst h; exact r1
      | succ i => simpa using ih r2 i v (by simpa using h)
theorem range_all (bs : List Bool) : ((List.range bs.length).all fun i => bs.getD i false) = bs.all id := by
  induction bs with
  | nil => rfl
  | cons b bs ih =>
    rw [List.length_cons, List.range_succ_eq_map, List.all_cons, List.all_map, List.all_cons, ← ih]
    rfl
theorem range_any (bs : List Bool) : ((List.range bs.length).any fun i => bs.getD i false) = bs.any id := by
  induction bs with
  | nil => rfl
  | cons b bs ih =>
    rw [List.length_cons, List.range_succ_eq_map, List.any_cons, List.any_map, List.any_cons, ← ih]
    rfl
theorem call_allL (hc : X.calm = true) : CallR X (.builtin "all") (fun vs H Q => ∃ (p : Addr) (bs : List Bool), vs = [.ref p] ∧ SqL X.K H p (bs.map V.bl) ∧ Q (.bl (bs.all id)) H) := by
  intro pins s σ H vs us Q I r h
  obtain ⟨p, bs, rfl, hq, q⟩ := h
  obtain ⟨u, rfl, rx⟩ := vals1 r
  cases rx
  obtain ⟨its, r', pl, hz⟩ := I.list hq
  have hlen := r'.length
  rw [List.length_map] at hlen
  have hp : p < s.heap.objs.size := let ⟨o, n, e, _⟩ := pl; Heap.lt_size e
  refine call_all_walk (wpAny_pyIter_list pl.isList ?_)
  refine ⟨s.heap.objs.size, _, [s.heap.objs.size], _, _, _, fun i => bs.getD i false, rfl, Walks.list (A := X.A.in1) (I.ok.hd hc) _ p (Nat.ne_of_lt hp) its.toArray, ⟨⟨_, Heap.get?_push_size _ rfl, rfl, rfl⟩, pl.isList.push _⟩, fun i v s' Q' E' hP hQ => ?_, fun h' tk hk => ?_⟩
  · rw [bools_at r' i v (by simpa using hP)]
    exact wpAny_truthy_bool hQ
  · rw [List.size_toArray, ← hlen, range_all]
    exact ⟨.bl _, H, I.kept fun b o e => hk b o (by simpa using Nat.ne_of_lt (Heap.lt_size e)) (Heap.get?_push_of_some _ e), rfl, q⟩
theorem call_anyL (hc : X.calm = true) : CallR X (.builtin "any") (fun vs H Q => ∃ (p : Addr) (bs : List Bool), vs = [.ref p] ∧ SqL X.K H p (bs.map V.bl) ∧ Q (.bl (bs.any id)) H) := by
  intro pins s σ H vs us Q I r h
  obtain ⟨p, bs, rfl, hq, q⟩ := h
  obtain ⟨u, rfl, rx⟩ := vals1 r
  cases rx
  obtain ⟨its, r', pl, hz⟩ := I.list hq
  have hlen := r'.length
  rw [List.length_map] at hlen
  have hp : p < s.heap.objs.size := let ⟨o, n, e, _⟩ := pl; Heap.lt_size e
  refine call_any_walk (wpAny_pyIter_list pl.isList ?_)
  refine ⟨s.heap.objs.size, _, [s.heap.objs.size], _, _, _, fun i => bs.getD i false, rfl, Walks.list (A := X.A.in1) (I.ok.hd hc) _ p (Nat.ne_of_lt hp) its.toArray, ⟨⟨_, Heap.get?_push_size _ rfl, rfl, rfl⟩, pl.isList.push _⟩, fun i v s' Q' E' hP hQ => ?_, fun h' tk hk => ?_⟩
  · rw [bools_at r' i v (by simpa using hP)]
    exact wpAny_truthy_bool hQ
  · rw [List.size_toArray, ← hlen, range_any]
    exact ⟨.bl _, H, I.kept fun b o e => hk b o (by simpa using Nat.ne_of_lt (Heap.lt_size e)) (Heap.get?_push_of_some _ e), rfl, q⟩

/-! ### two lists of the same items -/
def okV : V → Bool
  | .byt _ => false
  | .flt _ => false
  | _ => true
theorem eqAt_same {A : Around} {s : Shared} {x : V} {u v : Value} (r1 : RelV x u) (r2 : RelV x v) (ok : okV x = true) : SeqAt.EqAt A s u v true := by
  cases x with
  | non => cases r1; cases r2; exact .same _
  | bl b => cases r1; cases r2; exact .same _
  | int i => obtain ⟨t, rfl⟩ := r1; obtain ⟨t', rfl⟩ := r2; simpa using SeqAt.EqAt.int_int (A := A) (s := s) i t i t'
  | str i => obtain ⟨t, rfl⟩ := r1; obtain ⟨t', rfl⟩ := r2; simpa using SeqAt.EqAt.str_str (A := A) (s := s) i t i t'
  | ref a => cases r1; cases r2; exact .same _
  | ty n => cases r1; cases r2; exact .same _
  | byt b => cases ok
  | flt b => cases ok
def rSameNe (K : PySem.W.Frag) : R2 := fun x y H Q => ∃ a b xs, x = .ref a ∧ y = .ref b ∧ SqL K H a xs ∧ SqL K H b xs ∧ xs.all okV = true ∧ Q (.bl false) H
theorem op_same_ne (hu : X.A.units < cLine) : OpR X (compareOp .NotEq) (rSameNe X.K) := by
  intro pins s σ H x y v u Q I rx ry h
  obtain ⟨a, b, xs, rfl, rfl, ha, hb, ok, q⟩ := h
  cases rx
  cases ry
  obtain ⟨i1, r1, p1, z1⟩ := I.list ha
  obtain ⟨i2, r2, p2, z2⟩ := I.list hb
  have l1 := r1.length
  have l2 := r2.length
  refine SeqAt.RcNeAt.lists (e := fun _ => true) p1.isList p2.isList (by simp only [List.size_toArray]; omega) hu (fun j h1 h2 => ?_) _ _ _ _ ?_
  · have hj : j < xs.length := by simp only [List.size_toArray] at h1; omega
    obtain ⟨u1, e1, q1⟩ := r1.get (i := j) (x := xs[j]) (List.getElem?_eq_getElem hj)
    obtain ⟨u2, e2, q2⟩ := r2.get (i := j) (x := xs[j]) (List.getElem?_eq_getElem hj)
    have g1 : i1.toArray[j] = u1 := by
      have := List.getElem?_eq_some_iff.mp e1
      simpa using this.2
    have g2 : i2.toArray[j] = u2 := by
      have := List.getElem?_eq_some_iff.mp e2
      simpa using this.2
    rw [g1, g2]
    exact eqAt_same q1 q2 (List.all_eq_true.mp ok _ (List.getElem_mem hj))
  · exact fin_bl I q (by simp)

/-! ### // by a number below 2^64; an item for op= -/
def CDivW (i j : Int) : Prop := 0 < j ∧ j < 2 ^ 64
theorem op_fdivW : OpR X (binaryOp .FloorDiv) (rI CDivW fun i j => .int (i / j)) := opI fun i j _ _ _ _ _ hc q => by
  have hp : (0 : Int) < j := hc.1
  have hl : j.natAbs.log2 < 9000 := by
    have h2 : j < 2 ^ 64 := hc.2
    have h3 : j.natAbs < 2 ^ 64 := by omega
    have h4 : j.natAbs.log2 < 64 := (Nat.log2_lt (by omega)).mpr h3
    omega
  exact floordiv_int (by omega) (by rw [Int.fdiv_eq_ediv_of_nonneg i (by omega)]; exact q) (.inl (PyProof.noPylong_of_log2 hl))
def rGetL (K : PySem.W.Frag) : V → V → Hp → VK → Prop := fun x y H Q => ∃ (p : Addr) (xs : List V) (j : Nat) (v : V), x = .ref p ∧ y = .int j ∧ SqL K H p xs ∧ xs[j]? = some v ∧ Q v H
theorem get_list : PGet X (rGetL X.K) := by
  intro pins s σ H o i ov iv Q I r1 r2 h
  obtain ⟨p, xs, j, v, rfl, rfl, hq, he, q⟩ := h
  cases r1
  obtain ⟨t, rfl⟩ := r2
  obtain ⟨its, r, pl, hz⟩ := I.list hq
  obtain ⟨u, eu, ru⟩ := r.get he
  have hj : j < xs.length := (List.getElem?_eq_some_iff.mp he).1
  have hn := line63
  exact wpAny_getItem_list pl.isList (by omega) (by omega) (by simpa using eu) ⟨v, H, I, ru, q⟩
end
end L2

set_option Elab.async false
set_option linter.all false
set_option maxRecDepth 100000
set_option maxHeartbeats 4000000
namespace L2
open PySem PySem.Spec PyProof.Rows
section
variable {P : Program} {w : World} {A : Around} {E : Value → Shared → Prop} {s : Shared}
/-- next over a tuple's iterator, as a builtin calls it -/
theorem tupNext_some {it t : Addr} {i : Nat} {xs : Array Value} {x : Value} {Q : Value → Shared → Prop} (ht : s.heap.IsTupleIter it t i) (hl : s.heap.IsTuple t xs) (hx : xs[i]? = some x)
    (q : ∀ h', h'.IsTupleIter it t (i + 1) → Heap.SameBut it s.heap h' → Q x { s with heap := h' }) : wpAny (model P w) A (Builtin.SmallTypes.nextOf (.ref it)) Q E s := by
  obtain ⟨o, e, c, d⟩ := id ht
  obtain ⟨ol, el, _, n, dl⟩ := hl
  unfold Builtin.SmallTypes.nextOf
  refine wpAny_bind (wpAny_callSpecial?_slot (name := Str.ofString "__next__") ht.typeIs F.slot_tuple_iterator_next (wpAny_call_entry F.slot_tuple_iterator_next ht.typeIs F.entry_tuple_iterator_next ?_ (F.args_tuple_iterator_next_1 _)))
  show wpAny _ _ (field (.ref it) 0 >>= _) _ _ s; refine wpAny_bind (wpAny_field e d (x := .ref t) rfl ?_)
  show wpAny _ _ (if (Value.ref t == Value.none) = true then _ else _) _ _ s; rw [if_neg (show ¬ ((Value.ref t == Value.none) = true) from Bool.false_ne_true)]
  show wpAny _ _ (field (.ref it) 1 >>= _) _ _ s; refine wpAny_bind (wpAny_field e d (x := .int i 0) rfl ?_)
  show wpAny _ _ (seqItems? (.ref t) >>= _) _ _ s; refine wpAny_bind (wpAny_seqItems el dl ?_)
  simp only [hx, Int.toNat_natCast]
  refine wpAny_bind (wpAny_setField e d (by simp) (wpAny_pure ⟨x, rfl, wpAny_pure (q _ ⟨_, Heap.get?_update_self _ e (Obj.isFreed_of_fields (Obj.data_mapFields d _)), (Obj.cls_mapFields ..).trans c, by rw [Obj.data_mapFields d]; simp [rawInt]⟩ (Heap.SameBut.update ..))⟩))
theorem tupNext_none {it t : Addr} {i : Nat} {xs : Array Value} {Q : Value → Shared → Prop} (hh : A.handled = none) (ht : s.heap.IsTupleIter it t i) (hl : s.heap.IsTuple t xs) (hx : xs[i]? = none)
    (q : ∀ h' e, Heap.ExtBut it s.heap h' → (∃ o, h'.get? e = some o ∧ o.cls = .type "StopIteration") → E (.ref e) { s with heap := h' }) : wpAny (model P w) A (Builtin.SmallTypes.nextOf (.ref it)) Q E s := by
  obtain ⟨o, e, c, d⟩ := id ht
  obtain ⟨ol, el, _, n, dl⟩ := hl
  unfold Builtin.SmallTypes.nextOf
  refine wpAny_bind (wpAny_callSpecial?_slot (name := Str.ofString "__next__") ht.typeIs F.slot_tuple_iterator_next (wpAny_call_entry F.slot_tuple_iterator_next ht.typeIs F.entry_tuple_iterator_next ?_ (F.args_tuple_iterator_next_1 _)))
  show wpAny _ _ (field (.ref it) 0 >>= _) _ _ s; refine wpAny_bind (wpAny_field e d (x := .ref t) rfl ?_)
  show wpAny _ _ (if (Value.ref t == Value.none) = true then _ else _) _ _ s; rw [if_neg (show ¬ ((Value.ref t == Value.none) = true) from Bool.false_ne_true)]
  show wpAny _ _ (field (.ref it) 1 >>= _) _ _ s; refine wpAny_bind (wpAny_field e d (x := .int i 0) rfl ?_)
  show wpAny _ _ (seqItems? (.ref t) >>= _) _ _ s; refine wpAny_bind (wpAny_seqItems el dl ?_)
  simp only [hx, Int.toNat_natCast]
  refine wpAny_bind (wpAny_rule (wpAny_bind (wpAny_setField e d (by simp) ?_)))
  show wpAny _ _ (newExc (.type "StopIteration") [] >>= _) _ _ _; refine wpAny_bind ?_
  simp only [newTuple, newExc]
  refine wpAny_bind (wpAny_newObj_type (wpAny_bind (m := firstArgMember _ _) (wpAny_of_eq (a := Value.none) (by first | rfl | (simp only [firstArgMember]; rfl)) (wpAny_newObj_type ?_ (by size_fits)))) (by size_fits))
  simp only [raiseNew]
  refine wpAny_bind (wpAny_handled ?_); first | rw [show A.in1.handled = none from hh] | rw [hh]
  exact wpAny_bind (wpAny_pure (wpAny_throw (q _ _ (((Heap.SameBut.update ..).extBut.push _).push _) ⟨_, Heap.get?_push_size _ rfl, rfl⟩)))
end
theorem draws_tuple {P : Program} {w : World} {A : Around} (hh : A.handled = none) (it t : Addr) (hne : t ≠ it) (xs : Array Value) :
    Draws P w A it [it, t] xs.size (fun i v => xs[i]? = some v) (fun i h => h.IsTupleIter it t i ∧ h.IsTuple t xs) where
  live := fun _ _ st => let ⟨o, e, _⟩ := st.1; ⟨o, e⟩
  frame := fun _ _ _ st k => ⟨let ⟨o, e, r⟩ := st.1; ⟨o, k it (by simp) o e, r⟩, let ⟨o, e, r⟩ := st.2; ⟨o, k t (by simp) o e, r⟩⟩
  item := fun i s Q E hi st q => tupNext_some st.1 st.2 (x := xs[i]) (by simp [hi]) fun h' a sb => q _ h' s.toks (by simp [hi]) ⟨a, st.2.extBut sb.extBut hne⟩ sb
  done := fun s Q E st q => tupNext_none hh st.1 st.2 (by simp) q
end L2

set_option Elab.async false
set_option linter.all false
set_option maxRecDepth 100000
set_option maxHeartbeats 4000000
namespace L2
open PySem PySem.Spec PyProof.Rows
/-- the objects of a zip over two iterators -/
structure ZAp (z a b i j : Addr) (f g : List Addr) : Prop where
  az : a ≠ z
  bz : b ≠ z
  iz : i ≠ z
  jz : j ≠ z
  ab : a ≠ b
  ai : a ≠ i
  aj : a ≠ j
  bi : b ≠ i
  bj : b ≠ j
  ij : i ≠ j
  zf : z ∉ f
  bf : b ∉ f
  jf : j ∉ f
  zg : z ∉ g
  bg : b ∉ g
  ig : i ∉ g
section
variable {P : Program} {w : World} {A : Around} {E : Value → Shared → Prop} {s : Shared} {z a b i j : Addr} {f g : List Addr} {n m k : Nat} {F1 F2 : Nat → Value → Prop} {S1 S2 : Nat → Heap → Prop}
theorem keepBut {h h' : Heap} {c : Addr} {l : List Addr} (sb : Heap.SameBut c h h') (hc : c ∉ l) : ∀ b ∈ l, ∀ o, h.get? b = some o → h'.get? b = some o := fun b hb o e => sb.extBut b o (fun z => hc (z ▸ hb)) e
theorem zipNext_some {u v : Value} {Q : Value → Shared → Prop} (Z : ZAp z a b i j f g) (D1 : Draws P w A i f n F1 S1) (D2 : Draws P w A j g m F2 S2) (hz : IsZip s.heap z a b .none) (ha : IsPair s.heap a (.ref i) (.ref j)) (hb : IsPair s.heap b u v)
    (s1 : S1 k s.heap) (s2 : S2 k s.heap) (k1 : k < n) (k2 : k < m)
    (q : ∀ x y h' tk t, F1 k x → F2 k y → t = s.heap.objs.size → IsZip h' z a b (rawInt t) → IsPair h' b x y → S1 (k + 1) h' → S2 (k + 1) h' → IsPair h' t x y →
      (∀ c o, c ≠ z → c ≠ b → c ≠ i → c ≠ j → s.heap.get? c = some o → h'.get? c = some o) → Q (.ref t) { s with heap := h', toks := tk }) :
    wpAny (model P w) A (Builtin.«zip.__next__» ⟨[.ref z], []⟩) (fun fin s' => ∃ v, fin = .done (.ret v) ∧ Q v s') E s := by
  show wpAny _ _ (field (.ref z) 2 >>= _) _ _ _; refine wpAny_bind (wpAny_field hz rfl (x := .bool false) rfl ?_)
  show wpAny _ _ (field (.ref z) 3 >>= _) _ _ _; refine wpAny_bind (wpAny_field hz rfl (x := .ref a) rfl (wpAny_bind (wpAny_seqItems ha rfl ?_)))
  show wpAny _ _ (Builtin.SmallTypes.ownedTupleIsFree (.ref z) >>= _) _ _ _; refine wpAny_bind ?_
  unfold Builtin.SmallTypes.ownedTupleIsFree
  refine wpAny_bind (wpAny_field hz rfl (x := .none) rfl (wpAny_pure ?_)); simp only [if_true]
  refine wpAny_bind (wpAny_rule (wpAny_bind (wpAny_field hz rfl (x := .ref b) rfl (wpAny_bind (wpAny_setField_rec hz (by simp) fun h1 z1 e1 => ?_)))))
  replace z1 : IsZip h1 z a b .ellipsis := z1
  refine wpAny_bind ?_; simp only [List.zipIdx_cons, List.zipIdx_nil, List.forIn_cons, List.forIn_nil]
  refine wpAny_bind (wpAny_bind (wpAny_onRaise ?_)); show wpAny _ _ (Builtin.SmallTypes.nextOf (.ref i) >>= _) _ _ _
  have t1 : S1 k h1 := D1.frame _ _ _ s1 (keepBut e1 Z.zf)
  have t2 : S2 k h1 := D2.frame _ _ _ s2 (keepBut e1 Z.zg)
  refine wpAny_bind (D1.item k _ _ _ k1 t1 fun x h2 tk2 px u1 e2 => wpAny_pure ?_)
  have b2 : IsPair h2 b u v := e2.extBut _ _ Z.bi (e1.extBut _ _ Z.bz hb)
  refine wpAny_bind (wpAny_seqItems b2 rfl (wpAny_bind (wpAny_updateSeq_pair b2 fun h3 b3 e3 => ?_)))
  replace b3 : IsPair h3 b x v := b3
  refine wpAny_bind (wpAny_letGo (wpAny_pure ?_))
  refine wpAny_bind (wpAny_bind (wpAny_onRaise ?_)); show wpAny _ _ (Builtin.SmallTypes.nextOf (.ref j) >>= _) _ _ _
  have t3 : S2 k h3 := D2.frame _ _ _ (D2.frame _ _ _ t2 (keepBut e2 Z.ig)) (keepBut e3 Z.bg)
  refine wpAny_bind (D2.item k _ _ _ k2 t3 fun y h4 tk4 py u2 e4 => wpAny_pure ?_)
  have b4 : IsPair h4 b x v := e4.extBut _ _ Z.bj b3
  refine wpAny_bind (wpAny_seqItems b4 rfl (wpAny_bind (wpAny_updateSeq_pair b4 fun h5 b5 e5 => ?_)))
  replace b5 : IsPair h5 b x y := b5
  refine wpAny_bind (wpAny_letGo (wpAny_pure (wpAny_pure (wpAny_bind (wpAny_seqItems b5 rfl (wpAny_bind (wpAny_newTuple ?_)))))))
  have sz : h5.objs.size = s.heap.objs.size := by rw [e5.1, e4.1, e3.1, e2.1, e1.1]
  have z5 : IsZip h5 z a b .ellipsis := e5.extBut _ _ Z.bz.symm (e4.extBut _ _ Z.jz.symm (e3.extBut _ _ Z.bz.symm (e2.extBut _ _ Z.iz.symm z1)))
  have k5 : ∀ c o, c ≠ z → c ≠ b → c ≠ i → c ≠ j → s.heap.get? c = some o → h5.get? c = some o := fun c o c1 c2 c3 c4 e => e5.extBut _ _ c2 (e4.extBut _ _ c4 (e3.extBut _ _ c2 (e2.extBut _ _ c3 (e1.extBut _ _ c1 e))))
  have v1 : S1 (k + 1) h5 := D1.frame _ _ _ (D1.frame _ _ _ (D1.frame _ _ _ u1 (keepBut e3 Z.bf)) (keepBut e4 Z.jf)) (keepBut e5 Z.bf)
  have v2 : S2 (k + 1) h5 := D2.frame _ _ _ u2 (keepBut e5 Z.bg)
  have zl : z < h5.objs.size := Heap.lt_size z5
  show wpAny _ _ (Builtin.SmallTypes.ownedTupleHandOut (.ref z) (.ref h5.objs.size) >>= _) _ _ _; refine wpAny_bind ?_
  unfold Builtin.SmallTypes.ownedTupleHandOut
  have z6 : IsZip (h5.push { cls := .type "tuple", data := .seq #[x, y] }) z a b .ellipsis := Heap.get?_push_of_some _ z5
  refine wpAny_bind (wpAny_setField_rec z6 (by simp) fun h7 z7 e7 => ?_)
  replace z7 : IsZip h7 z a b (rawInt h5.objs.size) := z7
  refine wpAny_setField_rec z7 (by simp) fun h8 z8 e8 => ?_
  replace z8 : IsZip h8 z a b (rawInt h5.objs.size) := z8
  have up : ∀ c o, c ≠ z → h5.get? c = some o → h8.get? c = some o := fun c o c1 e => e8.extBut _ _ c1 (e7.extBut _ _ c1 (Heap.get?_push_of_some _ e))
  refine wpAny_pure ⟨_, rfl, ?_⟩
  exact q x y h8 _ h5.objs.size px py sz z8 (up _ _ Z.bz b5) (D1.frame _ _ _ v1 fun c hc o e => up c o (fun zz => Z.zf (zz ▸ hc)) e) (D2.frame _ _ _ v2 fun c hc o e => up c o (fun zz => Z.zg (zz ▸ hc)) e)
    (e8.extBut _ _ (Nat.ne_of_gt zl) (e7.extBut _ _ (Nat.ne_of_gt zl) (Heap.get?_push_size _ rfl))) fun c o c1 c2 c3 c4 e => up c o c1 (k5 c o c1 c2 c3 c4 e)
/-- the first has come to its end -/
theorem zipNext_none {Q : Fin → Shared → Prop} (Z : ZAp z a b i j f g) (D1 : Draws P w A i f n F1 S1) (hz : IsZip s.heap z a b .none) (ha : IsPair s.heap a (.ref i) (.ref j)) (s1 : S1 n s.heap)
    (q : ∀ h' e, (∀ c o, c ≠ z → c ≠ b → c ≠ i → c ≠ j → s.heap.get? c = some o → h'.get? c = some o) → (∃ o, h'.get? e = some o ∧ o.cls = .type "StopIteration") → E (.ref e) { s with heap := h' }) :
    wpAny (model P w) A (Builtin.«zip.__next__» ⟨[.ref z], []⟩) Q E s := by
  show wpAny _ _ (field (.ref z) 2 >>= _) _ _ _; refine wpAny_bind (wpAny_field hz rfl (x := .bool false) rfl ?_)
  show wpAny _ _ (field (.ref z) 3 >>= _) _ _ _; refine wpAny_bind (wpAny_field hz rfl (x := .ref a) rfl (wpAny_bind (wpAny_seqItems ha rfl ?_)))
  show wpAny _ _ (Builtin.SmallTypes.ownedTupleIsFree (.ref z) >>= _) _ _ _; refine wpAny_bind ?_
  unfold Builtin.SmallTypes.ownedTupleIsFree
  refine wpAny_bind (wpAny_field hz rfl (x := .none) rfl (wpAny_pure ?_)); simp only [if_true]
  refine wpAny_bind (wpAny_rule (wpAny_bind (wpAny_field hz rfl (x := .ref b) rfl (wpAny_bind (wpAny_setField_rec hz (by simp) fun h1 z1 e1 => ?_)))))
  replace z1 : IsZip h1 z a b .ellipsis := z1
  refine wpAny_bind ?_; simp only [List.zipIdx_cons, List.zipIdx_nil, List.forIn_cons, List.forIn_nil]
  refine wpAny_bind (wpAny_bind (wpAny_onRaise ?_)); show wpAny _ _ (Builtin.SmallTypes.nextOf (.ref i) >>= _) _ _ _
  refine wpAny_bind (D1.done _ _ _ (D1.frame _ _ _ s1 (keepBut e1 Z.zf)) fun h2 e e2 he => ?_)
  obtain ⟨oe, ho, hc⟩ := he
  have z2 : IsZip h2 z a b .ellipsis := e2 _ _ Z.iz.symm z1
  have ez : e ≠ z := fun x => by subst x; rw [z2] at ho; cases ho; simp at hc
  refine wpAny_setField_rec z2 (by simp) fun h3 _ e3 => q h3 e (fun c o c1 _ c3 _ x => e3.extBut _ _ c1 (e2 _ _ c3 (e1.extBut _ _ c1 x))) ⟨oe, e3.extBut _ _ ez ho, hc⟩
theorem zip_pyNext_some {u v : Value} {Q : Option Value → Shared → Prop} (Z : ZAp z a b i j f g) (D1 : Draws P w A.in1 i f n F1 S1) (D2 : Draws P w A.in1 j g m F2 S2) (hz : IsZip s.heap z a b .none) (ha : IsPair s.heap a (.ref i) (.ref j)) (hb : IsPair s.heap b u v)
    (s1 : S1 k s.heap) (s2 : S2 k s.heap) (k1 : k < n) (k2 : k < m)
    (q : ∀ x y h' tk t, F1 k x → F2 k y → t = s.heap.objs.size → IsZip h' z a b (rawInt t) → IsPair h' b x y → S1 (k + 1) h' → S2 (k + 1) h' → IsPair h' t x y →
      (∀ c o, c ≠ z → c ≠ b → c ≠ i → c ≠ j → s.heap.get? c = some o → h'.get? c = some o) → Q (some (.ref t)) { s with heap := h', toks := tk }) : wpAny (model P w) A (pyNext (.ref z)) Q E s := by
  have hT : s.TypeIs (.ref z) "zip" := ⟨_, hz, rfl⟩
  unfold pyNext
  exact wpAny_bind (wpAny_attempt (wpAny_callSpecial?_slot (name := Str.ofString "__next__") hT F.slot_zip_next (wpAny_call_entry F.slot_zip_next hT F.entry_zip_next
    (zipNext_some Z D1 D2 hz ha hb s1 s2 k1 k2 fun x y h' tk t a1 a2 a3 a4 a5 a6 a7 a8 a9 => wpAny_pure (q x y h' tk t a1 a2 a3 a4 a5 a6 a7 a8 a9)) (F.args_zip_next_1 _))))
theorem zip_pyNext_none {Q : Option Value → Shared → Prop} (Z : ZAp z a b i j f g) (D1 : Draws P w A.in1 i f n F1 S1) (hz : IsZip s.heap z a b .none) (ha : IsPair s.heap a (.ref i) (.ref j)) (s1 : S1 n s.heap)
    (q : ∀ h', (∀ c o, c ≠ z → c ≠ b → c ≠ i → c ≠ j → s.heap.get? c = some o → h'.get? c = some o) → Q none { s with heap := h' }) : wpAny (model P w) A (pyNext (.ref z)) Q E s := by
  have hT : s.TypeIs (.ref z) "zip" := ⟨_, hz, rfl⟩
  unfold pyNext
  refine wpAny_bind (wpAny_attempt (wpAny_callSpecial?_slot (name := Str.ofString "__next__") hT F.slot_zip_next (wpAny_call_entry F.slot_zip_next hT F.entry_zip_next (zipNext_none Z D1 hz ha s1 fun h' e hk he => ?_) (F.args_zip_next_1 _))))
  obtain ⟨o, ho, hc⟩ := he
  exact wpAny_bind (wpAny_isInstance (T := "StopIteration") (b := true) ⟨o, ho, hc⟩ isSubtype_stop (wpAny_pure (q _ hk)))
end
end L2

set_option Elab.async false
set_option linter.all false
set_option maxRecDepth 100000
set_option maxHeartbeats 4000000
namespace L2
open PySem PySem.Spec PyProof.Rows
section
variable {X : Cx} {pins : List (Addr × Obj)} {σ : St} {H : Hp} {s : Shared} {h' : Heap} {ch : List Addr} {t' : Nat}
/-- records of ours have turned, and a new object is laid -/
theorem Inv.turnedLaid {a : Addr} {o : HO} (I : Inv X pins σ H s) (k : ∀ b u, b ∉ ch → s.heap.get? b = some u → h'.get? b = some u) (hf : ∀ b ∈ ch, FpOk X pins H b) (hp : s.heap.objs.size ≤ a) (new : ObjOk X.prog X.w (upd H a o) h' a o) :
    Inv X pins σ (upd H a o) { s with heap := h', toks := t' } := by
  have hn : H a = none := I.hok.fresh hp
  have nch : ∀ b u, H b = some u → b ∉ ch := fun b u e z => by rw [(hf b z).1] at e; cases e
  refine I.step (g' := s.gens) (d' := s.drawn) (ch := ch) (fun b hb => ⟨(hf b hb).2.2.2.1, (hf b hb).2.1, (hf b hb).2.2.2.2.1, (hf b hb).2.2.2.2.2⟩) (fun b u _ _ hc e _ => k b u hc e) (fun b u _ _ hc e _ => ⟨u.slots, k b u hc e⟩)
    (fun b u _ e n => by rw [upd_ne (Nat.ne_of_lt (Nat.lt_of_lt_of_le (Heap.lt_size e) hp))]; exact n) (fun b u hc e => ⟨u, k b u hc e⟩) (fun b xs e => by rw [upd_ne (ne_of_none e hn)]; exact e) (fun b u xs e => by rw [upd_ne (ne_of_none e hn)]; exact e)
    (fun b ps e => ⟨#[], by rw [upd_ne (ne_of_none e hn), e]; simp⟩) (fun m hm => ?_) (fun b u e => ?_) I.bare
  · obtain ⟨o, es, ep, ho, r⟩ := hm
    exact ⟨o, es, ep, k _ o (fun z => (hf _ z).2.1 rfl) ho, r⟩
  · by_cases hb : b = a
    · subst hb; rw [upd_same] at e; cases e; exact new
    · rw [upd_ne hb] at e
      refine (I.hok b u e).stay (fun c v hc q => k c v ?_ q) (fun c q => by rw [upd_ne (ne_of_none q hn)]; exact q) fun c xs q => by rw [upd_ne (ne_of_none q hn)]; exact q
      rcases hc with z | z
      · rw [z]; exact nch b u e
      · exact nch c _ z
theorem Inv.turnedAll (I : Inv X pins σ H s) (k : ∀ b u, b ∉ ch → s.heap.get? b = some u → h'.get? b = some u) (hf : ∀ b ∈ ch, FpOk X pins H b) : Inv X pins σ H { s with heap := h', toks := t' } := by
  have nch : ∀ b u, H b = some u → b ∉ ch := fun b u e z => by rw [(hf b z).1] at e; cases e
  refine I.step (g' := s.gens) (d' := s.drawn) (ch := ch) (fun b hb => ⟨(hf b hb).2.2.2.1, (hf b hb).2.1, (hf b hb).2.2.2.2.1, (hf b hb).2.2.2.2.2⟩) (fun b u _ _ hc e _ => k b u hc e) (fun b u _ _ hc e _ => ⟨u.slots, k b u hc e⟩)
    (fun _ _ _ _ n => n) (fun b u hc e => ⟨u, k b u hc e⟩) (fun _ _ e => e) (fun _ _ _ e => e) (fun b ps e => ⟨#[], by rw [e]; simp⟩) (fun m hm => ?_) (fun b u e => ?_) I.bare
  · obtain ⟨o, es, ep, ho, r⟩ := hm
    exact ⟨o, es, ep, k _ o (fun z => (hf _ z).2.1 rfl) ho, r⟩
  · refine (I.hok b u e).stay (fun c v hc q => k c v ?_ q) (fun _ q => q) fun _ _ q => q
    rcases hc with z | z
    · rw [z]; exact nch b u e
    · exact nch c _ z
end
/-! ### a list or a tuple -/
def SIt (tp : Bool) (h : Heap) (it l : Addr) (k : Nat) : Prop := match tp with | true => h.IsTupleIter it l k | false => h.IsListIter it l k
def SCn (tp : Bool) (h : Heap) (l : Addr) (xs : Array Value) : Prop := match tp with | true => h.IsTuple l xs | false => h.IsList l xs
def SQ (tp : Bool) (K : PySem.W.Frag) (H : Hp) (a : Addr) (xs : List V) : Prop := match tp with | true => SqT K H a xs | false => SqL K H a xs
theorem SIt.obj {tp : Bool} {h : Heap} {it l : Addr} {k : Nat} (x : SIt tp h it l k) : ∃ o, h.get? it = some o ∧ ∀ v, o.data ≠ .cell v := by
  cases tp <;> (obtain ⟨o, e, c, d⟩ := x; exact ⟨o, e, fun v z => by rw [d] at z; cases z⟩)
theorem SIt.keep {tp : Bool} {h h' : Heap} {it l : Addr} {k : Nat} (x : SIt tp h it l k) (q : ∀ o, h.get? it = some o → h'.get? it = some o) : SIt tp h' it l k := by
  cases tp <;> (obtain ⟨o, e, r⟩ := x; exact ⟨o, q o e, r⟩)
theorem SCn.lt {tp : Bool} {h : Heap} {l : Addr} {xs : Array Value} (x : SCn tp h l xs) : l < h.objs.size := by
  cases tp <;> (obtain ⟨o, e, _⟩ := x; exact Heap.lt_size e)
theorem sdraws {P : Program} {w : World} {A : Around} (tp : Bool) (hh : A.handled = none) (it l : Addr) (hne : l ≠ it) (xs : Array Value) :
    Draws P w A it [it, l] xs.size (fun i v => xs[i]? = some v) (fun i h => SIt tp h it l i ∧ SCn tp h l xs) := by
  cases tp
  · exact Draws.list hh it l hne xs
  · exact draws_tuple hh it l hne xs
section
variable {X : Cx} {pins : List (Addr × Obj)} {σ : St} {H : Hp} {s : Shared} {tp : Bool} {a : Addr} {xs ys : List V}
theorem Inv.sq (I : Inv X pins σ H s) (h : SQ tp X.K H a xs) : ∃ its : List Value, Vals xs its ∧ SCn tp s.heap a its.toArray ∧ xs.length ≤ sizeLine := by
  cases tp
  · obtain ⟨its, r, p, z⟩ := I.list h
    exact ⟨its, r, p.isList, z⟩
  · exact I.tuple h
theorem Inv.sq_inj (I : Inv X pins σ H s) (h : SQ tp X.K H a xs) (h' : SQ tp X.K H a ys) : xs = ys := by
  cases tp
  · exact I.list_inj h h'
  · exact I.tuple_inj h h'
end
theorem zap_of (n l m : Nat) (h1 : l < n) (h2 : m < n) : ZAp (n + 4) (n + 2) (n + 3) n (n + 1) [n, l] [n + 1, m] := by
  have e : ∀ {p q : Nat}, p ≠ q → ∀ {r : Nat}, p ≠ r → p ∉ [q, r] := fun {p q} h {r} h' z => by
    rcases List.mem_cons.mp z with z | z
    · exact h z
    · exact h' (List.mem_singleton.mp z)
  have r : ∀ {p q : Nat}, p < q ∨ q < p → (p : Addr) ≠ q := fun h => h.elim Nat.ne_of_lt fun h => (Nat.ne_of_lt h).symm
  exact ⟨r (by omega), r (by omega), r (by omega), r (by omega), r (by omega), r (by omega), r (by omega), r (by omega), r (by omega), r (by omega), e (r (by omega)) (r (by omega)), e (r (by omega)) (r (by omega)), e (r (by omega)) (r (by omega)), e (r (by omega)) (r (by omega)), e (r (by omega)) (r (by omega)), e (r (by omega)) (r (by omega))⟩
/-! ### zip(a, b) -/
def Itz (tp : Bool) (K : PySem.W.Frag) (a b : Addr) : It :=
  ⟨fun i H => ∃ xs ys x y, SQ tp K H a xs ∧ SQ tp K H b ys ∧ xs[i]? = some x ∧ ys[i]? = some y,
   fun i H v H' => ∃ t x y, H t = none ∧ v = .ref t ∧ H' = upd H t (.tup [x, y]) ∧ (∀ xs, SQ tp K H a xs → xs[i]? = some x) ∧ ∀ ys, SQ tp K H b ys → ys[i]? = some y,
   fun i H => ∃ xs, SQ tp K H a xs ∧ xs.length = i⟩
def ZTn (tp : Bool) (z c d i j a b : Addr) (k : Nat) (h : Heap) : Prop := IsZip h z c d .none ∧ IsPair h c (.ref i) (.ref j) ∧ (∃ u v, IsPair h d u v) ∧ SIt tp h i a k ∧ SIt tp h j b k
theorem turn_zip {P : Program} {w : World} {K : PySem.W.Frag} {es : List Expr} {x1 : _} {pos : Pos} {tp : Bool} {z c d i j a b : Addr} (Z : ZAp z c d i j [i, a] [j, b]) (na : a ≠ i) (nb : b ≠ j) :
    Turn P w K (.Tuple es x1 pos) (Itz tp K a b) [z, c, d, i, j] z (ZTn tp z c d i j a b) where
  mem := by simp
  obj := fun k h st e he => by
    obtain ⟨h1, h2, ⟨u, v, h3⟩, h4, h5⟩ := st
    simp only [List.mem_cons, List.not_mem_nil, or_false] at he
    rcases he with rfl | rfl | rfl | rfl | rfl
    · exact ⟨_, h1, fun v q => by cases q⟩
    · exact ⟨_, h2, fun v q => by cases q⟩
    · exact ⟨_, h3, fun v q => by cases q⟩
    · exact h4.obj
    · exact h5.obj
  keep := fun k h h' st q => by
    obtain ⟨h1, h2, ⟨u, v, h3⟩, h4, h5⟩ := st
    exact ⟨q z (by simp) _ h1, q c (by simp) _ h2, ⟨u, v, q d (by simp) _ h3⟩, h4.keep fun o e => q i (by simp) o e, h5.keep fun o e => q j (by simp) o e⟩
  item := by
    intro X hP hw hK hc k pins s σ H E I hf st hg
    subst hP hw hK
    obtain ⟨xs, ys, x, y, qa, qb, ex, ey⟩ := hg
    obtain ⟨ia, ra, ca, za⟩ := I.sq qa
    obtain ⟨ib, rb, cb, zb⟩ := I.sq qb
    obtain ⟨h1, h2, ⟨u, v, h3⟩, h4, h5⟩ := st
    have hh : X.A.in1.handled = none := I.ok.hd hc
    obtain ⟨ux, eux, rux⟩ := ra.get ex
    obtain ⟨uy, euy, ruy⟩ := rb.get ey
    have k1 : k < ia.toArray.size := by simpa using (List.getElem?_eq_some_iff.mp eux).1
    have k2 : k < ib.toArray.size := by simpa using (List.getElem?_eq_some_iff.mp euy).1
    refine zip_pyNext_some Z (sdraws tp hh i a na ia.toArray) (sdraws tp hh j b nb ib.toArray) h1 h2 h3 ⟨h4, ca⟩ ⟨h5, cb⟩ k1 k2 fun vx vy h' tk t px py ht g1 g2 g3 g4 g5 kk => ⟨_, rfl, ?_⟩
    have ev : vx = ux := by rw [List.getElem?_toArray, eux] at px; exact (Option.some.inj px).symm
    have ew : vy = uy := by rw [List.getElem?_toArray, euy] at py; exact (Option.some.inj py).symm
    subst ev ew
    refine wpAny_letOwnedTupleGo_zip g1 fun h'' z' sb => ?_
    have tz : t ≠ z := fun q => by rw [q] at ht; exact absurd (Heap.lt_size h1) (by rw [ht]; exact Nat.lt_irrefl _)
    have hn : H t = none := I.hok.fresh (by rw [ht]; exact Nat.le_refl _)
    have kp : ∀ b u, b ∉ [z, c, d, i, j] → s.heap.get? b = some u → h''.get? b = some u := fun b u hb e => by
      simp only [List.mem_cons, List.not_mem_nil, or_false, not_or] at hb
      exact sb.extBut b u hb.1 (kk b u hb.1 hb.2.2.1 hb.2.2.2.1 hb.2.2.2.2 e)
    have I1 : Inv X pins σ (upd H t (.tup [x, y])) { s with heap := h'', toks := tk } := I.turnedLaid (ch := [z, c, d, i, j]) kp hf (by rw [ht]; exact Nat.le_refl _)
      ⟨by show 2 ≤ sizeLine; decide, [vx, vy], .cons rux (.cons ruy .nil), ⟨_, sb.extBut _ _ tz g5, rfl, _, rfl⟩⟩
    refine ⟨.ref t, _, I1, rfl, ⟨t, x, y, hn, rfl, rfl, fun xs' q => by rw [I.sq_inj q qa]; exact ex, fun ys' q => by rw [I.sq_inj q qb]; exact ey⟩, ?_, fun e he => ?_⟩
    · exact ⟨z', sb.extBut _ _ Z.az (kk _ _ Z.az Z.ab Z.ai Z.aj h2), ⟨_, _, sb.extBut _ _ Z.bz g2⟩, g3.1.keep fun o e => sb.extBut _ _ Z.iz e, g4.1.keep fun o e => sb.extBut _ _ Z.jz e⟩
    · have hlt : e < s.heap.objs.size := by
        simp only [List.mem_cons, List.not_mem_nil, or_false] at he
        rcases he with rfl | rfl | rfl | rfl | rfl
        · exact Heap.lt_size h1
        · exact Heap.lt_size h2
        · exact Heap.lt_size h3
        · obtain ⟨o, q, _⟩ := h4.obj; exact Heap.lt_size q
        · obtain ⟨o, q, _⟩ := h5.obj; exact Heap.lt_size q
      rw [upd_ne (Nat.ne_of_lt (by rw [ht]; exact hlt))]
      exact (hf e he).1
  done := by
    intro X hP hw hK hc k pins s σ H E I hf st hg
    subst hP hw hK
    obtain ⟨xs, qa, hx⟩ := hg
    obtain ⟨ia, ra, ca, za⟩ := I.sq qa
    obtain ⟨h1, h2, ⟨u, v, h3⟩, h4, h5⟩ := st
    have hh : X.A.in1.handled = none := I.ok.hd hc
    have hk : k = ia.toArray.size := by rw [← hx, ra.length]; simp
    subst hk
    refine zip_pyNext_none Z (sdraws tp hh i a na ia.toArray) h1 h2 ⟨h4, ca⟩ fun h' kk => ⟨rfl, ?_⟩
    exact I.turnedAll (t' := s.toks) (ch := [z, c, d, i, j]) (fun b u hb e => by
      simp only [List.mem_cons, List.not_mem_nil, or_false, not_or] at hb
      exact kk b u hb.1 hb.2.2.1 hb.2.2.2.1 hb.2.2.2.2 e) hf
  self := fun _ _ _ _ _ st h => wpAny_pyIter_zip st.1 h
end L2

set_option Elab.async false
set_option linter.all false
set_option maxRecDepth 100000
set_option maxHeartbeats 4000000
namespace L2
open PySem PySem.Spec PyProof.Rows
abbrev tza (h : Heap) (l : Addr) : Heap := h.push { cls := .type "tuple_iterator", data := .fields #[.ref l, .int 0 0] }
abbrev tzb (h : Heap) (l m : Addr) : Heap := tza (tza h l) m
abbrev tzc (h : Heap) (l m : Addr) : Heap := (tzb h l m).push { cls := .type "tuple", data := .seq #[.ref h.objs.size, .ref (tza h l).objs.size] }
abbrev tzd (h : Heap) (l m : Addr) : Heap := (tzc h l m).push { cls := .type "tuple", data := .seq #[.none, .none] }
abbrev tze (h : Heap) (l m : Addr) : Heap := (tzd h l m).push { cls := .type "zip", data := .fields #[.none, .bool false, .bool false, .ref (tzb h l m).objs.size, .ref (tzc h l m).objs.size] }
theorem meets_zipT (l m : Addr) (xs ys : Array Value) :
    Meets (Builtin.«zip.__new__» ⟨[.type "zip", .ref l, .ref m], []⟩) (fun _ R s => s.heap.IsTuple l xs ∧ s.heap.IsTuple m ys ∧ R (.ok (.ret (.ref (tzd s.heap l m).objs.size))) { s with heap := tze s.heap l m }) :=
  .of_wp fun prog w A R s h => by
    obtain ⟨hp, g, d, tk, os⟩ := s
    obtain ⟨hl, hm, h⟩ := h
    have hsub := sub_zip
    have h1 : Heap.IsTuple (Shared.heap ⟨hp, g, d, tk, os⟩) l xs := hl
    have h2 : Heap.IsTuple (Shared.heap ⟨hp.push { cls := .type "tuple_iterator", data := .fields #[.ref l, .int 0 0] }, g, d, tk, os⟩) m ys := Heap.IsTuple.push hm _
    wp_walk using wpAny_pyIter_tuple h1, wpAny_pyIter_tuple h2
    exact ⟨_, rfl, h⟩
section
variable {P : Program} {w : World} {A : Around} {E : Value → Shared → Prop} {s : Shared}
/-- zip over two lists, or over two tuples -/
theorem call_zipS {tp : Bool} {l m : Addr} {xs ys : Array Value} {Q : Value → Shared → Prop} (hl : SCn tp s.heap l xs) (hm : SCn tp s.heap m ys)
    (q : ∀ h', ZTn tp (s.heap.objs.size + 4) (s.heap.objs.size + 2) (s.heap.objs.size + 3) s.heap.objs.size (s.heap.objs.size + 1) l m 0 h' → (∀ c o, s.heap.get? c = some o → h'.get? c = some o) → Q (.ref (s.heap.objs.size + 4)) { s with heap := h' }) :
    wpAny (model P w) A (call (.type "zip") [.ref l, .ref m]) Q E s := by
  cases tp
  · exact call_zip_2 hl hm fun h' g1 g2 g3 g4 g5 _ kk => q h' ⟨g1, g2, ⟨_, _, g3⟩, g4, g5⟩ kk
  · refine callType_new F.called_zip (by decide) (F.typeCall_zip_2 _ _) (F.newCall_zip_2 _ _) (fun obj => F.args_object_init_3 obj _ _) F.entry_zip_new (meets_zipT l m xs ys) ⟨hl, hm, ?_⟩
    have y1 : (tza s.heap l).objs.size = s.heap.objs.size + 1 := Heap.size_push ..
    have y2 : (tzb s.heap l m).objs.size = s.heap.objs.size + 2 := by rw [Heap.size_push, y1]
    have y3 : (tzc s.heap l m).objs.size = s.heap.objs.size + 3 := by rw [Heap.size_push, y2]
    have y4 : (tzd s.heap l m).objs.size = s.heap.objs.size + 4 := by rw [Heap.size_push, y3]
    have g5 : (tze s.heap l m).get? (tzd s.heap l m).objs.size = some _ := Heap.get?_push_size _ rfl
    have g4 : (tze s.heap l m).get? (tzc s.heap l m).objs.size = some _ := Heap.get?_push_of_some _ (Heap.get?_push_size _ rfl)
    have g3 : (tze s.heap l m).get? (tzb s.heap l m).objs.size = some _ := Heap.get?_push_of_some _ (Heap.get?_push_of_some _ (Heap.get?_push_size _ rfl))
    have g2 : (tze s.heap l m).get? (tza s.heap l).objs.size = some _ := Heap.get?_push_of_some _ (Heap.get?_push_of_some _ (Heap.get?_push_of_some _ (Heap.get?_push_size _ rfl)))
    have g1 : (tze s.heap l m).get? s.heap.objs.size = some _ := Heap.get?_push_of_some _ (Heap.get?_push_of_some _ (Heap.get?_push_of_some _ (Heap.get?_push_of_some _ (Heap.get?_push_size _ rfl))))
    show _ ∧ _
    rw [y2, y3, y4] at g5
    rw [y1, y2] at g3
    rw [y3] at g4
    rw [y1] at g2
    rw [y4]
    exact ⟨⟨_, g5, rfl⟩, q _ ⟨g5, g3, ⟨_, _, g4⟩, ⟨_, g1, rfl, rfl⟩, ⟨_, g2, rfl, rfl⟩⟩ fun c o x => Heap.get?_push_of_some _ (Heap.get?_push_of_some _ (Heap.get?_push_of_some _ (Heap.get?_push_of_some _ (Heap.get?_push_of_some _ x))))⟩
end
def iZip (K : PySem.W.Frag) (ta : TA) : TI := fun σ H R => ta σ H fun vs H1 => ∃ (tp : Bool) (a b : Addr) (xs ys : List V), vs = [.ref a, .ref b] ∧ SQ tp K H1 a xs ∧ SQ tp K H1 b ys ∧ R (Itz tp K a b) H1
theorem pi_zip {X : Cx} {es : List Expr} {x1 : _} {tpos : Pos} {a b : Expr} {ta : TA} {p pos : Pos} (hg : Gl X "zip") (hm : X.mg "zip" = none) (ha : PA X [a, b] ta) (hs : starEach [a, b] X.env = [(false, eval a X.env), (false, eval b X.env)] := by rfl) (hs2 : starEach [b] X.env = [(false, eval b X.env)] := by rfl) :
    PI X (.Tuple es x1 tpos) (.Call (.Name "zip" p) [a, b] [] pos) (iZip X.K ta) := by
  intro pins s σ H R I h
  refine Call_ (ld_blt I hg hm boot_zip (PyProof.Rows.callWith_type1 (thn (ha pos pins s σ H _ I h) fun us s1 ⟨vs, H1, I1, r1, q1⟩ => ?_) (by rw [hs, hs2]) (by rw [hs2]; rfl)))
  obtain ⟨tp, l, m, xs, ys, e, q1, q2, q⟩ := q1
  subst e
  obtain ⟨u, v, rfl, ru, rv⟩ := vals2 r1
  cases ru
  cases rv
  obtain ⟨ia, ra, ca, za⟩ := I1.sq q1
  obtain ⟨ib, rb, cb, zb⟩ := I1.sq q2
  have lt1 := ca.lt
  have lt2 := cb.lt
  refine call_zipS ca cb fun h' zt kk => ?_
  refine wpAny_pyIter_zip zt.1 ?_
  have I2 : Inv X pins σ H1 { s1 with heap := h' } := I1.kept (t' := s1.toks) kk
  refine ⟨_, [s1.heap.objs.size + 4, s1.heap.objs.size + 2, s1.heap.objs.size + 3, s1.heap.objs.size, s1.heap.objs.size + 1], _, _, H1, rfl, I2, turn_zip (zap_of _ _ _ lt1 lt2) (Nat.ne_of_lt lt1) (Nat.ne_of_lt (Nat.lt_succ_of_lt lt2)), zt, fun c hc => ?_, q⟩
  have hle : s1.heap.objs.size ≤ c := by
    simp only [List.mem_cons, List.not_mem_nil, or_false] at hc
    rcases hc with rfl | rfl | rfl | rfl | rfl
    · exact Nat.le_add_right _ _
    · exact Nat.le_add_right _ _
    · exact Nat.le_add_right _ _
    · exact Nat.le_refl _
    · exact Nat.le_add_right _ _
  exact I1.fpOk hle (I1.hok.fresh hle)
/-- [.. for x, y in zip(a, b)]: both stay, of one length -/
theorem comp_zip {K : PySem.W.Frag} {tp : Bool} {a b l : Addr} {xs ys : List V} {g : TG} {tc : TT} {te : TE} {σc : St} {H1 : Hp} {Q : VK} (hlen : xs.length = ys.length) (Pv : Nat → List V → Hp → Prop) (h0 : Pv 0 [] (upd H1 l (.lst [])))
    (hl : ∀ i zs H, i ≤ xs.length → Pv i zs H → SQ tp K H a xs ∧ SQ tp K H b ys ∧ H l = some (.lst zs))
    (hs : ∀ i x y t zs H, xs[i]? = some x → ys[i]? = some y → H t = none → Pv i zs H → g (.ref t) σc (upd H t (.tup [x, y])) fun σ2 H3 => tc σ2 H3 fun b H4 => if b = true then te σ2 H4 fun y H5 => H5 l = some (.lst zs) ∧ zs.length < sizeLine ∧ Pv (i + 1) (zs ++ [y]) (upd H5 l (.lst (zs ++ [y]))) else Pv (i + 1) zs H4)
    (hd : ∀ zs H, Pv xs.length zs H → Q (.ref l) H) : tLWalk g tc te σc l (Itz tp K a b) H1 Q := by
  refine ⟨fun i m zs H => m = xs.length - i ∧ i ≤ xs.length ∧ Pv i zs H, ⟨xs.length, by simp, Nat.zero_le _, h0⟩, ?_⟩
  rintro i m zs H ⟨rfl, hi, p⟩
  obtain ⟨qa, qb, hll⟩ := hl i zs H hi p
  refine ⟨hll, ?_⟩
  by_cases hlt : i < xs.length
  · have hlt' : i < ys.length := by omega
    refine .inr ⟨⟨xs, ys, xs[i], ys[i], qa, qb, by simp [hlt], by simp [hlt']⟩, Pv (i + 1), fun zs' H' p' => ⟨xs.length - (i + 1), by omega, rfl, hlt, p'⟩, fun v H' y => ?_⟩
    obtain ⟨t, x, y, hn, rfl, rfl, ex, ey⟩ := y
    exact hs i x y t zs H (ex xs qa) (ey ys qb) hn p
  · have e : i = xs.length := by omega
    subst e
    exact .inl ⟨⟨xs, qa, rfl⟩, hd zs H p⟩
end L2

set_option Elab.async false
set_option linter.all false
set_option maxRecDepth 100000
set_option maxHeartbeats 4000000
namespace L2
open PySem PySem.Spec PyProof.Rows
section
variable {prog : Program} {w : World} {A : Around} {E : Value → Shared → Prop} {s : Shared}
/-- set(t) of a tuple of ints -/
theorem wp_set_of_tup {l : Addr} {items : Array Value} {ns : List Int} {Q : Value → Shared → Prop} (hh : A.handled = none) (hl : s.heap.IsTuple l items) (hi : IntsAre items.toList ns) (hb : items.size + 1 < scanBound)
    (h : ∀ (h' : Heap) (tk : Nat), SetInts w h' s.heap.objs.size ns → (∀ b o, s.heap.get? b = some o → h'.get? b = some o) → Q (.ref s.heap.objs.size) { s with heap := h', toks := tk }) :
    wpAny (model prog w) A (call (.type "set") [.ref l]) Q E s := by
  obtain ⟨c, tl, hmro⟩ := PySem.F.called_set.mro
  have hmade := PySem.F.called_set.made
  have hsub := PySem.F.called_set.sub
  refine wpAny_call (codeAny_of_tree ?_)
  show wpAny _ _ (callAny (.type "set") _) _ _ _
  refine wpAny_pure ⟨Code.quiet_builtin _ (by decide +kernel), codeAny_builtin PySem.F.entry_type_call ?_⟩
  rw [Around.under_plain (weight_type_call_type "set" [.ref l] []) rfl]
  have h1 := PySem.F.called_set.notType
  have h2 := PySem.F.called_set.canCreate
  have hct := PySem.F.typeCall_set_1 (.ref l)
  repeat (any_goals (first | assumption | wp_step))
  refine codeAny_mono (code_set_new (a := .ref l) (E := E) (Q₁ := fun obj s₁ => obj = .ref s.heap.objs.size ∧ s₁ = { s with heap := s.heap.push { cls := .type "set", dict := none, data := .set #[] 0 (.fresh 0 0 (!w.params.followText "set-order")) } }) ⟨rfl, rfl⟩) fun r s₁ hr => ?_
  cases r with
  | error e => exact hr
  | ok fl =>
    cases fl with
    | ret obj =>
      obtain ⟨rfl, rfl⟩ := hr
      have hSI0 : SetInts w (s.heap.push { cls := .type "set", dict := none, data := .set #[] 0 (.fresh 0 0 (!w.params.followText "set-order")) }) s.heap.objs.size [] := fresh_ints
      generalize (!w.params.followText "set-order") = led at hSI0 ⊢
      have hS : (s.heap.push { cls := .type "set", dict := none, data := .set #[] 0 (.fresh 0 0 led) }).get? s.heap.objs.size = some { cls := .type "set", dict := none, data := .set #[] 0 (.fresh 0 0 led) } := Heap.get?_push_size _ rfl
      have hT : Shared.TypeIs { s with heap := s.heap.push { cls := .type "set", dict := none, data := .set #[] 0 (.fresh 0 0 led) } } (.ref s.heap.objs.size) "set" := ⟨_, hS, rfl⟩
      have hSI : SetInts w (s.heap.push { cls := .type "set", dict := none, data := .set #[] 0 (.fresh 0 0 led) }) s.heap.objs.size [] := hSI0
      have hli := PySem.F.called_set.init.lookup
      have hbi := PySem.F.called_set.init.bind (.ref s.heap.objs.size)
      repeat (any_goals (first | assumption | wp_step))
      refine codeAny_mono (codeAny_call_builtin (R := wants (fun r s₂ => r = .none ∧ ∃ h' tk, s₂ = { s with heap := h', toks := tk } ∧ SetInts w h' s.heap.objs.size ns ∧ (∀ b o, s.heap.get? b = some o → h'.get? b = some o)) E)
        PySem.F.called_set.init.plain PySem.F.entry_set_init (check_set_init_1 hT ?_)) fun r₂ s₂ hr₂ => ?_
      · obtain ⟨ol, hol, hcl, nl, hdl⟩ := hl
        obtain ⟨ocls, odict, odata, oslots⟩ := ol
        simp only at hcl hdl
        subst hcl; subst hdl
        have hol' : (s.heap.push { cls := .type "set", dict := none, data := .set #[] 0 (.fresh 0 0 led) }).get? l = some { cls := .type "tuple", dict := odict, data := .seq items nl, slots := oslots } := Heap.get?_push_of_some _ hol
        have hsls := PySem.F.sub_tuple_set
        have hslf := PySem.F.sub_tuple_frozenset
        have hne : (Value.type "tuple" == Value.type "dict") = false := by decide
        have hl1 : (s.heap.push { cls := .type "set", dict := none, data := .set #[] 0 (.fresh 0 0 led) }).IsTuple l items := ⟨_, hol', rfl, nl, rfl⟩
        unfold Builtin.«set.__init__» noKeywords Builtin.Frozenset.updateFrom
        generalize hPI : pyIter = PI
        wp_walk
        subst hPI
        refine wpAny_pyIter_tuple hl1 ?_
        refine wpAny_bind (wpAny_runValue ?_)
        have hlS : l < s.heap.objs.size := Heap.lt_size hol
        have hzO : (s.heap.push { cls := .type "set", dict := none, data := .set #[] 0 (.fresh 0 0 led) }).objs.size = s.heap.objs.size + 1 := Heap.size_push _ _
        have hneI : l ≠ (s.heap.push { cls := .type "set", dict := none, data := .set #[] 0 (.fresh 0 0 led) }).objs.size := by rw [hzO]; exact Nat.ne_of_lt (Nat.lt_succ_of_lt hlS)
        have hval : ∀ (i : Nat) (v : Value), items[i]? = some v → ∃ t, v = .int ((fun i => ns.getD i 0) i) t := fun i v hv =>
          IntsAre.int_at hi i v (by rw [Array.getElem?_toList]; exact hv)
        have hnl : items.size = ns.length := by rw [← hi.length]; simp
        have hns : ((List.range items.size).map fun i => ns.getD i 0) = ns := by
          apply List.ext_getElem
          · simp [hnl]
          · intro j h1 h2; simp [List.getD, List.getElem?_eq_getElem h2]
        refine update_ints (Walks.tuple (by simp [hh]) _ l hneI items) (by rw [hzO]; simp only [List.mem_cons, List.not_mem_nil, or_false, not_or]; exact ⟨Nat.ne_of_lt (Nat.lt_succ_self _), Nat.ne_of_gt hlS⟩) (fun i => ns.getD i 0) hval hb (items.size - 0) 0 _ (by omega) (Nat.zero_le _)
          ⟨⟨_, Heap.get?_push_size _ rfl, rfl, rfl⟩, (hl1.push _)⟩ ?hS0 ?hR
        case hS0 => exact hSI.keep fun o e => Heap.get?_push_of_some _ e
        case hR =>
          intro h' tk hm hS'
          rw [hns] at hS'
          refine wpAny_pure ?_
          show wpAny _ _ (ret Value.none) _ _ _
          refine wpAny_pure ⟨rfl, h', tk, rfl, ?_, fun b o e => ?_⟩
          · obtain ⟨es, ep, t, q1, q2, q3, q4, q5⟩ := hS'.ex
            exact ⟨es, ep, t, q1, q2, q3, q4, fun k => by rw [q5 k, List.mem_reverse]⟩
          · have hb1 := Heap.lt_size e
            exact hm b o (by rw [hzO]; simp only [List.mem_cons, List.not_mem_nil, or_false, not_or]; exact ⟨Nat.ne_of_lt hb1, Nat.ne_of_lt (Nat.lt_succ_of_lt hb1)⟩) (Heap.get?_push_of_some _ (Heap.get?_push_of_some _ e))
      · cases r₂ with
        | error e => exact hr₂
        | ok fl₂ =>
          cases fl₂ with
          | ret r =>
            obtain ⟨rfl, h', tk, rfl, hS', hk'⟩ := hr₂
            repeat (any_goals (first | assumption | wp_step))
            exact h _ _ hS' hk'
          | _ => exact hr₂.elim
    | _ => exact hr.elim
end
def SetLen (xs : List Int) (n : Nat) : Prop := ∃ ks : List Int, ks.Nodup ∧ (∀ k, k ∈ ks ↔ k ∈ xs) ∧ ks.length = n
theorem SetLen.uniq {xs : List Int} {n m : Nat} (x : SetLen xs n) (y : SetLen xs m) : n = m := by
  obtain ⟨a, a1, a2, rfl⟩ := x
  obtain ⟨b, b1, b2, rfl⟩ := y
  exact Nat.le_antisymm (nodup_len a1 fun k hk => (b2 k).mpr ((a2 k).mp hk)) (nodup_len b1 fun k hk => (a2 k).mpr ((b2 k).mp hk))
theorem SetLen.le {xs : List Int} {n : Nat} (x : SetLen xs n) : n ≤ xs.length := by
  obtain ⟨a, a1, a2, rfl⟩ := x
  exact nodup_len a1 fun k hk => (a2 k).mp hk
section
variable {X : Cx}
theorem call_set_tup (hc : X.calm = true) : CallR X (.type "set") (fun vs H Q => ∃ (p : Addr) (ns : List Int), vs = [.ref p] ∧ SqT X.K H p (ns.map V.int) ∧ ns.length + 1 < scanBound ∧ ∀ l, H l = none → Q (.ref l) (upd H l (SetO X.w l ns))) := by
  intro pins s σ H vs us Q I r h
  obtain ⟨p, ns, rfl, hq, hb, q⟩ := h
  obtain ⟨u, rfl, rx⟩ := vals1 r
  cases rx
  obtain ⟨its, r', pl, hz⟩ := I.tuple hq
  have hlen := r'.length
  rw [List.length_map] at hlen
  refine wp_set_of_tup (ns := ns) (I.ok.hd hc) (show s.heap.IsTuple p its.toArray from pl) (by simpa using intsAre_of r') (by simp only [List.size_toArray]; omega) fun h' tk hS hk => ?_
  exact ⟨.ref s.heap.objs.size, _, I.laid hk (Nat.le_refl _) (set_objOk hS), rfl, q _ I.fresh⟩
theorem call_len_setI : CallR X (.builtin "len") (fun vs H Q => ∃ (p : Addr) (ns : List Int), vs = [.ref p] ∧ H p = some (SetO X.w p ns) ∧ ∀ n, SetLen ns n → Q (.int n) H) := by
  intro pins s σ H vs us Q I r h
  obtain ⟨p, ns, rfl, hq, q⟩ := h
  obtain ⟨u, rfl, rx⟩ := vals1 r
  cases rx
  have hS : SetInts X.w s.heap p ns := (I.hok p _ hq).1
  obtain ⟨es, ep, t, r1, ai, hb, nd, hm⟩ := hS.ex
  have hsb : (scanBound : Nat) < 2 ^ 63 := by decide +kernel
  refine PySem.call_len_set r1.at_ ⟨rfl, rfl, rfl⟩ rfl r1.fits (by omega) ⟨.int es.size, H, I.tok _, ⟨_, rfl⟩, q _ ⟨keys es, nd, hm, ?_⟩⟩
  unfold keys; simp
/-- a list of anything != an empty list -/
def rNeNil (K : PySem.W.Frag) : R2 := fun x y H Q => ∃ a b xs, x = .ref a ∧ y = .ref b ∧ SqL K H a xs ∧ SqL K H b [] ∧ Q (.bl (!xs.isEmpty)) H
theorem op_ne_nil (hu : X.A.units < cLine) : OpR X (compareOp .NotEq) (rNeNil X.K) := by
  intro pins s σ H x y v u Q I rx ry h
  obtain ⟨a, b, xs, rfl, rfl, ha, hb, q⟩ := h
  cases rx
  cases ry
  obtain ⟨i1, r1, p1, z1⟩ := I.list ha
  obtain ⟨i2, r2, p2, z2⟩ := I.list hb
  have l1 := r1.length
  have l2 := r2.length
  cases xs with
  | nil =>
    refine SeqAt.RcNeAt.lists (e := fun _ => true) p1.isList p2.isList (by simp only [List.size_toArray]; omega) hu (fun j h1 h2 => ?_) _ _ _ _ ?_
    · simp only [List.size_toArray] at h1; simp at l1; omega
    · exact fin_bl I q (by simp)
  | cons c xs =>
    refine SeqAt.RcNeAt.lists_lengths p1.isList p2.isList (by simp only [List.size_toArray, bne_iff_ne]; simp at l1 l2; omega) hu _ _ _ _ ?_
    exact fin_bl I q (by simp)
/-- xs[::-1] of a list: a new list of its items -/
def tRevL (K : PySem.W.Frag) (te : TE) (ts : TE) : TE := fun σ H Q => te σ H fun x H1 => ts σ H1 fun y H2 => ∃ a xs, x = .ref a ∧ y = .int (-1) ∧ SqL K H2 a xs ∧ ∀ p ys, H2 p = none → ys.length ≤ xs.length → (∀ z ∈ ys, z ∈ xs) → Q (.ref p) (upd H2 p (.lst ys))
theorem pick_vals {xs : List V} {its : List Value} (r : Vals xs its) : ∀ L : List Nat, ∃ ys, Vals ys (L.filterMap (its.toArray[·]?)) ∧ ∀ z ∈ ys, z ∈ xs
  | [] => ⟨[], .nil, fun z h => by cases h⟩
  | n :: L => by
    obtain ⟨ys, h1, h2⟩ := pick_vals r L
    cases e : its[n]? with
    | none => exact ⟨ys, by simpa [e] using h1, h2⟩
    | some u =>
      have hn : n < xs.length := by rw [r.length]; exact (List.getElem?_eq_some_iff.mp e).1
      obtain ⟨u', e', ru⟩ := r.get (i := n) (x := xs[n]) (List.getElem?_eq_getElem hn)
      rw [e] at e'; cases e'
      refine ⟨xs[n] :: ys, by simpa [e] using Paired.cons ru h1, fun z hz => ?_⟩
      rcases List.mem_cons.mp hz with z' | z'
      · rw [z']; exact List.getElem_mem hn
      · exact h2 z z'
theorem pe_revL {e st : Expr} {te ts : TE} {p2 pos : Pos} (he : PE X e te) (hst : PE X st ts) : PE X (.Subscript e (.Slice none none (some st) p2) pos) (tRevL X.K te ts) := by
  intro pins s σ H Q I h
  refine Subscript_ (thn (he pins s σ H _ I h) fun v s1 ⟨x, H1, I1, r1, q1⟩ => ?_)
  refine wpAny_Slice ?_
  rw [evalPart_none, evalPart_some]
  refine wpAny_pure (wpAny_pure (thn (hst pins s1 σ H1 _ I1 q1) fun vs s2 ⟨y, H2, I2, r2, q2⟩ => ?_))
  obtain ⟨a, xs, rfl, rfl, hx, q⟩ := q2
  cases r1
  obtain ⟨t, rfl⟩ := r2
  have I4 : Inv X pins σ H2 { s2 with heap := s2.heap.push { cls := .type "slice", data := .fields #[.none, .none, .int (-1) t] } } := I2.kept (t' := s2.toks) fun b ob q => Heap.get?_push_of_some _ q
  show wpAny (model X.prog X.w) X.A (subscriptTail e (.Slice none none (some st) p2) (.ref a) (.ref s2.heap.objs.size)) (EP X pins σ Q) X.xe { s2 with heap := s2.heap.push { cls := .type "slice", data := .fields #[.none, .none, .int (-1) t] } }
  obtain ⟨its, r, ht, hz⟩ := I4.list hx
  have hlen := r.length
  refine tail_any (ops := [.ref a, .ref s2.heap.objs.size]) ht.isList.typeIs slot_list_getitem.lookup ?_ (by with_unfolding_all rfl)
  refine wpAny_getItem_list_slice ht.isList (Heap.IsSliceOf.new ..) .none .none (.int (-1) t) (by simp) ?_ (by rw [List.size_toArray]; omega)
  have hle := slicePick_size_le its.toArray none none (some (-1))
  obtain ⟨ys, h1, h2⟩ := pick_vals r (sliceRange (sliceBounds none none (some (-1)) its.toArray.size).1 (sliceBounds none none (some (-1)) its.toArray.size).2.1 (sliceBounds none none (some (-1)) its.toArray.size).2.2)
  have hyl : ys.length ≤ xs.length := by
    have := h1.length
    unfold slicePick at hle
    simp only [List.size_toArray] at hle this
    omega
  refine ⟨.ref _, _, I4.laid (t' := s2.toks) (o := .lst ys) (fun b ob q => Heap.get?_push_of_some _ q) (Nat.le_refl _) ?_, rfl, q _ ys (I4.hok.fresh (Nat.le_refl _)) hyl h2⟩
  exact ⟨Nat.le_trans hyl hz, _, 0, h1, Heap.get?_push_size _ rfl⟩
end
/-- over a tuple -/
theorem comp_tup {K : PySem.W.Frag} {a l : Addr} {ys : List V} {g : TG} {tc : TT} {te : TE} {σc : St} {H1 : Hp} {Q : VK} (Pv : Nat → List V → Hp → Prop) (h0 : Pv 0 [] (upd H1 l (.lst [])))
    (hl : ∀ i xs H, i ≤ ys.length → Pv i xs H → SqT K H a ys ∧ H l = some (.lst xs))
    (hs : ∀ i x xs H, ys[i]? = some x → Pv i xs H → g x σc H fun σ2 H3 => tc σ2 H3 fun b H4 => if b = true then te σ2 H4 fun y H5 => H5 l = some (.lst xs) ∧ xs.length < sizeLine ∧ Pv (i + 1) (xs ++ [y]) (upd H5 l (.lst (xs ++ [y]))) else Pv (i + 1) xs H4)
    (hd : ∀ xs H, Pv ys.length xs H → Q (.ref l) H) : tLWalk g tc te σc l (Itt K a) H1 Q := by
  refine ⟨fun i m xs H => m = ys.length - i ∧ i ≤ ys.length ∧ Pv i xs H, ⟨ys.length, by simp, Nat.zero_le _, h0⟩, ?_⟩
  rintro i m xs H ⟨rfl, hi, p⟩
  obtain ⟨q, hll⟩ := hl i xs H hi p
  refine ⟨hll, ?_⟩
  by_cases hlt : i < ys.length
  · refine .inr ⟨⟨ys, ys[i], q, by simp [hlt]⟩, Pv (i + 1), fun xs' H' p' => ⟨ys.length - (i + 1), by omega, rfl, hlt, p'⟩, fun x H' y => ?_⟩
    obtain ⟨e, y⟩ := y
    subst e
    exact hs i x xs _ (y ys q) p
  · have e : i = ys.length := by omega
    subst e
    exact .inl ⟨⟨ys, q, Nat.le_refl _⟩, hd xs H p⟩
end L2

set_option Elab.async false
set_option linter.all false
set_option maxRecDepth 100000
namespace L2
open PySem PySem.Spec PyProof.Rows

/-! ### lists of pairs as tables -/
section
variable {κ : Type} [DecidableEq κ]
def valV (kvs : List (κ × V)) (k : κ) : Option V := (kvs.find? fun kv => decide (kv.1 = k)).map (·.2)
/-- in its place, or at the end -/
def putK (kvs : List (κ × V)) (k : κ) (v : V) : List (κ × V) :=
  if (kvs.any fun kv => decide (kv.1 = k)) = true then kvs.map (fun kv => if kv.1 = k then (kv.1, v) else kv) else kvs ++ [(k, v)]
def dropK (kvs : List (κ × V)) (k : κ) : List (κ × V) := kvs.filter fun kv => decide (kv.1 ≠ k)

theorem valV_nil {k : κ} : valV ([] : List (κ × V)) k = none := rfl
theorem valV_pos {p : κ × V} {r : List (κ × V)} {k : κ} (e : p.1 = k) : valV (p :: r) k = some p.2 := by simp [valV, List.find?_cons, e]
theorem valV_neg {p : κ × V} {r : List (κ × V)} {k : κ} (e : ¬ p.1 = k) : valV (p :: r) k = valV r k := by simp [valV, List.find?_cons, e]
theorem valV_any (k : κ) : ∀ kvs : List (κ × V), (kvs.any fun kv => decide (kv.1 = k)) = (valV kvs k).isSome
  | [] => rfl
  | p :: r => by
    rw [List.any_cons]
    by_cases e : p.1 = k
    · simp only [valV_pos e, decide_eq_true e, Bool.true_or, Option.isSome_some]
    · rw [valV_neg e, decide_eq_false e, Bool.false_or]; exact valV_any k r
theorem valV_map (k j : κ) (y : V) : ∀ kvs : List (κ × V), valV (kvs.map fun kv => if kv.1 = k then (kv.1, y) else kv) j = (valV kvs j).map fun x => if j = k then y else x
  | [] => rfl
  | p :: r => by
    have ih := valV_map k j y r
    rw [List.map_cons]
    by_cases h : p.1 = k
    · rw [if_pos h]
      by_cases e : p.1 = j
      · rw [valV_pos (p := (p.1, y)) e, valV_pos e, Option.map_some, if_pos (e.symm.trans h)]
      · rw [valV_neg (p := (p.1, y)) e, valV_neg e, ih]
    · rw [if_neg h]
      by_cases e : p.1 = j
      · rw [valV_pos (p := p) e, valV_pos e, Option.map_some, if_neg (fun z => h (e.trans z))]
      · rw [valV_neg (p := p) e, valV_neg e, ih]
theorem valV_snoc (k j : κ) (y : V) : ∀ kvs : List (κ × V), valV kvs k = none → valV (kvs ++ [(k, y)]) j = if j = k then some y else valV kvs j
  | [], _ => by
    by_cases e : k = j
    · rw [if_pos e.symm]; exact valV_pos (p := (k, y)) e
    · rw [if_neg (fun z => e z.symm)]; exact valV_neg (p := (k, y)) e
  | p :: r, hn => by
    rw [List.cons_append]
    have hk : ¬ p.1 = k := fun z => by rw [valV_pos z] at hn; cases hn
    rw [valV_neg hk] at hn
    have ih := valV_snoc k j y r hn
    by_cases e : p.1 = j
    · rw [valV_pos e, valV_pos e, if_neg (fun z => hk (e.trans z))]
    · rw [valV_neg e, valV_neg e, ih]
theorem valV_put (kvs : List (κ × V)) (k j : κ) (y : V) : valV (putK kvs k y) j = if j = k then some y else valV kvs j := by
  unfold putK
  by_cases a : (kvs.any fun kv => decide (kv.1 = k)) = true
  · rw [if_pos a, valV_map]
    rw [valV_any] at a
    by_cases e : j = k
    · obtain ⟨x, hx⟩ := Option.isSome_iff_exists.mp a
      rw [if_pos e, e, hx, Option.map_some, if_pos rfl]
    · rw [if_neg e]
      cases valV kvs j with
      | none => rfl
      | some x => rw [Option.map_some, if_neg e]
  · rw [if_neg a]
    refine valV_snoc k j y kvs ?_
    rw [valV_any] at a
    cases q : valV kvs k with
    | none => rfl
    | some x => rw [q] at a; exact (a rfl).elim
theorem length_putK (kvs : List (κ × V)) (k : κ) (v : V) : (putK kvs k v).length ≤ kvs.length + 1 := by
  unfold putK
  split
  · rw [List.length_map]; omega
  · rw [List.length_append, List.length_cons, List.length_nil]; omega
theorem putK_new {kvs : List (κ × V)} {k : κ} (v : V) (h : valV kvs k = none) : putK kvs k v = kvs ++ [(k, v)] := by
  unfold putK
  rw [valV_any, h]
  exact if_neg (by decide)

theorem RelO.isSome_eq {o : Option V} {u : Option Value} (r : RelO o u) : o.isSome = u.isSome := by
  cases o with
  | none => cases u with
    | none => rfl
    | some _ => exact (show False from r).elim
  | some _ => cases u with
    | none => exact (show False from r).elim
    | some _ => rfl
theorem RelO.getD {o : Option V} {u : Option Value} {d : V} {d' : Value} (r : RelO o u) (rd : RelV d d') : RelV (o.getD d) (u.getD d') := by
  cases o with
  | none => cases u with
    | none => exact rd
    | some _ => exact (show False from r).elim
  | some _ => cases u with
    | none => exact (show False from r).elim
    | some _ => exact r

/-- raw tables of the same keys -/
theorem KV.val {kvs : List (κ × V)} {vs : List (κ × Value)} (r : KV kvs vs) (k : κ) : RelO (valV kvs k) (valueAt vs k) := by
  unfold KV at r
  induction r with
  | nil => exact True.intro
  | @cons p q ps qs h t ih =>
    obtain ⟨h1, h2⟩ := h
    by_cases e : p.1 = k
    · have e' : q.1 = k := h1.symm.trans e
      have b : valueAt (q :: qs) k = some q.2 := by simp [valueAt, List.find?_cons, e']
      rw [valV_pos e, b]; exact h2
    · have e' : ¬ q.1 = k := fun z => e (h1.trans z)
      have b : valueAt (q :: qs) k = valueAt qs k := by simp [valueAt, List.find?_cons, e']
      rw [valV_neg e, b]; exact ih
theorem KV.any {kvs : List (κ × V)} {vs : List (κ × Value)} (r : KV kvs vs) (k : κ) : (kvs.any fun kv => decide (kv.1 = k)) = vs.any fun kv => decide (kv.1 = k) := by
  unfold KV at r
  induction r with
  | nil => rfl
  | cons h t ih => rw [List.any_cons, List.any_cons, ih, h.1]
theorem KV.repl {kvs : List (κ × V)} {vs : List (κ × Value)} (r : KV kvs vs) (k : κ) {y : V} {u : Value} (ry : RelV y u) :
    KV (kvs.map fun kv => if kv.1 = k then (kv.1, y) else kv) (vs.map fun kv => if kv.1 = k then (kv.1, u) else kv) := by
  unfold KV at r ⊢
  induction r with
  | nil => exact .nil
  | @cons p q ps qs h t ih =>
    rw [List.map_cons, List.map_cons]
    refine .cons ?_ ih
    obtain ⟨h1, h2⟩ := h
    by_cases e : p.1 = k
    · rw [if_pos e, if_pos (h1.symm.trans e)]; exact ⟨h1, ry⟩
    · rw [if_neg e, if_neg (fun z => e (h1.trans z))]; exact ⟨h1, h2⟩
theorem KV.put {kvs : List (κ × V)} {vs : List (κ × Value)} (r : KV kvs vs) (k : κ) {y : V} {u : Value} (ry : RelV y u) : KV (putK kvs k y) (stored vs k u) := by
  unfold putK stored
  rw [r.any k]
  by_cases e : (vs.any fun kv => decide (kv.1 = k)) = true
  · rw [if_pos e, if_pos e]; exact r.repl k ry
  · rw [if_neg e, if_neg e]; exact Paired.snoc r ⟨rfl, ry⟩
theorem KV.drop {kvs : List (κ × V)} {vs : List (κ × Value)} (r : KV kvs vs) (k : κ) : KV (dropK kvs k) (without vs k) := by
  unfold KV at r ⊢
  unfold dropK without
  induction r with
  | nil => exact .nil
  | @cons p q ps qs h t ih =>
    obtain ⟨h1, h2⟩ := h
    rw [List.filter_cons, List.filter_cons]
    by_cases e : p.1 = k
    · have a : ¬ decide (p.1 ≠ k) = true := by simp [e]
      have b : ¬ decide (q.1 ≠ k) = true := by simp [h1.symm.trans e]
      rw [if_neg a, if_neg b]; exact ih
    · have e' : ¬ q.1 = k := fun z => e (h1.trans z)
      have a : decide (p.1 ≠ k) = true := by simp [e]
      have b : decide (q.1 ≠ k) = true := by simp [e']
      rw [if_pos a, if_pos b]; exact .cons ⟨h1, h2⟩ ih
theorem KV.keys {kvs : List (κ × V)} {vs : List (κ × Value)} (r : KV kvs vs) : kvs.map (·.1) = vs.map (·.1) := by
  unfold KV at r
  induction r with
  | nil => rfl
  | cons h t ih => rw [List.map_cons, List.map_cons, ih, h.1]
theorem KV.length {kvs : List (κ × V)} {vs : List (κ × Value)} (r : KV kvs vs) : kvs.length = vs.length := Paired.length r
theorem dropK_le (kvs : List (κ × V)) (k : κ) : (dropK kvs k).length ≤ kvs.length := List.length_filter_le _ _
end


/-! ### a tracked dict, its keys ints and texts or tuples of these -/
theorem kV_is {P : Program} {w : World} {k : Key} {u : Value} (r : RelV (kV k) u) : (mixKind P w).is k u = true := by
  cases k with
  | inl i => obtain ⟨t, e⟩ := (show ∃ t, u = Value.int i t from r); subst e; exact mixKind_int P w i t
  | inr x => obtain ⟨t, e⟩ := (show ∃ t, u = Value.str x t from r); subst e; exact mixKind_str P w x t
theorem kV_inj {a b : Key} (e : kV a = kV b) : a = b := by
  cases a with
  | inl i => cases b with
    | inl j => have e' : V.int i = V.int j := e; injection e' with e'; rw [e']
    | inr y => exact nomatch (show V.int i = V.str y from e)
  | inr x => cases b with
    | inl j => exact nomatch (show V.str x = V.int j from e)
    | inr y => have e' : V.str x = V.str y := e; injection e' with e'; rw [e']
theorem kVs_inj : ∀ {a b : List Key}, a.map kV = b.map kV → a = b
  | [], [], _ => rfl
  | [], _ :: _, e => by simp at e
  | _ :: _, [], e => by simp at e
  | x :: xs, y :: ys, e => by
    rw [List.map_cons, List.map_cons] at e
    injection e with e1 e2
    rw [kV_inj e1, kVs_inj e2]
theorem items_are {P : Program} {w : World} : ∀ {ks : List Key} {us : List Value}, Vals (ks.map kV) us → ItemsAre (mixKind P w) ks us
  | [], _, r => by rw [List.map_nil] at r; cases r; exact .nil
  | k :: ks, _, r => by
    rw [List.map_cons] at r
    cases r with
    | cons h t => exact .cons (kV_is h) (items_are t)

/-- raw entries of a dict with tuple keys -/
abbrev KT (H : Hp) : List (List Key × V) → List (List Key × Addr × Value) → Prop := Paired fun p q => p.1 = q.1 ∧ H q.2.1 = some (.tup (p.1.map kV)) ∧ RelV p.2 q.2.2
theorem KT.val {H : Hp} {kvs : List (List Key × V)} {xs : List (List Key × Addr × Value)} (r : KT H kvs xs) (k : List Key) : RelO (valV kvs k) ((atKey xs k).map (·.2)) := by
  induction r with
  | nil => exact True.intro
  | @cons p q ps qs h t ih =>
    obtain ⟨h1, _, h2⟩ := h
    by_cases e : p.1 = k
    · have e' : q.1 = k := h1.symm.trans e
      have b : atKey (q :: qs) k = some q.2 := by simp [atKey, List.find?_cons, e']
      rw [valV_pos e, b]; exact h2
    · have e' : ¬ q.1 = k := fun z => e (h1.trans z)
      have b : atKey (q :: qs) k = atKey qs k := by simp [atKey, List.find?_cons, e']
      rw [valV_neg e, b]; exact ih
theorem KT.repl {H : Hp} {kvs : List (List Key × V)} {xs : List (List Key × Addr × Value)} (r : KT H kvs xs) (k : List Key) {y : V} {u : Value} (ry : RelV y u) :
    KT H (kvs.map fun kv => if kv.1 = k then (kv.1, y) else kv) (xs.map (putAt k u)) := by
  induction r with
  | nil => exact .nil
  | @cons p q ps qs h t ih =>
    rw [List.map_cons, List.map_cons]
    refine .cons ?_ ih
    obtain ⟨h1, h2, h3⟩ := h
    unfold putAt
    by_cases e : p.1 = k
    · rw [if_pos e, if_pos (h1.symm.trans e)]; exact ⟨h1, h2, ry⟩
    · rw [if_neg e, if_neg (fun z => e (h1.trans z))]; exact ⟨h1, h2, h3⟩
theorem KT.put {H : Hp} {kvs : List (List Key × V)} {xs : List (List Key × Addr × Value)} (r : KT H kvs xs) (k : List Key) {b : Addr} {y : V} {u : Value} (hb : H b = some (.tup (k.map kV))) (ry : RelV y u) :
    KT H (putK kvs k y) (storedH xs k b u) := by
  have e : (kvs.any fun kv => decide (kv.1 = k)) = (atKey xs k).isSome := by
    rw [valV_any, (r.val k).isSome_eq, Option.isSome_map]
  unfold putK storedH
  rw [e]
  by_cases q : (atKey xs k).isSome = true
  · rw [if_pos q, if_pos q]; exact r.repl k ry
  · rw [if_neg q, if_neg q]; exact Paired.snoc r ⟨rfl, hb, ry⟩
theorem KT.keeps {H H' : Hp} {kvs : List (List Key × V)} {xs : List (List Key × Addr × Value)} (r : KT H kvs xs) (ht : ∀ b ys, H b = some (.tup ys) → H' b = some (.tup ys)) : KT H' kvs xs :=
  Paired.mapP r fun _ _ z => ⟨z.1, ht _ _ z.2.1, z.2.2⟩

section
variable {P : Program} {w : World} {H : Hp} {h : Heap} {a : Addr}
theorem rd_of {u : HO} (ok : HOk P w H h) (e : Rd H a u) : ObjOk P w H h a u := e.ok ok
theorem dk_rd {kvs : List (Key × V)} (ok : HOk P w H h) (e : Rd H a (.dK kvs)) : kvs.length ≤ sizeLine ∧ (a == sysModules) = false ∧ ∃ vs, KV kvs vs ∧ h.DictOf (mixKind P w) a vs :=
  show ObjOk P w H h a (.dK kvs) from rd_of ok e
theorem dk_of {kvs : List (Key × V)} (ok : HOk P w H h) (e : H a = some (.dK kvs)) : kvs.length ≤ sizeLine ∧ (a == sysModules) = false ∧ ∃ vs, KV kvs vs ∧ h.DictOf (mixKind P w) a vs := dk_rd ok (.inl e)
/-- a tracked tuple of ints and texts is a key -/
theorem key_of {ks : List Key} (ok : HOk P w H h) (e : H a = some (.tup (ks.map kV))) : (tupleKind (mixKind P w)).is h ks a := by
  obtain ⟨_, its, r, o, h1, h2, n, h3⟩ := (show ObjOk P w H h a (.tup (ks.map kV)) from ok a _ e)
  exact ⟨o, its.toArray, n, h1, h2, h3, by simpa using items_are r⟩
theorem dt_rd {kvs : List (List Key × V)} (ok : HOk P w H h) (e : Rd H a (.dT kvs)) : kvs.length ≤ sizeLine ∧ (a == sysModules) = false ∧
    ∃ xs, KT H kvs xs ∧ h.DictOfH (tupleKind (mixKind P w)) a xs := by
  obtain ⟨z, y, xs, r, o, es, ep, h1, h2, h3, h4, h5⟩ := (show ObjOk P w H h a (.dT kvs) from rd_of ok e)
  refine ⟨z, y, xs, r, o, es, ep, h1, h2, h3, h4, fun x hx => ?_, h5⟩
  have all : ∀ {l : List (List Key × V)} {m : List (List Key × Addr × Value)}, KT H l m → ∀ x ∈ m, (tupleKind (mixKind P w)).is h x.1 x.2.1 := by
    intro l m q
    induction q with
    | nil => intro x hx; exact nomatch hx
    | @cons p q ps qs hq t ih =>
      intro x hx
      rcases List.mem_cons.mp hx with e | hx
      · subst e
        exact key_of ok (by rw [← hq.1]; exact hq.2.1)
      · exact ih x hx
  exact all r x hx
theorem dt_of {kvs : List (List Key × V)} (ok : HOk P w H h) (e : H a = some (.dT kvs)) : kvs.length ≤ sizeLine ∧ (a == sysModules) = false ∧
    ∃ xs, KT H kvs xs ∧ h.DictOfH (tupleKind (mixKind P w)) a xs := dt_rd ok (.inl e)
end

/-- what the dict at a holds at the key y -/
def DGet (H : Hp) (a : Addr) (y : V) (r : Option V) : Prop :=
  (∃ kvs k, Rd H a (.dK kvs) ∧ y = kV k ∧ r = valV kvs k) ∨ ∃ kvs k b, Rd H a (.dT kvs) ∧ y = .ref b ∧ H b = some (.tup (k.map kV)) ∧ r = valV kvs k
/-- the heap behind a[y] = v -/
def DPut (H : Hp) (a : Addr) (y v : V) (H' : Hp) : Prop :=
  (∃ kvs k, H a = some (.dK kvs) ∧ y = kV k ∧ kvs.length < sizeLine ∧ H' = upd H a (.dK (putK kvs k v))) ∨
  ∃ kvs k b, H a = some (.dT kvs) ∧ y = .ref b ∧ H b = some (.tup (k.map kV)) ∧ kvs.length < sizeLine ∧ H' = upd H a (.dT (putK kvs k v))
theorem DGet.k {H : Hp} {a : Addr} {kvs : List (Key × V)} {k : Key} (e : H a = some (.dK kvs)) : DGet H a (kV k) (valV kvs k) := .inl ⟨kvs, k, .inl e, rfl, rfl⟩
theorem DGet.t {H : Hp} {a b : Addr} {kvs : List (List Key × V)} {k : List Key} (e : H a = some (.dT kvs)) (eb : H b = some (.tup (k.map kV))) : DGet H a (.ref b) (valV kvs k) := .inr ⟨kvs, k, b, .inl e, rfl, eb, rfl⟩
theorem DPut.k {H : Hp} {a : Addr} {kvs : List (Key × V)} {k : Key} {v : V} (e : H a = some (.dK kvs)) (hl : kvs.length < sizeLine) : DPut H a (kV k) v (upd H a (.dK (putK kvs k v))) := .inl ⟨kvs, k, e, rfl, hl, rfl⟩
theorem DPut.t {H : Hp} {a b : Addr} {kvs : List (List Key × V)} {k : List Key} {v : V} (e : H a = some (.dT kvs)) (eb : H b = some (.tup (k.map kV))) (hl : kvs.length < sizeLine) :
    DPut H a (.ref b) v (upd H a (.dT (putK kvs k v))) := .inr ⟨kvs, k, b, e, rfl, eb, hl, rfl⟩


section
variable {X : Cx} {pins : List (Addr × Obj)} {σ : St} {H : Hp} {s : Shared} {a : Addr} {y v : V} {u r : Value} {o : Option V} {A : Around} {E : Value → Shared → Prop}

theorem Inv.big (I : Inv X pins σ H s) : sysModules < s.heap.objs.size := by
  have h : mainGlobals < s.heap.objs.size := (I.mod.glob.keeps I.bk).lt
  exact Nat.lt_trans (by decide) h

/-- d[y], there -/
theorem d_getItem {Q : Value → Shared → Prop} (hu : A.units + 1 < cLine) (I : Inv X pins σ H s) (g : DGet H a y (some v)) (ry : RelV y u) (h : ∀ w' s', Inv X pins σ H s' → RelV v w' → Q w' s') :
    wpAny (model X.prog X.w) A (getItem (.ref a) u) Q E s := by
  rcases g with ⟨kvs, k, e, ey, l⟩ | ⟨kvs, k, b, e, ey, eb, l⟩
  · subst ey
    obtain ⟨z, hd, vs, rel, dd⟩ := dk_rd I.hok e
    obtain ⟨w', hw, rw'⟩ := RelO.some_of (v := v) (o := valueAt vs k) (by rw [l]; exact rel.val k)
    exact wpAny_getItem_of (kV_is ry) dd.mapOf hw (h w' _ (I.tok _) rw')
  · subst ey
    cases (show u = Value.ref b from ry)
    obtain ⟨z, hd, xs, rel, dd⟩ := dt_rd I.hok e
    obtain ⟨w', hw, rw'⟩ := RelO.some_of (v := v) (o := (atKey xs k).map (·.2)) (by rw [l]; exact rel.val k)
    obtain ⟨p, hp, hp2⟩ := Option.map_eq_some_iff.mp hw
    refine wpAny_getItem_heap (tupleKind_room_in1 hu) (key_of I.hok eb) dd hp ?_
    rw [hp2]
    exact h w' _ (I.tok _) rw'
/-- y in d -/
theorem d_in {Q : Value → Shared → Prop} (hu : A.units + 1 < cLine) (I : Inv X pins σ H s) (g : DGet H a y o) (ry : RelV y u) (h : ∀ s', Inv X pins σ H s' → Q (.bool o.isSome) s') :
    wpAny (model X.prog X.w) A (compareOp .In u (.ref a)) Q E s := by
  rcases g with ⟨kvs, k, e, ey, l⟩ | ⟨kvs, k, b, e, ey, eb, l⟩
  · subst ey
    obtain ⟨z, hd, vs, rel, dd⟩ := dk_rd I.hok e
    refine wpAny_in_of (kV_is ry) hd dd.mapOf ?_
    rw [← (rel.val k).isSome_eq, ← l]
    exact h _ (I.tok _)
  · subst ey
    cases (show u = Value.ref b from ry)
    obtain ⟨z, hd, xs, rel, dd⟩ := dt_rd I.hok e
    refine wpAny_in_heap (tupleKind_room_in1 hu) (key_of I.hok eb) hd dd ?_
    have q := (rel.val k).isSome_eq
    rw [Option.isSome_map] at q
    rw [← q, ← l]
    exact h _ (I.tok _)
theorem d_notIn {Q : Value → Shared → Prop} (hu : A.units + 1 < cLine) (I : Inv X pins σ H s) (g : DGet H a y o) (ry : RelV y u) (h : ∀ s', Inv X pins σ H s' → Q (.bool (!o.isSome)) s') :
    wpAny (model X.prog X.w) A (compareOp .NotIn u (.ref a)) Q E s := by
  rcases g with ⟨kvs, k, e, ey, l⟩ | ⟨kvs, k, b, e, ey, eb, l⟩
  · subst ey
    obtain ⟨z, hd, vs, rel, dd⟩ := dk_rd I.hok e
    refine wpAny_notIn_of (kV_is ry) hd dd.mapOf ?_
    rw [← (rel.val k).isSome_eq, ← l]
    exact h _ (I.tok _)
  · subst ey
    cases (show u = Value.ref b from ry)
    obtain ⟨z, hd, xs, rel, dd⟩ := dt_rd I.hok e
    refine wpAny_notIn_heap (tupleKind_room_in1 hu) (key_of I.hok eb) hd dd ?_
    have q := (rel.val k).isSome_eq
    rw [Option.isSome_map] at q
    rw [← q, ← l]
    exact h _ (I.tok _)
/-- a dict's object is replaced -/
theorem d_write {h' : Heap} {t' : Nat} {ob : HO} (I : Inv X pins σ H s) (mu : Mut (H a)) (hs : Heap.SameBut a s.heap h') (he : ∃ q, h'.get? a = some q) (new : ObjOk X.prog X.w (upd H a ob) h' a ob) :
    Inv X pins σ (upd H a ob) { s with heap := h', toks := t' } :=
  I.write (x := a) (e := a) mu (.inl rfl) (fun b q hb z => (hs.2 b hb).trans z) he new
theorem dk_new {P : Program} {w : World} {H' : Hp} {h' : Heap} {kvs : List (Key × V)} {vs : List (Key × Value)} (z : kvs.length ≤ sizeLine) (hd : (a == sysModules) = false) (rel : KV kvs vs) (dd : h'.DictOf (mixKind P w) a vs) :
    ObjOk P w H' h' a (.dK kvs) := ⟨z, hd, vs, rel, dd⟩
/-- d[y] = v -/
theorem d_setItem {H' : Hp} {Q : Unit → Shared → Prop} (hu : A.units + 1 < cLine) (I : Inv X pins σ H s) (g : DPut H a y v H') (ry : RelV y u) (rv : RelV v r) (h : ∀ s', Inv X pins σ H' s' → Q () s') :
    wpAny (model X.prog X.w) A (setItem (.ref a) u r) Q E s := by
  rcases g with ⟨kvs, k, e, ey, l, eH⟩ | ⟨kvs, k, b, e, ey, eb, l, eH⟩
  · subst ey eH
    obtain ⟨z, hd, vs, rel, dd⟩ := dk_of I.hok e
    have hz : vs.length ≤ sizeLine := by rw [← rel.length]; exact z
    have hl : (putK kvs k v).length ≤ sizeLine := by have := length_putK kvs k v; omega
    refine wpAny_setItem_pairs (hsz := hz) (kV_is ry) dd fun h' dd' hs => h _ ?_
    have he : ∃ q, h'.get? a = some q := let ⟨q, _, _, hq, _⟩ := dd'; ⟨q, hq⟩
    exact d_write I (by rw [e]; exact True.intro) hs he (dk_new hl hd (rel.put k rv) dd')
  · subst ey eH
    cases (show u = Value.ref b from ry)
    obtain ⟨z, hd, xs, rel, dd⟩ := dt_of I.hok e
    have hz : xs.length ≤ sizeLine := by rw [← Paired.length rel]; exact z
    have hl : (putK kvs k v).length ≤ sizeLine := by have := length_putK kvs k v; omega
    refine wpAny_setItem_heap (hsz := hz) (tupleKind_room_in1 hu) (key_of I.hok eb) dd fun h' dd' hs => h _ ?_
    obtain ⟨q, es, ep, hq, h2, h3, h4, _, h5⟩ := dd'
    refine d_write I (by rw [e]; exact True.intro) hs ⟨q, hq⟩ ⟨hl, hd, _, (rel.put k eb rv).keeps fun c ys ec => ?_, q, es, ep, hq, h2, h3, h4, h5⟩
    rw [upd_ne (ne_of ec e (fun z => nomatch z))]
    exact ec
end

section
variable {X : Cx} {pins : List (Addr × Obj)} {σ : St} {H : Hp} {s : Shared} {a : Addr} {kvs : List (Key × V)} {k : Key} {u : Value} {A : Around} {E : Value → Shared → Prop}
/-- del d[k] -/
theorem d_delItem {Q : Unit → Shared → Prop} (I : Inv X pins σ H s) (e : H a = some (.dK kvs)) (ry : RelV (kV k) u) (l : (valV kvs k).isSome = true) (h : ∀ s', Inv X pins σ (upd H a (.dK (dropK kvs k))) s' → Q () s') :
    wpAny (model X.prog X.w) A (delItem (.ref a) u) Q E s := by
  obtain ⟨z, hd, vs, rel, dd⟩ := dk_of I.hok e
  refine wpAny_delItem_slot dd.typeIs (by decide) PySem.F.slot_dict_delitem
    (call_meetsIn PySem.F.slot_dict_delitem dd.typeIs PySem.F.entry_dict_delitem (PySem.F.args_dict_delitem_2 _ _) (meets_dict_delitem_pairs (mixKind X.prog X.w) a (kV_is ry)) ⟨vs, dd, by rw [← rel.length]; exact z, by rw [← (rel.val k).isSome_eq]; exact l, fun h' dd' hs => h _ ?_⟩)
  have he : ∃ q, h'.get? a = some q := let ⟨q, _, _, hq, _⟩ := dd'; ⟨q, hq⟩
  exact d_write I (by rw [e]; exact True.intro) hs he (dk_new (Nat.le_trans (dropK_le kvs k) z) hd (rel.drop k) dd')
/-- d.pop(k[, x]), there -/
theorem d_pop {v : V} {more : List Value} {Q : Value → Shared → Prop} (I : Inv X pins σ H s) (e : H a = some (.dK kvs)) (ry : RelV (kV k) u) (l : valV kvs k = some v) (hm : more = [] ∨ ∃ x, more = [x])
    (h : ∀ w' s', Inv X pins σ (upd H a (.dK (dropK kvs k))) s' → RelV v w' → Q w' s') : wpAny (model X.prog X.w) A (call (.builtin "dict.pop") (.ref a :: u :: more)) Q E s := by
  obtain ⟨z, hd, vs, rel, dd⟩ := dk_of I.hok e
  obtain ⟨w', hw, rw'⟩ := RelO.some_of (v := v) (o := valueAt vs k) (by rw [← l]; exact rel.val k)
  have hp : (keyPart u).isSome = true := by
    cases k with
    | inl i => obtain ⟨t, q⟩ := (show ∃ t, u = Value.int i t from ry); subst q; rfl
    | inr x => obtain ⟨t, q⟩ := (show ∃ t, u = Value.str x t from ry); subst q; rfl
  have ha : argsOk "dict.pop" ⟨.ref a :: u :: more, []⟩ := by
    rcases hm with q | ⟨x, q⟩
    · subst q; exact PySem.F.args_dict_pop_2 _ _
    · subst q; exact PySem.F.args_dict_pop_3 _ _ _
  refine call_meetsIn PySem.F.slot_dict_pop dd.typeIs PySem.F.entry_dict_pop ha (meets_dict_pop_there (mixKind X.prog X.w) a (kV_is ry) more hm hp)
    ⟨vs, w', dd, by rw [← rel.length]; exact z, hw, fun h' dd' hs => h w' _ ?_ rw'⟩
  have he : ∃ q, h'.get? a = some q := let ⟨q, _, _, hq, _⟩ := dd'; ⟨q, hq⟩
  exact d_write I (by rw [e]; exact True.intro) hs he (dk_new (Nat.le_trans (dropK_le kvs k) z) hd (rel.drop k) dd')
/-- d.pop(k, x), not there -/
theorem d_popD {r : Value} {Q : Value → Shared → Prop} (I : Inv X pins σ H s) (e : H a = some (.dK kvs)) (ry : RelV (kV k) u) (l : valV kvs k = none) (h : ∀ s', Inv X pins σ H s' → Q r s') :
    wpAny (model X.prog X.w) A (call (.builtin "dict.pop") [.ref a, u, r]) Q E s := by
  obtain ⟨z, hd, vs, rel, dd⟩ := dk_of I.hok e
  have hn : valueAt vs k = none := RelO.none_of (by rw [← l]; exact rel.val k)
  have hp : (keyPart u).isSome = true := by
    cases k with
    | inl i => obtain ⟨t, q⟩ := (show ∃ t, u = Value.int i t from ry); subst q; rfl
    | inr x => obtain ⟨t, q⟩ := (show ∃ t, u = Value.str x t from ry); subst q; rfl
  exact call_meetsIn PySem.F.slot_dict_pop dd.typeIs PySem.F.entry_dict_pop (PySem.F.args_dict_pop_3 _ _ _) (meets_dict_pop_default (mixKind X.prog X.w) a (kV_is ry) hd hp r) ⟨vs, dd, hn, h _ (I.tok _)⟩
/-- d.clear() -/
theorem d_clear {Q : Value → Shared → Prop} (I : Inv X pins σ H s) (e : H a = some (.dK kvs)) (h : ∀ s', Inv X pins σ (upd H a (.dK [])) s' → Q .none s') : wpAny (model X.prog X.w) A (call (.builtin "dict.clear") [.ref a]) Q E s := by
  obtain ⟨z, hd, vs, rel, dd⟩ := dk_of I.hok e
  refine call_meetsIn PySem.F.slot_dict_clear dd.typeIs PySem.F.entry_dict_clear (PySem.F.args_dict_clear_1 _) (meets_dict_clear (mixKind X.prog X.w) a) ⟨vs, dd, by rw [← rel.length]; exact z, fun h' dd' hs => h _ ?_⟩
  have he : ∃ q, h'.get? a = some q := let ⟨q, _, _, hq, _⟩ := dd'; ⟨q, hq⟩
  exact d_write (t' := s.toks) I (by rw [e]; exact True.intro) hs he (dk_new (Nat.zero_le _) hd .nil dd')
/-- len(d) -/
theorem d_len {Q : Value → Shared → Prop} (I : Inv X pins σ H s) (e : Rd H a (.dK kvs)) (h : ∀ t s', Inv X pins σ H s' → Q (.int kvs.length t) s') : wpAny (model X.prog X.w) A (call (.builtin "len") [.ref a]) Q E s := by
  obtain ⟨z, hd, vs, rel, dd⟩ := dk_rd I.hok e
  refine call_len_dict hd dd (by rw [← rel.length]; rw [sizeLine_eq] at z; omega) ?_
  rw [← rel.length]
  exact h _ _ (I.tok _)
/-- if d -/
theorem d_truth {Q : Bool → Shared → Prop} (I : Inv X pins σ H s) (e : Rd H a (.dK kvs)) (h : ∀ s', Inv X pins σ H s' → Q (!kvs.isEmpty) s') : wpAny (model X.prog X.w) A (truthy (.ref a)) Q E s := by
  obtain ⟨z, hd, vs, rel, dd⟩ := dk_rd I.hok e
  refine wpAny_truthy_dict hd dd (by rw [← rel.length]; rw [sizeLine_eq] at z; omega) ?_
  have q : kvs.isEmpty = vs.isEmpty := by cases rel <;> rfl
  rw [← q]
  exact h _ (I.tok _)
end


/-! ### readings and rules -/
/-- the element of a subscription, not a slice -/
def NoSl (i : Expr) : Prop := ∀ ov iv, subscripted i false ov iv = operate [ov, iv] (getItem ov iv)
theorem subD_of {prog : Program} {w : World} {A : Around} {E : Value → Shared → Prop} {s : Shared} {env : Env} {value slice : Expr} {pos : Pos} {T id : String} {Q : Value → Shared → Prop}
    (hl : typeLookup (.type T) "__getitem__" = pure (some (.builtin id))) (hs : NoSl slice)
    (h : wpAny (model prog w) A (eval value env) (fun o s₁ => wpAny (model prog w) A (eval slice env) (fun i s₂ => s₂.TypeIs o T ∧ wpAny (model prog w) A (getItem o i) Q E s₂) E s₁) E s) :
    wpAny (model prog w) A (eval (.Subscript value slice pos) env) Q E s := by
  refine Subscript_ (wpAny_mono h (fun o s₁ h₁ => wpAny_mono h₁ (fun i s₂ h₂ => ?_) fun _ _ x => x) fun _ _ x => x)
  obtain ⟨hT, h₂⟩ := h₂
  unfold subscriptTail
  refine wpAny_bind ?_
  rw [getitemInPython_of_ne hT.not_modules]
  refine wpAny_bind (wpAny_specialOf hT hl ?_)
  have fin : wpAny (model prog w) A (subscripted slice false o i) (fun r s₃ => wpAny (model prog w) A (letTemporaryGo value o r >>= fun _ => pure r) Q E s₃) E s₂ := by
    rw [hs o i]
    exact wpAny_operating (wpAny_mono h₂ (fun r s₃ h₃ => wpAny_bind (wpAny_letTemporaryGo (wpAny_pure h₃))) fun _ _ x => x)
  first
    | exact wpAny_pure (wpAny_bind fin)
    | exact wpAny_bind (wpAny_pure (wpAny_bind fin))
    | exact wpAny_bind fin

theorem dict_typeIs {X : Cx} {pins : List (Addr × Obj)} {σ : St} {H : Hp} {s : Shared} {a : Addr} {y : V} {o : Option V} (I : Inv X pins σ H s) (g : DGet H a y o) : s.TypeIs (.ref a) "dict" := by
  rcases g with ⟨kvs, k, e, _, _⟩ | ⟨kvs, k, b, e, _, _, _⟩
  · obtain ⟨_, _, vs, _, dd⟩ := dk_rd I.hok e
    exact dd.typeIs
  · obtain ⟨_, _, xs, _, dd⟩ := dt_rd I.hok e
    exact dd.typeIs
theorem dict_noDict {X : Cx} {pins : List (Addr × Obj)} {σ : St} {H : Hp} {s : Shared} {a : Addr} {y : V} {o : Option V} (I : Inv X pins σ H s) (g : DGet H a y o) :
    ∀ b, Value.ref a = .ref b → ∃ ob, s.heap.get? b = some ob ∧ ob.dict = none := fun b q => by
  cases q
  rcases g with ⟨kvs, k, e, _, _⟩ | ⟨kvs, k, b, e, _, _, _⟩
  · obtain ⟨_, _, vs, _, ob, _, _, h1, h2, _⟩ := dk_rd I.hok e
    exact ⟨ob, h1, h2.2.1⟩
  · obtain ⟨_, _, xs, _, ob, _, _, h1, h2, _⟩ := dt_rd I.hok e
    exact ⟨ob, h1, h2.2.1⟩

/-- d[y] -/
def tDGet (td ty : TE) : TE := fun σ H Q => td σ H fun x H1 => ty σ H1 fun y H2 => ∃ a v, x = .ref a ∧ DGet H2 a y (some v) ∧ Q v H2
/-- y in d, y not in d -/
def tDIn (ty td : TE) : TE := fun σ H Q => ty σ H fun y H1 => td σ H1 fun x H2 => ∃ a o, x = .ref a ∧ DGet H2 a y o ∧ Q (.bl o.isSome) H2
def tDNotIn (ty td : TE) : TE := fun σ H Q => ty σ H fun y H1 => td σ H1 fun x H2 => ∃ a o, x = .ref a ∧ DGet H2 a y o ∧ Q (.bl (!o.isSome)) H2
/-- d[y] = v -/
def sDPut (td ty tv : TE) : TS := fun D σ H => tv σ H fun v H1 => td σ H1 fun x H2 => ty σ H2 fun y H3 => ∃ a H4, x = .ref a ∧ DPut H3 a y v H4 ∧ D.nx σ H4
/-- d[y] op= v -/
def sDAug (td ty tv : TE) (rd : V → V → Hp → VK → Prop) : TS := fun D σ H => td σ H fun x H1 => ty σ H1 fun y H2 => ∃ a v, x = .ref a ∧ DGet H2 a y (some v) ∧
  tv σ H2 fun y2 H3 => rd v y2 H3 fun z H4 => ∃ H5, DPut H4 a y z H5 ∧ D.nx σ H5
/-- del d[y] -/
def sDDel (td ty : TE) : TS := fun D σ H => td σ H fun x H1 => ty σ H1 fun y H2 => ∃ a kvs k, x = .ref a ∧ H2 a = some (.dK kvs) ∧ y = kV k ∧ (valV kvs k).isSome = true ∧ D.nx σ (upd H2 a (.dK (dropK kvs k)))

section
variable {X : Cx} {o i e value : Expr} {pos pos' tpos : Pos} {td ty tv : TE}
theorem pe_dget (hu : X.A.units + 1 < cLine) (ho : PE X o td) (hi : PE X i ty) (hs : NoSl i) : PE X (.Subscript o i pos) (tDGet td ty) := by
  intro pins s σ H Q I h
  refine subD_of PySem.F.slot_dict_getitem.lookup hs (thn (ho pins s σ H _ I h) fun u s1 ⟨x, H1, I1, rx, q1⟩ => thn (hi pins s1 σ H1 _ I1 q1) fun iv s2 ⟨y, H2, I2, ry, a, v, ex, g, q2⟩ => ?_)
  subst ex
  obtain rfl : u = Value.ref a := rx
  exact ⟨dict_typeIs I2 g, d_getItem hu I2 g ry fun w' s3 I3 rw' => ⟨v, H2, I3, rw', q2⟩⟩
theorem pc_din (hu : X.A.units + 1 < cLine) (hi : PE X i ty) (ho : PE X o td) : PC X .In i o (tDIn ty td) := by
  intro pins s σ H Q I h
  refine thn (hi pins s σ H _ I h) fun iv s1 ⟨y, H1, I1, ry, q1⟩ => thn (ho pins s1 σ H1 _ I1 q1) fun u s2 ⟨x, H2, I2, rx, a, ov, ex, g, q2⟩ => ?_
  subst ex
  obtain rfl : u = Value.ref a := rx
  exact d_in hu I2 g ry fun s3 I3 => ⟨.bl ov.isSome, H2, I3, rfl, q2⟩
theorem pc_dnotin (hu : X.A.units + 1 < cLine) (hi : PE X i ty) (ho : PE X o td) : PC X .NotIn i o (tDNotIn ty td) := by
  intro pins s σ H Q I h
  refine thn (hi pins s σ H _ I h) fun iv s1 ⟨y, H1, I1, ry, q1⟩ => thn (ho pins s1 σ H1 _ I1 q1) fun u s2 ⟨x, H2, I2, rx, a, ov, ex, g, q2⟩ => ?_
  subst ex
  obtain rfl : u = Value.ref a := rx
  exact d_notIn hu I2 g ry fun s3 I3 => ⟨.bl (!ov.isSome), H2, I3, rfl, q2⟩
theorem ps_dput (hu : X.A.units + 1 < cLine) (ho : PE X o td) (hi : PE X i ty) (hv : PE X value tv) (hs : swapsWith value (some (.Subscript o i pos')) pos.line X.env = pure false) :
    PS X (.Assign [.Subscript o i pos'] value pos) (sDPut td ty tv) := by
  intro pins s σ H D I h
  refine wpAny_Assign_Subscript (thn (hv pins s σ H _ I h) fun r s1 ⟨v, H1, I1, rv, q1⟩ => thn (ho pins s1 σ H1 _ I1 q1) fun u s2 ⟨x, H2, I2, rx, q2⟩ => thn (hi pins s2 σ H2 _ I2 q2) fun iv s3 ⟨y, H3, I3, ry, a, H4, ex, g, q3⟩ => ?_) hs
  subst ex
  obtain rfl : u = Value.ref a := rx
  exact d_setItem hu I3 g ry rv fun s4 I4 => ⟨σ, H4, I4, q3⟩
theorem ps_daug {op : Operator} {rd : V → V → Hp → VK → Prop} (hu : X.A.units + 1 < cLine) (ho : PE X o td) (hi : PE X i ty) (hv : PE X value tv) (hop : InOp X op rd)
    (ha : ∀ ov iv new, augStore i ov iv new = (do holding [new, ov, iv] (setItem ov iv new); release [new, ov, iv] []; pure .next)) : PS X (.AugAssign (.Subscript o i tpos) op value pos) (sDAug td ty tv rd) := by
  intro pins s σ H D I h
  refine wpAny_AugAssign_SubscriptAny (thn (ho pins s σ H _ I h) fun u s1 ⟨x, H1, I1, rx, q1⟩ => thn (hi pins s1 σ H1 _ I1 q1) fun iv s2 ⟨y, H2, I2, ry, a, v, ex, g, q2⟩ => ?_) ha
  subst ex
  obtain rfl : u = Value.ref a := rx
  refine d_getItem hu I2 g ry fun w' s3 I3 rw' => thn (hv pins s3 σ H2 _ I3 q2) fun w2 s4 ⟨y2, H3, I4, ry2, q3⟩ => thn (hop pins s4 σ H3 v y2 w' w2 _ I4 rw' ry2 q3) fun w3 s5 ⟨z, H4, I5, rz, H5, g5, q4⟩ => ?_
  exact d_setItem hu I5 g5 ry rz fun s6 I6 => ⟨σ, H5, I6, q4⟩
theorem ps_ddel (ho : PE X o td) (hi : PE X i ty) : PS X (.Delete [.Subscript o i tpos] pos) (sDDel td ty) := by
  intro pins s σ H D I h
  refine wpAny_Delete (wpAny_deleteEach_cons (wpAny_delete_Subscript (thn (ho pins s σ H _ I h) fun u s1 ⟨x, H1, I1, rx, q1⟩ => thn (hi pins s1 σ H1 _ I1 q1) fun iv s2 ⟨y, H2, I2, ry, a, kvs, k, ex, e, ey, l, q2⟩ => ?_)))
  subst ex ey
  obtain rfl : u = Value.ref a := rx
  exact d_delItem I2 e ry l fun s3 I3 => wpAny_deleteEach_nil ⟨σ, _, I3, q2⟩
end


/-! ### displays -/
theorem dk_empty {P : Program} {w : World} {H : Hp} (h : Heap) (hb : sysModules < h.objs.size) : ObjOk P w H (h.push { cls := .type "dict", data := .dict #[] }) h.objs.size (.dK []) :=
  ⟨Nat.zero_le _, beq_eq_false_iff_ne.mpr (Ne.symm (Nat.ne_of_lt hb)), [], .nil, Heap.DictOf.new h⟩
theorem dt_empty {P : Program} {w : World} {H : Hp} (h : Heap) (hb : sysModules < h.objs.size) : ObjOk P w H (h.push { cls := .type "dict", data := .dict #[] }) h.objs.size (.dT []) :=
  ⟨Nat.zero_le _, beq_eq_false_iff_ne.mpr (Ne.symm (Nat.ne_of_lt hb)), [], .nil, _, #[], 0, Heap.get?_push_size _ rfl, ⟨rfl, rfl, rfl⟩, rfl, rfl, List.nodup_nil⟩
/-- {}, to be a dict of the kind that is wanted -/
def tDNewK : TE := fun _ H Q => ∀ p, H p = none → Q (.ref p) (upd H p (.dK []))
def tDNewT : TE := fun _ H Q => ∀ p, H p = none → Q (.ref p) (upd H p (.dT []))
section
variable {X : Cx} {pos : Pos}
theorem pe_dnewK : PE X (.Dict [] [] pos) tDNewK := fun pins s σ H Q I h =>
  wpAny_Dict_empty ⟨.ref s.heap.objs.size, _, I.laid (a := s.heap.objs.size) (o := .dK []) (t' := s.toks) (fun _ _ q => Heap.get?_push_of_some _ q) (Nat.le_refl _) (dk_empty s.heap I.big), rfl, h _ (I.hok.fresh (Nat.le_refl _))⟩
theorem pe_dnewT : PE X (.Dict [] [] pos) tDNewT := fun pins s σ H Q I h =>
  wpAny_Dict_empty ⟨.ref s.heap.objs.size, _, I.laid (a := s.heap.objs.size) (o := .dT []) (t' := s.toks) (fun _ _ q => Heap.get?_push_of_some _ q) (Nat.le_refl _) (dt_empty s.heap I.big), rfl, h _ (I.hok.fresh (Nat.le_refl _))⟩
end

/-- the pairs of a display, from the left -/
def tPairs : List (TE × TE) → St → Hp → (List (V × V) → Hp → Prop) → Prop
  | [], _, H, Q => Q [] H
  | (tk, tv) :: r, σ, H, Q => tk σ H fun x H1 => tv σ H1 fun y H2 => tPairs r σ H2 fun ps H3 => Q ((x, y) :: ps) H3
abbrev VV : List (V × V) → List (Value × Value) → Prop := Paired fun p q => RelV p.1 q.1 ∧ RelV p.2 q.2
def PPs (X : Cx) (pos : Pos) (keys : List (Option Expr)) (values : List Expr) (trs : List (TE × TE)) : Prop :=
  ∀ (pins : List (Addr × Obj)) (s : Shared) (σ : St) (H : Hp) (Q : List (V × V) → Hp → Prop), Inv X pins σ H s → tPairs trs σ H Q →
    wpAny (model X.prog X.w) X.A (evalPairs (pairTrees keys values X.env pos)) (fun vs s' => ∃ ps H', Inv X pins σ H' s' ∧ VV ps vs ∧ Q ps H') X.xe s
theorem pps_nil {X : Cx} {pos : Pos} : PPs X pos [] [] [] := fun pins s σ H Q I h => pairTrees_nil_walk ⟨[], H, I, .nil, h⟩
theorem pps_cons {X : Cx} {pos : Pos} {k v : Expr} {ks : List (Option Expr)} {vs : List Expr} {tk tv : TE} {trs : List (TE × TE)} (hk : PE X k tk) (hv : PE X v tv) (hr : PPs X pos ks vs trs) :
    PPs X pos (some k :: ks) (v :: vs) ((tk, tv) :: trs) := fun pins s σ H Q I h =>
  pairTrees_cons_walk (thn (hk pins s σ H _ I h) fun u s1 ⟨x, H1, I1, rx, q1⟩ => thn (hv pins s1 σ H1 _ I1 q1) fun w2 s2 ⟨y, H2, I2, ry, q2⟩ =>
    thn (hr pins s2 σ H2 _ I2 q2) fun ws s3 ⟨ps, H3, I3, rel, q3⟩ => ⟨(x, y) :: ps, H3, I3, .cons ⟨rx, ry⟩ rel, q3⟩)

def mergeK (kvs more : List (Key × V)) : List (Key × V) := more.foldl (fun acc kv => putK acc kv.1 kv.2) kvs
theorem KV.merge : ∀ {more : List (Key × V)} {rs : List (Key × Value)} {kvs : List (Key × V)} {vs : List (Key × Value)}, KV more rs → KV kvs vs → KV (mergeK kvs more) (merged vs rs) := by
  intro more rs kvs vs r
  unfold KV at r
  induction r generalizing kvs vs with
  | nil => intro q; exact q
  | @cons p q ps qs h t ih =>
    intro r0
    have e : KV (putK kvs p.1 p.2) (stored vs q.1 q.2) := by
      have := r0.put p.1 h.2
      rw [← h.1]; exact this
    exact ih e
theorem length_mergeK : ∀ (more kvs : List (Key × V)), (mergeK kvs more).length ≤ kvs.length + more.length
  | [], kvs => by show kvs.length ≤ kvs.length + 0; omega
  | p :: r, kvs => by
    have h1 := length_mergeK r (putK kvs p.1 p.2)
    have h2 := length_putK kvs p.1 p.2
    show (mergeK (putK kvs p.1 p.2) r).length ≤ _
    rw [List.length_cons]; omega
theorem carries_of {P : Program} {w : World} : ∀ {kvs : List (Key × V)} {ws : List (Value × Value)}, VV (kvs.map fun kv => (kV kv.1, kv.2)) ws → ∃ rs, Carries (mixKind P w) ws rs ∧ KV kvs rs
  | [], _, r => by rw [List.map_nil] at r; cases r; exact ⟨[], True.intro, .nil⟩
  | p :: kvs, _, r => by
    rw [List.map_cons] at r
    cases r with
    | @cons a b as bs h t =>
      obtain ⟨rs, c, q⟩ := carries_of (P := P) (w := w) t
      obtain ⟨b1, b2⟩ := b
      exact ⟨(p.1, b2) :: rs, ⟨kV_is h.1, rfl, c⟩, .cons ⟨rfl, h.2⟩ q⟩
/-- {k: v, ..} with keys ints and texts; the new dict stands empty while the pairs are made -/
def tDisp (trs : List (TE × TE)) : TE := fun σ H Q => ∀ p, H p = none → tPairs trs σ (upd H p (.dK [])) fun ps H2 => H2 p = some (.dK []) ∧ ∃ kvs : List (Key × V), ps = kvs.map (fun kv => (kV kv.1, kv.2)) ∧ kvs.length ≤ 15 ∧ Q (.ref p) (upd H2 p (.dK (mergeK [] kvs)))
theorem pe_disp {X : Cx} {pos : Pos} {keys : List (Option Expr)} {values : List Expr} {trs : List (TE × TE)} (h : PPs X pos keys values trs) (hall : keys.all (·.isSome) = true) (hl : keys.length = values.length) (h0 : keys ≠ [])
    (h15 : keys.length ≤ 15) : PE X (.Dict keys values pos) (tDisp trs) := by
  intro pins s σ H Q I q
  have hn := I.hok.fresh (Nat.le_refl s.heap.objs.size)
  have I1 := I.laid (a := s.heap.objs.size) (o := .dK []) (h' := s.heap.push { cls := .type "dict", data := .dict #[] }) (t' := s.toks) (fun _ _ q => Heap.get?_push_of_some _ q) (Nat.le_refl _) (dk_empty s.heap I.big)
  refine wpAny_Dict_walk (knd := mixKind X.prog X.w) hall hl h0 h15 (thn (h pins _ σ _ _ I1 (q _ hn)) fun ws s2 ⟨ps, H2, I2, rel, e, kvs, ep, lk, q2⟩ => ?_)
  subst ep
  obtain ⟨rs, c, rk⟩ := carries_of (P := X.prog) (w := X.w) rel
  obtain ⟨z, hd, vs0, r0, dd⟩ := dk_of I2.hok e
  cases r0
  refine ⟨rs, c, dd, fun h' dd' hs => ⟨.ref s.heap.objs.size, _, ?_, rfl, q2⟩⟩
  have hz : (mergeK [] kvs).length ≤ sizeLine := by
    have h1 := length_mergeK kvs []
    rw [List.length_nil] at h1
    rw [sizeLine_eq]; omega
  have he : ∃ q, h'.get? s.heap.objs.size = some q := let ⟨q, _, _, hq, _⟩ := dd'; ⟨q, hq⟩
  exact d_write I2 (by rw [e]; exact True.intro) hs he (dk_new hz hd (rk.merge .nil) dd')


/-! ### methods -/
/-- a method call o.m(e) of a built-in, with one argument: what must be seen of the text -/
structure M1 (X : Cx) (o : Expr) (m : Str) (apos : Pos) (e : Expr) (cpos : Pos) : Prop where
  base : attributeBase o m X.env (eval o X.env) = eval o X.env
  few : ((backTo cpos (starEach [e] X.env)).all (fun x => !x.1) && (backToKw cpos (keywordEach [] X.env)).all (fun x => x.1.isSome)
    && decide (([e] : List Expr).length + ([] : List Keyword).length + (if ([] : List Keyword).isEmpty then 0 else 1) < 30)) = true
  line : (apos.endLine == cpos.line) = true
  trees : backTo cpos (starEach [e] X.env) = [(false, eval e X.env)]
structure M2 (X : Cx) (o : Expr) (m : Str) (apos : Pos) (e f : Expr) (cpos : Pos) : Prop where
  base : attributeBase o m X.env (eval o X.env) = eval o X.env
  few : ((backTo cpos (starEach [e, f] X.env)).all (fun x => !x.1) && (backToKw cpos (keywordEach [] X.env)).all (fun x => x.1.isSome)
    && decide (([e, f] : List Expr).length + ([] : List Keyword).length + (if ([] : List Keyword).isEmpty then 0 else 1) < 30)) = true
  line : (apos.endLine == cpos.line) = true
  trees : backTo cpos (starEach [e, f] X.env) = [(false, eval e X.env), (false, eval f X.env)]

/-- a is a dict, whatever its keys -/
def IsD (H : Hp) (a : Addr) : Prop := (∃ kvs, Rd H a (.dK kvs)) ∨ ∃ kvs, Rd H a (.dT kvs)
theorem isD_at {X : Cx} {pins : List (Addr × Obj)} {σ : St} {H : Hp} {s : Shared} {a : Addr} (I : Inv X pins σ H s) (d : IsD H a) :
    s.TypeIs (.ref a) "dict" ∧ (∀ b, Value.ref a = .ref b → ∃ ob, s.heap.get? b = some ob ∧ ob.dict = none) ∧ (a == sysModules) = false := by
  rcases d with ⟨kvs, e⟩ | ⟨kvs, e⟩
  · obtain ⟨_, hd, vs, _, dd⟩ := dk_rd I.hok e
    refine ⟨dd.typeIs, fun b q => ?_, hd⟩
    cases q
    obtain ⟨ob, _, _, h1, h2, _⟩ := dd
    exact ⟨ob, h1, h2.2.1⟩
  · obtain ⟨_, hd, xs, _, dd⟩ := dt_rd I.hok e
    refine ⟨dd.typeIs, fun b q => ?_, hd⟩
    cases q
    obtain ⟨ob, _, _, h1, h2, _⟩ := dd
    exact ⟨ob, h1, h2.2.1⟩

section
variable {X : Cx} {pins : List (Addr × Obj)} {σ : St} {H : Hp} {s : Shared} {a : Addr} {y d : V} {u r : Value} {o : Option V} {A : Around} {E : Value → Shared → Prop}
/-- d.get(y) -/
theorem d_get1 {Q : Value → Shared → Prop} (hu : A.units + 1 < cLine) (I : Inv X pins σ H s) (g : DGet H a y o) (ry : RelV y u) (h : ∀ w' s', Inv X pins σ H s' → RelV (o.getD .non) w' → Q w' s') :
    wpAny (model X.prog X.w) A (call (.builtin "dict.get") [.ref a, u]) Q E s := by
  rcases g with ⟨kvs, k, e, ey, l⟩ | ⟨kvs, k, b, e, ey, eb, l⟩
  · subst ey
    obtain ⟨z, hd, vs, rel, dd⟩ := dk_rd I.hok e
    refine call_meetsIn PySem.F.slot_dict_get dd.typeIs PySem.F.entry_dict_get (PySem.F.args_dict_get_2 _ _) (meets_dict_get (mixKind X.prog X.w) a (kV_is ry) hd) ⟨_, dd.mapOf, h _ _ (I.tok _) ?_⟩
    rw [l]
    exact (rel.val k).getD rfl
  · subst ey
    cases (show u = Value.ref b from ry)
    obtain ⟨z, hd, xs, rel, dd⟩ := dt_rd I.hok e
    refine call_meetsIn PySem.F.slot_dict_get dd.typeIs PySem.F.entry_dict_get (PySem.F.args_dict_get_2 _ _) (meetsH_dict_get (tupleKind (mixKind X.prog X.w)) a b hd) ⟨tupleKind_room_in1 hu, k, xs, key_of I.hok eb, dd, h _ _ (I.tok _) ?_⟩
    rw [l]
    exact (rel.val k).getD rfl
/-- d.get(y, x) -/
theorem d_get2 {Q : Value → Shared → Prop} (hu : A.units + 1 < cLine) (I : Inv X pins σ H s) (g : DGet H a y o) (ry : RelV y u) (rd : RelV d r) (h : ∀ w' s', Inv X pins σ H s' → RelV (o.getD d) w' → Q w' s') :
    wpAny (model X.prog X.w) A (call (.builtin "dict.get") [.ref a, u, r]) Q E s := by
  rcases g with ⟨kvs, k, e, ey, l⟩ | ⟨kvs, k, b, e, ey, eb, l⟩
  · subst ey
    obtain ⟨z, hd, vs, rel, dd⟩ := dk_rd I.hok e
    refine call_meetsIn PySem.F.slot_dict_get dd.typeIs PySem.F.entry_dict_get (PySem.F.args_dict_get_3 _ _ _) (meets_dict_get_default (mixKind X.prog X.w) a (kV_is ry) hd r) ⟨_, dd.mapOf, h _ _ (I.tok _) ?_⟩
    rw [l]
    exact (rel.val k).getD rd
  · subst ey
    cases (show u = Value.ref b from ry)
    obtain ⟨z, hd, xs, rel, dd⟩ := dt_rd I.hok e
    refine call_meetsIn PySem.F.slot_dict_get dd.typeIs PySem.F.entry_dict_get (PySem.F.args_dict_get_3 _ _ _) (meetsH_dict_get_default (tupleKind (mixKind X.prog X.w)) a b hd r) ⟨tupleKind_room_in1 hu, k, xs, key_of I.hok eb, dd, h _ _ (I.tok _) ?_⟩
    rw [l]
    exact (rel.val k).getD rd
end

def tDGet1 (td ty : TE) : TE := fun σ H Q => td σ H fun x H1 => ∃ a, x = .ref a ∧ IsD H1 a ∧ ty σ H1 fun y H2 => ∃ o, DGet H2 a y o ∧ Q (o.getD .non) H2
def tDGet2 (td ty tx : TE) : TE := fun σ H Q => td σ H fun x H1 => ∃ a, x = .ref a ∧ IsD H1 a ∧ ty σ H1 fun y H2 => tx σ H2 fun z H3 => ∃ o, DGet H3 a y o ∧ Q (o.getD z) H3
/-- d.pop(k): there; d.pop(k, x): there or not -/
def tDPop1 (td ty : TE) : TE := fun σ H Q => td σ H fun x H1 => ∃ a, x = .ref a ∧ IsD H1 a ∧ ty σ H1 fun y H2 => ∃ kvs k v, H2 a = some (.dK kvs) ∧ y = kV k ∧ valV kvs k = some v ∧ Q v (upd H2 a (.dK (dropK kvs k)))
def tDPop2 (td ty tx : TE) : TE := fun σ H Q => td σ H fun x H1 => ∃ a, x = .ref a ∧ IsD H1 a ∧ ty σ H1 fun y H2 => tx σ H2 fun z H3 => ∃ kvs k, H3 a = some (.dK kvs) ∧ y = kV k ∧
  (∀ v, valV kvs k = some v → Q v (upd H3 a (.dK (dropK kvs k)))) ∧ (valV kvs k = none → Q z H3)
section
variable {X : Cx} {o e f : Expr} {apos cpos : Pos} {td ty tx : TE}
theorem pe_dget1 (hu : X.A.units + 1 < cLine) (ho : PE X o td) (he : PE X e ty) (m : M1 X o "get" apos e cpos) : PE X (.Call (.Attribute o "get" apos) [e] [] cpos) (tDGet1 td ty) := by
  intro pins s σ H Q I h
  refine wpAny_Call_method m.base m.few m.line PySem.F.plainAttrs_dict PySem.F.slot_dict_get PySem.F.type_dict_get (thn (ho pins s σ H _ I h) fun u s1 ⟨x, H1, I1, rx, a, ex, d, q1⟩ => ?_)
  subst ex
  obtain rfl : u = Value.ref a := rx
  obtain ⟨t1, t2, _⟩ := isD_at I1 d
  refine ⟨t1, t2, ?_⟩
  rw [m.trees]
  refine Calls.callWith_builtin rfl (Calls.evalArgs_plain (Calls.spliced_cons (thn (he pins s1 σ H1 _ I1 q1) fun iv s2 ⟨y, H2, I2, ry, ov, g, q2⟩ => Calls.spliced_nil ?_)))
  exact d_get1 hu I2 g ry fun w' s3 I3 rw' => ⟨_, H2, I3, rw', q2⟩
theorem pe_dget2 (hu : X.A.units + 1 < cLine) (ho : PE X o td) (he : PE X e ty) (hf : PE X f tx) (m : M2 X o "get" apos e f cpos) : PE X (.Call (.Attribute o "get" apos) [e, f] [] cpos) (tDGet2 td ty tx) := by
  intro pins s σ H Q I h
  refine wpAny_Call_method m.base m.few m.line PySem.F.plainAttrs_dict PySem.F.slot_dict_get PySem.F.type_dict_get (thn (ho pins s σ H _ I h) fun u s1 ⟨x, H1, I1, rx, a, ex, d, q1⟩ => ?_)
  subst ex
  obtain rfl : u = Value.ref a := rx
  obtain ⟨t1, t2, _⟩ := isD_at I1 d
  refine ⟨t1, t2, ?_⟩
  rw [m.trees]
  refine Calls.callWith_builtin rfl (Calls.evalArgs_plain (Calls.spliced_cons (thn (he pins s1 σ H1 _ I1 q1) fun iv s2 ⟨y, H2, I2, ry, q2⟩ =>
    Calls.spliced_cons (thn (hf pins s2 σ H2 _ I2 q2) fun fv s3 ⟨z, H3, I3, rz, ov, g, q3⟩ => Calls.spliced_nil ?_))))
  exact d_get2 hu I3 g ry rz fun w' s4 I4 rw' => ⟨_, H3, I4, rw', q3⟩
theorem pe_dpop1 (ho : PE X o td) (he : PE X e ty) (m : M1 X o "pop" apos e cpos) : PE X (.Call (.Attribute o "pop" apos) [e] [] cpos) (tDPop1 td ty) := by
  intro pins s σ H Q I h
  refine wpAny_Call_method m.base m.few m.line PySem.F.plainAttrs_dict PySem.F.slot_dict_pop PySem.F.type_dict_pop (thn (ho pins s σ H _ I h) fun u s1 ⟨x, H1, I1, rx, a, ex, d, q1⟩ => ?_)
  subst ex
  obtain rfl : u = Value.ref a := rx
  obtain ⟨t1, t2, _⟩ := isD_at I1 d
  refine ⟨t1, t2, ?_⟩
  rw [m.trees]
  refine Calls.callWith_builtin rfl (Calls.evalArgs_plain (Calls.spliced_cons (thn (he pins s1 σ H1 _ I1 q1) fun iv s2 ⟨y, H2, I2, ry, kvs, k, v, ea, ey, l, q2⟩ => Calls.spliced_nil ?_)))
  subst ey
  exact d_pop I2 ea ry l (.inl rfl) fun w' s3 I3 rw' => ⟨v, _, I3, rw', q2⟩
theorem pe_dpop2 (ho : PE X o td) (he : PE X e ty) (hf : PE X f tx) (m : M2 X o "pop" apos e f cpos) : PE X (.Call (.Attribute o "pop" apos) [e, f] [] cpos) (tDPop2 td ty tx) := by
  intro pins s σ H Q I h
  refine wpAny_Call_method m.base m.few m.line PySem.F.plainAttrs_dict PySem.F.slot_dict_pop PySem.F.type_dict_pop (thn (ho pins s σ H _ I h) fun u s1 ⟨x, H1, I1, rx, a, ex, d, q1⟩ => ?_)
  subst ex
  obtain rfl : u = Value.ref a := rx
  obtain ⟨t1, t2, _⟩ := isD_at I1 d
  refine ⟨t1, t2, ?_⟩
  rw [m.trees]
  refine Calls.callWith_builtin rfl (Calls.evalArgs_plain (Calls.spliced_cons (thn (he pins s1 σ H1 _ I1 q1) fun iv s2 ⟨y, H2, I2, ry, q2⟩ =>
    Calls.spliced_cons (thn (hf pins s2 σ H2 _ I2 q2) fun fv s3 ⟨z, H3, I3, rz, kvs, k, ea, ey, q3, q4⟩ => Calls.spliced_nil ?_))))
  subst ey
  cases l : valV kvs k with
  | some v => exact d_pop I3 ea ry l (.inr ⟨fv, rfl⟩) fun w' s4 I4 rw' => ⟨v, _, I4, rw', q3 v l⟩
  | none => exact d_popD I3 ea ry l fun s4 I4 => ⟨z, H3, I4, rz, q4 l⟩
end

/-! ### dict(d): a copy -/
section
variable {X : Cx} {pins : List (Addr × Obj)} {σ : St} {H : Hp} {s : Shared} {a : Addr} {kvs : List (Key × V)} {A : Around} {E : Value → Shared → Prop}
theorem d_copyOf {Q : Value → Shared → Prop} (I : Inv X pins σ H s) (e : Rd H a (.dK kvs)) (h : ∀ p s', H p = none → Inv X pins σ (upd H p (.dK kvs)) s' → Q (.ref p) s') : wpAny (model X.prog X.w) A (call (.type "dict") [.ref a]) Q E s := by
  obtain ⟨z, hd, vs, rel, dd⟩ := dk_rd I.hok e
  refine kt_call_dict hd dd (by rw [← rel.length]; exact z) fun h' dd' hs => ?_
  refine h _ _ (I.hok.fresh (Nat.le_refl _)) (I.laid (a := s.heap.objs.size) (o := .dK kvs) (t' := s.toks) (fun b q hq => ?_) (Nat.le_refl _) (dk_new z (beq_eq_false_iff_ne.mpr (Ne.symm (Nat.ne_of_lt I.big))) rel dd'))
  exact (hs.2 b (Nat.ne_of_lt (Heap.lt_size hq))).trans (Heap.get?_push_of_some _ hq)
end


section
variable {X : Cx} {pins : List (Addr × Obj)} {σ : St} {H : Hp} {s : Shared} {a : Addr} {y : V} {u : Value} {A : Around} {E : Value → Shared → Prop}
/-- d[y], not there: a KeyError -/
theorem d_missing {Q : Value → Shared → Prop} (hu : A.units + 1 < cLine) (hh : A.handled = none) (I : Inv X pins σ H s) (g : DGet H a y none) (ry : RelV y u)
    (h : ∀ h' e t', Heap.NewExc s.heap h' e "KeyError" → E (.ref e) { s with heap := h', toks := t' }) : wpAny (model X.prog X.w) A (getItem (.ref a) u) Q E s := by
  rcases g with ⟨kvs, k, e, ey, l⟩ | ⟨kvs, k, b, e, ey, eb, l⟩
  · subst ey
    obtain ⟨z, hd, vs, rel, dd⟩ := dk_rd I.hok e
    have hn : valueAt vs k = none := RelO.none_of (by rw [l]; exact rel.val k)
    exact wpAny_getItem_missing_of (kV_is ry) hd hh dd.mapOf hn fun h' ex ne => h h' ex _ ne
  · subst ey
    cases (show u = Value.ref b from ry)
    obtain ⟨z, hd, xs, rel, dd⟩ := dt_rd I.hok e
    have hn : (atKey xs k).map (·.2) = none := RelO.none_of (by rw [l]; exact rel.val k)
    exact wpAny_getItem_missing_heap (tupleKind_room_in1 hu) (key_of I.hok eb) hd hh dd (Option.map_eq_none_iff.mp hn) fun h' ex ne => h h' ex _ ne
end
end L2
namespace L2
open PySem PySem.Spec PyProof.Rows
section
variable {X : Cx}
theorem call_lenD : CallR X (.builtin "len") (fun xs H Q => ∃ a kvs, xs = [V.ref a] ∧ H a = some (.dK kvs) ∧ Q (.int kvs.length) H) := by
  intro pins s σ H xs us Q I r h
  obtain ⟨a, kvs, rfl, ha, q⟩ := h
  obtain ⟨u, rfl, ru⟩ := vals1 r
  cases ru
  exact d_len I (.inl ha) fun t s' I' => ⟨.int kvs.length, H, I', ⟨t, rfl⟩, q⟩
end
/-! ### a dict's pairs: keys that differ -/
section
variable {κ : Type} [DecidableEq κ]
theorem valV_not {kvs : List (κ × V)} {k : κ} (h : valV kvs k = none) : ¬ k ∈ kvs.map (·.1) := by
  intro m
  obtain ⟨p, hp, e⟩ := List.mem_map.mp m
  have q : (kvs.any fun kv => decide (kv.1 = k)) = true := List.any_eq_true.mpr ⟨p, hp, decide_eq_true e⟩
  rw [valV_any, h] at q
  exact absurd q (by simp)
theorem valV_in {kvs : List (κ × V)} {k : κ} {v : V} (h : valV kvs k = some v) : k ∈ kvs.map (·.1) := by
  have q : (kvs.any fun kv => decide (kv.1 = k)) = true := by
    rw [valV_any, h]
    all_goals rfl
  obtain ⟨p, hp, e⟩ := List.any_eq_true.mp q
  exact List.mem_map.mpr ⟨p, hp, of_decide_eq_true e⟩
theorem nd_snoc : ∀ {l : List κ} {k : κ}, l.Nodup → ¬ k ∈ l → (l ++ [k]).Nodup
  | [], k, _, _ => by simp
  | a :: r, k, h, hk => by
    obtain ⟨h1, h2⟩ := List.nodup_cons.mp h
    show (a :: (r ++ [k])).Nodup
    refine List.nodup_cons.mpr ⟨fun m => ?_, nd_snoc h2 fun m => hk (List.mem_cons.mpr (Or.inr m))⟩
    rcases List.mem_append.mp m with q | q
    · exact h1 q
    · exact hk (List.mem_cons.mpr (Or.inl (List.mem_singleton.mp q).symm))
theorem nd_putK {kvs : List (κ × V)} {k : κ} (v : V) (hn : (kvs.map (·.1)).Nodup) (h : valV kvs k = none) : ((putK kvs k v).map (·.1)).Nodup := by
  rw [putK_new v h, List.map_append]
  exact nd_snoc hn (valV_not h)
theorem dropK_pos {p : κ × V} {r : List (κ × V)} {k : κ} (e : p.1 = k) : dropK (p :: r) k = dropK r k := by
  unfold dropK
  rw [List.filter_cons, if_neg (by simp [e])]
theorem dropK_neg {p : κ × V} {r : List (κ × V)} {k : κ} (e : ¬ p.1 = k) : dropK (p :: r) k = p :: dropK r k := by
  unfold dropK
  rw [List.filter_cons, if_pos (by simp [e])]
theorem dropK_no : ∀ {kvs : List (κ × V)} {k : κ}, ¬ k ∈ kvs.map (·.1) → dropK kvs k = kvs
  | [], _, _ => rfl
  | p :: r, k, h => by
    have h' : ¬ k ∈ r.map (·.1) := fun m => by
      obtain ⟨q, hq, e⟩ := List.mem_map.mp m
      exact h (List.mem_map.mpr ⟨q, List.mem_cons.mpr (Or.inr hq), e⟩)
    rw [dropK_neg fun e => h (List.mem_map.mpr ⟨p, List.mem_cons.mpr (Or.inl rfl), e⟩), dropK_no h']
theorem dropK_mem {kvs : List (κ × V)} {k : κ} {p : κ × V} (h : p ∈ dropK kvs k) : p ∈ kvs := (List.mem_filter.mp h).1
theorem nd_dropK : ∀ {kvs : List (κ × V)} {k : κ}, (kvs.map (·.1)).Nodup → ((dropK kvs k).map (·.1)).Nodup
  | [], _, _ => List.nodup_nil
  | p :: r, k, h => by
    have h : (p.1 :: r.map (·.1)).Nodup := h
    obtain ⟨h1, h2⟩ := List.nodup_cons.mp h
    by_cases e : p.1 = k
    · rw [dropK_pos e]
      exact nd_dropK h2
    · rw [dropK_neg e]
      show (p.1 :: (dropK r k).map (·.1)).Nodup
      refine List.nodup_cons.mpr ⟨fun m => h1 ?_, nd_dropK h2⟩
      obtain ⟨q, hq, eq⟩ := List.mem_map.mp m
      exact List.mem_map.mpr ⟨q, dropK_mem hq, eq⟩
theorem dropK_len : ∀ {kvs : List (κ × V)} {k : κ}, (kvs.map (·.1)).Nodup → k ∈ kvs.map (·.1) → (dropK kvs k).length + 1 = kvs.length
  | [], _, _, m => by simp at m
  | p :: r, k, h, m => by
    have h : (p.1 :: r.map (·.1)).Nodup := h
    have m : k = p.1 ∨ k ∈ r.map (·.1) := List.mem_cons.mp m
    obtain ⟨h1, h2⟩ := List.nodup_cons.mp h
    by_cases e : p.1 = k
    · subst e
      rw [dropK_pos rfl, dropK_no h1]
      all_goals rfl
    · have m' : k ∈ r.map (·.1) := m.resolve_left fun z => e z.symm
      have q := dropK_len h2 m'
      rw [dropK_neg e, List.length_cons, List.length_cons]
      omega
end
end L2

set_option Elab.async false
set_option linter.all false
set_option maxRecDepth 100000
set_option maxHeartbeats 4000000
namespace L2
open PySem PySem.Spec PyProof.Rows
/-! ### enumerate(xs) -/
def Ite (K : PySem.W.Frag) (a : Addr) : It :=
  ⟨fun i H => ∃ xs x, SqL K H a xs ∧ xs[i]? = some x, fun i H v H' => ∃ t x, H t = none ∧ v = .ref t ∧ H' = upd H t (.tup [.int i, x]) ∧ ∀ xs, SqL K H a xs → xs[i]? = some x, fun i H => ∃ xs, SqL K H a xs ∧ xs.length = i⟩
theorem turn_enum {P : Program} {w : World} {K : PySem.W.Frag} {es : List Expr} {x1 : _} {pos : Pos} {e it a : Addr} (hei : e ≠ it) (hea : e ≠ a) (hai : a ≠ it) :
    Turn P w K (.Tuple es x1 pos) (Ite K a) [e, it] e (fun i h => (∃ old, IsEnum h e it i old) ∧ h.IsListIter it a i) where
  mem := by simp
  obj := fun k h st c hc => by
    obtain ⟨⟨old, h1⟩, o, h2, _, d⟩ := st
    simp only [List.mem_cons, List.not_mem_nil, or_false] at hc
    rcases hc with rfl | rfl
    · exact ⟨_, h1, fun v q => by cases q⟩
    · exact ⟨o, h2, fun v z => by rw [d] at z; cases z⟩
  keep := fun k h h' st q => by
    obtain ⟨⟨old, h1⟩, h2⟩ := st
    exact ⟨⟨old, q e (by simp) _ h1⟩, h2.at fun o z => q it (by simp) o z⟩
  item := by
    intro X hP hw hK hc k pins s σ H E I hf st hg
    subst hP hw hK
    obtain ⟨xs, x, qa, ex⟩ := hg
    obtain ⟨its, r, pl, hz⟩ := I.list qa
    obtain ⟨⟨old, h1⟩, h2⟩ := st
    have hh : X.A.in1.handled = none := I.ok.hd hc
    obtain ⟨u, eu, ru⟩ := r.get ex
    have k1 : k < its.toArray.size := by simpa using (List.getElem?_eq_some_iff.mp eu).1
    refine wpAny_pyNext_enum_itemD (Draws.list hh it a hai its.toArray) h1 ⟨h2, pl.isList⟩ k1 hei (by simp only [List.mem_cons, List.not_mem_nil, or_false, not_or]; exact ⟨hei, hea⟩) fun v h' tk px g1 g2 g3 g4 kk => ⟨_, rfl, ?_⟩
    have ev : v = u := by rw [List.getElem?_toArray, eu] at px; exact (Option.some.inj px).symm
    subst ev
    refine wpAny_letOwnedTupleGo_enum g1 fun h'' z' sb => ?_
    have tz : s.heap.objs.size ≠ e := Nat.ne_of_gt (Heap.lt_size h1)
    have hn : H s.heap.objs.size = none := I.hok.fresh (Nat.le_refl _)
    have kp : ∀ b u, b ∉ [e, it] → s.heap.get? b = some u → h''.get? b = some u := fun b u hb q => by
      simp only [List.mem_cons, List.not_mem_nil, or_false, not_or] at hb
      exact sb.extBut b u hb.1 (kk b u hb.1 hb.2 q)
    have I1 : Inv X pins σ (upd H s.heap.objs.size (.tup [.int k, x])) { s with heap := h'', toks := tk + 1 } := I.turnedLaid (ch := [e, it]) kp hf (Nat.le_refl _)
      ⟨by show 2 ≤ sizeLine; decide, [.int k tk, v], .cons ⟨tk, rfl⟩ (.cons ru .nil), ⟨_, sb.extBut _ _ tz g3, rfl, _, rfl⟩⟩
    refine ⟨.ref s.heap.objs.size, _, I1, rfl, ⟨_, x, hn, rfl, rfl, fun xs' q => by rw [I.list_inj q qa]; exact ex⟩, ?_, fun c hc => ?_⟩
    · exact ⟨⟨_, by simpa using z'⟩, g2.1.at fun o q => sb.extBut _ _ hei.symm q⟩
    · have hlt : c < s.heap.objs.size := by
        simp only [List.mem_cons, List.not_mem_nil, or_false] at hc
        rcases hc with rfl | rfl
        · exact Heap.lt_size h1
        · obtain ⟨o, q, _⟩ := h2; exact Heap.lt_size q
      rw [upd_ne (Nat.ne_of_lt hlt)]
      exact (hf c hc).1
  done := by
    intro X hP hw hK hc k pins s σ H E I hf st hg
    subst hP hw hK
    obtain ⟨xs, qa, hx⟩ := hg
    obtain ⟨its, r, pl, hz⟩ := I.list qa
    obtain ⟨⟨old, h1⟩, h2⟩ := st
    have hh : X.A.in1.handled = none := I.ok.hd hc
    have hk : k = its.toArray.size := by rw [← hx, r.length]; simp
    subst hk
    refine wpAny_pyNext_enum_endD (Draws.list hh it a hai its.toArray) h1 ⟨h2, pl.isList⟩ fun h' kk => ⟨rfl, ?_⟩
    exact I.turnedAll (t' := s.toks) (ch := [e, it]) (fun b u hb q => by
      simp only [List.mem_cons, List.not_mem_nil, or_false, not_or] at hb
      exact kk b u hb.2 q) hf
  self := fun _ _ _ _ _ st h => by
    obtain ⟨⟨old, h1⟩, _⟩ := st
    exact wpAny_pyIter_enum h1 h
def iEnum (K : PySem.W.Frag) (ta : TA) : TI := fun σ H R => ta σ H fun vs H1 => ∃ (a : Addr) (xs : List V), vs = [.ref a] ∧ SqL K H1 a xs ∧ R (Ite K a) H1
theorem pi_enum {X : Cx} {es : List Expr} {x1 : _} {tpos : Pos} {a : Expr} {ta : TA} {p pos : Pos} (hg : Gl X "enumerate") (hm : X.mg "enumerate" = none) (ha : PA X [a] ta) (hs : starEach [a] X.env = [(false, eval a X.env)] := by rfl) :
    PI X (.Tuple es x1 tpos) (.Call (.Name "enumerate" p) [a] [] pos) (iEnum X.K ta) := by
  intro pins s σ H R I h
  refine Call_ (ld_blt I hg hm boot_enumerate (PyProof.Rows.callWith_type1 (thn (ha pos pins s σ H _ I h) fun us s1 ⟨vs, H1, I1, r1, q1⟩ => ?_) hs rfl))
  obtain ⟨l, xs, e, q1, q⟩ := q1
  subst e
  obtain ⟨u, rfl, ru⟩ := vals1 r1
  cases ru
  obtain ⟨its, r, pl, hz⟩ := I1.list q1
  have lt1 : l < s1.heap.objs.size := let ⟨o, n, z, _⟩ := pl; Heap.lt_size z
  refine call_enumerate_list pl.isList fun h' g1 g2 _ kk => ?_
  refine wpAny_pyIter_enum g1 ?_
  have I2 : Inv X pins σ H1 { s1 with heap := h' } := I1.kept (t' := s1.toks) kk
  refine ⟨_, [s1.heap.objs.size + 1, s1.heap.objs.size], _, _, H1, rfl, I2, turn_enum (Nat.ne_of_gt (Nat.lt_succ_self _)) (Nat.ne_of_gt (Nat.lt_succ_of_lt lt1)) (Nat.ne_of_lt lt1), ⟨⟨_, g1⟩, g2⟩, fun c hc => ?_, q⟩
  have hle : s1.heap.objs.size ≤ c := by
    simp only [List.mem_cons, List.not_mem_nil, or_false] at hc
    rcases hc with rfl | rfl
    · exact Nat.le_add_right _ _
    · exact Nat.le_refl _
  exact I1.fpOk hle (I1.hok.fresh hle)
/-- for i, x in enumerate(xs): the list stays -/
theorem for_enum {K : PySem.W.Frag} {a : Addr} {xs : List V} {g : TG} {tb : TS} {D : Ends} {σ : St} {H : Hp} (Pv : Nat → St → Hp → Prop) (h0 : Pv 0 σ H) (hl : ∀ i σ H, i ≤ xs.length → Pv i σ H → SqL K H a xs)
    (hs : ∀ i x t σ H, xs[i]? = some x → H t = none → Pv i σ H → g (.ref t) σ (upd H t (.tup [.int i, x])) fun σ2 H2 => tb { D with nx := Pv (i + 1), ct := Pv (i + 1), bk := D.nx } σ2 H2) (hd : ∀ σ H, Pv xs.length σ H → D.nx σ H) :
    ∃ W : Nat → Nat → St → Hp → Prop, (∃ m, W 0 m σ H) ∧ ∀ i m σ H, W i m σ H →
      ((Ite K a).stop i H ∧ D.nx σ H) ∨ ((Ite K a).go i H ∧ ∃ N : St → Hp → Prop, (∀ σ' H', N σ' H' → ∃ m', m' < m ∧ W (i + 1) m' σ' H') ∧ ∀ x H', (Ite K a).yld i H x H' → g x σ H' fun σ2 H2 => tb { D with nx := N, ct := N, bk := D.nx } σ2 H2) := by
  refine ⟨fun i m σ H => m = xs.length - i ∧ i ≤ xs.length ∧ Pv i σ H, ⟨xs.length, by simp, Nat.zero_le _, h0⟩, ?_⟩
  rintro i m σ H ⟨rfl, hi, p⟩
  have q := hl i σ H hi p
  by_cases hlt : i < xs.length
  · refine .inr ⟨⟨xs, xs[i], q, by simp [hlt]⟩, Pv (i + 1), fun σ' H' p' => ⟨xs.length - (i + 1), by omega, rfl, hlt, p'⟩, fun v H' y => ?_⟩
    obtain ⟨t, x, hn, rfl, rfl, ex⟩ := y
    exact hs i x t σ H (ex xs q) hn p
  · have e : i = xs.length := by omega
    subst e
    exact .inl ⟨⟨xs, q, rfl⟩, hd σ H p⟩
end L2

set_option Elab.async false
set_option linter.all false
set_option maxRecDepth 100000
set_option maxHeartbeats 4000000
namespace L2
open PySem PySem.Spec PyProof.Rows
theorem vals_of : ∀ {xs : List V} {us : List Value}, xs.length = us.length → (∀ (i : Nat) x u, xs[i]? = some x → us[i]? = some u → RelV x u) → Vals xs us
  | [], [], _, _ => .nil
  | [], u :: us, h, _ => by simp at h
  | x :: xs, [], h, _ => by simp at h
  | x :: xs, u :: us, h, f => .cons (f 0 x u rfl rfl) (vals_of (by simpa using h) fun i a b e1 e2 => f (i + 1) a b (by simpa using e1) (by simpa using e2))
section
variable {X : Cx}
theorem call_rng1 : CallR X (.type "range") (fun vs H Q => ∃ j : Int, vs = [.int j] ∧ ∀ p, H p = none → Q (.ref p) (upd H p (.rng 0 j))) := by
  intro pins s σ H vs us Q I r h
  obtain ⟨j, rfl, q⟩ := h
  obtain ⟨u, rfl, rx⟩ := vals1 r
  obtain ⟨t, rfl⟩ := rx
  exact call_range_1 ⟨.ref s.heap.objs.size, _, I.laid (o := .rng 0 j) (fun b o e => Heap.get?_push_of_some _ e) (Nat.le_refl _) ⟨_, _, _, Heap.get?_push_size _ rfl⟩, rfl, q _ I.fresh⟩
theorem call_list_rng (hc : X.calm = true) : CallR X (.type "list") (fun vs H Q => ∃ (p : Addr) (j : Int), vs = [.ref p] ∧ H p = some (.rng 0 j) ∧ 0 ≤ j ∧ j ≤ 1000 ∧ ∀ l, H l = none → Q (.ref l) (upd H l (.lst (((List.range j.toNat).map Int.ofNat).map V.int)))) := by
  intro pins s σ H vs us Q I r h
  obtain ⟨p, j, rfl, hq, h0, h1, q⟩ := h
  obtain ⟨u, rfl, rx⟩ := vals1 r
  cases rx
  obtain ⟨t, u, v, e⟩ : ∃ t u v, s.heap.get? p = some { cls := .type "range", data := .fields #[.int 0 t, .int j u, .int 1 v] } := I.hok p _ hq
  have hn : Builtin.Range.rangeSize 0 j 1 = (j.toNat : Int) := by rw [rangeSize_one]; split <;> omega
  refine call_list_range (n := j.toNat) (I.ok.hd hc) e (small_one (by omega) (by omega) (by omega) (by omega)) hn (by omega) fun h' tk acc c' kk e' hi => ?_
  refine ⟨.ref s.heap.objs.size, _, I.laid (t' := tk) (o := .lst (((List.range j.toNat).map Int.ofNat).map V.int)) kk (Nat.le_refl _) ⟨?_, acc.toList, c', ?_, ?_⟩, rfl, q _ I.fresh⟩
  · simp only [List.length_map, List.length_range]; rw [sizeLine_eq]; omega
  · refine vals_of ?_ fun i x u e1 e2 => ?_
    · simp only [List.length_map, List.length_range, Array.length_toList]; exact hi.1.symm
    · have hlt : i < j.toNat := by
        have := (List.getElem?_eq_some_iff.mp e1).1
        simpa using this
      obtain ⟨t', e3⟩ := hi.2 i u (by rw [← e2]; simp)
      have : x = .int (i : Int) := by
        rw [List.getElem?_map, List.getElem?_map, List.getElem?_range hlt] at e1
        exact (Option.some.inj e1).symm
      subst this
      exact ⟨t', by rw [e3]; congr 1; omega⟩
  · simpa using e'
/-- a + b of tuples -/
def rCatG (K : PySem.W.Frag) : R2 := fun x y H Q => ∃ a b xs ys, x = .ref a ∧ y = .ref b ∧ SqT K H a xs ∧ SqT K H b ys ∧ xs.length + ys.length ≤ sizeLine ∧ ∀ p H', Same H H' → SqT K H' p (xs ++ ys) → Q (.ref p) H'
theorem op_catG : OpR X (binaryOp .Add) (rCatG X.K) := by
  intro pins s σ H x y v u Q I rx ry h
  obtain ⟨a, b, xs, ys, rfl, rfl, ha, hb, hz, q⟩ := h
  by_cases hx : xs = []
  · subst hx
    cases rx
    cases ry
    obtain ⟨its, r1, p1, _⟩ := I.tuple ha
    obtain ⟨its2, r2, p2, _⟩ := I.tuple hb
    obtain ⟨⟨cls, dd, data, sl⟩, ho, hc, n, hd⟩ := id p1
    obtain ⟨⟨cls2, dd2, data2, sl2⟩, ho2, hc2, n2, hd2⟩ := id p2
    simp only at hc hd hc2 hd2
    subst hc hd hc2 hd2
    have hi : its = [] := r1.nil_iff.mpr rfl
    exact concat_meets ⟨_, ho, rfl⟩ ⟨_, ho2, rfl⟩ noFill_tuple_add seq_tuple_add PySem.F.slot_tuple_add PySem.F.entry_tuple_add (PySem.F.args_tuple_add_2 _ _)
      (tuple_addW0 a b its.toArray its2.toArray n n2 dd dd2 sl sl2 (by simp [hi])) ⟨ho, ho2, ⟨.ref b, H, I, rfl, q b H (fun _ _ e => e) (by simpa using hb)⟩⟩
  · refine op_catT pins s σ H (.ref a) (.ref b) v u Q I rx ry ⟨a, b, xs, ys, rfl, rfl, ha, hb, hx, hz, fun e => ?_, fun _ p hp => ?_⟩
    · subst e
      exact q a H (fun _ _ e => e) (by simpa using ha)
    · exact q p _ (fun c o e => by rw [upd_ne (ne_of_none e hp)]; exact e) (SqT.of upd_same)
end
end L2

set_option Elab.async false
set_option linter.all false
set_option maxRecDepth 100000
set_option maxHeartbeats 4000000
namespace L2
open PySem PySem.Spec PyProof.Rows
/-- d.update(e) -/
def tDUpd (td ty : TE) : TE := fun σ H Q => td σ H fun x H1 => ∃ a, x = .ref a ∧ IsD H1 a ∧ ty σ H1 fun y H2 => ∃ b kvs more, y = .ref b ∧ a ≠ b ∧ H2 a = some (.dK kvs) ∧ H2 b = some (.dK more) ∧ kvs.length + more.length ≤ sizeLine ∧ Q .non (upd H2 a (.dK (mergeK kvs more)))
section
variable {X : Cx} {o e : Expr} {apos cpos : Pos} {td ty : TE}
theorem pe_dupd (ho : PE X o td) (he : PE X e ty) (m : M1 X o "update" apos e cpos) : PE X (.Call (.Attribute o "update" apos) [e] [] cpos) (tDUpd td ty) := by
  intro pins s σ H Q I h
  refine wpAny_Call_method m.base m.few m.line PySem.F.plainAttrs_dict PySem.F.slot_dict_update PySem.F.type_dict_update (thn (ho pins s σ H _ I h) fun u s1 ⟨x, H1, I1, rx, a, ex, d, q1⟩ => ?_)
  subst ex
  obtain rfl : u = Value.ref a := rx
  obtain ⟨t1, t2, _⟩ := isD_at I1 d
  refine ⟨t1, t2, ?_⟩
  rw [m.trees]
  refine Calls.callWith_builtin rfl (Calls.evalArgs_plain (Calls.spliced_cons (thn (he pins s1 σ H1 _ I1 q1) fun iv s2 ⟨y, H2, I2, ry, b, kvs, more, ey, hab, ea, eb, hz, q2⟩ => Calls.spliced_nil ?_)))
  subst ey
  obtain rfl : iv = Value.ref b := ry
  obtain ⟨z1, hd1, vs1, rel1, dd1⟩ := dk_of I2.hok ea
  obtain ⟨z2, hd2, vs2, rel2, dd2⟩ := dk_of I2.hok eb
  refine call_meetsIn PySem.F.slot_dict_update dd1.typeIs PySem.F.entry_dict_update (PySem.F.args_dict_update_2 _ _) (meets_dict_update (mixKind X.prog X.w) a b hab hd2) ⟨vs1, vs2, dd1, dd2, by rw [← rel1.length, ← rel2.length]; exact hz, fun h' d1 d2 sb => ?_⟩
  refine ⟨.non, _, I2.write (x := a) (e := a) (o := .dK (mergeK kvs more)) (t' := s2.toks) (by rw [ea]; trivial) (.inl rfl) (fun c q hc hq => (sb.2 c hc).trans hq) (let ⟨ob, _, _, q, _⟩ := d1; ⟨ob, q⟩) ?_, rfl, q2⟩
  exact ⟨Nat.le_trans (length_mergeK more kvs) hz, hd1, _, KV.merge rel2 rel1, d1⟩
end
theorem mergeK_append : ∀ (more : List (Key × V)) (kvs : List (Key × V)), (∀ k ∈ more.map (·.1), k ∉ kvs.map (·.1)) → (more.map (·.1)).Nodup → mergeK kvs more = kvs ++ more
  | [], kvs, _, _ => by unfold mergeK; simp
  | x :: more, kvs, h, hn => by
    rw [List.map_cons, List.nodup_cons] at hn
    have hx : valV kvs x.1 = none := by
      cases e : valV kvs x.1 with
      | none => rfl
      | some v => exact absurd (valV_in e) (h x.1 (by simp))
    show mergeK (putK kvs x.1 x.2) more = _
    rw [putK_new _ hx, mergeK_append more _ (fun k hk q => ?_) hn.2, List.append_assoc]
    · rfl
    · rw [List.map_append] at q
      rcases List.mem_append.mp q with q | q
      · exact h k (by rw [List.map_cons]; exact List.mem_cons_of_mem _ hk) q
      · have : k = x.1 := by simpa using q
        exact hn.1 (this ▸ hk)
end L2

set_option Elab.async false
set_option linter.all false
set_option maxRecDepth 100000
set_option maxHeartbeats 4000000
namespace HT
open PySem PySem.Spec PyProof.Rows
section
variable {prog : Program} {w : World} {A : Around} {E : Value → Shared → Prop} {s : Shared}
theorem getItem_tuple_whole {t sl : Addr} {items : Array Value} {vl vu : Value} {lo hi : Option Int} {Q : Value → Shared → Prop} (ht : IsTup s.heap t items) (hs : s.heap.IsSliceOf sl vl vu .none) (pl : IsPart vl lo) (pu : IsPart vu hi)
    (hw : sIx items.size 0 lo = 0 ∧ sIx items.size items.size hi = items.size)
    (h : Q (.ref t) s) : wpAny (model prog w) A (getItem (.ref t) (.ref sl)) Q E s := by
  obtain ⟨os, hos, hcs, hds⟩ := id hs
  have hTs : s.TypeIs (.ref sl) "slice" := ⟨os, hos, hcs⟩
  unfold getItem
  try with_reducible refine wpAny_holding ?_
  first | refine wpAny_bind (wpAny_pure ?_) | skip
  refine wpAny_bind (wpAny_sequenceKey ht.typeIs (by decide) ?_)
  refine wpAny_bind (wpAny_callSpecial?_slot (name := Str.ofString "__getitem__") ht.typeIs PyProof.Rows.slot_tuple_getitem
    (wpAny_call_entry PyProof.Rows.slot_tuple_getitem ht.typeIs entry_tuple_getitem ?_ (args_tuple_getitem _ _)))
  show wpAny _ _ (Builtin.Tuple.tupleItemsOf (.ref t) >>= _) _ _ s
  refine wpAny_bind (tupleItemsOf_ ht ?_)
  refine wpAny_bind (wpAny_typeOf hTs ?_)
  rw [if_pos (by decide)]
  refine wpAny_bind (sliceApplied_gen hs pl pu ?_)
  have hyes : ((((sIx items.size 0 lo : Nat) : Int) == 0 && (1 : Int) == 1 && (sIx items.size items.size hi - sIx items.size 0 lo) == items.size) = true) := by
    rw [hw.1, hw.2]; simp
  show wpAny _ _ (if (((sIx items.size 0 lo : Nat) : Int) == 0 && (1 : Int) == 1 && (sIx items.size items.size hi - sIx items.size 0 lo) == items.size) = true then _ else _) _ _ s
  rw [if_pos hyes]
  unfold Builtin.Tuple.tupleIsExact
  refine wpAny_bind (wpAny_bind (wpAny_typeOf ht.typeIs (wpAny_pure ?_)))
  rw [if_pos (by decide)]
  refine wpAny_bind (wpAny_rule ?_)
  exact wpAny_pure ⟨_, rfl, wpAny_pure h⟩
theorem pick_rev (xs : List Value) : (List.range xs.length).filterMap (fun (m : Nat) => xs.toArray[(((xs.length : Int) - 1) + (m : Int) * (-1)).toNat]?) = xs.reverse := by
  apply List.ext_getElem?
  intro i
  have e : ∀ k, k < xs.length → (fun (m : Nat) => xs.toArray[(((xs.length : Int) - 1) + (m : Int) * (-1)).toNat]?) k = xs[xs.length - 1 - k]? := fun k hk => by
    have : (((xs.length : Int) - 1) + (k : Int) * (-1)).toNat = xs.length - 1 - k := by omega
    show xs.toArray[_]? = _
    rw [this]; simp
  have gen : ∀ n, n ≤ xs.length → (List.range n).filterMap (fun (m : Nat) => xs.toArray[(((xs.length : Int) - 1) + (m : Int) * (-1)).toNat]?) = (List.range n).map fun m => xs.reverse[m]?.getD .none := by
    intro n
    induction n with
    | zero => intro _; rfl
    | succ n ih =>
      intro hn
      rw [List.range_succ, List.filterMap_append, List.map_append, ih (by omega)]
      congr 1
      have h1 := e n (by omega)
      have h2 : xs.reverse[n]? = xs[xs.length - 1 - n]? := List.getElem?_reverse (by omega)
      have h3 : xs[xs.length - 1 - n]? = some xs[xs.length - 1 - n] := List.getElem?_eq_getElem (by omega)
      have h1' : xs.toArray[(((xs.length : Int) - 1) + (n : Int) * (-1)).toNat]? = xs[xs.length - 1 - n]? := h1
      rw [List.filterMap_cons, h1', h3, List.map_cons, h2, h3]; rfl
  rw [gen _ (Nat.le_refl _)]
  by_cases hi : i < xs.length
  · rw [List.getElem?_map, List.getElem?_range hi]
    have : xs.reverse[i]? = some (xs.reverse[i]'(by simpa using hi)) := List.getElem?_eq_getElem (by simpa using hi)
    show some (xs.reverse[i]?.getD Value.none) = _
    rw [this]; rfl
  · rw [List.getElem?_eq_none (by simpa using Nat.le_of_not_lt hi), List.getElem?_eq_none (by simpa using Nat.le_of_not_lt hi)]
theorem getItem_tuple_rev {t sl : Addr} {items : List Value} {u : Tok} {Q : Value → Shared → Prop} (ht : IsTup s.heap t items.toArray) (hs : s.heap.IsSliceOf sl .none .none (.int (-1) u))
    (h : Q (.ref s.heap.objs.size) { s with heap := s.heap.push { cls := .type "tuple", data := .seq items.reverse.toArray } })
    (hsz : items.length ≤ sizeLine) : wpAny (model prog w) A (getItem (.ref t) (.ref sl)) Q E s := by
  have htake : sizeOk (.seq items.reverse.toArray) := by
    show items.reverse.toArray.size ≤ sizeLine
    rw [List.size_toArray, List.length_reverse]; exact hsz
  obtain ⟨os, hos, hcs, hds⟩ := id hs
  have hTs : s.TypeIs (.ref sl) "slice" := ⟨os, hos, hcs⟩
  unfold getItem
  try with_reducible refine wpAny_holding ?_
  first | refine wpAny_bind (wpAny_pure ?_) | skip
  refine wpAny_bind (wpAny_sequenceKey ht.typeIs (by decide) ?_)
  refine wpAny_bind (wpAny_callSpecial?_slot (name := Str.ofString "__getitem__") ht.typeIs PyProof.Rows.slot_tuple_getitem
    (wpAny_call_entry PyProof.Rows.slot_tuple_getitem ht.typeIs entry_tuple_getitem ?_ (args_tuple_getitem _ _)))
  show wpAny _ _ (Builtin.Tuple.tupleItemsOf (.ref t) >>= _) _ _ s
  refine wpAny_bind (tupleItemsOf_ ht ?_)
  refine wpAny_bind (wpAny_typeOf hTs ?_)
  rw [if_pos (by decide)]
  have ap : ∀ {Q' : Int × Int × Nat → Shared → Prop}, Q' ((items.length : Int) - 1, -1, items.length) s → wpAny (model prog w) A.in1 (Builtin.Slice.sliceApplied (.ref sl) (pure (items.toArray.size : Int))) Q' E s := by
    intro Q' h'
    unfold Builtin.Slice.sliceApplied Builtin.Slice.sliceFields
    refine wpAny_bind (wpAny_bind (wpAny_field hos hds (x := .none) rfl (wpAny_bind (wpAny_field hos hds (x := .none) rfl (wpAny_bind (wpAny_field hos hds (x := .int (-1) u) rfl (wpAny_pure ?_)))))))
    refine wpAny_bind (slicePart_int ?_)
    show wpAny _ _ (if ((-1 : Int) == 0) = true then _ else _) _ _ s
    rw [if_neg (by decide)]
    refine wpAny_bind (slicePart_none (wpAny_bind (slicePart_none (wpAny_bind (wpAny_pure ?_)))))
    show wpAny _ _ (match Builtin.Slice.sliceAdjust none none (-1) (items.toArray.size : Int) with | (lo, hi) => pure (lo, (-1 : Int), Builtin.Slice.slicePlaces lo hi (-1))) _ _ s
    have e1 : Builtin.Slice.sliceAdjust none none (-1) (items.toArray.size : Int) = ((items.length : Int) - 1, -1) := by
      unfold Builtin.Slice.sliceAdjust; simp
    rw [e1]
    show wpAny _ _ (pure ((items.length : Int) - 1, (-1 : Int), Builtin.Slice.slicePlaces ((items.length : Int) - 1) (-1) (-1))) _ _ s
    have e2 : Builtin.Slice.slicePlaces ((items.length : Int) - 1) (-1) (-1) = items.length := by
      unfold Builtin.Slice.slicePlaces
      have h1 : ¬ ((-1 : Int) > 0) := by omega
      simp only [h1, if_false, Int.neg_neg, Int.ediv_one]
      split <;> omega
    rw [e2]
    exact wpAny_pure h'
  refine wpAny_bind (ap ?_)
  have hno : ¬ ((((items.length : Int) - 1) == 0 && (-1 : Int) == 1 && items.length == items.toArray.size) = true) := by
    intro q
    rw [Bool.and_eq_true, Bool.and_eq_true] at q
    exact absurd q.1.2 (by decide)
  show wpAny _ _ (if (((items.length : Int) - 1) == 0 && (-1 : Int) == 1 && items.length == items.toArray.size) = true then _ else _) _ _ s
  rw [if_neg hno, pick_rev]
  first
    | exact wpAny_bind (m := Builtin.Tuple.tupleExact _) (wpAny_newObj_type (wpAny_pure ⟨_, rfl, wpAny_pure h⟩) htake)
    | exact wpAny_bind (m := Builtin.Tuple.tupleExact _) (wpAny_newObj_type (wpAny_bind (wpAny_pure (wpAny_pure ⟨_, rfl, wpAny_pure h⟩))) htake)
    | exact wpAny_bind (wpAny_bind (m := Builtin.Tuple.tupleExact _) (wpAny_newObj_type (wpAny_pure (wpAny_pure ⟨_, rfl, wpAny_pure h⟩)) htake))
    | exact wpAny_bind (wpAny_bind (m := Builtin.Tuple.tupleExact _) (wpAny_newObj_type (wpAny_pure ⟨_, rfl, wpAny_pure h⟩) htake))
end
end HT
namespace L2
open PySem PySem.Spec PyProof.Rows
section
variable {X : Cx}
/-- t[lo:hi] of a tuple, whole or not -/
def rSlG (K : PySem.W.Frag) : V → Option Int → Option Int → Hp → VK → Prop := fun x lo hi H Q => ∃ a xs, x = .ref a ∧ SqT K H a xs ∧ ∀ p H', Same H H' → SqT K H' p (cutV xs lo hi) → Q (.ref p) H'
theorem sl_tupG : SlR X (rSlG X.K) := by
  intro pins s σ H x v vl vu lo hi sl Q I rx hs pl pu h
  obtain ⟨a, xs, rfl, hx, q⟩ := h
  by_cases hw : HT.sIx xs.length 0 lo = 0 ∧ HT.sIx xs.length xs.length hi = xs.length
  · cases rx
    obtain ⟨its, r, ht, hz⟩ := I.tuple hx
    have hlen : its.toArray.size = xs.length := by rw [List.size_toArray]; exact r.length.symm
    refine ⟨"tuple", _, PyProof.Rows.slot_tuple_getitem.lookup, ht.typeIs, ?_⟩
    refine HT.getItem_tuple_whole ht hs pl pu (by rw [hlen]; exact hw) ?_
    refine ⟨.ref a, H, I, rfl, q a H (fun _ _ e => e) ?_⟩
    have : cutV xs lo hi = xs := by unfold cutV; rw [hw.1, hw.2]; simp
    rw [this]; exact hx
  · exact sl_tup pins s σ H (.ref a) v vl vu lo hi sl Q I rx hs pl pu ⟨a, xs, rfl, hx, hw, fun p hp => q p _ (fun c o e => by rw [upd_ne (ne_of_none e hp)]; exact e) (SqT.of upd_same)⟩
/-- t[::-1] of a tuple -/
def tRevT (K : PySem.W.Frag) (te : TE) (ts : TE) : TE := fun σ H Q => te σ H fun x H1 => ts σ H1 fun y H2 => ∃ a xs, x = .ref a ∧ y = .int (-1) ∧ SqT K H2 a xs ∧ ∀ p, H2 p = none → Q (.ref p) (upd H2 p (.tup xs.reverse))
theorem vals_rev {xs : List V} {us : List Value} (r : Vals xs us) : Vals xs.reverse us.reverse := by
  induction r with
  | nil => exact .nil
  | cons h t ih => rw [List.reverse_cons, List.reverse_cons]; exact ih.append (.cons h .nil)
theorem pe_revT {e st : Expr} {te ts : TE} {p2 pos : Pos} (he : PE X e te) (hst : PE X st ts) : PE X (.Subscript e (.Slice none none (some st) p2) pos) (tRevT X.K te ts) := by
  intro pins s σ H Q I h
  refine Subscript_ (thn (he pins s σ H _ I h) fun v s1 ⟨x, H1, I1, r1, q1⟩ => ?_)
  refine wpAny_Slice ?_
  rw [evalPart_none, evalPart_some]
  refine wpAny_pure (wpAny_pure (thn (hst pins s1 σ H1 _ I1 q1) fun vs s2 ⟨y, H2, I2, r2, q2⟩ => ?_))
  obtain ⟨a, xs, rfl, rfl, hx, q⟩ := q2
  cases r1
  obtain ⟨t, rfl⟩ := r2
  have I4 : Inv X pins σ H2 { s2 with heap := s2.heap.push { cls := .type "slice", data := .fields #[.none, .none, .int (-1) t] } } := I2.kept (t' := s2.toks) fun b ob q => Heap.get?_push_of_some _ q
  show wpAny (model X.prog X.w) X.A (subscriptTail e (.Slice none none (some st) p2) (.ref a) (.ref s2.heap.objs.size)) (EP X pins σ Q) X.xe { s2 with heap := s2.heap.push { cls := .type "slice", data := .fields #[.none, .none, .int (-1) t] } }
  obtain ⟨its, r, ht, hz⟩ := I4.tuple hx
  have hlen := r.length
  refine tail_any (ops := [.ref a, .ref s2.heap.objs.size]) ht.typeIs PyProof.Rows.slot_tuple_getitem.lookup ?_ (by with_unfolding_all rfl)
  refine HT.getItem_tuple_rev ht (Heap.IsSliceOf.new ..) ?_ (by omega)
  refine ⟨.ref _, _, I4.laid (t' := s2.toks) (o := .tup xs.reverse) (fun b ob q => Heap.get?_push_of_some _ q) (Nat.le_refl _) ?_, rfl, q _ (I4.hok.fresh (Nat.le_refl _))⟩
  exact ⟨by rw [List.length_reverse]; exact hz, _, vals_rev r, IsTup.new _ _⟩
end
end L2

set_option Elab.async false
set_option linter.all false
set_option maxRecDepth 100000
set_option maxHeartbeats 4000000
namespace Fen
open PySem L2
def top (i : Nat) : Stmt := PySem.Challenge.pw_fenlevel_k07_whole_an_open_ring_or_heigh.main.body.getD i (.Pass ⟨0, 0, 0, 0⟩)
abbrev pStepsFrom : Stmt := top 1
abbrev pTreeFrom : Stmt := top 2
abbrev pTreesOf : Stmt := top 3
abbrev pAcross : Stmt := top 5
abbrev pOpenRing : Stmt := top 6
abbrev sBox : Stmt := top 8
abbrev sTake : Stmt := top 9
abbrev sGreat : Stmt := top 10
abbrev sSame : Stmt := top 11
abbrev sNumbers : Stmt := top 12
abbrev sOther : Stmt := top 13
abbrev sWorld : Stmt := top 14
abbrev sLeft : Stmt := top 15
abbrev sSettled : Stmt := top 16
abbrev sWalk : Stmt := top 17
abbrev sLaw : Stmt := top 18
end Fen

set_option Elab.async false
set_option linter.all false
set_option maxRecDepth 100000
set_option maxHeartbeats 4000000
namespace Fen
open PySem L2
/-- all but b is as it was -/
def Ext (b : Addr) (H H' : Hp) : Prop := ∀ a o, a ≠ b → H a = some o → H' a = some o
theorem Ext.refl (b : Addr) (H : Hp) : Ext b H H := fun _ _ _ h => h
theorem Ext.trans {b : Addr} {H H1 H2 : Hp} (x : Ext b H H1) (y : Ext b H1 H2) : Ext b H H2 := fun a o n h => y a o n (x a o n h)
theorem Ext.upd {b : Addr} {H : Hp} {o : HO} : Ext b H (upd H b o) := fun a _ n h => by rw [upd_ne n]; exact h
theorem Ext.new {b l : Addr} {H : Hp} {o : HO} (h : H l = none) : Ext b H (L2.upd H l o) := fun a _ n e => by rw [upd_ne (ne_of_none e h)]; exact e
theorem Ext.free {b l : Addr} {H H' : Hp} (x : Ext b H H') (hb : l ≠ b) (h : H' l = none) : H l = none := by
  cases e : H l with
  | none => rfl
  | some o => rw [x l o hb e] at h; cases h
/-- the box of a drawn script -/
def boxV (c : Addr) (p r d : Int) : HO := .lst [.ref c, .int p, .int r, .int d]
structure Box (H : Hp) (b c : Addr) (ns : List Int) : Prop where
  ex : ∃ p r d : Int, H b = some (boxV c p r d) ∧ 0 ≤ p ∧ 0 ≤ r ∧ 0 ≤ d ∧ d < 2147483629
  cells : H c = some (.lst (ns.map V.int))
  few : ns.length ≤ 63
theorem Box.ne {H : Hp} {b c : Addr} {ns : List Int} (x : Box H b c ns) : b ≠ c := fun z => by
  obtain ⟨p, r, d, e, _⟩ := x.ex
  have q := x.cells
  rw [← z, e] at q
  have q' : ([V.ref c, .int p, .int r, .int d] : List V) = ns.map V.int := by injection q with q; injection q
  cases ns with
  | nil => cases q'
  | cons n r => simp at q'
theorem Box.put {H : Hp} {b c : Addr} {ns : List Int} (x : Box H b c ns) {p r d : Int} (hp : 0 ≤ p) (hr : 0 ≤ r) (h0 : 0 ≤ d) (h1 : d < 2147483629) : Box (upd H b (boxV c p r d)) b c ns :=
  ⟨⟨p, r, d, upd_same, hp, hr, h0, h1⟩, by rw [upd_ne x.ne.symm]; exact x.cells, x.few⟩

def spBox (K : PySem.W.Frag) : Sp := fun vs H Q _ => ∃ (a : Addr) (ns : List Int), vs = [.ref a] ∧ SqL K H a (ns.map V.int) ∧ ns.length ≤ 63 ∧ ∀ b c H', H b = none → Box H' b c ns → Same H H' → Q (.ref b) H'
def spTake : Sp := fun vs H Q _ => ∃ (b c : Addr) (ns : List Int) (m : Int), vs = [.ref b, .int m] ∧ Box H b c ns ∧ 0 < m ∧ m < 2 ^ 64 ∧ ∀ (x : Int) H', 0 ≤ x → x < m → Box H' b c ns → Ext b H H' → Q (.int x) H'
structure Txt (K : PySem.W.Frag) (mg : Str → Option Value) : Prop where
  list : mg "list" = none
  len : mg "len" = none
  range : mg "range" = none
section
variable {P : Program} {w : World} {K : PySem.W.Frag} {mg : Str → Option Value} {base : Heap}
theorem scBox : FnScope ["_law_script"] ["_law_script"] (defScope sBox) := ⟨rfl, rfl, rfl, by decide +kernel, rfl, by decide +kernel, by decide +kernel⟩
theorem cut63 {ns : List Int} (h : ns.length ≤ 63) : cutV (ns.map V.int) none (some 63) = ns.map V.int := by
  unfold cutV
  have e : HT.sIx (ns.map V.int).length (ns.map V.int).length (some 63) = ns.length := by
    rw [show (63 : Int) = ((63 : Nat) : Int) from rfl, HT.sIx_nat, List.length_map]; omega
  rw [e, HT.sIx_none, List.drop_zero, Nat.sub_zero]
  exact List.take_of_length_le (by simp)
theorem ok_box {f : Addr} {fd : FuncData} (F : Fun K "_law_box" "_law_box" sBox f fd) (T : Txt K mg) : FnOk P w K mg base CX0 1 f fd ["_law_script"] (spBox K) := by
  refine F.ok scBox (fun vs H Q E h => ?_) (fun cdv A outer s H vs Q E hr h => ?_)
  · obtain ⟨a, ns, rfl, _⟩ := h
    rfl
  · obtain ⟨a, ns, rfl, hS, hl, k⟩ := h
    refine ⟨_, pss_one (ps_ret (pe_lst (pa_cons (pe_callTy call_list_of rfl T.list PyProof.Rows.boot_list (pa_cons (pe_slice sl_list (pv 0) po_none (po_some pe_int)) pa_nil)) (pa_cons pe_int (pa_cons pe_int (pa_cons pe_int pa_nil)))))), ?_⟩
    refine ⟨_, rfl, _, rfl, a, _, rfl, hS, fun p hp => ?_⟩
    rw [cut63 hl]
    refine ⟨p, _, rfl, .inl (SqL.of upd_same), fun c hc => ⟨by show 4 ≤ sizeLine; decide, fun b hb => ?_⟩⟩
    have hcp : c ≠ p := fun z => by rw [z, upd_same] at hc; cases hc
    have hbc : b ≠ c := fun z => by rw [z, upd_same] at hb; cases hb
    have hb1 : upd H p (.lst (ns.map V.int)) b = none := by rw [upd_ne hbc] at hb; exact hb
    have hbp : b ≠ p := fun z => by rw [z, upd_same] at hb1; cases hb1
    have hc0 : H c = none := by rw [upd_ne hcp] at hc; exact hc
    have hb0 : H b = none := by rw [upd_ne hbp] at hb1; exact hb1
    refine k b c _ hb0 ⟨⟨0, 0, 17, upd_same, by decide, by decide, by decide, by decide⟩, by rw [upd_ne hbc.symm, upd_same], hl⟩ fun x o e => ?_
    rw [upd_ne (ne_of_none e hb0), upd_ne (ne_of_none e hc0), upd_ne (ne_of_none e hp)]
    exact e
theorem scTake : FnScope ["_law_box_here", "_law_many", "_law_rest", "_law_cell", "_law_seed"] ["_law_box_here", "_law_many"] (defScope sTake) := ⟨rfl, rfl, rfl, by decide +kernel, rfl, by decide +kernel, by decide +kernel⟩
theorem ok_take {f : Addr} {fd : FuncData} (F : Fun K "_law_take" "_law_take" sTake f fd) (T : Txt K mg) : FnOk P w K mg base CX0 1 f fd ["_law_box_here", "_law_many"] spTake := by
  refine F.ok scTake (fun vs H Q E h => ?_) (fun cdv A outer s H vs Q E hr h => ?_)
  · obtain ⟨b, c, ns, m, rfl, _⟩ := h
    rfl
  · obtain ⟨b, c, ns, m, rfl, B, m0, m1, k⟩ := h
    refine ⟨_, pss_cons (ps_if (pt_cmpR op_gt (pe_ix ix_list (pv 0) pe_int (fun _ _ => rfl)) pe_int (nomark _))
        (pss_cons (ps_set (i := 2) scTake.nd rfl (Or.inl rfl) (pe_ix ix_list (pv 0) pe_int (fun _ _ => rfl)))
        (pss_cons (ps_asg (pe_op op_fdivW (pv 2) (pv 1)) (pg_sub (pv 0) pe_int set_list))
        (pss_one (ps_ret (pe_op op_mod (pv 2) (pv 1)))))) pss_nil)
      (pss_cons (ps_set (i := 3) scTake.nd rfl (Or.inl rfl) pe_int)
      (pss_cons (ps_if (pt_cmpR op_lt (pe_ix ix_list (pv 0) pe_int (fun _ _ => rfl)) (pe_callB call_len_seq rfl T.len PySem.boot_len (pa_cons (pe_ix ix_list (pv 0) pe_int (fun _ _ => rfl)) pa_nil)) (nomark _))
        (pss_cons (ps_set (i := 3) scTake.nd rfl (Or.inl rfl) (pe_ix ix_list (pe_ix ix_list (pv 0) pe_int (fun _ _ => rfl)) (pe_ix ix_list (pv 0) pe_int (fun _ _ => rfl)) (fun _ _ => rfl)))
        (pss_one (ps_augS (pv 0) pe_int get_list pe_int ip_add set_list))) pss_nil)
      (pss_cons (ps_if (pt_cmpR op_ge (pv 3) (pe_op op_pow pe_int pe_int) (nomark _))
        (pss_cons (ps_asg (pe_op op_fdivW (pv 3) (pv 1)) (pg_sub (pv 0) pe_int set_list))
        (pss_one (ps_ret (pe_op op_mod (pv 3) (pv 1))))) pss_nil)
      (pss_cons (ps_set (i := 4) scTake.nd rfl (Or.inl rfl) (pe_ix ix_list (pv 0) pe_int (fun _ _ => rfl)))
      (pss_cons (ps_set (i := 4) scTake.nd rfl (Or.inl rfl) (pe_op op_add (pe_op op_add (pe_op op_pow (pv 4) pe_int) (pe_op op_mul pe_int (pv 4))) (pe_op op_mul pe_int (pe_op op_mod (pv 3) pe_int))))
      (pss_cons (ps_asg (pe_op op_mod (pe_op op_add (pv 4) pe_int) pe_int) (pg_sub (pv 0) pe_int set_list))
      (pss_one (ps_ret (pe_op op_mod (pe_op op_fdiv (pe_ix ix_list (pv 0) pe_int (fun _ _ => rfl)) pe_int) (pv 1)))))))))), ?_⟩
    obtain ⟨p, r, d, e, hp0, hr0, hd0, hd1⟩ := B.ex
    refine ⟨_, rfl, b, _, _, .int r, rfl, rfl, SqL.of e, rfl, _, _, rfl, rfl, _, rfl, ?_⟩
    refine ite2 (fun h0 => ?_) (fun h0 => ?_)
    · refine ⟨_, rfl, b, _, _, .int r, rfl, rfl, SqL.of e, rfl, ?_⟩
      refine ⟨_, rfl, _, rfl, _, _, rfl, rfl, ⟨m0, m1⟩, _, rfl, b, _, _, 2, rfl, rfl, e, rfl, ?_⟩
      refine ⟨_, rfl, _, rfl, _, _, rfl, rfl, m0, ?_⟩
      exact k _ _ (Int.emod_nonneg _ (by omega)) (Int.emod_lt_of_pos _ m0) (B.put hp0 (Int.ediv_nonneg hr0 (by omega)) hd0 hd1) Ext.upd
    refine ⟨_, rfl, b, _, _, .int p, rfl, rfl, SqL.of e, rfl, _, rfl, b, _, _, .ref c, rfl, rfl, SqL.of e, rfl, c, _, rfl, .inl (SqL.of B.cells), _, _, rfl, rfl, _, rfl, ?_⟩
    refine ite2 (fun h1 => ?_) (fun h1 => ?_)
    · have hlt := of_decide_eq_true h1
      rw [List.length_map] at hlt
      obtain ⟨z, hz⟩ : ∃ z, ns[p.toNat]? = some z := ⟨_, List.getElem?_eq_getElem (by omega)⟩
      have hat : atI (ns.map V.int) p = some (.int z) := by
        have q := atI_nat (xs := ns.map V.int) (j := p.toNat) (v := .int z) (by rw [List.getElem?_map, hz]; rfl)
        rwa [Int.toNat_of_nonneg hp0] at q
      refine ⟨_, rfl, b, _, _, .ref c, rfl, rfl, SqL.of e, rfl, _, rfl, b, _, _, .int p, rfl, rfl, SqL.of e, rfl, c, _, _, .int z, rfl, rfl, SqL.of B.cells, hat, ?_⟩
      refine ⟨_, rfl, b, _, 1, .int p, rfl, rfl, SqL.of e, rfl, _, _, rfl, rfl, b, _, _, 1, rfl, rfl, e, rfl, ?_⟩
      have e1 : upd H b (boxV c (p + 1) r d) b = some (boxV c (p + 1) r d) := upd_same
      have hp1 : 0 ≤ p + 1 := by omega
      have B1 := B.put hp1 hr0 hd0 hd1
      have X1 : Ext b H (upd H b (boxV c (p + 1) r d)) := Ext.upd
      refine ⟨_, rfl, _, _, rfl, rfl, ⟨by decide, by decide, by decide⟩, _, _, rfl, rfl, _, rfl, ?_⟩
      refine ite2 (fun h2 => ?_) (fun h2 => ?_)
      · refine ⟨_, rfl, _, rfl, _, _, rfl, rfl, ⟨m0, m1⟩, _, rfl, b, _, _, 2, rfl, rfl, e1, rfl, _, rfl, _, rfl, _, _, rfl, rfl, m0, ?_⟩
        have hz0 : (0 : Int) ≤ z := by
          have := of_decide_eq_true h2
          exact Int.le_trans (by decide) this
        exact k _ _ (Int.emod_nonneg _ (by omega)) (Int.emod_lt_of_pos _ m0) (B1.put hp1 (Int.ediv_nonneg hz0 (by omega)) hd0 hd1) (X1.trans Ext.upd)
      · refine ⟨_, rfl, b, _, _, .int d, rfl, rfl, SqL.of e1, rfl, ?_⟩
        refine ⟨_, rfl, _, _, rfl, rfl, ⟨by decide, by decide, by omega⟩, _, rfl, _, _, rfl, rfl, .inl ⟨by decide, by decide⟩, _, _, rfl, rfl, _, rfl, _, _, rfl, rfl, (by show (0 : Int) < 2147483629; decide), _, _, rfl, rfl, .inl ⟨by decide, by decide⟩, _, _, rfl, rfl, ?_⟩
        refine ⟨_, rfl, _, _, rfl, rfl, _, _, rfl, rfl, (by show (0 : Int) < 2147483629; decide), _, rfl, b, _, _, 3, rfl, rfl, e1, rfl, ?_⟩
        refine ⟨_, rfl, b, _, _, _, rfl, rfl, SqL.of upd_same, rfl, _, _, rfl, rfl, ⟨by decide, by decide⟩, _, rfl, _, _, rfl, rfl, m0, ?_⟩
        exact k _ _ (Int.emod_nonneg _ (by omega)) (Int.emod_lt_of_pos _ m0) (B1.put hp1 hr0 (Int.emod_nonneg _ (by decide)) (Int.emod_lt_of_pos _ (by decide))) (X1.trans Ext.upd)
    · have e1 := e
      have hp1 := hp0
      have B1 := B
      have X1 : Ext b H H := Ext.refl _ _
      refine ⟨_, rfl, _, _, rfl, rfl, ⟨by decide, by decide, by decide⟩, _, _, rfl, rfl, _, rfl, ?_⟩
      refine ite2 (fun h2 => ?_) (fun h2 => ?_)
      · refine ⟨_, rfl, _, rfl, _, _, rfl, rfl, ⟨m0, m1⟩, _, rfl, b, _, _, 2, rfl, rfl, e1, rfl, _, rfl, _, rfl, _, _, rfl, rfl, m0, ?_⟩
        have hz0 : (0 : Int) ≤ 0 := Int.le_refl _
        exact k _ _ (Int.emod_nonneg _ (by omega)) (Int.emod_lt_of_pos _ m0) (B1.put hp1 (Int.ediv_nonneg hz0 (by omega)) hd0 hd1) (X1.trans Ext.upd)
      · refine ⟨_, rfl, b, _, _, .int d, rfl, rfl, SqL.of e1, rfl, ?_⟩
        refine ⟨_, rfl, _, _, rfl, rfl, ⟨by decide, by decide, by omega⟩, _, rfl, _, _, rfl, rfl, .inl ⟨by decide, by decide⟩, _, _, rfl, rfl, _, rfl, _, _, rfl, rfl, (by show (0 : Int) < 2147483629; decide), _, _, rfl, rfl, .inl ⟨by decide, by decide⟩, _, _, rfl, rfl, ?_⟩
        refine ⟨_, rfl, _, _, rfl, rfl, _, _, rfl, rfl, (by show (0 : Int) < 2147483629; decide), _, rfl, b, _, _, 3, rfl, rfl, e1, rfl, ?_⟩
        refine ⟨_, rfl, b, _, _, _, rfl, rfl, SqL.of upd_same, rfl, _, _, rfl, rfl, ⟨by decide, by decide⟩, _, rfl, _, _, rfl, rfl, m0, ?_⟩
        exact k _ _ (Int.emod_nonneg _ (by omega)) (Int.emod_lt_of_pos _ m0) (B1.put hp1 hr0 (Int.emod_nonneg _ (by decide)) (Int.emod_lt_of_pos _ (by decide))) (X1.trans Ext.upd)
end
end Fen

set_option Elab.async false
set_option linter.all false
set_option maxRecDepth 100000
set_option maxHeartbeats 4000000
namespace Fen
open PySem L2
/-- a def of the text that is called by its name -/
structure Cal (P : Program) (w : World) (K : PySem.W.Frag) (mg : Str → Option Value) (base : Heap) (x : Str) (k : Nat) (ps : List Str) (sp : Sp) : Prop where
  ex : ∃ f fd, FnOk P w K mg base CX0 k f fd ps sp ∧ mg x = some (.ref f) ∧ PySem.W.keepIn K (.ref f) = true ∧ Binds K fd ps []
theorem pe_cal {X : Cx} {x : Str} {k : Nat} {ps : List Str} {sp : Sp} {e : Expr} {es : List Expr} {t : TA} {p pos : Pos} (C : Cal X.prog X.w X.K X.mg X.base x k ps sp) (hr : Room k X.A) (hg : Gl X x) (ha : PA X (e :: es) t)
    (hdb : (x == ("__debug__" : Str)) = false := by decide) (he : starEach (e :: es) X.env = (false, eval e X.env) :: starEach es X.env := by rfl) (hpl : (backTo pos (starEach es X.env)).any (·.1) = false := by rfl) :
    PE X (.Call (.Name x p) (e :: es) [] pos) (tCall sp [] E0 t) := by
  obtain ⟨f, fd, F, hm, hk, hb⟩ := C.ex
  exact pe_call F hr hg hm hk hb .nil pass0 ha hdb he hpl
theorem Cal.of {P : Program} {w : World} {K : PySem.W.Frag} {mg : Str → Option Value} {base : Heap} {x qual : Str} {k : Nat} {ps : List Str} {sp : Sp} {st : Stmt} {f : Addr} {fd : FuncData} (F : Fun K x qual st f fd) (G : FnOk P w K mg base CX0 k f fd ps sp) (hm : mg x = some (.ref f)) (hb : Binds K fd ps []) : Cal P w K mg base x k ps sp :=
  ⟨f, fd, G, hm, F.kp, hb⟩

def spGreat : Sp := fun vs H Q _ => ∃ (b c : Addr) (ns : List Int), vs = [.ref b] ∧ Box H b c ns ∧ ∀ (x : Int) H', 0 ≤ x → Box H' b c ns → Ext b H H' → Q (.int x) H'
def spOther : Sp := fun vs H Q _ => ∃ (b c : Addr) (ns : List Int) (z : Int), vs = [.ref b, .int z] ∧ Box H b c ns ∧ ∀ (x : Int) H', Box H' b c ns → Ext b H H' → Q (.int x) H'
theorem Box.new {H : Hp} {b c l : Addr} {ns : List Int} {o : HO} (x : Box H b c ns) (h : H l = none) : Box (upd H l o) b c ns := by
  obtain ⟨p, r, d, e, q⟩ := x.ex
  exact ⟨⟨p, r, d, by rw [upd_ne (ne_of_none e h)]; exact e, q⟩, by rw [upd_ne (ne_of_none x.cells h)]; exact x.cells, x.few⟩
theorem Box.neb {H : Hp} {b c l : Addr} {ns : List Int} (x : Box H b c ns) (h : H l = none) : l ≠ b := by
  obtain ⟨p, r, d, e, q⟩ := x.ex
  exact (ne_of_none e h).symm
theorem atI_ints {zs : List Int} {i : Int} (h0 : 0 ≤ i) (h1 : i < zs.length) : atI (zs.map V.int) i = some (.int (zs.getD i.toNat 0)) := by
  have hn : i.toNat < zs.length := by omega
  have q := atI_nat (xs := zs.map V.int) (j := i.toNat) (v := .int (zs.getD i.toNat 0)) (by rw [List.getElem?_map, List.getElem?_eq_getElem hn]; simp [List.getD, List.getElem?_eq_getElem hn])
  rwa [Int.toNat_of_nonneg h0] at q
section
variable {P : Program} {w : World} {K : PySem.W.Frag} {mg : Str → Option Value} {base : Heap}
theorem scGreat : FnScope ["_law_box_here", "_law_ways", "_law_found", "_law_k"] ["_law_box_here"] (defScope sGreat) := ⟨rfl, rfl, rfl, by decide +kernel, rfl, by decide +kernel, by decide +kernel⟩
theorem ok_great {f : Addr} {fd : FuncData} (F : Fun K "_law_great" "_law_great" sGreat f fd) (T : Txt K mg) (cT : Cal P w K mg base "_law_take" 1 ["_law_box_here", "_law_many"] spTake) : FnOk P w K mg base CX0 2 f fd ["_law_box_here"] spGreat := by
  refine F.ok scGreat (fun vs H Q E h => ?_) (fun cdv A outer s H vs Q E hr h => ?_)
  · obtain ⟨b, c, ns, rfl, _⟩ := h
    rfl
  · obtain ⟨b, c, ns, rfl, B, k⟩ := h
    refine ⟨_, pss_cons (ps_set (i := 1) scGreat.nd rfl (Or.inl rfl) (pe_cal cT hr rfl (pa_cons (pv 0) (pa_cons pe_int pa_nil))))
      (pss_cons (ps_if (pt_cmpR op_eq (pv 1) pe_int (nomark _)) (pss_one (ps_ret (pe_cal cT hr rfl (pa_cons (pv 0) (pa_cons pe_int pa_nil))))) pss_nil)
      (pss_cons (ps_if (pt_cmpR op_eq (pv 1) pe_int (nomark _)) (pss_one (ps_ret (pe_cal cT hr rfl (pa_cons (pv 0) (pa_cons pe_int pa_nil))))) pss_nil)
      (pss_cons (ps_set (i := 2) scGreat.nd rfl (Or.inl rfl) pe_int)
      (pss_cons (ps_for PassesOwn.never rfl (pi_range1 rfl T.range (pa_cons pe_int pa_nil)) (pg_name (i := 3) scGreat.nd rfl (Or.inl rfl))
        (pss_one (ps_set (i := 2) scGreat.nd rfl (Or.inl rfl) (pe_op op_add (pe_op op_mul (pv 2) pe_int) (pe_cal cT hr rfl (pa_cons (pv 0) (pa_cons pe_int pa_nil)))))))
      (pss_one (ps_ret (pv 2))))))), ?_⟩
    refine ⟨_, rfl, b, c, ns, 4, rfl, B, by decide, by decide, fun x H1 x0 x1 B1 X1 => ?_⟩
    refine ⟨_, rfl, rfl, _, rfl, ?_⟩
    refine ite2 (fun _ => ?_) (fun _ => ?_)
    · exact ⟨_, rfl, b, c, ns, 10, rfl, B1, by decide, by decide, fun y H2 y0 y1 B2 X2 => k y H2 y0 B2 (X1.trans X2)⟩
    refine ⟨_, rfl, rfl, _, rfl, ?_⟩
    refine ite2 (fun _ => ?_) (fun _ => ?_)
    · exact ⟨_, rfl, b, c, ns, 1000000, rfl, B1, by decide, by decide, fun y H2 y0 y1 B2 X2 => k y H2 y0 B2 (X1.trans X2)⟩
    refine ⟨3, rfl, by decide, by decide, for_range (n := 3) (fun i σ H2 => ∃ (z : Int) (kv : Option V), σ = [some (.ref b), some (.int x), some (.int z), kv] ∧ 0 ≤ z ∧ Box H2 b c ns ∧ Ext b H H2) ⟨0, none, rfl, Int.le_refl _, B1, X1⟩ ?_ ?_⟩
    · rintro i σ H2 hi ⟨z, kv, rfl, z0, B2, X2⟩
      refine ⟨_, rfl, _, _, rfl, rfl, .inr ⟨by decide, by decide⟩, _, rfl, b, c, ns, 1000000, rfl, B2, by decide, by decide, fun y H3 y0 y1 B3 X3 => ?_⟩
      refine ⟨_, _, rfl, rfl, z * 1000000 + y, _, rfl, by omega, B3, X2.trans X3⟩
    · rintro σ H2 ⟨z, kv, rfl, z0, B2, X2⟩
      exact ⟨_, rfl, k z H2 z0 B2 X2⟩
theorem scOther : FnScope ["_law_box_here", "_law_rise"] ["_law_box_here", "_law_rise"] (defScope sOther) := ⟨rfl, rfl, rfl, by decide +kernel, rfl, by decide +kernel, by decide +kernel⟩
theorem ok_other {f : Addr} {fd : FuncData} (F : Fun K "_law_other_rise" "_law_other_rise" sOther f fd) (T : Txt K mg) (cT : Cal P w K mg base "_law_take" 1 ["_law_box_here", "_law_many"] spTake)
    (cG : Cal P w K mg base "_law_great" 2 ["_law_box_here"] spGreat) : FnOk P w K mg base CX0 3 f fd ["_law_box_here", "_law_rise"] spOther := by
  refine F.ok scOther (fun vs H Q E h => ?_) (fun cdv A outer s H vs Q E hr h => ?_)
  · obtain ⟨b, c, ns, z, rfl, _⟩ := h
    rfl
  · obtain ⟨b, c, ns, z, rfl, B, k⟩ := h
    have hr1 : Room 1 _ := hr.mono (by decide)
    refine ⟨_, pss_one (ps_ret (pe_op op_add (pv 1) (pe_ix ix_list (pe_lst (pa_cons pe_int (pa_cons (pe_un un_neg pe_int) (pa_cons (pe_op op_add pe_int (pe_cal cT hr1 rfl (pa_cons (pv 0) (pa_cons pe_int pa_nil))))
      (pa_cons (pe_cal cG hr rfl (pa_cons (pv 0) pa_nil)) (pa_cons (pe_un un_neg (pe_cal cG hr rfl (pa_cons (pv 0) pa_nil))) pa_nil)))))) (pe_cal cT hr1 rfl (pa_cons (pv 0) (pa_cons pe_int pa_nil))) (fun _ _ => rfl)))), ?_⟩
    refine ⟨_, rfl, 1, rfl, _, rfl, b, c, ns, 5, rfl, B, by decide, by decide, fun x1 H1 _ _ B1 X1 => ⟨_, _, rfl, rfl, _, rfl, b, c, ns, rfl, B1, fun x2 H2 _ B2 X2 => ⟨_, rfl, b, c, ns, rfl, B2, fun x3 H3 _ B3 X3 => ⟨_, rfl, by show 5 ≤ sizeLine; decide, fun l hl => ?_⟩⟩⟩⟩
    refine ⟨_, rfl, b, c, ns, 5, rfl, B3.new hl, by decide, by decide, fun x4 H4 h0 h1 B4 X4 => ?_⟩
    refine ⟨l, _, _, _, rfl, rfl, SqL.of (X4 l _ (B3.neb hl) upd_same), atI_ints (zs := [1, -1, 1 + x1, x2, -x3]) h0 h1, _, _, rfl, rfl, ?_⟩
    exact k _ H4 B4 (((X1.trans X2).trans X3).trans ((Ext.new hl).trans X4))
end
end Fen

set_option Elab.async false
set_option linter.all false
set_option maxRecDepth 100000
set_option maxHeartbeats 4000000
namespace Fen
open PySem L2
/-- a run as it lies: its tuple's address and what it holds -/
structure Run where
  p : Addr
  one : Int
  other : Int
  rise : Int
  hand : Int
def runV (r : Run) : V := .ref r.p
def runT (r : Run) : List V := [.int r.one, .int r.other, .int r.rise, .int r.hand]
def Runs (H : Hp) (rs : List Run) : Prop := ∀ r ∈ rs, H r.p = some (.tup (runT r))
theorem Runs.same {H H' : Hp} {rs : List Run} (x : Runs H rs) (e : Same H H') : Runs H' rs := fun r hr => e _ _ (x r hr)
theorem Runs.new {H : Hp} {rs : List Run} {l : Addr} {o : HO} (x : Runs H rs) (h : H l = none) : Runs (upd H l o) rs := fun r hr => by rw [upd_ne (ne_of_none (x r hr) h)]; exact x r hr
theorem Runs.at_ {H : Hp} {rs : List Run} (x : Runs H rs) {i : Nat} {v : V} (h : (rs.map runV)[i]? = some v) : ∃ r, rs[i]? = some r ∧ v = .ref r.p ∧ H r.p = some (.tup (runT r)) := by
  rw [List.getElem?_map] at h
  cases e : rs[i]? with
  | none => rw [e] at h; cases h
  | some r =>
    rw [e] at h
    exact ⟨r, rfl, (Option.some.inj h).symm, x r (List.mem_of_getElem? e)⟩
theorem same_new {H : Hp} {l : Addr} {o : HO} (h : H l = none) : Same H (upd H l o) := fun a _ e => by rw [upd_ne (ne_of_none e h)]; exact e
theorem sq_new {K : PySem.W.Frag} {H : Hp} {l a : Addr} {o : HO} {xs : List V} (h : H l = none) (q : SqL K H a xs) : SqL K (upd H l o) a xs := (same_new h).seq q
theorem take_map {α β : Type} (f : α → β) {xs : List α} {i : Nat} {x : α} (h : xs[i]? = some x) : (xs.take (i + 1)).map f = (xs.take i).map f ++ [f x] := by
  rw [List.take_add_one, h, List.map_append]; rfl
theorem take_filter {α : Type} (p : α → Bool) {xs : List α} {i : Nat} {x : α} (h : xs[i]? = some x) : (xs.take (i + 1)).filter p = (xs.take i).filter p ++ if p x then [x] else [] := by
  rw [List.take_add_one, h, List.filter_append]
  cases e : p x <;> simp [e]
theorem inV_ints (x : Int) (hs : List Int) : inV (.int x) (hs.map V.int) = hs.contains x := by
  unfold inV
  rw [List.any_map]
  induction hs with
  | nil => rfl
  | cons y r ih =>
    rw [List.any_cons, List.contains_cons, ih]
    congr 1
    show eqV (.int y) (.int x) = (x == y)
    show decide (y = x) = (x == y)
    by_cases e : y = x
    · subst e; simp
    · have : ¬ x = y := fun z => e z.symm
      simp [e, this]
theorem flat_ints (hs : List Int) : (hs.map V.int).all flatV = true := by
  rw [List.all_map, List.all_eq_true]; intro x _; rfl

theorem noif {σ : St} {H : Hp} {A B : Hp → Prop} (h : A H) : tNoIf σ H (fun b H4 => if b = true then A H4 else B H4) := by
  show (if (true : Bool) = true then A H else B H)
  rw [if_pos rfl]
  exact h
/-! ### what is left -/
def spLeft (K : PySem.W.Frag) : Sp := fun vs H Q _ => ∃ (a b : Addr) (rs : List Run) (hs : List Int), vs = [.ref a, .ref b] ∧ SqL K H a (rs.map runV) ∧ Runs H rs ∧ SqL K H b (hs.map V.int) ∧ rs.length ≤ 1000 ∧
  ∀ l, H l = none → Q (.ref l) (upd H l (.lst ((rs.filter fun r => !hs.contains r.hand).map runV)))
/-! ### runs that hold -/
def holdB (hts : List Int) (r : Run) : Bool := decide (hts.getD r.other.toNat 0 - hts.getD r.one.toNat 0 = r.rise)
def InMarks (n : Nat) (rs : List Run) : Prop := ∀ r ∈ rs, 0 ≤ r.one ∧ r.one < n ∧ 0 ≤ r.other ∧ r.other < n
theorem dec_intV (a b : Int) : decide (V.int a = V.int b) = decide (a = b) := by
  by_cases e : a = b
  · subst e; simp
  · have : ¬ V.int a = V.int b := fun z => e (V.int.inj z)
    rw [decide_eq_false e, decide_eq_false this]
structure Txt2 (mg : Str → Option Value) : Prop where
  all : mg "all" = none
  isinstance : mg "isinstance" = none
  tuple : mg "tuple" = none
  bool : mg "bool" = none
  int : mg "int" = none
  str : mg "str" = none
  sorted : mg "sorted" = none
  set : mg "set" = none
end Fen

set_option Elab.async false
set_option linter.all false
set_option maxRecDepth 100000
set_option maxHeartbeats 4000000
namespace Fen
open PySem L2
section
variable {P : Program} {w : World} {K : PySem.W.Frag} {mg : Str → Option Value} {base : Heap}
theorem scLeft : FnScope ["_law_runs", "_law_struck"] ["_law_runs", "_law_struck"] (defScope sLeft) := ⟨rfl, rfl, rfl, by decide +kernel, rfl, by decide +kernel, by decide +kernel⟩
theorem ndLeft : (["_law_run", "_law_struck"] : List Str).Nodup := by decide +kernel
theorem ok_left {f : Addr} {fd : FuncData} (F : Fun K "_law_left" "_law_left" sLeft f fd) : FnOk P w K mg base CX0 1 f fd ["_law_runs", "_law_struck"] (spLeft K) := by
  refine F.ok scLeft (fun vs H Q E h => ?_) (fun cdv A outer s H vs Q E hr h => ?_)
  · obtain ⟨a, b, rs, hs, rfl, _⟩ := h
    rfl
  · obtain ⟨a, b, rs, hs, rfl, ha, R, hb, hz, k⟩ := h
    refine ⟨_, pss_one (ps_ret (pe_lcomp rfl (CompScope.of (N := ["_law_runs", "_law_struck"]) (osc := defScope sLeft) (Nc := ["_law_run", "_law_struck"]) (sub := [none, some 1]) (by decide +kernel)) (pi_list (pv 0))
      (fun _ _ _ _ _ => pg_name (i := 0) ndLeft rfl (Or.inl rfl) (Or.inr rfl)) (gk_name rfl) gm_name
      (fun _ _ _ _ _ => pif1 (pt_cmpR (r := rIn K true) op_notIn_seq (pe_ix (r := rIxT K) ix_tup (pv 0) pe_int (fun _ _ => rfl)) (pv 1) (by with_unfolding_all rfl))) (fun _ _ _ _ _ => pv 0))), ?_⟩
    refine ⟨_, rfl, a, rfl, ⟨_, ha⟩, fun l hl => ?_⟩
    refine comp_list (ys := rs.map runV) (fun i xs H2 => H2 = upd H l (.lst xs) ∧ xs = ((rs.take i).filter fun r => !hs.contains r.hand).map runV ∧ i ≤ rs.length) ⟨rfl, rfl, Nat.zero_le _⟩ ?_ ?_ ?_
    · rintro i xs H2 hi ⟨rfl, hx, _⟩
      exact ⟨sq_new hl ha, upd_same⟩
    · rintro i x xs H2 hx ⟨rfl, hxs, hi⟩
      obtain ⟨r, hr, rfl, ht⟩ := R.at_ hx
      have htt : upd H l (.lst xs) r.p = some (.tup (runT r)) := by rw [upd_ne (ne_of_none ht hl)]; exact ht
      have hil : i < rs.length := (List.getElem?_eq_some_iff.mp hr).1
      refine ⟨_, rfl, r.p, _, _, .int r.hand, rfl, rfl, SqT.of htt, rfl, _, rfl, b, _, rfl, .inl (sq_new hl hb), rfl, flat_ints hs, _, rfl, ?_⟩
      rw [if_pos rfl, inV_ints]
      cases hc : hs.contains r.hand with
      | true =>
        refine iteF ⟨rfl, ?_, by omega⟩
        rw [take_filter _ hr, hc]
        simp [hxs]
      | false =>
        refine iteT ⟨_, rfl, upd_same, ?_, ?_, ?_, by omega⟩
        · rw [hxs, List.length_map, sizeLine_eq]
          have := List.length_filter_le (fun r : Run => !hs.contains r.hand) (rs.take i)
          rw [List.length_take] at this
          omega
        · rw [upd_upd]
        · rw [take_filter _ hr, hc, List.map_append, ← hxs]
          rfl
    · rintro xs H2 ⟨rfl, hxs, _⟩
      rw [List.length_map, List.take_length] at hxs
      rw [hxs]
      exact k l hl
end
end Fen

set_option Elab.async false
set_option linter.all false
set_option maxRecDepth 100000
set_option maxHeartbeats 4000000
namespace Fen
open PySem L2
theorem Box.set {H : Hp} {b c l : Addr} {ns : List Int} {o : HO} (x : Box H b c ns) (h1 : l ≠ b) (h2 : l ≠ c) : Box (upd H l o) b c ns := by
  obtain ⟨p, r, d, e, q⟩ := x.ex
  exact ⟨⟨p, r, d, by rw [upd_ne h1.symm]; exact e, q⟩, by rw [upd_ne h2.symm]; exact x.cells, x.few⟩
theorem Ext.set {b l : Addr} {H H' : Hp} {o : HO} (x : Ext b H H') (h : H l = none) : Ext b H (L2.upd H' l o) := fun a u n e => by rw [upd_ne (ne_of_none e h)]; exact x a u n e
/-- a list of drawn ints grows at l -/
structure CI (H1 : Hp) (b c l : Addr) (ns : List Int) (zs : List Int) (H2 : Hp) : Prop where
  at_ : H2 l = some (.lst (zs.map V.int))
  box : Box H2 b c ns
  ext : Ext b H1 H2
theorem CI.start {H1 : Hp} {b c l : Addr} {ns : List Int} (B : Box H1 b c ns) (hl : H1 l = none) : CI H1 b c l ns [] (upd H1 l (.lst [])) := ⟨upd_same, B.new hl, (Ext.refl _ _).set hl⟩
theorem CI.step {H1 H2 H3 : Hp} {b c l : Addr} {ns zs : List Int} {z : Int} (hl : H1 l = none) (x : CI H1 b c l ns zs H2) (B1 : Box H1 b c ns) (B : Box H3 b c ns) (E : Ext b H2 H3) : CI H1 b c l ns (zs ++ [z]) (upd H3 l (.lst (zs.map V.int ++ [.int z]))) :=
  ⟨by rw [upd_same, List.map_append]; rfl, B.set (B1.neb hl) (ne_of_none B1.cells hl).symm, (x.ext.trans E).set hl⟩
theorem CI.kept {H1 H2 H3 : Hp} {b c l : Addr} {ns zs : List Int} (hl : H1 l = none) (x : CI H1 b c l ns zs H2) (B1 : Box H1 b c ns) (E : Ext b H2 H3) : H3 l = some (.lst (zs.map V.int)) := E l _ (B1.neb hl) x.at_
structure World (b c : Addr) (ns : List Int) (mm mr : Int) (H : Hp) (size : Int) (pr ph pf : Addr) (rs : List Run) (hts fs : List Int) : Prop where
  box : Box H b c ns
  lr : H pr = some (.lst (rs.map runV))
  runs : Runs H rs
  lh : H ph = some (.lst (hts.map V.int))
  lf : H pf = some (.lst (fs.map V.int))
  nr : pr ≠ b
  nh : ph ≠ b
  nf : pf ≠ b
  sz : (hts.length : Int) = size
  s1 : 1 ≤ size
  s2 : size ≤ mm
  marks : InMarks hts.length rs
  unlike : ∀ r ∈ rs, r.one ≠ r.other
  hands : ∀ r ∈ rs, 0 ≤ r.hand ∧ r.hand < 10
  many : (rs.length : Int) ≤ mr
  up : fs.Pairwise (· < ·)
  fhands : ∀ h ∈ fs, 0 ≤ h ∧ h < 10
def spWorld : Sp := fun vs H Q _ => ∃ (b c : Addr) (ns : List Int) (mm mh mr : Int), vs = [.ref b, .int mm, .int mh, .int mr] ∧ Box H b c ns ∧ 0 < mm ∧ mm < 1000 ∧ 0 < mh ∧ mh ≤ 10 ∧ 0 ≤ mr ∧ mr < 1000 ∧
  ∀ t size pr ph pf rs hts fs H', World b c ns mm mr H' size pr ph pf rs hts fs → Ext b H H' → H' t = some (.tup [.int size, .ref pr, .ref ph, .ref pf]) → t ≠ b → Q (.ref t) H'
end Fen

set_option Elab.async false
set_option linter.all false
set_option maxRecDepth 100000
set_option maxHeartbeats 4000000
namespace Fen
open PySem L2
theorem gnoif {i : Nat} {v : V} {σ : St} {H : Hp} {A B : St → Hp → Prop} (h : A (σ.set i (some v)) H) : gName i v σ H (fun σ2 H3 => tNoIf σ2 H3 fun b H4 => if b = true then A σ2 H4 else B σ2 H4) := by
  show (if (true : Bool) = true then A (List.set σ i (some v)) H else B (List.set σ i (some v)) H)
  rw [if_pos rfl]
  exact h
/-- the runs' list grows -/
structure WL (H1 : Hp) (b c pr : Addr) (ns : List Int) (n : Nat) (rs : List Run) (H2 : Hp) : Prop where
  at_ : H2 pr = some (.lst (rs.map runV))
  runs : Runs H2 rs
  box : Box H2 b c ns
  ext : Ext b H1 H2
  marks : InMarks n rs
  unlike : ∀ r ∈ rs, r.one ≠ r.other
  hands : ∀ r ∈ rs, 0 ≤ r.hand ∧ r.hand < 10
theorem Box.tne {H : Hp} {b c t : Addr} {ns : List Int} {xs : List V} (x : Box H b c ns) (h : H t = some (.tup xs)) : t ≠ b := fun z => by
  obtain ⟨p, r, d, e, q⟩ := x.ex
  rw [z, e] at h
  cases h
theorem WL.mono {H1 H2 H3 : Hp} {b c pr : Addr} {ns : List Int} {n : Nat} {rs : List Run} (x : WL H1 b c pr ns n rs H2) (hp : pr ≠ b) (E : Ext b H2 H3) (B : Box H3 b c ns) : WL H1 b c pr ns n rs H3 :=
  ⟨E _ _ hp x.at_, fun r hr => E _ _ (x.box.tne (x.runs r hr)) (x.runs r hr), B, x.ext.trans E, x.marks, x.unlike, x.hands⟩
theorem WL.push {H1 H2 : Hp} {b c pr t : Addr} {ns : List Int} {n : Nat} {rs : List Run} {o1 o2 o3 o4 : Int} (x : WL H1 b c pr ns n rs H2) (B1 : Box H1 b c ns) (hp : H1 pr = none) (ht : H2 t = none)
    (h1 : 0 ≤ o1 ∧ o1 < n ∧ 0 ≤ o2 ∧ o2 < n) (h2 : o1 ≠ o2) (h3 : 0 ≤ o4 ∧ o4 < 10) :
    WL H1 b c pr ns n (rs ++ [⟨t, o1, o2, o3, o4⟩]) (upd (upd H2 t (.tup [.int o1, .int o2, .int o3, .int o4])) pr (.lst (rs.map runV ++ [.ref t]))) := by
  have hb : pr ≠ b := B1.neb hp
  have hc : pr ≠ c := (ne_of_none B1.cells hp).symm
  have hpt : pr ≠ t := ne_of_none x.at_ ht
  have htt : (upd (upd H2 t (.tup [.int o1, .int o2, .int o3, .int o4])) pr (.lst (rs.map runV ++ [.ref t]))) t = some (.tup [.int o1, .int o2, .int o3, .int o4]) := by rw [upd_ne hpt.symm, upd_same]
  refine ⟨by rw [upd_same, List.map_append]; rfl, fun r hr => ?_, (x.box.new ht).set hb hc, ?_, fun r hr => ?_, fun r hr => ?_, fun r hr => ?_⟩
  · rcases List.mem_append.mp hr with h | h
    · have e := x.runs r h
      have n1 : r.p ≠ pr := fun z => by rw [z, x.at_] at e; cases e
      rw [upd_ne n1, upd_ne (ne_of_none e ht)]
      exact e
    · rw [List.mem_singleton.mp h]; exact htt
  · exact (x.ext.trans (Ext.new ht)).set hp
  · rcases List.mem_append.mp hr with h | h
    · exact x.marks r h
    · rw [List.mem_singleton.mp h]; exact h1
  · rcases List.mem_append.mp hr with h | h
    · exact x.unlike r h
    · rw [List.mem_singleton.mp h]; exact h2
  · rcases List.mem_append.mp hr with h | h
    · exact x.hands r h
    · rw [List.mem_singleton.mp h]; exact h3
abbrev Nw : List Str := ["_law_box_here", "_law_most_marks", "_law_most_hands", "_law_most_runs", "_law_size", "_law_hands", "_law_wide", "_law_k", "_law_heights", "_law_names", "_law_false", "_law_bad", "_law_runs", "_law_one", "_law_other", "_law_hand", "_law_rise"]
abbrev Pw : List Str := ["_law_box_here", "_law_most_marks", "_law_most_hands", "_law_most_runs"]
theorem getD_mem10 {zs : List Int} (h : ∀ z ∈ zs, 0 ≤ z ∧ z < 10) {i : Int} (h0 : 0 ≤ i) (h1 : i < zs.length) : 0 ≤ zs.getD i.toNat 0 ∧ zs.getD i.toNat 0 < 10 := by
  have hn : i.toNat < zs.length := by omega
  have e : zs.getD i.toNat 0 = zs[i.toNat] := by simp [List.getD, List.getElem?_eq_getElem hn]
  rw [e]
  exact h _ (List.getElem_mem hn)
theorem other_ok {s y1 y2 : Int} (h1 : 0 ≤ y1) (h2 : y1 < s) (h3 : 0 ≤ y2) (h4 : y2 < s - 1) : 0 ≤ (y1 + 1 + y2) % s ∧ (y1 + 1 + y2) % s < s ∧ y1 ≠ (y1 + 1 + y2) % s := by
  refine ⟨Int.emod_nonneg _ (by omega), Int.emod_lt_of_pos _ (by omega), ?_⟩
  by_cases h : y1 + 1 + y2 < s
  · rw [Int.emod_eq_of_lt (by omega) h]; omega
  · rw [show y1 + 1 + y2 = (y1 + 1 + y2 - s) + s by omega, Int.add_emod_right, Int.emod_eq_of_lt (by omega) (by omega)]; omega
section
variable {P : Program} {w : PySem.World} {K : PySem.W.Frag} {mg : Str → Option Value} {base : Heap}
theorem scWorld : FnScope Nw Pw (defScope sWorld) := ⟨rfl, rfl, rfl, by decide +kernel, rfl, by decide +kernel, by decide +kernel⟩
theorem ndW1 : (["_law_k", "_law_box_here", "_law_wide"] : List Str).Nodup := by decide +kernel
theorem ndW2 : (["_law_k", "_law_box_here"] : List Str).Nodup := by decide +kernel
theorem ndW3 : (["_law_k", "_law_box_here", "_law_hands", "_law_names"] : List Str).Nodup := by decide +kernel
theorem ok_world {f : Addr} {fd : FuncData} (F : Fun K "_law_world" "_law_world" sWorld f fd) (T : Txt K mg) (T2 : Txt2 mg) (cT : Cal P w K mg base "_law_take" 1 ["_law_box_here", "_law_many"] spTake)
    (cO : Cal P w K mg base "_law_other_rise" 3 ["_law_box_here", "_law_rise"] spOther) : FnOk P w K mg base CX0 4 f fd Pw spWorld := by
  refine F.ok scWorld (fun vs H Q E h => ?_) (fun cdv A outer s H vs Q E hr h => ?_)
  · obtain ⟨b, c, ns, mm, mh, mr, rfl, _⟩ := h
    rfl
  · obtain ⟨b, c, ns, mm, mh, mr, rfl, B, mm0, mm1, mh0, mh1, mr0, mr1, k⟩ := h
    have hr1 : Room 1 _ := hr.mono (by decide)
    have nd := scWorld.nd
    refine ⟨_, pss_cons (ps_set (i := 4) nd rfl (Or.inl rfl) (pe_op op_add pe_int (pe_cal cT hr1 rfl (pa_cons (pv 0) (pa_cons (pv 1) pa_nil)))))
      (pss_cons (ps_set (i := 5) nd rfl (Or.inr rfl) (pe_op op_add pe_int (pe_cal cT hr1 rfl (pa_cons (pv 0) (pa_cons (pv 2) pa_nil)))))
      (pss_cons (ps_set (i := 6) nd rfl (Or.inr rfl) (pe_ix ix_list (pe_lst (pa_cons pe_int (pa_cons pe_int (pa_cons (pe_op op_pow pe_int pe_int) pa_nil)))) (pe_cal cT hr1 rfl (pa_cons (pv 0) (pa_cons pe_int pa_nil))) (fun _ _ => rfl)))
      (pss_cons (ps_setL (i := 8) rfl nd rfl rfl (CompScope.of (N := Nw) (osc := defScope sWorld) (Nc := ["_law_k", "_law_box_here", "_law_wide"]) (sub := [none, some 0, some 6]) (by decide +kernel)) (pi_range1 rfl T.range (pa_cons (pv 4) pa_nil))
        (fun _ _ _ _ _ => pg_name (i := 0) ndW1 rfl (Or.inl rfl) (Or.inr rfl)) (gk_name rfl) gm_name (fun _ _ _ _ _ => pif0) (fun _ _ _ _ _ => pe_cal cT hr1 rfl (pa_cons (pv 1) (pa_cons (pv 2) pa_nil))))
      (pss_cons (ps_set (i := 9) nd rfl (Or.inr rfl) (pe_lcomp rfl (CompScope.of (N := Nw) (osc := defScope sWorld) (Nc := ["_law_k", "_law_box_here"]) (sub := [none, some 0]) (by decide +kernel)) (pi_range1 rfl T.range (pa_cons (pv 5) pa_nil))
        (fun _ _ _ _ _ => pg_name (i := 0) ndW2 rfl (Or.inl rfl) (Or.inr rfl)) (gk_name rfl) gm_name (fun _ _ _ _ _ => pif0)
        (fun _ _ _ _ _ => pe_ifExp (pt_cmpR op_eq (pe_cal cT hr1 rfl (pa_cons (pv 1) (pa_cons pe_int pa_nil))) pe_int (nomark _)) (pe_op op_mod (pe_op op_mul pe_int (pv 0)) pe_int) (pv 0))))
      (pss_cons (ps_set (i := 10) nd rfl (Or.inl rfl) (pe_callB (call_sorted_set rfl) rfl T2.sorted PyProof.Rows.boot_sorted (pa_cons (pe_callTy (call_set_of rfl) rfl T2.set PyProof.Rows.boot_set (pa_cons
        (pe_lcomp rfl (CompScope.of (N := Nw) (osc := defScope sWorld) (Nc := ["_law_k", "_law_box_here", "_law_hands", "_law_names"]) (sub := [none, some 0, some 5, some 9]) (by decide +kernel)) (pi_range1 rfl T.range (pa_cons (pe_cal cT hr1 rfl (pa_cons (pv 0) (pa_cons pe_int pa_nil))) pa_nil))
        (fun _ _ _ _ _ => pg_name (i := 0) ndW3 rfl (Or.inl rfl) (Or.inr rfl)) (gk_name rfl) gm_name (fun _ _ _ _ _ => pif0)
        (fun _ _ _ _ _ => pe_ix (r := rIxL K) ix_list (pv 3) (pe_cal cT hr1 rfl (pa_cons (pv 1) (pa_cons (pv 2) pa_nil))) (fun _ _ => rfl))) pa_nil)) pa_nil)))
      (pss_cons (ps_set (i := 11) nd rfl (Or.inl rfl) (pe_op op_add pe_int (pe_cal cT hr1 rfl (pa_cons (pv 0) (pa_cons pe_int pa_nil)))))
      (pss_cons (ps_set (i := 12) nd rfl (Or.inl rfl) (pe_lst pa_nil))
      (pss_cons (ps_for PassesOwn.never rfl (pi_range1 rfl T.range (pa_cons (pe_op op_mul (pe_cal cT hr1 rfl (pa_cons (pv 0) (pa_cons (pe_op op_add (pv 3) pe_int) pa_nil))) (pe_callTy call_int1 rfl T2.int PyProof.Rows.boot_int (pa_cons (pe_cmpR op_gt (pv 4) pe_int (nomark _)) pa_nil))) pa_nil)) (pg_name (i := 7) nd rfl (Or.inl rfl))
        (pss_cons (ps_set (i := 13) nd rfl (Or.inl rfl) (pe_cal cT hr1 rfl (pa_cons (pv 0) (pa_cons (pv 4) pa_nil))))
        (pss_cons (ps_set (i := 14) nd rfl (Or.inl rfl) (pe_op op_mod (pe_op op_add (pe_op op_add (pv 13) pe_int) (pe_cal cT hr1 rfl (pa_cons (pv 0) (pa_cons (pe_op op_sub (pv 4) pe_int) pa_nil)))) (pv 4)))
        (pss_cons (ps_set (i := 15) nd rfl (Or.inl rfl) (pe_ix ix_list (pv 9) (pe_cal cT hr1 rfl (pa_cons (pv 0) (pa_cons (pv 5) pa_nil))) (fun _ _ => rfl)))
        (pss_cons (ps_set (i := 16) nd rfl (Or.inl rfl) (pe_op op_sub (pe_ix ix_list (pv 8) (pv 14) (fun _ _ => rfl)) (pe_ix ix_list (pv 8) (pv 13) (fun _ _ => rfl))))
        (pss_cons (ps_if (PW.pt (pw_and (pt_cmpR op_in_seq (pv 15) (pv 10) (by with_unfolding_all rfl)) (pw_and1 (pt_cmpR op_lt (pe_cal cT hr1 rfl (pa_cons (pv 0) (pa_cons pe_int pa_nil))) (pv 11) (nomark _)))))
          (pss_one (ps_set (i := 16) nd rfl (Or.inl rfl) (pe_cal cO hr rfl (pa_cons (pv 0) (pa_cons (pv 16) pa_nil))))) pss_nil)
        (pss_one (ps_expr (pe_bm PySem.F.plainAttrs_list PySem.F.slot_list_append PySem.F.type_list_append mt_append (pv 12) (pa_cons (pe_tup (pa_cons (pv 13) (pa_cons (pv 14) (pa_cons (pv 16) (pa_cons (pv 15) pa_nil))))) pa_nil))))))))))
      (pss_one (ps_ret (pe_tup (pa_cons (pv 4) (pa_cons (pv 12) (pa_cons (pv 8) (pa_cons (pv 10) pa_nil))))))))))))))), ?_⟩
    refine ⟨_, rfl, _, rfl, b, c, ns, mm, rfl, B, mm0, by omega, fun x1 H1 p1 q1 B1 X1 => ⟨_, _, rfl, rfl, ?_⟩⟩
    refine ⟨_, rfl, _, rfl, b, c, ns, mh, rfl, B1, mh0, by omega, fun x2 H2 p2 q2 B2 X2 => ⟨_, _, rfl, rfl, ?_⟩⟩
    refine ⟨_, _, rfl, rfl, ⟨by decide, by decide, by decide⟩, by show 3 ≤ sizeLine; decide, fun l0 hl0 => ?_⟩
    refine ⟨_, rfl, b, c, ns, 3, rfl, B2.new hl0, by decide, by decide, fun x3 H3 p3 q3 B3 X3 => ?_⟩
    refine ⟨l0, _, _, _, rfl, rfl, SqL.of (X3 l0 _ (B2.neb hl0) upd_same), atI_ints (zs := [4, 1000, 10 ^ 12]) p3 q3, ?_⟩
    have hw : 0 < ([4, 1000, 10 ^ 12] : List Int).getD x3.toNat 0 ∧ ([4, 1000, 10 ^ 12] : List Int).getD x3.toNat 0 < 2 ^ 64 := by
      have : x3 = 0 ∨ x3 = 1 ∨ x3 = 2 := by omega
      rcases this with e | e | e <;> subst e <;> exact ⟨by decide, by decide⟩
    generalize hww : ([4, 1000, 10 ^ 12] : List Int).getD x3.toNat 0 = wide at hw
    have E3 : Ext b H H3 := (X1.trans X2).trans ((Ext.new hl0).trans X3)
    clear X3 X2 X1
    refine ⟨_, rfl, _, rfl, by omega, by omega, fun ph hph => ?_⟩
    refine comp_range (Pv := fun i xs H2 => ∃ zs : List Int, xs = zs.map V.int ∧ zs.length = i ∧ CI H3 b c ph ns zs H2) ⟨[], rfl, rfl, CI.start B3 hph⟩ (fun i xs H _ ⟨zs, e, _, C⟩ => by rw [e]; exact C.at_) ?_ ?_
    · rintro i xs H4 hi ⟨zs, rfl, hz, C⟩
      refine gnoif ?_
      refine ⟨_, rfl, _, rfl, b, c, ns, wide, rfl, C.box, hw.1, hw.2, fun z H5 z0 z1 B5 X5 => ⟨C.kept hph B3 X5, ?_, zs ++ [z], by rw [List.map_append]; rfl, by rw [List.length_append, hz]; rfl, C.step hph B3 B5 X5⟩⟩
      rw [List.length_map, sizeLine_eq]; omega
    · rintro xs4 H4 ⟨hts, rfl, hz4, C4⟩
      have E4 : Ext b H H4 := E3.trans C4.ext
      have B4 := C4.box
      have hph4 := C4.at_
      have nph : ph ≠ b := B3.neb hph
      clear C4
      refine ⟨_, rfl, _, rfl, by omega, by omega, fun pn hpn => ?_⟩
      refine comp_range (Pv := fun i xs H2 => ∃ zs : List Int, xs = zs.map V.int ∧ zs.length = i ∧ (∀ z ∈ zs, 0 ≤ z ∧ z < 10) ∧ CI H4 b c pn ns zs H2) ⟨[], rfl, rfl, (by intro z hz; cases hz), CI.start B4 hpn⟩ (fun i xs H _ ⟨zs, e, _, _, C⟩ => by rw [e]; exact C.at_) ?_ ?_
      · rintro i xs H5 hi ⟨zs, rfl, hz, hm, C⟩
        refine gnoif ?_
        refine ⟨_, rfl, b, c, ns, 9, rfl, C.box, by decide, by decide, fun z H6 z0 z1 B6 X6 => ⟨rfl, _, rfl, ?_⟩⟩
        have fin : ∀ z : Int, 0 ≤ z → z < 10 → ∃ zs' : List Int, (zs.map V.int ++ [V.int z]) = zs'.map V.int ∧ zs'.length = i + 1 ∧ (∀ z ∈ zs', 0 ≤ z ∧ z < 10) ∧ CI H4 b c pn ns zs' (upd H6 pn (.lst (zs.map V.int ++ [.int z]))) := fun z z0 z1 =>
          ⟨zs ++ [z], by rw [List.map_append]; rfl, by rw [List.length_append, hz]; rfl, fun y hy => by
            rcases List.mem_append.mp hy with h | h
            · exact hm y h
            · rw [List.mem_singleton.mp h]; exact ⟨z0, z1⟩, C.step hpn B4 B6 X6⟩
        have hlen : (zs.map V.int).length < sizeLine := by rw [List.length_map, sizeLine_eq]; omega
        refine ite2 (fun _ => ?_) (fun _ => ?_)
        · exact ⟨_, rfl, _, _, rfl, rfl, .inl ⟨by decide, by decide⟩, _, _, rfl, rfl, (by show (0 : Int) < 10; decide), C.kept hpn B4 X6, hlen, fin _ (Int.emod_nonneg _ (by decide)) (Int.emod_lt_of_pos _ (by decide))⟩
        · exact ⟨_, rfl, C.kept hpn B4 X6, hlen, fin _ (by omega) (by omega)⟩
      · rintro xs5 H5 ⟨nms, rfl, hz5, hm5, C5⟩
        have E5 : Ext b H H5 := E4.trans C5.ext
        have hph5 := C5.ext _ _ nph hph4
        have B5 := C5.box
        have hpn5 := C5.at_
        have npn : pn ≠ b := B4.neb hpn
        clear C5
        refine ⟨_, rfl, b, c, ns, 4, rfl, B5, by decide, by decide, fun x6 H6 p6 q6 B6 X6 => ⟨_, rfl, by omega, by omega, fun l6 hl6 => ?_⟩⟩
        have hpn6 := X6 _ _ npn hpn5
        refine comp_range (Pv := fun i xs H2 => ∃ zs : List Int, xs = zs.map V.int ∧ zs.length = i ∧ (∀ z ∈ zs, 0 ≤ z ∧ z < 10) ∧ CI H6 b c l6 ns zs H2) ⟨[], rfl, rfl, (by intro z hz; cases hz), CI.start B6 hl6⟩ (fun i xs H _ ⟨zs, e, _, _, C⟩ => by rw [e]; exact C.at_) ?_ ?_
        · rintro i xs H7 hi ⟨zs, rfl, hz, hm, C⟩
          refine gnoif ?_
          refine ⟨_, rfl, _, rfl, _, rfl, b, c, ns, _, rfl, C.box, by omega, by omega, fun z H8 z0 z1 B8 X8 => ?_⟩
          have hzl : z < nms.length := by omega
          have hb10 := getD_mem10 hm5 z0 hzl
          refine ⟨pn, _, _, _, rfl, rfl, SqL.of (X8 _ _ npn (C.ext _ _ npn hpn6)), atI_ints z0 hzl, C.kept hl6 B6 X8, ?_, ?_⟩
          · rw [List.length_map, sizeLine_eq]; omega
          · exact ⟨zs ++ [_], by rw [List.map_append]; rfl, by rw [List.length_append, hz]; rfl, fun y hy => by
              rcases List.mem_append.mp hy with h | h
              · exact hm y h
              · rw [List.mem_singleton.mp h]; exact hb10, C.step hl6 B6 B8 X8⟩
        · rintro xs7 H7 ⟨fss, rfl, hz7, hm7, C7⟩
          refine ⟨l6, fss, rfl, SqL.of C7.at_, ?_, fun l7 hl7 => ?_⟩
          · have : (100 : Nat) < scanBound := by decide +kernel
            omega
          refine ⟨l7, fss, rfl, upd_same, by omega, fun pf fs hpf up hmem => ?_⟩
          have hl7n : H7 l7 = none := hl7
          have hl6' : ∀ a o, H6 a = some o → a ≠ l6 := fun a o e => ne_of_none e hl6
          have nl7 : ∀ a o, H7 a = some o → a ≠ l7 := fun a o e => ne_of_none e hl7n
          have hpf7 : ∀ a o, H7 a = some o → a ≠ pf := fun a o e => ne_of_none (o := o) (H := upd H7 l7 (SetO w l7 fss)) (by rw [upd_ne (nl7 a o e)]; exact e) hpf
          have B7 := C7.box
          have E7 : Ext b H H7 := (E5.trans X6).trans C7.ext
          have hph7 := C7.ext _ _ nph (X6 _ _ nph hph5)
          have hpn7 := C7.ext _ _ npn hpn6
          have hb7 : ∃ o, H7 b = some o := let ⟨p, r, d, e, _⟩ := B7.ex; ⟨_, e⟩
          have npf : pf ≠ b := let ⟨o, e⟩ := hb7; (hpf7 b o e).symm
          have B8 : Box (upd (upd H7 l7 (SetO w l7 fss)) pf (.lst (fs.map V.int))) b c ns := (B7.new hl7n).new hpf
          have E8 : Ext b H (upd (upd H7 l7 (SetO w l7 fss)) pf (.lst (fs.map V.int))) := (E7.trans (Ext.new hl7n)).trans (Ext.new hpf)
          have hph8 : (upd (upd H7 l7 (SetO w l7 fss)) pf (.lst (fs.map V.int))) ph = some (.lst (hts.map V.int)) := by rw [upd_ne (hpf7 _ _ hph7), upd_ne (nl7 _ _ hph7)]; exact hph7
          have hpn8 : (upd (upd H7 l7 (SetO w l7 fss)) pf (.lst (fs.map V.int))) pn = some (.lst (nms.map V.int)) := by rw [upd_ne (hpf7 _ _ hpn7), upd_ne (nl7 _ _ hpn7)]; exact hpn7
          refine ⟨_, rfl, b, c, ns, 3, rfl, B8, by decide, by decide, fun x9 H9 p9 q9 B9 X9 => ⟨_, _, rfl, rfl, ?_⟩⟩
          have hph9 := X9 _ _ nph hph8
          have hpn9 := X9 _ _ npn hpn8
          have hpf9 := X9 pf (.lst (fs.map V.int)) npf upd_same
          have E9 := E8.trans X9
          clear X9 hph8 hpn8 E8 B8 hpf7 nl7
          refine ⟨by show 0 ≤ sizeLine; exact Nat.zero_le _, fun pr hpr => ?_⟩
          refine ⟨_, rfl, _, rfl, _, _, rfl, rfl, b, c, ns, mr + 1, rfl, B9.new hpr, by omega, by omega, fun xa Ha pa qa Ba Xa => ?_⟩
          refine ⟨_, rfl, _, _, rfl, rfl, .inr ⟨_, rfl, _, _, rfl, rfl, .inl ⟨by omega, by omega⟩, ?_⟩⟩
          have npr : pr ≠ b := B9.neb hpr
          have W0 : WL H9 b c pr ns hts.length [] Ha := ⟨Xa _ _ npr upd_same, (fun r h => by cases h), Ba, (Ext.new hpr).trans Xa, (fun r h => by cases h), (fun r h => by cases h), (fun r h => by cases h)⟩
          obtain ⟨J, hJ⟩ : ∃ J : Int, J = xa * (if (decide ((1 + x1) > 1)) = true then 1 else 0) := ⟨_, rfl⟩
          have hJ1 : 0 ≤ J ∧ J ≤ xa ∧ (0 < J → 1 ≤ x1) := by
            rw [hJ]
            by_cases h : (1 + x1) > 1
            · rw [if_pos (decide_eq_true h)]; omega
            · rw [if_neg (by rw [decide_eq_false h]; decide)]; omega
          refine ⟨J, by rw [hJ], by omega, by omega, ?_⟩
          clear hJ Xa hpn6 hl6' hl6 C7 E7 E5 E4 E3 hww hpn hph hph4 hph5 hph7 hpn7 hpn5
          refine for_range (n := J.toNat) (fun i σ H2 => ∃ (kv o13 o14 o15 o16 : Option V) (rs : List Run), σ = [some (.ref b), some (.int mm), some (.int mh), some (.int mr), some (.int (1 + x1)), some (.int (1 + x2)), some (.int wide), kv, some (.ref ph), some (.ref pn), some (.ref pf), some (.int (1 + x9)), some (.ref pr), o13, o14, o15, o16] ∧ rs.length = i ∧ WL H9 b c pr ns hts.length rs H2)
            ⟨none, none, none, none, none, [], rfl, rfl, W0⟩ ?_ ?_
          · rintro i σ Hb hi ⟨kv, o13, o14, o15, o16, rs, rfl, hrs, W⟩
            have hx1 : 1 ≤ x1 := hJ1.2.2 (by omega)
            refine ⟨_, rfl, _, rfl, b, c, ns, 1 + x1, rfl, W.box, by omega, by omega, fun y1 Hc u1 v1 Bc Xc => ?_⟩
            have W1 := W.mono npr Xc Bc
            clear W Xc Bc
            refine ⟨_, rfl, _, _, rfl, rfl, _, rfl, _, rfl, _, _, rfl, rfl, b, c, ns, 1 + x1 - 1, rfl, W1.box, by omega, by omega, fun y2 Hd u2 v2 Bd Xd => ⟨_, _, rfl, rfl, _, rfl, _, _, rfl, rfl, (by show (0 : Int) < 1 + x1; omega), ?_⟩⟩
            have W2 := W1.mono npr Xd Bd
            clear W1 Xd Bd
            have ho := other_ok (s := 1 + x1) u1 v1 u2 (by omega)
            refine ⟨_, rfl, _, rfl, _, rfl, b, c, ns, 1 + x2, rfl, W2.box, by omega, by omega, fun y3 He u3 v3 Be Xe => ?_⟩
            have W3 := W2.mono npr Xe Be
            clear W2 Xe Be
            have hy3 : y3 < nms.length := by omega
            have hhand := getD_mem10 hm5 u3 hy3
            refine ⟨pn, _, _, _, rfl, rfl, SqL.of (W3.ext _ _ npn hpn9), atI_ints u3 hy3, ?_⟩
            have hph_e := W3.ext _ _ nph hph9
            refine ⟨_, rfl, _, rfl, ph, _, _, _, rfl, rfl, SqL.of hph_e, atI_ints ho.1 (by omega), _, rfl, _, rfl, ph, _, _, _, rfl, rfl, SqL.of hph_e, atI_ints u1 (by omega), _, _, rfl, rfl, ?_⟩
            refine ⟨_, rfl, _, rfl, pf, _, rfl, .inl (SqL.of (W3.ext _ _ npf hpf9)), rfl, flat_ints fs, _, rfl, ?_⟩
            have hm1 : 0 ≤ y1 ∧ y1 < (hts.length : Int) ∧ 0 ≤ (y1 + 1 + y2) % (1 + x1) ∧ (y1 + 1 + y2) % (1 + x1) < (hts.length : Int) := ⟨u1, by omega, ho.1, by omega⟩
            have hlen : (rs.map runV).length < sizeLine := by rw [List.length_map, sizeLine_eq]; omega
            refine ite2 (fun _ => ?_) (fun _ => ?_)
            · refine ⟨_, rfl, b, c, ns, 3, rfl, W3.box, by decide, by decide, fun y4 Hf u4 v4 Bf Xf => ?_⟩
              have W4 := W3.mono npr Xf Bf
              refine ⟨_, rfl, _, _, rfl, rfl, _, rfl, ?_⟩
              refine ite2 (fun _ => ?_) (fun _ => ?_)
              · refine ⟨_, rfl, _, rfl, b, c, ns, _, rfl, W4.box, fun z Hg Bg Xg => ?_⟩
                have W5 := W4.mono npr Xg Bg
                exact ⟨_, rfl, .inl ⟨rfl, _, SqL.of W5.at_⟩, _, rfl, _, rfl, _, rfl, _, rfl, by show 4 ≤ sizeLine; decide, fun t ht => ⟨pr, _, _, rfl, rfl, by rw [upd_ne (ne_of_none W5.at_ ht)]; exact W5.at_, hlen, _, _, _, _, _, _, rfl, by rw [List.length_append, hrs]; rfl, W5.push B9 hpr ht hm1 ho.2.2 hhand⟩⟩
              · skip
                exact ⟨_, rfl, .inl ⟨rfl, _, SqL.of W4.at_⟩, _, rfl, _, rfl, _, rfl, _, rfl, by show 4 ≤ sizeLine; decide, fun t ht => ⟨pr, _, _, rfl, rfl, by rw [upd_ne (ne_of_none W4.at_ ht)]; exact W4.at_, hlen, _, _, _, _, _, _, rfl, by rw [List.length_append, hrs]; rfl, W4.push B9 hpr ht hm1 ho.2.2 hhand⟩⟩
            · refine iteF ?_
              exact ⟨_, rfl, .inl ⟨rfl, _, SqL.of W3.at_⟩, _, rfl, _, rfl, _, rfl, _, rfl, by show 4 ≤ sizeLine; decide, fun t ht => ⟨pr, _, _, rfl, rfl, by rw [upd_ne (ne_of_none W3.at_ ht)]; exact W3.at_, hlen, _, _, _, _, _, _, rfl, by rw [List.length_append, hrs]; rfl, W3.push B9 hpr ht hm1 ho.2.2 hhand⟩⟩
          · rintro σ Hb ⟨kv, o13, o14, o15, o16, rs, rfl, hrs, W⟩
            refine ⟨_, rfl, _, rfl, _, rfl, _, rfl, by show 4 ≤ sizeLine; decide, fun t ht => ?_⟩
            have hx : ∀ {a o}, a ≠ b → H9 a = some o → upd Hb t (.tup [.int (1 + x1), .ref pr, .ref ph, .ref pf]) a = some o := fun {a o} n e => by
              have e2 := W.ext _ _ n e
              rw [upd_ne (ne_of_none e2 ht)]; exact e2
            refine k t (1 + x1) pr ph pf rs hts fs _ ⟨W.box.new ht, by rw [upd_ne (ne_of_none W.at_ ht)]; exact W.at_, W.runs.new ht, hx nph hph9, hx npf hpf9, npr, nph, npf, by omega, by omega, by omega, W.marks, W.unlike, W.hands, by omega, up, fun h hh => hm7 h ((hmem h).mp hh)⟩ ((E9.trans W.ext).trans (Ext.new ht)) upd_same (W.box.neb ht)
end
end Fen

set_option Elab.async false
set_option linter.all false
set_option maxRecDepth 100000
set_option maxHeartbeats 4000000
namespace L2
open PySem PySem.Spec PyProof.Rows
/-- a word between two statements -/
def tMid (t : TS) : TS := fun D σ H => ∃ M : St → Hp → Prop, t { D with nx := M } σ H ∧ ∀ σ' H', M σ' H' → D.nx σ' H'
theorem ps_mid {X : Cx} {st : Stmt} {t : TS} (h : PS X st t) : PS X st (tMid t) := by
  intro pins s σ H D I hw
  obtain ⟨M, h1, h2⟩ := hw
  refine thn (h pins s σ H _ I h1) fun f s' q => ?_
  cases f with
  | next => obtain ⟨σ', H', I', q'⟩ := q; exact ⟨σ', H', I', h2 _ _ q'⟩
  | brk => exact q
  | cont => exact q
  | ret u => exact q
end L2
namespace Fen
open PySem L2
theorem World.mono {b c : Addr} {ns : List Int} {mm mr : Int} {H H' : Hp} {size : Int} {pr ph pf : Addr} {rs : List Run} {hts fs : List Int} (x : World b c ns mm mr H size pr ph pf rs hts fs) (E : Ext b H H') (B : Box H' b c ns) : World b c ns mm mr H' size pr ph pf rs hts fs :=
  { box := B, lr := E _ _ x.nr x.lr, runs := fun r hr => E _ _ (x.box.tne (x.runs r hr)) (x.runs r hr), lh := E _ _ x.nh x.lh, lf := E _ _ x.nf x.lf, nr := x.nr, nh := x.nh, nf := x.nf, sz := x.sz, s1 := x.s1, s2 := x.s2, marks := x.marks, unlike := x.unlike, hands := x.hands, many := x.many, up := x.up, fhands := x.fhands }
theorem Runs.ext {b c : Addr} {ns : List Int} {H H' : Hp} {rs : List Run} (x : Runs H rs) (B : Box H b c ns) (E : Ext b H H') : Runs H' rs := fun r hr => E _ _ (B.tne (x r hr)) (x r hr)
theorem ok_runs (rs : List Run) : (rs.map runV).all okV = true := by rw [List.all_map, List.all_eq_true]; intro x _; rfl
theorem ok_ints (zs : List Int) : (zs.map V.int).all okV = true := by rw [List.all_map, List.all_eq_true]; intro x _; rfl
theorem ints_at {zs : List Int} {i : Nat} {x : V} (h : (zs.map V.int)[i]? = some x) : ∃ z, zs[i]? = some z ∧ x = .int z := by
  rw [List.getElem?_map] at h
  cases e : zs[i]? with
  | none => rw [e] at h; cases h
  | some z => rw [e] at h; exact ⟨z, rfl, (Option.some.inj h).symm⟩
theorem ixN_of {n : Nat} {i : Int} (h0 : 0 ≤ i) (h1 : i < n) : ixN n i = some i.toNat := by unfold ixN; rw [if_pos h0, if_pos h1]
theorem ints_set {zs : List Int} {i : Nat} {z : Int} : (zs.map V.int).set i (.int z) = (zs.set i z).map V.int := by rw [List.map_set]
def spLaw (K : PySem.W.Frag) : Sp := fun vs H Q _ => ∃ (a : Addr) (ns : List Int), vs = [.ref a] ∧ SqL K H a (ns.map V.int) ∧ ns.length ≤ 63 ∧ ∀ H', Q (.bl true) H'
end Fen

set_option Elab.async false
set_option linter.all false
set_option maxRecDepth 100000
set_option maxHeartbeats 4000000
namespace Fen
open PySem L2
theorem same_refl (H : Hp) : Same H H := fun _ _ e => e
inductive Atom : V → Prop
  | non : Atom .non
  | bl (b) : Atom (.bl b)
  | int (i) : Atom (.int i)
  | str (i) : Atom (.str i)
/-- two values of the same kinds and contents, n deep -/
def Eqv (K : PySem.W.Frag) : Nat → Hp → V → V → Prop
  | 0, _, x, y => x = y ∧ Atom x
  | n + 1, H, x, y => (x = y ∧ Atom x) ∨ ∃ (tp : Bool) (a b : Addr) (xs ys : List V), x = .ref a ∧ y = .ref b ∧ SQ tp K H a xs ∧ SQ tp K H b ys ∧ xs.length = ys.length ∧ xs.length ≤ 1000 ∧ ∀ (i : Nat) (u v : V), xs[i]? = some u → ys[i]? = some v → Eqv K n H u v
theorem sq_same {K : PySem.W.Frag} {H H' : Hp} {tp : Bool} {a : Addr} {xs : List V} (e : Same H H') (h : SQ tp K H a xs) : SQ tp K H' a xs := by
  cases tp
  · exact e.seq h
  · rcases h with h | h
    · rcases h with h | ⟨o, h⟩
      · exact .inl (.inl (e _ _ h))
      · exact .inl (.inr ⟨o, e _ _ h⟩)
    · exact .inr h
theorem Eqv.same {K : PySem.W.Frag} {H H' : Hp} (e : Same H H') : ∀ {n : Nat} {x y : V}, Eqv K n H x y → Eqv K n H' x y
  | 0, _, _, h => h
  | n + 1, _, _, h => h.elim .inl fun ⟨tp, a, b, xs, ys, h1, h2, h3, h4, h5, h6, h7⟩ => .inr ⟨tp, a, b, xs, ys, h1, h2, sq_same e h3, sq_same e h4, h5, h6, fun i u v p q => Eqv.same e (h7 i u v p q)⟩
theorem Eqv.up {K : PySem.W.Frag} {H : Hp} : ∀ {n : Nat} {x y : V}, Eqv K n H x y → Eqv K (n + 1) H x y
  | 0, _, _, h => .inl h
  | n + 1, _, _, h => h.elim .inl fun ⟨tp, a, b, xs, ys, h1, h2, h3, h4, h5, h6, h7⟩ => .inr ⟨tp, a, b, xs, ys, h1, h2, h3, h4, h5, h6, fun i u v p q => Eqv.up (h7 i u v p q)⟩
def spSame (K : PySem.W.Frag) (n : Nat) : Sp := fun vs H Q _ => ∃ x y : V, vs = [x, y] ∧ Eqv K n H x y ∧ ∀ H', Same H H' → Q (.bl true) H'
theorem isi_list {K : PySem.W.Frag} {H : Hp} {tp : Bool} {a : Addr} {xs : List V} (h : SQ tp K H a xs) : IsI K H (.ref a) "list" (!tp) := by
  cases tp
  · exact .list_list _ _ h
  · exact .tuple_list _ _ h
theorem isi_tuple {K : PySem.W.Frag} {H : Hp} {tp : Bool} {a : Addr} {xs : List V} (h : SQ tp K H a xs) : IsI K H (.ref a) "tuple" tp := by
  cases tp
  · exact .list_tuple _ _ h
  · exact .tuple_tuple _ _ h
theorem sq_or {K : PySem.W.Frag} {H : Hp} {tp : Bool} {a : Addr} {xs : List V} (h : SQ tp K H a xs) : SqL K H a xs ∨ SqT K H a xs := by
  cases tp
  · exact .inl h
  · exact .inr h
theorem all_reps (n : Nat) : (List.replicate n true).all id = true := by
  induction n with
  | zero => rfl
  | succ n ih => rw [List.replicate_succ, List.all_cons, ih]; rfl
section
variable {P : Program} {w : PySem.World} {K : PySem.W.Frag} {mg : Str → Option Value} {base : Heap}
theorem scSame : FnScope ["_law_found", "_law_due"] ["_law_found", "_law_due"] (defScope sSame) := ⟨rfl, rfl, rfl, by decide +kernel, rfl, by decide +kernel, by decide +kernel⟩
theorem ndSame : (["_law_one", "_law_other"] : List Str).Nodup := by decide +kernel
theorem ok_same0 {f : Addr} {fd : FuncData} (F : Fun K "_law_same" "_law_same" sSame f fd) (T : Txt K mg) (T2 : Txt2 mg) : FnOk P w K mg base CX0 1 f fd ["_law_found", "_law_due"] (spSame K 0) := by
  refine F.ok scSame (fun vs H Q E h => ?_) (fun cdv A outer s H vs Q E hr h => ?_)
  · obtain ⟨x, y, rfl, _⟩ := h
    rfl
  · obtain ⟨x, y, rfl, ⟨rfl, ha⟩, kQ⟩ := h
    refine ⟨_, pss_cons (ps_if (PW.pt (pw_or (pt_val (pe_callB call_isi rfl T2.isinstance PyProof.Rows.boot_isinstance (pa_cons (pv 1) (pa_cons (pe_bltn (v := .ty "list") rfl T.list PyProof.Rows.boot_list rfl) pa_nil)))) (pw_or1 (pt_val (pe_callB call_isi rfl T2.isinstance PyProof.Rows.boot_isinstance (pa_cons (pv 1) (pa_cons (pe_bltn (v := .ty "tuple") rfl T2.tuple PyProof.Rows.boot_tuple rfl) pa_nil))))))) pss_never pss_nil)
      (pss_cons (ps_if (PW.pt (pw_or (pt_cmp (pc_isN (pv 0))) (pw_or1 (pt_cmp (pc_isN (pv 1)))))) (pss_one (ps_ret (pe_and (pe_cmp (pc_isN (pv 0))) (pe_one (pe_cmp (pc_isN (pv 1))))))) pss_nil)
      (pss_cons (ps_if (PW.pt (pw_or (pt_cmpR op_ne (pe_callB call_isi rfl T2.isinstance PyProof.Rows.boot_isinstance (pa_cons (pv 0) (pa_cons (pe_bltn (v := .ty "bool") rfl T2.bool PyProof.Rows.boot_bool rfl) pa_nil))) (pe_callB call_isi rfl T2.isinstance PyProof.Rows.boot_isinstance (pa_cons (pv 1) (pa_cons (pe_bltn (v := .ty "bool") rfl T2.bool PyProof.Rows.boot_bool rfl) pa_nil))) (nomark _)) (pw_or1 (pt_cmpR op_ne (pe_callB call_isi rfl T2.isinstance PyProof.Rows.boot_isinstance (pa_cons (pv 0) (pa_cons (pe_bltn (v := .ty "int") rfl T2.int PyProof.Rows.boot_int rfl) pa_nil))) (pe_callB call_isi rfl T2.isinstance PyProof.Rows.boot_isinstance (pa_cons (pv 1) (pa_cons (pe_bltn (v := .ty "int") rfl T2.int PyProof.Rows.boot_int rfl) pa_nil))) (nomark _))))) pss_never pss_nil)
      (pss_one (ps_ret (pe_and (pe_cmpR op_eq (pe_callB call_isi rfl T2.isinstance PyProof.Rows.boot_isinstance (pa_cons (pv 0) (pa_cons (pe_bltn (v := .ty "str") rfl T2.str PyProof.Rows.boot_str rfl) pa_nil))) (pe_callB call_isi rfl T2.isinstance PyProof.Rows.boot_isinstance (pa_cons (pv 1) (pa_cons (pe_bltn (v := .ty "str") rfl T2.str PyProof.Rows.boot_str rfl) pa_nil))) (nomark _)) (pe_one (pe_cmpR op_eq (pv 0) (pv 1) (nomark _)))))))), ?_⟩
    cases ha with
    | non =>
      refine ⟨_, rfl, _, _, _, rfl, .non_list, _, rfl, ?_⟩
      refine iteF ⟨_, rfl, _, _, _, rfl, .non_tuple, _, rfl, ?_⟩
      refine iteF ⟨_, rfl, _, rfl, ?_⟩
      refine iteT (iteT ⟨_, rfl, _, rfl, ?_⟩)
      exact iteT ⟨_, rfl, kQ H (same_refl H)⟩
    | bl b =>
      refine ⟨_, rfl, _, _, _, rfl, .bl_list _, _, rfl, ?_⟩
      refine iteF ⟨_, rfl, _, _, _, rfl, .bl_tuple _, _, rfl, ?_⟩
      refine iteF ⟨_, rfl, _, rfl, ?_⟩
      refine iteF ⟨_, rfl, _, rfl, ?_⟩
      refine iteF ⟨_, rfl, _, _, _, rfl, .bl_bool _, _, rfl, _, _, _, rfl, .bl_bool _, rfl, _, rfl, ?_⟩
      refine iteF ⟨_, rfl, _, _, _, rfl, .bl_int _, _, rfl, _, _, _, rfl, .bl_int _, rfl, _, rfl, ?_⟩
      refine iteF ⟨_, rfl, _, _, _, rfl, .bl_str _, _, rfl, _, _, _, rfl, .bl_str _, rfl, _, rfl, ?_⟩
      refine iteT ⟨_, rfl, _, rfl, rfl, ?_⟩
      rw [decide_eq_true (rfl : _ = _)]
      exact kQ H (same_refl H)
    | int i =>
      refine ⟨_, rfl, _, _, _, rfl, .int_list _, _, rfl, ?_⟩
      refine iteF ⟨_, rfl, _, _, _, rfl, .int_tuple _, _, rfl, ?_⟩
      refine iteF ⟨_, rfl, _, rfl, ?_⟩
      refine iteF ⟨_, rfl, _, rfl, ?_⟩
      refine iteF ⟨_, rfl, _, _, _, rfl, .int_bool _, _, rfl, _, _, _, rfl, .int_bool _, rfl, _, rfl, ?_⟩
      refine iteF ⟨_, rfl, _, _, _, rfl, .int_int _, _, rfl, _, _, _, rfl, .int_int _, rfl, _, rfl, ?_⟩
      refine iteF ⟨_, rfl, _, _, _, rfl, .int_str _, _, rfl, _, _, _, rfl, .int_str _, rfl, _, rfl, ?_⟩
      refine iteT ⟨_, rfl, _, rfl, rfl, ?_⟩
      rw [decide_eq_true (rfl : _ = _)]
      exact kQ H (same_refl H)
    | str i =>
      refine ⟨_, rfl, _, _, _, rfl, .str_list _, _, rfl, ?_⟩
      refine iteF ⟨_, rfl, _, _, _, rfl, .str_tuple _, _, rfl, ?_⟩
      refine iteF ⟨_, rfl, _, rfl, ?_⟩
      refine iteF ⟨_, rfl, _, rfl, ?_⟩
      refine iteF ⟨_, rfl, _, _, _, rfl, .str_bool _, _, rfl, _, _, _, rfl, .str_bool _, rfl, _, rfl, ?_⟩
      refine iteF ⟨_, rfl, _, _, _, rfl, .str_int _, _, rfl, _, _, _, rfl, .str_int _, rfl, _, rfl, ?_⟩
      refine iteF ⟨_, rfl, _, _, _, rfl, .str_str _, _, rfl, _, _, _, rfl, .str_str _, rfl, _, rfl, ?_⟩
      refine iteT ⟨_, rfl, _, rfl, rfl, ?_⟩
      rw [decide_eq_true (rfl : _ = _)]
      exact kQ H (same_refl H)
theorem ok_sameS {n : Nat} {f : Addr} {fd : FuncData} (F : Fun K "_law_same" "_law_same" sSame f fd) (T : Txt K mg) (T2 : Txt2 mg) (T3 : mg "zip" = none) (cS : Cal P w K mg base "_law_same" (n + 1) ["_law_found", "_law_due"] (spSame K n)) :
    FnOk P w K mg base CX0 (n + 2) f fd ["_law_found", "_law_due"] (spSame K (n + 1)) := by
  refine F.ok scSame (fun vs H Q E h => ?_) (fun cdv A outer s H vs Q E hr h => ?_)
  · obtain ⟨x, y, rfl, _⟩ := h
    rfl
  · obtain ⟨x, y, rfl, hE, kQ⟩ := h
    refine ⟨_, pss_cons (ps_if (PW.pt (pw_or (pt_val (pe_callB call_isi rfl T2.isinstance PyProof.Rows.boot_isinstance (pa_cons (pv 1) (pa_cons (pe_bltn (v := .ty "list") rfl T.list PyProof.Rows.boot_list rfl) pa_nil)))) (pw_or1 (pt_val (pe_callB call_isi rfl T2.isinstance PyProof.Rows.boot_isinstance (pa_cons (pv 1) (pa_cons (pe_bltn (v := .ty "tuple") rfl T2.tuple PyProof.Rows.boot_tuple rfl) pa_nil)))))))
        (pss_cons (ps_if (PW.pt (pw_or (pt_cmpR op_ne (pe_callB call_isi rfl T2.isinstance PyProof.Rows.boot_isinstance (pa_cons (pv 0) (pa_cons (pe_bltn (v := .ty "list") rfl T.list PyProof.Rows.boot_list rfl) pa_nil))) (pe_callB call_isi rfl T2.isinstance PyProof.Rows.boot_isinstance (pa_cons (pv 1) (pa_cons (pe_bltn (v := .ty "list") rfl T.list PyProof.Rows.boot_list rfl) pa_nil))) (nomark _)) (pw_or1 (pt_cmpR op_ne (pe_callB call_isi rfl T2.isinstance PyProof.Rows.boot_isinstance (pa_cons (pv 0) (pa_cons (pe_bltn (v := .ty "tuple") rfl T2.tuple PyProof.Rows.boot_tuple rfl) pa_nil))) (pe_callB call_isi rfl T2.isinstance PyProof.Rows.boot_isinstance (pa_cons (pv 1) (pa_cons (pe_bltn (v := .ty "tuple") rfl T2.tuple PyProof.Rows.boot_tuple rfl) pa_nil))) (nomark _))))) pss_never pss_nil)
        (pss_one (ps_ret (pe_and (pe_cmpR op_eq (pe_callB call_len_seq rfl T.len PySem.boot_len (pa_cons (pv 0) pa_nil)) (pe_callB call_len_seq rfl T.len PySem.boot_len (pa_cons (pv 1) pa_nil)) (nomark _))
          (pe_one (pe_callB (call_allL rfl) rfl T2.all PyProof.Rows.boot_all (pa_cons (pe_lcomp (g := gTup K 2 (gCons (gName 0) (gCons (gName 1) gNil))) rfl
            (CompScope.of (N := ["_law_found", "_law_due"]) (osc := defScope sSame) (Nc := ["_law_one", "_law_other"]) (sub := [none, none]) (by decide +kernel)) (pi_zip rfl T3 (pa_cons (pv 0) (pa_cons (pv 1) pa_nil)))
            (fun _ _ _ _ _ => pg_tup (n := 2) rfl (pgs_cons (pg_name (i := 0) ndSame rfl (Or.inl rfl) (Or.inr rfl)) (pgs_cons (pg_name (i := 1) ndSame rfl (Or.inl rfl) (Or.inr rfl)) pgs_nil)))
            (gk_tup (gks_cons (gk_name rfl) gm_name (gks_cons (gk_name rfl) gm_name gks_nil gms_nil) (gms_cons gm_name gms_nil)))
            (gm_tup (gms_cons gm_name (gms_cons gm_name gms_nil)))
            (fun _ _ _ _ _ => pif0) (fun _ _ _ _ _ => pe_cal cS hr rfl (pa_cons (pv 0) (pa_cons (pv 1) pa_nil)))) pa_nil))))))) pss_nil)
      (pss_cons (ps_if (PW.pt (pw_or (pt_cmp (pc_isN (pv 0))) (pw_or1 (pt_cmp (pc_isN (pv 1)))))) (pss_one (ps_ret (pe_and (pe_cmp (pc_isN (pv 0))) (pe_one (pe_cmp (pc_isN (pv 1))))))) pss_nil)
      (pss_cons (ps_if (PW.pt (pw_or (pt_cmpR op_ne (pe_callB call_isi rfl T2.isinstance PyProof.Rows.boot_isinstance (pa_cons (pv 0) (pa_cons (pe_bltn (v := .ty "bool") rfl T2.bool PyProof.Rows.boot_bool rfl) pa_nil))) (pe_callB call_isi rfl T2.isinstance PyProof.Rows.boot_isinstance (pa_cons (pv 1) (pa_cons (pe_bltn (v := .ty "bool") rfl T2.bool PyProof.Rows.boot_bool rfl) pa_nil))) (nomark _)) (pw_or1 (pt_cmpR op_ne (pe_callB call_isi rfl T2.isinstance PyProof.Rows.boot_isinstance (pa_cons (pv 0) (pa_cons (pe_bltn (v := .ty "int") rfl T2.int PyProof.Rows.boot_int rfl) pa_nil))) (pe_callB call_isi rfl T2.isinstance PyProof.Rows.boot_isinstance (pa_cons (pv 1) (pa_cons (pe_bltn (v := .ty "int") rfl T2.int PyProof.Rows.boot_int rfl) pa_nil))) (nomark _))))) pss_never pss_nil)
      (pss_one (ps_ret (pe_and (pe_cmpR op_eq (pe_callB call_isi rfl T2.isinstance PyProof.Rows.boot_isinstance (pa_cons (pv 0) (pa_cons (pe_bltn (v := .ty "str") rfl T2.str PyProof.Rows.boot_str rfl) pa_nil))) (pe_callB call_isi rfl T2.isinstance PyProof.Rows.boot_isinstance (pa_cons (pv 1) (pa_cons (pe_bltn (v := .ty "str") rfl T2.str PyProof.Rows.boot_str rfl) pa_nil))) (nomark _)) (pe_one (pe_cmpR op_eq (pv 0) (pv 1) (nomark _)))))))), ?_⟩
    rcases hE with ⟨rfl, ha⟩ | ⟨tp, a, b, xs, ys, rfl, rfl, qa, qb, hlen, hz, hi⟩
    · cases ha with
      | non =>
        refine ⟨_, rfl, _, _, _, rfl, .non_list, _, rfl, ?_⟩
        refine iteF ⟨_, rfl, _, _, _, rfl, .non_tuple, _, rfl, ?_⟩
        refine iteF ⟨_, rfl, _, rfl, ?_⟩
        refine iteT (iteT ⟨_, rfl, _, rfl, ?_⟩)
        exact iteT ⟨_, rfl, kQ H (same_refl H)⟩
      | bl b =>
        refine ⟨_, rfl, _, _, _, rfl, .bl_list _, _, rfl, ?_⟩
        refine iteF ⟨_, rfl, _, _, _, rfl, .bl_tuple _, _, rfl, ?_⟩
        refine iteF ⟨_, rfl, _, rfl, ?_⟩
        refine iteF ⟨_, rfl, _, rfl, ?_⟩
        refine iteF ⟨_, rfl, _, _, _, rfl, .bl_bool _, _, rfl, _, _, _, rfl, .bl_bool _, rfl, _, rfl, ?_⟩
        refine iteF ⟨_, rfl, _, _, _, rfl, .bl_int _, _, rfl, _, _, _, rfl, .bl_int _, rfl, _, rfl, ?_⟩
        refine iteF ⟨_, rfl, _, _, _, rfl, .bl_str _, _, rfl, _, _, _, rfl, .bl_str _, rfl, _, rfl, ?_⟩
        refine iteT ⟨_, rfl, _, rfl, rfl, ?_⟩
        rw [decide_eq_true (rfl : _ = _)]
        exact kQ H (same_refl H)
      | int i =>
        refine ⟨_, rfl, _, _, _, rfl, .int_list _, _, rfl, ?_⟩
        refine iteF ⟨_, rfl, _, _, _, rfl, .int_tuple _, _, rfl, ?_⟩
        refine iteF ⟨_, rfl, _, rfl, ?_⟩
        refine iteF ⟨_, rfl, _, rfl, ?_⟩
        refine iteF ⟨_, rfl, _, _, _, rfl, .int_bool _, _, rfl, _, _, _, rfl, .int_bool _, rfl, _, rfl, ?_⟩
        refine iteF ⟨_, rfl, _, _, _, rfl, .int_int _, _, rfl, _, _, _, rfl, .int_int _, rfl, _, rfl, ?_⟩
        refine iteF ⟨_, rfl, _, _, _, rfl, .int_str _, _, rfl, _, _, _, rfl, .int_str _, rfl, _, rfl, ?_⟩
        refine iteT ⟨_, rfl, _, rfl, rfl, ?_⟩
        rw [decide_eq_true (rfl : _ = _)]
        exact kQ H (same_refl H)
      | str i =>
        refine ⟨_, rfl, _, _, _, rfl, .str_list _, _, rfl, ?_⟩
        refine iteF ⟨_, rfl, _, _, _, rfl, .str_tuple _, _, rfl, ?_⟩
        refine iteF ⟨_, rfl, _, rfl, ?_⟩
        refine iteF ⟨_, rfl, _, rfl, ?_⟩
        refine iteF ⟨_, rfl, _, _, _, rfl, .str_bool _, _, rfl, _, _, _, rfl, .str_bool _, rfl, _, rfl, ?_⟩
        refine iteF ⟨_, rfl, _, _, _, rfl, .str_int _, _, rfl, _, _, _, rfl, .str_int _, rfl, _, rfl, ?_⟩
        refine iteF ⟨_, rfl, _, _, _, rfl, .str_str _, _, rfl, _, _, _, rfl, .str_str _, rfl, _, rfl, ?_⟩
        refine iteT ⟨_, rfl, _, rfl, rfl, ?_⟩
        rw [decide_eq_true (rfl : _ = _)]
        exact kQ H (same_refl H)
    · refine ⟨_, rfl, _, _, _, rfl, isi_list qb, _, rfl, ?_⟩
      cases tp with
      | false =>
        refine iteT (iteT ?_)
        refine ⟨_, rfl, _, _, _, rfl, isi_list qa, _, rfl, _, _, _, rfl, isi_list qb, rfl, _, rfl, ?_⟩
        refine iteF ⟨_, rfl, _, _, _, rfl, isi_tuple qa, _, rfl, _, _, _, rfl, isi_tuple qb, rfl, _, rfl, ?_⟩
        refine iteF ⟨_, rfl, a, _, rfl, sq_or qa, _, rfl, b, _, rfl, sq_or qb, rfl, _, rfl, ?_⟩
        rw [dec_intV, decide_eq_true (by omega : (xs.length : Int) = ys.length)]
        refine iteT ⟨_, rfl, _, rfl, false, a, b, xs, ys, rfl, qa, qb, fun l hl => ?_⟩
        refine comp_zip hlen (fun i zs H2 => zs = (List.replicate i true).map V.bl ∧ H2 l = some (.lst zs) ∧ Same H H2) ⟨rfl, upd_same, same_new hl⟩ (fun i zs H2 _ ⟨_, h2, h3⟩ => ⟨sq_same h3 qa, sq_same h3 qb, h2⟩) ?_ ?_
        · rintro i x y t zs H2 hx hy ht ⟨rfl, h2, h3⟩
          have hil : i < xs.length := (List.getElem?_eq_some_iff.mp hx).1
          refine ⟨t, _, rfl, SqT.of upd_same, rfl, _, _, rfl, _, _, rfl, rfl, ?_⟩
          refine noif ?_
          refine ⟨_, rfl, _, rfl, x, y, rfl, Eqv.same (h3.trans (same_new ht)) (hi i x y hx hy), fun H' S' => ⟨S' _ _ (same_new ht _ _ h2), ?_, ?_, upd_same, ?_⟩⟩
          · rw [List.length_map, List.length_replicate, sizeLine_eq]; omega
          · rw [List.replicate_succ', List.map_append]; rfl
          · exact fun c o e => by rw [upd_ne (ne_of_none e hl)]; exact S' _ _ (same_new ht _ _ (h3 c o e))
        · rintro zs H2 ⟨rfl, h2, h3⟩
          refine ⟨l, _, rfl, SqL.of h2, ?_⟩
          rw [all_reps]
          exact kQ H2 h3
      | true =>
        refine iteF ⟨_, rfl, _, _, _, rfl, isi_tuple qb, _, rfl, ?_⟩
        refine iteT ?_
        refine ⟨_, rfl, _, _, _, rfl, isi_list qa, _, rfl, _, _, _, rfl, isi_list qb, rfl, _, rfl, ?_⟩
        refine iteF ⟨_, rfl, _, _, _, rfl, isi_tuple qa, _, rfl, _, _, _, rfl, isi_tuple qb, rfl, _, rfl, ?_⟩
        refine iteF ⟨_, rfl, a, _, rfl, sq_or qa, _, rfl, b, _, rfl, sq_or qb, rfl, _, rfl, ?_⟩
        rw [dec_intV, decide_eq_true (by omega : (xs.length : Int) = ys.length)]
        refine iteT ⟨_, rfl, _, rfl, true, a, b, xs, ys, rfl, qa, qb, fun l hl => ?_⟩
        refine comp_zip hlen (fun i zs H2 => zs = (List.replicate i true).map V.bl ∧ H2 l = some (.lst zs) ∧ Same H H2) ⟨rfl, upd_same, same_new hl⟩ (fun i zs H2 _ ⟨_, h2, h3⟩ => ⟨sq_same h3 qa, sq_same h3 qb, h2⟩) ?_ ?_
        · rintro i x y t zs H2 hx hy ht ⟨rfl, h2, h3⟩
          have hil : i < xs.length := (List.getElem?_eq_some_iff.mp hx).1
          refine ⟨t, _, rfl, SqT.of upd_same, rfl, _, _, rfl, _, _, rfl, rfl, ?_⟩
          refine noif ?_
          refine ⟨_, rfl, _, rfl, x, y, rfl, Eqv.same (h3.trans (same_new ht)) (hi i x y hx hy), fun H' S' => ⟨S' _ _ (same_new ht _ _ h2), ?_, ?_, upd_same, ?_⟩⟩
          · rw [List.length_map, List.length_replicate, sizeLine_eq]; omega
          · rw [List.replicate_succ', List.map_append]; rfl
          · exact fun c o e => by rw [upd_ne (ne_of_none e hl)]; exact S' _ _ (same_new ht _ _ (h3 c o e))
        · rintro zs H2 ⟨rfl, h2, h3⟩
          refine ⟨l, _, rfl, SqL.of h2, ?_⟩
          rw [all_reps]
          exact kQ H2 h3
theorem cal_same {f : Addr} {fd : FuncData} (F : Fun K "_law_same" "_law_same" sSame f fd) (T : Txt K mg) (T2 : Txt2 mg) (T3 : mg "zip" = none) (hm : mg "_law_same" = some (.ref f)) (hb : Binds K fd ["_law_found", "_law_due"] []) :
    ∀ n : Nat, Cal P w K mg base "_law_same" (n + 1) ["_law_found", "_law_due"] (spSame K n)
  | 0 => Cal.of F (ok_same0 F T T2) hm hb
  | n + 1 => Cal.of F (ok_sameS F T T2 T3 (cal_same F T T2 T3 hm hb n)) hm hb
end
end Fen

set_option Elab.async false
set_option linter.all false
set_option maxRecDepth 100000
set_option maxHeartbeats 4000000
namespace Fen
open PySem L2
def contR (r : Run) : Int × Int × Int × Int := (r.one, r.other, r.rise, r.hand)
theorem Box.same {H H' : Hp} {b c : Addr} {ns : List Int} (x : Box H b c ns) (S : Same H H') : Box H' b c ns := by
  obtain ⟨p, r, d, e, q⟩ := x.ex
  exact ⟨⟨p, r, d, S _ _ e, q⟩, S _ _ x.cells, x.few⟩
theorem eqv_ints {K : PySem.W.Frag} {H : Hp} {tp : Bool} {a b : Addr} {zs : List Int} (ha : SQ tp K H a (zs.map V.int)) (hb : SQ tp K H b (zs.map V.int)) (hz : zs.length ≤ 1000) : Eqv K 1 H (.ref a) (.ref b) :=
  .inr ⟨tp, a, b, _, _, rfl, rfl, ha, hb, rfl, by rw [List.length_map]; exact hz, fun i u v e1 e2 => by
    rw [e1] at e2
    obtain ⟨z, _, rfl⟩ := ints_at e1
    cases e2
    exact ⟨rfl, .int z⟩⟩
theorem eqv_runs {K : PySem.W.Frag} {H : Hp} {a b : Addr} {rs qs : List Run} (ha : SqL K H a (rs.map runV)) (hb : SqL K H b (qs.map runV)) (hr : Runs H rs) (hq : Runs H qs) (e : rs.map contR = qs.map contR) (hz : rs.length ≤ 1000) : Eqv K 2 H (.ref a) (.ref b) := by
  have hlen : rs.length = qs.length := by rw [← List.length_map contR, e, List.length_map]
  refine .inr ⟨false, a, b, _, _, rfl, rfl, ha, hb, by rw [List.length_map, List.length_map, hlen], by rw [List.length_map]; exact hz, fun i u v e1 e2 => ?_⟩
  obtain ⟨r, h1, rfl, t1⟩ := hr.at_ e1
  obtain ⟨q, h2, rfl, t2⟩ := hq.at_ e2
  have hc : contR r = contR q := by
    have : (rs.map contR)[i]? = (qs.map contR)[i]? := by rw [e]
    rw [List.getElem?_map, List.getElem?_map, h1, h2] at this
    exact Option.some.inj this
  have ht : runT r = runT q := by
    unfold contR at hc
    injection hc with c1 hc; injection hc with c2 hc; injection hc with c3 c4
    unfold runT; rw [c1, c2, c3, c4]
  have er : runT r = [r.one, r.other, r.rise, r.hand].map V.int := rfl
  rw [← ht, er] at t2
  rw [er] at t1
  exact eqv_ints (tp := true) (SqT.of t1) (SqT.of t2) (by show 4 ≤ 1000; decide)
theorem cut1 (zs : List Int) : cutV (zs.map V.int) none (some 1) = (zs.take 1).map V.int := by
  unfold cutV
  have e : HT.sIx (zs.map V.int).length (zs.map V.int).length (some 1) = min 1 zs.length := by
    rw [show (1 : Int) = ((1 : Nat) : Int) from rfl, HT.sIx_nat, List.length_map]
  rw [e, HT.sIx_none, List.drop_zero, Nat.sub_zero, List.map_take]
  cases zs with
  | nil => rfl
  | cons z zs => simp
end Fen

set_option Elab.async false
set_option linter.all false
set_option maxRecDepth 100000
set_option maxHeartbeats 4000000
namespace Fen
open PySem L2
/-- going along a run from a mark -/
def stepR (r : Run) (here : Int) : Option (Int × Int) := if here = r.one then some (r.other, r.rise) else if here = r.other then some (r.one, -r.rise) else none
def runAt (rs : List Run) (i : Int) : Run := rs.getD i.toNat ⟨0, 0, 0, 0, 0⟩
def walkF (rs : List Run) : Int → Int → List Int → Option (Int × Int)
  | here, h, [] => some (here, h)
  | here, h, n :: rest => if 0 ≤ n ∧ n < rs.length then (match stepR (runAt rs n) here with | some (e, d) => walkF rs e (h + d) rest | none => none) else none
theorem runAt_ok {rs : List Run} {i : Int} (h0 : 0 ≤ i) (h1 : i < rs.length) : rs[i.toNat]? = some (runAt rs i) ∧ atI (rs.map runV) i = some (.ref (runAt rs i).p) ∧ runAt rs i ∈ rs := by
  have hn : i.toNat < rs.length := by omega
  have e : rs[i.toNat]? = some (runAt rs i) := by unfold runAt; rw [List.getElem?_eq_getElem hn]; simp [List.getD, List.getElem?_eq_getElem hn]
  refine ⟨e, ?_, List.mem_of_getElem? e⟩
  have q := atI_nat (xs := rs.map runV) (j := i.toNat) (v := .ref (runAt rs i).p) (by rw [List.getElem?_map, e]; rfl)
  rwa [Int.toNat_of_nonneg h0] at q
theorem walkF_in {rs : List Run} : ∀ {here h : Int} {line : List Int} {e : Int × Int}, walkF rs here h line = some e → ∀ z ∈ line, 0 ≤ z ∧ z < rs.length
  | _, _, [], _, _, z, hz => by cases hz
  | here, h, n :: rest, e, q, z, hz => by
    unfold walkF at q
    by_cases hn : 0 ≤ n ∧ n < (rs.length : Int)
    · rw [if_pos hn] at q
      rcases List.mem_cons.mp hz with rfl | hz
      · exact hn
      · cases es : stepR (runAt rs n) here with
        | none => rw [es] at q; cases q
        | some p => rw [es] at q; exact walkF_in q z hz
    · rw [if_neg hn] at q; cases q
/-- what a walk tells -/
def WalkRes (H : Hp) (v : V) : Option (Int × Int) → Prop
  | none => v = .non
  | some e => ∃ p, v = .ref p ∧ H p = some (.tup [.int e.1, .int e.2])
def spStep (K : PySem.W.Frag) : Sp := fun vs H Q _ => ∃ (p : Addr) (r : Run) (here : Int), vs = [.ref p, .int here] ∧ H p = some (.tup (runT r)) ∧ ∀ v H', Same H H' → WalkRes H' v (stepR r here) → Q v H'
def walkN (rs : List Run) (mark : Int) (line : List Int) (n : Nat) : Option (Int × Int) := if n = line.length then walkF rs mark 0 line else none
def spWalk (K : PySem.W.Frag) : Sp := fun vs H Q _ => ∃ (a t : Addr) (rs : List Run) (mark : Int) (line : List Int), vs = [.ref a, .int mark, .ref t] ∧ SqL K H a (rs.map runV) ∧ Runs H rs ∧ SqT K H t (line.map V.int) ∧ line.length ≤ 100 ∧
  ∀ n v H', SetLen line n → Same H H' → WalkRes H' v (walkN rs mark line n) → Q v H'
theorem line_at {line : List Int} {i : Nat} {z : Int} (h : line[i]? = some z) : line.drop i = z :: line.drop (i + 1) := by
  obtain ⟨h1, h2⟩ := List.getElem?_eq_some_iff.mp h
  rw [List.drop_eq_getElem_cons h1, h2]
theorem in2 (x a b : Int) : inV (.int x) ([a, b].map V.int) = (decide (x = a) || decide (x = b)) := by
  rw [inV_ints]
  simp [List.contains_cons, Bool.beq_eq_decide_eq]
theorem cut2 (r : Run) : cutV (runT r) none (some 2) = [r.one, r.other].map V.int := rfl
theorem walkF_go {rs : List Run} {here h z e d : Int} {rest : List Int} (h0 : 0 ≤ z) (h1 : z < rs.length) (hs : stepR (runAt rs z) here = some (e, d)) : walkF rs here h (z :: rest) = walkF rs e (h + d) rest := by
  show (if 0 ≤ z ∧ z < (rs.length : Int) then _ else _) = _
  rw [if_pos ⟨h0, h1⟩, hs]
theorem walkF_no {rs : List Run} {here h z : Int} {rest : List Int} (hs : 0 ≤ z → z < rs.length → stepR (runAt rs z) here = none) : walkF rs here h (z :: rest) = none := by
  show (if 0 ≤ z ∧ z < (rs.length : Int) then _ else _) = _
  by_cases hc : 0 ≤ z ∧ z < (rs.length : Int)
  · rw [if_pos hc, hs hc.1 hc.2]
  · rw [if_neg hc]
theorem not_whole2 (r : Run) : ¬ (HT.sIx (runT r).length 0 none = 0 ∧ HT.sIx (runT r).length (runT r).length (some 2) = (runT r).length) := by
  show ¬ (HT.sIx 4 0 none = 0 ∧ HT.sIx 4 4 (some 2) = 4)
  decide
theorem nb1 {c : Prop} [Decidable c] (h : (!decide c) = true) : ¬ c := by simpa using h
theorem nb2 {c : Prop} [Decidable c] (h : ¬ (!decide c) = true) : c := by simpa using h
theorem walkN_none {rs : List Run} {mark : Int} {line : List Int} {n : Nat} (h : walkF rs mark 0 line = none) : walkN rs mark line n = none := by
  unfold walkN; split
  · exact h
  · rfl
end Fen

set_option Elab.async false
set_option linter.all false
set_option maxRecDepth 100000
set_option maxHeartbeats 4000000
namespace Fen
open PySem L2
section
variable {P : Program} {w : PySem.World} {K : PySem.W.Frag} {mg : Str → Option Value} {base : Heap}
theorem scWalk : FnScope ["_law_runs", "_law_mark", "_law_line", "_law_here", "_law_height", "_law_at", "_law_one", "_law_other", "_law_rise", "_law_hand"] ["_law_runs", "_law_mark", "_law_line"] (defScope sWalk) := ⟨rfl, rfl, rfl, by decide +kernel, rfl, by decide +kernel, by decide +kernel⟩
theorem ok_walk {f : Addr} {fd : FuncData} (F : Fun K "_law_walk" "_law_walk" sWalk f fd) (T : Txt K mg) (T2 : Txt2 mg) : FnOk P w K mg base CX0 1 f fd ["_law_runs", "_law_mark", "_law_line"] (spWalk K) := by
  refine F.ok scWalk (fun vs H Q E h => ?_) (fun cdv A outer s H vs Q E hr h => ?_)
  · obtain ⟨a, t, rs, mark, line, rfl, _⟩ := h
    rfl
  · obtain ⟨a, t, rs, mark, line, rfl, ha, R, ht, hz, k⟩ := h
    have nd := scWalk.nd
    refine ⟨_, pss_cons (ps_set (i := 3) nd rfl (Or.inl rfl) (pv 1))
      (pss_cons (ps_set (i := 4) nd rfl (Or.inl rfl) pe_int)
      (pss_cons (ps_if (pt_cmpR op_ne (pe_callB call_len_setI rfl T.len PySem.boot_len (pa_cons (pe_callTy (call_set_tup rfl) rfl T2.set PyProof.Rows.boot_set (pa_cons (pv 2) pa_nil)) pa_nil)) (pe_callB call_len_seq rfl T.len PySem.boot_len (pa_cons (pv 2) pa_nil)) (nomark _)) (pss_one (ps_ret pe_non)) pss_nil)
      (pss_cons (ps_for PassesOwn.never rfl (pi_tup (pv 2)) (pg_name (i := 5) nd rfl (Or.inl rfl))
        (pss_cons (ps_if (PW.pt (pw_or (pt_not (pt_chain op_le op_lt pe_int (pv 5) (pe_callB call_len_seq rfl T.len PySem.boot_len (pa_cons (pv 0) pa_nil)))) (pw_or1 (pt_cmpR op_notIn_seq (pv 3) (pe_slice sl_tup (pe_ix ix_list (pv 0) (pv 5) (fun _ _ => rfl)) po_none (po_some pe_int)) (by with_unfolding_all rfl))))) (pss_one (ps_ret pe_non)) pss_nil)
        (pss_cons (ps_asg (pe_ix ix_list (pv 0) (pv 5) (fun _ _ => rfl)) (pg_tup (n := 4) rfl (pgs_cons (pg_name (i := 6) nd rfl (Or.inl rfl)) (pgs_cons (pg_name (i := 7) nd rfl (Or.inl rfl)) (pgs_cons (pg_name (i := 8) nd rfl (Or.inl rfl)) (pgs_cons (pg_name (i := 9) nd rfl (Or.inl rfl)) pgs_nil))))))
        (pss_one (ps_if (pt_cmpR op_eq (pv 3) (pv 6) (nomark _))
          (pss_one (ps_par (i := 3) (j := 4) rfl nd rfl rfl (by decide) rfl rfl (pa_cons (pv 7) (pa_cons (pe_op op_add (pv 4) (pv 8)) pa_nil)) rfl))
          (pss_one (ps_par (i := 3) (j := 4) rfl nd rfl rfl (by decide) rfl rfl (pa_cons (pv 6) (pa_cons (pe_op op_sub (pv 4) (pv 8)) pa_nil)) rfl)))))))
      (pss_one (ps_ret (pe_tup (pa_cons (pv 3) (pa_cons (pv 4) pa_nil)))))))), ?_⟩
    have h200 : (200 : Nat) < scanBound := by decide +kernel
    refine ⟨_, rfl, _, rfl, t, line, rfl, ht, by omega, fun ls hls => ⟨ls, line, rfl, upd_same, fun n hn => ?_⟩⟩
    have S0 := same_new (o := SetO w ls line) hls
    refine ⟨_, rfl, t, _, rfl, .inr (sq_same (tp := true) S0 ht), rfl, _, rfl, ?_⟩
    refine ite2 (fun hne => ?_) (fun hne => ?_)
    · exact k n .non _ hn S0 (by
        have e : walkN rs mark line n = none := by
          unfold walkN
          rw [if_neg]
          intro z
          have := nb1 hne
          rw [List.length_map, z] at this
          exact this rfl
        rw [e]; rfl)
    have hnl : n = line.length := by
      have := nb2 hne
      rw [List.length_map] at this
      have := V.int.inj this
      omega
    refine ⟨_, rfl, t, rfl, ⟨_, sq_same (tp := true) S0 ht⟩, for_tup (K := K) (a := t) (xs := line.map V.int) (fun i σ H2 => ∃ (here h : Int) (o5 o6 o7 o8 o9 : Option V), σ = [some (.ref a), some (.int mark), some (.ref t), some (.int here), some (.int h), o5, o6, o7, o8, o9] ∧ Same H H2 ∧ walkF rs mark 0 line = walkF rs here h (line.drop i))
      ⟨mark, 0, _, _, _, _, _, rfl, S0, rfl⟩ (fun i σ H2 _ ⟨_, _, _, _, _, _, _, _, S, _⟩ => sq_same (tp := true) S ht) ?_ ?_⟩
    · rintro i x σ H2 hx ⟨here, h, o5, o6, o7, o8, o9, rfl, S2, hw⟩
      obtain ⟨z, hz1, rfl⟩ := ints_at hx
      rw [line_at hz1] at hw
      have bad : (0 ≤ z → z < rs.length → stepR (runAt rs z) here = none) → ∀ H', Same H H' → Q .non H' := fun hb H' S => k n .non H' hn S (by rw [walkN_none (hw.trans (walkF_no hb))]; rfl)
      refine ⟨_, rfl, _, _, rfl, rfl, _, rfl, ?_⟩
      refine ite2 (fun h0 => ?_) (fun h0 => ?_)
      · have h0' := of_decide_eq_true h0
        refine ⟨_, rfl, a, _, rfl, .inl (S2.seq ha), _, _, rfl, rfl, _, rfl, ?_⟩
        refine ite2 (fun h1 => ?_) (fun h1 => ?_)
        · have h1' := nb1 h1
          rw [List.length_map] at h1'
          exact iteT (bad (fun _ h2 => absurd h2 h1') H2 S2)
        · have h1' := nb2 h1
          rw [List.length_map] at h1'
          obtain ⟨e1, e2, e3⟩ := runAt_ok h0' h1'
          have hrp := S2 _ _ (R _ e3)
          refine ⟨_, rfl, _, rfl, _, rfl, a, _, _, _, rfl, rfl, S2.seq ha, e2, _, rfl, (runAt rs z).p, _, rfl, SqT.of hrp, not_whole2 _, fun p hp => ?_⟩
          refine ⟨p, _, rfl, .inr (SqT.of upd_same), rfl, rfl, _, rfl, ?_⟩
          rw [if_pos rfl, cut2, in2]
          have S3 := S2.trans (same_new (o := .tup ([(runAt rs z).one, (runAt rs z).other].map V.int)) hp)
          refine ite2 (fun h2 => ?_) (fun h2 => ?_)
          · refine bad (fun _ _ => ?_) _ S3
            have : ¬ here = (runAt rs z).one ∧ ¬ here = (runAt rs z).other := by simpa using h2
            unfold stepR
            rw [if_neg this.1, if_neg this.2]
          · have hor : here = (runAt rs z).one ∨ here = (runAt rs z).other := by
              by_cases c1 : here = (runAt rs z).one
              · exact .inl c1
              · exact .inr (by simpa [c1] using h2)
            refine ⟨_, rfl, _, rfl, a, _, _, _, rfl, rfl, S3.seq ha, e2, (runAt rs z).p, _, rfl, SqT.of (S3 _ _ (R _ e3)), rfl, _, _, rfl, _, _, rfl, _, _, rfl, _, _, rfl, rfl, ?_⟩
            refine ⟨_, rfl, _, rfl, rfl, _, rfl, ?_⟩
            refine ite2 (fun h3 => ?_) (fun h3 => ?_)
            · have h3' : here = (runAt rs z).one := V.int.inj (of_decide_eq_true h3)
              refine ⟨_, rfl, _, rfl, _, rfl, _, _, rfl, rfl, _, _, rfl, _, _, _, _, _, _, _, rfl, S3, ?_⟩
              rw [hw]
              exact walkF_go h0' h1' (by unfold stepR; rw [if_pos h3'])
            · have h3' : ¬ here = (runAt rs z).one := fun e => h3 (decide_eq_true (by rw [e]))
              refine ⟨_, rfl, _, rfl, _, rfl, _, _, rfl, rfl, _, _, rfl, _, _, _, _, _, _, _, rfl, S3, ?_⟩
              rw [hw, walkF_go h0' h1' (by unfold stepR; rw [if_neg h3', if_pos (hor.resolve_left h3')])]
              rw [Int.sub_eq_add_neg]
      · have h0' : ¬ 0 ≤ z := fun e => h0 (decide_eq_true e)
        refine ⟨_, rfl, ?_⟩
        exact iteT (iteT (bad (fun e => absurd e h0') H2 S2))
    · rintro σ H2 ⟨here, h, o5, o6, o7, o8, o9, rfl, S2, hw⟩
      rw [List.length_map, List.drop_length] at hw
      refine ⟨_, rfl, _, rfl, by show 2 ≤ sizeLine; decide, fun p hp => ?_⟩
      refine k n (.ref p) _ hn (S2.trans (same_new hp)) ?_
      have e : walkN rs mark line n = some (here, h) := by unfold walkN; rw [if_pos hnl]; exact hw
      rw [e]
      exact ⟨p, rfl, upd_same⟩
end
end Fen

set_option Elab.async false
set_option linter.all false
set_option maxRecDepth 100000
set_option maxHeartbeats 4000000
namespace Fen
open PySem L2
/-- two marks hang together by runs -/
inductive Conn (rs : List Run) : Int → Int → Prop
  | refl (i : Int) : Conn rs i i
  | go {i j k : Int} (r : Run) (c : Conn rs i j) (m : r ∈ rs) (e : (r.one = j ∧ r.other = k) ∨ (r.other = j ∧ r.one = k)) : Conn rs i k
theorem Conn.trans {rs : List Run} {i j k : Int} (x : Conn rs i j) (y : Conn rs j k) : Conn rs i k := by
  induction y with
  | refl => exact x
  | go r c m e ih => exact .go r ih m e
theorem Conn.edge {rs : List Run} {r : Run} (m : r ∈ rs) : Conn rs r.one r.other := .go r (.refl _) m (.inl ⟨rfl, rfl⟩)
theorem Conn.edge' {rs : List Run} {r : Run} (m : r ∈ rs) : Conn rs r.other r.one := .go r (.refl _) m (.inr ⟨rfl, rfl⟩)
theorem Conn.symm {rs : List Run} {i j : Int} (x : Conn rs i j) : Conn rs j i := by
  induction x with
  | refl => exact .refl _
  | go r c m e ih =>
    rcases e with ⟨rfl, rfl⟩ | ⟨rfl, rfl⟩
    · exact (Conn.edge' m).trans ih
    · exact (Conn.edge m).trans ih
theorem Conn.mono {rs qs : List Run} {i j : Int} (x : Conn rs i j) (h : ∀ r ∈ rs, ∃ q ∈ qs, q.one = r.one ∧ q.other = r.other) : Conn qs i j := by
  induction x with
  | refl => exact .refl _
  | go r c m e ih =>
    obtain ⟨q, hq, e1, e2⟩ := h r m
    rcases e with ⟨rfl, rfl⟩ | ⟨rfl, rfl⟩
    · exact .go q ih hq (.inl ⟨e1, e2⟩)
    · exact .go q ih hq (.inr ⟨e2, e1⟩)
theorem Conn.sub {rs qs : List Run} {i j : Int} (x : Conn rs i j) (h : ∀ r ∈ rs, r ∈ qs) : Conn qs i j := x.mono fun r m => ⟨r, h r m, rfl, rfl⟩
theorem Conn.inM {rs : List Run} {n : Nat} {i j : Int} (V0 : InMarks n rs) (x : Conn rs i j) (h : 0 ≤ i ∧ i < n) : 0 ≤ j ∧ j < n := by
  induction x with
  | refl => exact h
  | go r c m e ih =>
    obtain ⟨m1, m2, m3, m4⟩ := V0 r m
    rcases e with ⟨rfl, rfl⟩ | ⟨rfl, rfl⟩
    · exact ⟨m3, m4⟩
    · exact ⟨m1, m2⟩
def gI (xs : List Int) (i : Int) : Int := xs.getD i.toNat 0
def LabOk (n : Nat) (rs : List Run) (lab : List Int) : Prop := ∀ i j : Int, 0 ≤ i → i < n → 0 ≤ j → j < n → (gI lab i = gI lab j ↔ Conn rs i j)
def HtOk (rs : List Run) (hts : List Int) : Prop := ∀ r ∈ rs, gI hts r.other - gI hts r.one = r.rise
def NoHts (rs : List Run) : Prop := ∀ f : Int → Int, ¬ ∀ r ∈ rs, f r.other - f r.one = r.rise
theorem ht_conn {rs : List Run} {f g : Int → Int} (hf : ∀ r ∈ rs, f r.other - f r.one = r.rise) (hg : ∀ r ∈ rs, g r.other - g r.one = r.rise) {i j : Int} (x : Conn rs i j) : f j - f i = g j - g i := by
  induction x with
  | refl => omega
  | go r c m e ih =>
    have h1 := hf r m
    have h2 := hg r m
    rcases e with ⟨rfl, rfl⟩ | ⟨rfl, rfl⟩ <;> omega
theorem noHts_of {done rest : List Run} {n : Nat} {lab hts : List Int} {r : Run} (V0 : 0 ≤ r.one ∧ r.one < n ∧ 0 ≤ r.other ∧ r.other < n) (hl : LabOk n done lab) (hh : HtOk done hts) (e : gI lab r.one = gI lab r.other) (hb : gI hts r.one + r.rise - gI hts r.other ≠ 0) : NoHts (done ++ r :: rest) := fun f hf => by
  have c := (hl r.one r.other V0.1 V0.2.1 V0.2.2.1 V0.2.2.2).mp e
  have h1 := ht_conn (f := f) (g := gI hts) (fun q hq => hf q (List.mem_append_left _ hq)) hh c
  have h2 := hf r (List.mem_append_right _ List.mem_cons_self)
  omega
/-- the run's two groups are one already -/
theorem lab_same {done : List Run} {n : Nat} {lab hts : List Int} {r : Run} (V0 : 0 ≤ r.one ∧ r.one < n ∧ 0 ≤ r.other ∧ r.other < n) (hl : LabOk n done lab) (hh : HtOk done hts) (e : gI lab r.one = gI lab r.other) (hb : gI hts r.one + r.rise - gI hts r.other = 0) : LabOk n (done ++ [r]) lab ∧ HtOk (done ++ [r]) hts := by
  have c := (hl r.one r.other V0.1 V0.2.1 V0.2.2.1 V0.2.2.2).mp e
  refine ⟨fun i j a b d e' => ⟨fun h => ((hl i j a b d e').mp h).sub fun q hq => List.mem_append_left _ hq, fun h => (hl i j a b d e').mpr ?_⟩, fun q hq => ?_⟩
  · clear e' d
    induction h with
    | refl => exact .refl _
    | go q c' m e2 ih =>
      rcases List.mem_append.mp m with m | m
      · exact .go q ih m e2
      · rw [List.mem_singleton.mp m] at e2
        rcases e2 with ⟨rfl, rfl⟩ | ⟨rfl, rfl⟩
        · exact ih.trans c
        · exact ih.trans c.symm
  · rcases List.mem_append.mp hq with m | m
    · exact hh q m
    · rw [List.mem_singleton.mp m]; omega
/-- two groups become one -/
theorem lab_join {done : List Run} {n : Nat} {lab hts lab' hts' : List Int} {r : Run} (VD : InMarks n done) (V0 : 0 ≤ r.one ∧ r.one < n ∧ 0 ≤ r.other ∧ r.other < n) (hl : LabOk n done lab) (hh : HtOk done hts) (ne : gI lab r.one ≠ gI lab r.other)
    (h1 : ∀ i : Int, 0 ≤ i → i < n → gI lab' i = if gI lab i = gI lab r.other then gI lab r.one else gI lab i) (h2 : ∀ i : Int, 0 ≤ i → i < n → gI hts' i = if gI lab i = gI lab r.other then gI hts i + (gI hts r.one + r.rise - gI hts r.other) else gI hts i) :
    LabOk n (done ++ [r]) lab' ∧ HtOk (done ++ [r]) hts' := by
  have up : ∀ {i j}, Conn done i j → Conn (done ++ [r]) i j := fun h => h.sub fun q hq => List.mem_append_left _ hq
  have er : Conn (done ++ [r]) r.one r.other := Conn.edge (List.mem_append_right _ List.mem_cons_self)
  have V1 : InMarks n (done ++ [r]) := fun q hq => by
    rcases List.mem_append.mp hq with m | m
    · exact VD q m
    · rw [List.mem_singleton.mp m]; exact V0
  refine ⟨fun i j a b c d => ⟨fun h => ?_, fun h => ?_⟩, fun q hq => ?_⟩
  · rw [h1 i a b, h1 j c d] at h
    by_cases ci : gI lab i = gI lab r.other
    · by_cases cj : gI lab j = gI lab r.other
      · exact up ((hl i j a b c d).mp (ci.trans cj.symm))
      · rw [if_pos ci, if_neg cj] at h
        exact ((up ((hl i r.other a b V0.2.2.1 V0.2.2.2).mp ci)).trans er.symm).trans (up ((hl r.one j V0.1 V0.2.1 c d).mp h))
    · by_cases cj : gI lab j = gI lab r.other
      · rw [if_neg ci, if_pos cj] at h
        exact ((up ((hl i r.one a b V0.1 V0.2.1).mp h)).trans er).trans (up ((hl r.other j V0.2.2.1 V0.2.2.2 c d).mp cj.symm))
      · rw [if_neg ci, if_neg cj] at h
        exact up ((hl i j a b c d).mp h)
  · have key : ∀ k, Conn (done ++ [r]) i k → gI lab' i = gI lab' k := fun k hk => by
      induction hk with
      | refl => rfl
      | go q c' m e2 ih =>
        rw [ih]
        rename_i j' k'
        have bj := c'.inM V1 ⟨a, b⟩
        have bk := (Conn.go q c' m e2).inM V1 ⟨a, b⟩
        rcases List.mem_append.mp m with m | m
        · have ee : gI lab j' = gI lab k' := (hl j' k' bj.1 bj.2 bk.1 bk.2).mpr (.go q (.refl _) m e2)
          rw [h1 _ bj.1 bj.2, h1 _ bk.1 bk.2, ee]
        · rw [List.mem_singleton.mp m] at e2
          have eo : gI lab' r.other = gI lab r.one := by rw [h1 _ V0.2.2.1 V0.2.2.2, if_pos rfl]
          have eo1 : gI lab' r.one = gI lab r.one := by rw [h1 _ V0.1 V0.2.1, if_neg ne]
          rcases e2 with ⟨rfl, rfl⟩ | ⟨rfl, rfl⟩
          · rw [eo, eo1]
          · rw [eo, eo1]
    exact key j h
  · rcases List.mem_append.mp hq with m | m
    · obtain ⟨b1, b2, b3, b4⟩ := VD q m
      have ee : gI lab q.one = gI lab q.other := (hl _ _ b1 b2 b3 b4).mpr (Conn.edge m)
      have := hh q m
      rw [h2 _ b1 b2, h2 _ b3 b4, ee]
      by_cases cc : gI lab q.other = gI lab r.other
      · rw [if_pos cc, if_pos cc]; omega
      · rw [if_neg cc, if_neg cc]; exact this
    · rw [List.mem_singleton.mp m, h2 _ V0.1 V0.2.1, h2 _ V0.2.2.1 V0.2.2.2, if_neg ne, if_pos rfl]; omega
theorem lab_start (n : Nat) : LabOk n [] ((List.range n).map Int.ofNat) ∧ HtOk [] (List.replicate n 0) := by
  refine ⟨fun i j a b c d => ?_, fun r h => by cases h⟩
  have e : ∀ k : Int, 0 ≤ k → k < n → gI ((List.range n).map Int.ofNat) k = k := fun k h0 h1 => by
    have hk : k.toNat < n := by omega
    unfold gI
    simp [List.getD, hk]
    omega
  rw [e i a b, e j c d]
  refine ⟨fun h => h ▸ .refl _, fun h => ?_⟩
  cases h with
  | refl => rfl
  | go r c m e => cases m
end Fen

set_option Elab.async false
set_option linter.all false
set_option maxRecDepth 100000
set_option maxHeartbeats 4000000
namespace Fen
open PySem L2
theorem gI_set {xs : List Int} {j : Nat} {v i : Int} (hj : j < xs.length) (h0 : 0 ≤ i) : gI (xs.set j v) i = if i = (j : Int) then v else gI xs i := by
  unfold gI
  by_cases e : i = (j : Int)
  · rw [if_pos e, e, Int.toNat_natCast, List.getD_eq_getElem?_getD, List.getElem?_set_self hj]; rfl
  · rw [if_neg e, List.getD_eq_getElem?_getD, List.getElem?_set_ne (by omega), ← List.getD_eq_getElem?_getD]
theorem at_gI {zs : List Int} {i : Int} (h0 : 0 ≤ i) (h1 : i < zs.length) : atI (zs.map V.int) i = some (.int (gI zs i)) := atI_ints h0 h1
theorem flat_rep (v : V) : ∀ n : Nat, (List.replicate n [v]).flatten = List.replicate n v
  | 0 => rfl
  | n + 1 => by rw [List.replicate_succ, List.replicate_succ, List.flatten_cons, flat_rep v n]; rfl
theorem take_some {α : Type} {xs : List α} {i : Nat} {x : α} (h : xs[i]? = some x) : xs.take (i + 1) = xs.take i ++ [x] := by rw [List.take_add_one, h]; rfl
def spSettled (K : PySem.W.Frag) : Sp := fun vs H Q _ => ∃ (n : Nat) (a : Addr) (rs : List Run), vs = [.int n, .ref a] ∧ SqL K H a (rs.map runV) ∧ Runs H rs ∧ InMarks n rs ∧ n ≤ 1000 ∧ rs.length ≤ 1000 ∧
  (∀ H', Same H H' → NoHts rs → Q .non H') ∧ ∀ (p la lh : Addr) (lab hts : List Int) H', Same H H' → H' p = some (.tup [.ref la, .ref lh]) → H' la = some (.lst (lab.map V.int)) → H' lh = some (.lst (hts.map V.int)) → H la = none → H lh = none → lab.length = n → hts.length = n → LabOk n rs lab → HtOk rs hts → Q (.ref p) H'
abbrev Nset : List Str := ["_law_size", "_law_runs", "_law_labels", "_law_heights", "_law_one", "_law_other", "_law_rise", "_law_hand", "_law_by", "_law_home", "_law_at"]
section
variable {P : Program} {w : PySem.World} {K : PySem.W.Frag} {mg : Str → Option Value} {base : Heap}
theorem scSettled : FnScope Nset ["_law_size", "_law_runs"] (defScope sSettled) := ⟨rfl, rfl, rfl, by decide +kernel, rfl, by decide +kernel, by decide +kernel⟩
theorem ok_settled {f : Addr} {fd : FuncData} (F : Fun K "_law_settled" "_law_settled" sSettled f fd) (T : Txt K mg) : FnOk P w K mg base CX0 1 f fd ["_law_size", "_law_runs"] (spSettled K) := by
  refine F.ok scSettled (fun vs H Q E h => ?_) (fun cdv A outer s H vs Q E hr h => ?_)
  · obtain ⟨n, a, rs, rfl, _⟩ := h
    rfl
  · obtain ⟨n, a, rs, rfl, ha, R, VM, hn, hz, kN, k⟩ := h
    have nd := scSettled.nd
    refine ⟨_, pss_cons (ps_set (i := 2) nd rfl (Or.inl rfl) (pe_callTy (call_list_rng rfl) rfl T.list PyProof.Rows.boot_list (pa_cons (pe_callTy call_rng1 rfl T.range PyProof.Rows.boot_range (pa_cons (pv 0) pa_nil)) pa_nil)))
      (pss_cons (ps_set (i := 3) nd rfl (Or.inl rfl) (pe_op op_rep (pe_lst (pa_cons pe_int pa_nil)) (pv 0)))
      (pss_cons (ps_for PassesOwn.never rfl (pi_list (pv 1)) (pg_tup (n := 4) rfl (pgs_cons (pg_name (i := 4) nd rfl (Or.inl rfl)) (pgs_cons (pg_name (i := 5) nd rfl (Or.inl rfl)) (pgs_cons (pg_name (i := 6) nd rfl (Or.inl rfl)) (pgs_cons (pg_name (i := 7) nd rfl (Or.inl rfl)) pgs_nil)))))
        (pss_cons (ps_set (i := 8) nd rfl (Or.inl rfl) (pe_op op_sub (pe_op op_add (pe_ix ix_list (pv 3) (pv 4) (fun _ _ => rfl)) (pv 6)) (pe_ix ix_list (pv 3) (pv 5) (fun _ _ => rfl))))
        (pss_one (ps_if (pt_cmpR op_eq (pe_ix ix_list (pv 2) (pv 4) (fun _ _ => rfl)) (pe_ix ix_list (pv 2) (pv 5) (fun _ _ => rfl)) (nomark _))
          (pss_one (ps_if (pt_cmpR op_ne (pv 8) pe_int (nomark _)) (pss_one (ps_ret pe_non)) pss_nil))
          (pss_cons (ps_set (i := 9) nd rfl (Or.inl rfl) (pe_lst (pa_cons (pe_ix ix_list (pv 2) (pv 4) (fun _ _ => rfl)) (pa_cons (pe_ix ix_list (pv 2) (pv 5) (fun _ _ => rfl)) pa_nil))))
          (pss_one (ps_for PassesOwn.never rfl (pi_range1 rfl T.range (pa_cons (pv 0) pa_nil)) (pg_name (i := 10) nd rfl (Or.inl rfl))
            (pss_one (ps_if (pt_cmpR op_eq (pe_ix ix_list (pv 2) (pv 10) (fun _ _ => rfl)) (pe_ix ix_list (pv 9) pe_int (fun _ _ => rfl)) (nomark _))
              (pss_cons (ps_asg (pe_ix ix_list (pv 9) pe_int (fun _ _ => rfl)) (pg_sub (pv 2) (pv 10) set_list))
              (pss_one (ps_augS (pv 3) (pv 10) get_list (pv 8) ip_add set_list))) pss_nil)))))))))
      (pss_one (ps_ret (pe_tup (pa_cons (pv 2) (pa_cons (pv 3) pa_nil))))))), ?_⟩
    refine ⟨_, rfl, n, rfl, fun pr hpr => ⟨pr, n, rfl, upd_same, by omega, by omega, fun la hla => ?_⟩⟩
    have S0 := same_new (o := .rng 0 n) hpr
    have S1 := S0.trans (same_new (o := .lst (((List.range ((n : Int)).toNat).map Int.ofNat).map V.int)) hla)
    have hlaH : H la = none := S0.free hla
    refine ⟨by show 1 ≤ sizeLine; decide, fun l0 hl0 => ?_⟩
    have S2 := S1.trans (same_new (o := .lst [.int 0]) hl0)
    have hla2 := same_new (o := .lst [.int 0]) hl0 la _ upd_same
    refine ⟨_, rfl, l0, n, _, rfl, rfl, upd_same, by omega, by omega, (by rw [sizeLine_eq]; show 1 * _ ≤ _; omega), fun lh hlh => ?_⟩
    have S3 := S2.trans (same_new (o := .lst (List.replicate ((n : Int)).toNat [V.int 0]).flatten) hlh)
    have hla3 := same_new (o := .lst (List.replicate ((n : Int)).toNat [V.int 0]).flatten) hlh la _ hla2
    have hlhH : H lh = none := S2.free hlh
    have hne : la ≠ lh := ne_of_none hla2 hlh
    have efl : (List.replicate ((n : Int)).toNat [V.int 0]).flatten = (List.replicate n (0 : Int)).map V.int := by
      rw [Int.toNat_natCast, List.map_replicate]
      exact flat_rep _ n
    have hlh3 : (upd (upd (upd (upd H pr (.rng 0 n)) la (.lst (((List.range ((n : Int)).toNat).map Int.ofNat).map V.int))) l0 (.lst [.int 0])) lh (.lst (List.replicate ((n : Int)).toNat [V.int 0]).flatten)) lh = some (.lst ((List.replicate n (0 : Int)).map V.int)) := by rw [upd_same, efl]
    generalize (upd (upd (upd (upd H pr (.rng 0 n)) la (.lst (((List.range ((n : Int)).toNat).map Int.ofNat).map V.int))) l0 (.lst [.int 0])) lh (.lst (List.replicate ((n : Int)).toNat [V.int 0]).flatten)) = H3 at *
    rw [Int.toNat_natCast] at hla3
    clear S2 S1 S0 hla2 efl hlh hla hl0 hpr
    have LS := lab_start n
    refine ⟨_, rfl, a, rfl, ⟨_, S3.seq ha⟩, for_list (K := K) (a := a) (xs := rs.map runV) (fun i σ H2 => ∃ (lab hts : List Int) (o4 o5 o6 o7 o8 o9 o10 : Option V), σ = [some (.int n), some (.ref a), some (.ref la), some (.ref lh), o4, o5, o6, o7, o8, o9, o10] ∧ Same H H2 ∧ H2 la = some (.lst (lab.map V.int)) ∧ H2 lh = some (.lst (hts.map V.int)) ∧ lab.length = n ∧ hts.length = n ∧ LabOk n (rs.take i) lab ∧ HtOk (rs.take i) hts)
      ⟨_, _, _, _, _, _, _, _, _, rfl, S3, hla3, hlh3, by simp, by simp, LS.1, LS.2⟩ (fun i σ H2 _ ⟨_, _, _, _, _, _, _, _, _, _, S, _⟩ => S.seq ha) ?_ ?_⟩
    · rintro i x σ H2 hx ⟨lab, hts, o4, o5, o6, o7, o8, o9, o10, rfl, S2, h1, h2, l1, l2, hL, hH⟩
      obtain ⟨r, hr, rfl, ht⟩ := R.at_ hx
      have V0 := VM r (List.mem_of_getElem? hr)
      have VD : InMarks n (rs.take i) := fun q hq => VM q (List.mem_of_mem_take hq)
      have a1 := at_gI (zs := lab) V0.1 (by rw [l1]; exact V0.2.1)
      have a2 := at_gI (zs := lab) V0.2.2.1 (by rw [l1]; exact V0.2.2.2)
      have b1 := at_gI (zs := hts) V0.1 (by rw [l2]; exact V0.2.1)
      have b2 := at_gI (zs := hts) V0.2.2.1 (by rw [l2]; exact V0.2.2.2)
      refine ⟨r.p, _, rfl, SqT.of (S2 _ _ ht), rfl, _, _, rfl, _, _, rfl, _, _, rfl, _, _, rfl, rfl, ?_⟩
      refine ⟨_, rfl, _, rfl, lh, _, _, _, rfl, rfl, SqL.of h2, b1, _, rfl, _, _, rfl, rfl, _, rfl, _, rfl, lh, _, _, _, rfl, rfl, SqL.of h2, b2, _, _, rfl, rfl, ?_⟩
      refine ⟨_, rfl, _, rfl, la, _, _, _, rfl, rfl, SqL.of h1, a1, _, rfl, _, rfl, la, _, _, _, rfl, rfl, SqL.of h1, a2, rfl, _, rfl, ?_⟩
      refine ite2 (fun he => ?_) (fun he => ?_)
      · have he' : gI lab r.one = gI lab r.other := V.int.inj (of_decide_eq_true he)
        refine ⟨_, rfl, rfl, _, rfl, ?_⟩
        refine ite2 (fun hb => ?_) (fun hb => ?_)
        · have hb' : gI hts r.one + r.rise - gI hts r.other ≠ 0 := fun e => nb1 hb (by show V.int (gI hts r.one + r.rise - gI hts r.other) = V.int 0; rw [e])
          have er : rs = rs.take i ++ r :: rs.drop (i + 1) := by
            obtain ⟨q1, q2⟩ := List.getElem?_eq_some_iff.mp hr
            rw [← q2, ← List.drop_eq_getElem_cons q1, List.take_append_drop]
          exact kN H2 S2 (by rw [er]; exact noHts_of V0 hL hH he' hb')
        · have hb' : gI hts r.one + r.rise - gI hts r.other = 0 := V.int.inj (nb2 hb)
          have q := lab_same V0 hL hH he' hb'
          exact ⟨lab, hts, _, _, _, _, _, _, _, rfl, S2, h1, h2, l1, l2, by rw [take_some hr]; exact q.1, by rw [take_some hr]; exact q.2⟩
      · have he' : gI lab r.one ≠ gI lab r.other := fun e => he (decide_eq_true (by rw [e]))
        refine ⟨_, rfl, _, rfl, la, _, _, _, rfl, rfl, SqL.of h1, a1, _, rfl, _, rfl, la, _, _, _, rfl, rfl, SqL.of h1, a2, by show 2 ≤ sizeLine; decide, fun lm hlm => ?_⟩
        have Sm := same_new (o := .lst [.int (gI lab r.one), .int (gI lab r.other)]) hlm
        have hlm3 : upd H2 lm (.lst [.int (gI lab r.one), .int (gI lab r.other)]) lm = some (.lst [.int (gI lab r.one), .int (gI lab r.other)]) := upd_same
        have nlm1 : lm ≠ la := (ne_of_none h1 hlm).symm
        have nlm2 : lm ≠ lh := (ne_of_none h2 hlm).symm
        have S4 := S2.trans Sm
        have h14 := Sm _ _ h1
        have h24 := Sm _ _ h2
        generalize upd H2 lm (.lst [.int (gI lab r.one), .int (gI lab r.other)]) = H4 at *
        refine ⟨_, rfl, n, rfl, by omega, by omega, ?_⟩
        refine for_range (n := ((n : Int)).toNat) (fun j σ H5 => ∃ (lab' hts' : List Int) (oa : Option V), σ = [some (.int n), some (.ref a), some (.ref la), some (.ref lh), some (.int r.one), some (.int r.other), some (.int r.rise), some (.int r.hand), some (.int (gI hts r.one + r.rise - gI hts r.other)), some (.ref lm), oa] ∧ Same H H5 ∧ H5 lm = some (.lst [.int (gI lab r.one), .int (gI lab r.other)]) ∧ H5 la = some (.lst (lab'.map V.int)) ∧ H5 lh = some (.lst (hts'.map V.int)) ∧ lab'.length = n ∧ hts'.length = n ∧
          ∀ m : Int, 0 ≤ m → m < n → (gI lab' m = if m < j ∧ gI lab m = gI lab r.other then gI lab r.one else gI lab m) ∧ gI hts' m = if m < j ∧ gI lab m = gI lab r.other then gI hts m + (gI hts r.one + r.rise - gI hts r.other) else gI hts m)
          ⟨lab, hts, _, rfl, S4, hlm3, h14, h24, l1, l2, fun m m0 m1 => ⟨by rw [if_neg (by omega)], by rw [if_neg (by omega)]⟩⟩ ?_ ?_
        · rintro j σ H5 hj ⟨lab', hts', oa, rfl, S5, h5m, h51, h52, k1, k2, hp⟩
          rw [Int.toNat_natCast] at hj
          have c0 : 0 ≤ (0 : Int) + (j : Int) := by omega
          have c1 : (0 : Int) + (j : Int) < (n : Int) := by omega
          have cj := hp _ c0 c1
          rw [if_neg (by omega), if_neg (by omega)] at cj
          refine ⟨_, rfl, _, rfl, la, _, _, _, rfl, rfl, SqL.of h51, at_gI c0 (by rw [k1]; exact c1), _, rfl, lm, _, _, .int (gI lab r.other), rfl, rfl, SqL.of h5m, rfl, rfl, _, rfl, ?_⟩
          refine ite2 (fun hc => ?_) (fun hc => ?_)
          · have hc' : gI lab (0 + (j : Int)) = gI lab r.other := cj.1.symm.trans (V.int.inj (of_decide_eq_true hc))
            refine ⟨_, rfl, lm, _, _, .int (gI lab r.one), rfl, rfl, SqL.of h5m, rfl, _, rfl, _, rfl, la, _, _, _, rfl, rfl, h51, ixN_of c0 (by rw [List.length_map, k1]; exact c1), ?_⟩
            have e1 : ((0 : Int) + (j : Int)).toNat = j := by omega
            have h52' : (upd H5 la (.lst ((lab'.map V.int).set ((0 : Int) + (j : Int)).toNat (.int (gI lab r.one))))) lh = some (.lst (hts'.map V.int)) := by rw [upd_ne hne.symm]; exact h52
            have hg : (hts'.map V.int)[j]? = some (.int (gI hts' (0 + (j : Int)))) := by
              rw [List.getElem?_map, List.getElem?_eq_getElem (by omega)]
              unfold gI
              rw [e1, List.getD_eq_getElem?_getD, List.getElem?_eq_getElem (by omega)]
              rfl
            refine ⟨_, rfl, _, rfl, lh, _, j, _, rfl, (by rw [Int.zero_add]), SqL.of h52', hg, _, rfl, _, _, rfl, rfl, lh, _, _, _, rfl, rfl, h52', ixN_of c0 (by rw [List.length_map, k2]; exact c1), ?_⟩
            refine ⟨lab'.set j (gI lab r.one), hts'.set j (gI hts' (0 + (j : Int)) + (gI hts r.one + r.rise - gI hts r.other)), _, rfl, fun c o e => ?_, ?_, ?_, ?_, by rw [List.length_set]; exact k1, by rw [List.length_set]; exact k2, fun m m0 m1 => ?_⟩
            · rw [upd_ne (ne_of_none e hlhH), upd_ne (ne_of_none e hlaH)]; exact S5 _ _ e
            · rw [upd_ne nlm2, upd_ne nlm1]; exact h5m
            · rw [upd_ne hne, upd_same, e1, ints_set]
            · rw [upd_same, e1, ints_set]
            · rw [gI_set (by omega) m0, gI_set (by omega) m0]
              by_cases em : m = (j : Int)
              · have em' : (0 : Int) + (j : Int) = m := by omega
                rw [em'] at hc' cj
                rw [if_pos em, if_pos em, if_pos ⟨by omega, hc'⟩, if_pos ⟨by omega, hc'⟩, em', cj.2]
                exact ⟨rfl, rfl⟩
              · rw [if_neg em, if_neg em]
                have := hp m m0 m1
                have ej : (m < ((j + 1 : Nat) : Int) ∧ gI lab m = gI lab r.other) ↔ (m < (j : Int) ∧ gI lab m = gI lab r.other) := by
                  constructor
                  · rintro ⟨u, v⟩; exact ⟨by omega, v⟩
                  · rintro ⟨u, v⟩; exact ⟨by omega, v⟩
                simp only [ej]
                exact this
          · have hc' : ¬ gI lab (0 + (j : Int)) = gI lab r.other := fun e => hc (decide_eq_true (by rw [cj.1, e]))
            refine ⟨lab', hts', _, rfl, S5, h5m, h51, h52, k1, k2, fun m m0 m1 => ?_⟩
            have := hp m m0 m1
            have ej : (m < ((j + 1 : Nat) : Int) ∧ gI lab m = gI lab r.other) ↔ (m < (j : Int) ∧ gI lab m = gI lab r.other) := by
              constructor
              · rintro ⟨u, v⟩
                refine ⟨?_, v⟩
                by_cases em : m = (j : Int)
                · have em' : (0 : Int) + (j : Int) = m := by omega
                  rw [em'] at hc'
                  exact absurd v hc'
                · omega
              · rintro ⟨u, v⟩; exact ⟨by omega, v⟩
            simp only [ej]
            exact this
        · rintro σ H5 ⟨lab', hts', oa, rfl, S5, h5m, h51, h52, k1, k2, hp⟩
          have q := lab_join (lab' := lab') (hts' := hts') VD V0 hL hH he' (fun m m0 m1 => by
              have := (hp m m0 m1).1
              rw [this]
              by_cases cc : gI lab m = gI lab r.other
              · rw [if_pos ⟨by omega, cc⟩, if_pos cc]
              · rw [if_neg (fun z => cc z.2), if_neg cc]) (fun m m0 m1 => by
              have := (hp m m0 m1).2
              rw [this]
              by_cases cc : gI lab m = gI lab r.other
              · rw [if_pos ⟨by omega, cc⟩, if_pos cc]
              · rw [if_neg (fun z => cc z.2), if_neg cc])
          exact ⟨lab', hts', _, _, _, _, _, _, _, rfl, S5, h51, h52, k1, k2, by rw [take_some hr]; exact q.1, by rw [take_some hr]; exact q.2⟩
    · rintro σ H2 ⟨lab, hts, o4, o5, o6, o7, o8, o9, o10, rfl, S2, h1, h2, l1, l2, hL, hH⟩
      rw [List.length_map, List.take_length] at hL hH
      refine ⟨_, rfl, _, rfl, by show 2 ≤ sizeLine; decide, fun p hp => ?_⟩
      have Sp := same_new (o := .tup [.ref la, .ref lh]) hp
      exact k p la lh lab hts _ (S2.trans Sp) upd_same (Sp _ _ h1) (Sp _ _ h2) hlaH hlhH l1 l2 hL hH
end
end Fen

set_option Elab.async false
set_option linter.all false
set_option maxRecDepth 100000
set_option maxHeartbeats 4000000
namespace Fen
open PySem L2
/-- a step as it lies: number, end, rise -/
structure Tri where
  p : Addr
  n : Int
  e : Int
  d : Int
def triV (t : Tri) : V := .ref t.p
def triT (t : Tri) : List V := [.int t.n, .int t.e, .int t.d]
structure Steps (H : Hp) (ls : Addr) (ad : List Addr) (cs : Nat → List Tri) : Prop where
  top : H ls = some (.lst (ad.map V.ref))
  row : ∀ (m : Nat) a, ad[m]? = some a → H a = some (.lst ((cs m).map triV))
  tri : ∀ (m : Nat) t, m < ad.length → t ∈ cs m → H t.p = some (.tup (triT t))
  nod : ad.Nodup
  out : ls ∉ ad
theorem Steps.same {H H' : Hp} {ls : Addr} {ad : List Addr} {cs : Nat → List Tri} (x : Steps H ls ad cs) (S : Same H H') : Steps H' ls ad cs :=
  ⟨S _ _ x.top, fun m a h => S _ _ (x.row m a h), fun m t h h' => S _ _ (x.tri m t h h'), x.nod, x.out⟩
def GoodTri (rs : List Run) (hs : List Int) (k : Nat) (m : Nat) (t : Tri) : Prop := 0 ≤ t.n ∧ t.n < k ∧ ∃ r, rs[t.n.toNat]? = some r ∧ hs.contains r.hand = false ∧ ((r.one = m ∧ t.e = r.other ∧ t.d = r.rise) ∨ (r.other = m ∧ t.e = r.one ∧ t.d = -r.rise))
def triC (t : Tri) : Int × Int × Int := (t.n, t.e, t.d)
/-- the steps from a mark, by the first k runs -/
def stepsF (rs : List Run) (hs : List Int) : Nat → Nat → List (Int × Int × Int)
  | 0, _ => []
  | k + 1, m => stepsF rs hs k m ++ (match rs[k]? with
    | none => []
    | some r => if hs.contains r.hand = true then [] else (if m = r.one.toNat then [((k : Int), r.other, r.rise)] else []) ++ (if m = r.other.toNat then [((k : Int), r.one, -r.rise)] else []))
structure StepsOk (rs : List Run) (hs : List Int) (k : Nat) (cs : Nat → List Tri) : Prop where
  sound : ∀ m t, t ∈ cs m → GoodTri rs hs k m t
  full : ∀ (i : Nat) r, i < k → rs[i]? = some r → hs.contains r.hand = false → (∃ t ∈ cs r.one.toNat, t.e = r.other) ∧ ∃ t ∈ cs r.other.toNat, t.e = r.one
  few : ∀ m, (cs m).length ≤ 2 * k
  cont : ∀ m, (cs m).map triC = stepsF rs hs k m
def addC (cs : Nat → List Tri) (m : Nat) (t : Tri) : Nat → List Tri := fun k => if k = m then cs m ++ [t] else cs k
theorem mem_addC {cs : Nat → List Tri} {m k : Nat} {t u : Tri} : u ∈ addC cs m t k ↔ u ∈ cs k ∨ (k = m ∧ u = t) := by
  unfold addC
  by_cases e : k = m
  · subst e; rw [if_pos rfl, List.mem_append, List.mem_singleton]; simp
  · rw [if_neg e]; simp [e]
theorem nodup_at {ad : List Addr} (h : ad.Nodup) {i j : Nat} {x : Addr} (h1 : ad[i]? = some x) (h2 : ad[j]? = some x) : i = j := by
  obtain ⟨a1, e1⟩ := List.getElem?_eq_some_iff.mp h1
  obtain ⟨a2, e2⟩ := List.getElem?_eq_some_iff.mp h2
  rcases Nat.lt_trichotomy i j with q | q | q
  · exact absurd (e1.trans e2.symm) (List.pairwise_iff_getElem.mp h i j a1 a2 q)
  · exact q
  · exact absurd (e2.trans e1.symm) (List.pairwise_iff_getElem.mp h j i a2 a1 q)
theorem Steps.push {H : Hp} {ls : Addr} {ad : List Addr} {cs : Nat → List Tri} (x : Steps H ls ad cs) {m : Nat} {a : Addr} (hm : ad[m]? = some a) {t : Addr} (ht : H t = none) {n e d : Int} :
    Steps (upd (upd H t (.tup [.int n, .int e, .int d])) a (.lst ((cs m).map triV ++ [.ref t]))) ls ad (addC cs m ⟨t, n, e, d⟩) := by
  have ha := x.row m a hm
  have nat : a ≠ t := ne_of_none ha ht
  have hmem : a ∈ ad := List.mem_of_getElem? hm
  have nls : ls ≠ a := fun z => x.out (z ▸ hmem)
  refine ⟨?_, fun k b hb => ?_, fun k u hk hu => ?_, x.nod, x.out⟩
  · rw [upd_ne nls, upd_ne (ne_of_none x.top ht)]; exact x.top
  · by_cases ek : k = m
    · subst ek
      rw [hm] at hb; cases hb
      rw [upd_same]; unfold addC; rw [if_pos rfl, List.map_append]; rfl
    · have nb : b ≠ a := fun z => ek (nodup_at x.nod hb (by rw [z]; exact hm))
      rw [upd_ne nb, upd_ne (ne_of_none (x.row k b hb) ht)]
      unfold addC; rw [if_neg ek]; exact x.row k b hb
  · rcases mem_addC.mp hu with q | ⟨rfl, rfl⟩
    · have hq := x.tri k u hk q
      have n1 : u.p ≠ a := fun z => by rw [z, ha] at hq; cases hq
      rw [upd_ne n1, upd_ne (ne_of_none hq ht)]; exact hq
    · show upd _ a _ t = _
      rw [upd_ne nat.symm, upd_same]; rfl
theorem StepsOk.up {rs : List Run} {hs : List Int} {k : Nat} {cs : Nat → List Tri} (x : StepsOk rs hs k cs) {r : Run} (hr : rs[k]? = some r) (h : hs.contains r.hand = true) : StepsOk rs hs (k + 1) cs :=
  ⟨fun m t ht => let ⟨a, b, c⟩ := x.sound m t ht; ⟨a, by omega, c⟩, fun i q hi hq hc => by
    by_cases e : i = k
    · subst e; rw [hr] at hq; cases hq; rw [h] at hc; cases hc
    · exact x.full i q (by omega) hq hc, fun m => by have := x.few m; omega, fun m => by
    show _ = stepsF rs hs k m ++ _
    rw [x.cont m, hr]
    simp only [h, if_true, List.append_nil]⟩
theorem StepsOk.add {rs : List Run} {hs : List Int} {k : Nat} {cs : Nat → List Tri} (x : StepsOk rs hs k cs) {r : Run} (hr : rs[k]? = some r) (h : hs.contains r.hand = false) (h1 : 0 ≤ r.one) (h2 : 0 ≤ r.other) {t u : Addr} :
    StepsOk rs hs (k + 1) (addC (addC cs r.one.toNat ⟨t, k, r.other, r.rise⟩) r.other.toNat ⟨u, k, r.one, -r.rise⟩) := by
  refine ⟨fun m q hq => ?_, fun i q hi hq hc => ?_, fun m => ?_, fun m => ?_⟩
  · rcases mem_addC.mp hq with hq | ⟨rfl, rfl⟩
    · rcases mem_addC.mp hq with hq | ⟨rfl, rfl⟩
      · obtain ⟨a, b, c⟩ := x.sound m q hq
        exact ⟨a, by omega, c⟩
      · exact ⟨by show (0 : Int) ≤ (k : Int); omega, by show (k : Int) < ((k + 1 : Nat) : Int); omega, r, by show rs[((k : Int)).toNat]? = _; rw [Int.toNat_natCast]; exact hr, h, .inl ⟨by omega, rfl, rfl⟩⟩
    · exact ⟨by show (0 : Int) ≤ (k : Int); omega, by show (k : Int) < ((k + 1 : Nat) : Int); omega, r, by show rs[((k : Int)).toNat]? = _; rw [Int.toNat_natCast]; exact hr, h, .inr ⟨by omega, rfl, rfl⟩⟩
  · by_cases e : i = k
    · subst e; rw [hr] at hq; cases hq
      exact ⟨⟨_, mem_addC.mpr (.inl (mem_addC.mpr (.inr ⟨rfl, rfl⟩))), rfl⟩, ⟨_, mem_addC.mpr (.inr ⟨rfl, rfl⟩), rfl⟩⟩
    · obtain ⟨⟨a, a1, a2⟩, b, b1, b2⟩ := x.full i q (by omega) hq hc
      exact ⟨⟨a, mem_addC.mpr (.inl (mem_addC.mpr (.inl a1))), a2⟩, ⟨b, mem_addC.mpr (.inl (mem_addC.mpr (.inl b1))), b2⟩⟩
  · have := x.few m
    unfold addC
    split
    · rename_i e1
      rw [List.length_append]
      split
      · rename_i e2; subst e1; rw [← e2] at *; rw [List.length_append]; simp; omega
      · subst e1; simp; omega
    · split
      · rename_i e2; subst e2; rw [List.length_append]; simp; omega
      · omega
  · show _ = stepsF rs hs k m ++ _
    rw [hr]
    simp only [h, Bool.false_eq_true, if_false]
    unfold addC
    by_cases c2 : m = r.other.toNat
    · subst c2
      rw [if_pos rfl, if_pos rfl]
      by_cases c1 : r.other.toNat = r.one.toNat
      · rw [if_pos c1, if_pos c1, List.map_append, List.map_append, ← c1, x.cont, List.append_assoc]; rfl
      · rw [if_neg c1, if_neg c1, List.map_append, x.cont]; rfl
    · rw [if_neg c2, if_neg c2, List.append_nil]
      by_cases c1 : m = r.one.toNat
      · subst c1; rw [if_pos rfl, if_pos rfl, List.map_append, x.cont]; rfl
      · rw [if_neg c1, if_neg c1, x.cont, List.append_nil]
def spSteps (K : PySem.W.Frag) : Sp := fun vs H Q _ => ∃ (n : Nat) (a s : Addr) (rs : List Run) (hs : List Int), vs = [.int n, .ref a, .ref s] ∧ SqL K H a (rs.map runV) ∧ Runs H rs ∧ InMarks n rs ∧ SqL K H s (hs.map V.int) ∧ n ≤ 1000 ∧ rs.length ≤ 1000 ∧
  ∀ (ls : Addr) (ad : List Addr) (cs : Nat → List Tri) H', Same H H' → ad.length = n → Steps H' ls ad cs → StepsOk rs hs rs.length cs → (∀ x ∈ ad, H x = none) → H ls = none → Q (.ref ls) H'
section
variable {P : Program} {w : PySem.World} {K : PySem.W.Frag} {mg : Str → Option Value} {base : Heap}
abbrev Nst : List Str := ["size", "runs", "struck", "steps", "number", "one", "other", "rise", "hand"]
theorem scSteps : FnScope Nst ["size", "runs", "struck"] (defScope pStepsFrom) := ⟨rfl, rfl, rfl, by decide +kernel, rfl, by decide +kernel, by decide +kernel⟩
theorem ndSteps : (["mark"] : List Str).Nodup := by decide +kernel
theorem ok_steps {f : Addr} {fd : FuncData} (F : Fun K "steps_from" "steps_from" pStepsFrom f fd) (T : Txt K mg) (T4 : mg "enumerate" = none) : FnOk P w K mg base CX0 1 f fd ["size", "runs", "struck"] (spSteps K) := by
  refine F.ok scSteps (fun vs H Q E h => ?_) (fun cdv A outer s0 H vs Q E hr h => ?_)
  · obtain ⟨n, a, s, rs, hs, rfl, _⟩ := h
    rfl
  · obtain ⟨n, a, s, rs, hs, rfl, ha, R, VM, hsq, hn, hz, k⟩ := h
    have nd := scSteps.nd
    refine ⟨_, pss_cons (ps_setL (i := 3) rfl nd rfl rfl (CompScope.of (N := Nst) (osc := defScope pStepsFrom) (Nc := ["mark"]) (sub := [none]) (by decide +kernel)) (pi_range1 rfl T.range (pa_cons (pv 0) pa_nil))
        (fun _ _ _ _ _ => pg_name (i := 0) ndSteps rfl (Or.inl rfl) (Or.inr rfl)) (gk_name rfl) gm_name (fun _ _ _ _ _ => pif0) (fun _ _ _ _ _ => pe_lst pa_nil))
      (pss_cons (ps_for PassesOwn.never rfl (pi_enum rfl T4 (pa_cons (pv 1) pa_nil)) (pg_tup (n := 2) rfl (pgs_cons (pg_name (i := 4) nd rfl (Or.inl rfl)) (pgs_cons (pg_tup (n := 4) rfl (pgs_cons (pg_name (i := 5) nd rfl (Or.inl rfl)) (pgs_cons (pg_name (i := 6) nd rfl (Or.inl rfl)) (pgs_cons (pg_name (i := 7) nd rfl (Or.inl rfl)) (pgs_cons (pg_name (i := 8) nd rfl (Or.inl rfl)) pgs_nil))))) pgs_nil)))
        (pss_one (ps_if (pt_cmpR op_notIn_seq (pv 8) (pv 2) (by with_unfolding_all rfl))
          (pss_cons (ps_expr (pe_bm PySem.F.plainAttrs_list PySem.F.slot_list_append PySem.F.type_list_append mt_append (pe_ix ix_list (pv 3) (pv 5) (fun _ _ => rfl)) (pa_cons (pe_tup (pa_cons (pv 4) (pa_cons (pv 6) (pa_cons (pv 7) pa_nil)))) pa_nil)))
          (pss_one (ps_expr (pe_bm PySem.F.plainAttrs_list PySem.F.slot_list_append PySem.F.type_list_append mt_append (pe_ix ix_list (pv 3) (pv 6) (fun _ _ => rfl)) (pa_cons (pe_tup (pa_cons (pv 4) (pa_cons (pv 5) (pa_cons (pe_un un_neg (pv 7)) pa_nil)))) pa_nil))))) pss_nil)))
      (pss_one (ps_ret (pv 3)))), ?_⟩
    refine ⟨_, rfl, n, rfl, by omega, by omega, fun ls hls => ?_⟩
    refine comp_range (Pv := fun i xs H2 => ∃ ad : List Addr, xs = ad.map V.ref ∧ ad.length = i ∧ H2 ls = some (.lst xs) ∧ Same H H2 ∧ (∀ x ∈ ad, H2 x = some (.lst [])) ∧ ad.Nodup ∧ ls ∉ ad ∧ ∀ x ∈ ad, H x = none)
      ⟨[], rfl, rfl, upd_same, same_new hls, (fun x h => by cases h), List.nodup_nil, (by simp), (fun x h => by cases h)⟩ (fun i xs H2 _ ⟨ad, _, _, h, _⟩ => h) ?_ ?_
    · rintro i xs H2 hi ⟨ad, rfl, hal, h2, S2, hal2, hnd, hno, hfr⟩
      refine gnoif ?_
      refine ⟨by show 0 ≤ sizeLine; exact Nat.zero_le _, fun l hl => ⟨same_new hl _ _ h2, ?_, ad ++ [l], by rw [List.map_append]; rfl, by rw [List.length_append, hal]; rfl, upd_same, fun c o e => ?_, fun x hx => ?_, ?_, ?_, fun x hx => ?_⟩⟩
      · rw [List.length_map, sizeLine_eq]; omega
      · rw [upd_ne (ne_of_none e hls)]; exact same_new hl _ _ (S2 c o e)
      · have nls : ls ≠ l := ne_of_none h2 hl
        rcases List.mem_append.mp hx with q | q
        · have := hal2 x q
          have nx : x ≠ ls := fun z => hno (z ▸ q)
          rw [upd_ne nx, upd_ne (ne_of_none this hl)]; exact this
        · rw [List.mem_singleton.mp q, upd_ne nls.symm, upd_same]
      · exact nd_snoc hnd fun q => by have := hal2 l q; rw [hl] at this; cases this
      · intro q
        rcases List.mem_append.mp q with q | q
        · exact hno q
        · exact ne_of_none h2 hl (List.mem_singleton.mp q)
      · rcases List.mem_append.mp hx with q | q
        · exact hfr x q
        · rw [List.mem_singleton.mp q]; exact S2.free hl
    rintro xs H2 ⟨ad, rfl, hal, h2, S2, hal2, hnd, hno, hfr⟩
    rw [Int.toNat_natCast] at hal
    have St0 : Steps H2 ls ad fun _ => [] := ⟨h2, fun m x h => hal2 x (List.mem_of_getElem? h), (fun m t _ h => by cases h), hnd, hno⟩
    have Ok0 : StepsOk rs hs 0 fun _ => [] := ⟨(fun m t h => by cases h), (fun i r h => absurd h (Nat.not_lt_zero _)), (fun m => Nat.zero_le _), (fun m => rfl)⟩
    refine ⟨_, rfl, a, _, rfl, S2.seq ha, for_enum (K := K) (a := a) (xs := rs.map runV) (fun i σ H3 => ∃ (cs : Nat → List Tri) (o4 o5 o6 o7 o8 : Option V), σ = [some (.int n), some (.ref a), some (.ref s), some (.ref ls), o4, o5, o6, o7, o8] ∧ Same H H3 ∧ Steps H3 ls ad cs ∧ StepsOk rs hs i cs)
      ⟨_, _, _, _, _, _, rfl, S2, St0, Ok0⟩ (fun i σ H3 _ ⟨_, _, _, _, _, _, _, S, _⟩ => S.seq ha) ?_ ?_⟩
    · rintro i x t σ H3 hx ht ⟨cs, o4, o5, o6, o7, o8, rfl, S3, St, Ok⟩
      obtain ⟨r, hr, rfl, hrt⟩ := R.at_ hx
      have V0 := VM r (List.mem_of_getElem? hr)
      have hil : i < rs.length := (List.getElem?_eq_some_iff.mp hr).1
      have S4 := S3.trans (same_new (o := .tup [.int i, .ref r.p]) ht)
      have St4 := St.same (same_new (o := .tup [.int i, .ref r.p]) ht)
      refine ⟨t, _, rfl, SqT.of upd_same, rfl, _, _, rfl, _, _, rfl, r.p, _, rfl, SqT.of (S4 _ _ hrt), rfl, _, _, rfl, _, _, rfl, _, _, rfl, _, _, rfl, rfl, rfl, ?_⟩
      generalize upd H3 t (.tup [.int i, .ref r.p]) = H4 at *
      refine ⟨_, rfl, _, rfl, s, _, rfl, .inl (S4.seq hsq), rfl, flat_ints hs, _, rfl, ?_⟩
      rw [if_pos rfl, inV_ints]
      cases hc : hs.contains r.hand with
      | true =>
        refine iteF ⟨cs, _, _, _, _, _, rfl, S4, St4, Ok.up hr hc⟩
      | false =>
        refine iteT ?_
        obtain ⟨l1, e1⟩ : ∃ l1, ad[r.one.toNat]? = some l1 := ⟨_, List.getElem?_eq_getElem (by omega)⟩
        obtain ⟨l2, e2⟩ : ∃ l2, ad[r.other.toNat]? = some l2 := ⟨_, List.getElem?_eq_getElem (by omega)⟩
        have at1 : atI (ad.map V.ref) r.one = some (.ref l1) := by
          have q := atI_nat (xs := ad.map V.ref) (j := r.one.toNat) (v := .ref l1) (by rw [List.getElem?_map, e1]; rfl)
          rwa [Int.toNat_of_nonneg V0.1] at q
        have at2 : atI (ad.map V.ref) r.other = some (.ref l2) := by
          have q := atI_nat (xs := ad.map V.ref) (j := r.other.toNat) (v := .ref l2) (by rw [List.getElem?_map, e2]; rfl)
          rwa [Int.toNat_of_nonneg V0.2.2.1] at q
        have hl1 := St4.row _ _ e1
        refine ⟨_, rfl, _, rfl, ls, _, _, _, rfl, rfl, SqL.of St4.top, at1, .inl ⟨rfl, _, SqL.of hl1⟩, _, rfl, _, rfl, _, rfl, by show 3 ≤ sizeLine; decide, fun t1 ht1 => ?_⟩
        have few := Ok.few r.one.toNat
        refine ⟨l1, _, _, rfl, rfl, same_new ht1 _ _ hl1, by rw [List.length_map, sizeLine_eq]; omega, ?_⟩
        have St5 := St4.push e1 ht1 (n := i) (e := r.other) (d := r.rise)
        have hl1H : H l1 = none := hfr l1 (List.mem_of_getElem? e1)
        have hl2H : H l2 = none := hfr l2 (List.mem_of_getElem? e2)
        have S5 : Same H (upd (upd H4 t1 (.tup [.int i, .int r.other, .int r.rise])) l1 (.lst ((cs r.one.toNat).map triV ++ [.ref t1]))) := fun c o e => by rw [upd_ne (ne_of_none e hl1H)]; exact same_new ht1 _ _ (S4 c o e)
        generalize upd (upd H4 t1 (.tup [.int i, .int r.other, .int r.rise])) l1 (.lst ((cs r.one.toNat).map triV ++ [.ref t1])) = H5 at *
        have hl2 := St5.row _ _ e2
        refine ⟨_, rfl, _, rfl, ls, _, _, _, rfl, rfl, SqL.of St5.top, at2, .inl ⟨rfl, _, SqL.of hl2⟩, _, rfl, _, rfl, _, rfl, _, rfl, by show 3 ≤ sizeLine; decide, fun t2 ht2 => ?_⟩
        have few2 : (addC cs r.one.toNat ⟨t1, i, r.other, r.rise⟩ r.other.toNat).length ≤ 2 * i + 1 := by
          have := Ok.few r.other.toNat
          unfold addC
          split
          · rename_i q; rw [← q, List.length_append]; simp; omega
          · omega
        refine ⟨l2, _, _, rfl, rfl, same_new ht2 _ _ hl2, by rw [List.length_map, sizeLine_eq]; omega, ?_⟩
        have St6 := St5.push e2 ht2 (n := i) (e := r.one) (d := -r.rise)
        refine ⟨_, _, _, _, _, _, rfl, fun c o e => ?_, St6, Ok.add hr hc V0.1 V0.2.2.1⟩
        rw [upd_ne (ne_of_none e hl2H)]; exact same_new ht2 _ _ (S5 c o e)
    · rintro σ H3 ⟨cs, o4, o5, o6, o7, o8, rfl, S3, St, Ok⟩
      rw [List.length_map] at Ok
      exact ⟨_, rfl, k ls ad cs H3 S3 hal St Ok hfr hls⟩
end
end Fen

set_option Elab.async false
set_option linter.all false
set_option maxRecDepth 100000
set_option maxHeartbeats 4000000
namespace Fen
open PySem L2
/-- a tree's mark as it lies -/
structure Nd where
  m : Int
  t : Addr
  h : Int
  lt : Addr
  line : List Int
def ndK (x : Nd) : Key × V := (Sum.inl x.m, .ref x.t)
def keysT (ns : List Nd) : List Int := ns.map Nd.m
structure TreeOk (rs : List Run) (hs : List Int) (start : Int) (n : Nat) (ns : List Nd) : Prop where
  nod : (keysT ns).Nodup
  inm : ∀ x ∈ ns, 0 ≤ x.m ∧ x.m < n
  walk : ∀ x ∈ ns, walkF rs start 0 x.line = some (x.m, x.h)
  runs : ∀ x ∈ ns, ∀ z ∈ x.line, 0 ≤ z ∧ z < (rs.length : Int) ∧ hs.contains (runAt rs z).hand = false ∧ (runAt rs z).one ∈ keysT ns ∧ (runAt rs z).other ∈ keysT ns
  uniq : ∀ x ∈ ns, ∀ y ∈ ns, ∀ (i j : Nat) z, x.line[i]? = some z → y.line[j]? = some z → x.line.take (i + 1) = y.line.take (j + 1)
  start : start ∈ keysT ns
  few : ∀ x ∈ ns, x.line.length < ns.length
  keep : ∀ x ∈ ns, ∀ z ∈ x.line, ∃ u ∈ ns, ∃ v ∈ ns, u.m = (runAt rs z).one ∧ v.m = (runAt rs z).other ∧ v.h - u.h = (runAt rs z).rise
theorem walkF_snoc {rs : List Run} : ∀ {here h : Int} {line : List Int} {e t z : Int}, walkF rs here h line = some (e, t) → walkF rs here h (line ++ [z]) = walkF rs e t [z]
  | here, h, [], e, t, z, q => by
    have : (here, h) = (e, t) := Option.some.inj q
    injection this with a b
    subst a b; rfl
  | here, h, n :: rest, e, t, z, q => by
    rw [List.cons_append]
    show (if 0 ≤ n ∧ n < (rs.length : Int) then _ else _) = _
    have q' : (if 0 ≤ n ∧ n < (rs.length : Int) then (match stepR (runAt rs n) here with | some (e, d) => walkF rs e (h + d) rest | none => none) else none) = some (e, t) := q
    by_cases c : 0 ≤ n ∧ n < (rs.length : Int)
    · rw [if_pos c] at q' ⊢
      cases hs : stepR (runAt rs n) here with
      | none => rw [hs] at q'; cases q'
      | some ed => rw [hs] at q'; exact walkF_snoc q'
    · rw [if_neg c] at q'; cases q'
theorem mem_keys {ns : List Nd} {k : Int} : k ∈ keysT ns ↔ ∃ x ∈ ns, x.m = k := by unfold keysT; exact List.mem_map
theorem keys_snoc (ns : List Nd) (x : Nd) : keysT (ns ++ [x]) = keysT ns ++ [x.m] := by unfold keysT; rw [List.map_append]; rfl
theorem TreeOk.add {rs : List Run} {hs : List Int} {start : Int} {n : Nat} {ns : List Nd} (X : TreeOk rs hs start n ns) (VM : InMarks n rs) {p : Nd} (hp : p ∈ ns) {t : Tri} (hg : GoodTri rs hs rs.length p.m.toNat t) (hn : t.e ∉ keysT ns) {tt lt : Addr} :
    TreeOk rs hs start n (ns ++ [⟨t.e, tt, p.h + t.d, lt, p.line ++ [t.n]⟩]) := by
  obtain ⟨g0, g1, r, hr, hc, hg⟩ := hg
  have pm := X.inm p hp
  have era : runAt rs t.n = r := by
    have := (runAt_ok g0 g1).1
    rw [hr] at this; exact (Option.some.inj this).symm
  have hmr : r ∈ rs := List.mem_of_getElem? hr
  have Vr := VM r hmr
  have epm : ((p.m.toNat : Nat) : Int) = p.m := by omega
  rw [epm] at hg
  have pk : p.m ∈ keysT ns := mem_keys.mpr ⟨p, hp, rfl⟩
  have hstep : stepR (runAt rs t.n) p.m = some (t.e, t.d) := by
    rw [era]; unfold stepR
    rcases hg with ⟨a, b, c⟩ | ⟨a, b, c⟩
    · rw [if_pos a.symm, b, c]
    · by_cases q : p.m = r.one
      · exact absurd (by rw [b, ← q]; exact pk) hn
      · rw [if_neg q, if_pos a.symm, b, c]
  have ends : (r.one ∈ keysT ns ++ [t.e]) ∧ r.other ∈ keysT ns ++ [t.e] := by
    rcases hg with ⟨a, b, c⟩ | ⟨a, b, c⟩
    · exact ⟨List.mem_append_left _ (a ▸ pk), List.mem_append_right _ (by rw [b]; exact List.mem_cons_self)⟩
    · exact ⟨List.mem_append_right _ (by rw [b]; exact List.mem_cons_self), List.mem_append_left _ (a ▸ pk)⟩
  have hfresh : ∀ x ∈ ns, ∀ (i : Nat), x.line[i]? ≠ some t.n := fun x hx i hz => by
    obtain ⟨_, _, _, k1, k2⟩ := X.runs x hx t.n (List.mem_of_getElem? hz)
    rw [era] at k1 k2
    rcases hg with ⟨a, b, c⟩ | ⟨a, b, c⟩
    · exact hn (b ▸ k2)
    · exact hn (b ▸ k1)
  have few := X.few p hp
  refine ⟨?_, fun x hx => ?_, fun x hx => ?_, fun x hx z hz => ?_, fun x hx y hy i j z hi hj => ?_, ?_, fun x hx => ?_, fun x hx z hz => ?_⟩
  · rw [keys_snoc]; exact nd_snoc X.nod hn
  · rcases List.mem_append.mp hx with q | q
    · exact X.inm x q
    · rw [List.mem_singleton.mp q]
      rcases hg with ⟨a, b, c⟩ | ⟨a, b, c⟩
      · show 0 ≤ t.e ∧ t.e < n; rw [b]; exact Vr.2.2
      · show 0 ≤ t.e ∧ t.e < n; rw [b]; exact ⟨Vr.1, Vr.2.1⟩
  · rcases List.mem_append.mp hx with q | q
    · exact X.walk x q
    · rw [List.mem_singleton.mp q]
      show walkF rs start 0 (p.line ++ [t.n]) = some (t.e, p.h + t.d)
      rw [walkF_snoc (X.walk p hp), walkF_go g0 g1 hstep]
      rfl
  · rw [keys_snoc]
    have old : ∀ x ∈ ns, ∀ z ∈ x.line, 0 ≤ z ∧ z < (rs.length : Int) ∧ hs.contains (runAt rs z).hand = false ∧ (runAt rs z).one ∈ keysT ns ++ [t.e] ∧ (runAt rs z).other ∈ keysT ns ++ [t.e] := fun x q z hz => by
      obtain ⟨a, b, c, d, e⟩ := X.runs x q z hz
      exact ⟨a, b, c, List.mem_append_left _ d, List.mem_append_left _ e⟩
    rcases List.mem_append.mp hx with q | q
    · exact old x q z hz
    · rw [List.mem_singleton.mp q] at hz
      rcases List.mem_append.mp hz with hz | hz
      · exact old p hp z hz
      · rw [List.mem_singleton.mp hz, era]
        exact ⟨g0, g1, hc, ends.1, ends.2⟩
  · have look : ∀ (i : Nat) z, (p.line ++ [t.n])[i]? = some z → (i < p.line.length ∧ p.line[i]? = some z ∧ (p.line ++ [t.n]).take (i + 1) = p.line.take (i + 1)) ∨ (i = p.line.length ∧ z = t.n) := fun i z hz => by
      by_cases c : i < p.line.length
      · rw [List.getElem?_append_left c] at hz
        exact .inl ⟨c, hz, by rw [List.take_append_of_le_length (by omega)]⟩
      · have hi := (List.getElem?_eq_some_iff.mp hz).1
        rw [List.length_append] at hi
        have hi' : i < p.line.length + 1 := hi
        have ei : i = p.line.length := by omega
        subst ei
        rw [List.getElem?_append_right (Nat.le_refl _), Nat.sub_self] at hz
        exact .inr ⟨rfl, (Option.some.inj hz).symm⟩
    rcases List.mem_append.mp hx with qx | qx <;> rcases List.mem_append.mp hy with qy | qy
    · exact X.uniq x qx y qy i j z hi hj
    · rw [List.mem_singleton.mp qy] at hj ⊢
      rcases look j z hj with ⟨c, h1, h2⟩ | ⟨c, h1⟩
      · show _ = (p.line ++ [t.n]).take (j + 1)
        rw [h2]; exact X.uniq x qx p hp i j z hi h1
      · exact absurd (h1 ▸ hi) (hfresh x qx i)
    · rw [List.mem_singleton.mp qx] at hi ⊢
      rcases look i z hi with ⟨c, h1, h2⟩ | ⟨c, h1⟩
      · show (p.line ++ [t.n]).take (i + 1) = _
        rw [h2]; exact X.uniq p hp y qy i j z h1 hj
      · exact absurd (h1 ▸ hj) (hfresh y qy j)
    · rw [List.mem_singleton.mp qx] at hi ⊢
      rw [List.mem_singleton.mp qy] at hj ⊢
      show (p.line ++ [t.n]).take (i + 1) = (p.line ++ [t.n]).take (j + 1)
      rcases look i z hi with ⟨c, h1, h2⟩ | ⟨c, h1⟩ <;> rcases look j z hj with ⟨c', h1', h2'⟩ | ⟨c', h1'⟩
      · rw [h2, h2']; exact X.uniq p hp p hp i j z h1 h1'
      · exact absurd (h1' ▸ h1) (hfresh p hp i)
      · exact absurd (h1 ▸ h1') (hfresh p hp j)
      · rw [c, c']
  · rw [keys_snoc]; exact List.mem_append_left _ X.start
  · rw [List.length_append]
    show x.line.length < ns.length + 1
    rcases List.mem_append.mp hx with q | q
    · have := X.few x q; omega
    · rw [List.mem_singleton.mp q]
      show (p.line ++ [t.n]).length < _
      rw [List.length_append]
      show p.line.length + 1 < _
      omega
  · have old : ∀ x ∈ ns, ∀ z ∈ x.line, ∃ u ∈ ns ++ [⟨t.e, tt, p.h + t.d, lt, p.line ++ [t.n]⟩], ∃ v ∈ ns ++ [⟨t.e, tt, p.h + t.d, lt, p.line ++ [t.n]⟩], u.m = (runAt rs z).one ∧ v.m = (runAt rs z).other ∧ v.h - u.h = (runAt rs z).rise := fun x q z hz => by
      obtain ⟨u, hu, v, hv, e⟩ := X.keep x q z hz
      exact ⟨u, List.mem_append_left _ hu, v, List.mem_append_left _ hv, e⟩
    rcases List.mem_append.mp hx with q | q
    · exact old x q z hz
    · rw [List.mem_singleton.mp q] at hz
      rcases List.mem_append.mp hz with hz | hz
      · exact old p hp z hz
      · rw [List.mem_singleton.mp hz, era]
        rcases hg with ⟨a, b, c⟩ | ⟨a, b, c⟩
        · exact ⟨p, List.mem_append_left _ hp, _, List.mem_append_right _ List.mem_cons_self, a.symm, b, by show p.h + t.d - p.h = r.rise; omega⟩
        · exact ⟨_, List.mem_append_right _ List.mem_cons_self, p, List.mem_append_left _ hp, b, a.symm, by show p.h - (p.h + t.d) = r.rise; omega⟩
theorem TreeOk.len {rs : List Run} {hs : List Int} {start : Int} {n : Nat} {ns : List Nd} (X : TreeOk rs hs start n ns) : ns.length ≤ n := by
  have h := nodup_len (xs := (List.range n).map Int.ofNat) X.nod fun k hk => by
    obtain ⟨x, hx, rfl⟩ := mem_keys.mp hk
    have := X.inm x hx
    refine List.mem_map.mpr ⟨x.m.toNat, List.mem_range.mpr (by omega), ?_⟩
    show ((x.m.toNat : Nat) : Int) = x.m
    omega
  unfold keysT at h
  simpa using h
def Closed (cs : Nat → List Tri) (ns : List Nd) (m : Int) : Prop := ∀ t ∈ cs m.toNat, t.e ∈ keysT ns
theorem Closed.snoc {cs : Nat → List Tri} {ns : List Nd} {m : Int} {x : Nd} (h : Closed cs ns m) : Closed cs (ns ++ [x]) m := fun t ht => by rw [keys_snoc]; exact List.mem_append_left _ (h t ht)
def usable (hs : List Int) (rs : List Run) : List Run := rs.filter fun r => !hs.contains r.hand
/-- a closed tree has all that hangs together with its start -/
theorem tree_full {rs : List Run} {hs : List Int} {start : Int} {n : Nat} {ns : List Nd} {cs : Nat → List Tri} (VM : InMarks n rs) (X : TreeOk rs hs start n ns) (So : StepsOk rs hs rs.length cs) (hc : ∀ x ∈ ns, Closed cs ns x.m) {j : Int} (c : Conn (usable hs rs) start j) : j ∈ keysT ns := by
  induction c with
  | refl => exact X.start
  | go r c m e ih =>
    obtain ⟨x, hx, ex⟩ := mem_keys.mp ih
    obtain ⟨mr, mc⟩ := List.mem_filter.mp m
    have mc' : hs.contains r.hand = false := by simpa using mc
    obtain ⟨i, hi⟩ := List.getElem?_of_mem mr
    obtain ⟨⟨t1, a1, a2⟩, t2, b1, b2⟩ := So.full i r (List.getElem?_eq_some_iff.mp hi).1 hi mc'
    have cl := hc x hx
    rcases e with ⟨rfl, rfl⟩ | ⟨rfl, rfl⟩
    · rw [← a2]; exact cl t1 (by rw [ex]; exact a1)
    · rw [← b2]; exact cl t2 (by rw [ex]; exact b1)
theorem walkF_conn {rs : List Run} {hs : List Int} : ∀ {here h : Int} {line : List Int} {e t : Int}, walkF rs here h line = some (e, t) → (∀ z ∈ line, hs.contains (runAt rs z).hand = false) → Conn (usable hs rs) here e
  | here, h, [], e, t, q, _ => by
    have : (here, h) = (e, t) := Option.some.inj q
    injection this with a b
    subst a; exact .refl _
  | here, h, n :: rest, e, t, q, hu => by
    have hin := walkF_in q n List.mem_cons_self
    have q' : (if 0 ≤ n ∧ n < (rs.length : Int) then (match stepR (runAt rs n) here with | some (e, d) => walkF rs e (h + d) rest | none => none) else none) = some (e, t) := q
    rw [if_pos hin] at q'
    have mr := (runAt_ok hin.1 hin.2).2.2
    have mu : runAt rs n ∈ usable hs rs := List.mem_filter.mpr ⟨mr, by rw [hu n List.mem_cons_self]; rfl⟩
    cases hs' : stepR (runAt rs n) here with
    | none => rw [hs'] at q'; cases q'
    | some ed =>
      rw [hs'] at q'
      have ih := walkF_conn q' fun z hz => hu z (List.mem_cons_of_mem _ hz)
      refine Conn.trans ?_ ih
      unfold stepR at hs'
      by_cases c1 : here = (runAt rs n).one
      · rw [if_pos c1] at hs'
        cases hs'
        exact .go _ (.refl _) mu (.inl ⟨c1.symm, rfl⟩)
      · rw [if_neg c1] at hs'
        by_cases c2 : here = (runAt rs n).other
        · rw [if_pos c2] at hs'
          cases hs'
          exact .go _ (.refl _) mu (.inr ⟨c2.symm, rfl⟩)
        · rw [if_neg c2] at hs'; cases hs'
theorem tree_keys {rs : List Run} {hs : List Int} {start : Int} {n : Nat} {ns : List Nd} {cs : Nat → List Tri} (VM : InMarks n rs) (X : TreeOk rs hs start n ns) (So : StepsOk rs hs rs.length cs) (hc : ∀ x ∈ ns, Closed cs ns x.m) (j : Int) : j ∈ keysT ns ↔ Conn (usable hs rs) start j := by
  refine ⟨fun h => ?_, tree_full VM X So hc⟩
  obtain ⟨x, hx, rfl⟩ := mem_keys.mp h
  exact walkF_conn (X.walk x hx) fun z hz => (X.runs x hx z hz).2.2.1
end Fen

set_option Elab.async false
set_option linter.all false
set_option maxRecDepth 100000
set_option maxHeartbeats 4000000
namespace Fen
open PySem L2
structure TreeH (K : PySem.W.Frag) (H : Hp) (dt : Addr) (ns : List Nd) : Prop where
  dict : H dt = some (.dK (ns.map ndK))
  node : ∀ x ∈ ns, H x.t = some (.tup [.int x.h, .ref x.lt]) ∧ SqT K H x.lt (x.line.map V.int)
theorem TreeH.same {K : PySem.W.Frag} {H H' : Hp} {dt : Addr} {ns : List Nd} (X : TreeH K H dt ns) (S : Same H H') : TreeH K H' dt ns :=
  ⟨S _ _ X.dict, fun x hx => ⟨S _ _ (X.node x hx).1, sq_same (tp := true) S (X.node x hx).2⟩⟩
/-- what may be changed beside tuples -/
def NoTup : HO → Prop
  | .tup _ => False
  | .frz _ _ => False
  | _ => True
theorem sqT_upd {K : PySem.W.Frag} {H : Hp} {d a : Addr} {o o' : HO} {xs : List V} (h : SqT K H a xs) (hd : H d = some o) (hn : NoTup o) : SqT K (upd H d o') a xs := by
  rcases h with (h | ⟨ob, h⟩) | h
  · have : a ≠ d := fun z => by rw [z, hd] at h; cases h; exact hn
    exact .inl (.inl (by rw [upd_ne this]; exact h))
  · have : a ≠ d := fun z => by rw [z, hd] at h; cases h; exact hn
    exact .inl (.inr ⟨ob, by rw [upd_ne this]; exact h⟩)
  · exact .inr h
theorem tup_upd {H : Hp} {d a : Addr} {o o' : HO} {xs : List V} (h : H a = some (.tup xs)) (hd : H d = some o) (hn : NoTup o) : upd H d o' a = some (.tup xs) := by
  have : a ≠ d := fun z => by rw [z, hd] at h; cases h; exact hn
  rw [upd_ne this]; exact h
theorem TreeH.upd {K : PySem.W.Frag} {H : Hp} {dt d : Addr} {o o' : HO} {ns : List Nd} (X : TreeH K H dt ns) (hd : H d = some o) (hn : NoTup o) (ne : dt ≠ d) : TreeH K (L2.upd H d o') dt ns :=
  ⟨by rw [upd_ne ne]; exact X.dict, fun x hx => ⟨tup_upd (X.node x hx).1 hd hn, sqT_upd (X.node x hx).2 hd hn⟩⟩
theorem keyN (k : Int) : kV (Sum.inl k) = .int k := rfl
theorem valV_none {ns : List Nd} {k : Int} : valV (ns.map ndK) (Sum.inl k) = none ↔ k ∉ keysT ns := by
  constructor
  · intro h hk
    obtain ⟨x, hx, rfl⟩ := mem_keys.mp hk
    exact valV_not h (List.mem_map.mpr ⟨ndK x, List.mem_map_of_mem hx, rfl⟩)
  · intro h
    cases e : valV (ns.map ndK) (Sum.inl k) with
    | none => rfl
    | some v =>
      obtain ⟨y, hy, ey⟩ := List.mem_map.mp (valV_in e)
      obtain ⟨x, hx, rfl⟩ := List.mem_map.mp hy
      exact absurd (mem_keys.mpr ⟨x, hx, Sum.inl.inj ey⟩) h
theorem valV_some {ns : List Nd} (hn : (keysT ns).Nodup) {x : Nd} (hx : x ∈ ns) : valV (ns.map ndK) (Sum.inl x.m) = some (.ref x.t) := by
  induction ns with
  | nil => cases hx
  | cons y ns ih =>
    unfold keysT at hn
    rw [List.map_cons, List.nodup_cons] at hn
    rw [List.map_cons]
    rcases List.mem_cons.mp hx with rfl | q
    · exact valV_pos (p := ndK x) rfl
    · have : ¬ (ndK y).1 = Sum.inl x.m := fun z => hn.1 (by rw [show y.m = x.m from Sum.inl.inj z]; exact List.mem_map_of_mem q)
      rw [valV_neg this]
      exact ih hn.2 q
/-- what holds amid the tree's growing -/
structure TI (K : PySem.W.Frag) (H0 : Hp) (rs : List Run) (hs : List Int) (start : Int) (n : Nat) (dt ln lf : Addr) (nw : List Int) (c0 : Nat) (H : Hp) (ns : List Nd) (fr : List Int) : Prop where
  same : Same H0 H
  th : TreeH K H dt ns
  tok : TreeOk rs hs start n ns
  hln : H ln = some (.lst (nw.map V.int))
  hlf : H lf = some (.lst (fr.map V.int))
  frk : ∀ z ∈ fr, z ∈ keysT ns
  nwk : ∀ z ∈ nw, z ∈ keysT ns
  cnt : ns.length = c0 + fr.length
theorem TI.grow {K : PySem.W.Frag} {H0 : Hp} {rs : List Run} {hs : List Int} {start : Int} {n : Nat} {dt ln lf : Addr} {nw : List Int} {c0 : Nat} {H H' : Hp} {ns : List Nd} {fr : List Int} (X : TI K H0 rs hs start n dt ln lf nw c0 H ns fr) (S : Same H H') : TI K H0 rs hs start n dt ln lf nw c0 H' ns fr :=
  ⟨X.same.trans S, X.th.same S, X.tok, S _ _ X.hln, S _ _ X.hlf, X.frk, X.nwk, X.cnt⟩
theorem TI.add {K : PySem.W.Frag} {H0 : Hp} {rs : List Run} {hs : List Int} {start : Int} {n : Nat} {dt ln lf : Addr} {nw : List Int} {c0 : Nat} {H : Hp} {ns : List Nd} {fr : List Int} (X : TI K H0 rs hs start n dt ln lf nw c0 H ns fr) (VM : InMarks n rs) (fd : H0 dt = none) (fl : H0 lf = none) (nll : ln ≠ lf)
    {p : Nd} (hp : p ∈ ns) {t : Tri} (hg : GoodTri rs hs rs.length p.m.toNat t) (hn : t.e ∉ keysT ns) {tt lt : Addr} (htt : H tt = some (.tup [.int (p.h + t.d), .ref lt])) (hlt : SqT K H lt ((p.line ++ [t.n]).map V.int)) :
    TI K H0 rs hs start n dt ln lf nw c0 (upd (upd H dt (.dK (putK (ns.map ndK) (Sum.inl t.e) (.ref tt)))) lf (.lst (fr.map V.int ++ [.int t.e]))) (ns ++ [⟨t.e, tt, p.h + t.d, lt, p.line ++ [t.n]⟩]) (fr ++ [t.e]) := by
  have ndl : dt ≠ lf := fun z => by have := X.th.dict; rw [z, X.hlf] at this; cases this
  have nln : ln ≠ dt := fun z => by have := X.hln; rw [z, X.th.dict] at this; cases this
  have ep : putK (ns.map ndK) (Sum.inl t.e) (.ref tt) = (ns ++ [(⟨t.e, tt, p.h + t.d, lt, p.line ++ [t.n]⟩ : Nd)]).map ndK := by
    rw [putK_new _ (valV_none.mpr hn), List.map_append]; rfl
  have hlf1 : upd H dt (.dK (putK (ns.map ndK) (Sum.inl t.e) (.ref tt))) lf = some (.lst (fr.map V.int)) := by rw [upd_ne ndl.symm]; exact X.hlf
  refine ⟨fun c o e => ?_, ⟨?_, fun x hx => ?_⟩, X.tok.add VM hp hg hn, ?_, ?_, fun z hz => ?_, fun z hz => ?_, ?_⟩
  · rw [upd_ne (ne_of_none e fl), upd_ne (ne_of_none e fd)]; exact X.same c o e
  · rw [upd_ne ndl, upd_same, ep]
  · have hh : H x.t = some (.tup [.int x.h, .ref x.lt]) ∧ SqT K H x.lt (x.line.map V.int) := by
      rcases List.mem_append.mp hx with q | q
      · exact X.th.node x q
      · rw [List.mem_singleton.mp q]; exact ⟨htt, hlt⟩
    exact ⟨tup_upd (tup_upd hh.1 X.th.dict trivial) hlf1 trivial, sqT_upd (sqT_upd hh.2 X.th.dict trivial) hlf1 trivial⟩
  · rw [upd_ne nll, upd_ne nln]; exact X.hln
  · rw [upd_same, List.map_append]; rfl
  · rw [keys_snoc]
    rcases List.mem_append.mp hz with q | q
    · exact List.mem_append_left _ (X.frk z q)
    · exact List.mem_append_right _ (by rw [List.mem_singleton.mp q]; exact List.mem_cons_self)
  · rw [keys_snoc]; exact List.mem_append_left _ (X.nwk z hz)
  · rw [List.length_append, List.length_append, X.cnt]; show _ + 1 = _ + (_ + 1); omega
/-! ### what the tree is, by a reckoning -/
abbrev PN := Int × Int × List Int
def contN (x : Nd) : PN := (x.m, x.h, x.line)
def lookP (tr : List PN) (m : Int) : PN := (tr.find? fun p => decide (p.1 = m)).getD (0, 0, [])
def ex1 (p : PN) (st : List PN × List Int) (t : Int × Int × Int) : List PN × List Int := if t.2.1 ∈ st.1.map (·.1) then st else (st.1 ++ [(t.2.1, p.2.1 + t.2.2, p.2.2 ++ [t.1])], st.2 ++ [t.2.1])
def exM (S : Nat → List (Int × Int × Int)) (st : List PN × List Int) (m : Int) : List PN × List Int := (S m.toNat).foldl (ex1 (lookP st.1 m)) st
def exL (S : Nat → List (Int × Int × Int)) (tr : List PN) (nw : List Int) : List PN × List Int := nw.foldl (exM S) (tr, [])
def itT (S : Nat → List (Int × Int × Int)) (start : Int) : Nat → List PN × List Int
  | 0 => ([(start, 0, [])], [start])
  | k + 1 => exL S (itT S start k).1 (itT S start k).2
def TreeIs (S : Nat → List (Int × Int × Int)) (start : Int) (tr : List PN) : Prop := ∃ k, itT S start k = (tr, [])
theorem itT_stay {S : Nat → List (Int × Int × Int)} {start : Int} {k : Nat} {tr : List PN} (h : itT S start k = (tr, [])) : ∀ j, itT S start (k + j) = (tr, [])
  | 0 => h
  | j + 1 => by
    show exL S (itT S start (k + j)).1 (itT S start (k + j)).2 = _
    rw [itT_stay h j]; rfl
theorem TreeIs.uniq {S : Nat → List (Int × Int × Int)} {start : Int} {a b : List PN} (x : TreeIs S start a) (y : TreeIs S start b) : a = b := by
  obtain ⟨i, hi⟩ := x
  obtain ⟨j, hj⟩ := y
  have h1 := itT_stay hi j
  have h2 := itT_stay hj i
  rw [Nat.add_comm] at h2
  rw [h1] at h2
  exact (Prod.mk.inj h2).1
theorem foldl_take {α β : Type} (f : β → α → β) (s : β) {xs : List α} {j : Nat} {x : α} (h : xs[j]? = some x) : (xs.take (j + 1)).foldl f s = f ((xs.take j).foldl f s) x := by
  rw [take_some h, List.foldl_append]; rfl
theorem look_cont {ns : List Nd} (hn : (keysT ns).Nodup) {x : Nd} (hx : x ∈ ns) : lookP (ns.map contN) x.m = contN x := by
  unfold lookP
  induction ns with
  | nil => cases hx
  | cons y ns ih =>
    unfold keysT at hn
    rw [List.map_cons, List.nodup_cons] at hn
    rw [List.map_cons, List.find?_cons]
    rcases List.mem_cons.mp hx with rfl | q
    · simp [contN]
    · have : ¬ (contN y).1 = x.m := fun z => hn.1 (by rw [show y.m = x.m from z]; exact List.mem_map_of_mem q)
      rw [show decide ((contN y).1 = x.m) = false from decide_eq_false this]
      exact ih hn.2 q
theorem keys_cont (ns : List Nd) : (ns.map contN).map (·.1) = keysT ns := by unfold keysT; rw [List.map_map]; rfl
def spTree (K : PySem.W.Frag) : Sp := fun vs H Q _ => ∃ (start : Int) (ls : Addr) (n : Nat) (ad : List Addr) (cs : Nat → List Tri) (rs : List Run) (hs : List Int), vs = [.int start, .ref ls] ∧ 0 ≤ start ∧ start < n ∧ Steps H ls ad cs ∧ ad.length = n ∧ StepsOk rs hs rs.length cs ∧ InMarks n rs ∧ n ≤ 1000 ∧ rs.length ≤ 1000 ∧
  ∀ (dt : Addr) (ns : List Nd) H', Same H H' → H dt = none → TreeH K H' dt ns → TreeOk rs hs start n ns → (∀ j, j ∈ keysT ns ↔ Conn (usable hs rs) start j) → TreeIs (stepsF rs hs rs.length) start (ns.map contN) → Q (.ref dt) H'
abbrev Ntr : List Str := ["start", "steps", "tree", "newest", "fresh", "mark", "height", "line", "number", "end", "rise"]
section
variable {P : Program} {w : PySem.World} {K : PySem.W.Frag} {mg : Str → Option Value} {base : Heap}
theorem scTree : FnScope Ntr ["start", "steps"] (defScope pTreeFrom) := ⟨rfl, rfl, rfl, by decide +kernel, rfl, by decide +kernel, by decide +kernel⟩
theorem ok_tree {f : Addr} {fd : FuncData} (F : Fun K "tree_from" "tree_from" pTreeFrom f fd) : FnOk P w K mg base CX0 1 f fd ["start", "steps"] (spTree K) := by
  refine F.ok scTree (fun vs H Q E h => ?_) (fun cdv A outer s0 H vs Q E hr h => ?_)
  · obtain ⟨start, ls, n, ad, cs, rs, hs, rfl, _⟩ := h
    rfl
  · obtain ⟨start, ls, n, ad, cs, rs, hs, rfl, st0, st1, St, hal, So, VM, hn, hz, k⟩ := h
    have nd := scTree.nd
    have hu := hu_of hr
    refine ⟨_, pss_cons (ps_set (i := 2) nd rfl (Or.inl rfl) (pe_disp (pps_cons (pv 0) (pe_tup (pa_cons pe_int (pa_cons (pe_tup pa_nil) pa_nil))) pps_nil) rfl rfl (by simp) (by decide)))
      (pss_cons (ps_set (i := 3) nd rfl (Or.inl rfl) (pe_lst (pa_cons (pv 0) pa_nil)))
      (pss_cons (ps_while PassesOwn.never (pt_truth (pv 3) (fun _ => rfl))
        (pss_cons (ps_set (i := 4) nd rfl (Or.inl rfl) (pe_lst pa_nil))
        (pss_cons (ps_for PassesOwn.never rfl (pi_list (pv 3)) (pg_name (i := 5) nd rfl (Or.inl rfl))
          (pss_cons (ps_asg (pe_dget hu (pv 2) (pv 5) (fun _ _ => rfl)) (pg_tup (n := 2) rfl (pgs_cons (pg_name (i := 6) nd rfl (Or.inl rfl)) (pgs_cons (pg_name (i := 7) nd rfl (Or.inl rfl)) pgs_nil))))
          (pss_one (ps_for PassesOwn.never rfl (pi_list (pe_ix ix_list (pv 1) (pv 5) (fun _ _ => rfl))) (pg_tup (n := 3) rfl (pgs_cons (pg_name (i := 8) nd rfl (Or.inl rfl)) (pgs_cons (pg_name (i := 9) nd rfl (Or.inl rfl)) (pgs_cons (pg_name (i := 10) nd rfl (Or.inl rfl)) pgs_nil))))
            (pss_one (ps_if (pt_cmp (pc_dnotin hu (pv 9) (pv 2)))
              (pss_cons (ps_dput hu (pv 2) (pv 9) (pe_tup (pa_cons (pe_op op_add (pv 6) (pv 10)) (pa_cons (pe_op op_catG (pv 7) (pe_tup (pa_cons (pv 8) pa_nil))) pa_nil))) rfl)
              (pss_one (ps_expr (pe_bm PySem.F.plainAttrs_list PySem.F.slot_list_append PySem.F.type_list_append mt_append (pv 4) (pa_cons (pv 9) pa_nil))))) pss_nil))))))
        (pss_one (ps_set (i := 3) nd rfl (Or.inl rfl) (pv 4))))))
      (pss_one (ps_ret (pv 2))))), ?_⟩
    intro dt hdt
    refine ⟨_, rfl, by show 0 ≤ sizeLine; exact Nat.zero_le _, fun l0 hl0 => ⟨by show 2 ≤ sizeLine; decide, fun t0 ht0 => ?_⟩⟩
    have hdt1 : upd H dt (.dK []) dt = some (.dK []) := upd_same
    have hdt2 := same_new (o := .tup [.int 0, .ref l0]) ht0 _ _ (same_new (o := .tup []) hl0 _ _ hdt1)
    refine ⟨hdt2, [(Sum.inl start, .ref t0)], rfl, by show 1 ≤ 15; decide, ?_⟩
    have SA : Same H (upd (upd (upd H dt (.dK [])) l0 (.tup [])) t0 (.tup [.int 0, .ref l0])) := ((same_new hdt).trans (same_new hl0)).trans (same_new ht0)
    have SB : Same H (upd (upd (upd (upd H dt (.dK [])) l0 (.tup [])) t0 (.tup [.int 0, .ref l0])) dt (.dK (mergeK [] [(Sum.inl start, .ref t0)]))) := fun c o e => by rw [upd_ne (ne_of_none e hdt)]; exact SA c o e
    have hl01 : upd (upd (upd H dt (.dK [])) l0 (.tup [])) t0 (.tup [.int 0, .ref l0]) l0 = some (.tup []) := same_new (o := .tup [.int 0, .ref l0]) ht0 _ _ upd_same
    have TH0 : TreeH K (upd (upd (upd (upd H dt (.dK [])) l0 (.tup [])) t0 (.tup [.int 0, .ref l0])) dt (.dK (mergeK [] [(Sum.inl start, .ref t0)]))) dt [⟨start, t0, 0, l0, []⟩] := by
      refine ⟨upd_same, fun x hx => ?_⟩
      rw [List.mem_singleton.mp hx]
      exact ⟨tup_upd upd_same hdt2 trivial, sqT_upd (SqT.of hl01) hdt2 trivial⟩
    generalize (upd (upd (upd (upd H dt (.dK [])) l0 (.tup [])) t0 (.tup [.int 0, .ref l0])) dt (.dK (mergeK [] [(Sum.inl start, .ref t0)]))) = HA at *
    have TO0 : TreeOk rs hs start n [⟨start, t0, 0, l0, []⟩] := by
      refine ⟨by simp [keysT], fun x hx => ?_, fun x hx => ?_, fun x hx z hz => ?_, fun x hx y hy i j z hi hj => ?_, List.mem_cons_self, fun x hx => ?_, fun x hx z hz => ?_⟩
      · rw [List.mem_singleton.mp hx]; exact ⟨st0, st1⟩
      · rw [List.mem_singleton.mp hx]; rfl
      · rw [List.mem_singleton.mp hx] at hz; cases hz
      · rw [List.mem_singleton.mp hx] at hi; simp at hi
      · rw [List.mem_singleton.mp hx]; show 0 < 1; decide
      · rw [List.mem_singleton.mp hx] at hz; cases hz
    clear hdt1 hdt2 SA hl01 hl0 ht0
    refine ⟨_, rfl, by show 1 ≤ sizeLine; decide, fun ln0 hln0 => ?_⟩
    obtain ⟨W, hW⟩ : ∃ W : Nat → L2.St → Hp → Prop, W = fun m σ H2 => ∃ (ns : List Nd) (nw : List Int) (ln : Addr) (o4 o5 o6 o7 o8 o9 o10 : Option V), σ = [some (.int start), some (.ref ls), some (.ref dt), some (.ref ln), o4, o5, o6, o7, o8, o9, o10] ∧ m = 2 * (n - ns.length) + (if nw = [] then 0 else 1) ∧ Same H H2 ∧ TreeH K H2 dt ns ∧ TreeOk rs hs start n ns ∧ H2 ln = some (.lst (nw.map V.int)) ∧ (∀ z ∈ nw, z ∈ keysT ns) ∧ (∀ x ∈ ns, x.m ∈ nw ∨ Closed cs ns x.m) ∧ ∃ q, itT (stepsF rs hs rs.length) start q = (ns.map contN, nw) := ⟨_, rfl⟩
    refine ⟨W, ⟨_, by
      rw [hW]
      exact ⟨[⟨start, t0, 0, l0, []⟩], [start], ln0, _, _, _, _, _, _, _, rfl, rfl, SB.trans (same_new hln0), TH0.same (same_new hln0), TO0, upd_same, fun z hz => hz, (fun x hx => .inl (by rw [List.mem_singleton.mp hx]; exact List.mem_cons_self)), 0, rfl⟩⟩, fun m σ H2 hw => ?_⟩
    rw [hW] at hw
    obtain ⟨ns, nw, ln, o4, o5, o6, o7, o8, o9, o10, rfl, hm, S2, TH, TO, hln, hnk, hcl, kq, hkq⟩ := hw
    refine ⟨_, rfl, _, .inl ⟨_, SqL.of hln, rfl⟩, ?_⟩
    refine ite2 (fun hne => ?_) (fun hne => ?_)
    · have hnw : nw ≠ [] := fun e => by rw [e] at hne; simp at hne
      refine ⟨fun σ' H' => ∃ m', m' < m ∧ W m' σ' H', fun _ _ h => h, ?_⟩
      refine ⟨by show 0 ≤ sizeLine; exact Nat.zero_le _, fun lf hlf => ?_⟩
      have fl : H lf = none := S2.free hlf
      have nll : ln ≠ lf := ne_of_none hln hlf
      have TI0 : TI K H rs hs start n dt ln lf nw ns.length (upd H2 lf (.lst [])) ns [] :=
        ⟨S2.trans (same_new hlf), TH.same (same_new hlf), TO, same_new hlf _ _ hln, upd_same, (fun z hz => by cases hz), hnk, by simp⟩
      generalize upd H2 lf (.lst []) = H3 at *
      refine ⟨_, rfl, ln, rfl, ⟨_, SqL.of TI0.hln⟩, for_list (K := K) (a := ln) (xs := nw.map V.int) (fun i σ H4 => ∃ (ns' : List Nd) (fr : List Int) (o5 o6 o7 o8 o9 o10 : Option V), σ = [some (.int start), some (.ref ls), some (.ref dt), some (.ref ln), some (.ref lf), o5, o6, o7, o8, o9, o10] ∧ TI K H rs hs start n dt ln lf nw ns.length H4 ns' fr ∧ (∀ x ∈ ns', x.m ∈ nw.drop i ∨ x.m ∈ fr ∨ Closed cs ns' x.m) ∧ (ns'.map contN, fr) = (nw.take i).foldl (exM (stepsF rs hs rs.length)) (ns.map contN, []))
        ⟨ns, [], _, _, _, _, _, _, rfl, TI0, (fun x hx => (hcl x hx).elim .inl fun h => .inr (.inr h)), rfl⟩ (fun i σ H4 _ ⟨_, _, _, _, _, _, _, _, _, X, _⟩ => SqL.of X.hln) ?_ ?_⟩
      · rintro i v σ H4 hv ⟨ns1, fr1, p5, p6, p7, p8, p9, p10, rfl, X1, C1, P1⟩
        obtain ⟨z, hz1, rfl⟩ := ints_at hv
        obtain ⟨p, hp, rfl⟩ := mem_keys.mp (X1.nwk z (List.mem_of_getElem? hz1))
        have pm := X1.tok.inm p hp
        have dg : DGet H4 dt (.int p.m) (some (.ref p.t)) := by
          have := DGet.k (k := Sum.inl p.m) X1.th.dict
          rw [valV_some X1.tok.nod hp] at this
          exact this
        refine ⟨_, rfl, _, rfl, dt, _, rfl, dg, p.t, _, rfl, SqT.of (X1.th.node p hp).1, rfl, _, _, rfl, _, _, rfl, rfl, ?_⟩
        obtain ⟨l1, e1⟩ : ∃ l1, ad[p.m.toNat]? = some l1 := ⟨_, List.getElem?_eq_getElem (by omega)⟩
        have at1 : atI (ad.map V.ref) p.m = some (.ref l1) := by
          have q := atI_nat (xs := ad.map V.ref) (j := p.m.toNat) (v := .ref l1) (by rw [List.getElem?_map, e1]; rfl)
          rwa [Int.toNat_of_nonneg pm.1] at q
        have St4 := St.same X1.same
        refine ⟨_, rfl, _, rfl, ls, _, _, _, rfl, rfl, SqL.of St4.top, at1, l1, rfl, ⟨_, SqL.of (St4.row _ _ e1)⟩, for_list (K := K) (a := l1) (xs := (cs p.m.toNat).map triV) (fun j σ H5 => ∃ (ns' : List Nd) (fr : List Int) (o8 o9 o10 : Option V), σ = [some (.int start), some (.ref ls), some (.ref dt), some (.ref ln), some (.ref lf), some (.int p.m), some (.int p.h), some (.ref p.lt), o8, o9, o10] ∧ TI K H rs hs start n dt ln lf nw ns.length H5 ns' fr ∧ p ∈ ns' ∧
          (∀ x ∈ ns', x.m ∈ nw.drop (i + 1) ∨ x.m ∈ fr ∨ Closed cs ns' x.m ∨ (x.m = p.m ∧ ∀ t ∈ (cs p.m.toNat).take j, t.e ∈ keysT ns')) ∧ (ns'.map contN, fr) = ((stepsF rs hs rs.length p.m.toNat).take j).foldl (ex1 (contN p)) (ns1.map contN, fr1))
          ⟨ns1, fr1, _, _, _, rfl, X1, hp, (fun x hx => ?_), rfl⟩ (fun j σ H5 _ ⟨_, _, _, _, _, _, X, _⟩ => SqL.of ((St.same X.same).row _ _ e1)) ?_ ?_⟩
        · rcases C1 x hx with q | q | q
          · rw [line_at hz1] at q
            rcases List.mem_cons.mp q with q | q
            · exact .inr (.inr (.inr ⟨q, fun t ht => by rw [List.take_zero] at ht; cases ht⟩))
            · exact .inl q
          · exact .inr (.inl q)
          · exact .inr (.inr (.inl q))
        · rintro j v σ H5 hv2 ⟨ns2, fr2, q8, q9, q10, rfl, X2, hp2, C2, P2⟩
          obtain ⟨t, ht, rfl⟩ : ∃ t, (cs p.m.toNat)[j]? = some t ∧ v = .ref t.p := by
            rw [List.getElem?_map] at hv2
            cases e : (cs p.m.toNat)[j]? with
            | none => rw [e] at hv2; cases hv2
            | some t => rw [e] at hv2; exact ⟨t, rfl, (Option.some.inj hv2).symm⟩
          have htm := List.mem_of_getElem? ht
          have hsj : (stepsF rs hs rs.length p.m.toNat)[j]? = some (triC t) := by rw [← So.cont, List.getElem?_map, ht]; rfl
          have St5 := St.same X2.same
          refine ⟨t.p, _, rfl, SqT.of (St5.tri _ t (by omega) htm), rfl, _, _, rfl, _, _, rfl, _, _, rfl, rfl, ?_⟩
          refine ⟨_, rfl, _, rfl, dt, _, rfl, DGet.k (k := Sum.inl t.e) X2.th.dict, _, rfl, ?_⟩
          cases hv3 : valV (ns2.map ndK) (Sum.inl t.e) with
          | some v3 =>
            have hk : t.e ∈ keysT ns2 := by
              by_cases c : t.e ∈ keysT ns2
              · exact c
              · rw [valV_none.mpr c] at hv3; cases hv3
            refine iteF ⟨ns2, fr2, _, _, _, rfl, X2, hp2, (fun x hx => ?_), by
              rw [foldl_take _ _ hsj, ← P2]
              unfold ex1
              rw [if_pos (by rw [keys_cont]; exact hk)]⟩
            rcases C2 x hx with q | q | q | ⟨q1, q2⟩
            · exact .inl q
            · exact .inr (.inl q)
            · exact .inr (.inr (.inl q))
            · refine .inr (.inr (.inr ⟨q1, fun u hu => ?_⟩))
              rw [take_some ht] at hu
              rcases List.mem_append.mp hu with hu | hu
              · exact q2 u hu
              · rw [List.mem_singleton.mp hu]; exact hk
          | none =>
            have hk : t.e ∉ keysT ns2 := valV_none.mp hv3
            have few := X2.tok.few p hp2
            have hlen := X2.tok.len
            refine iteT ?_
            refine ⟨_, rfl, _, rfl, _, _, rfl, rfl, _, rfl, _, rfl, by show 1 ≤ sizeLine; decide, fun tn htn => ?_⟩
            refine ⟨p.lt, tn, _, _, rfl, rfl, sq_same (tp := true) (same_new htn) (X2.th.node p hp2).2, SqT.of upd_same, (by rw [List.length_map, sizeLine_eq]; show _ + 1 ≤ _; omega), fun lt H6 S6 hlt => ?_⟩
            refine ⟨by show 2 ≤ sizeLine; decide, fun tt htt => ?_⟩
            have X3 := X2.grow (((same_new (o := .tup [.int t.n]) htn).trans S6).trans (same_new (o := .tup [.int (p.h + t.d), .ref lt]) htt))
            have hlt' : SqT K (upd H6 tt (.tup [.int (p.h + t.d), .ref lt])) lt ((p.line ++ [t.n]).map V.int) := by
              rw [List.map_append]
              exact sq_same (tp := true) (same_new htt) hlt
            have htt' : upd H6 tt (.tup [.int (p.h + t.d), .ref lt]) tt = some (.tup [.int (p.h + t.d), .ref lt]) := upd_same
            generalize upd H6 tt (.tup [.int (p.h + t.d), .ref lt]) = H7 at *
            refine ⟨_, rfl, _, rfl, dt, _, rfl, DPut.k (k := Sum.inl t.e) X3.th.dict (by rw [List.length_map, sizeLine_eq]; omega), ?_⟩
            have ndl : dt ≠ lf := fun z => by have := X3.th.dict; rw [z, X3.hlf] at this; cases this
            have hlf8 : upd H7 dt (.dK (putK (ns2.map ndK) (Sum.inl t.e) (.ref tt))) lf = some (.lst (fr2.map V.int)) := by rw [upd_ne ndl.symm]; exact X3.hlf
            have hcnt := X2.cnt
            refine ⟨_, rfl, .inl ⟨rfl, _, SqL.of hlf8⟩, _, rfl, lf, _, _, rfl, rfl, hlf8, by rw [List.length_map, sizeLine_eq]; omega, ?_⟩
            have X4 := X3.add VM hdt fl nll hp2 (So.sound _ t htm) hk htt' hlt'
            refine ⟨_, _, _, _, _, rfl, X4, List.mem_append_left _ hp2, (fun x hx => ?_), by
              rw [foldl_take _ _ hsj, ← P2]
              unfold ex1
              rw [if_neg (by rw [keys_cont]; exact hk), List.map_append]
              rfl⟩
            rcases List.mem_append.mp hx with hx | hx
            · rcases C2 x hx with q | q | q | ⟨q1, q2⟩
              · exact .inl q
              · exact .inr (.inl (List.mem_append_left _ q))
              · exact .inr (.inr (.inl q.snoc))
              · refine .inr (.inr (.inr ⟨q1, fun u hu => ?_⟩))
                rw [keys_snoc]
                rw [take_some ht] at hu
                rcases List.mem_append.mp hu with hu | hu
                · exact List.mem_append_left _ (q2 u hu)
                · rw [List.mem_singleton.mp hu]; exact List.mem_append_right _ List.mem_cons_self
            · rw [List.mem_singleton.mp hx]
              exact .inr (.inl (List.mem_append_right _ List.mem_cons_self))
        · rintro σ H5 ⟨ns2, fr2, q8, q9, q10, rfl, X2, hp2, C2, P2⟩
          refine ⟨ns2, fr2, _, _, _, _, _, _, rfl, X2, (fun x hx => ?_), by
            have el : ((cs p.m.toNat).map triV).length = (stepsF rs hs rs.length p.m.toNat).length := by rw [← So.cont, List.length_map, List.length_map]
            rw [el, List.take_length] at P2
            rw [foldl_take _ _ hz1, ← P1, P2]
            unfold exM
            rw [look_cont X1.tok.nod hp]⟩
          rcases C2 x hx with q | q | q | ⟨q1, q2⟩
          · exact .inl q
          · exact .inr (.inl q)
          · exact .inr (.inr q)
          · refine .inr (.inr fun t ht => q2 t ?_)
            rw [List.length_map, List.take_length, ← q1]; exact ht
      · rintro σ H4 ⟨ns1, fr1, p5, p6, p7, p8, p9, p10, rfl, X1, C1, P1⟩
        refine ⟨_, rfl, 2 * (n - ns1.length) + (if fr1 = [] then 0 else 1), ?_, ?_⟩
        · have h1 := X1.cnt
          have h2 := X1.tok.len
          rw [hm, if_neg hnw]
          by_cases c : fr1 = []
          · rw [if_pos c]
            have hz0 : fr1.length = 0 := by rw [c]; rfl
            omega
          · rw [if_neg c]
            have : 0 < fr1.length := List.length_pos_iff.mpr c
            omega
        · rw [hW]
          refine ⟨ns1, fr1, lf, _, _, _, _, _, _, _, rfl, rfl, X1.same, X1.th, X1.tok, X1.hlf, X1.frk, (fun x hx => ?_), kq + 1, by
            rw [List.length_map, List.take_length] at P1
            show exL _ (itT _ start kq).1 (itT _ start kq).2 = _
            rw [hkq, P1]; rfl⟩
          rcases C1 x hx with q | q | q
          · rw [List.length_map, List.drop_length] at q; cases q
          · exact .inl q
          · exact .inr q
    · have hnw : nw = [] := by
        cases nw with
        | nil => rfl
        | cons a b => simp at hne
      refine ⟨_, rfl, k dt ns H2 S2 hdt TH TO (tree_keys VM TO So fun x hx => (hcl x hx).elim (fun q => by rw [hnw] at q; cases q) fun q => q) ⟨kq, by rw [hkq, hnw]⟩⟩
end
end Fen

set_option Elab.async false
set_option linter.all false
set_option maxRecDepth 100000
set_option maxHeartbeats 4000000
namespace Fen
open PySem L2
/-- two growing lists of the same items -/
theorem sorted_ext : ∀ {as bs : List Int}, as.Pairwise (· < ·) → bs.Pairwise (· < ·) → (∀ k, k ∈ as ↔ k ∈ bs) → as = bs
  | [], [], _, _, _ => rfl
  | [], b :: bs, _, _, h => absurd ((h b).mpr List.mem_cons_self) (by simp)
  | a :: as, [], _, _, h => absurd ((h a).mp List.mem_cons_self) (by simp)
  | a :: as, b :: bs, pa, pb, h => by
    rw [List.pairwise_cons] at pa pb
    have hab : a = b := by
      rcases List.mem_cons.mp ((h a).mp List.mem_cons_self) with e | e
      · exact e
      · rcases List.mem_cons.mp ((h b).mpr List.mem_cons_self) with e' | e'
        · exact e'.symm
        · have h1 := pb.1 a e
          have h2 := pa.1 b e'
          omega
    subst hab
    refine congrArg _ (sorted_ext pa.2 pb.2 fun k => ⟨fun hk => ?_, fun hk => ?_⟩)
    · rcases List.mem_cons.mp ((h k).mp (List.mem_cons_of_mem _ hk)) with e | e
      · have := pa.1 k hk; omega
      · exact e
    · rcases List.mem_cons.mp ((h k).mpr (List.mem_cons_of_mem _ hk)) with e | e
      · have := pb.1 k hk; omega
      · exact e
end Fen

set_option Elab.async false
set_option linter.all false
set_option maxRecDepth 100000
set_option maxHeartbeats 4000000
namespace Fen
open PySem L2
/-- what some_line tells -/
def SL (K : PySem.W.Frag) (H : Hp) (n : Nat) (rs : List Run) (hs : List Int) (one other : Int) (v : V) : Prop :=
  ∃ ns : List Nd, TreeOk rs hs one n ns ∧ TreeIs (stepsF rs hs rs.length) one (ns.map contN) ∧ (∀ j, j ∈ keysT ns ↔ Conn (usable hs rs) one j) ∧ ((v = .non ∧ other ∉ keysT ns) ∨ ∃ x ∈ ns, x.m = other ∧ v = .ref x.lt ∧ SqT K H x.lt (x.line.map V.int))
theorem SL.same {K : PySem.W.Frag} {H H' : Hp} {n : Nat} {rs : List Run} {hs : List Int} {one other : Int} {v : V} (S : Same H H') (h : SL K H n rs hs one other v) : SL K H' n rs hs one other v := by
  obtain ⟨ns, a, b, c, d⟩ := h
  exact ⟨ns, a, b, c, d.elim .inl fun ⟨x, hx, e1, e2, q⟩ => .inr ⟨x, hx, e1, e2, sq_same (tp := true) S q⟩⟩
theorem cont_at {ns : List Nd} (hn : (keysT ns).Nodup) {x : Nd} (hx : x ∈ ns) {k : Int} (e : x.m = k) : contN x = lookP (ns.map contN) k := by rw [← e, look_cont hn hx]
theorem eqv_sl {K : PySem.W.Frag} {H : Hp} {n : Nat} {rs : List Run} {hs : List Int} {one other : Int} {u v : V} (hn : n ≤ 1000) (h1 : SL K H n rs hs one other u) (h2 : SL K H n rs hs one other v) : Eqv K 1 H u v := by
  obtain ⟨ns, a, b, c, d⟩ := h1
  obtain ⟨ms, a', b', c', d'⟩ := h2
  have e := b.uniq b'
  rcases d with ⟨rfl, d⟩ | ⟨x, hx, ex, rfl, qx⟩ <;> rcases d' with ⟨rfl, d'⟩ | ⟨y, hy, ey, rfl, qy⟩
  · exact .inl ⟨rfl, .non⟩
  · exact absurd ((c other).mpr ((c' other).mp (mem_keys.mpr ⟨y, hy, ey⟩))) d
  · exact absurd ((c' other).mpr ((c other).mp (mem_keys.mpr ⟨x, hx, ex⟩))) d'
  · have e1 : contN x = contN y := by rw [cont_at a.nod hx ex, cont_at a'.nod hy ey, e]
    have e2 : x.line = y.line := by
      unfold contN at e1
      injection e1 with _ e1
      exact (Prod.mk.inj e1).2
    have h1 := a.few x hx
    have h2 := a.len
    rw [← e2] at qy
    exact eqv_ints (tp := true) qx qy (by omega)
theorem itT_head (S : Nat → List (Int × Int × Int)) (start : Int) : ∀ k, ∃ rest, (itT S start k).1 = (start, 0, []) :: rest
  | 0 => ⟨[], rfl⟩
  | k + 1 => by
    have one : ∀ (p : PN) (ts : List (Int × Int × Int)) (st : List PN × List Int), (∃ rest, st.1 = (start, 0, []) :: rest) → ∃ rest, (ts.foldl (ex1 p) st).1 = (start, 0, []) :: rest := fun p ts => by
      induction ts with
      | nil => intro st h; exact h
      | cons t ts ih =>
        intro st h
        rw [List.foldl_cons]
        refine ih _ ?_
        unfold ex1
        split
        · exact h
        · obtain ⟨rest, e⟩ := h
          exact ⟨rest ++ _, by show st.1 ++ _ = _; rw [e]; rfl⟩
    have two : ∀ (nw : List Int) (st : List PN × List Int), (∃ rest, st.1 = (start, 0, []) :: rest) → ∃ rest, (nw.foldl (exM S) st).1 = (start, 0, []) :: rest := fun nw => by
      induction nw with
      | nil => intro st h; exact h
      | cons m nw ih =>
        intro st h
        rw [List.foldl_cons]
        exact ih _ (one _ _ _ h)
    exact two _ _ (itT_head S start k)
theorem SL.self {K : PySem.W.Frag} {H : Hp} {n : Nat} {rs : List Run} {hs : List Int} {one : Int} {v : V} (h : SL K H n rs hs one one v) : ∃ p, v = .ref p ∧ SqT K H p [] := by
  obtain ⟨ns, a, ⟨k, hk⟩, c, d⟩ := h
  obtain ⟨rest, hr⟩ := itT_head (stepsF rs hs rs.length) one k
  rw [hk] at hr
  rcases d with ⟨rfl, d⟩ | ⟨x, hx, ex, rfl, qx⟩
  · exact absurd a.start d
  · refine ⟨_, rfl, ?_⟩
    have e1 := cont_at a.nod hx ex
    have hr' : ns.map contN = (one, 0, []) :: rest := hr
    rw [hr'] at e1
    have e2 : lookP ((one, 0, []) :: rest) one = (one, 0, []) := by unfold lookP; rw [List.find?_cons]; simp
    rw [e2] at e1
    have e3 : x.line = [] := by
      unfold contN at e1
      injection e1 with _ e1
      exact (Prod.mk.inj e1).2
    rw [e3] at qx
    exact qx
theorem TreeOk.lineNodup {rs : List Run} {hs : List Int} {start : Int} {n : Nat} {ns : List Nd} (X : TreeOk rs hs start n ns) {x : Nd} (hx : x ∈ ns) : x.line.Nodup := by
  refine List.pairwise_iff_getElem.mpr fun i j hi hj hij e => ?_
  have h := X.uniq x hx x hx i j x.line[i] (List.getElem?_eq_getElem hi) (by rw [e]; exact List.getElem?_eq_getElem hj)
  have := congrArg List.length h
  rw [List.length_take, List.length_take] at this
  omega
theorem setLen_nodup {xs : List Int} {n : Nat} (h : SetLen xs n) (hn : xs.Nodup) : n = xs.length := h.uniq ⟨xs, hn, fun _ => Iff.rfl, rfl⟩
end Fen

set_option Elab.async false
set_option linter.all false
set_option maxRecDepth 100000
set_option maxHeartbeats 4000000
namespace Fen
open PySem L2
structure TR where
  d : Addr
  st : Int
  ns : List Nd
def trV (t : TR) : V := .ref t.d
structure TreeAt (K : PySem.W.Frag) (H : Hp) (n : Nat) (rs : List Run) (hs : List Int) (t : TR) : Prop where
  th : TreeH K H t.d t.ns
  tok : TreeOk rs hs t.st n t.ns
  keys : ∀ j, j ∈ keysT t.ns ↔ Conn (usable hs rs) t.st j
  is : TreeIs (stepsF rs hs rs.length) t.st (t.ns.map contN)
  b0 : 0 ≤ t.st
  b1 : t.st < n
def Firsts (k : Nat) (rs : List Run) (sts : List Int) : Prop := sts.Pairwise (· < ·) ∧ ∀ m, m ∈ sts ↔ (0 ≤ m ∧ m < k ∧ ∀ j, 0 ≤ j → j < m → ¬ Conn rs j m)
theorem Firsts.uniq {k : Nat} {rs : List Run} {a b : List Int} (x : Firsts k rs a) (y : Firsts k rs b) : a = b := sorted_ext x.1 y.1 fun m => (x.2 m).trans (y.2 m).symm
theorem TreeAt.same {K : PySem.W.Frag} {H H' : Hp} {n : Nat} {rs : List Run} {hs : List Int} {t : TR} (x : TreeAt K H n rs hs t) (S : Same H H') : TreeAt K H' n rs hs t := ⟨x.th.same S, x.tok, x.keys, x.is, x.b0, x.b1⟩
theorem TreeAt.upd {K : PySem.W.Frag} {H : Hp} {n : Nat} {rs : List Run} {hs : List Int} {t : TR} {d : Addr} {o o' : HO} (x : TreeAt K H n rs hs t) (hd : H d = some o) (hn : NoTup o) (ne : t.d ≠ d) : TreeAt K (L2.upd H d o') n rs hs t := ⟨x.th.upd hd hn ne, x.tok, x.keys, x.is, x.b0, x.b1⟩
theorem Firsts.no {k : Nat} {rs : List Run} {sts : List Int} (x : Firsts k rs sts) (h : ∃ m : Int, 0 ≤ m ∧ m < k ∧ Conn rs m k) : Firsts (k + 1) rs sts := by
  refine ⟨x.1, fun m => (x.2 m).trans ⟨fun ⟨a, b, c⟩ => ⟨a, by omega, c⟩, fun ⟨a, b, c⟩ => ⟨a, ?_, c⟩⟩⟩
  by_cases e : m = k
  · subst e
    obtain ⟨q, q0, q1, qc⟩ := h
    exact absurd qc (c q q0 q1)
  · omega
theorem Firsts.yes {k : Nat} {rs : List Run} {sts : List Int} (x : Firsts k rs sts) (h : ¬ ∃ m : Int, 0 ≤ m ∧ m < k ∧ Conn rs m k) : Firsts (k + 1) rs (sts ++ [(k : Int)]) := by
  refine ⟨?_, fun m => ?_⟩
  · rw [List.pairwise_append]
    refine ⟨x.1, by simp, fun a ha b hb => ?_⟩
    have := (x.2 a).mp ha
    rw [List.mem_singleton.mp hb]
    exact this.2.1
  · rw [List.mem_append, List.mem_singleton, x.2 m]
    constructor
    · rintro (⟨a, b, c⟩ | rfl)
      · exact ⟨a, by omega, c⟩
      · exact ⟨by omega, by omega, fun j j0 j1 c => h ⟨j, j0, j1, c⟩⟩
    · rintro ⟨a, b, c⟩
      by_cases e : m = k
      · exact .inr e
      · exact .inl ⟨a, by omega, c⟩
def spTrees (K : PySem.W.Frag) : Sp := fun vs H Q _ => ∃ (n : Nat) (a s : Addr) (rs : List Run) (hs : List Int), vs = [.int n, .ref a, .ref s] ∧ SqL K H a (rs.map runV) ∧ Runs H rs ∧ InMarks n rs ∧ SqL K H s (hs.map V.int) ∧ n ≤ 1000 ∧ rs.length ≤ 1000 ∧
  ∀ (lt : Addr) (ts : List TR) H', Same H H' → H lt = none → H' lt = some (.lst (ts.map trV)) → (∀ t ∈ ts, TreeAt K H' n rs hs t) → Firsts n (usable hs rs) (ts.map TR.st) → ts.length ≤ n → (∀ t ∈ ts, H t.d = none) → (ts.map TR.d).Nodup → Q (.ref lt) H'
section
variable {P : Program} {w : PySem.World} {K : PySem.W.Frag} {mg : Str → Option Value} {base : Heap}
theorem scTrees : FnScope ["size", "runs", "struck", "steps", "trees", "reached", "mark", "tree"] ["size", "runs", "struck"] (defScope pTreesOf) := ⟨rfl, rfl, rfl, by decide +kernel, rfl, by decide +kernel, by decide +kernel⟩
theorem ok_trees {f : Addr} {fd : FuncData} (F : Fun K "trees_of" "trees_of" pTreesOf f fd) (T : Txt K mg) (cF : Cal P w K mg base "steps_from" 1 ["size", "runs", "struck"] (spSteps K)) (cR : Cal P w K mg base "tree_from" 1 ["start", "steps"] (spTree K)) : FnOk P w K mg base CX0 2 f fd ["size", "runs", "struck"] (spTrees K) := by
  refine F.ok scTrees (fun vs H Q E h => ?_) (fun cdv A outer s0 H vs Q E hr h => ?_)
  · obtain ⟨n, a, s, rs, hs, rfl, _⟩ := h
    rfl
  · obtain ⟨n, a, s, rs, hs, rfl, ha, R, VM, hsq, hn, hz, k⟩ := h
    have nd := scTrees.nd
    have hu := hu_of hr
    refine ⟨_, pss_cons (ps_set (i := 3) nd rfl (Or.inl rfl) (pe_cal cF hr rfl (pa_cons (pv 0) (pa_cons (pv 1) (pa_cons (pv 2) pa_nil)))))
      (pss_cons (ps_set (i := 4) nd rfl (Or.inl rfl) (pe_lst pa_nil))
      (pss_cons (ps_set (i := 5) nd rfl (Or.inl rfl) pe_dnewK)
      (pss_cons (ps_for PassesOwn.never rfl (pi_range1 rfl T.range (pa_cons (pv 0) pa_nil)) (pg_name (i := 6) nd rfl (Or.inl rfl))
        (pss_one (ps_if (pt_cmp (pc_dnotin hu (pv 6) (pv 5)))
          (pss_cons (ps_set (i := 7) nd rfl (Or.inl rfl) (pe_cal cR hr rfl (pa_cons (pv 6) (pa_cons (pv 3) pa_nil))))
          (pss_cons (ps_expr (pe_dupd (pv 5) (pv 7) ⟨rfl, rfl, rfl, rfl⟩))
          (pss_one (ps_expr (pe_bm PySem.F.plainAttrs_list PySem.F.slot_list_append PySem.F.type_list_append mt_append (pv 4) (pa_cons (pv 7) pa_nil)))))) pss_nil)))
      (pss_one (ps_ret (pv 4)))))), ?_⟩
    refine ⟨_, rfl, _, rfl, _, rfl, n, a, s, rs, hs, rfl, ha, R, VM, hsq, hn, hz, fun ls ad cs H1 S1 hal St So _ _ => ?_⟩
    refine ⟨by show 0 ≤ sizeLine; exact Nat.zero_le _, fun lt hlt => ?_⟩
    intro dr hdr
    have S2 := same_new (o := .lst []) hlt
    have S3 := S2.trans (same_new (o := .dK []) hdr)
    have hlt3 : upd (upd H1 lt (.lst [])) dr (.dK []) lt = some (.lst (([] : List TR).map trV)) := same_new hdr _ _ upd_same
    have hdr3 : upd (upd H1 lt (.lst [])) dr (.dK []) dr = some (.dK (([] : List Nd).map ndK)) := upd_same
    have fdr : H1 dr = none := S2.free hdr
    generalize upd (upd H1 lt (.lst [])) dr (.dK []) = H3 at *
    refine ⟨_, rfl, n, rfl, by omega, by omega, ?_⟩
    refine for_range (n := ((n : Nat) : Int).toNat) (fun i σ H4 => ∃ (ts : List TR) (rns : List Nd) (o6 o7 : Option V), σ = [some (.int n), some (.ref a), some (.ref s), some (.ref ls), some (.ref lt), some (.ref dr), o6, o7] ∧ Same H1 H4 ∧ H4 lt = some (.lst (ts.map trV)) ∧ H4 dr = some (.dK (rns.map ndK)) ∧ (∀ t ∈ ts, TreeAt K H4 n rs hs t ∧ t.d ≠ dr) ∧ Firsts i (usable hs rs) (ts.map TR.st) ∧ (keysT rns).Nodup ∧ (∀ x ∈ rns, 0 ≤ x.m ∧ x.m < n) ∧ (∀ j, j ∈ keysT rns ↔ ∃ m : Int, 0 ≤ m ∧ m < i ∧ Conn (usable hs rs) m j) ∧ ts.length ≤ i ∧ (∀ t ∈ ts, H1 t.d = none) ∧ (ts.map TR.d).Nodup)
      ⟨[], [], _, _, rfl, S3, hlt3, hdr3, (fun t h => by cases h), ⟨List.Pairwise.nil, fun m => ⟨(fun h => by cases h), fun h => absurd h.2.1 (by have := h.1; omega)⟩⟩, List.nodup_nil, (fun x h => by cases h), (fun j => ⟨(fun h => by cases h), fun ⟨m, h0, h1, _⟩ => absurd h1 (by omega)⟩), Nat.le_refl _, (fun t h => by cases h), List.nodup_nil⟩ ?_ ?_
    · rintro i σ H4 hi ⟨ts, rns, o6, o7, rfl, S4, h4t, h4r, hts, hF, hnd, hin, hk, hlen, hfd, hdd⟩
      rw [Int.toNat_natCast] at hi
      have e0 : (0 : Int) + (i : Int) = (i : Int) := by omega
      have i0 : (0 : Int) ≤ 0 + (i : Int) := by omega
      have i1 : (0 : Int) + (i : Int) < (n : Int) := by omega
      have hrl : rns.length ≤ n := by
        have h := nodup_len (xs := (List.range n).map Int.ofNat) hnd fun k hk => by
          obtain ⟨x, hx, rfl⟩ := mem_keys.mp hk
          have := hin x hx
          refine List.mem_map.mpr ⟨x.m.toNat, List.mem_range.mpr (by omega), ?_⟩
          show ((x.m.toNat : Nat) : Int) = x.m
          omega
        unfold keysT at h
        simpa using h
      refine ⟨_, rfl, _, rfl, dr, _, rfl, DGet.k (k := Sum.inl (0 + (i : Int))) h4r, _, rfl, ?_⟩
      cases hv : valV (rns.map ndK) (Sum.inl (0 + (i : Int))) with
      | some v =>
        have hk1 : (0 + (i : Int)) ∈ keysT rns := by
          by_cases c : (0 + (i : Int)) ∈ keysT rns
          · exact c
          · rw [valV_none.mpr c] at hv; cases hv
        have hex := (hk _).mp hk1
        rw [e0] at hex
        refine iteF ⟨ts, rns, _, _, rfl, S4, h4t, h4r, hts, hF.no hex, hnd, hin, (fun j => ?_), by omega, hfd, hdd⟩
        rw [hk j]
        constructor
        · rintro ⟨m, a1, a2, a3⟩; exact ⟨m, a1, by omega, a3⟩
        · rintro ⟨m, a1, a2, a3⟩
          by_cases e : m = i
          · obtain ⟨q, q0, q1, qc⟩ := hex
            exact ⟨q, q0, q1, qc.trans (e ▸ a3)⟩
          · exact ⟨m, a1, by omega, a3⟩
      | none =>
        have hk1 := valV_none.mp hv
        have hex : ¬ ∃ m : Int, 0 ≤ m ∧ m < i ∧ Conn (usable hs rs) m i := fun h => hk1 ((hk _).mpr (by rw [e0]; exact h))
        refine iteT ?_
        refine ⟨_, rfl, _, rfl, 0 + i, ls, n, ad, cs, rs, hs, rfl, i0, i1, St.same S4, hal, So, VM, hn, hz, fun dt ns H5 S5 hdt TH TO hkk hT => ?_⟩
        have h5r := S5 _ _ h4r
        have h5t := S5 _ _ h4t
        have ndt : dr ≠ dt := ne_of_none h4r hdt
        have hnl := TO.len
        refine ⟨_, rfl, dr, rfl, .inl ⟨_, .inl h5r⟩, _, rfl, dt, _, _, rfl, ndt, h5r, TH.dict, (by rw [List.length_map, List.length_map, sizeLine_eq]; omega), ?_⟩
        have hdis : ∀ j ∈ keysT ns, j ∉ keysT rns := fun j hj hj2 => by
          obtain ⟨m, m0, m1, mc⟩ := (hk j).mp hj2
          have := (hkk j).mp hj
          rw [e0] at this
          exact hex ⟨m, m0, m1, mc.trans this.symm⟩
        have kk1 : ∀ l : List Nd, (l.map ndK).map (·.1) = (keysT l).map Sum.inl := fun l => by unfold keysT; rw [List.map_map, List.map_map]; rfl
        have emg : mergeK (rns.map ndK) (ns.map ndK) = (rns ++ ns).map ndK := by
          rw [mergeK_append, List.map_append]
          · intro kk hkx hkr
            rw [kk1] at hkx hkr
            obtain ⟨x, hx, rfl⟩ := List.mem_map.mp hkx
            obtain ⟨y, hy, e⟩ := List.mem_map.mp hkr
            have e' : y = x := Sum.inl.inj e
            exact hdis x hx (e' ▸ hy)
          · rw [kk1]
            exact List.Pairwise.map _ (fun a b h z => h (Sum.inl.inj z)) TO.nod
        rw [emg]
        have ltr : lt ≠ dr := fun z => by rw [z, h5r] at h5t; cases h5t
        have h6t : upd H5 dr (.dK ((rns ++ ns).map ndK)) lt = some (.lst (ts.map trV)) := by rw [upd_ne ltr]; exact h5t
        refine ⟨_, rfl, .inl ⟨rfl, _, SqL.of h6t⟩, _, rfl, lt, _, _, rfl, rfl, h6t, (by rw [List.length_map, sizeLine_eq]; omega), ?_⟩
        have new : TreeAt K H5 n rs hs ⟨dt, 0 + i, ns⟩ := ⟨TH, TO, hkk, hT, i0, i1⟩
        refine ⟨ts ++ [⟨dt, 0 + i, ns⟩], rns ++ ns, _, _, rfl, fun c o e => ?_, ?_, ?_, fun t ht => ?_, ?_, ?_, fun x hx => ?_, (fun j => ?_), by rw [List.length_append]; exact Nat.add_le_add_right hlen 1, (fun t ht => ?_), ?_⟩
        · rw [upd_ne (ne_of_none e hlt), upd_ne (ne_of_none e fdr)]; exact S5 _ _ (S4 c o e)
        · rw [upd_same, List.map_append]; rfl
        · rw [upd_ne ltr.symm, upd_same]
        · have up : ∀ t : TR, TreeAt K H5 n rs hs t → t.d ≠ dr → TreeAt K (upd (upd H5 dr (.dK ((rns ++ ns).map ndK))) lt (.lst (ts.map trV ++ [.ref dt]))) n rs hs t := fun t ht hne => by
            have t6 := ht.upd (o' := .dK ((rns ++ ns).map ndK)) h5r trivial hne
            refine t6.upd h6t trivial fun z => ?_
            have := t6.th.dict
            rw [z, h6t] at this; cases this
          rcases List.mem_append.mp ht with q | q
          · exact ⟨up t ((hts t q).1.same S5) (hts t q).2, (hts t q).2⟩
          · rw [List.mem_singleton.mp q]
            exact ⟨up _ new ndt.symm, ndt.symm⟩
        · rw [List.map_append]
          show Firsts (i + 1) _ (ts.map TR.st ++ [0 + (i : Int)])
          rw [e0]
          exact hF.yes hex
        · unfold keysT
          rw [List.map_append]
          exact List.nodup_append.mpr ⟨hnd, TO.nod, fun x hx y hy e => hdis y hy (e ▸ hx)⟩
        · rcases List.mem_append.mp hx with q | q
          · exact hin x q
          · exact TO.inm x q
        · unfold keysT
          rw [List.map_append, List.mem_append]
          show (j ∈ keysT rns ∨ j ∈ keysT ns) ↔ _
          rw [hk j, hkk j, e0]
          constructor
          · rintro (⟨m, a1, a2, a3⟩ | a3)
            · exact ⟨m, a1, by omega, a3⟩
            · exact ⟨i, by omega, by omega, a3⟩
          · rintro ⟨m, a1, a2, a3⟩
            by_cases e : m = i
            · exact .inr (e ▸ a3)
            · exact .inl ⟨m, a1, by omega, a3⟩
        · rcases List.mem_append.mp ht with q | q
          · exact hfd t q
          · rw [List.mem_singleton.mp q]; exact S4.free hdt
        · rw [List.map_append]
          refine nd_snoc hdd fun q => ?_
          obtain ⟨t, ht, e⟩ := List.mem_map.mp q
          have := (hts t ht).1.th.dict
          rw [e] at this
          exact ne_of_none this hdt rfl
    · rintro σ H4 ⟨ts, rns, o6, o7, rfl, S4, h4t, h4r, hts, hF, hnd, hin, hk, hlen, hfd, hdd⟩
      rw [Int.toNat_natCast] at hF hlen
      exact ⟨_, rfl, k lt ts H4 (S1.trans S4) (S1.free hlt) h4t (fun t ht => (hts t ht).1) hF hlen (fun t ht => S1.free (hfd t ht)) hdd⟩
end
end Fen

set_option Elab.async false
set_option linter.all false
set_option maxRecDepth 100000
set_option maxHeartbeats 4000000
namespace Fen
open PySem L2
def rIsi (K : PySem.W.Frag) : List V → Hp → VK → Prop := fun vs H Q => ∃ x T b, vs = [x, .ty T] ∧ IsI K H x T b ∧ Q (.bl b) H
def spNumbers (K : PySem.W.Frag) : Sp := fun vs H Q _ => ∃ (a : Addr) (zs : List Int), vs = [.ref a, .int zs.length] ∧ SqL K H a (zs.map V.int) ∧ zs.length ≤ 1000 ∧ ∀ H', Same H H' → Q (.bl true) H'
section
variable {P : Program} {w : PySem.World} {K : PySem.W.Frag} {mg : Str → Option Value} {base : Heap}
theorem scNumbers : FnScope ["_law_found", "_law_size"] ["_law_found", "_law_size"] (defScope sNumbers) := ⟨rfl, rfl, rfl, by decide +kernel, rfl, by decide +kernel, by decide +kernel⟩
theorem ndNumbers : (["_law_one"] : List Str).Nodup := by decide +kernel
theorem ok_numbers {f : Addr} {fd : FuncData} (F : Fun K "_law_numbers" "_law_numbers" sNumbers f fd) (T : Txt K mg) (T2 : Txt2 mg) : FnOk P w K mg base CX0 1 f fd ["_law_found", "_law_size"] (spNumbers K) := by
  refine F.ok scNumbers (fun vs H Q E h => ?_) (fun cdv A outer s0 H vs Q E hr h => ?_)
  · obtain ⟨a, zs, rfl, _⟩ := h
    rfl
  · obtain ⟨a, zs, rfl, ha, hz, k⟩ := h
    refine ⟨_, pss_cons (ps_if (PW.pt (pw_or (pt_not (pt_val (pe_callB call_isi rfl T2.isinstance PyProof.Rows.boot_isinstance (pa_cons (pv 0) (pa_cons (pe_bltn (v := .ty "list") rfl T.list PyProof.Rows.boot_list rfl) pa_nil)))))
        (pw_or1 (pt_cmpR op_ne (pe_callB call_len_seq rfl T.len PySem.boot_len (pa_cons (pv 0) pa_nil)) (pv 1) (nomark _))))) pss_never pss_nil)
      (pss_one (ps_ret (pe_callB (call_allL rfl) rfl T2.all PyProof.Rows.boot_all (pa_cons (pe_lcomp rfl (CompScope.of (N := ["_law_found", "_law_size"]) (osc := defScope sNumbers) (Nc := ["_law_one"]) (sub := [none]) (by decide +kernel)) (pi_list (pv 0))
        (fun _ _ _ _ _ => pg_name (i := 0) ndNumbers rfl (Or.inl rfl) (Or.inr rfl)) (gk_name rfl) gm_name (fun _ _ _ _ _ => pif0)
        (fun _ _ _ _ _ => pe_and (pe_callB (r := rIsi K) call_isi rfl T2.isinstance PyProof.Rows.boot_isinstance (pa_cons (pv 0) (pa_cons (pe_bltn (v := .ty "int") rfl T2.int PyProof.Rows.boot_int rfl) pa_nil)))
          (pe_one (pe_not (pe_callB (r := rIsi K) call_isi rfl T2.isinstance PyProof.Rows.boot_isinstance (pa_cons (pv 0) (pa_cons (pe_bltn (v := .ty "bool") rfl T2.bool PyProof.Rows.boot_bool rfl) pa_nil))))))) pa_nil)))), ?_⟩
    refine ⟨_, rfl, _, _, _, rfl, .list_list _ _ ha, _, rfl, ?_⟩
    refine iteF ⟨_, rfl, a, _, rfl, .inl ha, _, rfl, rfl, _, rfl, ?_⟩
    refine iteNS (by rw [List.length_map]) ?_
    refine ⟨_, rfl, a, rfl, ⟨_, ha⟩, fun l hl => ?_⟩
    refine comp_list (ys := zs.map V.int) (fun i xs H2 => xs = (List.replicate i true).map V.bl ∧ H2 = upd H l (.lst xs) ∧ i ≤ zs.length) ⟨rfl, rfl, Nat.zero_le _⟩ ?_ ?_ ?_
    · rintro i xs H2 hi ⟨_, rfl, _⟩
      exact ⟨sq_new hl ha, upd_same⟩
    · rintro i x xs H2 hx ⟨rfl, rfl, hi⟩
      obtain ⟨z, hz1, rfl⟩ := ints_at hx
      have hil : i < zs.length := (List.getElem?_eq_some_iff.mp hz1).1
      refine gnoif ?_
      refine ⟨_, rfl, _, _, _, rfl, .int_int _, _, rfl, ?_⟩
      refine iteT ⟨_, rfl, _, _, _, rfl, .int_bool _, _, rfl, upd_same, ?_, ?_, by rw [upd_upd], by omega⟩
      · rw [List.length_map, List.length_replicate, sizeLine_eq]; omega
      · rw [List.replicate_succ', List.map_append]; rfl
    · rintro xs H2 ⟨rfl, rfl, _⟩
      refine ⟨l, _, rfl, SqL.of upd_same, ?_⟩
      rw [all_reps]
      exact k _ (same_new hl)
end
end Fen

set_option Elab.async false
set_option linter.all false
set_option maxRecDepth 100000
set_option maxHeartbeats 4000000
namespace Fen
open PySem L2
theorem usable_nil (rs : List Run) : usable [] rs = rs := by unfold usable; exact List.filter_eq_self.mpr fun r _ => rfl
theorem first_ge {rs : List Run} {k : Nat} : ∀ (i : Nat) (j : Int), (i : Int) < k → Conn rs i j → ∃ m : Int, 0 ≤ m ∧ m ≤ i ∧ Conn rs m j ∧ ∀ q, 0 ≤ q → q < m → ¬ Conn rs q m := by
  intro i
  induction i using Nat.strongRecOn with
  | _ i ih =>
    intro j hi hc
    by_cases h : ∃ q : Nat, q < i ∧ Conn rs q i
    · obtain ⟨q, hq, qc⟩ := h
      obtain ⟨m, m0, m1, mc, mf⟩ := ih q hq j (by omega) (qc.trans hc)
      exact ⟨m, m0, by omega, mc, mf⟩
    · refine ⟨i, by omega, by omega, hc, fun q q0 q1 qc => h ⟨q.toNat, by omega, ?_⟩⟩
      rw [Int.toNat_of_nonneg q0]; exact qc
/-- every mark has a tree -/
theorem trees_cover {K : PySem.W.Frag} {H : Hp} {n : Nat} {rs : List Run} {hs : List Int} {ts : List TR} (ht : ∀ t ∈ ts, TreeAt K H n rs hs t) (hF : Firsts n (usable hs rs) (ts.map TR.st)) {i : Int} (h0 : 0 ≤ i) (h1 : i < n) : ∃ t ∈ ts, ∃ x ∈ t.ns, x.m = i := by
  have hi : ((i.toNat : Nat) : Int) = i := by omega
  obtain ⟨m, m0, m1, mc, mf⟩ := first_ge (rs := usable hs rs) (k := n) i.toNat i (by omega) (by rw [hi]; exact .refl _)
  have hm := (hF.2 m).mpr ⟨m0, by omega, mf⟩
  obtain ⟨t, htm, e⟩ := List.mem_map.mp hm
  have hk := ((ht t htm).keys i).mpr (by rw [e]; exact mc)
  obtain ⟨x, hx, ex⟩ := mem_keys.mp hk
  exact ⟨t, htm, x, hx, ex⟩
end Fen

set_option Elab.async false
set_option linter.all false
set_option maxRecDepth 100000
set_option maxHeartbeats 4000000
namespace Fen
open PySem L2
/-- how much two lines share from their beginning -/
def comm : List Int → List Int → Nat
  | a :: as, b :: bs => if a = b then comm as bs + 1 else 0
  | _, _ => 0
theorem comm_is : ∀ {A B : List Int} {k : Nat}, k ≤ A.length → k ≤ B.length → A.take k = B.take k → (k = A.length ∨ k = B.length ∨ A[k]? ≠ B[k]?) → k = comm A B
  | [], B, k, h1, _, _, _ => by
    have : k = 0 := by simpa using h1
    subst this; cases B <;> rfl
  | a :: as, [], k, _, h2, _, _ => by
    have : k = 0 := by simpa using h2
    subst this; rfl
  | a :: as, b :: bs, 0, _, _, _, h => by
    have : a ≠ b := by
      rcases h with h | h | h
      · simp at h
      · simp at h
      · intro z; exact h (by simp [z])
    unfold comm; rw [if_neg this]
  | a :: as, b :: bs, k + 1, h1, h2, h3, h => by
    rw [List.take_succ_cons, List.take_succ_cons] at h3
    injection h3 with e1 e2
    unfold comm
    rw [if_pos e1, ← comm_is (k := k) (by simpa using h1) (by simpa using h2) e2 (by simpa using h)]
theorem comm_spec : ∀ (A B : List Int), comm A B ≤ A.length ∧ comm A B ≤ B.length ∧ A.take (comm A B) = B.take (comm A B) ∧ (∀ a b, A[comm A B]? = some a → B[comm A B]? = some b → a ≠ b)
  | [], B => by cases B <;> simp [comm]
  | a :: as, [] => by simp [comm]
  | a :: as, b :: bs => by
    unfold comm
    by_cases e : a = b
    · rw [if_pos e]
      obtain ⟨h1, h2, h3, h4⟩ := comm_spec as bs
      refine ⟨by simpa using h1, by simpa using h2, by rw [List.take_succ_cons, List.take_succ_cons, e, h3], fun x y hx hy => h4 x y (by simpa using hx) (by simpa using hy)⟩
    · rw [if_neg e]
      exact ⟨Nat.zero_le _, Nat.zero_le _, rfl, fun x y hx hy => by simp at hx hy; rw [← hx, ← hy]; exact e⟩
def acrossL (A B : List Int) : List Int := (A.drop (comm A B)).reverse ++ B.drop (comm A B)
theorem walkF_app {rs : List Run} : ∀ {here h : Int} {l1 l2 : List Int} {e t : Int}, walkF rs here h l1 = some (e, t) → walkF rs here h (l1 ++ l2) = walkF rs e t l2
  | here, h, [], l2, e, t, q => by
    have : (here, h) = (e, t) := Option.some.inj q
    injection this with a b
    subst a b; rfl
  | here, h, n :: rest, l2, e, t, q => by
    rw [List.cons_append]
    show (if 0 ≤ n ∧ n < (rs.length : Int) then _ else _) = _
    have q' : (if 0 ≤ n ∧ n < (rs.length : Int) then (match stepR (runAt rs n) here with | some (e, d) => walkF rs e (h + d) rest | none => none) else none) = some (e, t) := q
    by_cases c : 0 ≤ n ∧ n < (rs.length : Int)
    · rw [if_pos c] at q' ⊢
      cases hs : stepR (runAt rs n) here with
      | none => rw [hs] at q'; cases q'
      | some ed => rw [hs] at q'; exact walkF_app q'
    · rw [if_neg c] at q'; cases q'
theorem walkF_cut {rs : List Run} : ∀ {l1 : List Int} {here h : Int} {l2 : List Int} {r : Int × Int}, walkF rs here h (l1 ++ l2) = some r → ∃ e t, walkF rs here h l1 = some (e, t) ∧ walkF rs e t l2 = some r
  | [], here, h, l2, r, q => ⟨here, h, rfl, q⟩
  | n :: rest, here, h, l2, r, q => by
    rw [List.cons_append] at q
    have q' : (if 0 ≤ n ∧ n < (rs.length : Int) then (match stepR (runAt rs n) here with | some (e, d) => walkF rs e (h + d) (rest ++ l2) | none => none) else none) = some r := q
    by_cases c : 0 ≤ n ∧ n < (rs.length : Int)
    · rw [if_pos c] at q'
      cases hs : stepR (runAt rs n) here with
      | none => rw [hs] at q'; cases q'
      | some ed =>
        rw [hs] at q'
        obtain ⟨e, t, h1, h2⟩ := walkF_cut q'
        exact ⟨e, t, by rw [walkF_go c.1 c.2 (show stepR (runAt rs n) here = some (ed.1, ed.2) from hs)]; exact h1, h2⟩
    · rw [if_neg c] at q'; cases q'
theorem walkF_shift {rs : List Run} (d : Int) : ∀ {l : List Int} {here h e t : Int}, walkF rs here h l = some (e, t) → walkF rs here (h + d) l = some (e, t + d)
  | [], here, h, e, t, q => by
    have : (here, h) = (e, t) := Option.some.inj q
    injection this with a b
    subst a b; rfl
  | n :: rest, here, h, e, t, q => by
    have q' : (if 0 ≤ n ∧ n < (rs.length : Int) then (match stepR (runAt rs n) here with | some (e, d) => walkF rs e (h + d) rest | none => none) else none) = some (e, t) := q
    by_cases c : 0 ≤ n ∧ n < (rs.length : Int)
    · rw [if_pos c] at q'
      cases hs : stepR (runAt rs n) here with
      | none => rw [hs] at q'; cases q'
      | some ed =>
        rw [hs] at q'
        rw [walkF_go c.1 c.2 (show stepR (runAt rs n) here = some (ed.1, ed.2) from hs), show h + d + ed.2 = h + ed.2 + d by omega]
        exact walkF_shift d q'
    · rw [if_neg c] at q'; cases q'
theorem stepR_back {r : Run} (hu : r.one ≠ r.other) {here e d : Int} (h : stepR r here = some (e, d)) : stepR r e = some (here, -d) := by
  unfold stepR at h ⊢
  by_cases c : here = r.one
  · rw [if_pos c] at h
    injection h with h; injection h with h1 h2
    rw [← h1, ← h2, if_neg (Ne.symm hu), if_pos rfl, c]
  · rw [if_neg c] at h
    by_cases c2 : here = r.other
    · rw [if_pos c2] at h
      injection h with h; injection h with h1 h2
      rw [← h1, ← h2, if_pos rfl, c2, Int.neg_neg]
    · rw [if_neg c2] at h; cases h
theorem walkF_rev {rs : List Run} (hu : ∀ r ∈ rs, r.one ≠ r.other) : ∀ {l : List Int} {here h e t : Int}, walkF rs here h l = some (e, t) → walkF rs e t l.reverse = some (here, h)
  | [], here, h, e, t, q => by
    have : (here, h) = (e, t) := Option.some.inj q
    injection this with a b
    subst a b; rfl
  | n :: rest, here, h, e, t, q => by
    have q' : (if 0 ≤ n ∧ n < (rs.length : Int) then (match stepR (runAt rs n) here with | some (e, d) => walkF rs e (h + d) rest | none => none) else none) = some (e, t) := q
    by_cases c : 0 ≤ n ∧ n < (rs.length : Int)
    · rw [if_pos c] at q'
      cases hs : stepR (runAt rs n) here with
      | none => rw [hs] at q'; cases q'
      | some ed =>
        rw [hs] at q'
        rw [List.reverse_cons, walkF_app (walkF_rev hu q'), walkF_go c.1 c.2 (stepR_back (hu _ (runAt_ok c.1 c.2).2.2) (show stepR (runAt rs n) here = some (ed.1, ed.2) from hs))]
        show some (here, h + ed.2 + -ed.2) = _
        rw [show h + ed.2 + -ed.2 = h by omega]
    · rw [if_neg c] at q'; cases q'
theorem across_walk {rs : List Run} (hu : ∀ r ∈ rs, r.one ≠ r.other) {start : Int} {A B : List Int} {a ha b hb : Int} (h1 : walkF rs start 0 A = some (a, ha)) (h2 : walkF rs start 0 B = some (b, hb)) : walkF rs a ha (acrossL A B) = some (b, hb) := by
  obtain ⟨_, _, e, _⟩ := comm_spec A B
  rw [← List.take_append_drop (comm A B) A] at h1
  rw [← List.take_append_drop (comm A B) B] at h2
  obtain ⟨p, hp, q1, q2⟩ := walkF_cut h1
  obtain ⟨p', hp', q3, q4⟩ := walkF_cut h2
  rw [← e, q1] at q3
  injection q3 with q3; injection q3 with z1 z2
  subst z1 z2
  unfold acrossL
  rw [walkF_app (walkF_rev hu q2)]
  exact q4
/-- a walk over runs that hold under f -/
theorem walkF_under {rs : List Run} {f : Int → Int} : ∀ {l : List Int} {here h e t : Int}, (∀ z ∈ l, f (runAt rs z).other - f (runAt rs z).one = (runAt rs z).rise) → walkF rs here h l = some (e, t) → t - h = f e - f here
  | [], here, h, e, t, _, q => by
    have : (here, h) = (e, t) := Option.some.inj q
    injection this with a b
    subst a b; omega
  | n :: rest, here, h, e, t, hf, q => by
    have q' : (if 0 ≤ n ∧ n < (rs.length : Int) then (match stepR (runAt rs n) here with | some (e, d) => walkF rs e (h + d) rest | none => none) else none) = some (e, t) := q
    by_cases c : 0 ≤ n ∧ n < (rs.length : Int)
    · rw [if_pos c] at q'
      cases hs : stepR (runAt rs n) here with
      | none => rw [hs] at q'; cases q'
      | some ed =>
        rw [hs] at q'
        have ih := walkF_under (fun z hz => hf z (List.mem_cons_of_mem _ hz)) q'
        have hn := hf n List.mem_cons_self
        unfold stepR at hs
        by_cases c1 : here = (runAt rs n).one
        · rw [if_pos c1] at hs
          injection hs with hs; subst hs
          rw [c1]; simp only at ih; omega
        · rw [if_neg c1] at hs
          by_cases c2 : here = (runAt rs n).other
          · rw [if_pos c2] at hs
            injection hs with hs; subst hs
            rw [c2]; simp only at ih; omega
          · rw [if_neg c2] at hs; cases hs
    · rw [if_neg c] at q'; cases q'
theorem across_mem {A B : List Int} {z : Int} (h : z ∈ acrossL A B) : z ∈ A ∨ z ∈ B := by
  unfold acrossL at h
  rcases List.mem_append.mp h with h | h
  · exact .inl (List.mem_of_mem_drop (List.mem_reverse.mp h))
  · exact .inr (List.mem_of_mem_drop h)
theorem across_len (A B : List Int) : (acrossL A B).length ≤ A.length + B.length := by
  unfold acrossL
  rw [List.length_append, List.length_reverse, List.length_drop, List.length_drop]; omega
theorem TreeOk.acrossNodup {rs : List Run} {hs : List Int} {start : Int} {n : Nat} {ns : List Nd} (X : TreeOk rs hs start n ns) {x y : Nd} (hx : x ∈ ns) (hy : y ∈ ns) : (acrossL x.line y.line).Nodup := by
  obtain ⟨c1, c2, c3, c4⟩ := comm_spec x.line y.line
  unfold acrossL
  rw [List.nodup_append]
  refine ⟨List.pairwise_reverse.mpr (((X.lineNodup hx).sublist (List.drop_sublist _ _)).imp fun h => Ne.symm h), (X.lineNodup hy).sublist (List.drop_sublist _ _), fun a ha b hb e => ?_⟩
  subst e
  obtain ⟨i, hi⟩ := List.getElem?_of_mem (List.mem_reverse.mp ha)
  obtain ⟨j, hj⟩ := List.getElem?_of_mem hb
  rw [List.getElem?_drop] at hi hj
  have h := X.uniq x hx y hy _ _ a hi hj
  have li := (List.getElem?_eq_some_iff.mp hi).1
  have lj := (List.getElem?_eq_some_iff.mp hj).1
  have hl := congrArg List.length h
  rw [List.length_take, List.length_take] at hl
  have ij : i = j := by omega
  subst ij
  have p1 : x.line[comm x.line y.line]? = some (x.line[comm x.line y.line]'(by omega)) := List.getElem?_eq_getElem (by omega)
  have p2 : y.line[comm x.line y.line]? = some (y.line[comm x.line y.line]'(by omega)) := List.getElem?_eq_getElem (by omega)
  refine c4 _ _ p1 p2 ?_
  have q1 : (x.line.take (comm x.line y.line + i + 1))[comm x.line y.line]? = (y.line.take (comm x.line y.line + i + 1))[comm x.line y.line]? := by rw [h]
  rw [List.getElem?_take_of_lt (by omega), List.getElem?_take_of_lt (by omega), p1, p2] at q1
  exact Option.some.inj q1
end Fen

set_option Elab.async false
set_option linter.all false
set_option maxRecDepth 100000
set_option maxHeartbeats 4000000
namespace Fen
open PySem L2
def spAcross (K : PySem.W.Frag) : Sp := fun vs H Q _ => ∃ (a b : Addr) (A B : List Int), vs = [.ref a, .ref b] ∧ SqT K H a (A.map V.int) ∧ SqT K H b (B.map V.int) ∧ A.length ≤ 100 ∧ B.length ≤ 100 ∧ ∀ p H', Same H H' → SqT K H' p ((acrossL A B).map V.int) → Q (.ref p) H'
theorem cut_from {A : List Int} {k : Nat} (h : k ≤ A.length) : cutV (A.map V.int) (some (k : Int)) none = (A.drop k).map V.int := by
  unfold cutV
  rw [HT.sIx_nat, HT.sIx_none, List.length_map, Nat.min_eq_left h, List.map_drop]
  exact List.take_of_length_le (by simp)
theorem take_more {A B : List Int} {k : Nat} (h : A.take k = B.take k) (ha : k < A.length) (hb : k < B.length) (e : gI A k = gI B k) : A.take (k + 1) = B.take (k + 1) := by
  have g : ∀ L : List Int, k < L.length → L.take (k + 1) = L.take k ++ [gI L k] := fun L hl => by
    rw [List.take_add_one, List.getElem?_eq_getElem hl]
    unfold gI
    rw [Int.toNat_natCast, List.getD_eq_getElem?_getD, List.getElem?_eq_getElem hl]; rfl
  rw [g A ha, g B hb, h, e]
section
variable {P : Program} {w : PySem.World} {K : PySem.W.Frag} {mg : Str → Option Value} {base : Heap}
theorem scAcross : FnScope ["first", "second", "shared"] ["first", "second"] (defScope pAcross) := ⟨rfl, rfl, rfl, by decide +kernel, rfl, by decide +kernel, by decide +kernel⟩
theorem ok_across {f : Addr} {fd : FuncData} (F : Fun K "across" "across" pAcross f fd) (T : Txt K mg) (T6 : mg "min" = none) : FnOk P w K mg base CX0 1 f fd ["first", "second"] (spAcross K) := by
  refine F.ok scAcross (fun vs H Q E h => ?_) (fun cdv A0 outer s0 H vs Q E hr h => ?_)
  · obtain ⟨a, b, A, B, rfl, _⟩ := h
    rfl
  · obtain ⟨a, b, A, B, rfl, ha, hb, hA, hB, k⟩ := h
    have nd := scAcross.nd
    refine ⟨_, pss_cons (ps_set (i := 2) nd rfl (Or.inl rfl) pe_int)
      (pss_cons (ps_mid (ps_while PassesOwn.never (PW.pt (pw_and (pt_cmpR op_lt (pv 2) (pe_callB (call_min2 rfl) rfl T6 PyProof.Rows.boot_min (pa_cons (pe_callB call_len_seq rfl T.len PySem.boot_len (pa_cons (pv 0) pa_nil)) (pa_cons (pe_callB call_len_seq rfl T.len PySem.boot_len (pa_cons (pv 1) pa_nil)) pa_nil))) (nomark _))
          (pw_and1 (pt_cmpR op_eq (pe_ix ix_tup (pv 0) (pv 2) (fun _ _ => rfl)) (pe_ix ix_tup (pv 1) (pv 2) (fun _ _ => rfl)) (nomark _)))))
        (pss_one (ps_aug (i := 2) nd rfl (Or.inl rfl) pe_int ip_add))))
      (pss_one (ps_ret (pe_op op_catG (pe_revT (pe_slice sl_tupG (pv 0) (po_some (pv 2)) po_none) (pe_un un_neg pe_int)) (pe_slice sl_tupG (pv 1) (po_some (pv 2)) po_none))))), ?_⟩
    refine ⟨fun σ' H' => σ' = [some (.ref a), some (.ref b), some (.int (comm A B : Nat))] ∧ H' = H, ?_, ?_⟩
    · refine ⟨fun m σ H2 => ∃ j : Nat, σ = [some (.ref a), some (.ref b), some (.int j)] ∧ H2 = H ∧ j ≤ A.length ∧ j ≤ B.length ∧ A.take j = B.take j ∧ m = A.length - j, ⟨_, 0, rfl, rfl, Nat.zero_le _, Nat.zero_le _, rfl, rfl⟩, ?_⟩
      rintro m σ H2 ⟨j, rfl, rfl, j1, j2, je, rfl⟩
      refine ⟨_, rfl, _, rfl, a, _, rfl, .inr ha, _, rfl, b, _, rfl, .inr hb, _, _, rfl, _, _, rfl, rfl, _, rfl, ?_⟩
      rw [List.length_map, List.length_map]
      refine ite2 (fun h => ?_) (fun h => ?_)
      · have hlt := of_decide_eq_true h
        have l1 : j < A.length := by split at hlt <;> omega
        have l2 : j < B.length := by split at hlt <;> omega
        refine ⟨_, rfl, _, rfl, a, _, _, _, rfl, rfl, ha, at_gI (by omega) (by omega), _, rfl, _, rfl, b, _, _, _, rfl, rfl, hb, at_gI (by omega) (by omega), rfl, _, rfl, ?_⟩
        refine ite2 (fun h2 => ?_) (fun h2 => ?_)
        · have e := V.int.inj (of_decide_eq_true h2)
          refine ⟨fun σ' H' => σ' = [some (.ref a), some (.ref b), some (.int (j + 1 : Nat))] ∧ H' = H2, fun σ' H' ⟨e1, e2⟩ => ⟨_, by omega, j + 1, e1, e2, l1, l2, take_more je l1 l2 e, rfl⟩, ?_⟩
          exact ⟨_, rfl, _, _, rfl, rfl, rfl, rfl⟩
        · refine ⟨?_, rfl⟩
          have : j = comm A B := comm_is j1 j2 je (.inr (.inr fun z => h2 (decide_eq_true (by
            unfold gI
            rw [Int.toNat_natCast, List.getD_eq_getElem?_getD, List.getD_eq_getElem?_getD, z]))))
          rw [← this]
      · refine iteF ⟨?_, rfl⟩
        have : j = comm A B := comm_is j1 j2 je (by
          have : ¬ (j : Int) < _ := fun z => h (decide_eq_true z)
          split at this
          · right; left; omega
          · left; omega)
        rw [← this]
    · rintro σ H2 ⟨rfl, rfl⟩
      obtain ⟨c1, c2, _, _⟩ := comm_spec A B
      refine ⟨_, rfl, _, rfl, (comm A B : Nat), rfl, a, _, rfl, ha, fun p1 H1 S1 q1 => ?_⟩
      rw [cut_from c1] at q1
      refine ⟨_, rfl, p1, _, rfl, rfl, q1, fun p2 hp2 => ?_⟩
      have S2 := S1.trans (same_new (o := .tup ((A.drop (comm A B)).map V.int).reverse) hp2)
      refine ⟨_, rfl, _, rfl, (comm A B : Nat), rfl, b, _, rfl, sq_same (tp := true) S2 hb, fun p3 H3 S3 q3 => ?_⟩
      rw [cut_from c2] at q3
      refine ⟨p2, p3, _, _, rfl, rfl, sq_same (tp := true) S3 (SqT.of upd_same), q3, ?_, fun p H' S q => ?_⟩
      · simp only [List.length_reverse, List.length_map, List.length_drop]; rw [sizeLine_eq]; omega
      · refine k p H' ((S2.trans S3).trans S) ?_
        unfold acrossL
        rw [List.map_append, List.map_reverse]
        exact q
end
end Fen

set_option Elab.async false
set_option linter.all false
set_option maxRecDepth 100000
set_option maxHeartbeats 4000000
namespace Fen
open PySem L2
def ringF (cs : List PN) (hs : List Int) : Nat → List Run → Option (Int × List Int)
  | _, [] => none
  | i, r :: rest => if hs.contains r.hand = false ∧ (lookP cs r.other).2.1 - (lookP cs r.one).2.1 ≠ r.rise then some (r.one, (i : Int) :: acrossL (lookP cs r.other).2.2 (lookP cs r.one).2.2) else ringF cs hs (i + 1) rest
theorem ringF_cons {cs : List PN} {hs : List Int} {i : Nat} {r : Run} {rest : List Run} : ringF cs hs i (r :: rest) = if hs.contains r.hand = false ∧ (lookP cs r.other).2.1 - (lookP cs r.one).2.1 ≠ r.rise then some (r.one, (i : Int) :: acrossL (lookP cs r.other).2.2 (lookP cs r.one).2.2) else ringF cs hs (i + 1) rest := rfl
theorem ringF_some {cs : List PN} {hs : List Int} : ∀ {l : List Run} {i : Nat} {m : Int} {line : List Int}, ringF cs hs i l = some (m, line) → ∃ (j : Nat) (r : Run), l[j]? = some r ∧ hs.contains r.hand = false ∧ (lookP cs r.other).2.1 - (lookP cs r.one).2.1 ≠ r.rise ∧ m = r.one ∧ line = ((i + j : Nat) : Int) :: acrossL (lookP cs r.other).2.2 (lookP cs r.one).2.2
  | [], i, m, line, h => by cases h
  | r :: rest, i, m, line, h => by
    unfold ringF at h
    by_cases c : hs.contains r.hand = false ∧ (lookP cs r.other).2.1 - (lookP cs r.one).2.1 ≠ r.rise
    · rw [if_pos c] at h
      injection h with h; injection h with h1 h2
      exact ⟨0, r, rfl, c.1, c.2, h1.symm, h2.symm⟩
    · rw [if_neg c] at h
      obtain ⟨j, r', a1, a2, a3, a4, a5⟩ := ringF_some h
      refine ⟨j + 1, r', by simpa using a1, a2, a3, a4, ?_⟩
      rw [a5, show i + 1 + j = i + (j + 1) by omega]
theorem ringF_none {cs : List PN} {hs : List Int} : ∀ {l : List Run} {i : Nat}, ringF cs hs i l = none → ∀ r ∈ l, hs.contains r.hand = false → (lookP cs r.other).2.1 - (lookP cs r.one).2.1 = r.rise
  | [], i, h, r, hr, _ => by cases hr
  | q :: rest, i, h, r, hr, hc => by
    unfold ringF at h
    by_cases c : hs.contains q.hand = false ∧ (lookP cs q.other).2.1 - (lookP cs q.one).2.1 ≠ q.rise
    · rw [if_pos c] at h; cases h
    · rw [if_neg c] at h
      rcases List.mem_cons.mp hr with rfl | hr
      · by_cases e : (lookP cs r.other).2.1 - (lookP cs r.one).2.1 = r.rise
        · exact e
        · exact absurd ⟨hc, e⟩ c
      · exact ringF_none h r hr hc
def reachN (ts : List TR) : List Nd := ts.flatMap TR.ns
def RingRes (K : PySem.W.Frag) (H : Hp) (r : Option (Int × List Int)) (v : V) : Prop := match r with
  | none => v = .non
  | some ml => ∃ p lt, v = .ref p ∧ H p = some (.tup [.int ml.1, .ref lt]) ∧ SqT K H lt (ml.2.map V.int)
theorem RingRes.same {K : PySem.W.Frag} {H H' : Hp} {r : Option (Int × List Int)} {v : V} (S : Same H H') (h : RingRes K H r v) : RingRes K H' r v := by
  cases r with
  | none => exact h
  | some ml => obtain ⟨p, lt, e, a, b⟩ := h; exact ⟨p, lt, e, S _ _ a, sq_same (tp := true) S b⟩
structure Reach (K : PySem.W.Frag) (H : Hp) (n : Nat) (rs : List Run) (hs : List Int) (ts : List TR) : Prop where
  trees : ∀ t ∈ ts, TreeAt K H n rs hs t
  firsts : Firsts n (usable hs rs) (ts.map TR.st)
  nod : (keysT (reachN ts)).Nodup
theorem Reach.same {K : PySem.W.Frag} {H H' : Hp} {n : Nat} {rs : List Run} {hs : List Int} {ts : List TR} (x : Reach K H n rs hs ts) (S : Same H H') : Reach K H' n rs hs ts := ⟨fun t ht => (x.trees t ht).same S, x.firsts, x.nod⟩
theorem mem_reach {ts : List TR} {x : Nd} : x ∈ reachN ts ↔ ∃ t ∈ ts, x ∈ t.ns := List.mem_flatMap
theorem trees_apart {K : PySem.W.Frag} {H : Hp} {n : Nat} {rs : List Run} {hs : List Int} {ts : List TR} (ht : ∀ t ∈ ts, TreeAt K H n rs hs t) (hF : Firsts n (usable hs rs) (ts.map TR.st)) {i j : Nat} {t u : TR} (hi : ts[i]? = some t) (hj : ts[j]? = some u) (ij : i < j) {k : Int} (h1 : k ∈ keysT t.ns) (h2 : k ∈ keysT u.ns) : False := by
  have c1 := ((ht t (List.mem_of_getElem? hi)).keys k).mp h1
  have c2 := ((ht u (List.mem_of_getElem? hj)).keys k).mp h2
  have li := (List.getElem?_eq_some_iff.mp hi).1
  have lj := (List.getElem?_eq_some_iff.mp hj).1
  have lt := List.pairwise_iff_getElem.mp hF.1 i j (by rw [List.length_map]; exact li) (by rw [List.length_map]; exact lj) ij
  rw [List.getElem_map, List.getElem_map, (List.getElem?_eq_some_iff.mp hi).2, (List.getElem?_eq_some_iff.mp hj).2] at lt
  have hu := (hF.2 u.st).mp (List.mem_map_of_mem (List.mem_of_getElem? hj))
  exact hu.2.2 t.st (ht t (List.mem_of_getElem? hi)).b0 lt (c1.trans c2.symm)
def spRing (K : PySem.W.Frag) : Sp := fun vs H Q _ => ∃ (n : Nat) (a s : Addr) (rs : List Run) (hs : List Int), vs = [.int n, .ref a, .ref s] ∧ SqL K H a (rs.map runV) ∧ Runs H rs ∧ InMarks n rs ∧ SqL K H s (hs.map V.int) ∧ n ≤ 40 ∧ rs.length ≤ 1000 ∧
  ∀ (v : V) (ts : List TR) H', Same H H' → Reach K H' n rs hs ts → RingRes K H' (ringF ((reachN ts).map contN) hs 0 rs) v → Q v H'
abbrev Nr : List Str := ["size", "runs", "struck", "reached", "tree", "number", "one", "other", "rise", "hand", "low", "to_one", "high", "to_other"]
section
variable {P : Program} {w : PySem.World} {K : PySem.W.Frag} {mg : Str → Option Value} {base : Heap}
theorem scRing : FnScope Nr ["size", "runs", "struck"] (defScope pOpenRing) := ⟨rfl, rfl, rfl, by decide +kernel, rfl, by decide +kernel, by decide +kernel⟩
theorem ok_ring {f : Addr} {fd : FuncData} (F : Fun K "open_ring" "open_ring" pOpenRing f fd) (T4 : mg "enumerate" = none) (cT : Cal P w K mg base "trees_of" 2 ["size", "runs", "struck"] (spTrees K)) (cA : Cal P w K mg base "across" 1 ["first", "second"] (spAcross K)) : FnOk P w K mg base CX0 3 f fd ["size", "runs", "struck"] (spRing K) := by
  refine F.ok scRing (fun vs H Q E h => ?_) (fun cdv A outer s0 H vs Q E hr h => ?_)
  · obtain ⟨n, a, s, rs, hs, rfl, _⟩ := h
    rfl
  · obtain ⟨n, a, s, rs, hs, rfl, ha, R, VM, hsq, hn, hz, k⟩ := h
    have nd := scRing.nd
    have hr1 : Room 1 _ := hr.mono (by decide)
    have hu := hu_of hr
    refine ⟨_, pss_cons (ps_set (i := 3) nd rfl (Or.inl rfl) pe_dnewK)
      (pss_cons (ps_for PassesOwn.never rfl (pi_list (pe_cal cT hr rfl (pa_cons (pv 0) (pa_cons (pv 1) (pa_cons (pv 2) pa_nil))))) (pg_name (i := 4) nd rfl (Or.inl rfl))
        (pss_one (ps_expr (pe_dupd (pv 3) (pv 4) ⟨rfl, rfl, rfl, rfl⟩))))
      (pss_cons (ps_for PassesOwn.never rfl (pi_enum rfl T4 (pa_cons (pv 1) pa_nil)) (pg_tup (n := 2) rfl (pgs_cons (pg_name (i := 5) nd rfl (Or.inl rfl)) (pgs_cons (pg_tup (n := 4) rfl (pgs_cons (pg_name (i := 6) nd rfl (Or.inl rfl)) (pgs_cons (pg_name (i := 7) nd rfl (Or.inl rfl)) (pgs_cons (pg_name (i := 8) nd rfl (Or.inl rfl)) (pgs_cons (pg_name (i := 9) nd rfl (Or.inl rfl)) pgs_nil))))) pgs_nil)))
        (pss_cons (ps_asg (pe_dget hu (pv 3) (pv 6) (fun _ _ => rfl)) (pg_tup (n := 2) rfl (pgs_cons (pg_name (i := 10) nd rfl (Or.inl rfl)) (pgs_cons (pg_name (i := 11) nd rfl (Or.inl rfl)) pgs_nil))))
        (pss_cons (ps_asg (pe_dget hu (pv 3) (pv 7) (fun _ _ => rfl)) (pg_tup (n := 2) rfl (pgs_cons (pg_name (i := 12) nd rfl (Or.inl rfl)) (pgs_cons (pg_name (i := 13) nd rfl (Or.inl rfl)) pgs_nil))))
        (pss_one (ps_if (PW.pt (pw_and (pt_cmpR op_notIn_seq (pv 9) (pv 2) (by with_unfolding_all rfl)) (pw_and1 (pt_cmpR op_ne (pe_op op_sub (pv 12) (pv 10)) (pv 8) (nomark _)))))
          (pss_one (ps_ret (pe_tup (pa_cons (pv 6) (pa_cons (pe_op op_catG (pe_tup (pa_cons (pv 5) pa_nil)) (pe_cal cA hr1 rfl (pa_cons (pv 13) (pa_cons (pv 11) pa_nil)))) pa_nil))))) pss_nil)))))
      (pss_one (ps_ret pe_non)))), ?_⟩
    intro dr hdr
    have S1 := same_new (o := .dK []) hdr
    have hdr1 : upd H dr (.dK []) dr = some (.dK (([] : List Nd).map ndK)) := upd_same
    generalize upd H dr (.dK []) = H1 at *
    refine ⟨_, rfl, _, rfl, _, rfl, n, a, s, rs, hs, rfl, S1.seq ha, R.same S1, VM, S1.seq hsq, by omega, hz, fun lt ts H3 S3 hlt hlt3 hts hF htl hfd hdd => ?_⟩
    have ndl : lt ≠ dr := (ne_of_none hdr1 hlt).symm
    have ntd : ∀ t ∈ ts, t.d ≠ dr := fun t ht => (ne_of_none hdr1 (hfd t ht)).symm
    refine ⟨lt, rfl, ⟨_, SqL.of hlt3⟩, for_list (K := K) (a := lt) (xs := ts.map trV) (fun i σ H4 => ∃ (o4 o5 o6 o7 o8 o9 o10 o11 o12 o13 : Option V), σ = [some (.int n), some (.ref a), some (.ref s), some (.ref dr), o4, o5, o6, o7, o8, o9, o10, o11, o12, o13] ∧ Same H H4 ∧ H4 lt = some (.lst (ts.map trV)) ∧ H4 dr = some (.dK ((reachN (ts.take i)).map ndK)) ∧ (∀ t ∈ ts, TreeAt K H4 n rs hs t) ∧ (keysT (reachN (ts.take i))).Nodup)
      ⟨_, _, _, _, _, _, _, _, _, _, rfl, S1.trans S3, hlt3, S3 _ _ hdr1, hts, List.nodup_nil⟩ (fun i σ H4 _ ⟨_, _, _, _, _, _, _, _, _, _, _, _, h, _⟩ => SqL.of h) ?_ ?_⟩
    · rintro i v σ H4 hv ⟨o4, o5, o6, o7, o8, o9, o10, o11, o12, o13, rfl, S4, h4t, h4r, hT, hnd⟩
      obtain ⟨t, ht, rfl⟩ : ∃ t, ts[i]? = some t ∧ v = .ref t.d := by
        rw [List.getElem?_map] at hv
        cases e : ts[i]? with
        | none => rw [e] at hv; cases hv
        | some t => rw [e] at hv; exact ⟨t, rfl, (Option.some.inj hv).symm⟩
      have htm := List.mem_of_getElem? ht
      have Tt := hT t htm
      have hdis : ∀ j ∈ keysT t.ns, j ∉ keysT (reachN (ts.take i)) := fun j hj hj2 => by
        obtain ⟨x, hx, rfl⟩ := mem_keys.mp hj2
        obtain ⟨u, hu1, hxu⟩ := mem_reach.mp hx
        obtain ⟨i', hi'⟩ := List.getElem?_of_mem hu1
        have li := (List.getElem?_eq_some_iff.mp hi').1
        rw [List.length_take] at li
        rw [List.getElem?_take_of_lt (by omega)] at hi'
        exact trees_apart hT hF hi' ht (by omega) (mem_keys.mpr ⟨x, hxu, rfl⟩) hj
      have ereach : reachN (ts.take (i + 1)) = reachN (ts.take i) ++ t.ns := by
        unfold reachN; rw [take_some ht, List.flatMap_append]; simp
      have hlenr : (reachN (ts.take i)).length ≤ n := by
        have h := nodup_len (xs := (List.range n).map Int.ofNat) hnd fun kk hk => by
          obtain ⟨x, hx, rfl⟩ := mem_keys.mp hk
          obtain ⟨u, hu1, hxu⟩ := mem_reach.mp hx
          have := (hT u (List.mem_of_mem_take hu1)).tok.inm x hxu
          refine List.mem_map.mpr ⟨x.m.toNat, List.mem_range.mpr (by omega), ?_⟩
          show ((x.m.toNat : Nat) : Int) = x.m
          omega
        unfold keysT at h
        simpa using h
      have hnl := Tt.tok.len
      refine ⟨_, rfl, dr, rfl, .inl ⟨_, .inl h4r⟩, _, rfl, t.d, _, _, rfl, (ntd t htm).symm, h4r, Tt.th.dict, (by rw [List.length_map, List.length_map, sizeLine_eq]; omega), ?_⟩
      have kk1 : ∀ l : List Nd, (l.map ndK).map (·.1) = (keysT l).map Sum.inl := fun l => by unfold keysT; rw [List.map_map, List.map_map]; rfl
      have emg : mergeK ((reachN (ts.take i)).map ndK) (t.ns.map ndK) = (reachN (ts.take (i + 1))).map ndK := by
        rw [mergeK_append, ereach, List.map_append]
        · intro kk hkx hkr
          rw [kk1] at hkx hkr
          obtain ⟨x, hx, rfl⟩ := List.mem_map.mp hkx
          obtain ⟨y, hy, e⟩ := List.mem_map.mp hkr
          have e' : y = x := Sum.inl.inj e
          exact hdis x hx (e' ▸ hy)
        · rw [kk1]
          exact List.Pairwise.map _ (fun a b h z => h (Sum.inl.inj z)) Tt.tok.nod
      rw [emg]
      refine ⟨_, _, _, _, _, _, _, _, _, _, rfl, fun c o e => ?_, ?_, upd_same, fun u hu1 => (hT u hu1).upd h4r trivial (ntd u hu1), ?_⟩
      · rw [upd_ne (ne_of_none e hdr)]; exact S4 c o e
      · rw [upd_ne ndl]; exact h4t
      · rw [ereach]
        unfold keysT at hnd hdis ⊢
        rw [List.map_append, List.nodup_append]
        exact ⟨hnd, Tt.tok.nod, fun x hx y hy e => hdis y hy (e ▸ hx)⟩
    · rintro σ H4 ⟨o4, o5, o6, o7, o8, o9, o10, o11, o12, o13, rfl, S4, h4t, h4r, hT, hnd⟩
      rw [List.length_map, List.take_length] at h4r hnd
      have RC : Reach K H4 n rs hs ts := ⟨hT, hF, hnd⟩
      have R4 := R.same S4
      have node : ∀ m : Int, 0 ≤ m → m < n → ∃ x ∈ reachN ts, x.m = m := fun m m0 m1 => by
        obtain ⟨t, ht, x, hx, e⟩ := trees_cover hT hF m0 m1
        exact ⟨x, mem_reach.mpr ⟨t, ht, hx⟩, e⟩
      have dg : ∀ (x : Nd), x ∈ reachN ts → ∀ H5, Same H4 H5 → DGet H5 dr (.int x.m) (some (.ref x.t)) ∧ H5 x.t = some (.tup [.int x.h, .ref x.lt]) ∧ SqT K H5 x.lt (x.line.map V.int) ∧ x.line.length ≤ 40 := fun x hx H5 S5 => by
        have := DGet.k (k := Sum.inl x.m) (S5 _ _ h4r)
        rw [valV_some hnd hx] at this
        obtain ⟨t, ht, hxt⟩ := mem_reach.mp hx
        have q := (hT t ht).th.node x hxt
        have q1 := (hT t ht).tok.few x hxt
        have q2 := (hT t ht).tok.len
        exact ⟨this, S5 _ _ q.1, sq_same (tp := true) S5 q.2, by omega⟩
      have look := fun (x : Nd) (hx : x ∈ reachN ts) => look_cont hnd hx
      refine ⟨_, rfl, a, _, rfl, S4.seq ha, for_enum (K := K) (a := a) (xs := rs.map runV) (fun i σ H5 => ∃ (o5 o6 o7 o8 o9 o10 o11 o12 o13 : Option V), σ = [some (.int n), some (.ref a), some (.ref s), some (.ref dr), o4, o5, o6, o7, o8, o9, o10, o11, o12, o13] ∧ Same H4 H5 ∧ ringF ((reachN ts).map contN) hs 0 rs = ringF ((reachN ts).map contN) hs i (rs.drop i))
        ⟨_, _, _, _, _, _, _, _, _, rfl, same_refl _, rfl⟩ (fun i σ H5 _ ⟨_, _, _, _, _, _, _, _, _, _, S, _⟩ => (S4.trans S).seq ha) ?_ ?_⟩
      · rintro i x t σ H5 hx ht ⟨o5, o6, o7, o8, o9, o10, o11, o12, o13, rfl, S5, hF5⟩
        obtain ⟨r, hr, rfl, hrt⟩ := R4.at_ hx
        have V0 := VM r (List.mem_of_getElem? hr)
        have hil : i < rs.length := (List.getElem?_eq_some_iff.mp hr).1
        have edrop : rs.drop i = r :: rs.drop (i + 1) := by rw [List.drop_eq_getElem_cons hil, (List.getElem?_eq_some_iff.mp hr).2]
        have S6 := S5.trans (same_new (o := .tup [.int i, .ref r.p]) ht)
        refine ⟨t, _, rfl, SqT.of upd_same, rfl, _, _, rfl, _, _, rfl, r.p, _, rfl, SqT.of (S6 _ _ hrt), rfl, _, _, rfl, _, _, rfl, _, _, rfl, _, _, rfl, rfl, rfl, ?_⟩
        generalize upd H5 t (.tup [.int i, .ref r.p]) = H6 at *
        obtain ⟨x, hx1, ex⟩ := node r.one V0.1 V0.2.1
        obtain ⟨y, hy1, ey⟩ := node r.other V0.2.2.1 V0.2.2.2
        obtain ⟨x1, x2, x3, x4⟩ := dg x hx1 H6 S6
        obtain ⟨y1, y2, y3, y4⟩ := dg y hy1 H6 S6
        have lx := look x hx1
        have ly := look y hy1
        rw [ex] at x1 lx
        rw [ey] at y1 ly
        refine ⟨_, rfl, _, rfl, dr, _, rfl, x1, x.t, _, rfl, SqT.of x2, rfl, _, _, rfl, _, _, rfl, rfl, ?_⟩
        refine ⟨_, rfl, _, rfl, dr, _, rfl, y1, y.t, _, rfl, SqT.of y2, rfl, _, _, rfl, _, _, rfl, rfl, ?_⟩
        refine ⟨_, rfl, _, rfl, s, _, rfl, .inl ((S4.trans S6).seq hsq), rfl, flat_ints hs, _, rfl, ?_⟩
        rw [if_pos rfl, inV_ints]
        rw [edrop, ringF_cons, lx, ly] at hF5
        cases hc : hs.contains r.hand with
        | true =>
          rw [if_neg (fun z => by rw [hc] at z; cases z.1)] at hF5
          exact iteF (iteF ⟨_, _, _, _, _, _, _, _, _, rfl, S6, hF5⟩)
        | false =>
          refine iteT ⟨_, rfl, _, rfl, _, _, rfl, rfl, _, rfl, rfl, _, rfl, ?_⟩
          by_cases e : y.h - x.h = r.rise
          · rw [if_neg (fun z => z.2 e)] at hF5
            exact iteNS (by show V.int (y.h - x.h) = _; rw [e]) ⟨_, _, _, _, _, _, _, _, _, rfl, S6, hF5⟩
          · rw [if_pos ⟨hc, e⟩] at hF5
            refine ite2 (fun _ => ?_) (fun h2 => absurd (nb2 h2) fun z => e (V.int.inj z))
            refine ⟨_, rfl, _, rfl, by show 1 ≤ sizeLine; decide, fun tq htq => ?_⟩
            have S7 := same_new (o := .tup [.int i]) htq
            refine ⟨_, rfl, _, rfl, y.lt, x.lt, y.line, x.line, rfl, sq_same (tp := true) S7 y3, sq_same (tp := true) S7 x3, by omega, by omega, fun p7 H7 S8 q7 => ?_⟩
            have hal := across_len y.line x.line
            refine ⟨tq, p7, _, _, rfl, rfl, sq_same (tp := true) S8 (SqT.of upd_same), q7, ?_, fun p8 H8 S9 q8 => ?_⟩
            · rw [List.length_map, sizeLine_eq]; show 1 + _ ≤ _; omega
            · refine ⟨by show 2 ≤ sizeLine; decide, fun p9 hp9 => ?_⟩
              have SA := same_new (o := .tup [.int r.one, .ref p8]) hp9
              have SB := (((S6.trans S7).trans S8).trans S9).trans SA
              refine k _ ts _ (S4.trans SB) (RC.same SB) ?_
              rw [hF5]
              exact ⟨p9, p8, rfl, upd_same, sq_same (tp := true) SA q8⟩
      · rintro σ H5 ⟨o5, o6, o7, o8, o9, o10, o11, o12, o13, rfl, S5, hF5⟩
        refine k .non ts H5 (S4.trans S5) (RC.same S5) ?_
        rw [hF5, List.length_map, List.drop_length]
        rfl
end
end Fen

set_option Elab.async false
set_option linter.all false
set_option maxRecDepth 100000
set_option maxHeartbeats 4000000
namespace Fen
open PySem L2
theorem any_reps (n : Nat) : (List.replicate n false).any id = false := by
  induction n with
  | zero => rfl
  | succ n ih => rw [List.replicate_succ, List.any_cons, ih]; rfl
theorem cut_ints (zs : List Int) (lo hi : Option Int) : ∃ ys : List Int, cutV (zs.map V.int) lo hi = ys.map V.int ∧ ys.length ≤ zs.length := by
  unfold cutV
  rw [List.length_map]
  refine ⟨(zs.drop (HT.sIx zs.length 0 lo)).take (HT.sIx zs.length zs.length hi - HT.sIx zs.length 0 lo), by rw [List.map_take, List.map_drop], ?_⟩
  rw [List.length_take, List.length_drop]; omega
theorem same_node {ns : List Nd} (hn : (keysT ns).Nodup) {x u : Nd} (hx : x ∈ ns) (hu : u ∈ ns) (e : x.m = u.m) : x.h = u.h := by
  have a := look_cont hn hx
  have b := look_cont hn hu
  rw [e, b] at a
  unfold contN at a
  injection a with _ a
  exact (Prod.mk.inj a).1.symm
theorem ring_ok {K : PySem.W.Frag} {H : Hp} {n : Nat} {rs : List Run} {hs : List Int} {ts : List TR} (X : Reach K H n rs hs ts) (VM : InMarks n rs) (hn : n ≤ 40) (hu : ∀ r ∈ rs, r.one ≠ r.other) {m : Int} {line : List Int} (h : ringF ((reachN ts).map contN) hs 0 rs = some (m, line)) :
    0 ≤ m ∧ m < n ∧ line ≠ [] ∧ line.length ≤ 90 ∧ line.Nodup ∧ (∀ z ∈ line, 0 ≤ z ∧ z < (rs.length : Int) ∧ hs.contains (runAt rs z).hand = false) ∧ ∃ t, walkF rs m 0 line = some (m, t) ∧ t ≠ 0 := by
  obtain ⟨j, r, hr, hc, hd, rfl, rfl⟩ := ringF_some h
  rw [Nat.zero_add]
  have hrm := List.mem_of_getElem? hr
  have V0 := VM r hrm
  have hjl : j < rs.length := (List.getElem?_eq_some_iff.mp hr).1
  have era : runAt rs (j : Int) = r := by
    have := (runAt_ok (rs := rs) (i := (j : Int)) (by omega) (by omega)).1
    rw [Int.toNat_natCast, hr] at this; exact (Option.some.inj this).symm
  have hus : r ∈ usable hs rs := by unfold usable; exact List.mem_filter.mpr ⟨hrm, by rw [hc]; rfl⟩
  obtain ⟨t, ht, x, hx, ex⟩ := trees_cover X.trees X.firsts V0.1 V0.2.1
  have Tt := X.trees t ht
  have ho : r.other ∈ keysT t.ns := (Tt.keys _).mpr (((Tt.keys _).mp (mem_keys.mpr ⟨x, hx, ex⟩)).trans (Conn.edge hus))
  obtain ⟨y, hy, ey⟩ := mem_keys.mp ho
  have lx := look_cont X.nod (mem_reach.mpr ⟨t, ht, hx⟩)
  have ly := look_cont X.nod (mem_reach.mpr ⟨t, ht, hy⟩)
  rw [ex] at lx
  rw [ey] at ly
  rw [lx, ly] at hd ⊢
  have hd' : y.h - x.h ≠ r.rise := hd
  show 0 ≤ r.one ∧ r.one < (n : Int) ∧ (j : Int) :: acrossL y.line x.line ≠ [] ∧ ((j : Int) :: acrossL y.line x.line).length ≤ 90 ∧ ((j : Int) :: acrossL y.line x.line).Nodup ∧ (∀ z ∈ (j : Int) :: acrossL y.line x.line, _) ∧ ∃ t, walkF rs r.one 0 ((j : Int) :: acrossL y.line x.line) = some (r.one, t) ∧ t ≠ 0
  have few1 := Tt.tok.few x hx
  have few2 := Tt.tok.few y hy
  have tl := Tt.tok.len
  have al := across_len y.line x.line
  have nokeep : ∀ q : Nd, q ∈ t.ns → (j : Int) ∉ q.line := fun q hq hz => by
    obtain ⟨u, hu1, v, hv1, e1, e2, e3⟩ := Tt.tok.keep q hq _ hz
    rw [era] at e1 e2 e3
    have h1 := same_node Tt.tok.nod hx hu1 (ex.trans e1.symm)
    have h2 := same_node Tt.tok.nod hy hv1 (ey.trans e2.symm)
    omega
  refine ⟨V0.1, V0.2.1, List.cons_ne_nil _ _, by rw [List.length_cons]; omega, List.nodup_cons.mpr ⟨fun hz => ?_, Tt.tok.acrossNodup hy hx⟩, fun z hz => ?_, ?_⟩
  · rcases across_mem hz with q | q
    · exact nokeep y hy q
    · exact nokeep x hx q
  · rcases List.mem_cons.mp hz with rfl | hz
    · rw [era]; exact ⟨by omega, by omega, hc⟩
    · rcases across_mem hz with q | q
      · obtain ⟨a, b, c, _⟩ := Tt.tok.runs y hy z q; exact ⟨a, b, c⟩
      · obtain ⟨a, b, c, _⟩ := Tt.tok.runs x hx z q; exact ⟨a, b, c⟩
  · have st : stepR (runAt rs (j : Int)) r.one = some (r.other, r.rise) := by rw [era]; unfold stepR; rw [if_pos rfl]
    have w1 := across_walk hu (Tt.tok.walk y hy) (Tt.tok.walk x hx)
    rw [ey, ex] at w1
    have w2 := walkF_shift (r.rise - y.h) w1
    refine ⟨x.h + (r.rise - y.h), ?_, by omega⟩
    rw [walkF_go (by omega) (by omega) st, show (0 : Int) + r.rise = y.h + (r.rise - y.h) by omega]
    exact w2
theorem reach_uniq {K : PySem.W.Frag} {H H' : Hp} {n : Nat} {rs : List Run} {hs : List Int} {ts us : List TR} (x : Reach K H n rs hs ts) (y : Reach K H' n rs hs us) : (reachN ts).map contN = (reachN us).map contN := by
  have e := x.firsts.uniq y.firsts
  have hl : ts.length = us.length := by rw [← List.length_map TR.st, e, List.length_map]
  have e2 : ts.map (fun t => t.ns.map contN) = us.map (fun t => t.ns.map contN) := by
    apply List.ext_getElem
    · rw [List.length_map, List.length_map, hl]
    · intro i h1 h2
      rw [List.length_map] at h1 h2
      rw [List.getElem_map, List.getElem_map]
      have hs1 : ts[i].st = us[i].st := by
        have : (ts.map TR.st)[i]? = (us.map TR.st)[i]? := by rw [e]
        rw [List.getElem?_map, List.getElem?_map, List.getElem?_eq_getElem h1, List.getElem?_eq_getElem h2] at this
        exact Option.some.inj this
      have t1 := (x.trees _ (List.getElem_mem h1)).is
      have t2 := (y.trees _ (List.getElem_mem h2)).is
      rw [← hs1] at t2
      exact t1.uniq t2
  have g : ∀ l : List TR, (reachN l).map contN = (l.map (fun t => t.ns.map contN)).flatten := fun l => by
    unfold reachN; rw [List.map_flatMap, List.flatMap_def]
  rw [g, g, e2]
theorem eqv_ring {K : PySem.W.Frag} {H : Hp} {r : Option (Int × List Int)} {u v : V} (h1 : RingRes K H r u) (h2 : RingRes K H r v) (hz : ∀ m line, r = some (m, line) → line.length ≤ 90) : Eqv K 2 H u v := by
  cases r with
  | none =>
    have e1 : u = .non := h1
    have e2 : v = .non := h2
    subst e1 e2
    exact .inl ⟨rfl, .non⟩
  | some ml =>
    obtain ⟨p, l1, rfl, a1, b1⟩ := h1
    obtain ⟨q, l2, rfl, a2, b2⟩ := h2
    have hl := hz ml.1 ml.2 rfl
    refine .inr ⟨true, p, q, _, _, rfl, rfl, SqT.of a1, SqT.of a2, rfl, by show 2 ≤ 1000; decide, fun i u v e1 e2 => ?_⟩
    match i, e1, e2 with
    | 0, e1, e2 =>
      have e1' := Option.some.inj e1
      have e2' := Option.some.inj e2
      subst e1' e2'
      exact .inl ⟨rfl, .int _⟩
    | 1, e1, e2 =>
      have e1' := Option.some.inj e1
      have e2' := Option.some.inj e2
      subst e1' e2'
      exact eqv_ints (tp := true) b1 b2 (by omega)
    | i + 2, e1, e2 => simp at e1
end Fen

set_option Elab.async false
set_option linter.all false
set_option maxRecDepth 100000
set_option maxHeartbeats 4000000
namespace L2
open PySem PySem.Spec PyProof.Rows
section
variable {X : Cx}
/-- a tuple == () -/
def rEqNilT (K : PySem.W.Frag) : R2 := fun x y H Q => ∃ a b xs, x = .ref a ∧ y = .ref b ∧ SqT K H a xs ∧ SqT K H b [] ∧ Q (.bl xs.isEmpty) H
theorem op_eq_nilT (hu : X.A.units < cLine) : OpR X (compareOp .Eq) (rEqNilT X.K) := by
  intro pins s σ H x y v u Q I rx ry h
  obtain ⟨a, b, xs, rfl, rfl, ha, hb, q⟩ := h
  cases rx
  cases ry
  obtain ⟨i1, r1, p1, z1⟩ := I.tuple ha
  obtain ⟨i2, r2, p2, z2⟩ := I.tuple hb
  have l1 := r1.length
  have l2 := r2.length
  have e2 : i2 = [] := List.eq_nil_of_length_eq_zero (by simpa using l2.symm)
  subst e2
  refine SeqAt.RcAt.tuples (e := fun _ => true) (show s.heap.IsTuple a i1.toArray from p1) (show s.heap.IsTuple b ([] : List Value).toArray from p2) hu (fun j h1 h2 => by simp at h2) _ _ _ _ ?_
  refine fin_bl I q ?_
  cases xs with
  | nil => have : i1 = [] := List.eq_nil_of_length_eq_zero (by simpa using l1.symm); subst this; rfl
  | cons x xs => cases i1 with
    | nil => simp at l1
    | cons y ys => simp
end
end L2

set_option Elab.async false
set_option linter.all false
set_option maxRecDepth 100000
set_option maxHeartbeats 4000000
namespace Fen
open PySem L2
abbrev Nl : List Str := ["_law_script", "_law_box_here", "_law_size", "_law_runs", "_law_heights", "_law_false", "_law_struck", "_law_handed", "_law_lent", "_law_found", "_law_close", "_law_mark", "_law_line", "_law_here"]
section
variable {P : Program} {w : PySem.World} {K : PySem.W.Frag} {mg : Str → Option Value} {base : Heap}
theorem scLaw : FnScope Nl ["_law_script"] (defScope sLaw) := ⟨rfl, rfl, rfl, by decide +kernel, rfl, by decide +kernel, by decide +kernel⟩
theorem ndL1 : (["_law_hand", "_law_box_here"] : List Str).Nodup := by decide +kernel
theorem ndL2 : (["_law_at", "_law_runs", "_law_struck"] : List Str).Nodup := by decide +kernel
theorem ok_law {f : Addr} {fd : FuncData} (F : Fun K "law" "law" sLaw f fd) (T : Txt K mg) (T2 : Txt2 mg) (T5 : mg "any" = none) (cB : Cal P w K mg base "_law_box" 1 ["_law_script"] (spBox K)) (cT : Cal P w K mg base "_law_take" 1 ["_law_box_here", "_law_many"] spTake)
    (cW : Cal P w K mg base "_law_world" 4 Pw spWorld) (cL : Cal P w K mg base "_law_left" 1 ["_law_runs", "_law_struck"] (spLeft K)) (cS2 : Cal P w K mg base "_law_same" 3 ["_law_found", "_law_due"] (spSame K 2)) (cE : Cal P w K mg base "_law_settled" 1 ["_law_size", "_law_runs"] (spSettled K))
    (cU : Cal P w K mg base "_law_numbers" 1 ["_law_found", "_law_size"] (spNumbers K)) (cK : Cal P w K mg base "_law_walk" 1 ["_law_runs", "_law_mark", "_law_line"] (spWalk K)) (cM : Cal P w K mg base "open_ring" 3 ["size", "runs", "struck"] (spRing K)) : FnOk P w K mg base CX0 5 f fd ["_law_script"] (spLaw K) := by
  refine F.ok scLaw (fun vs H Q E h => ?_) (fun cdv A outer s H vs Q E hr h => ?_)
  · obtain ⟨a, ns, rfl, _⟩ := h
    rfl
  · obtain ⟨a, ns, rfl, hS, hlen, k⟩ := h
    have hr1 : Room 1 _ := hr.mono (by decide)
    have hr2 : Room 2 _ := hr.mono (by decide)
    have hr3 : Room 3 _ := hr.mono (by decide)
    have hu := Nat.lt_of_succ_lt (hu_of hr)
    have nd := scLaw.nd
    refine ⟨_, pss_cons (ps_set (i := 1) nd rfl (Or.inr rfl) (pe_cal cB hr1 rfl (pa_cons (pv 0) pa_nil)))
      (pss_cons (ps_asg (pe_cal cW hr rfl (pa_cons (pv 1) (pa_cons pe_int (pa_cons pe_int (pa_cons pe_int pa_nil))))) (pg_tup (n := 4) rfl (pgs_cons (pg_name (i := 2) nd rfl (Or.inl rfl)) (pgs_cons (pg_name (i := 3) nd rfl (Or.inr rfl)) (pgs_cons (pg_name (i := 4) nd rfl (Or.inl rfl)) (pgs_cons (pg_name (i := 5) nd rfl (Or.inl rfl)) pgs_nil))))))
      (pss_cons (ps_for PassesOwn.never rfl (pi_tup (pe_tup (pa_cons (pe_lst pa_nil) (pa_cons (pv 5) (pa_cons
          (pe_lcomp rfl (CompScope.of (N := Nl) (osc := defScope sLaw) (Nc := ["_law_hand", "_law_box_here"]) (sub := [none, some 1]) (by decide +kernel)) (pi_range1 rfl T.range (pa_cons pe_int pa_nil))
            (fun _ _ _ _ _ => pg_name (i := 0) ndL1 rfl (Or.inl rfl) (Or.inr rfl)) (gk_name rfl) gm_name (fun _ _ _ _ _ => pif1 (pt_cmpR op_eq (pe_cal cT hr1 rfl (pa_cons (pv 1) (pa_cons pe_int pa_nil))) pe_int (nomark _))) (fun _ _ _ _ _ => pv 0))
          (pa_cons (pe_slice sl_list (pv 5) (po_some pe_int) po_none) (pa_cons (pe_slice sl_list (pv 5) po_none (po_some pe_int)) pa_nil))))))) (pg_name (i := 6) nd rfl (Or.inr rfl))
        (pss_cons (ps_set (i := 7) nd rfl (Or.inl rfl) (pe_callTy call_list_of rfl T.list PyProof.Rows.boot_list (pa_cons (pv 3) pa_nil)))
        (pss_cons (ps_set (i := 8) nd rfl (Or.inl rfl) (pe_callTy call_list_of rfl T.list PyProof.Rows.boot_list (pa_cons (pv 6) pa_nil)))
        (pss_cons (ps_set (i := 9) nd rfl (Or.inl rfl) (pe_cal cM hr3 rfl (pa_cons (pv 2) (pa_cons (pv 7) (pa_cons (pv 8) pa_nil)))))
        (pss_cons (ps_mid (ps_set (i := 10) nd rfl (Or.inl rfl) (pe_cmp (pc_notN (pe_cal cE hr1 rfl (pa_cons (pv 2) (pa_cons (pe_cal cL hr1 rfl (pa_cons (pv 3) (pa_cons (pv 6) pa_nil))) pa_nil)))))))
        (pss_cons (ps_if (PW.pt (pw_or (pt_cmpR op_ne (pe_cmp (pc_isN (pv 9))) (pv 10) (nomark _)) (pw_or (pt_cmpR (op_same_ne hu) (pv 7) (pv 3) (nomark _)) (pw_or1 (pt_cmpR (op_same_ne hu) (pv 8) (pv 6) (nomark _)))))) (pss_one (ps_ret pe_bl)) pss_nil)
        (pss_cons (ps_if (pt_not (pt_val (pe_cal cS2 hr3 rfl (pa_cons (pe_cal cM hr3 rfl (pa_cons (pv 2) (pa_cons (pv 7) (pa_cons (pv 8) pa_nil)))) (pa_cons (pv 9) pa_nil))))) (pss_one (ps_ret pe_bl)) pss_nil)
        (pss_one (ps_if (pt_cmp (pc_notN (pv 9)))
          (pss_cons (ps_if (PW.pt (pw_or (pt_not (pt_val (pe_callB call_isi rfl T2.isinstance PyProof.Rows.boot_isinstance (pa_cons (pv 9) (pa_cons (pe_bltn (v := .ty "tuple") rfl T2.tuple PyProof.Rows.boot_tuple rfl) pa_nil)))))
            (pw_or (pt_cmpR op_ne (pe_callB call_len_seq rfl T.len PySem.boot_len (pa_cons (pv 9) pa_nil)) pe_int (nomark _))
            (pw_or1 (pt_not (pt_val (pe_callB call_isi rfl T2.isinstance PyProof.Rows.boot_isinstance (pa_cons (pe_ix ix_tup (pv 9) pe_int (fun _ _ => rfl)) (pa_cons (pe_bltn (v := .ty "tuple") rfl T2.tuple PyProof.Rows.boot_tuple rfl) pa_nil))))))))) (pss_one (ps_ret pe_bl)) pss_nil)
          (pss_cons (ps_asg (pv 9) (pg_tup (n := 2) rfl (pgs_cons (pg_name (i := 11) nd rfl (Or.inl rfl)) (pgs_cons (pg_name (i := 12) nd rfl (Or.inl rfl)) pgs_nil))))
          (pss_cons (ps_if (PW.pt (pw_or (pt_not (pt_val (pe_cal cU hr1 rfl (pa_cons (pe_op op_cat (pe_lst (pa_cons (pv 11) pa_nil)) (pe_callTy call_list_of rfl T.list PyProof.Rows.boot_list (pa_cons (pv 12) pa_nil))) (pa_cons (pe_op op_add (pe_callB call_len_seq rfl T.len PySem.boot_len (pa_cons (pv 12) pa_nil)) pe_int) pa_nil)))))
            (pw_or (pt_not (pt_chain op_le op_lt pe_int (pv 11) (pv 2))) (pw_or1 (pt_cmpR (op_eq_nilT hu) (pv 12) (pe_tup pa_nil) (nomark _)))))) (pss_one (ps_ret pe_bl)) pss_nil)
          (pss_cons (ps_set (i := 13) nd rfl (Or.inl rfl) (pe_cal cK hr1 rfl (pa_cons (pv 3) (pa_cons (pv 11) (pa_cons (pv 12) pa_nil)))))
          (pss_one (ps_if (PW.pt (pw_or (pt_cmp (pc_isN (pv 13))) (pw_or (pt_cmpR op_ne (pe_ix ix_tup (pv 13) pe_int (fun _ _ => rfl)) (pv 11) (nomark _)) (pw_or (pt_cmpR op_eq (pe_ix ix_tup (pv 13) pe_int (fun _ _ => rfl)) pe_int (nomark _))
            (pw_or1 (pt_val (pe_callB (call_anyL rfl) rfl T5 PyProof.Rows.boot_any (pa_cons (pe_lcomp rfl (CompScope.of (N := Nl) (osc := defScope sLaw) (Nc := ["_law_at", "_law_runs", "_law_struck"]) (sub := [none, some 3, some 6]) (by decide +kernel)) (pi_tup (pv 12))
              (fun _ _ _ _ _ => pg_name (i := 0) ndL2 rfl (Or.inl rfl) (Or.inr rfl)) (gk_name rfl) gm_name (fun _ _ _ _ _ => pif0)
              (fun _ _ _ _ _ => pe_cmpR (r := rIn K false) op_in_seq (pe_ix (r := rIxT K) ix_tup (pe_ix (r := rIxL K) ix_list (pv 1) (pv 0) (fun _ _ => rfl)) pe_int (fun _ _ => rfl)) (pv 2) (by with_unfolding_all rfl))) pa_nil)))))))) (pss_one (ps_ret pe_bl)) pss_nil)))))) pss_nil)))))))))
      (pss_one (ps_ret pe_bl)))), ?_⟩
    refine ⟨_, rfl, a, ns, rfl, hS, hlen, fun b c H1 hb B1 S1 => ?_⟩
    refine ⟨_, rfl, b, c, ns, 12, 10, 40, rfl, B1, by decide, by decide, by decide, by decide, by decide, by decide, fun t size pr ph pf rs hts fs Hw W E2 ht htb => ?_⟩
    refine ⟨t, _, rfl, SqT.of ht, rfl, _, _, rfl, _, _, rfl, _, _, rfl, _, _, rfl, rfl, ?_⟩
    have many := W.many
    have hs1 := W.s1
    have hs2 := W.s2
    have hsz := W.sz
    have Bw := W.box
    have fup : ∀ h ∈ fs, 0 ≤ h ∧ h < 10 := W.fhands
    have hfl : fs.length ≤ 10 := by
      have := nodup_len (xs := (List.range 10).map Int.ofNat) (W.up.imp fun h => Int.ne_of_lt h) fun k hk => by
        have := fup k hk
        refine List.mem_map.mpr ⟨k.toNat, List.mem_range.mpr (by omega), ?_⟩
        show ((k.toNat : Nat) : Int) = k
        omega
      simpa using this
    subst hsz
    clear hS S1 hb B1 ht htb E2 H1
    refine ⟨by show 0 ≤ sizeLine; exact Nat.zero_le _, fun l0 hl0 => ?_⟩
    have E4 : Ext b Hw (upd Hw l0 (.lst [])) := Ext.new hl0
    have B4 : Box (upd Hw l0 (.lst [])) b c ns := Bw.new hl0
    have hl04 : upd Hw l0 (.lst []) l0 = some (.lst ([].map V.int)) := upd_same
    have nl0 : l0 ≠ b := Bw.neb hl0
    generalize upd Hw l0 (.lst []) = H4 at E4 B4 hl04
    refine ⟨_, rfl, 10, rfl, by decide, by decide, fun lc hlc => ?_⟩
    refine comp_range (Pv := fun i xs H2 => ∃ zs : List Int, xs = zs.map V.int ∧ zs.length ≤ i ∧ CI H4 b c lc ns zs H2) ⟨[], rfl, Nat.le_refl _, CI.start B4 hlc⟩ (fun i xs H _ ⟨zs, e, _, C⟩ => by rw [e]; exact C.at_) ?_ ?_
    · rintro i xs H5 hi ⟨zs, rfl, hz, C⟩
      refine ⟨_, rfl, b, c, ns, 3, rfl, C.box, by decide, by decide, fun z H6 z0 z1 B6 X6 => ⟨rfl, _, rfl, ?_⟩⟩
      refine ite2 (fun _ => ?_) (fun _ => ?_)
      · refine ⟨_, rfl, C.kept hlc B4 X6, ?_, zs ++ [_], by rw [List.map_append]; rfl, by rw [List.length_append]; exact Nat.add_le_add_right hz 1, C.step hlc B4 B6 X6⟩
        rw [List.length_map, sizeLine_eq]; omega
      · exact ⟨zs, rfl, by omega, C.kept hlc B4 X6, B6, C.ext.trans X6⟩
    rintro xs H5 ⟨zs, rfl, hz, C⟩
    have E5 : Ext b Hw H5 := E4.trans C.ext
    have hl05 := C.ext _ _ nl0 hl04
    have hlc5 := C.at_
    have nlc : lc ≠ b := B4.neb hlc
    have hpf5 := E5 _ _ W.nf W.lf
    have hpr5 := E5 _ _ W.nr W.lr
    have R5 := W.runs.ext Bw E5
    clear C E4 B4 hl04 hlc hl0
    refine ⟨_, rfl, _, rfl, pf, _, rfl, SqL.of hpf5, fun l3 hl3 => ?_⟩
    obtain ⟨f3, e3, hf3⟩ := cut_ints fs (some 1) none
    rw [e3]
    have S6 := same_new (o := .lst (f3.map V.int)) hl3
    have hl36 : upd H5 l3 (.lst (f3.map V.int)) l3 = some (.lst (f3.map V.int)) := upd_same
    generalize upd H5 l3 (.lst (f3.map V.int)) = H6 at *
    refine ⟨_, rfl, _, rfl, pf, _, rfl, SqL.of (S6 _ _ hpf5), fun l4 hl4 => ?_⟩
    obtain ⟨f4, e4, hf4⟩ := cut_ints fs none (some 1)
    rw [e4]
    have S7a := same_new (o := .lst (f4.map V.int)) hl4
    have S7 := S6.trans S7a
    have hl47 : upd H6 l4 (.lst (f4.map V.int)) l4 = some (.lst (f4.map V.int)) := upd_same
    have hl37 := S7a _ _ hl36
    generalize upd H6 l4 (.lst (f4.map V.int)) = H7 at *
    refine ⟨by show 5 ≤ sizeLine; decide, fun tp htp => ?_⟩
    have S8a := same_new (o := .tup [.ref l0, .ref pf, .ref lc, .ref l3, .ref l4]) htp
    have S8 := S7.trans S8a
    have htp8 : upd H7 tp (.tup [.ref l0, .ref pf, .ref lc, .ref l3, .ref l4]) tp = some (.tup [.ref l0, .ref pf, .ref lc, .ref l3, .ref l4]) := upd_same
    have hl38 := S8a _ _ hl37
    have hl48 := S8a _ _ hl47
    have hl08 := S8 _ _ hl05
    have hlc8 := S8 _ _ hlc5
    have hpf8 := S8 _ _ hpf5
    have hpr8 := S8 _ _ hpr5
    have R8 := R5.same S8
    generalize upd H7 tp (.tup [.ref l0, .ref pf, .ref lc, .ref l3, .ref l4]) = Hx at *
    have rows : ∀ (i : Nat) x, ([.ref l0, .ref pf, .ref lc, .ref l3, .ref l4] : List V)[i]? = some x → ∃ (q : Addr) (hs : List Int), x = .ref q ∧ Hx q = some (.lst (hs.map V.int)) ∧ hs.length ≤ 60 := by
      intro i x hx
      match i, hx with
      | 0, hx => exact ⟨l0, [], (Option.some.inj hx).symm, hl08, by decide⟩
      | 1, hx => exact ⟨pf, fs, (Option.some.inj hx).symm, hpf8, by omega⟩
      | 2, hx => exact ⟨lc, zs, (Option.some.inj hx).symm, hlc8, by omega⟩
      | 3, hx => exact ⟨l3, f3, (Option.some.inj hx).symm, hl38, by omega⟩
      | 4, hx => exact ⟨l4, f4, (Option.some.inj hx).symm, hl48, by omega⟩
      | i + 5, hx => simp at hx
    clear hl38 hl48 hl08 hlc8 hpf8 S8 S8a hl37 hl47 S7 S7a hl36 S6 hl05 hlc5 hpf5 hpr5 R5 E5
    refine ⟨tp, rfl, ⟨_, SqT.of htp8⟩, for_tup (K := K) (a := tp) (xs := [.ref l0, .ref pf, .ref lc, .ref l3, .ref l4]) (fun i σ H9 => ∃ (o6 o7 o8 o9 o10 o11 o12 o13 : Option V), σ = [some (.ref a), some (.ref b), some (.int hts.length), some (.ref pr), some (.ref ph), some (.ref pf), o6, o7, o8, o9, o10, o11, o12, o13] ∧ Same Hx H9)
      ⟨_, _, _, _, _, _, _, _, rfl, same_refl _⟩ (fun i σ H9 _ ⟨_, _, _, _, _, _, _, _, _, S⟩ => SqT.of (S _ _ htp8)) ?_ ?_⟩
    · rintro i x σ H9 hx ⟨o6, o7, o8, o9, o10, o11, o12, o13, rfl, S9⟩
      obtain ⟨q, hs, rfl, hq, hql⟩ := rows i x hx
      refine ⟨_, rfl, pr, _, rfl, .inl (SqL.of (S9 _ _ hpr8)), fun la hla => ?_⟩
      have S10 := S9.trans (same_new (o := .lst (rs.map runV)) hla)
      have hla10 : upd H9 la (.lst (rs.map runV)) la = some (.lst (rs.map runV)) := upd_same
      generalize upd H9 la (.lst (rs.map runV)) = H10 at *
      refine ⟨_, rfl, q, _, rfl, .inl (SqL.of (S10 _ _ hq)), fun lt hlt => ?_⟩
      have Sn := same_new (o := .lst (hs.map V.int)) hlt
      have S11 := S10.trans Sn
      have hla11 := Sn _ _ hla10
      have hlt11 : upd H10 lt (.lst (hs.map V.int)) lt = some (.lst (hs.map V.int)) := upd_same
      generalize upd H10 lt (.lst (hs.map V.int)) = H11 at *
      refine ⟨_, rfl, _, rfl, _, rfl, hts.length, la, lt, rs, hs, rfl, SqL.of hla11, R8.same S11, W.marks, SqL.of hlt11, by omega, by omega, fun v ts H12 S12 RC hv => ?_⟩
      have S13 := S11.trans S12
      have hlen90 : ∀ m line, ringF ((reachN ts).map contN) hs 0 rs = some (m, line) → line.length ≤ 90 := fun m line e => (ring_ok RC W.marks (by omega) W.unlike e).2.2.2.1
      refine ⟨fun σ' H' => σ' = [some (.ref a), some (.ref b), some (.int hts.length), some (.ref pr), some (.ref ph), some (.ref pf), some (.ref q), some (.ref la), some (.ref lt), some v, some (.bl (decide (v = .non))), o11, o12, o13] ∧ Same H12 H', ?_, ?_⟩
      · refine ⟨_, rfl, _, rfl, _, rfl, pr, q, rs, hs, rfl, SqL.of (S13 _ _ hpr8), R8.same S13, SqL.of (S13 _ _ hq), by omega, fun lr hlr => ?_⟩
        have Sr := same_new (o := .lst ((rs.filter fun r => !hs.contains r.hand).map runV)) hlr
        have hfl2 := List.length_filter_le (fun r : Run => !hs.contains r.hand) rs
        refine ⟨hts.length, lr, _, rfl, SqL.of upd_same, fun r hr => Sr _ _ ((R8.same S13) r (List.mem_filter.mp hr).1), fun r hr => W.marks r (List.mem_filter.mp hr).1, by omega, by omega, fun H14 S14 hN => ?_, fun p la' lh lab own H14 S14 _ _ _ _ _ _ _ _ hH => ?_⟩
        · refine ⟨?_, Sr.trans S14⟩
          cases hrf : ringF ((reachN ts).map contN) hs 0 rs with
          | none =>
            exact absurd (fun r hr => ringF_none hrf r (List.mem_filter.mp hr).1 (by have := (List.mem_filter.mp hr).2; simpa using this)) (hN fun m => (lookP ((reachN ts).map contN) m).2.1)
          | some ml =>
            rw [hrf] at hv
            obtain ⟨p9, l9, rfl, _⟩ := hv
            rfl
        · refine ⟨?_, Sr.trans S14⟩
          cases hrf : ringF ((reachN ts).map contN) hs 0 rs with
          | none =>
            rw [hrf] at hv
            have : v = .non := hv
            subst this
            rfl
          | some ml =>
            obtain ⟨m0, m1, ne, _, _, hz2, tt, hw, ht0⟩ := ring_ok RC W.marks (by omega) W.unlike (show _ = some (ml.1, ml.2) from hrf)
            have := walkF_under (f := gI own) (fun z hz3 => hH _ (by
              obtain ⟨z0, z1, zc⟩ := hz2 z hz3
              exact List.mem_filter.mpr ⟨(runAt_ok z0 z1).2.2, by rw [zc]; rfl⟩)) hw
            exact absurd (show tt = 0 by omega) ht0
      rintro σ H14 ⟨rfl, S14⟩
      have S15 := S13.trans S14
      refine ⟨_, rfl, _, rfl, rfl, _, rfl, ?_⟩
      refine iteNS rfl ?_
      have SX := S12.trans S14
      refine ⟨_, rfl, _, rfl, la, pr, _, rfl, rfl, SqL.of (SX _ _ hla11), SqL.of (S15 _ _ hpr8), ok_runs rs, _, rfl, ?_⟩
      refine iteF ?_
      refine ⟨_, rfl, _, rfl, lt, q, _, rfl, rfl, SqL.of (SX _ _ hlt11), SqL.of (S15 _ _ hq), ok_ints hs, _, rfl, ?_⟩
      refine iteF ?_
      refine ⟨_, rfl, _, rfl, _, rfl, hts.length, la, lt, rs, hs, rfl, SqL.of (SX _ _ hla11), R8.same S15, W.marks, SqL.of (SX _ _ hlt11), by omega, by omega, fun v2 ts2 H16 S16 RC2 hv2 => ?_⟩
      rw [reach_uniq RC2 RC] at hv2
      have hv16 := hv.same (S14.trans S16)
      refine ⟨_, rfl, _, _, rfl, eqv_ring hv2 hv16 hlen90, fun H17 S17 => ⟨_, rfl, ?_⟩⟩
      refine iteF ?_
      have S18 := S15.trans (S16.trans S17)
      have hv17 := hv16.same S17
      cases hrf : ringF ((reachN ts).map contN) hs 0 rs with
      | none =>
        rw [hrf] at hv17
        have : v = .non := hv17
        subst this
        exact ⟨_, rfl, _, rfl, iteF ⟨_, _, _, _, _, _, _, _, rfl, S18⟩⟩
      | some ml =>
        rw [hrf] at hv17
        obtain ⟨m0, m1, ne, l90, lnd, hz2, tt, hw, ht0⟩ := ring_ok RC W.marks (by omega) W.unlike (show _ = some (ml.1, ml.2) from hrf)
        obtain ⟨p9, l9, rfl, h9, q9⟩ := hv17
        refine ⟨_, rfl, _, rfl, iteT ?_⟩
        refine ⟨_, rfl, _, _, _, rfl, .tuple_tuple _ _ (SqT.of h9), _, rfl, ?_⟩
        refine iteF ⟨_, rfl, p9, _, rfl, .inr (SqT.of h9), rfl, _, rfl, ?_⟩
        refine iteNS rfl ?_
        refine ⟨_, rfl, p9, _, _, .ref l9, rfl, rfl, SqT.of h9, rfl, _, _, _, rfl, .tuple_tuple _ _ q9, _, rfl, ?_⟩
        refine iteF ?_
        refine ⟨_, rfl, p9, _, rfl, SqT.of h9, rfl, _, _, rfl, _, _, rfl, rfl, ?_⟩
        refine ⟨_, rfl, by show 1 ≤ sizeLine; decide, fun la2 hla2 => ?_⟩
        have SA := same_new (o := .lst [.int ml.1]) hla2
        have q9a := sq_same (tp := true) SA q9
        refine ⟨_, rfl, l9, _, rfl, .inr q9a, fun l2 hl2 => ?_⟩
        have SBn := same_new (o := .lst (ml.2.map V.int)) hl2
        have SB := SA.trans SBn
        refine ⟨la2, l2, _, _, rfl, rfl, SBn _ _ upd_same, upd_same, (by rw [List.length_map, sizeLine_eq]; show 1 + _ ≤ _; omega), fun l5 hl5 => ?_⟩
        have SC := SB.trans (same_new (o := .lst ([V.int ml.1] ++ ml.2.map V.int)) hl5)
        have hl5' : upd (upd (upd H17 la2 (.lst [.int ml.1])) l2 (.lst (ml.2.map V.int))) l5 (.lst ([V.int ml.1] ++ ml.2.map V.int)) l5 = some (.lst ((ml.1 :: ml.2).map V.int)) := upd_same
        generalize upd (upd (upd H17 la2 (.lst [.int ml.1])) l2 (.lst (ml.2.map V.int))) l5 (.lst ([V.int ml.1] ++ ml.2.map V.int)) = H18 at *
        refine ⟨_, rfl, l9, _, rfl, .inr (sq_same (tp := true) SC q9), _, _, rfl, rfl, l5, ml.1 :: ml.2, (by rw [List.length_map]; rfl), SqL.of hl5', (by rw [List.length_cons]; omega), fun H19 S19 => ⟨_, rfl, ?_⟩⟩
        refine iteF ?_
        have SD := SC.trans S19
        refine ⟨_, rfl, _, _, rfl, rfl, _, rfl, ?_⟩
        rw [decide_eq_true m0]
        refine iteT ⟨_, rfl, _, _, rfl, rfl, _, rfl, ?_⟩
        rw [decide_eq_true m1]
        refine iteF ?_
        refine ⟨_, rfl, by show 0 ≤ sizeLine; exact Nat.zero_le _, fun le hle => ?_⟩
        have SE := SD.trans (same_new (o := .tup []) hle)
        refine ⟨l9, le, _, rfl, rfl, sq_same (tp := true) SE q9, SqT.of upd_same, _, rfl, ?_⟩
        have hemp : (ml.2.map V.int).isEmpty = false := by
          cases hm : ml.2 with
          | nil => exact absurd hm ne
          | cons y ys => rfl
        rw [hemp]
        refine iteF ?_
        generalize upd H19 le (.tup []) = H20 at *
        have SF := S18.trans SE
        refine ⟨_, rfl, _, rfl, _, rfl, pr, l9, rs, ml.1, ml.2, rfl, SqL.of (SF _ _ hpr8), R8.same SF, sq_same (tp := true) SE q9, by omega, fun nn hv3 H21 hnn S21 hr21 => ?_⟩
        have hwk : walkN rs ml.1 ml.2 nn = some (ml.1, tt) := by
          unfold walkN
          rw [if_pos (setLen_nodup hnn lnd)]
          exact hw
        rw [hwk] at hr21
        obtain ⟨pw, rfl, hpw⟩ := hr21
        refine ⟨_, rfl, _, rfl, ?_⟩
        refine iteF ⟨_, rfl, pw, _, _, .int ml.1, rfl, rfl, SqT.of hpw, rfl, _, rfl, rfl, _, rfl, ?_⟩
        refine iteNS rfl ?_
        refine ⟨_, rfl, pw, _, _, .int tt, rfl, rfl, SqT.of hpw, rfl, rfl, _, rfl, ?_⟩
        rw [dec_intV, decide_eq_false ht0]
        refine iteF ?_
        have SG := SE.trans S21
        have SH := SF.trans S21
        refine ⟨_, rfl, l9, rfl, ⟨_, sq_same (tp := true) SG q9⟩, fun lv hlv => ?_⟩
        refine comp_tup (ys := ml.2.map V.int) (fun i xs H2 => xs = (List.replicate i false).map V.bl ∧ H2 = upd H21 lv (.lst xs) ∧ i ≤ ml.2.length) ⟨rfl, rfl, Nat.zero_le _⟩ ?_ ?_ ?_
        · rintro i2 xs H22 hi2 ⟨_, rfl, _⟩
          exact ⟨sq_same (tp := true) (SG.trans (same_new hlv)) q9, upd_same⟩
        · rintro i2 x2 xs H22 hx2 ⟨rfl, rfl, hi2⟩
          obtain ⟨z, hz1, rfl⟩ := ints_at hx2
          have hil : i2 < ml.2.length := (List.getElem?_eq_some_iff.mp hz1).1
          obtain ⟨z0, z1, zu⟩ := hz2 z (List.mem_of_getElem? hz1)
          obtain ⟨e1, e2, e3⟩ := runAt_ok z0 z1
          have SI := SH.trans (same_new (o := .lst ((List.replicate i2 false).map V.bl)) hlv)
          refine gnoif ?_
          refine ⟨_, rfl, _, rfl, pr, _, _, _, rfl, rfl, SqL.of (SI _ _ hpr8), e2, _, _, _, .int (runAt rs z).hand, rfl, rfl, SqT.of (SI _ _ (R8 _ e3)), rfl, _, rfl, q, _, rfl, .inl (SqL.of (SI _ _ hq)), rfl, flat_ints hs, upd_same, ?_, ?_, by rw [upd_upd], by omega⟩
          · rw [List.length_map, List.length_replicate, sizeLine_eq]; omega
          · rw [List.replicate_succ', List.map_append, if_neg Bool.false_ne_true, inV_ints, zu]; rfl
        · rintro xs H22 ⟨rfl, rfl, _⟩
          refine ⟨lv, _, rfl, SqL.of upd_same, ?_⟩
          rw [any_reps]
          refine ⟨_, rfl, iteF ⟨_, _, _, _, _, _, _, _, rfl, ?_⟩⟩
          exact SH.trans (same_new hlv)
    · rintro σ H9 ⟨o6, o7, o8, o9, o10, o11, o12, o13, rfl, S9⟩
      exact k H9
end
end Fen

set_option Elab.async false
set_option linter.all false
set_option maxRecDepth 100000
set_option maxHeartbeats 4000000
namespace Fen
open PySem L2
theorem all_mk {l : PySem.W.OpenLaw} {w : PySem.World} {K : PySem.W.Frag} {h : Heap} {mg : Str → Option Value} {fa f1 f2 f3 f4 f5 f6 f7 f8 f9 f10 f11 f12 f13 f14 f15 f16 : Addr} (X : K.In h) (G : h.Ns mainGlobals mg) (hfa : mg "law" = some (.ref fa))
    {od1 an1 od2 an2 od3 an3 od4 an4 od5 an5 od6 an6 od7 an7 od8 an8 od9 an9 od10 an10 od11 an11 od12 an12 od13 an13 od14 an14 od15 an15 od16 an16 : Option Addr} {sl1 sl2 sl3 sl4 sl5 sl6 sl7 sl8 sl9 sl10 sl11 sl12 sl13 sl14 sl15 sl16 : Array (Option Value)} {oc1 kV1 dc1 pm1 cd1 ct1 oc2 kV2 dc2 pm2 cd2 ct2 oc3 kV3 dc3 pm3 cd3 ct3 oc4 kV4 dc4 pm4 cd4 ct4 oc5 kV5 dc5 pm5 cd5 ct5 oc6 kV6 dc6 pm6 cd6 ct6 oc7 kV7 dc7 pm7 cd7 ct7 oc8 kV8 dc8 pm8 cd8 ct8 oc9 kV9 dc9 pm9 cd9 ct9 oc10 kV10 dc10 pm10 cd10 ct10 oc11 kV11 dc11 pm11 cd11 ct11 oc12 kV12 dc12 pm12 cd12 ct12 oc13 kV13 dc13 pm13 cd13 ct13 oc14 kV14 dc14 pm14 cd14 ct14 oc15 kV15 dc15 pm15 cd15 ct15 oc16 kV16 dc16 pm16 cd16 ct16 : Value}
    (a1 : PySem.W.nsIn K mainGlobals "steps_from" = some (some (.ref f1))) (l1 : K.lookup f1 = some ⟨oc1, od1, .func (PySem.W.fnOf "steps_from" "steps_from" (defArgs pStepsFrom) (defBody pStepsFrom) (defScope pStepsFrom) .none kV1 dc1 pm1 an1 cd1 ct1), sl1⟩) (c1 : PySem.W.codeIn K cd1 "steps_from" = true) (k1 : PySem.W.keepIn K (.ref f1) = true)
    (a2 : PySem.W.nsIn K mainGlobals "tree_from" = some (some (.ref f2))) (l2 : K.lookup f2 = some ⟨oc2, od2, .func (PySem.W.fnOf "tree_from" "tree_from" (defArgs pTreeFrom) (defBody pTreeFrom) (defScope pTreeFrom) .none kV2 dc2 pm2 an2 cd2 ct2), sl2⟩) (c2 : PySem.W.codeIn K cd2 "tree_from" = true) (k2 : PySem.W.keepIn K (.ref f2) = true)
    (a3 : PySem.W.nsIn K mainGlobals "trees_of" = some (some (.ref f3))) (l3 : K.lookup f3 = some ⟨oc3, od3, .func (PySem.W.fnOf "trees_of" "trees_of" (defArgs pTreesOf) (defBody pTreesOf) (defScope pTreesOf) .none kV3 dc3 pm3 an3 cd3 ct3), sl3⟩) (c3 : PySem.W.codeIn K cd3 "trees_of" = true) (k3 : PySem.W.keepIn K (.ref f3) = true)
    (a4 : PySem.W.nsIn K mainGlobals "across" = some (some (.ref f4))) (l4 : K.lookup f4 = some ⟨oc4, od4, .func (PySem.W.fnOf "across" "across" (defArgs pAcross) (defBody pAcross) (defScope pAcross) .none kV4 dc4 pm4 an4 cd4 ct4), sl4⟩) (c4 : PySem.W.codeIn K cd4 "across" = true) (k4 : PySem.W.keepIn K (.ref f4) = true)
    (a5 : PySem.W.nsIn K mainGlobals "open_ring" = some (some (.ref f5))) (l5 : K.lookup f5 = some ⟨oc5, od5, .func (PySem.W.fnOf "open_ring" "open_ring" (defArgs pOpenRing) (defBody pOpenRing) (defScope pOpenRing) .none kV5 dc5 pm5 an5 cd5 ct5), sl5⟩) (c5 : PySem.W.codeIn K cd5 "open_ring" = true) (k5 : PySem.W.keepIn K (.ref f5) = true)
    (a6 : PySem.W.nsIn K mainGlobals "_law_box" = some (some (.ref f6))) (l6 : K.lookup f6 = some ⟨oc6, od6, .func (PySem.W.fnOf "_law_box" "_law_box" (defArgs sBox) (defBody sBox) (defScope sBox) .none kV6 dc6 pm6 an6 cd6 ct6), sl6⟩) (c6 : PySem.W.codeIn K cd6 "_law_box" = true) (k6 : PySem.W.keepIn K (.ref f6) = true)
    (a7 : PySem.W.nsIn K mainGlobals "_law_take" = some (some (.ref f7))) (l7 : K.lookup f7 = some ⟨oc7, od7, .func (PySem.W.fnOf "_law_take" "_law_take" (defArgs sTake) (defBody sTake) (defScope sTake) .none kV7 dc7 pm7 an7 cd7 ct7), sl7⟩) (c7 : PySem.W.codeIn K cd7 "_law_take" = true) (k7 : PySem.W.keepIn K (.ref f7) = true)
    (a8 : PySem.W.nsIn K mainGlobals "_law_great" = some (some (.ref f8))) (l8 : K.lookup f8 = some ⟨oc8, od8, .func (PySem.W.fnOf "_law_great" "_law_great" (defArgs sGreat) (defBody sGreat) (defScope sGreat) .none kV8 dc8 pm8 an8 cd8 ct8), sl8⟩) (c8 : PySem.W.codeIn K cd8 "_law_great" = true) (k8 : PySem.W.keepIn K (.ref f8) = true)
    (a9 : PySem.W.nsIn K mainGlobals "_law_same" = some (some (.ref f9))) (l9 : K.lookup f9 = some ⟨oc9, od9, .func (PySem.W.fnOf "_law_same" "_law_same" (defArgs sSame) (defBody sSame) (defScope sSame) .none kV9 dc9 pm9 an9 cd9 ct9), sl9⟩) (c9 : PySem.W.codeIn K cd9 "_law_same" = true) (k9 : PySem.W.keepIn K (.ref f9) = true)
    (a10 : PySem.W.nsIn K mainGlobals "_law_numbers" = some (some (.ref f10))) (l10 : K.lookup f10 = some ⟨oc10, od10, .func (PySem.W.fnOf "_law_numbers" "_law_numbers" (defArgs sNumbers) (defBody sNumbers) (defScope sNumbers) .none kV10 dc10 pm10 an10 cd10 ct10), sl10⟩) (c10 : PySem.W.codeIn K cd10 "_law_numbers" = true) (k10 : PySem.W.keepIn K (.ref f10) = true)
    (a11 : PySem.W.nsIn K mainGlobals "_law_other_rise" = some (some (.ref f11))) (l11 : K.lookup f11 = some ⟨oc11, od11, .func (PySem.W.fnOf "_law_other_rise" "_law_other_rise" (defArgs sOther) (defBody sOther) (defScope sOther) .none kV11 dc11 pm11 an11 cd11 ct11), sl11⟩) (c11 : PySem.W.codeIn K cd11 "_law_other_rise" = true) (k11 : PySem.W.keepIn K (.ref f11) = true)
    (a12 : PySem.W.nsIn K mainGlobals "_law_world" = some (some (.ref f12))) (l12 : K.lookup f12 = some ⟨oc12, od12, .func (PySem.W.fnOf "_law_world" "_law_world" (defArgs sWorld) (defBody sWorld) (defScope sWorld) .none kV12 dc12 pm12 an12 cd12 ct12), sl12⟩) (c12 : PySem.W.codeIn K cd12 "_law_world" = true) (k12 : PySem.W.keepIn K (.ref f12) = true)
    (a13 : PySem.W.nsIn K mainGlobals "_law_left" = some (some (.ref f13))) (l13 : K.lookup f13 = some ⟨oc13, od13, .func (PySem.W.fnOf "_law_left" "_law_left" (defArgs sLeft) (defBody sLeft) (defScope sLeft) .none kV13 dc13 pm13 an13 cd13 ct13), sl13⟩) (c13 : PySem.W.codeIn K cd13 "_law_left" = true) (k13 : PySem.W.keepIn K (.ref f13) = true)
    (a14 : PySem.W.nsIn K mainGlobals "_law_settled" = some (some (.ref f14))) (l14 : K.lookup f14 = some ⟨oc14, od14, .func (PySem.W.fnOf "_law_settled" "_law_settled" (defArgs sSettled) (defBody sSettled) (defScope sSettled) .none kV14 dc14 pm14 an14 cd14 ct14), sl14⟩) (c14 : PySem.W.codeIn K cd14 "_law_settled" = true) (k14 : PySem.W.keepIn K (.ref f14) = true)
    (a15 : PySem.W.nsIn K mainGlobals "_law_walk" = some (some (.ref f15))) (l15 : K.lookup f15 = some ⟨oc15, od15, .func (PySem.W.fnOf "_law_walk" "_law_walk" (defArgs sWalk) (defBody sWalk) (defScope sWalk) .none kV15 dc15 pm15 an15 cd15 ct15), sl15⟩) (c15 : PySem.W.codeIn K cd15 "_law_walk" = true) (k15 : PySem.W.keepIn K (.ref f15) = true)
    (a16 : PySem.W.nsIn K mainGlobals "law" = some (some (.ref f16))) (l16 : K.lookup f16 = some ⟨oc16, od16, .func (PySem.W.fnOf "law" "law" (defArgs sLaw) (defBody sLaw) (defScope sLaw) .none kV16 dc16 pm16 an16 cd16 ct16), sl16⟩) (c16 : PySem.W.codeIn K cd16 "law" = true) (k16 : PySem.W.keepIn K (.ref f16) = true)
    (z1 : PySem.W.nsIn K mainGlobals "list" = some none) (z2 : PySem.W.nsIn K mainGlobals "len" = some none) (z3 : PySem.W.nsIn K mainGlobals "range" = some none) (z4 : PySem.W.nsIn K mainGlobals "all" = some none) (z5 : PySem.W.nsIn K mainGlobals "isinstance" = some none) (z6 : PySem.W.nsIn K mainGlobals "tuple" = some none) (z7 : PySem.W.nsIn K mainGlobals "bool" = some none) (z8 : PySem.W.nsIn K mainGlobals "int" = some none) (z9 : PySem.W.nsIn K mainGlobals "str" = some none) (z10 : PySem.W.nsIn K mainGlobals "sorted" = some none) (z11 : PySem.W.nsIn K mainGlobals "set" = some none) (z12 : PySem.W.nsIn K mainGlobals "zip" = some none) (z13 : PySem.W.nsIn K mainGlobals "enumerate" = some none) (z14 : PySem.W.nsIn K mainGlobals "any" = some none) (z15 : PySem.W.nsIn K mainGlobals "min" = some none) :
    ∃ fd : FuncData, (∀ (s : Shared) (v : Value), BindsTo s fd ⟨[v], []⟩ [("_law_script", v)]) ∧ ∀ base : Heap, K.In base → base.Ns mainGlobals mg → FnOk l.prog w K mg base CX0 5 fa fd ["_law_script"] (spLaw K) := by
  have e := hfa.symm.trans (PySem.W.mg_of X G a16)
  cases e
  have Z1 := PySem.W.mg_none_of X G z1
  have Z2 := PySem.W.mg_none_of X G z2
  have Z3 := PySem.W.mg_none_of X G z3
  have Z4 := PySem.W.mg_none_of X G z4
  have Z5 := PySem.W.mg_none_of X G z5
  have Z6 := PySem.W.mg_none_of X G z6
  have Z7 := PySem.W.mg_none_of X G z7
  have Z8 := PySem.W.mg_none_of X G z8
  have Z9 := PySem.W.mg_none_of X G z9
  have Z10 := PySem.W.mg_none_of X G z10
  have Z11 := PySem.W.mg_none_of X G z11
  have Z12 := PySem.W.mg_none_of X G z12
  have Z13 := PySem.W.mg_none_of X G z13
  have Z14 := PySem.W.mg_none_of X G z14
  have Z15 := PySem.W.mg_none_of X G z15
  have F1 := fun_mk (st := pStepsFrom) l1 c1 k1
  have b1 := F1.binds (ps := ["size", "runs", "struck"]) fun _ _ _ _ _ _ us hl => match us, hl with | [_, _, _], _ => rfl
  have m1 := PySem.W.mg_of X G a1
  have F2 := fun_mk (st := pTreeFrom) l2 c2 k2
  have b2 := F2.binds (ps := ["start", "steps"]) fun _ _ _ _ _ _ us hl => match us, hl with | [_, _], _ => rfl
  have m2 := PySem.W.mg_of X G a2
  have F3 := fun_mk (st := pTreesOf) l3 c3 k3
  have b3 := F3.binds (ps := ["size", "runs", "struck"]) fun _ _ _ _ _ _ us hl => match us, hl with | [_, _, _], _ => rfl
  have m3 := PySem.W.mg_of X G a3
  have F4 := fun_mk (st := pAcross) l4 c4 k4
  have b4 := F4.binds (ps := ["first", "second"]) fun _ _ _ _ _ _ us hl => match us, hl with | [_, _], _ => rfl
  have m4 := PySem.W.mg_of X G a4
  have F5 := fun_mk (st := pOpenRing) l5 c5 k5
  have b5 := F5.binds (ps := ["size", "runs", "struck"]) fun _ _ _ _ _ _ us hl => match us, hl with | [_, _, _], _ => rfl
  have m5 := PySem.W.mg_of X G a5
  have F6 := fun_mk (st := sBox) l6 c6 k6
  have b6 := F6.binds (ps := ["_law_script"]) fun _ _ _ _ _ _ us hl => match us, hl with | [_], _ => rfl
  have m6 := PySem.W.mg_of X G a6
  have F7 := fun_mk (st := sTake) l7 c7 k7
  have b7 := F7.binds (ps := ["_law_box_here", "_law_many"]) fun _ _ _ _ _ _ us hl => match us, hl with | [_, _], _ => rfl
  have m7 := PySem.W.mg_of X G a7
  have F8 := fun_mk (st := sGreat) l8 c8 k8
  have b8 := F8.binds (ps := ["_law_box_here"]) fun _ _ _ _ _ _ us hl => match us, hl with | [_], _ => rfl
  have m8 := PySem.W.mg_of X G a8
  have F9 := fun_mk (st := sSame) l9 c9 k9
  have b9 := F9.binds (ps := ["_law_found", "_law_due"]) fun _ _ _ _ _ _ us hl => match us, hl with | [_, _], _ => rfl
  have m9 := PySem.W.mg_of X G a9
  have F10 := fun_mk (st := sNumbers) l10 c10 k10
  have b10 := F10.binds (ps := ["_law_found", "_law_size"]) fun _ _ _ _ _ _ us hl => match us, hl with | [_, _], _ => rfl
  have m10 := PySem.W.mg_of X G a10
  have F11 := fun_mk (st := sOther) l11 c11 k11
  have b11 := F11.binds (ps := ["_law_box_here", "_law_rise"]) fun _ _ _ _ _ _ us hl => match us, hl with | [_, _], _ => rfl
  have m11 := PySem.W.mg_of X G a11
  have F12 := fun_mk (st := sWorld) l12 c12 k12
  have b12 := F12.binds (ps := ["_law_box_here", "_law_most_marks", "_law_most_hands", "_law_most_runs"]) fun _ _ _ _ _ _ us hl => match us, hl with | [_, _, _, _], _ => rfl
  have m12 := PySem.W.mg_of X G a12
  have F13 := fun_mk (st := sLeft) l13 c13 k13
  have b13 := F13.binds (ps := ["_law_runs", "_law_struck"]) fun _ _ _ _ _ _ us hl => match us, hl with | [_, _], _ => rfl
  have m13 := PySem.W.mg_of X G a13
  have F14 := fun_mk (st := sSettled) l14 c14 k14
  have b14 := F14.binds (ps := ["_law_size", "_law_runs"]) fun _ _ _ _ _ _ us hl => match us, hl with | [_, _], _ => rfl
  have m14 := PySem.W.mg_of X G a14
  have F15 := fun_mk (st := sWalk) l15 c15 k15
  have b15 := F15.binds (ps := ["_law_runs", "_law_mark", "_law_line"]) fun _ _ _ _ _ _ us hl => match us, hl with | [_, _, _], _ => rfl
  have m15 := PySem.W.mg_of X G a15
  have F16 := fun_mk (st := sLaw) l16 c16 k16
  refine ⟨PySem.W.fnOf "law" "law" (defArgs sLaw) (defBody sLaw) (defScope sLaw) .none kV16 dc16 pm16 an16 cd16 ct16, fun s v => .of_eq rfl, fun base _ _ => ?_⟩
  have T : Txt K mg := ⟨Z1, Z2, Z3⟩
  have T2 : Txt2 mg := ⟨Z4, Z5, Z6, Z7, Z8, Z9, Z10, Z11⟩
  have cF := Cal.of F1 (ok_steps (P := l.prog) (w := w) (base := base) F1 T Z13) m1 b1
  have cR := Cal.of F2 (ok_tree (P := l.prog) (w := w) (mg := mg) (base := base) F2) m2 b2
  have cV := Cal.of F3 (ok_trees F3 T cF cR) m3 b3
  have cA := Cal.of F4 (ok_across (P := l.prog) (w := w) (base := base) F4 T Z15) m4 b4
  have cM := Cal.of F5 (ok_ring F5 Z13 cV cA) m5 b5
  have cB := Cal.of F6 (ok_box (P := l.prog) (w := w) (base := base) F6 T) m6 b6
  have cT := Cal.of F7 (ok_take (P := l.prog) (w := w) (base := base) F7 T) m7 b7
  have cG := Cal.of F8 (ok_great F8 T cT) m8 b8
  have cS := cal_same (P := l.prog) (w := w) (base := base) F9 T T2 Z12 m9 b9
  have cU := Cal.of F10 (ok_numbers (P := l.prog) (w := w) (base := base) F10 T T2) m10 b10
  have cO := Cal.of F11 (ok_other F11 T cT cG) m11 b11
  have cW := Cal.of F12 (ok_world F12 T T2 cT cO) m12 b12
  have cL := Cal.of F13 (ok_left (P := l.prog) (w := w) (mg := mg) (base := base) F13) m13 b13
  have cX := Cal.of F14 (ok_settled (P := l.prog) (w := w) (base := base) F14 T) m14 b14
  have cK := Cal.of F15 (ok_walk (P := l.prog) (w := w) (base := base) F15 T T2) m15 b15
  exact ok_law F16 T T2 Z14 cB cT cW cL (cS 2) cX cU cK cM
theorem walk {l : PySem.W.OpenLaw} {q : Program} {loose : List Str} {XP : (Str → Option Value) → Heap → Prop} {YP : PySem.World → Heap → Prop} {d : DefRec} {K : Params → PySem.W.Frag} (hn : l.most = some 63) (hdf : d.params.defaults = [])
    (hY : ∀ (w : PySem.World) (h : Heap), YP w h → (K w.params).In h)
    (F : ∀ (w : PySem.World) (mg : Str → Option Value) (fa : Addr) (h : Heap), (K w.params).In h → h.Ns mainGlobals mg → mg d.name = some (.ref fa) →
      ∃ fd : FuncData, (∀ (s : Shared) (u : Value), BindsTo s fd ⟨[u], []⟩ [("_law_script", u)]) ∧ ∀ base : Heap, (K w.params).In base → base.Ns mainGlobals mg → FnOk l.prog w (K w.params) mg base CX0 5 fa fd ["_law_script"] (spLaw (K w.params))) :
    PySem.W.WalkO q loose XP YP l.row.toRowW d [] (fun f vs => PySem.call f vs) :=
  L2.walk_of (n := 63) (k := 5) (x := "_law_script") (CX := fun _ => CX0) (sp := fun w => spLaw (K w.params)) hn (by decide) hdf ⟨rfl, by decide, by decide⟩ hY F (fun _ _ a ns hl _ hS => ⟨a, ns, rfl, hS, hl, fun _ => rfl⟩) fun _ _ _ _ _ z => z
end Fen
open PySem PySem.W PyProof.Rows
set_option maxRecDepth 100000 in
set_option maxHeartbeats 0 in
theorem PySem.Challenge.cw_fenlevel_k07_whole_an_open_ring_or_heigh_holds : PySem.Challenge.rw_fenlevel_k07_whole_an_open_ring_or_heigh.Holds := by
  w_on; o_law; k_head; (case hw => w_witness2)
  k_fill
  refine Fen.walk (l := PySem.Challenge.rw_fenlevel_k07_whole_an_open_ring_or_heigh) rfl rfl (fun w h Y => PySem.W.kIn_of Y) ?F
  case F =>
    intro w mg fa h KX G hmg
    refine' Fen.all_mk KX G hmg ?a1 ?l1 ?c1 ?k1 ?a2 ?l2 ?c2 ?k2 ?a3 ?l3 ?c3 ?k3 ?a4 ?l4 ?c4 ?k4 ?a5 ?l5 ?c5 ?k5 ?a6 ?l6 ?c6 ?k6 ?a7 ?l7 ?c7 ?k7 ?a8 ?l8 ?c8 ?k8 ?a9 ?l9 ?c9 ?k9 ?a10 ?l10 ?c10 ?k10 ?a11 ?l11 ?c11 ?k11 ?a12 ?l12 ?c12 ?k12 ?a13 ?l13 ?c13 ?k13 ?a14 ?l14 ?c14 ?k14 ?a15 ?l15 ?c15 ?k15 ?a16 ?l16 ?c16 ?k16 ?z1 ?z2 ?z3 ?z4 ?z5 ?z6 ?z7 ?z8 ?z9 ?z10 ?z11 ?z12 ?z13 ?z14 ?z15
    (case a1 => k_is); (case l1 => k_is); (case c1 => k_is); (case k1 => k_is); (case a2 => k_is); (case l2 => k_is)
    (case c2 => k_is); (case k2 => k_is); (case a3 => k_is); (case l3 => k_is); (case c3 => k_is); (case k3 => k_is)
    (case a4 => k_is); (case l4 => k_is); (case c4 => k_is); (case k4 => k_is); (case a5 => k_is); (case l5 => k_is)
    (case c5 => k_is); (case k5 => k_is); (case a6 => k_is); (case l6 => k_is); (case c6 => k_is); (case k6 => k_is)
    (case a7 => k_is); (case l7 => k_is); (case c7 => k_is); (case k7 => k_is); (case a8 => k_is); (case l8 => k_is)
    (case c8 => k_is); (case k8 => k_is); (case a9 => k_is); (case l9 => k_is); (case c9 => k_is); (case k9 => k_is)
    (case a10 => k_is); (case l10 => k_is); (case c10 => k_is); (case k10 => k_is); (case a11 => k_is); (case l11 => k_is)
    (case c11 => k_is); (case k11 => k_is); (case a12 => k_is); (case l12 => k_is); (case c12 => k_is); (case k12 => k_is)
    (case a13 => k_is); (case l13 => k_is); (case c13 => k_is); (case k13 => k_is); (case a14 => k_is); (case l14 => k_is)
    (case c14 => k_is); (case k14 => k_is); (case a15 => k_is); (case l15 => k_is); (case c15 => k_is); (case k15 => k_is)
    (case a16 => k_is); (case l16 => k_is); (case c16 => k_is); (case k16 => k_is); (case z1 => k_is); (case z2 => k_is)
    (case z3 => k_is); (case z4 => k_is); (case z5 => k_is); (case z6 => k_is); (case z7 => k_is); (case z8 => k_is)
    (case z9 => k_is); (case z10 => k_is); (case z11 => k_is); (case z12 => k_is); (case z13 => k_is); (case z14 => k_is)
    (case z15 => k_is)

